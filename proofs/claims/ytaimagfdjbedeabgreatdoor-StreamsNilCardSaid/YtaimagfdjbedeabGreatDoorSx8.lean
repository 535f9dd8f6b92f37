/-
  Symbolic runs of closed calls: part 8.
-/
import Derived.Orders
import Derived.Defers
import Derived.Below
import Derived.Laws.Cells
import Derived.Laws.IdiomCopy
import Derived.Laws.Strings
import Derived.Laws.StructEq
namespace Go.Sx

inductive AV where
  | bool (b : Bool)
  | int (k : IntKind) (n : Int)
  | str (s : List Nat)
  | ptr (a : Option (Nat × Nat))
  | slice (a : Option (Nat × Nat)) (len cap z : Nat)
  | map (r : Option Nat)
  | fn (f : Nat) (first cap : List AV)
  | nilFn
  | iface (t : Nat) (v : AV)
  | nilIface
  | agg (l : List AV)
  | tuple (l : List AV)

inductive T (α : Type) where
  | leaf
  | node (v : Option α) (l r : T α)

inductive AO where
  | row (cells : List AV)
  | mp (es : List (AV × AV × Nat)) (clock : Nat)

abbrev H := T AO
abbrev Log := List (Nat × Option Nat × Bool)
inductive Rs (α : Type) where
  | fail
  | ok (a : α) (c : Nat) (h : H) (l : Log)
abbrev M (α : Type) := Nat → H → Rs α

section
variable {α β : Type}
noncomputable def T.get (t : T α) : Nat → Option α := T.rec (motive := fun _ => Nat → Option α) (fun _ => none)
  (fun v _ _ gl gr n => Bool.rec (Bool.rec (gr (Nat.pred (Nat.div n 2))) (gl (Nat.div n 2)) (Nat.beq (Nat.mod n 2) 1)) v (Nat.beq n 0)) t
noncomputable def T.set1 (x : Option α) (f : Nat) : Nat → T α := Nat.rec (motive := fun _ => Nat → T α) (fun _ => .leaf)
  (fun _ g n => Bool.rec (Bool.rec (.node none .leaf (g (Nat.pred (Nat.div n 2)))) (.node none (g (Nat.div n 2)) .leaf) (Nat.beq (Nat.mod n 2) 1)) (.node x .leaf .leaf) (Nat.beq n 0)) f
noncomputable def T.set (t : T α) (n : Nat) (x : Option α) : T α := T.rec (motive := fun _ => Nat → T α) (fun n => T.set1 x (Nat.succ n) n)
  (fun v l r gl gr n => Bool.rec (Bool.rec (.node v l (gr (Nat.pred (Nat.div n 2)))) (.node v (gl (Nat.div n 2)) r) (Nat.beq (Nat.mod n 2) 1)) (.node x l r) (Nat.beq n 0)) t n

noncomputable def ifB (b : Bool) (x y : α) : α := Bool.rec y x b
noncomputable def ifS (d : β) (k : α → β) (o : Option α) : β := Option.rec d k o
noncomputable def ifC (d : β) (k : α → List α → β) (l : List α) : β := List.rec d (fun a t _ => k a t) l
noncomputable def onBool (d : α) (k : Bool → α) (v : AV) : α :=
  AV.rec (motive_1 := fun _ => α) (motive_2 := fun _ => Unit) k (fun _ _ => d) (fun _ => d) (fun _ => d) (fun _ _ _ _ => d) (fun _ => d) (fun _ _ _ _ _ => d) d (fun _ _ _ => d) d (fun _ _ => d) (fun _ _ => d) () (fun _ _ _ _ => ()) v
noncomputable def onInt (d : α) (k : IntKind → Int → α) (v : AV) : α :=
  AV.rec (motive_1 := fun _ => α) (motive_2 := fun _ => Unit) (fun _ => d) k (fun _ => d) (fun _ => d) (fun _ _ _ _ => d) (fun _ => d) (fun _ _ _ _ _ => d) d (fun _ _ _ => d) d (fun _ _ => d) (fun _ _ => d) () (fun _ _ _ _ => ()) v
noncomputable def onStr (d : α) (k : List Nat → α) (v : AV) : α :=
  AV.rec (motive_1 := fun _ => α) (motive_2 := fun _ => Unit) (fun _ => d) (fun _ _ => d) k (fun _ => d) (fun _ _ _ _ => d) (fun _ => d) (fun _ _ _ _ _ => d) d (fun _ _ _ => d) d (fun _ _ => d) (fun _ _ => d) () (fun _ _ _ _ => ()) v
noncomputable def onPtr (d : α) (k : Option (Nat × Nat) → α) (v : AV) : α :=
  AV.rec (motive_1 := fun _ => α) (motive_2 := fun _ => Unit) (fun _ => d) (fun _ _ => d) (fun _ => d) k (fun _ _ _ _ => d) (fun _ => d) (fun _ _ _ _ _ => d) d (fun _ _ _ => d) d (fun _ _ => d) (fun _ _ => d) () (fun _ _ _ _ => ()) v
noncomputable def onSlice (d : α) (k : Option (Nat × Nat) → Nat → Nat → Nat → α) (v : AV) : α :=
  AV.rec (motive_1 := fun _ => α) (motive_2 := fun _ => Unit) (fun _ => d) (fun _ _ => d) (fun _ => d) (fun _ => d) k (fun _ => d) (fun _ _ _ _ _ => d) d (fun _ _ _ => d) d (fun _ _ => d) (fun _ _ => d) () (fun _ _ _ _ => ()) v
noncomputable def onMap (d : α) (k : Option Nat → α) (v : AV) : α :=
  AV.rec (motive_1 := fun _ => α) (motive_2 := fun _ => Unit) (fun _ => d) (fun _ _ => d) (fun _ => d) (fun _ => d) (fun _ _ _ _ => d) k (fun _ _ _ _ _ => d) d (fun _ _ _ => d) d (fun _ _ => d) (fun _ _ => d) () (fun _ _ _ _ => ()) v
noncomputable def onFn (d : α) (k : Nat → List AV → List AV → α) (v : AV) : α :=
  AV.rec (motive_1 := fun _ => α) (motive_2 := fun _ => Unit) (fun _ => d) (fun _ _ => d) (fun _ => d) (fun _ => d) (fun _ _ _ _ => d) (fun _ => d) (fun f a b _ _ => k f a b) d (fun _ _ _ => d) d (fun _ _ => d) (fun _ _ => d) () (fun _ _ _ _ => ()) v
noncomputable def onAgg (d : α) (k : List AV → α) (v : AV) : α :=
  AV.rec (motive_1 := fun _ => α) (motive_2 := fun _ => Unit) (fun _ => d) (fun _ _ => d) (fun _ => d) (fun _ => d) (fun _ _ _ _ => d) (fun _ => d) (fun _ _ _ _ _ => d) d (fun _ _ _ => d) d (fun l _ => k l) (fun _ _ => d) () (fun _ _ _ _ => ()) v
noncomputable def onTuple (d : α) (k : List AV → α) (v : AV) : α :=
  AV.rec (motive_1 := fun _ => α) (motive_2 := fun _ => Unit) (fun _ => d) (fun _ _ => d) (fun _ => d) (fun _ => d) (fun _ _ _ _ => d) (fun _ => d) (fun _ _ _ _ _ => d) d (fun _ _ _ => d) d (fun _ _ => d) (fun l _ => k l) () (fun _ _ _ _ => ()) v
noncomputable def onIface (d : α) (n : α) (k : Nat → AV → α) (v : AV) : α :=
  AV.rec (motive_1 := fun _ => α) (motive_2 := fun _ => Unit) (fun _ => d) (fun _ _ => d) (fun _ => d) (fun _ => d) (fun _ _ _ _ => d) (fun _ => d) (fun _ _ _ _ _ => d) d (fun t v _ => k t v) n (fun _ _ => d) (fun _ _ => d) () (fun _ _ _ _ => ()) v
noncomputable def onNat (d : α) (k : Nat → α) (n : Int) : α := Int.rec k (fun _ => d) n

noncomputable def M.pure (a : α) : M α := fun c h => .ok a c h []
noncomputable def Rs.andThen (k : α → M β) (r : Rs α) : Rs β :=
  Rs.rec (motive := fun _ => Rs β) .fail (fun a c h l => Rs.rec (motive := fun _ => Rs β) .fail (fun b c h l2 => .ok b c h (List.append l l2)) (k a c h)) r
noncomputable def M.bind (m : M α) (k : α → M β) : M β := fun c h => Rs.andThen k (m c h)
noncomputable def M.map (f : α → β) (m : M α) : M β := fun c h => Rs.rec (motive := fun _ => Rs β) .fail (fun a c h l => .ok (f a) c h l) (m c h)
noncomputable def fail : M α := fun _ _ => .fail
noncomputable def ofOpt (o : Option α) : M α := ifS fail M.pure o
end
noncomputable def len {α : Type} (l : List α) : Nat := List.rec 0 (fun _ _ n => Nat.succ n) l
noncomputable def newO (o : AO) : M Nat := fun c h => .ok c (Nat.succ c) (h.set c (some o)) []
noncomputable def AO.row? (o : AO) : Option (List AV) := AO.rec (fun cs => some cs) (fun _ _ => none) o
noncomputable def AO.map? (o : AO) : Option (List (AV × AV × Nat) × Nat) := AO.rec (fun _ => none) (fun es k => some (es, k)) o
noncomputable def rowOf (h : H) (n : Nat) : Option (List AV) := ifS none AO.row? (h.get n)
noncomputable def getMap (n : Nat) : M (List (AV × AV × Nat) × Nat) := fun c h =>
  ifB (Nat.blt n c) (ifS .fail (fun r => .ok r c h [(n, none, false)]) (ifS none AO.map? (h.get n))) .fail
noncomputable def setMap (n : Nat) (r : List (AV × AV × Nat) × Nat) : M Unit := fun c h => ifB (Nat.blt n c) (ifS .fail (fun _ => .ok () c (h.set n (some (.mp r.1 r.2))) [(n, none, true)]) (h.get n)) .fail
noncomputable def dropN (n : Nat) : List AV → List AV := Nat.rec (motive := fun _ => List AV → List AV) (fun l => l) (fun _ g l => ifC [] (fun _ t => g t) l) n
noncomputable def takeN (n : Nat) : List AV → Option (List AV) :=
  Nat.rec (motive := fun _ => List AV → Option (List AV)) (fun _ => some []) (fun _ g l => ifC none (fun a t => ifS none (fun r => some (a :: r)) (g t)) l) n
noncomputable def locs (b : Bool) (n : Nat) (k : Nat) : Nat → Log :=
  Nat.rec (motive := fun _ => Nat → Log) (fun _ => []) (fun _ g off => (n, some off, b) :: g (Nat.succ off)) k
noncomputable def load1 (n off : Nat) : M AV := fun c h => ifB (Nat.blt n c) (ifS .fail (fun cs => ifC .fail (fun v _ => .ok v c h [(n, some off, false)]) (dropN off cs)) (rowOf h n)) .fail
noncomputable def loadR (n off k : Nat) : M (List AV) := fun c h => ifB (Nat.blt n c) (ifS .fail (fun cs => ifS .fail (fun l => .ok l c h (locs false n k off)) (takeN k (dropN off cs))) (rowOf h n)) .fail
noncomputable def loadN (n off k : Nat) : M (List AV) := ifB (Nat.beq k 0) (M.pure []) (loadR n off k)
noncomputable def putL (vs : List AV) : List AV → Option (List AV) :=
  List.rec (motive := fun _ => List AV → Option (List AV)) some (fun v _ g cs => ifC none (fun _ t => ifS none (fun r => some (v :: r)) (g t)) cs) vs
noncomputable def putAt (vs : List AV) (n : Nat) : List AV → Option (List AV) :=
  Nat.rec (motive := fun _ => List AV → Option (List AV)) (putL vs) (fun _ g cs => ifC none (fun x t => ifS none (fun r => some (x :: r)) (g t)) cs) n
noncomputable def scal (v : AV) : Bool := onAgg (onTuple true (fun _ => false) v) (fun _ => false) v
noncomputable def scals (l : List AV) : Bool := List.rec true (fun v _ r => ifB (scal v) r false) l
noncomputable def storeR (n off : Nat) (vs : List AV) : M Unit := fun c h =>
  ifB (Nat.blt n c) (ifS .fail (fun cs => ifS .fail (fun r => ifB (scals vs) (.ok () c (h.set n (some (.row r))) (locs true n (len vs) off)) .fail) (putAt vs off cs)) (rowOf h n)) .fail
noncomputable def storeN (n off : Nat) (vs : List AV) : M Unit := ifC (M.pure ()) (fun _ _ => storeR n off vs) vs
noncomputable def killRow (n off k : Nat) : M (List AV) := fun c h =>
  ifB (Nat.blt n c) (ifS .fail (fun cs => ifS .fail (fun l => .ok l c (h.set n none) [(n, none, true)]) (takeN k (dropN off cs))) (rowOf h n)) .fail

inductive Opd where
  | tmp (t : Nat)
  | const (v : AV)
inductive Env where
  | base (t : T AV)
  | put (t : Nat) (v : AV) (e : Env)
noncomputable def undefA : AV := .tuple []
noncomputable def Env.get (t : Nat) (e : Env) : AV := Env.rec (motive := fun _ => AV) (fun b => ifS undefA (fun v => v) (b.get t)) (fun u v _ g => Bool.rec g v (Nat.beq u t)) e
noncomputable def Env.flush (e : Env) : T AV := Env.rec (motive := fun _ => T AV) (fun b => b) (fun u v _ g => g.set u (some v)) e
noncomputable def ev (e : Env) (x : Opd) : AV := Opd.rec (fun t => e.get t) (fun v => v) x
noncomputable def evs (e : Env) (l : List Opd) : List AV := List.rec [] (fun x _ r => ev e x :: r) l
structure St where
  env : Env
  defers : List (Nat × List AV)
abbrev Ctx := Nat → List AV → M AV
abbrev Ev := Ctx → Env → M AV
noncomputable def AV.cells (v : AV) : List AV := onAgg [v] (fun l => l) v

noncomputable def oMove (x : Opd) : Ev := fun _ e => M.pure (ev e x)
noncomputable def oPick (c a b : Opd) : Ev := fun _ e => onBool fail (fun t => M.pure (ifB t (ev e a) (ev e b))) (ev e c)
noncomputable def mkPtr (n : Nat) : AV := .ptr (some (n, 0))
noncomputable def oAlloc (z : List AV) : Ev := fun _ _ => M.map mkPtr (newO (.row z))
noncomputable def oBox (x : Opd) : Ev := fun _ e => M.map mkPtr (newO (.row (ev e x).cells))
noncomputable def fillA (e : Env) (ps : List (Nat × Nat × Opd)) : List AV → Option (List AV) :=
  List.rec (motive := fun _ => List AV → Option (List AV)) some (fun p _ g cs => ifB (Nat.beq (ev e p.2.2).cells.length p.2.1) (ifS none g (putAt (ev e p.2.2).cells p.1 cs)) none) ps
noncomputable def oBuild (z : List AV) (ps : List (Nat × Nat × Opd)) : Ev := fun _ e => ifS fail (fun l => M.pure (.agg l)) (fillA e ps z)
noncomputable def oBuildSlice (z1 : Nat) (z : List AV) (n : Nat) (ps : List (Nat × Nat × Opd)) : Ev := fun _ e =>
  ifS fail (fun l => M.map (fun k => .slice (some (k, 0)) n n z1) (newO (.row l))) (fillA e ps z)
noncomputable def load1At (v : AV) : M AV := onPtr fail (ifS fail fun a => load1 a.1 a.2) v
noncomputable def loadNAt (n : Nat) (v : AV) : M AV := onPtr fail (ifS fail fun a => M.map .agg (loadN a.1 a.2 n)) v
noncomputable def oLoad1 (a : Opd) : Ev := fun _ e => load1At (ev e a)
noncomputable def oLoadN (n : Nat) (a : Opd) : Ev := fun _ e => loadNAt n (ev e a)
noncomputable def oStore (n : Nat) (a x : Opd) : Ev := fun _ e =>
  ifB (Nat.beq (ev e x).cells.length n) (onPtr fail (ifS fail fun a => M.map (fun _ => undefA) (storeN a.1 a.2 (ev e x).cells)) (ev e a)) fail
noncomputable def oNilCheck (x : Opd) : Ev := fun _ e => onPtr fail (ifS fail fun a => M.pure (.ptr (some a))) (ev e x)
noncomputable def wrapA (k : IntKind) (n : Int) : Int := Int.rec (fun m => ifB (Nat.blt m 128) (.ofNat m) (k.wrap (.ofNat m))) (fun m => k.wrap (.negSucc m)) n
noncomputable def ltS (x : List Nat) : List Nat → Bool := List.rec (motive := fun _ => List Nat → Bool) (ifC false fun _ _ => true)
  (fun a _ g y => ifC false (fun b t => ifB (Nat.blt a b) true (ifB (Nat.beq a b) (g t) false)) y) x
noncomputable def eqS (x : List Nat) : List Nat → Bool := List.rec (motive := fun _ => List Nat → Bool) (ifC true fun _ _ => false)
  (fun a _ g y => ifC false (fun b t => ifB (Nat.beq a b) (g t) false) y) x
noncomputable def eqI (a b : Int) : Bool := Int.rec (fun m => Int.rec (fun n => Nat.beq m n) (fun _ => false) b) (fun m => Int.rec (fun _ => false) (fun n => Nat.beq m n) b) a
noncomputable def ltI (a b : Int) : Bool := Int.rec (fun m => Int.rec (fun n => Nat.blt m n) (fun _ => false) b) (fun m => Int.rec (fun _ => true) (fun n => Nat.blt n m) b) a
noncomputable def eqP (a b : Option (Nat × Nat)) : Option Bool := ifS (some (ifS true (fun _ => false) b)) (fun a => ifS (some false) (fun b => ifB (Nat.beq a.1 b.1) (some (Nat.beq a.2 b.2)) none) b) a
noncomputable def nilEq {α : Type} (a b : Option α) : Option Bool := ifS (some (ifS true (fun _ => false) b)) (fun _ => ifS (some false) (fun _ => none) b) a
noncomputable def kindN (k : IntKind) : Nat := IntKind.rec 0 1 2 3 4 5 6 7 k
noncomputable def shBin (op : BinOp) (k : IntKind) (a b : Int) : Option AV :=
  BinOp.rec none none none none none none none none (ifB (ltI b 0) none (some (.int k (k.wrap (a * 2 ^ (min b.toNat k.bits)))))) (ifB (ltI b 0) none (some (.int k (a.fdiv (2 ^ (min b.toNat k.bits)))))) none none none none none none none op
noncomputable def intBin (op : BinOp) (k : IntKind) (a b : Int) : Option AV :=
  BinOp.rec (some (.int k (wrapA k (Int.add a b)))) (some (.int k (wrapA k (Int.sub a b)))) (some (.int k (wrapA k (Int.mul a b))))
    (ifB (eqI b 0) none (some (.int k (k.wrap (a.tdiv b))))) (ifB (eqI b 0) none (some (.int k (a.tmod b))))
    (some (.int k (k.wrap (BitVec.ofInt k.bits a &&& BitVec.ofInt k.bits b).toNat))) (some (.int k (k.wrap (BitVec.ofInt k.bits a ||| BitVec.ofInt k.bits b).toNat))) none
    (ifB (ltI b 0) none (some (.int k (k.wrap (a * 2 ^ (min b.toNat k.bits)))))) (ifB (ltI b 0) none (some (.int k (a.fdiv (2 ^ (min b.toNat k.bits)))))) none
    (some (.bool (eqI a b))) (some (.bool (not (eqI a b)))) (some (.bool (ltI a b))) (some (.bool (not (ltI b a)))) (some (.bool (ltI b a))) (some (.bool (not (ltI a b)))) op
noncomputable def strBin (op : BinOp) (a b : List Nat) : Option AV :=
  BinOp.rec (ifB (Nat.ble (Nat.add (len a) (len b)) 1048576) (some (.str (List.append a b))) none) none none none none none none none none none none (some (.bool (eqS a b))) (some (.bool (not (eqS a b)))) (some (.bool (ltS a b)))
    (some (.bool (ifB (ltS a b) true (eqS a b)))) (some (.bool (not (ifB (ltS a b) true (eqS a b))))) (some (.bool (not (ltS a b)))) op
noncomputable def bin1 (op : BinOp) (x y : AV) : Option AV :=
  onInt (onStr none (fun a => onStr none (fun b => strBin op a b) y) x) (fun k a => onInt none (fun j b => ifB (Nat.beq (kindN k) (kindN j)) (intBin op k a b) (shBin op k a b)) y) x
noncomputable def oBin (op : BinOp) (x y : Opd) : Ev := fun _ e => ofOpt (bin1 op (ev e x) (ev e y))
inductive FK where
  | int
  | str
  | bool
noncomputable def eqCell (k : FK) (x y : AV) : Option Bool :=
  FK.rec (onInt none (fun i a => onInt none (fun j b => ifB (Nat.beq (kindN i) (kindN j)) (some (eqI a b)) none) y) x) (onStr none (fun a => onStr none (fun b => some (eqS a b)) y) x)
    (onBool none (fun a => onBool none (fun b => some (ifB a b (not b))) y) x) k
noncomputable def eqPtr (x y : AV) : Option Bool := onPtr none (fun a => onPtr none (eqP a) y) x
noncomputable def eqSl (x y : AV) : Option Bool := onSlice none (fun a _ _ _ => onSlice none (fun b _ _ _ => nilEq a b) y) x
noncomputable def eqMap (x y : AV) : Option Bool := onMap none (fun a => onMap none (nilEq a) y) x
noncomputable def nilF (v : AV) : Option Bool :=
  AV.rec (motive_1 := fun _ => Option Bool) (motive_2 := fun _ => Unit) (fun _ => none) (fun _ _ => none) (fun _ => none) (fun _ => none) (fun _ _ _ _ => none) (fun _ => none) (fun _ _ _ _ _ => some false) (some true) (fun _ _ _ => none) none (fun _ _ => none) (fun _ _ => none) () (fun _ _ _ _ => ()) v
noncomputable def nilI (v : AV) : Option Bool := onIface none (some true) (fun _ _ => some false) v
noncomputable def nil2 (a b : Option Bool) : Option Bool := ifS none (fun a => ifS none (fun b => ifB a (some b) (ifB b (some false) none)) b) a
noncomputable def eqFn (x y : AV) : Option Bool := nil2 (nilF x) (nilF y)
noncomputable def eqIf (x y : AV) : Option Bool := nil2 (nilI x) (nilI y)
noncomputable def eqFs (ks : List (Nat × FK)) (x y : AV) : Option Bool := onAgg none (fun a => onAgg none (fun b => List.rec (some true) (fun k _ r =>
  ifC none (fun p _ => ifC none (fun q _ => ifS none (fun t => ifB t r (some false)) (eqCell k.2 p q)) (dropN k.1 b)) (dropN k.1 a)) ks) y) x
noncomputable def oEq (f : AV → AV → Option Bool) (pos : Bool) (x y : Opd) : Ev := fun _ e => ifS fail (fun b => M.pure (.bool (ifB pos b (not b)))) (f (ev e x) (ev e y))
noncomputable def oNot (x : Opd) : Ev := fun _ e => onBool fail (fun b => M.pure (.bool (not b))) (ev e x)
noncomputable def oNeg (x : Opd) : Ev := fun _ e => onInt fail (fun k n => M.pure (.int k (wrapA k (Int.sub 0 n)))) (ev e x)
noncomputable def oConv (k : IntKind) (x : Opd) : Ev := fun _ e => onInt fail (fun _ n => M.pure (.int k (wrapA k n))) (ev e x)
noncomputable def oSame (x : Opd) : Ev := fun _ e => onStr fail (fun s => M.pure (.str s)) (ev e x)
noncomputable def oChr (x : Opd) : Ev := fun _ e => onInt fail (fun _ n => onNat fail (fun n => ifB (Nat.blt n 128) (M.pure (.str [n])) fail) n) (ev e x)
noncomputable def u8s (s : List Nat) : List AV := List.rec [] (fun b _ r => .int .u8 (.ofNat b) :: r) s
noncomputable def oStrBytes (x : Opd) : Ev := fun _ e => onStr fail (fun s => ifB (Nat.ble (len s) 1048576) (M.map (fun k => .slice (some (k, 0)) (len s) (len s) 1) (newO (.row (u8s s)))) fail) (ev e x)
noncomputable def oIface (t : Nat) (x : Opd) : Ev := fun _ e => M.pure (.iface t (ev e x))
noncomputable def oFunc (f : Nat) (a b : List Opd) : Ev := fun _ e => M.pure (.fn f (evs e a) (evs e b))
noncomputable def oMakeMap : Ev := fun _ _ => M.map (fun n => .map (some n)) (newO (.mp [] 0))
noncomputable def asN (v : AV) : Option Nat := onInt none (fun _ n => onNat none some n) v
noncomputable def reps (z : List AV) (n : Nat) : List AV := Nat.rec [] (fun _ r => List.append z r) n
noncomputable def oMakeSlice (z : List AV) (l c : Opd) : Ev := fun _ e => ifS fail (fun l => ifS fail (fun c =>
  ifB (ifB (Nat.ble l c) (Nat.ble c 1048576) false) (M.map (fun k => .slice (some (k, 0)) l c (len z)) (newO (.row (reps z c)))) fail) (asN (ev e c))) (asN (ev e l))
noncomputable def evB (e : Env) (d : Nat) (x : Option Opd) : Option Nat := ifS (some d) (fun x => asN (ev e x)) x
noncomputable def dropS (n : Nat) : List Nat → List Nat := Nat.rec (motive := fun _ => List Nat → List Nat) (fun l => l) (fun _ g l => ifC [] (fun _ t => g t) l) n
noncomputable def takeS (n : Nat) : List Nat → List Nat := Nat.rec (motive := fun _ => List Nat → List Nat) (fun _ => []) (fun _ g l => ifC [] (fun a t => a :: g t) l) n
noncomputable def oSliceStr (x : Opd) (lo hi : Option Opd) : Ev := fun _ e => onStr fail (fun s => ifS fail (fun l => ifS fail (fun h =>
  ifB (ifB (Nat.ble l h) (Nat.ble h (len s)) false) (M.pure (.str (takeS (Nat.sub h l) (dropS l s)))) fail) (evB e (len s) hi)) (evB e 0 lo)) (ev e x)
noncomputable def shiftA (k : Nat) (a : Option (Nat × Nat)) : Option (Nat × Nat) := ifS none (fun a => some (a.1, Nat.add a.2 k)) a
noncomputable def sub2 (size : Nat) (a : Option (Nat × Nat)) (c : Nat) (l h : Option Nat) : M AV := ifS fail (fun l => ifS fail (fun h =>
  ifB (ifB (Nat.ble l h) (Nat.ble h c) false) (M.pure (.slice (shiftA (Nat.mul l size) a) (Nat.sub h l) (Nat.sub c l) size)) fail) h) l
noncomputable def oSliceSl (size : Nat) (x : Opd) (lo hi : Option Opd) : Ev := fun _ e => onSlice fail (fun a n c z => ifB (ifS true (fun _ => Nat.beq z size) a) (sub2 size a c (evB e 0 lo) (evB e n hi)) fail) (ev e x)
noncomputable def oFieldAddr (off : Nat) (x : Opd) : Ev := fun _ e => onPtr fail (ifS fail fun a => M.pure (.ptr (some (a.1, Nat.add a.2 off)))) (ev e x)
noncomputable def part1 (off : Nat) (v : AV) : M AV := onAgg fail (fun l => ifC fail (fun v _ => M.pure v) (dropN off l)) v
noncomputable def partN (off n : Nat) (v : AV) : M AV := onAgg fail (fun l => ifS fail (fun r => M.pure (.agg r)) (takeN n (dropN off l))) v
noncomputable def oField1 (off : Nat) (x : Opd) : Ev := fun _ e => part1 off (ev e x)
noncomputable def oFieldN (off n : Nat) (x : Opd) : Ev := fun _ e => partN off n (ev e x)
noncomputable def ixA (size n : Nat) (a : Nat × Nat) (i : Option Nat) : M AV :=
  ifS fail (fun i => ifB (Nat.blt i n) (M.pure (.ptr (some (a.1, Nat.add a.2 (Nat.mul i size))))) fail) i
noncomputable def oIndexSl (size : Nat) (x i : Opd) : Ev := fun _ e => onSlice fail (fun a n _ _ => ifS fail (fun a => ixA size n a (asN (ev e i))) a) (ev e x)
noncomputable def oIndexAr (n size : Nat) (x i : Opd) : Ev := fun _ e => onPtr fail (ifS fail fun a => ixA size n a (asN (ev e i))) (ev e x)
noncomputable def oIndexStr (x i : Opd) : Ev := fun _ e => onStr fail (fun s => ifS fail (fun i => ifC fail (fun b _ => M.pure (.int .u8 (.ofNat b))) (dropS i s)) (asN (ev e i))) (ev e x)
noncomputable def oIndexVal (n size : Nat) (agg : Bool) (x i : Opd) : Ev := fun _ e =>
  ifS fail (fun i => ifB (Nat.blt i n) (ifB agg (partN (Nat.mul i size) size (ev e x)) (part1 (Nat.mul i size) (ev e x))) fail) (asN (ev e i))
noncomputable def findK (f : FK) (k : AV) (es : List (AV × AV × Nat)) : Option (Option AV) :=
  List.rec (some none) (fun a _ r => ifS none (fun t => ifB t (some (some a.2.1)) r) (eqCell f k a.1)) es
noncomputable def setK (f : FK) (k v : AV) (clock : Nat) (es : List (AV × AV × Nat)) : Option (List (AV × AV × Nat) × Nat) :=
  List.rec (some ([(k, v, clock)], Nat.succ clock)) (fun a t r => ifS none (fun b => ifB b (some ((k, v, a.2.2) :: t, clock)) (ifS none (fun q => some (a :: q.1, q.2)) r)) (eqCell f k a.1)) es
noncomputable def outK (z : AV) (ok : Bool) (r : Option AV) : AV := ifS (ifB ok (.tuple [z, .bool false]) z) (fun v => ifB ok (.tuple [v, .bool true]) v) r
noncomputable def oLookup (f : FK) (z : AV) (m k : Opd) (ok : Bool) : Ev := fun _ e =>
  onMap fail (ifS (M.pure (outK z ok none)) fun n => M.bind (getMap n) fun r => ifS fail (fun x => M.pure (outK z ok x)) (findK f (ev e k) r.1)) (ev e m)
noncomputable def oMapUpdate (f : FK) (m k x : Opd) : Ev := fun _ e =>
  onMap fail (ifS fail fun n => M.bind (getMap n) fun r => ifS fail (fun q => M.map (fun _ => undefA) (setMap n q)) (setK f (ev e k) (ev e x) r.2 r.1)) (ev e m)
noncomputable def oExtract (x : Opd) (i : Nat) : Ev := fun _ e => onTuple fail (fun l => ifC fail (fun v _ => M.pure v) (dropN i l)) (ev e x)
noncomputable def oCall (f : Opd) (args : List Opd) : Ev := fun call e => onFn fail (fun g a b => call g (List.append a (List.append (evs e args) b))) (ev e f)
/-- what a method is handed of the value behind an interface: the value itself, or the cell at an offset behind it -/
noncomputable def recvA (q : Option Nat) (v : AV) : M AV := ifS (M.pure v) (fun off => onPtr fail (ifS fail fun a => load1 a.1 (Nat.add a.2 off)) v) q
noncomputable def oInvoke (mt : Nat → Option (Nat × Option Nat)) (x : Opd) (args : List Opd) : Ev := fun call e =>
  onIface fail fail (fun t v => ifS fail (fun q => M.bind (recvA q.2 v) fun r => call q.1 (r :: evs e args)) (mt t)) (ev e x)
noncomputable def offA (z : Option AV) : M AV := ifS fail (fun z => M.pure (.tuple [z, .bool false])) z
/-- 'x.(t)' of a type that is no interface; z: the zero value, where it is asked whether it holds -/
noncomputable def oAssert (t : Nat) (z : Option AV) (x : Opd) : Ev := fun _ e =>
  onIface fail (offA z) (fun u v => ifB (Nat.beq u t) (M.pure (ifS v (fun _ => .tuple [v, .bool true]) z)) (offA z)) (ev e x)
noncomputable def strCells (size : Nat) (s : List Nat) : M (List AV × Nat) := ifB (Nat.beq size 1) (M.pure (u8s s, len s)) fail
noncomputable def srcOf (size : Nat) (v : AV) : M (List AV × Nat) :=
  onSlice (onStr fail (strCells size) v) (fun a k _ _ => ifS (ifB (Nat.beq k 0) (M.pure ([], 0)) fail) (fun a => M.map (fun l => (l, k)) (loadN a.1 a.2 (Nat.mul k size))) a) v
noncomputable def zerosOf (z : List AV) (v : AV) : M (List AV × Nat) := ifS fail (fun k => ifB (Nat.ble k 1048576) (M.pure (reps z k, k)) fail) (asN v)
noncomputable def grow (size : Nat) (n : Nat) (src : M Nat) : M AV := M.map (fun m => .slice (some (m, 0)) n n size) src
noncomputable def appIn (size : Nat) (p : Nat × Nat) (n c z : Nat) (l : List AV) (k : Nat) : M AV := M.map (fun _ => .slice (some p) (Nat.add n k) c z) (storeN p.1 (Nat.add p.2 (Nat.mul n size)) l)
noncomputable def appOut (size : Nat) (p : Nat × Nat) (n z : Nat) (l : List AV) (k : Nat) : M AV := ifB (ifB (ifB (Nat.beq p.2 0) (Nat.beq z size) false) (scals l) false)
  (M.bind (killRow p.1 0 (Nat.mul n size)) fun o => grow size (Nat.add n k) (newO (.row (List.append o l)))) fail
noncomputable def app2 (size : Nat) (a : Option (Nat × Nat)) (n c z : Nat) (l : List AV) (k : Nat) : M AV :=
  ifB (Nat.ble (Nat.add n k) 1048576)
    (Bool.rec (ifS (ifB (Nat.beq n 0) (grow size (Nat.add n k) (newO (.row l))) fail) (fun p => appOut size p n z l k) a)
      (ifS (M.pure (.slice none (Nat.add n k) c z)) (fun p => appIn size p n c z l k) a) (Nat.ble (Nat.add n k) c)) fail
noncomputable def app1 (size : Nat) (src : M (List AV × Nat)) (v : AV) : M AV := onSlice fail (fun a n c z => M.bind src fun r => app2 size a n c z r.1 r.2) v
noncomputable def oAppend (size : Nat) (x y : Opd) : Ev := fun _ e => app1 size (srcOf size (ev e y)) (ev e x)
noncomputable def oAppendZ (size : Nat) (z : List AV) (x y : Opd) : Ev := fun _ e => app1 size (zerosOf z (ev e y)) (ev e x)
noncomputable def int64 (n : Nat) : AV := .int .i64 (.ofNat n)
noncomputable def oLenStr (x : Opd) : Ev := fun _ e => onStr fail (fun s => M.pure (int64 (len s))) (ev e x)
noncomputable def oLenSl (x : Opd) : Ev := fun _ e => onSlice fail (fun _ n _ _ => M.pure (int64 n)) (ev e x)
noncomputable def oLenMap (x : Opd) : Ev := fun _ e => onMap fail (ifS (M.pure (int64 0)) fun m => M.map (fun r => int64 (len r.1)) (getMap m)) (ev e x)
noncomputable def oLenArr (n : Nat) : Ev := fun _ _ => M.pure (int64 n)
noncomputable def oCap (x : Opd) : Ev := fun _ e => onSlice fail (fun a _ c _ => ifS (M.pure (int64 c)) (fun _ => fail) a) (ev e x)
noncomputable def oMinMax (mx : Bool) (x y : Opd) : Ev := fun _ e => onInt fail (fun k a => onInt fail (fun _ b => M.pure (.int k (ifB (ifB mx (ltI a b) (ltI b a)) b a))) (ev e y)) (ev e x)
/-- 'copy' of no more elements than there is room for -/
noncomputable def oCopy (size : Nat) (x y : Opd) : Ev := fun _ e => onSlice fail (fun a n _ z => ifB (ifS true (fun _ => Nat.beq z size) a) (M.bind (srcOf size (ev e y)) fun r => ifB (Nat.ble r.2 n) (M.map (fun _ => int64 r.2) (ifS (M.pure ()) (fun p => storeN p.1 p.2 r.1) a)) fail) fail) (ev e x)
/-- the entry of a key, made if there is none -/
noncomputable def entK (f : FK) (k z : AV) (clock : Nat) (es : List (AV × AV × Nat)) : Option ((List (AV × AV × Nat) × Nat) × AV × Nat) :=
  List.rec (some (([(k, z, clock)], Nat.succ clock), z, clock)) (fun a t r => ifS none (fun b => ifB b (some (((k, a.2.1, a.2.2) :: t, clock), a.2.1, a.2.2)) (ifS none (fun q => some ((a :: q.1.1, q.1.2), q.2)) r)) (eqCell f k a.1)) es
noncomputable def oMapEntry (f : FK) (z : AV) (m k : Opd) : Ev := fun _ e =>
  onMap fail (ifS fail fun n => M.bind (getMap n) fun r => ifS fail (fun q => M.map (fun _ => .tuple [q.2.1, int64 q.2.2]) (setMap n q.1)) (entK f (ev e k) z r.2 r.1)) (ev e m)
noncomputable def putB (b : Nat) (x : AV) (es : List (AV × AV × Nat)) : Option (List (AV × AV × Nat)) :=
  List.rec none (fun a t r => ifB (Nat.beq a.2.2 b) (some ((a.1, x, a.2.2) :: t)) (ifS none (fun q => some (a :: q)) r)) es
noncomputable def oEntryStore (m s x : Opd) : Ev := fun _ e =>
  onMap fail (ifS fail fun n => ifS fail (fun b => M.bind (getMap n) fun r => ifS fail (fun q => M.map (fun _ => undefA) (setMap n (q, r.2))) (putB b (ev e x) r.1)) (asN (ev e s))) (ev e m)
noncomputable def oFail : Ev := fun _ _ => fail

noncomputable def putE (d : Option Nat) (v : AV) (s : St) : St := ifS s (fun d => ⟨.put d v s.env, s.defers⟩) d
noncomputable def isB (w : Bool) (v : AV) : Bool := onBool false (fun b => ifB b w (not w)) v
inductive It where
  | val (d : Option Nat) (g : Option (Nat × Bool)) (f : Ev)
  | dfr (d : Option Nat) (f : Opd) (args : List Opd)
  | bad
noncomputable def stepV (d : Option Nat) (g : Option (Nat × Bool)) (f : Ev) (call : Ctx) (s : St) : M St :=
  ifS (M.map (fun v => putE d v s) (f call s.env)) (fun q => ifB (isB q.2 (s.env.get q.1)) (M.map (fun v => putE d v s) (f call s.env)) (M.pure (putE d undefA s))) g
noncomputable def stepD (d : Option Nat) (f : Opd) (args : List Opd) (s : St) : M St :=
  onFn fail (fun g a b => M.pure (putE d undefA ⟨s.env, (g, List.append a (List.append (evs s.env args) b)) :: s.defers⟩)) (ev s.env f)
noncomputable def step1 (call : Ctx) (s : St) (i : It) : M St := It.rec (fun d g f => stepV d g f call s) (fun d f args => stepD d f args s) fail i
noncomputable def evOps (call : Ctx) (l : List It) : St → M St := List.rec (motive := fun _ => St → M St) M.pure (fun i _ ih s => M.bind (step1 call s i) ih) l
noncomputable def step2 (call : Ctx) (s : St) (i : It) : M St := It.rec (fun d g f => stepV d g f call s) (fun _ _ _ => fail) fail i
noncomputable def evOpsD (call : Ctx) (l : List It) : St → M (List (Nat × Nat × Log) × St) := List.rec (motive := fun _ => St → M (List (Nat × Nat × Log) × St)) (fun s => M.pure ([], s))
  (fun i _ ih s c h => Rs.rec .fail (fun s1 c1 h1 f1 => Rs.rec .fail (fun r c2 h2 f2 => .ok ((c, c1, f1) :: r.1, r.2) c2 h2 (List.append f1 f2)) (ih s1 c1 h1)) (step2 call s i c h)) l
noncomputable def meets (x y : Option Nat) : Bool := ifS true (fun a => ifS true (Nat.beq a) y) x
noncomputable def clash (q p : Nat × Option Nat × Bool) : Bool := ifB (Nat.beq q.1 p.1) (ifB (ifB q.2.2 true p.2.2) (meets q.2.1 p.2.1) false) false
noncomputable def apart1 (q : Nat × Option Nat × Bool) (l : Log) : Bool := List.rec true (fun p _ r => ifB (clash q p) false r) l
noncomputable def apartL (k l : Log) : Bool := List.rec true (fun q _ r => ifB (apart1 q l) r false) k
noncomputable def nthL (n : Nat) : List (Nat × Nat × Log) → Nat × Nat × Log := Nat.rec (motive := fun _ => List (Nat × Nat × Log) → Nat × Nat × Log) (ifC (0, 0, []) fun a _ => a) (fun _ g l => ifC (0, 0, []) (fun _ t => g t) l) n
/-- no place of the log lies between the names lo and hi -/
noncomputable def outL (lo hi : Nat) (l : Log) : Bool := List.rec true (fun q _ r => ifB (ifB (Nat.blt q.1 lo) true (Nat.ble hi q.1)) r false) l
/-- two operations that may come in either order: their logs don't clash, and the later one touches nothing that the former makes -/
noncomputable def apartR (a b : Nat × Nat × Log) : Bool := ifB (apartL a.2.2 b.2.2) (outL a.1 a.2.1 b.2.2) false
noncomputable def okPairs (fs : List (Nat × Nat × Log)) (ps : List (Nat × Nat)) : Bool := List.rec true (fun p _ r => ifB (apartR (nthL p.1 fs) (nthL p.2 fs)) r false) ps

inductive X where
  | normal
  | ret
  | exit (id : Nat)
abbrev CodeE := Ctx → St → M (X × St)
noncomputable def cSkip : CodeE := fun _ s => M.pure (.normal, s)
noncomputable def cRegion (l : List It) : CodeE := fun call s => M.map (fun s => (.normal, s)) (evOps call l s)
noncomputable def cRegionD (ps : List (Nat × Nat)) (l : List It) : CodeE := fun call s => M.bind (evOpsD call l s) fun r => ifB (okPairs r.1 ps) (M.pure (.normal, r.2)) fail
inductive Box (α : Type) where
  | mk (a : α)
noncomputable def Box.rn {α β : Type} (k : α → β) (b : Box α) : β := Box.rec k b
noncomputable def onN (k : St → M (X × St)) (r : X × St) : M (X × St) := X.rec (k r.2) (M.pure (.ret, r.2)) (fun i => M.pure (.exit i, r.2)) r.1
noncomputable def cSeq (a b : CodeE) : CodeE := fun call s => M.bind (a call s) (onN (b call))
noncomputable def cCond (c : Opd) (a b : CodeE) : CodeE := fun call s => onBool fail (fun t => ifB t (a call s) (b call s)) (ev s.env c)
noncomputable def block1 (id : Nat) (r : X × St) : X × St := (X.rec .normal .ret (fun i => ifB (Nat.beq i id) .normal (.exit i)) r.1, r.2)
noncomputable def cBlock (id : Nat) (b : CodeE) : CodeE := fun call s => M.map (block1 id) (b call s)
noncomputable def flushS (s : St) : St := ⟨.base s.env.flush, s.defers⟩
noncomputable def loopN (b : CodeE) (n : Nat) : CodeE := Nat.rec (motive := fun _ => CodeE) (fun _ _ => fail) (fun _ g call s => M.bind (b call s) (onN fun s => g call (flushS s))) n
noncomputable def cLoop (b : CodeE) : CodeE := loopN b 100000
noncomputable def cExit (id : Nat) : CodeE := fun _ s => M.pure (.exit id, s)
noncomputable def cRet : CodeE := fun _ s => M.pure (.ret, s)
noncomputable def cBad : CodeE := fun _ _ => fail
noncomputable def allO {α β : Type} (f : α → Option β) (l : List α) : Option (List β) := List.rec (some []) (fun a _ r => ifS none (fun b => ifS none (fun r => some (b :: r)) r) (f a)) l
noncomputable def ofS (v : Value) : Option AV := match v with
  | .bool b => some (.bool b)
  | .int k n => some (.int k n)
  | .string s => some (.str (s.data.toList.map UInt8.toNat))
  | .pointer none => some (.ptr none)
  | .slice none 0 0 => some (.slice none 0 0 0)
  | .map none => some (.map none)
  | .nilFunc => some .nilFn
  | .nilIface => some .nilIface
  | .func (.func f) ⟨[]⟩ ⟨[]⟩ => some (.fn f [] [])
  | _ => none
noncomputable def ofV (v : Value) : Option AV := match v with
  | .agg cs => ifS none (fun l => some (.agg l)) (allO ofS cs.toList)
  | .tuple ⟨[]⟩ => some (.tuple [])
  | v => ofS v
noncomputable def cOpd (x : Operand) : Option Opd := match x with
  | .tmp t => some (.tmp t)
  | .const v => ifS none (fun a => some (.const a)) (ofV v)
  | .global _ => none
  | .func f => some (.const (.fn f [] []))
noncomputable def cOps (l : List Operand) : Option (List Opd) := allO cOpd l
noncomputable def cOpdO (x : Option Operand) : Option (Option Opd) := ifS (some none) (fun x => ifS none (fun y => some (some y)) (cOpd x)) x
variable (P : Program)
/-- the zero value of a type whose cells are as many as its size says, of at most 2^20 bytes -/
noncomputable def zeroOf (t : TypeId) : Option AV := ifS none (fun i => ifS none (fun z => ifS none (fun v => ifB (ifB (Nat.beq (len v.cells) i.size) (Nat.ble i.bytes 1048576) false) (some v) none) (ofV z)) i.zero) (P.info? t)
noncomputable def sizeO (t : TypeId) : Option Nat := ifS none (fun i => some i.size) (P.info? t)
noncomputable def isAggD (d : TypeDesc) : Bool := match d with
  | .struct _ => true
  | .array _ _ => true
  | _ => false
noncomputable def aggO (t : TypeId) : Option Bool := ifS none (fun d => some (isAggD d)) (P.underlying t)
noncomputable def elemS (t : TypeId) : Option TypeId := match P.underlying t with
  | some (.slice e) => some e
  | _ => none
noncomputable def cAppend (s e : TypeId) (x y : Opd) : Option Ev :=
  ifS none (fun el => ifS none (fun z => ifS none (fun d => match d with
    | .int _ => some (oAppendZ (len z.cells) z.cells x y)
    | _ => some (oAppend (len z.cells) x y)) (P.underlying e)) (zeroOf P el)) (elemS P s)
noncomputable def cLen (t : TypeId) (x : Opd) : Option Ev := match P.underlying t with
  | some (.array n _) => some (oLenArr n)
  | some (.pointer a) => (match P.underlying a with | some (.array n _) => some (oLenArr n) | _ => none)
  | some .string => some (oLenStr x)
  | some (.slice _) => some (oLenSl x)
  | some (.map _ _) => some (oLenMap x)
  | _ => none
noncomputable def cBuiltin0 (b : Builtin) (args : List Opd) (ts : List TypeId) : Option Ev :=
  match b, args, ts with
  | .append, [x, y], [s, e] => cAppend P s e x y
  | .len, [x], [t] => cLen P t x
  | .cap, [x], [t] => ifS none (fun _ => some (oCap x)) (elemS P t)
  | .min, [x, y], _ => some (oMinMax false x y)
  | .max, [x, y], _ => some (oMinMax true x y)
  | _, _, _ => none
noncomputable def cCopy (args : List Opd) (ts : List TypeId) : Option Ev := match args, ts with
  | [x, y], [s, _] => ifS none (fun el => ifS none (fun n => some (oCopy n x y)) (sizeO P el)) (elemS P s)
  | _, _ => none
noncomputable def cBuiltin (b : Builtin) (args : List Opd) (ts : List TypeId) : Option Ev := match b with
  | .copy => cCopy P args ts
  | b => cBuiltin0 P b args ts
noncomputable def placesO (fs : Array Field) : Option (List (Nat × Nat)) := fs.toList.mapM (fun f => (P.info? f.type).map fun i => (f.offset, i.size))
noncomputable def partS (ps : List (Nat × Nat)) (q : Nat × Operand) : Option (Nat × Nat × Opd) := ifS none (fun p => ifS none (fun x => some (p.1, p.2, x)) (cOpd q.2)) ps[q.1]?
noncomputable def partA (s : Nat) (q : Nat × Operand) : Option (Nat × Nat × Opd) := ifS none (fun x => some (q.1 * s, s, x)) (cOpd q.2)
noncomputable def cBuild (t : TypeId) (ps : List (Nat × Operand)) (z : AV) : Option Ev := match P.underlying t with
  | some (.struct fs) => ifS none (fun pl => ifS none (fun l => some (oBuild z.cells l)) (allO (partS pl) ps)) (placesO P fs)
  | some (.array _ el) => ifS none (fun s => ifS none (fun l => some (oBuild z.cells l)) (allO (partA s) ps)) (sizeO P el)
  | _ => none
noncomputable def cConv (x : Opd) (a b : TypeDesc) : Option Ev := match a, b with
  | .int _, .int k => some (oConv k x)
  | .int _, .string => some (oChr x)
  | .string, .string => some (oSame x)
  | _, _ => none
noncomputable def cConvB (x : Opd) (a b : TypeDesc) : Option Ev := match a, b with
  | .string, .slice e => (match P.underlying e with | some (.int .u8) => some (oStrBytes x) | _ => none)
  | a, b => cConv x a b
noncomputable def cSlice (t : TypeId) (x : Opd) (lo hi : Option Opd) : Option Ev := match P.underlying t with
  | some .string => some (oSliceStr x lo hi)
  | some (.slice el) => ifS none (fun n => some (oSliceSl n x lo hi)) (sizeO P el)
  | _ => none
noncomputable def fieldO (s : TypeId) (i : Nat) : Option Field := match P.underlying s with
  | some (.struct fs) => fs[i]?
  | _ => none
noncomputable def plainT (t : TypeId) : Bool := match P.underlying t with
  | some (.interface _) => false
  | some _ => true
  | none => false
noncomputable def cIndexAddr (t : TypeId) (x i : Opd) : Option Ev := match P.underlying t with
  | some (.array n el) => ifS none (fun z => some (oIndexAr n z x i)) (sizeO P el)
  | some (.slice el) => ifS none (fun z => some (oIndexSl z x i)) (sizeO P el)
  | _ => none
noncomputable def cIndex (t : TypeId) (x i : Opd) : Option Ev := match P.underlying t with
  | some (.array n el) => ifS none (fun z => ifS none (fun b => some (oIndexVal n z b x i)) (aggO P el)) (sizeO P el)
  | some .string => some (oIndexStr x i)
  | _ => none
noncomputable def mapO (t : TypeId) : Option (TypeId × TypeId) := match P.underlying t with
  | some (.map k e) => some (k, e)
  | _ => none
noncomputable def fkO (t : TypeId) : Option FK := match P.underlying t with
  | some (.int _) => some .int
  | some .string => some .str
  | some .bool => some .bool
  | _ => none
noncomputable def fieldK (f : Field) : Option (Nat × FK) := ifB (f.name != "_") (ifS none (fun k => some (f.offset, k)) (fkO P f.type)) none
noncomputable def isConst (x : Operand) : Bool := match x with
  | .const _ => true
  | _ => false
/-- how '==' compares a type's values -/
noncomputable def eqOf (t : TypeId) (x y : Operand) : Option (AV → AV → Option Bool) := match P.underlying t with
  | some .bool => some (eqCell .bool)
  | some (.pointer e) => ifS none (fun n => ifB (Nat.beq n 0) none (some eqPtr)) (sizeO P e)
  | some (.slice _) => some eqSl
  | some (.map _ _) => some eqMap
  | some (.func _ _ _) => some eqFn
  | some (.interface _) => ifB (ifB (isConst x) true (isConst y)) (some eqIf) none
  | some (.struct fs) => ifB (ifB (P.eqGuardType P.depth t) false (not (P.stoodInHeld t))) (ifS none (fun ks => some (eqFs ks)) (allO (fieldK P) fs.toList)) none
  | _ => none
noncomputable def isScal (t : TypeId) : Bool := match P.underlying t with
  | some (.int _) => true
  | some .string => true
  | _ => false
noncomputable def cBin (op : BinOp) (t : TypeId) (x y : Operand) (a b : Opd) : Option Ev := ifB (isScal P t) (some (oBin op a b)) (match op with
  | .eql => ifS none (fun f => some (oEq f true a b)) (eqOf P t x y)
  | .neq => ifS none (fun f => some (oEq f false a b)) (eqOf P t x y)
  | _ => none)
noncomputable def fieldCell (f : Field) : Option Nat := ifB (ifB (P.underlying f.type matches some (.pointer _)) false true) (ifS none (fun b => ifB b none (ifS none (fun n => ifB (Nat.beq n 0) none (some f.offset)) (sizeO P f.type))) (aggO P f.type)) none
noncomputable def methP (t : TypeId) (m : Method) : Option (Nat × Option Nat) := match m.path.toList, m.func with
  | [], some (f, true) => (match P.underlying t with | some (.pointer _) => some (f, none) | _ => none)
  | [s], some (f, false) => ifB s.deref (ifS none (fun fd => ifS none (fun off => some (f, some off)) (fieldCell P fd)) (fieldO P s.struct s.index)) none
  | _, _ => none
noncomputable def methO (name : String) (t : TypeId) : Option (Nat × Option Nat) := ifS none (fun i => ifS none (methP P t) (i.methods.find? (·.name == name))) (P.info? t)
noncomputable def cCall (c : Call) (args : List Opd) : Option Ev := match c.callee with
  | .value f => ifS none (fun f => some (oCall f args)) (cOpd f)
  | .builtin b => cBuiltin P b args c.argTypes.toList
  | .invoke x name => ifS none (fun x => some (oInvoke (methO P name) x args)) (cOpd x)
noncomputable def cOp (o : Op) : Option Ev :=
  match o with
  | .move x => ifS none (fun x => some (oMove x)) (cOpd x)
  | .assign x => ifS none (fun x => some (oMove x)) (cOpd x)
  | .pick c a b => ifS none (fun c => ifS none (fun a => ifS none (fun b => some (oPick c a b)) (cOpd b)) (cOpd a)) (cOpd c)
  | .alloc e => ifS none (fun z => some (oAlloc z.cells)) (zeroOf P e)
  | .box _ x => ifS none (fun x => some (oBox x)) (cOpd x)
  | .build t ps => ifS none (cBuild P t ps.toList) (zeroOf P t)
  | .buildSlice t n ps => ifS none (fun el => ifS none (fun z => ifB (Nat.ble (n * Nat.succ (len z.cells)) 16777216) (ifS none (fun l => some (oBuildSlice (len z.cells) (reps z.cells n) n l)) (allO (partA (len z.cells)) ps.toList)) none) (zeroOf P el)) (elemS P t)
  | .load t a => ifS none (fun a => ifS none (fun b => ifB b (ifS none (fun n => some (oLoadN n a)) (sizeO P t)) (some (oLoad1 a))) (aggO P t)) (cOpd a)
  | .store t a x => ifS none (fun a => ifS none (fun x => ifS none (fun n => some (oStore n a x)) (sizeO P t)) (cOpd x)) (cOpd a)
  | .nilCheck x => ifS none (fun x => some (oNilCheck x)) (cOpd x)
  | .binOp op t x y _ => ifS none (fun a => ifS none (fun b => cBin P op t x y a b) (cOpd y)) (cOpd x)
  | .unOp .not _ x => ifS none (fun x => some (oNot x)) (cOpd x)
  | .unOp .neg _ x => ifS none (fun x => some (oNeg x)) (cOpd x)
  | .convert s d x => ifS none (fun x => ifS none (fun a => ifS none (fun b => cConvB P x a b) (P.underlying d)) (P.underlying s)) (cOpd x)
  | .makeInterface t x => ifS none (fun x => ifB (plainT P t) (some (oIface t x)) none) (cOpd x)
  | .makeFunc (.func f) a b => ifS none (fun a => ifS none (fun b => some (oFunc f a b)) (cOps b.toList)) (cOps a.toList)
  | .makeMap _ none => some oMakeMap
  | .makeSlice t l c => ifS none (fun el => ifS none (fun z => ifS none (fun l => ifS none (fun c => some (oMakeSlice z.cells l c)) (cOpd c)) (cOpd l)) (zeroOf P el)) (elemS P t)
  | .slice t x lo hi none => ifS none (fun x => ifS none (fun lo => ifS none (fun hi => cSlice P t x lo hi) (cOpdO hi)) (cOpdO lo)) (cOpd x)
  | .fieldAddr s x i => ifS none (fun x => ifS none (fun f => ifS none (fun n => ifB (Nat.beq n 0) none (some (oFieldAddr f.offset x))) (sizeO P f.type)) (fieldO P s i)) (cOpd x)
  | .field s x i => ifS none (fun x => ifS none (fun f => ifS none (fun b => ifB b (ifS none (fun n => some (oFieldN f.offset n x)) (sizeO P f.type)) (some (oField1 f.offset x))) (aggO P f.type)) (fieldO P s i)) (cOpd x)
  | .indexAddr t x i => ifS none (fun x => ifS none (fun i => cIndexAddr P t x i) (cOpd i)) (cOpd x)
  | .index t x i => ifS none (fun x => ifS none (fun i => cIndex P t x i) (cOpd i)) (cOpd x)
  | .lookup t m k ok => ifS none (fun m => ifS none (fun k => ifS none (fun q => ifS none (fun f => ifS none (fun z => some (oLookup f z m k ok)) (zeroOf P q.2)) (fkO P q.1)) (mapO P t)) (cOpd k)) (cOpd m)
  | .mapUpdate t m k x => ifS none (fun m => ifS none (fun k => ifS none (fun x => ifS none (fun q => ifS none (fun f => some (oMapUpdate f m k x)) (fkO P q.1)) (mapO P t)) (cOpd x)) (cOpd k)) (cOpd m)
  | .insert t m k x => ifS none (fun m => ifS none (fun k => ifS none (fun x => ifS none (fun q => ifS none (fun f => some (oMapUpdate f m k x)) (fkO P q.1)) (mapO P t)) (cOpd x)) (cOpd k)) (cOpd m)
  | .mapEntry t m k => ifS none (fun m => ifS none (fun k => ifS none (fun q => ifS none (fun f => ifS none (fun z => some (oMapEntry f z m k)) (zeroOf P q.2)) (fkO P q.1)) (mapO P t)) (cOpd k)) (cOpd m)
  | .entryStore _ m s x => ifS none (fun m => ifS none (fun s => ifS none (fun x => some (oEntryStore m s x)) (cOpd x)) (cOpd s)) (cOpd m)
  | .extract x i => ifS none (fun x => some (oExtract x i)) (cOpd x)
  | .call c => ifS none (cCall P c) (cOps c.args.toList)
  | .typeAssert x _ t ok => ifS none (fun x => ifB (plainT P t) (ifB ok (ifS none (fun z => some (oAssert t (some z) x)) (zeroOf P t)) (some (oAssert t none x))) none) (cOpd x)
  | _ => none
/-- a deferred call -/
noncomputable def cDefer (o : Op) : Option (Opd × List Opd) := match o with
  | .defer c => (match c.callee with
    | .value f => ifS none (fun f => ifS none (fun l => some (f, l)) (cOps c.args.toList)) (cOpd f)
    | _ => none)
  | _ => none
noncomputable def guardO (ops : Array Oper) (g : Option (Nat × Bool)) : Option (Option (Nat × Bool)) :=
  ifS (some none) (fun g => ifS none (fun o => ifS none (fun t => some (some (t, g.2))) o.dst) ops[g.1]?) g
noncomputable def dstOk (n : Nat) (d : Option Nat) : Bool := ifS true (fun d => Nat.blt d n) d
noncomputable def cIt (n : Nat) (ops : Array Oper) (o : Oper) : It :=
  ifB (dstOk n o.dst) (ifS (ifS .bad (fun g => .val o.dst g (ifS oFail (fun f => f) (cOp P o.op))) (guardO ops o.guard)) (fun q => ifS (.dfr o.dst q.1 q.2) (fun _ => .bad) o.guard) (cDefer o.op)) .bad
noncomputable def mapL {α β : Type} (f : α → β) (l : List α) : List β := List.rec [] (fun a _ r => f a :: r) l
/-- what stands ahead of an operation, whatever the order: a set of places, as a number's bits; 'ps': the like of the operations ahead of it -/
noncomputable def aheadOf (ps : List Nat) (l : List Edge) : Nat :=
  List.rec 0 (fun e _ r => ifB (Region.binds .any e) (ifS r (fun m => Nat.lor r (Nat.lor m (Nat.shiftLeft 1 e.on))) (ps[e.on]?)) r) l
noncomputable def aheads (l : List Oper) : List Nat → List Nat := List.rec (motive := fun _ => List Nat → List Nat) (fun ps => ps) (fun o _ g ps => g (List.append ps [aheadOf ps o.after.toList])) l
/-- the pairs of operations that may come in either order; none, if two of them meet in a temporary -/
noncomputable def pairs1 (ops : Array Oper) (m j : Nat) (oj : Oper) (i : Nat) : Option (List (Nat × Nat)) :=
  Nat.rec (some []) (fun i r => ifB (Nat.testBit m i) r (ifS none (fun oi => ifB (Oper.apart ops oi oj) (ifS none (fun l => some ((i, j) :: l)) r) none) ops[i]?)) i
/-- the edges that bind in any order point backward -/
noncomputable def backL (j : Nat) (l : List Edge) : Bool := List.rec true (fun e _ r => ifB (ifB (Region.binds .any e) (Nat.blt e.on j) true) r false) l
noncomputable def pairsN (ops : Array Oper) (ps : List Nat) (j : Nat) : Option (List (Nat × Nat)) :=
  Nat.rec (some []) (fun j r => ifS none (fun m => ifS none (fun oj => ifB (backL j oj.after.toList) (ifS none (fun l => ifS none (fun k => some (List.append l k)) (pairs1 ops m j oj j)) r) none) ops[j]?) ps[j]?) j
noncomputable def pairsOf (ops : Array Oper) : Option (List (Nat × Nat)) := pairsN ops (aheads ops.toList []) ops.size
noncomputable def cRegions (n : Nat) (ops : Array Oper) (draw : Bool) : Box CodeE :=
  ifB draw (ifB (P.follows .mixedOrders) (ifS (.mk cBad) (fun ps => .mk (cRegionD ps (mapL (cIt P n ops) ops.toList))) (pairsOf ops)) (.mk cBad)) (.mk (cRegion (mapL (cIt P n ops) ops.toList)))
noncomputable def cCode (n : Nat) (c : Code) : Box CodeE :=
  Code.rec (motive := fun _ => Box CodeE) (.mk cSkip) (fun _ ops d => cRegions P n ops d)
    (fun _ _ f g => Box.rn (fun f => Box.rn (fun g => .mk (cSeq f g)) g) f)
    (fun c _ _ f g => ifS (.mk cBad) (fun x => Box.rn (fun f => Box.rn (fun g => .mk (cCond x f g)) g) f) (cOpd c))
    (fun id _ f => Box.rn (fun f => .mk (cBlock id f)) f) (fun _ f => Box.rn (fun f => .mk (cLoop f)) f) (fun _ _ _ _ _ _ => .mk cBad)
    (fun id => .mk (cExit id)) (fun _ f => f) (fun _ => .mk cSkip) (fun _ => .mk cBad) (.mk cRet) (fun _ => .mk cBad) c
inductive RV where
  | tmp (t : Nat)
  | one (a : Nat)
  | many (a : Nat) (n : Nat)
structure AF where
  results : List RV
  body : CodeE
noncomputable def cRes (r : ResultVar) : Option RV := match r with
  | .tmp t => some (.tmp t)
  | .cell a t => ifS none (fun b => ifB b (ifS none (fun n => some (.many a n)) (sizeO P t)) (some (.one a))) (aggO P t)
noncomputable def cFunc (f : Func) : Option AF := ifS none (fun rs => ifS none (fun b => Box.rn (fun g => some ⟨rs, g⟩) (cCode P f.ntmps b)) f.body) (allO (cRes P) f.results.toList)
noncomputable def tab (f : Nat) : Option AF := ifS none (fun fn => ifB (fn.name == "runtime.NumGoroutine") none (cFunc P fn)) P.funcs[f]?

noncomputable def fillT (l : List AV) : T AV → Nat → T AV := List.rec (motive := fun _ => T AV → Nat → T AV) (fun t _ => t) (fun v _ g t i => g (t.set i (some v)) (Nat.succ i)) l
noncomputable def res1 (e : Env) (r : RV) : M AV := RV.rec (fun t => M.pure (e.get t)) (fun a => load1At (e.get a)) (fun a n => loadNAt n (e.get a)) r
noncomputable def resA (e : Env) (l : List RV) : M (List AV) := List.rec (M.pure []) (fun r _ g => M.bind (res1 e r) fun v => M.map (fun vs => v :: vs) g) l
noncomputable def one (l : List AV) : AV := ifC (.tuple []) (fun v t => ifC v (fun _ _ => .tuple l) t) l
/-- the deferred calls are all of functions that do nothing where no panic came: 'idle' lists these -/
noncomputable def hasN (n : Nat) (l : List Nat) : Bool := List.rec false (fun a _ r => ifB (Nat.beq a n) true r) l
noncomputable def onePtr (l : List AV) : Bool := ifC false (fun v t => ifC (onPtr false (ifS false fun _ => true) v) (fun _ _ => false) t) l
noncomputable def idleAll (idle : List Nat) (l : List (Nat × List AV)) : Bool := List.rec true (fun q _ r => ifB (ifB (hasN q.1 idle) (onePtr q.2) false) r false) l
noncomputable def keep (c : Nat) (l : Log) : Log := List.rec [] (fun q _ r => ifB (Nat.blt q.1 c) (q :: r) r) l
noncomputable def dropPriv {α : Type} (m : M α) : M α := fun c h => Rs.rec (motive := fun _ => Rs α) .fail (fun a c1 h1 l => .ok a c1 h1 (keep c l)) (m c h)
noncomputable def isExit (x : X) : Bool := X.rec false false (fun _ => true) x
noncomputable def leave (idle : List Nat) (rs : List RV) (r : X × St) : M AV :=
  ifB (isExit r.1) fail (ifB (idleAll idle r.2.defers) (M.map one (resA r.2.env rs)) fail)
noncomputable def enterF (idle : List Nat) (call : Ctx) (args : List AV) (o : Option AF) : M AV :=
  ifS fail (fun fn => dropPriv (M.bind (fn.body call ⟨.base (fillT args .leaf 0), []⟩) (leave idle fn.results))) o
noncomputable def same1 (args : List AV) : M AV := ifC fail (fun v t => ifC (onStr fail (fun s => ifB (Nat.ble (len s) 1048576) (M.pure (.str s)) fail) v) (fun _ _ => fail) t) args
/-- 'same': functions that answer their one string -/
noncomputable def evCall (idle same : List Nat) (d : Nat) : Ctx := Nat.rec (motive := fun _ => Ctx) (fun _ _ => fail) (fun _ g f args => ifB (hasN f same) (same1 args) (enterF idle g args (tab P f))) d
end Go.Sx
namespace Go.Sx

/-- where a name's block lies, and how many cells it has -/
abbrev Ren := Nat → Option (Nat × Nat)

mutual
def VR (ρ : Ren) : AV → Value → Prop
  | .bool b, v => v = .bool b
  | .int k n, v => v = .int k n
  | .str s, v => ∃ b : ByteArray, v = .string b ∧ b.data.toList.map UInt8.toNat = s
  | .ptr none, v => v = .pointer none
  | .ptr (some a), v => ∃ b z, ρ a.1 = some (b, z) ∧ v = .pointer (some ⟨b, a.2, none⟩)
  | .slice none n c _, v => v = .slice none n c
  | .slice (some a) n c z, v => ∃ b s o k, ρ a.1 = some (b, s) ∧ v = .slice (some ⟨b, o, none⟩) n k ∧ c ≤ k ∧ n ≤ c ∧ (k = 0 ∨ o = a.2) ∧ o + k * z ≤ s ∧ k ≤ 9223372036854775807
  | .map none, v => v = .map none
  | .map (some a), v => ∃ b z, ρ a = some (b, z) ∧ v = .map (some b)
  | .fn f a c, v => ∃ x y, v = .func (.func f) x y ∧ VRs ρ a x.toList ∧ VRs ρ c y.toList
  | .nilFn, v => v = .nilFunc
  | .iface t x, v => ∃ y, v = .iface t y ∧ VR ρ x y
  | .nilIface, v => v = .nilIface
  | .agg l, v => ∃ x, v = .agg x ∧ VRs ρ l x.toList
  | .tuple l, v => ∃ x, v = .tuple x ∧ VRs ρ l x.toList
def VRs (ρ : Ren) : List AV → List Value → Prop
  | [], l => l = []
  | a :: x, l => ∃ v r, l = v :: r ∧ VR ρ a v ∧ VRs ρ x r
end

/-- nothing of a name is forgotten -/
def Ren.le (ρ σ : Ren) : Prop := ∀ n p, ρ n = some p → σ n = some p
theorem Ren.le_refl (ρ : Ren) : Ren.le ρ ρ := fun _ _ h => h
theorem Ren.le_trans {ρ σ τ : Ren} (h : Ren.le ρ σ) (k : Ren.le σ τ) : Ren.le ρ τ := fun n p e => k n p (h n p e)

mutual
theorem VR.mono {ρ σ : Ren} (h : Ren.le ρ σ) : ∀ (a : AV) (v : Value), VR ρ a v → VR σ a v
  | .bool _, _, e => by simpa only [VR] using e
  | .int _ _, _, e => by simpa only [VR] using e
  | .str _, _, e => by simpa only [VR] using e
  | .ptr none, _, e => by simpa only [VR] using e
  | .ptr (some _), _, e => by
    simp only [VR] at e ⊢
    obtain ⟨b, z, e, f⟩ := e
    exact ⟨b, z, h _ _ e, f⟩
  | .slice none _ _ _, _, e => by simpa only [VR] using e
  | .slice (some _) _ _ _, _, e => by
    simp only [VR] at e ⊢
    obtain ⟨b, s, o, k, e, f⟩ := e
    exact ⟨b, s, o, k, h _ _ e, f⟩
  | .map none, _, e => by simpa only [VR] using e
  | .map (some _), _, e => by
    simp only [VR] at e ⊢
    obtain ⟨b, z, e, f⟩ := e
    exact ⟨b, z, h _ _ e, f⟩
  | .fn _ a c, _, e => by
    simp only [VR] at e ⊢
    obtain ⟨x, y, e, f, g⟩ := e
    exact ⟨x, y, e, VRs.mono h a _ f, VRs.mono h c _ g⟩
  | .nilFn, _, e => by simpa only [VR] using e
  | .iface _ x, _, e => by
    simp only [VR] at e ⊢
    obtain ⟨y, e, f⟩ := e
    exact ⟨y, e, VR.mono h x _ f⟩
  | .nilIface, _, e => by simpa only [VR] using e
  | .agg l, _, e => by
    simp only [VR] at e ⊢
    obtain ⟨x, e, f⟩ := e
    exact ⟨x, e, VRs.mono h l _ f⟩
  | .tuple l, _, e => by
    simp only [VR] at e ⊢
    obtain ⟨x, e, f⟩ := e
    exact ⟨x, e, VRs.mono h l _ f⟩
theorem VRs.mono {ρ σ : Ren} (h : Ren.le ρ σ) : ∀ (a : List AV) (l : List Value), VRs ρ a l → VRs σ a l
  | [], _, e => by simpa only [VRs] using e
  | a :: x, _, e => by
    simp only [VRs] at e ⊢
    obtain ⟨v, r, e, f, g⟩ := e
    exact ⟨v, r, e, VR.mono h a _ f, VRs.mono h x _ g⟩
end
theorem VRs.nil (ρ : Ren) : VRs ρ [] [] := by simp only [VRs]
theorem VRs.cons {ρ : Ren} {a : AV} {v : Value} {x : List AV} {r : List Value} (h : VR ρ a v) (k : VRs ρ x r) : VRs ρ (a :: x) (v :: r) := by
  simp only [VRs]
  exact ⟨v, r, rfl, h, k⟩
theorem VRs.length {ρ : Ren} : ∀ {a : List AV} {l : List Value}, VRs ρ a l → l.length = a.length
  | [], _, e => by simp only [VRs] at e; subst e; rfl
  | a :: x, _, e => by
    simp only [VRs] at e
    obtain ⟨v, r, rfl, _, g⟩ := e
    simp [VRs.length g]
theorem VRs.append {ρ : Ren} : ∀ {a b : List AV} {l m : List Value}, VRs ρ a l → VRs ρ b m → VRs ρ (a ++ b) (l ++ m)
  | [], _, _, _, e, f => by simp only [VRs] at e; subst e; exact f
  | a :: x, _, _, _, e, f => by
    simp only [VRs] at e
    obtain ⟨v, r, rfl, h, g⟩ := e
    exact VRs.cons h (VRs.append g f)
theorem VRs.get {ρ : Ren} : ∀ {a : List AV} {l : List Value} {i : Nat} {x : AV}, VRs ρ a l → a[i]? = some x → ∃ v, l[i]? = some v ∧ VR ρ x v
  | [], _, _, _, _, h => by simp at h
  | a :: x, _, i, _, e, h => by
    simp only [VRs] at e
    obtain ⟨v, r, rfl, hv, g⟩ := e
    cases i with
    | zero => simp only [List.getElem?_cons_zero, Option.some.injEq] at h; subst h; exact ⟨v, rfl, hv⟩
    | succ i => simp only [List.getElem?_cons_succ] at h ⊢; exact VRs.get g h
theorem VRs.drop {ρ : Ren} : ∀ {a : List AV} {l : List Value} (n : Nat), VRs ρ a l → VRs ρ (a.drop n) (l.drop n)
  | a, l, 0, e => by simpa using e
  | [], _, n + 1, e => by simp only [VRs] at e; subst e; simp [VRs]
  | a :: x, _, n + 1, e => by
    simp only [VRs] at e
    obtain ⟨v, r, rfl, _, g⟩ := e
    exact VRs.drop n g
theorem VRs.take {ρ : Ren} : ∀ {a : List AV} {l : List Value} (n : Nat), VRs ρ a l → VRs ρ (a.take n) (l.take n)
  | a, l, 0, e => by simp [VRs]
  | [], _, n + 1, e => by simp only [VRs] at e; subst e; simp [VRs]
  | a :: x, _, n + 1, e => by
    simp only [VRs] at e
    obtain ⟨v, r, rfl, h, g⟩ := e
    exact VRs.cons h (VRs.take n g)
theorem VRs.set {ρ : Ren} {x : AV} {v : Value} (h : VR ρ x v) : ∀ {a : List AV} {l : List Value} (n : Nat), VRs ρ a l → VRs ρ (a.set n x) (l.set n v)
  | [], _, n, e => by simp only [VRs] at e; subst e; simp [VRs]
  | a :: y, _, 0, e => by
    simp only [VRs] at e
    obtain ⟨u, r, rfl, _, g⟩ := e
    exact VRs.cons h g
  | a :: y, _, n + 1, e => by
    simp only [VRs] at e
    obtain ⟨u, r, rfl, k, g⟩ := e
    exact VRs.cons k (VRs.set h n g)
theorem VR.cells {ρ : Ren} {a : AV} {v : Value} (h : VR ρ a v) : VRs ρ a.cells v.cells.toList := by
  have k := h
  cases a with
  | agg l => simp only [VR] at h; obtain ⟨x, rfl, h⟩ := h; exact h
  | bool b => simp only [VR] at h; subst h; exact VRs.cons k (VRs.nil ρ)
  | int b n => simp only [VR] at h; subst h; exact VRs.cons k (VRs.nil ρ)
  | str s => simp only [VR] at h; obtain ⟨_, rfl, _⟩ := h; exact VRs.cons k (VRs.nil ρ)
  | ptr a => cases a <;> simp only [VR] at h <;> (first | subst h | obtain ⟨_, _, _, rfl⟩ := h) <;> exact VRs.cons k (VRs.nil ρ)
  | slice a n c z => cases a <;> simp only [VR] at h <;> (first | subst h | obtain ⟨_, _, _, _, _, rfl, _⟩ := h) <;> exact VRs.cons k (VRs.nil ρ)
  | map a => cases a <;> simp only [VR] at h <;> (first | subst h | obtain ⟨_, _, _, rfl⟩ := h) <;> exact VRs.cons k (VRs.nil ρ)
  | fn f a c => simp only [VR] at h; obtain ⟨_, _, rfl, _⟩ := h; exact VRs.cons k (VRs.nil ρ)
  | nilFn => simp only [VR] at h; subst h; exact VRs.cons k (VRs.nil ρ)
  | iface t x => simp only [VR] at h; obtain ⟨_, rfl, _⟩ := h; exact VRs.cons k (VRs.nil ρ)
  | nilIface => simp only [VR] at h; subst h; exact VRs.cons k (VRs.nil ρ)
  | tuple l => simp only [VR] at h; obtain ⟨_, rfl, _⟩ := h; exact VRs.cons k (VRs.nil ρ)

section
variable {α β : Type}
theorem ifB_true (x y : α) : ifB true x y = x := rfl
theorem ifB_false (x y : α) : ifB false x y = y := rfl
theorem ifS_none (d : β) (k : α → β) : ifS d k none = d := rfl
theorem ifS_some (d : β) (k : α → β) (a : α) : ifS d k (some a) = k a := rfl
theorem ifC_nil (d : β) (k : α → List α → β) : ifC d k [] = d := rfl
theorem ifC_cons (d : β) (k : α → List α → β) (a : α) (l : List α) : ifC d k (a :: l) = k a l := rfl
theorem T.get_leaf (n : Nat) : (T.leaf : T α).get n = none := rfl
theorem T.get_node (v : Option α) (l r : T α) (n : Nat) : (T.node v l r).get n = if n = 0 then v else if n % 2 = 1 then l.get (n / 2) else r.get (n / 2 - 1) := by
  show Bool.rec (motive := fun _ => Option α) (Bool.rec (motive := fun _ => Option α) (r.get (n / 2 - 1)) (l.get (n / 2)) (Nat.beq (n % 2) 1)) v (Nat.beq n 0) = _
  cases h : Nat.beq n 0
  · have h0 : n ≠ 0 := fun e => by subst e; cases h
    rw [if_neg h0]
    cases k : Nat.beq (n % 2) 1
    · have k0 : n % 2 ≠ 1 := fun e => by rw [e] at k; cases k
      rw [if_neg k0]
    · rw [if_pos (Nat.eq_of_beq_eq_true k)]
  · rw [if_pos (Nat.eq_of_beq_eq_true h)]
theorem T.set_node (v : Option α) (l r : T α) (n : Nat) (x : Option α) : (T.node v l r).set n x = if n = 0 then .node x l r else if n % 2 = 1 then .node v (l.set (n / 2) x) r else .node v l (r.set (n / 2 - 1) x) := by
  show Bool.rec (motive := fun _ => T α) (Bool.rec (motive := fun _ => T α) (.node v l (r.set (n / 2 - 1) x)) (.node v (l.set (n / 2) x) r) (Nat.beq (n % 2) 1)) (.node x l r) (Nat.beq n 0) = _
  cases h : Nat.beq n 0
  · have h0 : n ≠ 0 := fun e => by subst e; cases h
    rw [if_neg h0]
    cases k : Nat.beq (n % 2) 1
    · have k0 : n % 2 ≠ 1 := fun e => by rw [e] at k; cases k
      rw [if_neg k0]
    · rw [if_pos (Nat.eq_of_beq_eq_true k)]
  · rw [if_pos (Nat.eq_of_beq_eq_true h)]
theorem T.set1_succ (x : Option α) (f n : Nat) : T.set1 x (f + 1) n = if n = 0 then .node x .leaf .leaf else if n % 2 = 1 then .node none (T.set1 x f (n / 2)) .leaf else .node none .leaf (T.set1 x f (n / 2 - 1)) := by
  show Bool.rec (motive := fun _ => T α) (Bool.rec (motive := fun _ => T α) (.node none .leaf (T.set1 x f (n / 2 - 1))) (.node none (T.set1 x f (n / 2)) .leaf) (Nat.beq (n % 2) 1)) (.node x .leaf .leaf) (Nat.beq n 0) = _
  cases h : Nat.beq n 0
  · have h0 : n ≠ 0 := fun e => by subst e; cases h
    rw [if_neg h0]
    cases k : Nat.beq (n % 2) 1
    · have k0 : n % 2 ≠ 1 := fun e => by rw [e] at k; cases k
      rw [if_neg k0]
    · rw [if_pos (Nat.eq_of_beq_eq_true k)]
  · rw [if_pos (Nat.eq_of_beq_eq_true h)]
theorem T.get_set1 (x : Option α) : ∀ (f n : Nat), n < f → ∀ m, (T.set1 x f n).get m = if m = n then x else none
  | 0, n, h, _ => absurd h (Nat.not_lt_zero n)
  | f + 1, n, h, m => by
    rw [T.set1_succ]
    by_cases h0 : n = 0
    · rw [if_pos h0, T.get_node]
      subst h0
      by_cases hm : m = 0
      · rw [if_pos hm, if_pos hm]
      · rw [if_neg hm, if_neg hm, T.get_leaf, T.get_leaf]
        simp
    · rw [if_neg h0]
      by_cases h1 : n % 2 = 1
      · rw [if_pos h1, T.get_node, T.get_leaf]
        by_cases hm : m = 0
        · rw [if_pos hm, if_neg (by omega)]
        rw [if_neg hm]
        by_cases m1 : m % 2 = 1
        · rw [if_pos m1, T.get_set1 x f (n / 2) (by omega)]
          by_cases e : m = n
          · rw [if_pos e, if_pos (by rw [e])]
          · rw [if_neg e, if_neg (by omega)]
        · rw [if_neg m1, if_neg (by omega)]
      · rw [if_neg h1, T.get_node, T.get_leaf]
        by_cases hm : m = 0
        · rw [if_pos hm, if_neg (by omega)]
        rw [if_neg hm]
        by_cases m1 : m % 2 = 1
        · rw [if_pos m1, if_neg (by omega)]
        · rw [if_neg m1, T.get_set1 x f (n / 2 - 1) (by omega)]
          by_cases e : m = n
          · rw [if_pos e, if_pos (by rw [e])]
          · rw [if_neg e, if_neg (by omega)]
theorem T.get_set (x : Option α) : ∀ (t : T α) (n m : Nat), (t.set n x).get m = if m = n then x else t.get m
  | .leaf, n, m => by
    show (T.set1 x (n + 1) n).get m = _
    rw [T.get_set1 x (n + 1) n (Nat.lt_succ_self n), T.get_leaf]
  | .node v l r, n, m => by
    rw [T.set_node]
    by_cases h0 : n = 0
    · rw [if_pos h0, T.get_node, T.get_node]
      by_cases hm : m = 0
      · rw [if_pos hm, if_pos (by omega)]
      · rw [if_neg hm, if_neg (show ¬ m = n by omega), if_neg hm]
    · rw [if_neg h0]
      by_cases h1 : n % 2 = 1
      · rw [if_pos h1, T.get_node, T.get_node]
        by_cases hm : m = 0
        · rw [if_pos hm, if_pos hm, if_neg (by omega)]
        rw [if_neg hm, if_neg hm]
        by_cases m1 : m % 2 = 1
        · rw [if_pos m1, if_pos m1, T.get_set x l]
          by_cases e : m = n
          · rw [if_pos e, if_pos (by rw [e])]
          · rw [if_neg e, if_neg (by omega)]
        · rw [if_neg m1, if_neg m1, if_neg (by omega)]
      · rw [if_neg h1, T.get_node, T.get_node]
        by_cases hm : m = 0
        · rw [if_pos hm, if_pos hm, if_neg (by omega)]
        rw [if_neg hm, if_neg hm]
        by_cases m1 : m % 2 = 1
        · rw [if_pos m1, if_pos m1, if_neg (by omega)]
        · rw [if_neg m1, if_neg m1, T.get_set x r]
          by_cases e : m = n
          · rw [if_pos e, if_pos (by rw [e])]
          · rw [if_neg e, if_neg (by omega)]
end
theorem dropN_eq : ∀ (n : Nat) (l : List AV), dropN n l = l.drop n
  | 0, _ => rfl
  | _ + 1, [] => rfl
  | n + 1, _ :: l => dropN_eq n l
theorem takeN_eq : ∀ (n : Nat) (l r : List AV), takeN n l = some r → r = l.take n ∧ n ≤ l.length
  | 0, _, r, h => by cases h; exact ⟨rfl, Nat.zero_le _⟩
  | n + 1, [], r, h => by cases h
  | n + 1, a :: l, r, h => by
    have h : ifS none (fun r => some (a :: r)) (takeN n l) = some r := h
    cases k : takeN n l with
    | none => rw [k] at h; cases h
    | some q =>
      rw [k] at h
      cases h
      obtain ⟨rfl, e⟩ := takeN_eq n l q k
      exact ⟨rfl, Nat.succ_le_succ e⟩
theorem putL_eq : ∀ (vs cs r : List AV), putL vs cs = some r → r = vs ++ cs.drop vs.length ∧ vs.length ≤ cs.length
  | [], _, r, h => by cases h; exact ⟨rfl, Nat.zero_le _⟩
  | _ :: _, [], r, h => by cases h
  | v :: vs, _ :: cs, r, h => by
    have h : ifS none (fun r => some (v :: r)) (putL vs cs) = some r := h
    cases k : putL vs cs with
    | none => rw [k] at h; cases h
    | some q =>
      rw [k] at h
      cases h
      obtain ⟨rfl, e⟩ := putL_eq vs cs q k
      exact ⟨rfl, Nat.succ_le_succ e⟩
theorem putAt_eq (vs : List AV) : ∀ (n : Nat) (cs r : List AV), putAt vs n cs = some r → r = cs.take n ++ (vs ++ cs.drop (n + vs.length)) ∧ n + vs.length ≤ cs.length
  | 0, cs, r, h => by
    obtain ⟨rfl, e⟩ := putL_eq vs cs r h
    simpa using e
  | n + 1, [], r, h => by cases h
  | n + 1, a :: cs, r, h => by
    have h : ifS none (fun r => some (a :: r)) (putAt vs n cs) = some r := h
    cases k : putAt vs n cs with
    | none => rw [k] at h; cases h
    | some q =>
      rw [k] at h
      cases h
      obtain ⟨rfl, e⟩ := putAt_eq vs n cs q k
      refine ⟨?_, by simp only [List.length_cons]; omega⟩
      have : n + 1 + vs.length = n + vs.length + 1 := by omega
      rw [this]
      rfl
theorem len_eq {α : Type} : ∀ (l : List α), len l = l.length
  | [] => rfl
  | _ :: l => congrArg Nat.succ (len_eq l)
end Go.Sx
namespace Go.Sx
open Go.RowKit

def ERs (ρ : Ren) : List (AV × AV × Nat) → List MapEntry → Prop
  | [], l => l = []
  | q :: x, l => ∃ e r, l = e :: r ∧ VR ρ q.1 e.key ∧ VR ρ q.2.1 e.val ∧ e.born = q.2.2 ∧ ERs ρ x r
theorem ERs.mono {ρ σ : Ren} (h : Ren.le ρ σ) : ∀ (x : List (AV × AV × Nat)) (l : List MapEntry), ERs ρ x l → ERs σ x l
  | [], _, e => e
  | _ :: x, _, ⟨e, r, h1, h2, h3, h4, h5⟩ => ⟨e, r, h1, VR.mono h _ _ h2, VR.mono h _ _ h3, h4, ERs.mono h x r h5⟩
/-- the object of a name, in the block b of s cells -/
def OR (ρ : Ren) (w : World) (b s : Nat) : AO → Prop
  | .row cs => ∃ arr e lo hi l rest, w.heap[b]? = some (.cells arr e (lo, hi)) ∧ arr.size = s ∧ arr.toList = l ++ rest ∧ VRs ρ cs l ∧ ∀ i, i < s → ¬ (lo ≤ i ∧ i < hi)
  | .mp es k => ∃ a, w.heap[b]? = some (.map a k) ∧ ERs ρ es a.toList
theorem OR.mono {ρ σ : Ren} (h : Ren.le ρ σ) {w w' : World} {b s : Nat} (hb : w'.heap[b]? = w.heap[b]?) : ∀ {o : AO}, OR ρ w b s o → OR σ w' b s o
  | .row _, ⟨arr, e, lo, hi, l, rest, h1, h2, h3, h4, h5⟩ => ⟨arr, e, lo, hi, l, rest, hb.trans h1, h2, h3, VRs.mono h _ _ h4, h5⟩
  | .mp _ _, ⟨a, h1, h2⟩ => ⟨a, hb.trans h1, ERs.mono h _ _ h2⟩
theorem OR.lt {ρ : Ren} {w : World} {b s : Nat} {o : AO} (h : OR ρ w b s o) : b < w.heap.size := by
  have : ∃ x, w.heap[b]? = some x := by
    cases o with
    | row cs => obtain ⟨arr, e, lo, hi, l, rest, h1, _⟩ := h; exact ⟨_, h1⟩
    | mp es k => obtain ⟨a, h1, _⟩ := h; exact ⟨_, h1⟩
  obtain ⟨x, hx⟩ := this
  rcases Nat.lt_or_ge b w.heap.size with h | h
  · exact h
  · rw [Array.getElem?_eq_none h] at hx; cases hx
structure Rel (ρ : Ren) (h : H) (w : World) : Prop where
  lies : ∀ n o, h.get n = some o → ∃ b s, ρ n = some (b, s) ∧ OR ρ w b s o
  alone : ∀ n m o p b s t, h.get n = some o → h.get m = some p → ρ n = some (b, s) → ρ m = some (b, t) → n = m
/-- a run from h to h', that makes the names from c to c' -/
structure Post (ρ : Ren) (h : H) (w : World) (c c' : Nat) (ρ' : Ren) (h' : H) (w' : World) : Prop where
  rel : Rel ρ' h' w'
  ext : ∀ n, ¬ (c ≤ n ∧ n < c') → ρ' n = ρ n
  os : w'.os = w.os
  tape : w'.tape = w.tape
  output : w'.output = w.output
  size : w.heap.size ≤ w'.heap.size
  old : ∀ b, b < w.heap.size → (∀ n o s, h.get n = some o → ρ n ≠ some (b, s)) → w'.heap[b]? = w.heap[b]?
  new : ∀ n o b s, h'.get n = some o → ρ' n = some (b, s) → b < w.heap.size → ∃ m p t, h.get m = some p ∧ ρ m = some (b, t)
/-- the names from c to c' are free -/
def Free (ρ : Ren) (c c' : Nat) : Prop := ∀ n, c ≤ n → n < c' → ρ n = none
theorem Post.le {ρ : Ren} {h : H} {w : World} {c c' : Nat} {ρ' : Ren} {h' : H} {w' : World} (p : Post ρ h w c c' ρ' h' w') (f : Free ρ c c') : Ren.le ρ ρ' := by
  intro n q e
  rw [p.ext n (fun ⟨h1, h2⟩ => by rw [f n h1 h2] at e; cases e)]
  exact e
theorem Post.refl {ρ : Ren} {h : H} {w : World} {c : Nat} (r : Rel ρ h w) : Post ρ h w c c ρ h w :=
  ⟨r, fun _ _ => rfl, rfl, rfl, rfl, Nat.le_refl _, fun _ _ _ => rfl, fun n o _ s h1 h2 _ => ⟨n, o, s, h1, h2⟩⟩
theorem Post.trans {ρ : Ren} {h : H} {w : World} {c c1 c2 : Nat} {ρ1 : Ren} {h1 : H} {w1 : World} {ρ2 : Ren} {h2 : H} {w2 : World}
    (p : Post ρ h w c c1 ρ1 h1 w1) (q : Post ρ1 h1 w1 c1 c2 ρ2 h2 w2) (k : c ≤ c1) (m : c1 ≤ c2) : Post ρ h w c c2 ρ2 h2 w2 where
  rel := q.rel
  ext n hn := by rw [q.ext n (by omega), p.ext n (by omega)]
  os := q.os.trans p.os
  tape := q.tape.trans p.tape
  output := q.output.trans p.output
  size := Nat.le_trans p.size q.size
  old b hb hn := by
    rw [q.old b (Nat.lt_of_lt_of_le hb p.size) (fun n o s e f => ?_), p.old b hb hn]
    obtain ⟨m, o', t, e', f'⟩ := p.new n o b s e f hb
    exact hn m o' t e' f'
  new n o b s e f hb := by
    obtain ⟨m, o', t, e', f'⟩ := q.new n o b s e f (Nat.lt_of_lt_of_le hb p.size)
    exact p.new m o' b t e' f' hb
theorem Rel.drew {ρ : Ren} {h : H} {w : World} (r : Rel ρ h w) (n : Nat) : Rel ρ h { w with drawn := n } :=
  ⟨fun n o e => by obtain ⟨b, s, f, g⟩ := r.lies n o e; exact ⟨b, s, f, OR.mono (Ren.le_refl ρ) rfl g⟩, r.alone⟩
theorem Post.drawn {ρ : Ren} {h : H} {w : World} {c c' : Nat} {ρ' : Ren} {h' : H} {w' : World} (p : Post ρ h w c c' ρ' h' w') (n : Nat) : Post ρ h w c c' ρ' h' { w' with drawn := n } :=
  ⟨p.rel.drew n, p.ext, p.os, p.tape, p.output, p.size, p.old, p.new⟩
theorem Post.from_drawn {ρ : Ren} {h : H} {w : World} {c c' : Nat} {ρ' : Ren} {h' : H} {w' : World} {n : Nat} (p : Post ρ h { w with drawn := n } c c' ρ' h' w') : Post ρ h w c c' ρ' h' w' :=
  ⟨p.rel, p.ext, p.os, p.tape, p.output, p.size, p.old, p.new⟩

theorem rowOf_some {h : H} {n : Nat} {cs : List AV} (e : rowOf h n = some cs) : h.get n = some (.row cs) := by
  have e : ifS none AO.row? (h.get n) = some cs := e
  cases k : h.get n with
  | none => rw [k] at e; cases e
  | some o =>
    rw [k] at e
    cases o with
    | row x => cases e; rfl
    | mp es q => cases e
/-- the cells of a row -/
theorem Rel.cells {ρ : Ren} {h : H} {w : World} (r : Rel ρ h w) {n : Nat} {cs : List AV} (e : h.get n = some (.row cs)) :
    ∃ b s, ρ n = some (b, s) ∧ cs.length ≤ s ∧ (∀ i, i < s → (w.cell? ⟨b, i, none⟩).isSome = true ∧ w.frozen? ⟨b, i, none⟩ = false) ∧
      ∀ i x, cs[i]? = some x → ∃ v, w.cell? ⟨b, i, none⟩ = some v ∧ VR ρ x v := by
  obtain ⟨b, s, f, arr, t, lo, hi, l, rest, h1, h2, h3, h4, h5⟩ := r.lies n _ e
  have hlen := h4.length
  have hsz : arr.size = l.length + rest.length := by rw [← Array.length_toList, h3, List.length_append]
  refine ⟨b, s, f, by omega, fun i hi' => ⟨?_, ?_⟩, fun i x hx => ?_⟩
  · simp [World.cell?, h1, h2, hi']
  · have := h5 i hi'
    simp only [World.frozen?, h1]
    simp only [Bool.and_eq_false_iff, decide_eq_false_iff_not]
    omega
  · obtain ⟨v, hv, k⟩ := h4.get hx
    refine ⟨v, ?_, k⟩
    have hl : i < l.length := by
      rcases Nat.lt_or_ge i l.length with hh | hh
      · exact hh
      · rw [List.getElem?_eq_none hh] at hv; cases hv
    simp only [World.cell?, h1, Option.isSome_none, Bool.false_eq_true, if_false]
    rw [← Array.getElem?_toList, h3, List.getElem?_append_left hl, hv]
/-- the cells of the block of a row, behind a store of several -/
theorem setCells_block (b : Nat) (e : TypeId) (f : Nat × Nat) : ∀ (vs : List Value) (o : Nat) (w : World) (arr : Array Value), w.heap[b]? = some (.cells arr e f) → o + vs.length ≤ arr.size →
    ∃ arr', (w.setCells b o vs).heap[b]? = some (.cells arr' e f) ∧ arr'.size = arr.size ∧ arr'.toList = arr.toList.take o ++ (vs ++ arr.toList.drop (o + vs.length))
  | [], o, w, arr, h, _ => ⟨arr, h, rfl, by simp⟩
  | v :: vs, o, w, arr, h, k => by
    simp only [List.length_cons] at k
    have h1 : (w.setCell ⟨b, o, none⟩ v).heap[b]? = some (.cells (arr.setIfInBounds o v) e f) := by
      simp only [World.setCell, Array.getElem?_modify, h]
      simp
    obtain ⟨arr', h2, h3, h4⟩ := setCells_block b e f vs (o + 1) (w.setCell ⟨b, o, none⟩ v) _ h1 (by simp; omega)
    refine ⟨arr', h2, by simpa using h3, ?_⟩
    rw [h4]
    have ho : o < arr.toList.length := by rw [Array.length_toList]; omega
    simp only [Array.toList_setIfInBounds, List.length_cons]
    rw [show o + (vs.length + 1) = o + 1 + vs.length by omega]
    rw [List.drop_set_of_lt (by omega), List.set_eq_take_append_cons_drop, if_pos ho]
    rw [List.take_append, List.take_take]
    simp only [List.length_take, List.cons_append, List.append_assoc]
    rw [show min (o + 1) o = o by omega, show o + 1 - min o arr.toList.length = 1 by omega]
    simp
theorem setCells_other (b : Nat) : ∀ (vs : List Value) (o : Nat) (w : World) (k : Nat), k ≠ b → (w.setCells b o vs).heap[k]? = w.heap[k]?
  | [], _, _, _, _ => rfl
  | v :: vs, o, w, k, h => by
    have h1 := setCells_other b vs (o + 1) (w.setCell ⟨b, o, none⟩ v) k h
    exact h1.trans (Below.heap_setCell w ⟨b, o, none⟩ v k h)
theorem setCells_rest (b : Nat) : ∀ (vs : List Value) (o : Nat) (w : World), (w.setCells b o vs).os = w.os ∧ (w.setCells b o vs).tape = w.tape ∧ (w.setCells b o vs).output = w.output ∧ (w.setCells b o vs).heap.size = w.heap.size
  | [], _, _ => ⟨rfl, rfl, rfl, rfl⟩
  | v :: vs, o, w => by
    obtain ⟨h1, h2, h3, h4⟩ := setCells_rest b vs (o + 1) (w.setCell ⟨b, o, none⟩ v)
    exact ⟨h1, h2, h3, h4.trans (by simp [World.setCell])⟩
/-- a store into a row -/
theorem Rel.store {ρ : Ren} {h : H} {w : World} (r : Rel ρ h w) {n off c : Nat} {cs q : List AV} {vs : List AV} {l : List Value} (e : h.get n = some (.row cs)) (hv : VRs ρ vs l)
    (hq : q = cs.take off ++ (vs ++ cs.drop (off + vs.length))) (hl : off + vs.length ≤ cs.length) :
    ∃ b s, ρ n = some (b, s) ∧ Post ρ h w c c ρ (h.set n (some (.row q))) (w.setCells b off l) := by
  obtain ⟨b, s, f, arr, t, lo, hi, k, rest, h1, h2, h3, h4, h5⟩ := r.lies n _ e
  have hlen := h4.length
  have hlv := hv.length
  have hsz : arr.size = k.length + rest.length := by rw [← Array.length_toList, h3, List.length_append]
  obtain ⟨arr', g1, g2, g3⟩ := setCells_block b t (lo, hi) l off w arr h1 (by omega)
  obtain ⟨o1, o2, o3, o4⟩ := setCells_rest b l off w
  refine ⟨b, s, f, ⟨⟨fun m o em => ?_, fun m1 m2 p1 p2 b' s' t' e1 e2 f1 f2 => ?_⟩, fun _ _ => rfl, o1, o2, o3, Nat.le_of_eq o4.symm, fun b' _ hn => ?_, fun m o b' s' e1 f1 _ => ?_⟩⟩
  · rw [T.get_set] at em
    by_cases hm : m = n
    · rw [if_pos hm] at em
      cases em
      subst hm
      refine ⟨b, s, f, arr', t, lo, hi, k.take off ++ (l ++ k.drop (off + l.length)), rest, g1, g2.trans h2, ?_, ?_, h5⟩
      · rw [g3, h3, List.take_append_of_le_length (by omega), List.drop_append_of_le_length (by omega)]
        simp only [List.append_assoc]
      · rw [hq]
        exact (VRs.take _ h4).append (hv.append (by rw [hlv]; exact VRs.drop _ h4))
    · rw [if_neg hm] at em
      obtain ⟨b', s', f', g⟩ := r.lies m o em
      refine ⟨b', s', f', OR.mono (Ren.le_refl ρ) (setCells_other b l off w b' fun eb => ?_) g⟩
      subst eb
      exact hm (r.alone m n _ _ _ _ _ em e f' f)
  · rw [T.get_set] at e1 e2
    have l1 : ∃ o, h.get m1 = some o := by
      by_cases hm : m1 = n
      · exact ⟨_, hm ▸ e⟩
      · rw [if_neg hm] at e1; exact ⟨_, e1⟩
    have l2 : ∃ o, h.get m2 = some o := by
      by_cases hm : m2 = n
      · exact ⟨_, hm ▸ e⟩
      · rw [if_neg hm] at e2; exact ⟨_, e2⟩
    obtain ⟨_, l1⟩ := l1
    obtain ⟨_, l2⟩ := l2
    exact r.alone m1 m2 _ _ _ _ _ l1 l2 f1 f2
  · exact setCells_other b l off w b' fun eb => hn n _ s e (eb ▸ f)
  · rw [T.get_set] at e1
    by_cases hm : m = n
    · exact ⟨n, _, _, e, hm ▸ f1⟩
    · rw [if_neg hm] at e1; exact ⟨m, _, _, e1, f1⟩
def Ren.put (ρ : Ren) (c : Nat) (p : Nat × Nat) : Ren := fun n => if n = c then some p else ρ n
theorem Ren.put_same (ρ : Ren) (c : Nat) (p : Nat × Nat) : ρ.put c p c = some p := if_pos rfl
theorem Ren.put_other (ρ : Ren) {c n : Nat} (p : Nat × Nat) (h : n ≠ c) : ρ.put c p n = ρ n := if_neg h
theorem Ren.le_put {ρ : Ren} {c : Nat} (p : Nat × Nat) (h : ρ c = none) : Ren.le ρ (ρ.put c p) := fun n q e => by
  rw [Ren.put_other ρ p (fun hn => by rw [hn, h] at e; cases e)]
  exact e
/-- a new block -/
theorem Rel.new {ρ : Ren} {h : H} {w : World} (r : Rel ρ h w) {c s : Nat} (hc : ρ c = none) {obj : Obj} {o : AO}
    (ho : OR (ρ.put c (w.heap.size, s)) (w.alloc obj) w.heap.size s o) :
    Post ρ h w c (c + 1) (ρ.put c (w.heap.size, s)) (h.set c (some o)) (w.alloc obj) := by
  have hle := Ren.le_put (w.heap.size, s) hc
  have hn0 : ∀ m p, h.get m = some p → m ≠ c := fun m p e hm => by
    obtain ⟨b, t, f, _⟩ := r.lies m p e
    rw [hm, hc] at f
    cases f
  have hlt : ∀ m p b t, h.get m = some p → ρ m = some (b, t) → b < w.heap.size := fun m p b t e f => by
    obtain ⟨b', t', f', g⟩ := r.lies m p e
    rw [f] at f'
    cases f'
    exact g.lt
  refine ⟨⟨fun m p em => ?_, fun m1 m2 p1 p2 b s1 s2 e1 e2 f1 f2 => ?_⟩, fun n hn => ?_, rfl, rfl, rfl, by show w.heap.size ≤ (w.heap.push obj).size; simp, fun b hb _ => ?_, fun m p b t em f hb => ?_⟩
  · rw [T.get_set] at em
    by_cases hm : m = c
    · rw [if_pos hm] at em
      cases em
      exact ⟨_, s, by rw [hm, Ren.put_same], ho⟩
    · rw [if_neg hm] at em
      obtain ⟨b, t, f, g⟩ := r.lies m p em
      exact ⟨b, t, hle _ _ f, OR.mono hle (Below.heap_alloc w obj b g.lt) g⟩
  · rw [T.get_set] at e1 e2
    by_cases h1 : m1 = c
    · by_cases h2 : m2 = c
      · rw [h1, h2]
      · rw [if_neg h2] at e2
        rw [h1, Ren.put_same] at f1
        rw [Ren.put_other ρ _ h2] at f2
        cases f1
        exact absurd (hlt m2 _ _ _ e2 f2) (Nat.lt_irrefl _)
    · rw [if_neg h1] at e1
      rw [Ren.put_other ρ _ h1] at f1
      by_cases h2 : m2 = c
      · rw [h2, Ren.put_same] at f2
        cases f2
        exact absurd (hlt m1 _ _ _ e1 f1) (Nat.lt_irrefl _)
      · rw [if_neg h2] at e2
        rw [Ren.put_other ρ _ h2] at f2
        exact r.alone m1 m2 _ _ _ _ _ e1 e2 f1 f2
  · exact Ren.put_other ρ _ (by omega)
  · exact Below.heap_alloc w obj b hb
  · rw [T.get_set] at em
    by_cases hm : m = c
    · rw [hm, Ren.put_same] at f
      cases f
      exact absurd hb (Nat.lt_irrefl _)
    · rw [if_neg hm] at em
      rw [Ren.put_other ρ _ hm] at f
      exact ⟨m, p, t, em, f⟩
/-- a name is given up -/
theorem Rel.kill {ρ : Ren} {h : H} {w : World} (r : Rel ρ h w) (n : Nat) : Rel ρ (h.set n none) w := by
  have key : ∀ m p, (h.set n none).get m = some p → h.get m = some p := fun m p e => by
    rw [T.get_set] at e
    by_cases hm : m = n
    · rw [if_pos hm] at e; cases e
    · rw [if_neg hm] at e; exact e
  exact ⟨fun m p e => r.lies m p (key m p e), fun m1 m2 p1 p2 b s t e1 e2 => r.alone m1 m2 p1 p2 b s t (key _ _ e1) (key _ _ e2)⟩
theorem Post.kill {ρ : Ren} {h : H} {w : World} (r : Rel ρ h w) (n c : Nat) : Post ρ h w c c ρ (h.set n none) w :=
  ⟨r.kill n, fun _ _ => rfl, rfl, rfl, rfl, Nat.le_refl _, fun _ _ _ => rfl, fun m o b s e f _ => by
    rw [T.get_set] at e
    by_cases hm : m = n
    · rw [if_pos hm] at e; cases e
    · rw [if_neg hm] at e; exact ⟨m, o, s, e, f⟩⟩
/-- the block of a name given up has another name: an append in place -/
theorem Rel.reuse {ρ : Ren} {h : H} {w : World} (r : Rel ρ h w) {n c k : Nat} {cs vs : List AV} {l : List Value} (e : h.get n = some (.row cs)) (hc : ρ c = none) (hv : VRs ρ vs l) (hk : k ≤ cs.length) :
    ∃ b s, ρ n = some (b, s) ∧ (k + l.length ≤ s → Post ρ h w c (c + 1) (ρ.put c (b, s)) ((h.set n none).set c (some (.row (cs.take k ++ vs)))) (w.setCells b k l)) := by
  obtain ⟨b, s, f, arr, t, lo, hi, q, rest, h1, h2, h3, h4, h5⟩ := r.lies n _ e
  refine ⟨b, s, f, fun hs => ?_⟩
  have hle := Ren.le_put (b, s) hc
  have hlen := h4.length
  obtain ⟨arr', g1, g2, g3⟩ := setCells_block b t (lo, hi) l k w arr h1 (by omega)
  obtain ⟨o1, o2, o3, o4⟩ := setCells_rest b l k w
  have hnc : n ≠ c := fun he => by rw [← he, f] at hc; cases hc
  have key : ∀ m p, m ≠ c → ((h.set n none).set c (some (.row (cs.take k ++ vs)))).get m = some p → h.get m = some p ∧ m ≠ n := fun m p hm em => by
    rw [T.get_set, if_neg hm, T.get_set] at em
    by_cases hn : m = n
    · rw [if_pos hn] at em; cases em
    · rw [if_neg hn] at em; exact ⟨em, hn⟩
  refine ⟨⟨fun m p em => ?_, fun m1 m2 p1 p2 b' s1 s2 e1 e2 f1 f2 => ?_⟩, fun m hm => Ren.put_other ρ _ (by omega), o1, o2, o3, Nat.le_of_eq o4.symm, fun b' hb hn => ?_, fun m p b' t' em f' hb => ?_⟩
  · by_cases hm : m = c
    · rw [T.get_set, if_pos hm] at em
      cases em
      refine ⟨b, s, by rw [hm, Ren.put_same], arr', t, lo, hi, q.take k ++ l, arr.toList.drop (k + l.length), g1, g2.trans h2, ?_, VRs.mono hle _ _ ((VRs.take _ h4).append hv), h5⟩
      rw [g3, h3, List.take_append_of_le_length (by omega), List.append_assoc]
    · obtain ⟨em, hn⟩ := key m p hm em
      obtain ⟨b', s', f', g⟩ := r.lies m p em
      refine ⟨b', s', hle _ _ f', OR.mono hle (setCells_other b l k w b' fun eb => ?_) g⟩
      subst eb
      exact hn (r.alone m n _ _ _ _ _ em e f' f)
  · by_cases h1 : m1 = c
    · by_cases h2 : m2 = c
      · rw [h1, h2]
      · obtain ⟨e2, hn⟩ := key m2 _ h2 e2
        rw [h1, Ren.put_same] at f1
        rw [Ren.put_other ρ _ h2] at f2
        cases f1
        exact absurd (r.alone m2 n _ _ _ _ _ e2 e f2 f) hn
    · obtain ⟨e1, hn1⟩ := key m1 _ h1 e1
      rw [Ren.put_other ρ _ h1] at f1
      by_cases h2 : m2 = c
      · rw [h2, Ren.put_same] at f2
        cases f2
        exact absurd (r.alone m1 n _ _ _ _ _ e1 e f1 f) hn1
      · obtain ⟨e2, _⟩ := key m2 _ h2 e2
        rw [Ren.put_other ρ _ h2] at f2
        exact r.alone m1 m2 _ _ _ _ _ e1 e2 f1 f2
  · exact setCells_other b l k w b' fun eb => hn n _ s e (eb ▸ f)
  · by_cases hm : m = c
    · rw [hm, Ren.put_same] at f'
      cases f'
      exact ⟨n, _, s, e, f⟩
    · obtain ⟨em, _⟩ := key m p hm em
      rw [Ren.put_other ρ _ hm] at f'
      exact ⟨m, p, t', em, f'⟩
/-- a map is written -/
theorem Rel.setMap {ρ : Ren} {h : H} {w : World} (r : Rel ρ h w) {n c : Nat} {es es' : List (AV × AV × Nat)} {k k' : Nat} {a' : Array MapEntry} (e : h.get n = some (.mp es k)) (he : ERs ρ es' a'.toList) :
    ∃ b s a, ρ n = some (b, s) ∧ w.heap[b]? = some (.map a k) ∧ ERs ρ es a.toList ∧ Post ρ h w c c ρ (h.set n (some (.mp es' k'))) { w with heap := w.heap.setIfInBounds b (.map a' k') } := by
  obtain ⟨b, s, f, a, h1, h2⟩ := r.lies n _ e
  have hb : b < w.heap.size := OR.lt (ρ := ρ) (s := s) (o := .mp es k) ⟨a, h1, h2⟩
  have key : ∀ m p, m ≠ n → (h.set n (some (AO.mp es' k'))).get m = some p → h.get m = some p := fun m p hm em => by rw [T.get_set, if_neg hm] at em; exact em
  have oth : ∀ b', b' ≠ b → (w.heap.setIfInBounds b (Obj.map a' k'))[b']? = w.heap[b']? := fun b' hb' => Array.getElem?_setIfInBounds_ne (Ne.symm hb')
  have lv : ∀ m p, (h.set n (some (AO.mp es' k'))).get m = some p → ∃ q, h.get m = some q := fun m p em => by
    by_cases hm : m = n
    · exact ⟨_, hm ▸ e⟩
    · exact ⟨_, key m p hm em⟩
  refine ⟨b, s, a, f, h1, h2, ⟨⟨fun m p em => ?_, fun m1 m2 p1 p2 b' s1 s2 e1 e2 f1 f2 => ?_⟩, fun _ _ => rfl, rfl, rfl, rfl, by simp, fun b' _ hn => oth b' fun eb => hn n _ s e (eb ▸ f), fun m p b' t' em f' _ => ?_⟩⟩
  · by_cases hm : m = n
    · rw [T.get_set, if_pos hm] at em
      cases em
      exact ⟨b, s, hm ▸ f, a', by simp [hb], he⟩
    · have em := key m p hm em
      obtain ⟨b', s', f', g⟩ := r.lies m p em
      refine ⟨b', s', f', OR.mono (Ren.le_refl ρ) (oth b' fun eb => ?_) g⟩
      subst eb
      exact hm (r.alone m n _ _ _ _ _ em e f' f)
  · obtain ⟨_, l1⟩ := lv m1 _ e1
    obtain ⟨_, l2⟩ := lv m2 _ e2
    exact r.alone m1 m2 _ _ _ _ _ l1 l2 f1 f2
  · obtain ⟨_, l1⟩ := lv m _ em
    exact ⟨m, _, _, l1, f'⟩
end Go.Sx
namespace Go.Sx
open Go.RowKit

section
variable {α β : Type} {c c' : Nat} {h h' : H} {l : Log} {x : β}
theorem pure_ok {a : α} {x : α} (e : M.pure a c h = .ok x c' h' l) : x = a ∧ c' = c ∧ h' = h ∧ l = [] := by cases e; exact ⟨rfl, rfl, rfl, rfl⟩
theorem fail_ok {x : α} (e : (fail : M α) c h = .ok x c' h' l) : False := by cases e
theorem map_ok {f : α → β} {m : M α} (e : M.map f m c h = .ok x c' h' l) : ∃ a, m c h = .ok a c' h' l ∧ x = f a := by
  have e : Rs.rec (motive := fun _ => Rs β) .fail (fun a c h l => .ok (f a) c h l) (m c h) = .ok x c' h' l := e
  cases k : m c h with
  | fail => rw [k] at e; cases e
  | ok a c1 h1 l1 => rw [k] at e; cases e; exact ⟨a, rfl, rfl⟩
theorem bind_ok {m : M α} {k : α → M β} (e : M.bind m k c h = .ok x c' h' l) : ∃ a c1 h1 l1 l2, m c h = .ok a c1 h1 l1 ∧ k a c1 h1 = .ok x c' h' l2 ∧ l = l1 ++ l2 := by
  have e : Rs.andThen k (m c h) = .ok x c' h' l := e
  cases q : m c h with
  | fail => rw [q] at e; cases e
  | ok a c1 h1 l1 =>
    rw [q] at e
    have e : Rs.rec (motive := fun _ => Rs β) .fail (fun b c h l2 => .ok b c h (List.append l1 l2)) (k a c1 h1) = .ok x c' h' l := e
    cases r : k a c1 h1 with
    | fail => rw [r] at e; cases e
    | ok b c2 h2 l2 => rw [r] at e; cases e; exact ⟨a, c1, h1, l1, l2, rfl, r, rfl⟩
theorem ifB_ok {b : Bool} {m : M β} (e : ifB b m fail c h = .ok x c' h' l) : b = true ∧ m c h = .ok x c' h' l := by
  cases b
  · cases e
  · exact ⟨rfl, e⟩
theorem ifS_ok {o : Option α} {k : α → M β} (e : ifS fail k o c h = .ok x c' h' l) : ∃ a, o = some a ∧ k a c h = .ok x c' h' l := by
  cases o with
  | none => cases e
  | some a => exact ⟨a, rfl, e⟩
theorem ifC_ok {o : List α} {k : α → List α → M β} (e : ifC fail k o c h = .ok x c' h' l) : ∃ a t, o = a :: t ∧ k a t c h = .ok x c' h' l := by
  cases o with
  | nil => cases e
  | cons a t => exact ⟨a, t, rfl, e⟩
theorem ofOpt_ok {o : Option β} (e : ofOpt o c h = .ok x c' h' l) : o = some x ∧ c' = c ∧ h' = h ∧ l = [] := by
  cases o with
  | none => cases e
  | some a => cases e; exact ⟨rfl, rfl, rfl, rfl⟩
theorem onBool_ok {v : AV} {k : Bool → M β} (e : onBool fail k v c h = .ok x c' h' l) : ∃ b, v = .bool b ∧ k b c h = .ok x c' h' l := by cases v <;> first | exact ⟨_, rfl, e⟩ | cases e
theorem onInt_ok {v : AV} {k : IntKind → Int → M β} (e : onInt fail k v c h = .ok x c' h' l) : ∃ i n, v = .int i n ∧ k i n c h = .ok x c' h' l := by cases v <;> first | exact ⟨_, _, rfl, e⟩ | cases e
theorem onStr_ok {v : AV} {k : List Nat → M β} (e : onStr fail k v c h = .ok x c' h' l) : ∃ b, v = .str b ∧ k b c h = .ok x c' h' l := by cases v <;> first | exact ⟨_, rfl, e⟩ | cases e
theorem onPtr_ok {v : AV} {k : Option (Nat × Nat) → M β} (e : onPtr fail k v c h = .ok x c' h' l) : ∃ b, v = .ptr b ∧ k b c h = .ok x c' h' l := by cases v <;> first | exact ⟨_, rfl, e⟩ | cases e
theorem onSlice_ok {v : AV} {k : Option (Nat × Nat) → Nat → Nat → Nat → M β} (e : onSlice fail k v c h = .ok x c' h' l) : ∃ a n m z, v = .slice a n m z ∧ k a n m z c h = .ok x c' h' l := by cases v <;> first | exact ⟨_, _, _, _, rfl, e⟩ | cases e
theorem onMap_ok {v : AV} {k : Option Nat → M β} (e : onMap fail k v c h = .ok x c' h' l) : ∃ b, v = .map b ∧ k b c h = .ok x c' h' l := by cases v <;> first | exact ⟨_, rfl, e⟩ | cases e
theorem onFn_ok {v : AV} {k : Nat → List AV → List AV → M β} (e : onFn fail k v c h = .ok x c' h' l) : ∃ f a b, v = .fn f a b ∧ k f a b c h = .ok x c' h' l := by cases v <;> first | exact ⟨_, _, _, rfl, e⟩ | cases e
theorem onAgg_ok {v : AV} {k : List AV → M β} (e : onAgg fail k v c h = .ok x c' h' l) : ∃ b, v = .agg b ∧ k b c h = .ok x c' h' l := by cases v <;> first | exact ⟨_, rfl, e⟩ | cases e
theorem onTuple_ok {v : AV} {k : List AV → M β} (e : onTuple fail k v c h = .ok x c' h' l) : ∃ b, v = .tuple b ∧ k b c h = .ok x c' h' l := by cases v <;> first | exact ⟨_, rfl, e⟩ | cases e
theorem onIface_ok {v : AV} {k : Nat → AV → M β} (e : onIface fail fail k v c h = .ok x c' h' l) : ∃ t u, v = .iface t u ∧ k t u c h = .ok x c' h' l := by cases v <;> first | exact ⟨_, _, rfl, e⟩ | cases e
theorem onNat_ok {v : Int} {k : Nat → M β} (e : onNat fail k v c h = .ok x c' h' l) : ∃ n : Nat, v = .ofNat n ∧ k n c h = .ok x c' h' l := by cases v <;> first | exact ⟨_, rfl, e⟩ | cases e
theorem ifS_eq {o : Option α} {k : α → Option β} (e : ifS none k o = some x) : ∃ a, o = some a ∧ k a = some x := by
  cases o with
  | none => cases e
  | some a => exact ⟨a, rfl, e⟩
theorem ifB_eq {b : Bool} {m : Option β} (e : ifB b m none = some x) : b = true ∧ m = some x := by
  cases b
  · cases e
  · exact ⟨rfl, e⟩
end
/-- the temporaries of a frame -/
def ER (ρ : Ren) (e : Env) (tmps : Array Value) : Prop := ∀ t, VR ρ (e.get t) (tmps.getD t undef)
theorem ER.mono {ρ σ : Ren} (k : Ren.le ρ σ) {e : Env} {tmps : Array Value} (h : ER ρ e tmps) : ER σ e tmps := fun t => VR.mono k _ _ (h t)
theorem VR.undefA (ρ : Ren) : VR ρ undefA undef := by
  show VR ρ (.tuple []) (.tuple #[])
  simp only [VR]
  exact ⟨#[], rfl, by simp [VRs]⟩
theorem ofS_VR (ρ : Ren) {v : Value} {a : AV} (e : ofS v = some a) : VR ρ a v := by
  unfold ofS at e
  split at e <;> (try cases e) <;> simp [VR, VRs]
theorem allO_VR (ρ : Ren) : ∀ {l : List Value} {r : List AV}, allO ofS l = some r → VRs ρ r l
  | [], _, e => by cases e; exact VRs.nil ρ
  | v :: l, r, e => by
    have e : ifS none (fun b => ifS none (fun r => some (b :: r)) (allO ofS l)) (ofS v) = some r := e
    obtain ⟨b, h1, e⟩ := ifS_eq e
    obtain ⟨q, h2, e⟩ := ifS_eq e
    cases e
    exact VRs.cons (ofS_VR ρ h1) (allO_VR ρ h2)
theorem ofV_VR (ρ : Ren) {v : Value} {a : AV} (e : ofV v = some a) : VR ρ a v := by
  unfold ofV at e
  split at e
  · obtain ⟨r, h1, e⟩ := ifS_eq e
    cases e
    simp only [VR]
    exact ⟨_, rfl, allO_VR ρ h1⟩
  · cases e
    exact VR.undefA ρ
  · exact ofS_VR ρ e
theorem cOpd_VR {ρ : Ren} {e : Env} {a : Act} (h : ER ρ e a.tmps) {x : Operand} {y : Opd} (k : cOpd x = some y) : VR ρ (ev e y) (a.eval x) := by
  unfold cOpd at k
  split at k
  · cases k
    exact h _
  · obtain ⟨v, h1, k⟩ := ifS_eq k
    cases k
    exact ofV_VR ρ h1
  · cases k
  · cases k
    show VR ρ (.fn _ [] []) (.func (.func _) #[] #[])
    simp [VR, VRs]
theorem cOps_VR {ρ : Ren} {e : Env} {a : Act} (h : ER ρ e a.tmps) : ∀ {l : List Operand} {r : List Opd}, cOps l = some r → VRs ρ (evs e r) (l.map a.eval)
  | [], _, k => by cases k; exact VRs.nil ρ
  | x :: l, r, k => by
    have k : ifS none (fun b => ifS none (fun r => some (b :: r)) (cOps l)) (cOpd x) = some r := k
    obtain ⟨b, h1, k⟩ := ifS_eq k
    obtain ⟨q, h2, k⟩ := ifS_eq k
    cases k
    exact VRs.cons (cOpd_VR h h1) (cOps_VR h h2)
theorem cOpdO_VR {ρ : Ren} {e : Env} {a : Act} (h : ER ρ e a.tmps) {x : Option Operand} {y : Option Opd} (k : cOpdO x = some y) : (x = none ∧ y = none) ∨ ∃ x' y', x = some x' ∧ y = some y' ∧ VR ρ (ev e y') (a.eval x') := by
  cases x with
  | none => cases k; exact .inl ⟨rfl, rfl⟩
  | some x' =>
    obtain ⟨y', h1, k⟩ := ifS_eq (show ifS none (fun y => some (some y)) (cOpd x') = some y from k)
    cases k
    exact .inr ⟨x', y', rfl, rfl, cOpd_VR h h1⟩

/-- what a symbolic call says of the call -/
def CallOk (P : Program) (call : Ctx) : Prop := ∀ f args c h v c' h' l, call f args c h = .ok v c' h' l → (∀ (xs : Array Value) (w : World), (callFunc f xs).run P w = .ok (.enter f xs) w) ∧ ∀ ρ w (xs : Array Value), Rel ρ h w → VRs ρ args xs.toList → Free ρ c c' →
  Calls P f xs w fun e w' => ∃ v' ρ', e = .returned v' ∧ VR ρ' v v' ∧ Post ρ h w c c' ρ' h' w'
/-- what a symbolic operation says of the operation -/
def OpOk (P : Program) (o : Oper) (f : Ev) : Prop := ∀ call, CallOk P call → ∀ e c h v c' h' l, f call e c h = .ok v c' h' l → ∀ ρ w (a : Act), Rel ρ h w → ER ρ e a.tmps → Free ρ c c' →
  ∀ next Q, (∀ v' ρ' w', VR ρ' v v' → Post ρ h w c c' ρ' h' w' → next (a.put o.dst v') w') → o.wp P a w next Q
section
variable {P : Program} {o : Oper} {f : Ev}
/-- an operation that yields a value, and leaves memory as it is -/
theorem OpOk.of_val (k : ∀ call e c h v c' h' l, f call e c h = .ok v c' h' l → c' = c ∧ h' = h ∧ ∀ ρ w (a : Act), Rel ρ h w → ER ρ e a.tmps → ∃ v', (execOp a.eval o).run P w = .ok (.value v') w ∧ VR ρ v v') : OpOk P o f := by
  intro call _ e c h v c' h' l he ρ w a hr hE _ next Q hn
  obtain ⟨rfl, rfl, k⟩ := k call e c h v c' h' l he
  obtain ⟨v', hv, hV⟩ := k ρ w a hr hE
  unfold Oper.wp
  rw [hv]
  exact hn v' ρ w hV (Post.refl hr)
/-- an operation that yields a value -/
theorem OpOk.of_run (k : ∀ call e c h v c' h' l, f call e c h = .ok v c' h' l → ∀ ρ w (a : Act), Rel ρ h w → ER ρ e a.tmps → Free ρ c c' → ∃ v' ρ' w', (execOp a.eval o).run P w = .ok (.value v') w' ∧ VR ρ' v v' ∧ Post ρ h w c c' ρ' h' w') : OpOk P o f := by
  intro call _ e c h v c' h' l he ρ w a hr hE hf next Q hn
  obtain ⟨v', ρ', w', hv, hV, hp⟩ := k call e c h v c' h' l he ρ w a hr hE hf
  unfold Oper.wp
  rw [hv]
  exact hn v' ρ' w' hV hp
/-- an operation that yields none -/
theorem OpOk.of_skip (k : ∀ call e c h v c' h' l, f call e c h = .ok v c' h' l → v = undefA ∧ ∀ ρ w (a : Act), Rel ρ h w → ER ρ e a.tmps → Free ρ c c' → ∃ ρ' w', (execOp a.eval o).run P w = .ok .skip w' ∧ Post ρ h w c c' ρ' h' w') : OpOk P o f := by
  intro call _ e c h v c' h' l he ρ w a hr hE hf next Q hn
  obtain ⟨rfl, k⟩ := k call e c h v c' h' l he
  obtain ⟨ρ', w', hv, hp⟩ := k ρ w a hr hE hf
  unfold Oper.wp
  rw [hv]
  exact hn undef ρ' w' (VR.undefA ρ') hp
theorem OpOk.fail : OpOk P o oFail := fun _ _ _ _ _ _ _ _ _ he => by cases he
end
end Go.Sx
namespace Go.Sx
open Go.RowKit

section
variable {P : Program} {w : World}
theorem run_val {s : Sem Value} {v : Value} {w' : World} (h : s.run P w = .ok v w') : (do pure (Next.value (← s)) : Sem Next).run P w = .ok (.value v) w' := by
  simp [h, Result.andThen]
theorem run_under {t : TypeId} {d : TypeDesc} (h : P.underlying t = some d) : (underlying t).run P w = .ok d w := by
  simp [underlying, h]
theorem run_info {t : TypeId} {i : TypeInfo} (h : P.info? t = some i) : (typeInfo t).run P w = .ok i w := by
  simp [typeInfo, h]
theorem run_size {t : TypeId} {n : Nat} (h : sizeO P t = some n) : (sizeOf t).run P w = .ok n w := by
  obtain ⟨i, h1, h2⟩ := ifS_eq h
  cases h2
  simp [sizeOf, run_info h1]
theorem run_isAgg {t : TypeId} {b : Bool} (h : aggO P t = some b) : (isAgg t).run P w = .ok b w := by
  obtain ⟨d, h1, h2⟩ := ifS_eq h
  cases h2
  simp only [isAgg, Sem.run_bind, run_under h1, Result.andThen]
  unfold isAggD
  split <;> simp_all
theorem zeroOf_eq {t : TypeId} {z : AV} (h : zeroOf P t = some z) : ∃ i v, P.info? t = some i ∧ i.zero = some v ∧ ofV v = some z ∧ z.cells.length = i.size ∧ i.bytes ≤ 1048576 := by
  obtain ⟨i, h1, h⟩ := ifS_eq h
  obtain ⟨v, h2, h⟩ := ifS_eq h
  obtain ⟨z', h3, h⟩ := ifS_eq h
  obtain ⟨hb, h⟩ := ifB_eq h
  cases h
  cases h4 : Nat.beq (len z.cells) i.size with
  | false => rw [h4] at hb; cases hb
  | true =>
    rw [h4] at hb
    have h5 : Nat.ble i.bytes 1048576 = true := hb
    exact ⟨i, v, h1, h2, h3, by rw [← len_eq]; exact Nat.eq_of_beq_eq_true h4, Nat.le_of_ble_eq_true h5⟩
theorem run_zero {t : TypeId} {z : AV} (h : zeroOf P t = some z) (ρ : Ren) : ∃ v, (zeroValue t).run P w = .ok v w ∧ VR ρ z v ∧ VRs ρ z.cells v.cells.toList := by
  obtain ⟨i, v, h1, h2, h3, _, _⟩ := zeroOf_eq h
  refine ⟨v, ?_, ofV_VR ρ h3, (ofV_VR ρ h3).cells⟩
  simp [zeroValue, run_info h1, h2]
theorem zero_size {t : TypeId} {z : AV} (h : zeroOf P t = some z) : (sizeOf t).run P w = .ok (len z.cells) w := by
  obtain ⟨i, v, h1, h2, h3, h4, _⟩ := zeroOf_eq h
  rw [len_eq, h4]
  simp [sizeOf, run_info h1]
end
section
variable {P : Program} {o : Oper}
theorem op_move {x : Operand} {y : Opd} (ho : o.op = .move x ∨ o.op = .assign x) (k : cOpd x = some y) : OpOk P o (oMove y) := by
  refine OpOk.of_val fun call e c h v c' h' l he => ?_
  obtain ⟨rfl, rfl, rfl, _⟩ := pure_ok he
  refine ⟨rfl, rfl, fun ρ w a _ hE => ⟨_, ?_, cOpd_VR hE k⟩⟩
  rcases ho with ho | ho <;> simp [execOp, ho]
theorem op_pick {x y z : Operand} {x' y' z' : Opd} (ho : o.op = .pick x y z) (kx : cOpd x = some x') (ky : cOpd y = some y') (kz : cOpd z = some z') : OpOk P o (oPick x' y' z') := by
  refine OpOk.of_val fun call e c h v c' h' l he => ?_
  obtain ⟨b, hb, he⟩ := onBool_ok he
  obtain ⟨rfl, rfl, rfl, _⟩ := pure_ok he
  refine ⟨rfl, rfl, fun ρ w a _ hE => ?_⟩
  have hx := cOpd_VR hE kx
  rw [hb] at hx
  simp only [VR] at hx
  cases b
  · exact ⟨_, by simp [execOp, ho, hx, asBool], cOpd_VR hE kz⟩
  · exact ⟨_, by simp [execOp, ho, hx, asBool], cOpd_VR hE ky⟩
theorem op_nilCheck {x : Operand} {y : Opd} (ho : o.op = .nilCheck x) (k : cOpd x = some y) : OpOk P o (oNilCheck y) := by
  refine OpOk.of_val fun call e c h v c' h' l he => ?_
  obtain ⟨b, hb, he⟩ := onPtr_ok he
  obtain ⟨p, rfl, he⟩ := ifS_ok he
  obtain ⟨rfl, rfl, rfl, _⟩ := pure_ok he
  refine ⟨rfl, rfl, fun ρ w a _ hE => ?_⟩
  have hx := cOpd_VR hE k
  rw [hb] at hx
  have hx' := hx
  simp only [VR] at hx'
  obtain ⟨b, z, _, hv⟩ := hx'
  exact ⟨_, by simp [execOp, ho, hv], hx⟩
theorem op_iface {x : Operand} {y : Opd} {t : TypeId} (ho : o.op = .makeInterface t x) (k : cOpd x = some y) (hp : plainT P t = true) : OpOk P o (oIface t y) := by
  have hd : ∃ d, P.underlying t = some d ∧ ∀ m, d ≠ .interface m := by
    unfold plainT at hp
    split at hp
    · cases hp
    · rename_i d hn hd
      exact ⟨d, hd, fun m e => hn m e⟩
    · cases hp
  obtain ⟨d, hd, hi⟩ := hd
  refine OpOk.of_val fun call e c h v c' h' l he => ?_
  obtain ⟨rfl, rfl, rfl, _⟩ := pure_ok he
  refine ⟨rfl, rfl, fun ρ w a _ hE => ⟨.iface t (a.eval x), ?_, ?_⟩⟩
  · simp only [execOp, ho]
    refine run_val ?_
    simp only [Instr.makeInterface, Sem.run_bind, run_under hd, Result.andThen]
    cases d <;> first | rfl | exact absurd rfl (hi _)
  · simp only [VR]
    exact ⟨_, rfl, cOpd_VR hE k⟩
theorem op_func {f : FuncId} {x y : Array Operand} {x' y' : List Opd} (ho : o.op = .makeFunc (.func f) x y) (kx : cOps x.toList = some x') (ky : cOps y.toList = some y') : OpOk P o (oFunc f x' y') := by
  refine OpOk.of_val fun call e c h v c' h' l he => ?_
  obtain ⟨rfl, rfl, rfl, _⟩ := pure_ok he
  refine ⟨rfl, rfl, fun ρ w a _ hE => ⟨.func (.func f) (x.map a.eval) (y.map a.eval), ?_, ?_⟩⟩
  · simp [execOp, ho, Instr.makeFunc]
  · simp only [VR]
    exact ⟨_, _, rfl, by rw [Array.toList_map]; exact cOps_VR hE kx, by rw [Array.toList_map]; exact cOps_VR hE ky⟩
theorem VRs.head_drop {ρ : Ren} {l : List AV} {r : List Value} (h : VRs ρ l r) {n : Nat} {v : AV} {t : List AV} (e : dropN n l = v :: t) : ∃ u, r[n]? = some u ∧ VR ρ v u := by
  rw [dropN_eq] at e
  have : l[n]? = some v := by
    have := congrArg List.head? e
    simpa [List.head?_drop] using this
  exact h.get this
theorem op_extract {x : Operand} {y : Opd} {i : Nat} (ho : o.op = .extract x i) (k : cOpd x = some y) : OpOk P o (oExtract y i) := by
  refine OpOk.of_val fun call e c h v c' h' l he => ?_
  obtain ⟨b, hb, he⟩ := onTuple_ok he
  obtain ⟨u, t, hd, he⟩ := ifC_ok he
  obtain ⟨rfl, rfl, rfl, _⟩ := pure_ok he
  refine ⟨rfl, rfl, fun ρ w a _ hE => ?_⟩
  have hx := cOpd_VR hE k
  rw [hb] at hx
  simp only [VR] at hx
  obtain ⟨z, hz, hx⟩ := hx
  obtain ⟨q, hq, hV⟩ := hx.head_drop hd
  refine ⟨q, ?_, hV⟩
  simp only [execOp, ho]
  refine run_val ?_
  rw [Array.getElem?_toList] at hq
  simp [Instr.extract, hz, hq]
theorem addr_add (b o n : Nat) : (⟨b, o, none⟩ : Addr).add n = ⟨b, o + n, none⟩ := by
  unfold Addr.add
  split <;> simp_all
theorem fieldO_eq {s : TypeId} {i : Nat} {f : Field} (h : fieldO P s i = some f) : ∃ fs, P.underlying s = some (.struct fs) ∧ fs[i]? = some f := by
  unfold fieldO at h
  split at h
  · rename_i fs e
    exact ⟨fs, e, h⟩
  · cases h
theorem op_fieldAddr {x : Operand} {y : Opd} {s : TypeId} {i : Nat} {f : Field} (ho : o.op = .fieldAddr s x i) (k : cOpd x = some y) (hf : fieldO P s i = some f) {n : Nat} (hs : sizeO P f.type = some n) (hn : n ≠ 0) : OpOk P o (oFieldAddr f.offset y) := by
  refine OpOk.of_val fun call e c h v c' h' l he => ?_
  obtain ⟨b, hb, he⟩ := onPtr_ok he
  obtain ⟨p, rfl, he⟩ := ifS_ok he
  obtain ⟨rfl, rfl, rfl, _⟩ := pure_ok he
  refine ⟨rfl, rfl, fun ρ w a _ hE => ?_⟩
  have hx := cOpd_VR hE k
  rw [hb] at hx
  simp only [VR] at hx
  obtain ⟨b, z, hz, hv⟩ := hx
  obtain ⟨fs, h1, h2⟩ := fieldO_eq hf
  refine ⟨.pointer (some ⟨b, p.2 + f.offset, none⟩), ?_, ?_⟩
  · simp only [execOp, ho]
    refine run_val ?_
    simp [Instr.fieldAt, run_under h1, h2, hv, Instr.sureAddr, fieldPlace, run_size hs, hn, addr_add]
  · simp only [VR]
    exact ⟨b, z, hz, rfl⟩
theorem run_part1 {t : TypeId} {w : World} {n : Nat} {l : List AV} {v : AV} {u : List AV} {r : Array Value} {ρ : Ren} (ha : aggO P t = some false) (h : VRs ρ l r.toList) (e : dropN n l = v :: u) :
    ∃ q, (part t r n).run P w = .ok q w ∧ VR ρ v q := by
  obtain ⟨q, hq, hV⟩ := h.head_drop e
  rw [Array.getElem?_toList] at hq
  exact ⟨q, by simp [part, run_isAgg ha, hq], hV⟩
theorem run_partN {t : TypeId} {w : World} {n m : Nat} {l u : List AV} {r : Array Value} {ρ : Ren} (ha : aggO P t = some true) (hs : sizeO P t = some m) (h : VRs ρ l r.toList) (e : takeN m (dropN n l) = some u) :
    ∃ q, (part t r n).run P w = .ok q w ∧ VR ρ (.agg u) q := by
  obtain ⟨rfl, _⟩ := takeN_eq _ _ _ e
  rw [dropN_eq]
  refine ⟨.agg (r.extract n (n + m)), by simp [part, run_isAgg ha, run_size hs], ?_⟩
  simp only [VR]
  refine ⟨_, rfl, ?_⟩
  have := VRs.take m (VRs.drop n h)
  rw [Array.toList_extract, List.extract_eq_take_drop]
  rwa [Nat.add_sub_cancel_left]
theorem op_field1 {x : Operand} {y : Opd} {s : TypeId} {i : Nat} {f : Field} (ho : o.op = .field s x i) (k : cOpd x = some y) (hf : fieldO P s i = some f) (ha : aggO P f.type = some false) : OpOk P o (oField1 f.offset y) := by
  refine OpOk.of_val fun call e c h v c' h' l he => ?_
  obtain ⟨b, hb, he⟩ := onAgg_ok he
  obtain ⟨u, t, hd, he⟩ := ifC_ok he
  obtain ⟨rfl, rfl, rfl, _⟩ := pure_ok he
  refine ⟨rfl, rfl, fun ρ w a _ hE => ?_⟩
  have hx := cOpd_VR hE k
  rw [hb] at hx
  simp only [VR] at hx
  obtain ⟨z, hz, hx⟩ := hx
  obtain ⟨fs, h1, h2⟩ := fieldO_eq hf
  obtain ⟨q, hq, hV⟩ := run_part1 (w := w) ha hx hd
  refine ⟨q, ?_, hV⟩
  simp only [execOp, ho]
  refine run_val ?_
  simp [Instr.field, run_under h1, h2, hz, asAgg, hq]
theorem op_fieldN {x : Operand} {y : Opd} {s : TypeId} {i n : Nat} {f : Field} (ho : o.op = .field s x i) (k : cOpd x = some y) (hf : fieldO P s i = some f) (ha : aggO P f.type = some true) (hs : sizeO P f.type = some n) : OpOk P o (oFieldN f.offset n y) := by
  refine OpOk.of_val fun call e c h v c' h' l he => ?_
  obtain ⟨b, hb, he⟩ := onAgg_ok he
  obtain ⟨u, hd, he⟩ := ifS_ok he
  obtain ⟨rfl, rfl, rfl, _⟩ := pure_ok he
  refine ⟨rfl, rfl, fun ρ w a _ hE => ?_⟩
  have hx := cOpd_VR hE k
  rw [hb] at hx
  simp only [VR] at hx
  obtain ⟨z, hz, hx⟩ := hx
  obtain ⟨fs, h1, h2⟩ := fieldO_eq hf
  obtain ⟨q, hq, hV⟩ := run_partN (w := w) ha hs hx hd
  refine ⟨q, ?_, hV⟩
  simp only [execOp, ho]
  refine run_val ?_
  simp [Instr.field, run_under h1, h2, hz, asAgg, hq]
end
end Go.Sx
namespace Go.Sx
open Go.RowKit

section
variable {P : Program} {o : Oper}
theorem pow_bits (k : IntKind) : (128 : Int) ≤ 2 ^ k.bits ∧ (k.signed = true → (128 : Int) ≤ 2 ^ (k.bits - 1)) := by cases k <;> decide
theorem wrapA_eq (k : IntKind) (n : Int) : wrapA k n = k.wrap n := by
  cases n with
  | negSucc m => rfl
  | ofNat m =>
    show ifB (Nat.blt m 128) (.ofNat m) (k.wrap (.ofNat m)) = _
    cases h : Nat.blt m 128 with
    | false => rfl
    | true =>
      have hm : m < 128 := by simpa [Nat.blt_eq] using h
      obtain ⟨h1, h2⟩ := pow_bits k
      have e : (Int.ofNat m) % 2 ^ k.bits = Int.ofNat m := Int.emod_eq_of_lt (Int.natCast_nonneg m) (Int.lt_of_lt_of_le (Int.ofNat_lt.2 hm) h1)
      show (Int.ofNat m) = _
      simp only [IntKind.wrap, e]
      split
      · rename_i hc
        simp only [Bool.and_eq_true, decide_eq_true_eq] at hc
        have := Int.lt_of_lt_of_le (Int.ofNat_lt.2 hm) (h2 hc.1)
        exact absurd hc.2 (Int.not_le.2 this)
      · rfl
theorem blt_dec (m n : Nat) : Nat.blt m n = decide (m < n) := by
  rw [Bool.eq_iff_iff]
  simp [Nat.blt_eq]
theorem eqI_eq (a b : Int) : eqI a b = (a == b) := by
  cases a with
  | ofNat m =>
    cases b with
    | ofNat n =>
      show Nat.beq m n = _
      by_cases e : m = n
      · subst e; simp
      · rw [beq_eq_false_iff_ne.2 (fun q => e (Int.ofNat.inj q))]
        exact Bool.eq_false_iff.2 fun q => e (Nat.eq_of_beq_eq_true q)
    | negSucc n => rfl
  | negSucc m =>
    cases b with
    | ofNat n => rfl
    | negSucc n =>
      show Nat.beq m n = _
      by_cases e : m = n
      · subst e; simp
      · rw [beq_eq_false_iff_ne.2 (fun q => e (Int.negSucc.inj q))]
        exact Bool.eq_false_iff.2 fun q => e (Nat.eq_of_beq_eq_true q)
theorem ltI_eq (a b : Int) : ltI a b = decide (a < b) := by
  cases a with
  | ofNat m =>
    cases b with
    | ofNat n =>
      show Nat.blt m n = decide ((m : Int) < (n : Int))
      simp only [blt_dec, Int.ofNat_lt]
    | negSucc n =>
      show false = decide ((m : Int) < Int.negSucc n)
      exact (decide_eq_false (by omega)).symm
  | negSucc m =>
    cases b with
    | ofNat n =>
      show true = decide (Int.negSucc m < (n : Int))
      exact (decide_eq_true (by omega)).symm
    | negSucc n =>
      show Nat.blt n m = decide (Int.negSucc m < Int.negSucc n)
      rw [blt_dec]
      exact decide_eq_decide.2 (by omega)
theorem eqS_eq : ∀ (x y : List Nat), eqS x y = decide (x = y)
  | [], [] => rfl
  | [], _ :: _ => rfl
  | _ :: _, [] => rfl
  | a :: x, b :: y => by
    show ifB (Nat.beq a b) (eqS x y) false = _
    rw [eqS_eq x y]
    cases h : Nat.beq a b with
    | true => rw [Nat.eq_of_beq_eq_true h]; simp [ifB]
    | false => 
      have : a ≠ b := fun e => by subst e; simp at h
      simp [ifB, this]
theorem ltS_eq : ∀ (x y : List UInt8), ltS (x.map UInt8.toNat) (y.map UInt8.toNat) = Op.bytesLess x y
  | [], [] => rfl
  | [], _ :: _ => rfl
  | _ :: _, [] => rfl
  | a :: x, b :: y => by
    show ifB (Nat.blt a.toNat b.toNat) true (ifB (Nat.beq a.toNat b.toNat) (ltS (x.map UInt8.toNat) (y.map UInt8.toNat)) false) = (a < b || (a == b && Op.bytesLess x y))
    rw [ltS_eq x y, blt_dec]
    by_cases h : a.toNat < b.toNat
    · rw [decide_eq_true h]
      have : a < b := UInt8.lt_iff_toNat_lt.2 h
      simp [ifB, this]
    · rw [decide_eq_false h]
      have : ¬ a < b := fun q => h (UInt8.lt_iff_toNat_lt.1 q)
      by_cases e : a = b
      · subst e; simp [ifB]
      · have e' : Nat.beq a.toNat b.toNat = false := Bool.eq_false_iff.2 fun q => e (UInt8.toNat_inj.1 (Nat.eq_of_beq_eq_true q))
        rw [e']
        simp [ifB, this, e]
/-- the bytes of a string -/
theorem str_eq {b d : ByteArray} {s u : List Nat} (h1 : b.data.toList.map UInt8.toNat = s) (h2 : d.data.toList.map UInt8.toNat = u) : eqS s u = (b.toList == d.toList) := by
  rw [eqS_eq, ByteArray.toList_eq, ByteArray.toList_eq, ← h1, ← h2]
  by_cases e : b.data.toList = d.data.toList
  · rw [e]; simp
  · rw [beq_eq_false_iff_ne.2 e]
    exact decide_eq_false fun q => e ((List.map_inj_right (fun _ _ h => UInt8.toNat_inj.1 h)).1 q)
theorem str_lt {b d : ByteArray} {s u : List Nat} (h1 : b.data.toList.map UInt8.toNat = s) (h2 : d.data.toList.map UInt8.toNat = u) : ltS s u = Op.bytesLess b.toList d.toList := by
  rw [ByteArray.toList_eq, ByteArray.toList_eq, ← h1, ← h2, ltS_eq]
theorem str_len {b : ByteArray} {s : List Nat} (h1 : b.data.toList.map UInt8.toNat = s) : b.size = s.length := by
  rw [← h1, List.length_map]
  rfl
theorem ifN_eq {α : Type} {b : Bool} {x : Option α} {r : α} (h : ifB b none x = some r) : b = false ∧ x = some r := by
  cases b
  · exact ⟨rfl, h⟩
  · cases h
theorem VR.int (ρ : Ren) (k : IntKind) (n : Int) : VR ρ (.int k n) (.int k n) := by simp only [VR]
theorem VR.bool (ρ : Ren) (b : Bool) : VR ρ (.bool b) (.bool b) := by simp only [VR]
theorem run_intBin {op : BinOp} {t : TypeId} {k : IntKind} {a b : Int} {r : AV} {w : World} (ρ : Ren) (h : intBin op k a b = some r) : ∃ v, (binOp op t (.int k a) (.int k b)).run P w = .ok v w ∧ VR ρ r v := by
  cases op with
  | add => cases h; exact ⟨_, by simp [binOp, Op.intArith]; rfl, by rw [wrapA_eq]; exact VR.int ρ k _⟩
  | sub => cases h; exact ⟨_, by simp [binOp, Op.intArith]; rfl, by rw [wrapA_eq]; exact VR.int ρ k _⟩
  | mul => cases h; exact ⟨_, by simp [binOp, Op.intArith]; rfl, by rw [wrapA_eq]; exact VR.int ρ k _⟩
  | quo =>
    obtain ⟨h0, h⟩ := ifN_eq h
    cases h
    rw [eqI_eq] at h0
    have : b ≠ 0 := fun e => by subst e; cases h0
    exact ⟨_, by simp [binOp, Op.intDiv, this], VR.int ρ k _⟩
  | rem =>
    obtain ⟨h0, h⟩ := ifN_eq h
    cases h
    rw [eqI_eq] at h0
    have : b ≠ 0 := fun e => by subst e; cases h0
    exact ⟨_, by simp [binOp, Op.intDiv, this], VR.int ρ k _⟩
  | and => cases h; exact ⟨_, by simp [binOp, Op.intBits], VR.int ρ k _⟩
  | or => cases h; exact ⟨_, by simp [binOp, Op.intBits], VR.int ρ k _⟩
  | xor => cases h
  | shl =>
    obtain ⟨h0, h⟩ := ifN_eq h
    cases h
    rw [ltI_eq] at h0
    have : ¬ b < 0 := of_decide_eq_false h0
    exact ⟨_, by simp [binOp, Op.shift, this], VR.int ρ k _⟩
  | shr =>
    obtain ⟨h0, h⟩ := ifN_eq h
    cases h
    rw [ltI_eq] at h0
    have : ¬ b < 0 := of_decide_eq_false h0
    exact ⟨_, by simp [binOp, Op.shift, this], VR.int ρ k _⟩
  | andNot => cases h
  | eql => cases h; exact ⟨_, by simp [binOp, Op.intCmp]; rfl, by rw [eqI_eq]; exact VR.bool ρ _⟩
  | neq => cases h; exact ⟨_, by simp [binOp, Op.intCmp]; rfl, by rw [eqI_eq]; exact VR.bool ρ _⟩
  | lss => cases h; exact ⟨_, by simp [binOp, Op.intCmp]; rfl, by rw [ltI_eq]; exact VR.bool ρ _⟩
  | leq => cases h; exact ⟨_, by simp [binOp, Op.intCmp]; rfl, by rw [ltI_eq, ← decide_not]; simp only [Int.not_lt]; exact VR.bool ρ _⟩
  | gtr => cases h; exact ⟨_, by simp [binOp, Op.intCmp]; rfl, by rw [ltI_eq]; exact VR.bool ρ _⟩
  | geq => cases h; exact ⟨_, by simp [binOp, Op.intCmp]; rfl, by rw [ltI_eq, ← decide_not]; simp only [Int.not_lt]; exact VR.bool ρ _⟩
theorem run_shBin {op : BinOp} {t : TypeId} {k j : IntKind} {a b : Int} {r : AV} {w : World} (ρ : Ren) (h : shBin op k a b = some r) : ∃ v, (binOp op t (.int k a) (.int j b)).run P w = .ok v w ∧ VR ρ r v := by
  cases op <;> first
    | (cases h; done)
    | (obtain ⟨h0, h⟩ := ifN_eq h
       cases h
       rw [ltI_eq] at h0
       have : ¬ b < 0 := of_decide_eq_false h0
       exact ⟨_, by simp [binOp, Op.shift, this], VR.int ρ k _⟩)
theorem run_strBin {op : BinOp} {t : TypeId} {a b : ByteArray} {s u : List Nat} {r : AV} {w : World} (ρ : Ren) (h1 : a.data.toList.map UInt8.toNat = s) (h2 : b.data.toList.map UInt8.toNat = u) (h : strBin op s u = some r) :
    ∃ v, (binOp op t (.string a) (.string b)).run P w = .ok v w ∧ VR ρ r v := by
  have he := str_eq h1 h2
  have hl := str_lt h1 h2
  have hb : ∀ p q : Bool, (p || q) = ifB p true q := fun p q => by cases p <;> rfl
  cases op with
  | add =>
    obtain ⟨hs, h⟩ := ifB_eq h
    cases h
    have hz : ¬ ((a.size + b.size : Nat) : Int) > IntKind.i64.max := by
      have h3 := str_len h1
      have h4 := str_len h2
      have h5 := Nat.le_of_ble_eq_true hs
      rw [len_eq, len_eq] at h5
      have h6 : IntKind.i64.max = 9223372036854775807 := rfl
      rw [h6, h3, h4]
      have h7 : s.length + u.length ≤ 1048576 := h5
      omega
    refine ⟨.string (a ++ b), by simp only [binOp, Op.stringOp]; rw [if_neg hz]; rfl, ?_⟩
    simp only [VR]
    refine ⟨_, rfl, ?_⟩
    rw [← h1, ← h2]
    show (a ++ b).data.toList.map _ = List.append _ _
    simp
  | eql => cases h; exact ⟨_, rfl, by rw [he]; exact VR.bool ρ _⟩
  | neq => cases h; exact ⟨_, rfl, by rw [he]; exact VR.bool ρ _⟩
  | lss => cases h; exact ⟨_, rfl, by rw [hl]; exact VR.bool ρ _⟩
  | leq => cases h; exact ⟨_, rfl, by rw [hl, he, ← hb]; exact VR.bool ρ _⟩
  | gtr => cases h; exact ⟨_, rfl, by rw [hl, he, ← hb]; exact VR.bool ρ _⟩
  | geq => cases h; exact ⟨_, rfl, by rw [hl]; exact VR.bool ρ _⟩
  | _ => cases h
theorem kind_eq {k j : IntKind} (h : Nat.beq (kindN k) (kindN j) = true) : k = j := by
  cases k <;> cases j <;> first | rfl | cases h
theorem op_bin {op : BinOp} {t t' : TypeId} {x y : Operand} {x' y' : Opd} (ho : o.op = .binOp op t x y t') (kx : cOpd x = some x') (ky : cOpd y = some y') : OpOk P o (oBin op x' y') := by
  refine OpOk.of_val fun call e c h v c' h' l he => ?_
  obtain ⟨he, rfl, rfl, _⟩ := ofOpt_ok he
  refine ⟨rfl, rfl, fun ρ w a _ hE => ?_⟩
  have hx := cOpd_VR hE kx
  have hy := cOpd_VR hE ky
  have key : ∃ v', (binOp op t (a.eval x) (a.eval y)).run P w = .ok v' w ∧ VR ρ v v' ∧ (∀ q, a.eval x ≠ .agg q) ∧ a.eval x ≠ .nilIface := by
    generalize ev e x' = p at *
    generalize ev e y' = q at *
    cases p with
    | int k m =>
      cases q with
      | int j n =>
        simp only [VR] at hx hy
        rw [hx, hy]
        have he : ifB (Nat.beq (kindN k) (kindN j)) (intBin op k m n) (shBin op k m n) = some v := he
        cases hk : Nat.beq (kindN k) (kindN j) with
        | true =>
          rw [hk] at he
          obtain ⟨v', h1, h2⟩ := run_intBin (P := P) (t := t) (w := w) ρ he
          rw [← kind_eq hk]
          exact ⟨v', h1, h2, by simp, by simp⟩
        | false =>
          rw [hk] at he
          obtain ⟨v', h1, h2⟩ := run_shBin (P := P) (t := t) (w := w) (j := j) ρ he
          exact ⟨v', h1, h2, by simp, by simp⟩
      | _ => cases he
    | str s =>
      cases q with
      | str u =>
        simp only [VR] at hx hy
        obtain ⟨b1, hx, h1⟩ := hx
        obtain ⟨b2, hy, h2⟩ := hy
        rw [hx, hy]
        obtain ⟨v', h3, h4⟩ := run_strBin (P := P) (t := t) (w := w) ρ h1 h2 he
        exact ⟨v', h3, h4, by simp, by simp⟩
      | _ => cases he
    | _ => cases he
  obtain ⟨v', h1, h2, h3, h4⟩ := key
  refine ⟨v', ?_, h2⟩
  simp only [execOp, ho]
  refine run_val ?_
  have hg : (eqGuard op t x y (a.eval x) (a.eval y)).run P w = .ok () w := by
    unfold eqGuard
    split <;> simp_all
  simp only [Sem.run_bind, hg, Result.andThen]
  exact h1
end
end Go.Sx
namespace Go.Sx
open Go.RowKit

section
variable {P : Program} {o : Oper}
theorem op_not {t : TypeId} {x : Operand} {y : Opd} (ho : o.op = .unOp .not t x) (k : cOpd x = some y) : OpOk P o (oNot y) := by
  refine OpOk.of_val fun call e c h v c' h' l he => ?_
  obtain ⟨b, hb, he⟩ := onBool_ok he
  obtain ⟨rfl, rfl, rfl, _⟩ := pure_ok he
  refine ⟨rfl, rfl, fun ρ w a _ hE => ?_⟩
  have hx := cOpd_VR hE k
  rw [hb] at hx
  simp only [VR] at hx
  exact ⟨_, by simp [execOp, ho, hx, Op.unary], VR.bool ρ _⟩
theorem op_neg {t : TypeId} {x : Operand} {y : Opd} (ho : o.op = .unOp .neg t x) (k : cOpd x = some y) : OpOk P o (oNeg y) := by
  refine OpOk.of_val fun call e c h v c' h' l he => ?_
  obtain ⟨b, n, hb, he⟩ := onInt_ok he
  obtain ⟨rfl, rfl, rfl, _⟩ := pure_ok he
  refine ⟨rfl, rfl, fun ρ w a _ hE => ?_⟩
  have hx := cOpd_VR hE k
  rw [hb] at hx
  simp only [VR] at hx
  exact ⟨.int b (b.wrap (0 - n)), by simp [execOp, ho, hx, Op.unary, Op.intArith], by rw [wrapA_eq]; exact VR.int ρ b _⟩
theorem op_conv {s d : TypeId} {i j : IntKind} {x : Operand} {y : Opd} (ho : o.op = .convert s d x) (k : cOpd x = some y) (hs : P.underlying s = some (.int i)) (hd : P.underlying d = some (.int j)) : OpOk P o (oConv j y) := by
  refine OpOk.of_val fun call e c h v c' h' l he => ?_
  obtain ⟨b, n, hb, he⟩ := onInt_ok he
  obtain ⟨rfl, rfl, rfl, _⟩ := pure_ok he
  refine ⟨rfl, rfl, fun ρ w a _ hE => ?_⟩
  have hx := cOpd_VR hE k
  rw [hb] at hx
  simp only [VR] at hx
  exact ⟨.int j (j.wrap n), by simp [execOp, ho, hx, convert, run_under hs, run_under hd, Conv.intToInt], by rw [wrapA_eq]; exact VR.int ρ j _⟩
theorem op_convS {s d : TypeId} {x : Operand} {y : Opd} (ho : o.op = .convert s d x) (k : cOpd x = some y) (hs : P.underlying s = some .string) (hd : P.underlying d = some .string) : OpOk P o (oSame y) := by
  refine OpOk.of_val fun call e c h v c' h' l he => ?_
  obtain ⟨b, hb, he⟩ := onStr_ok he
  obtain ⟨rfl, rfl, rfl, _⟩ := pure_ok he
  refine ⟨rfl, rfl, fun ρ w a _ hE => ?_⟩
  have hx := cOpd_VR hE k
  rw [hb] at hx
  have hx' := hx
  simp only [VR] at hx'
  obtain ⟨q, hq, _⟩ := hx'
  exact ⟨_, by simp [execOp, ho, hq, convert, run_under hs, run_under hd], hq ▸ hx⟩
theorem encode_small : ∀ m : Nat, m < 128 → (Utf8.encode m).data.toList.map UInt8.toNat = [m] := by decide +kernel
theorem op_chr {s d : TypeId} {i : IntKind} {x : Operand} {y : Opd} (ho : o.op = .convert s d x) (k : cOpd x = some y) (hs : P.underlying s = some (.int i)) (hd : P.underlying d = some .string) : OpOk P o (oChr y) := by
  refine OpOk.of_val fun call e c h v c' h' l he => ?_
  obtain ⟨b, n, hb, he⟩ := onInt_ok he
  obtain ⟨m, rfl, he⟩ := onNat_ok he
  obtain ⟨hm, he⟩ := ifB_ok he
  obtain ⟨rfl, rfl, rfl, _⟩ := pure_ok he
  refine ⟨rfl, rfl, fun ρ w a _ hE => ?_⟩
  have hx := cOpd_VR hE k
  rw [hb] at hx
  simp only [VR] at hx
  refine ⟨.string (Utf8.encode m), by simp [execOp, ho, hx, convert, run_under hs, run_under hd, Conv.intToString], ?_⟩
  simp only [VR]
  rw [blt_dec] at hm
  exact ⟨_, rfl, encode_small m (of_decide_eq_true hm)⟩
theorem dropS_eq : ∀ (n : Nat) (l : List Nat), dropS n l = l.drop n
  | 0, _ => rfl
  | _ + 1, [] => rfl
  | n + 1, _ :: l => dropS_eq n l
theorem takeS_eq : ∀ (n : Nat) (l : List Nat), takeS n l = l.take n
  | 0, _ => rfl
  | _ + 1, [] => rfl
  | n + 1, a :: l => congrArg (a :: ·) (takeS_eq n l)
theorem asN_VR {ρ : Ren} {v : AV} {u : Value} {n : Nat} (h : VR ρ v u) (e : asN v = some n) : ∃ k, u = .int k (n : Int) := by
  cases v with
  | int k m =>
    cases m with
    | ofNat m => cases e; simp only [VR] at h; exact ⟨k, h⟩
    | negSucc m => cases e
  | _ => cases e
theorem op_indexStr {t : TypeId} {x i : Operand} {x' i' : Opd} (ho : o.op = .index t x i) (kx : cOpd x = some x') (ki : cOpd i = some i') (ht : P.underlying t = some .string) : OpOk P o (oIndexStr x' i') := by
  refine OpOk.of_val fun call e c h v c' h' l he => ?_
  obtain ⟨s, hs, he⟩ := onStr_ok he
  obtain ⟨n, hn, he⟩ := ifS_ok he
  obtain ⟨b, r, hd, he⟩ := ifC_ok he
  obtain ⟨rfl, rfl, rfl, _⟩ := pure_ok he
  refine ⟨rfl, rfl, fun ρ w a _ hE => ?_⟩
  have hx := cOpd_VR hE kx
  have hi := cOpd_VR hE ki
  obtain ⟨k, hi⟩ := asN_VR hi hn
  rw [hs] at hx
  simp only [VR] at hx
  obtain ⟨q, hq, hx⟩ := hx
  refine ⟨.int .u8 b, ?_, VR.int ρ _ _⟩
  simp only [execOp, ho]
  refine run_val ?_
  rw [dropS_eq] at hd
  have hb : s[n]? = some b := by simpa [List.head?_drop] using congrArg List.head? hd
  rw [← hx, List.getElem?_map] at hb
  cases hg : q.data.toList[n]? with
  | none => rw [hg] at hb; cases hb
  | some u =>
    rw [hg] at hb
    have hu : u.toNat = b := by simpa using hb
    have hlt : n < q.data.toList.length := by
      rcases Nat.lt_or_ge n q.data.toList.length with hh | hh
      · exact hh
      · rw [List.getElem?_eq_none hh] at hg; cases hg
    have hq2 : q[n]? = some u := by
      rw [ByteArray.getElem?_lt' q n (show n < q.data.size by rw [← Array.length_toList]; exact hlt)]
      rw [List.getElem?_eq_getElem hlt] at hg
      exact hg
    simp [Instr.index, hi, asIntOf, run_under ht, hq, hq2, hu]
theorem ixA_ok {size n : Nat} {p : Nat × Nat} {i : Option Nat} {c c' : Nat} {h h' : H} {l : Log} {v : AV} (e : ixA size n p i c h = .ok v c' h' l) : ∃ m, i = some m ∧ m < n ∧ v = .ptr (some (p.1, p.2 + m * size)) ∧ c' = c ∧ h' = h := by
  obtain ⟨m, rfl, e⟩ := ifS_ok e
  obtain ⟨hm, e⟩ := ifB_ok e
  obtain ⟨rfl, rfl, rfl, _⟩ := pure_ok e
  rw [blt_dec] at hm
  exact ⟨m, rfl, of_decide_eq_true hm, rfl, rfl, rfl⟩
theorem op_indexSl {t el : TypeId} {z : Nat} {x i : Operand} {x' i' : Opd} (ho : o.op = .indexAddr t x i) (kx : cOpd x = some x') (ki : cOpd i = some i') (ht : P.underlying t = some (.slice el)) (hz : sizeO P el = some z) : OpOk P o (oIndexSl z x' i') := by
  refine OpOk.of_val fun call e c h v c' h' l he => ?_
  obtain ⟨p, n, m, q, hs, he⟩ := onSlice_ok he
  obtain ⟨p, rfl, he⟩ := ifS_ok he
  obtain ⟨i0, hi0, hlt, rfl, rfl, rfl⟩ := ixA_ok he
  refine ⟨rfl, rfl, fun ρ w a _ hE => ?_⟩
  have hx := cOpd_VR hE kx
  have hi := cOpd_VR hE ki
  obtain ⟨k, hi⟩ := asN_VR hi hi0
  rw [hs] at hx
  simp only [VR] at hx
  obtain ⟨b, s, o', k', h1, h2, h3, h4, h5, h6, _⟩ := hx
  have h5 : o' = p.2 := by
    rcases h5 with h5 | h5
    · omega
    · exact h5
  subst h5
  refine ⟨.pointer (some ⟨b, p.2 + i0 * z, none⟩), ?_, ?_⟩
  · simp only [execOp, ho]
    refine run_val ?_
    have hc : (0 : Int) ≤ (i0 : Int) ∧ (i0 : Int) < (n : Int) := ⟨by omega, by omega⟩
    simp [Instr.indexAt, hi, asIntOf, run_under ht, h2, run_size hz, addr_add, hlt]
  · simp only [VR]
    exact ⟨b, s, h1, rfl⟩
theorem op_indexAr {t el : TypeId} {n z : Nat} {x i : Operand} {x' i' : Opd} (ho : o.op = .indexAddr t x i) (kx : cOpd x = some x') (ki : cOpd i = some i') (ht : P.underlying t = some (.array n el)) (hz : sizeO P el = some z) : OpOk P o (oIndexAr n z x' i') := by
  refine OpOk.of_val fun call e c h v c' h' l he => ?_
  obtain ⟨p, hs, he⟩ := onPtr_ok he
  obtain ⟨p, rfl, he⟩ := ifS_ok he
  obtain ⟨i0, hi0, hlt, rfl, rfl, rfl⟩ := ixA_ok he
  refine ⟨rfl, rfl, fun ρ w a _ hE => ?_⟩
  have hx := cOpd_VR hE kx
  have hi := cOpd_VR hE ki
  obtain ⟨k, hi⟩ := asN_VR hi hi0
  rw [hs] at hx
  simp only [VR] at hx
  obtain ⟨b, s, h1, h2⟩ := hx
  refine ⟨.pointer (some ⟨b, p.2 + i0 * z, none⟩), ?_, ?_⟩
  · simp only [execOp, ho]
    refine run_val ?_
    simp [Instr.indexAt, hi, asIntOf, run_under ht, h2, run_size hz, addr_add, hlt, Instr.sureAddr]
  · simp only [VR]
    exact ⟨b, s, h1, rfl⟩
theorem op_indexVal {t el : TypeId} {n z : Nat} {g : Bool} {x i : Operand} {x' i' : Opd} (ho : o.op = .index t x i) (kx : cOpd x = some x') (ki : cOpd i = some i') (ht : P.underlying t = some (.array n el)) (hz : sizeO P el = some z) (hg : aggO P el = some g) : OpOk P o (oIndexVal n z g x' i') := by
  refine OpOk.of_val fun call e c h v c' h' l he => ?_
  obtain ⟨m, hm, he⟩ := ifS_ok he
  obtain ⟨hlt, he⟩ := ifB_ok he
  rw [blt_dec] at hlt
  have hlt := of_decide_eq_true hlt
  have key : c' = c ∧ h' = h ∧ ∃ r, ev e x' = .agg r ∧ ∀ (ρ : Ren) (w : World) (q : Array Value), VRs ρ r q.toList → ∃ u, (part el q (m * z)).run P w = .ok u w ∧ VR ρ v u := by
    cases g with
    | true =>
      obtain ⟨r, hr, he⟩ := onAgg_ok (show partN (m * z) z (ev e x') c h = _ from he)
      obtain ⟨u, hd, he⟩ := ifS_ok he
      obtain ⟨rfl, rfl, rfl, _⟩ := pure_ok he
      exact ⟨rfl, rfl, r, hr, fun ρ w q hq => run_partN hg hz hq hd⟩
    | false =>
      obtain ⟨r, hr, he⟩ := onAgg_ok (show part1 (m * z) (ev e x') c h = _ from he)
      obtain ⟨u, t, hd, he⟩ := ifC_ok he
      obtain ⟨rfl, rfl, rfl, _⟩ := pure_ok he
      exact ⟨rfl, rfl, r, hr, fun ρ w q hq => run_part1 hg hq hd⟩
  obtain ⟨rfl, rfl, r, hr, key⟩ := key
  refine ⟨rfl, rfl, fun ρ w a _ hE => ?_⟩
  have hx := cOpd_VR hE kx
  have hi := cOpd_VR hE ki
  obtain ⟨k, hi⟩ := asN_VR hi hm
  rw [hr] at hx
  simp only [VR] at hx
  obtain ⟨q, hq, hx⟩ := hx
  obtain ⟨u, h1, h2⟩ := key ρ w q hx
  refine ⟨u, ?_, h2⟩
  simp only [execOp, ho]
  refine run_val ?_
  simp [Instr.index, hi, asIntOf, run_under ht, hq, hlt, run_size hz, h1]
theorem bound_eq {ρ : Ren} {e : Env} {a : Act} (hE : ER ρ e a.tmps) {x : Option Operand} {x' : Option Opd} (k : cOpdO x = some x') {d n : Nat} (hn : evB e d x' = some n) :
    (x = none ∧ n = d) ∨ ∃ y i, x = some y ∧ a.eval y = .int i (n : Int) := by
  rcases cOpdO_VR hE k with ⟨rfl, rfl⟩ | ⟨y, y', rfl, rfl, hV⟩
  · cases hn
    exact .inl ⟨rfl, rfl⟩
  · obtain ⟨i, hi⟩ := asN_VR hV hn
    exact .inr ⟨y, i, rfl, hi⟩
/-- the bounds of a slice expression that are well -/
theorem run_bounds {ρ : Ren} {e : Env} {a : Act} (hE : ER ρ e a.tmps) {lo hi : Option Operand} {lo' hi' : Option Opd} (kl : cOpdO lo = some lo') (kh : cOpdO hi = some hi') {len cap l h : Nat} (hl : evB e 0 lo' = some l) (hh : evB e len hi' = some h)
    (h1 : l ≤ h) (h2 : h ≤ cap) (b : Bool) (w : World) : (Instr.sliceBounds b len cap (lo.map a.eval) (hi.map a.eval) none).run P w = .ok (l, h, cap) w := by
  unfold Instr.sliceBounds
  rcases bound_eq hE kh hh with ⟨rfl, rfl⟩ | ⟨y, i, rfl, hy⟩ <;> rcases bound_eq hE kl hl with ⟨rfl, rfl⟩ | ⟨z, j, rfl, hz⟩ <;>
    simp [Instr.sliceBound, asIntOf, *]
theorem le_of_two {l h m : Nat} (e : ifB (Nat.ble l h) (Nat.ble h m) false = true) : l ≤ h ∧ h ≤ m := by
  cases k : Nat.ble l h with
  | false => rw [k] at e; cases e
  | true => rw [k] at e; exact ⟨Nat.le_of_ble_eq_true k, Nat.le_of_ble_eq_true e⟩
theorem op_sliceStr {t : TypeId} {x : Operand} {lo hi : Option Operand} {x' : Opd} {lo' hi' : Option Opd} (ho : o.op = .slice t x lo hi none) (kx : cOpd x = some x') (kl : cOpdO lo = some lo') (kh : cOpdO hi = some hi') (ht : P.underlying t = some .string) : OpOk P o (oSliceStr x' lo' hi') := by
  refine OpOk.of_val fun call e c h v c' h' l he => ?_
  obtain ⟨s, hs, he⟩ := onStr_ok he
  obtain ⟨l0, hl, he⟩ := ifS_ok he
  obtain ⟨h0, hh, he⟩ := ifS_ok he
  obtain ⟨hb, he⟩ := ifB_ok he
  obtain ⟨rfl, rfl, rfl, _⟩ := pure_ok he
  obtain ⟨h1, h2⟩ := le_of_two hb
  rw [len_eq] at h2 hh
  refine ⟨rfl, rfl, fun ρ w a _ hE => ?_⟩
  have hx := cOpd_VR hE kx
  rw [hs] at hx
  simp only [VR] at hx
  obtain ⟨q, hq, hx⟩ := hx
  have hlen := str_len hx
  refine ⟨.string (q.extract l0 h0), ?_, ?_⟩
  · simp only [execOp, ho]
    refine run_val ?_
    have := run_bounds (P := P) hE kl kh (cap := s.length) hl hh h1 h2 false w
    rw [← hlen] at this
    simp [Instr.sliceAt, Instr.slice, run_under ht, hq, this]
  · simp only [VR]
    refine ⟨_, rfl, ?_⟩
    rw [takeS_eq, dropS_eq, ← hx]
    simp only [ByteArray.data_extract, Array.toList_extract, List.extract_eq_take_drop, List.map_take, List.map_drop]
    rfl
theorem sub2_ok {size c0 c c' : Nat} {p : Option (Nat × Nat)} {l h : Option Nat} {v : AV} {H0 H1 : H} {g : Log} (e : sub2 size p c0 l h c H0 = .ok v c' H1 g) :
    ∃ l0 h0, l = some l0 ∧ h = some h0 ∧ l0 ≤ h0 ∧ h0 ≤ c0 ∧ v = .slice (shiftA (l0 * size) p) (h0 - l0) (c0 - l0) size ∧ c' = c ∧ H1 = H0 := by
  obtain ⟨l0, rfl, e⟩ := ifS_ok (o := l) e
  obtain ⟨h0, rfl, e⟩ := ifS_ok (o := h) e
  obtain ⟨hb, e⟩ := ifB_ok e
  obtain ⟨rfl, rfl, rfl, _⟩ := pure_ok e
  obtain ⟨h1, h2⟩ := le_of_two hb
  exact ⟨l0, h0, rfl, rfl, h1, h2, rfl, rfl, rfl⟩
theorem op_sliceSl {t el : TypeId} {z : Nat} {x : Operand} {lo hi : Option Operand} {x' : Opd} {lo' hi' : Option Opd} (ho : o.op = .slice t x lo hi none) (kx : cOpd x = some x') (kl : cOpdO lo = some lo') (kh : cOpdO hi = some hi') (ht : P.underlying t = some (.slice el)) (hz : sizeO P el = some z) : OpOk P o (oSliceSl z x' lo' hi') := by
  refine OpOk.of_val fun call e c h v c' h' l he => ?_
  obtain ⟨p, n, m, q, hs, he⟩ := onSlice_ok he
  obtain ⟨hq, he⟩ := ifB_ok he
  obtain ⟨l0, h0, hl, hh, h1, h2, rfl, rfl, rfl⟩ := sub2_ok he
  refine ⟨rfl, rfl, fun ρ w a _ hE => ?_⟩
  have hx := cOpd_VR hE kx
  rw [hs] at hx
  cases p with
  | none =>
    simp only [VR] at hx
    have := run_bounds (P := P) hE kl kh (cap := m) hl hh h1 h2 true w
    refine ⟨.slice none (h0 - l0) (m - l0), ?_, by simp only [shiftA, ifS_none, VR]⟩
    simp only [execOp, ho]
    refine run_val ?_
    simp [Instr.sliceAt, Instr.slice, run_under ht, hx, this, run_size hz]
  | some p =>
    simp only [VR] at hx
    obtain ⟨b, s, o', k', g1, g2, g3, g4, g5, g6, g7⟩ := hx
    have hqz : q = z := Nat.eq_of_beq_eq_true hq
    subst hqz
    have := run_bounds (P := P) hE kl kh (cap := k') hl hh h1 (Nat.le_trans h2 g3) true w
    refine ⟨.slice (some (if k' = l0 then ⟨b, o', none⟩ else ⟨b, o' + l0 * q, none⟩)) (h0 - l0) (k' - l0), ?_, ?_⟩
    · simp only [execOp, ho]
      refine run_val ?_
      simp only [Instr.sliceAt, Instr.slice, Sem.run_bind, run_under ht, Result.andThen, g2, Option.map_none, this, run_size hz, Sem.run_pure]
      congr 2
      split <;> simp [addr_add]
    · simp only [shiftA, ifS_some, VR]
      by_cases hk : k' = l0
      · rw [if_pos hk]
        exact ⟨b, s, o', _, g1, rfl, by omega, by omega, .inl (by omega), by rw [hk]; simp; omega, by omega⟩
      · rw [if_neg hk]
        refine ⟨b, s, o' + l0 * q, _, g1, rfl, by omega, by omega, .inr ?_, ?_, by omega⟩
        · rcases g5 with g5 | g5
          · omega
          · rw [g5]; rfl
        · rw [Nat.add_assoc, ← Nat.add_mul]
          rw [show l0 + (k' - l0) = k' by omega]
          exact g6
end
end Go.Sx
namespace Go.Sx
open Go.RowKit

section
variable {P : Program} {o : Oper}
/-- what a comparison says of '==' and '!=' -/
def EqOk (P : Program) (t : TypeId) (x y : Operand) (f : AV → AV → Option Bool) : Prop := ∀ ρ p q r, f p q = some r → ∀ u v, VR ρ p u → VR ρ q v → ∀ w : World,
  (∀ op, (eqGuard op t x y u v).run P w = .ok () w) ∧ (binOp .eql t u v).run P w = .ok (.bool r) w ∧ (binOp .neq t u v).run P w = .ok (.bool (!r)) w
theorem op_eq {op : BinOp} {pos : Bool} {t t' : TypeId} {x y : Operand} {x' y' : Opd} {f : AV → AV → Option Bool} (ho : o.op = .binOp op t x y t') (kx : cOpd x = some x') (ky : cOpd y = some y')
    (hp : (op = .eql ∧ pos = true) ∨ (op = .neq ∧ pos = false)) (hf : EqOk P t x y f) : OpOk P o (oEq f pos x' y') := by
  refine OpOk.of_val fun call e c h v c' h' l he => ?_
  obtain ⟨r, hr, he⟩ := ifS_ok he
  obtain ⟨rfl, rfl, rfl, _⟩ := pure_ok he
  refine ⟨rfl, rfl, fun ρ w a _ hE => ?_⟩
  obtain ⟨h1, h2, h3⟩ := hf ρ _ _ r hr _ _ (cOpd_VR hE kx) (cOpd_VR hE ky) w
  refine ⟨.bool (if pos then r else !r), ?_, ?_⟩
  · simp only [execOp, ho]
    refine run_val ?_
    rcases hp with ⟨rfl, rfl⟩ | ⟨rfl, rfl⟩ <;> simp [h1, h2, h3]
  · cases pos <;> exact VR.bool ρ _
theorem onBool_eq {v : AV} {β : Type} {k : Bool → Option β} {r : β} (e : onBool none k v = some r) : ∃ b, v = .bool b ∧ k b = some r := by cases v <;> first | exact ⟨_, rfl, e⟩ | cases e
theorem onInt_eq {v : AV} {β : Type} {k : IntKind → Int → Option β} {r : β} (e : onInt none k v = some r) : ∃ i n, v = .int i n ∧ k i n = some r := by cases v <;> first | exact ⟨_, _, rfl, e⟩ | cases e
theorem onStr_eq {v : AV} {β : Type} {k : List Nat → Option β} {r : β} (e : onStr none k v = some r) : ∃ b, v = .str b ∧ k b = some r := by cases v <;> first | exact ⟨_, rfl, e⟩ | cases e
theorem onPtr_eq {v : AV} {β : Type} {k : Option (Nat × Nat) → Option β} {r : β} (e : onPtr none k v = some r) : ∃ b, v = .ptr b ∧ k b = some r := by cases v <;> first | exact ⟨_, rfl, e⟩ | cases e
theorem onSlice_eq {v : AV} {β : Type} {k : Option (Nat × Nat) → Nat → Nat → Nat → Option β} {r : β} (e : onSlice none k v = some r) : ∃ a n m z, v = .slice a n m z ∧ k a n m z = some r := by cases v <;> first | exact ⟨_, _, _, _, rfl, e⟩ | cases e
theorem onMap_eq {v : AV} {β : Type} {k : Option Nat → Option β} {r : β} (e : onMap none k v = some r) : ∃ b, v = .map b ∧ k b = some r := by cases v <;> first | exact ⟨_, rfl, e⟩ | cases e
theorem onAgg_eq {v : AV} {β : Type} {k : List AV → Option β} {r : β} (e : onAgg none k v = some r) : ∃ b, v = .agg b ∧ k b = some r := by cases v <;> first | exact ⟨_, rfl, e⟩ | cases e
theorem ifC_eq {α β : Type} {l : List α} {k : α → List α → Option β} {r : β} (e : ifC none k l = some r) : ∃ a t, l = a :: t ∧ k a t = some r := by
  cases l with
  | nil => cases e
  | cons a t => exact ⟨a, t, rfl, e⟩
theorem eqBool (a b : Bool) : ifB a b (not b) = (a == b) := by cases a <;> cases b <;> rfl
def fkFits : FK → TypeDesc → Prop
  | .int, d => ∃ k, d = .int k
  | .str, d => d = .string
  | .bool, d => d = .bool
theorem fkO_eq {t : TypeId} {k : FK} (h : fkO P t = some k) : ∃ d, P.underlying t = some d ∧ fkFits k d := by
  unfold fkO at h
  split at h <;> first
    | (rename_i e; cases h; exact ⟨_, e, _, rfl⟩)
    | (rename_i e; cases h; exact ⟨_, e, rfl⟩)
    | cases h
/-- cells that are numbers, strings or truths -/
theorem eqCell_ok {k : FK} {ρ : Ren} {p q : AV} {r : Bool} (h : eqCell k p q = some r) {u v : Value} (hu : VR ρ p u) (hv : VR ρ q v) :
    match k with
    | .int => ∃ i m n, u = .int i m ∧ v = .int i n ∧ r = (m == n)
    | .str => ∃ a b, u = .string a ∧ v = .string b ∧ r = (a.toList == b.toList)
    | .bool => ∃ a b, u = .bool a ∧ v = .bool b ∧ r = (a == b) := by
  cases k with
  | int =>
    obtain ⟨i, m, rfl, h⟩ := onInt_eq (show onInt none _ p = some r from h)
    obtain ⟨j, n, rfl, h⟩ := onInt_eq h
    obtain ⟨hk, h⟩ := ifB_eq h
    cases h
    simp only [VR] at hu hv
    rw [kind_eq hk] at hu
    exact ⟨j, m, n, hu, hv, eqI_eq m n⟩
  | str =>
    obtain ⟨a, rfl, h⟩ := onStr_eq (show onStr none _ p = some r from h)
    obtain ⟨b, rfl, h⟩ := onStr_eq h
    cases h
    simp only [VR] at hu hv
    obtain ⟨x, hu, h1⟩ := hu
    obtain ⟨y, hv, h2⟩ := hv
    exact ⟨x, y, hu, hv, str_eq h1 h2⟩
  | bool =>
    obtain ⟨a, rfl, h⟩ := onBool_eq (show onBool none _ p = some r from h)
    obtain ⟨b, rfl, h⟩ := onBool_eq h
    cases h
    simp only [VR] at hu hv
    exact ⟨a, b, hu, hv, eqBool a b⟩
theorem run_eqCell {k : FK} {t : TypeId} (ht : fkO P t = some k) {ρ : Ren} {p q : AV} {r : Bool} (h : eqCell k p q = some r) {u v : Value} (hu : VR ρ p u) (hv : VR ρ q v) (d : Nat) (w : World) : (Op.equalIn (d + 1) t u v).run P w = .ok r w := by
  obtain ⟨D, hD, hf⟩ := fkO_eq ht
  have := eqCell_ok h hu hv
  cases k with
  | int =>
    obtain ⟨i, m, n, rfl, rfl, rfl⟩ := this
    obtain ⟨j, rfl⟩ := hf
    exact run_equalIn_int w d t i j m n hD
  | str =>
    obtain ⟨a, b, rfl, rfl, rfl⟩ := this
    exact run_equalIn_string w d t a b (hf ▸ hD)
  | bool =>
    obtain ⟨a, b, rfl, rfl, rfl⟩ := this
    exact run_equalIn_bool' w d t a b (hf ▸ hD)
theorem EqOk.of_equal {t : TypeId} {x y : Operand} {f : AV → AV → Option Bool} (h : ∀ ρ p q r, f p q = some r → ∀ u v, VR ρ p u → VR ρ q v → ∀ w : World,
    (∀ op, (eqGuard op t x y u v).run P w = .ok () w) ∧ (∀ d, (Op.equalIn (d + 1) t u v).run P w = .ok r w) ∧ (binOp .eql t u v = do pure (.bool (← Op.equal t u v))) ∧ (binOp .neq t u v = do pure (.bool (!(← Op.equal t u v))))) : EqOk P t x y f := by
  intro ρ p q r hr u v hu hv w
  obtain ⟨h1, h2, h3, h4⟩ := h ρ p q r hr u v hu hv w
  have h2 : (Op.equal t u v).run P w = .ok r w := h2 9999
  exact ⟨h1, by rw [h3]; simp [h2], by rw [h4]; simp [h2]⟩
theorem eq_bool {t : TypeId} {x y : Operand} (ht : P.underlying t = some .bool) : EqOk P t x y (eqCell .bool) := by
  refine EqOk.of_equal fun ρ p q r hr u v hu hv w => ?_
  have hk : fkO P t = some .bool := by unfold fkO; rw [ht]
  have h2 := fun d => run_eqCell hk hr hu hv d w
  obtain ⟨a, b, rfl, rfl, _⟩ := eqCell_ok hr hu hv
  exact ⟨fun op => by cases op <;> rfl, h2, rfl, rfl⟩
theorem eq_ptr {t e : TypeId} {z : Nat} {x y : Operand} (ht : P.underlying t = some (.pointer e)) (hz : sizeO P e = some z) (hn : z ≠ 0) : EqOk P t x y eqPtr := by
  refine EqOk.of_equal fun ρ p q r hr u v hu hv w => ?_
  obtain ⟨a, rfl, hr⟩ := onPtr_eq (v := p) hr
  obtain ⟨b, rfl, hr⟩ := onPtr_eq (v := q) hr
  have key : ∃ i j, u = .pointer i ∧ v = .pointer j ∧ ∀ d, (Op.equalIn (d + 1) t u v).run P w = .ok r w := by
    cases a with
    | none =>
      simp only [VR] at hu
      subst hu
      cases hr
      cases b with
      | none => simp only [VR] at hv; subst hv; exact ⟨_, _, rfl, rfl, fun d => by simp [Op.equalIn, run_under ht, ifS]⟩
      | some b => simp only [VR] at hv; obtain ⟨_, _, _, rfl⟩ := hv; exact ⟨_, _, rfl, rfl, fun d => by simp [Op.equalIn, run_under ht, ifS]⟩
    | some a =>
      simp only [VR] at hu
      obtain ⟨k, z', h1, rfl⟩ := hu
      cases b with
      | none => cases hr; simp only [VR] at hv; subst hv; exact ⟨_, _, rfl, rfl, fun d => by simp [Op.equalIn, run_under ht]⟩
      | some b =>
        simp only [VR] at hv
        obtain ⟨k', z'', h2, rfl⟩ := hv
        obtain ⟨hk, hr⟩ := ifB_eq (show ifB (Nat.beq a.1 b.1) (some (Nat.beq a.2 b.2)) none = some r from hr)
        cases hr
        rw [Nat.eq_of_beq_eq_true hk, h2] at h1
        cases h1
        refine ⟨_, _, rfl, rfl, ?_⟩
        have : Nat.beq a.2 b.2 = ((⟨k, a.2, none⟩ : Addr) == ⟨k, b.2, none⟩) := by
          by_cases e : a.2 = b.2
          · rw [e]; simp
          · have e1 : Nat.beq a.2 b.2 = false := Bool.eq_false_iff.2 fun h => e (Nat.eq_of_beq_eq_true h)
            rw [e1]
            exact (beq_eq_false_iff_ne.2 fun h => e (Addr.mk.inj h).2.1).symm
        rw [this]
        simp [Op.equalIn, run_under ht, run_size hz, hn, sameAddr]
  obtain ⟨i, j, rfl, rfl, h2⟩ := key
  exact ⟨fun op => by cases op <;> rfl, h2, rfl, rfl⟩
theorem eq_sl {t e : TypeId} {x y : Operand} (ht : P.underlying t = some (.slice e)) : EqOk P t x y eqSl := by
  refine EqOk.of_equal fun ρ p q r hr u v hu hv w => ?_
  obtain ⟨a, n, m, z, rfl, hr⟩ := onSlice_eq (v := p) hr
  obtain ⟨b, n', m', z', rfl, hr⟩ := onSlice_eq (v := q) hr
  have key : ∃ i n m j n' m', u = .slice i n m ∧ v = .slice j n' m' ∧ ∀ d, (Op.equalIn (d + 1) t u v).run P w = .ok r w := by
    cases a with
    | none =>
      simp only [VR] at hu
      subst hu
      cases hr
      cases b with
      | none => simp only [VR] at hv; subst hv; exact ⟨_, _, _, _, _, _, rfl, rfl, fun d => by simp [Op.equalIn, run_under ht, ifS]⟩
      | some b => simp only [VR] at hv; obtain ⟨_, _, _, _, _, rfl, _⟩ := hv; exact ⟨_, _, _, _, _, _, rfl, rfl, fun d => by simp [Op.equalIn, run_under ht, ifS]⟩
    | some a =>
      simp only [VR] at hu
      obtain ⟨_, _, _, _, _, rfl, _⟩ := hu
      cases b with
      | none => cases hr; simp only [VR] at hv; subst hv; exact ⟨_, _, _, _, _, _, rfl, rfl, fun d => by simp [Op.equalIn, run_under ht]⟩
      | some b => cases hr
  obtain ⟨i, n, m, j, n', m', rfl, rfl, h2⟩ := key
  exact ⟨fun op => by cases op <;> rfl, h2, rfl, rfl⟩
theorem eq_map {t k e : TypeId} {x y : Operand} (ht : P.underlying t = some (.map k e)) : EqOk P t x y eqMap := by
  refine EqOk.of_equal fun ρ p q r hr u v hu hv w => ?_
  obtain ⟨a, rfl, hr⟩ := onMap_eq (v := p) hr
  obtain ⟨b, rfl, hr⟩ := onMap_eq (v := q) hr
  have key : ∃ i j, u = .map i ∧ v = .map j ∧ ∀ d, (Op.equalIn (d + 1) t u v).run P w = .ok r w := by
    cases a with
    | none =>
      simp only [VR] at hu
      subst hu
      cases hr
      cases b with
      | none => simp only [VR] at hv; subst hv; exact ⟨_, _, rfl, rfl, fun d => by simp [Op.equalIn, run_under ht, ifS]⟩
      | some b => simp only [VR] at hv; obtain ⟨_, _, _, rfl⟩ := hv; exact ⟨_, _, rfl, rfl, fun d => by simp [Op.equalIn, run_under ht, ifS]⟩
    | some a =>
      simp only [VR] at hu
      obtain ⟨_, _, _, rfl⟩ := hu
      cases b with
      | none => cases hr; simp only [VR] at hv; subst hv; exact ⟨_, _, rfl, rfl, fun d => by simp [Op.equalIn, run_under ht]⟩
      | some b => cases hr
  obtain ⟨i, j, rfl, rfl, h2⟩ := key
  exact ⟨fun op => by cases op <;> rfl, h2, rfl, rfl⟩
theorem nilF_eq {v : AV} {b : Bool} (h : nilF v = some b) : (b = true ∧ v = .nilFn) ∨ (b = false ∧ ∃ f a c, v = .fn f a c) := by
  cases v <;> first | (cases h; exact .inl ⟨rfl, rfl⟩) | (cases h; exact .inr ⟨rfl, _, _, _, rfl⟩) | cases h
theorem nilI_eq {v : AV} {b : Bool} (h : nilI v = some b) : (b = true ∧ v = .nilIface) ∨ (b = false ∧ ∃ t x, v = .iface t x) := by
  cases v <;> first | (cases h; exact .inl ⟨rfl, rfl⟩) | (cases h; exact .inr ⟨rfl, _, _, rfl⟩) | cases h
theorem nil2_eq {a b : Option Bool} {r : Bool} (h : nil2 a b = some r) : (a = some true ∧ b = some r) ∨ (a = some false ∧ b = some true ∧ r = false) := by
  cases a with
  | none => cases h
  | some a =>
    cases b with
    | none => cases h
    | some b => cases a <;> cases b <;> first | (cases h; exact .inl ⟨rfl, rfl⟩) | (cases h; exact .inr ⟨rfl, rfl, rfl⟩) | cases h
theorem eq_fn {t : TypeId} {ps rs : Array TypeId} {b : Bool} {x y : Operand} (ht : P.underlying t = some (.func ps rs b)) : EqOk P t x y eqFn := by
  refine EqOk.of_equal fun ρ p q r hr u v hu hv w => ?_
  rcases nil2_eq hr with ⟨h1, h2⟩ | ⟨h1, h2, rfl⟩
  · rcases nilF_eq h1 with ⟨_, rfl⟩ | ⟨e, _⟩
    · simp only [VR] at hu
      subst hu
      rcases nilF_eq h2 with ⟨rfl, rfl⟩ | ⟨rfl, f, a, c, rfl⟩
      · simp only [VR] at hv
        subst hv
        exact ⟨fun op => by cases op <;> rfl, fun d => by simp [Op.equalIn, run_under ht], rfl, rfl⟩
      · simp only [VR] at hv
        obtain ⟨_, _, rfl, _⟩ := hv
        exact ⟨fun op => by cases op <;> rfl, fun d => by simp [Op.equalIn, run_under ht], rfl, rfl⟩
    · cases e
  · rcases nilF_eq h1 with ⟨e, _⟩ | ⟨_, f, a, c, rfl⟩
    · cases e
    · rcases nilF_eq h2 with ⟨_, rfl⟩ | ⟨e, _⟩
      · simp only [VR] at hu hv
        obtain ⟨_, _, rfl, _⟩ := hu
        subst hv
        exact ⟨fun op => by cases op <;> rfl, fun d => by simp [Op.equalIn, run_under ht], rfl, rfl⟩
      · cases e
theorem isConst_eq {x : Operand} (h : isConst x = true) : ∃ v, x = .const v := by
  cases x <;> first | exact ⟨_, rfl⟩ | cases h
theorem eq_if {t : TypeId} {ms : Array (String × TypeId)} {x y : Operand} (ht : P.underlying t = some (.interface ms)) (hc : isConst x = true ∨ isConst y = true) : EqOk P t x y eqIf := by
  refine EqOk.of_equal fun ρ p q r hr u v hu hv w => ?_
  rcases nil2_eq hr with ⟨h1, h2⟩ | ⟨h1, h2, rfl⟩
  · rcases nilI_eq h1 with ⟨_, rfl⟩ | ⟨e, _⟩
    · simp only [VR] at hu
      subst hu
      rcases nilI_eq h2 with ⟨rfl, rfl⟩ | ⟨rfl, f, a, rfl⟩
      · simp only [VR] at hv
        subst hv
        refine ⟨fun op => ?_, fun d => by simp [Op.equalIn, run_under ht], rfl, rfl⟩
        rcases hc with hc | hc <;> obtain ⟨z, rfl⟩ := isConst_eq hc <;> cases op <;> simp [eqGuard]
      · simp only [VR] at hv
        obtain ⟨_, rfl, _⟩ := hv
        exact ⟨fun op => by cases op <;> rfl, fun d => by simp [Op.equalIn, run_under ht], rfl, rfl⟩
    · cases e
  · rcases nilI_eq h1 with ⟨e, _⟩ | ⟨_, f, a, rfl⟩
    · cases e
    · rcases nilI_eq h2 with ⟨_, rfl⟩ | ⟨e, _⟩
      · simp only [VR] at hu hv
        obtain ⟨_, rfl, _⟩ := hu
        subst hv
        exact ⟨fun op => by cases op <;> rfl, fun d => by simp [Op.equalIn, run_under ht], rfl, rfl⟩
      · cases e
theorem run_eqFs {w : World} {ρ : Ren} (d : Nat) {a b : List AV} {xs ys : Array Value} (ha : VRs ρ a xs.toList) (hb : VRs ρ b ys.toList) : ∀ (fs : List Field) (ks : List (Nat × FK)) (r : Bool), allO (fieldK P) fs = some ks →
    List.rec (motive := fun _ => Option Bool) (some true) (fun k _ r => ifC none (fun p _ => ifC none (fun q _ => ifS none (fun t => ifB t r (some false)) (eqCell k.2 p q)) (dropN k.1 b)) (dropN k.1 a)) ks = some r →
    (Op.eqFields (d + 1) xs ys fs).run P w = .ok r w
  | [], ks, r, hk, hr => by
    cases hk
    cases hr
    rfl
  | f :: fs, ks, r, hk, hr => by
    obtain ⟨k, h1, hk⟩ := ifS_eq (show ifS none (fun b => ifS none (fun r => some (b :: r)) (allO (fieldK P) fs)) (fieldK P f) = some ks from hk)
    obtain ⟨ks', h2, hk⟩ := ifS_eq hk
    cases hk
    obtain ⟨hn, h1⟩ := ifB_eq h1
    obtain ⟨fk, h3, h1⟩ := ifS_eq h1
    cases h1
    obtain ⟨p, t1, hp, hr⟩ := ifC_eq hr
    obtain ⟨q, t2, hq, hr⟩ := ifC_eq hr
    obtain ⟨t, ht, hr⟩ := ifS_eq hr
    have hagg : aggO P f.type = some false := by
      obtain ⟨D, hD, hf⟩ := fkO_eq h3
      unfold aggO
      rw [hD]
      cases fk with
      | int => obtain ⟨_, rfl⟩ := hf; rfl
      | str => have hf : D = .string := hf; subst hf; rfl
      | bool => have hf : D = .bool := hf; subst hf; rfl
    obtain ⟨u, g1, g2⟩ := run_part1 (w := w) hagg ha hp
    obtain ⟨v, g3, g4⟩ := run_part1 (w := w) hagg hb hq
    have g5 := run_eqCell h3 ht g2 g4 d w
    have hn' : f.name ≠ "_" := by simpa using hn
    simp only [Op.eqFields, if_pos hn', Sem.run_bind, g1, g3, g5, Result.andThen]
    cases t with
    | true =>
      simp only [Bool.not_true, Bool.false_eq_true, if_false]
      exact run_eqFs d ha hb fs ks' r h2 hr
    | false =>
      cases hr
      rfl
theorem eq_fs {t : TypeId} {fs : Array Field} {ks : List (Nat × FK)} {x y : Operand} (ht : P.underlying t = some (.struct fs)) (hg : P.eqGuardType P.depth t = false) (hp : P.stoodInHeld t = false) (hk : allO (fieldK P) fs.toList = some ks) : EqOk P t x y (eqFs ks) := by
  intro ρ p q r hr u v hu hv w
  obtain ⟨a, rfl, hr⟩ := onAgg_eq (v := p) hr
  obtain ⟨b, rfl, hr⟩ := onAgg_eq (v := q) hr
  simp only [VR] at hu hv
  obtain ⟨xs, rfl, hu⟩ := hu
  obtain ⟨ys, rfl, hv⟩ := hv
  have hfs : P.fieldsOf t = fs := by simp [Program.fieldsOf, ht]
  have h1 : (Op.equalIn 10000 t (.agg xs) (.agg ys)).run P w = .ok r w := by
    rw [show (10000 : Nat) = 9999 + 1 from rfl, run_equalIn_struct w 9999 t xs ys (by rw [hfs]; exact ht) hp, hfs]
    exact run_eqFs 9998 hu hv fs.toList ks r hk hr
  exact ⟨fun op => run_eqGuard_agg w op t x y xs ys hg, by rw [run_eql_struct, h1]; rfl, by rw [run_neq_struct, h1]; rfl⟩
theorem eqOf_ok {t : TypeId} {x y : Operand} {f : AV → AV → Option Bool} (h : eqOf P t x y = some f) : EqOk P t x y f := by
  unfold eqOf at h
  split at h
  · rename_i ht; cases h; exact eq_bool ht
  · rename_i e ht
    obtain ⟨z, hz, h⟩ := ifS_eq h
    obtain ⟨hn, h⟩ := ifN_eq h
    cases h
    exact eq_ptr ht hz fun e => by subst e; cases hn
  · rename_i ht; cases h; exact eq_sl ht
  · rename_i ht; cases h; exact eq_map ht
  · rename_i ht; cases h; exact eq_fn ht
  · rename_i ht
    obtain ⟨hc, h⟩ := ifB_eq h
    cases h
    refine eq_if ht ?_
    cases hx : isConst x with
    | true => exact .inl rfl
    | false => rw [hx] at hc; exact .inr hc
  · rename_i ht
    obtain ⟨hc, h⟩ := ifB_eq h
    obtain ⟨ks, hk, h⟩ := ifS_eq h
    cases h
    cases hg : P.eqGuardType P.depth _ with
    | true => rw [hg] at hc; cases hc
    | false =>
      rw [hg] at hc
      exact eq_fs ht hg (by simpa using (show (not (P.stoodInHeld _)) = true from hc)) hk
  · cases h
theorem op_cBin {op : BinOp} {t t' : TypeId} {x y : Operand} {x' y' : Opd} {f : Ev} (ho : o.op = .binOp op t x y t') (kx : cOpd x = some x') (ky : cOpd y = some y') (h : cBin P op t x y x' y' = some f) : OpOk P o f := by
  unfold cBin at h
  cases hs : isScal P t with
  | true => rw [hs] at h; cases h; exact op_bin ho kx ky
  | false =>
    rw [hs] at h
    cases op with
    | eql =>
      obtain ⟨g, hg, h⟩ := ifS_eq (show ifS none (fun f => some (oEq f true x' y')) (eqOf P t x y) = some f from h)
      cases h
      exact op_eq ho kx ky (.inl ⟨rfl, rfl⟩) (eqOf_ok hg)
    | neq =>
      obtain ⟨g, hg, h⟩ := ifS_eq (show ifS none (fun f => some (oEq f false x' y')) (eqOf P t x y) = some f from h)
      cases h
      exact op_eq ho kx ky (.inr ⟨rfl, rfl⟩) (eqOf_ok hg)
    | _ => cases h
end
end Go.Sx
