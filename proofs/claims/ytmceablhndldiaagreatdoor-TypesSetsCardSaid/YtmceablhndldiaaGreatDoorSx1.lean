/-
  A symbolic run of a closed call: values and memory whose blocks have names of their own; what it answers is proved of every world behind.
-/
import Derived.Orders
import Derived.Defers
namespace Go.Sx

inductive AV where
  | bool (b : Bool)
  | int (k : IntKind) (n : Int)
  | str (s : List Nat)
  | ptr (a : Option (Nat × Nat))
  | slice (a : Option (Nat × Nat)) (len cap z : Nat)
  | map (r : Option Nat)
  | fn (f : Nat) (first cap : List AV)
  | nilFn
  | iface (t : Nat) (v : AV)
  | nilIface
  | agg (l : List AV)
  | tuple (l : List AV)

inductive T (α : Type) where
  | leaf
  | node (v : Option α) (l r : T α)

inductive AO where
  | row (cells : List AV)
  | mp (es : List (AV × AV × Nat)) (clock : Nat)

abbrev H := T AO
abbrev Log := List (Nat × Option Nat × Bool)
inductive Rs (α : Type) where
  | fail
  | ok (a : α) (c : Nat) (h : H) (l : Log)
abbrev M (α : Type) := Nat → H → Rs α

section
variable {α β : Type}
noncomputable def T.get (t : T α) : Nat → Option α := T.rec (motive := fun _ => Nat → Option α) (fun _ => none)
  (fun v _ _ gl gr n => Bool.rec (Bool.rec (gr (Nat.pred (Nat.div n 2))) (gl (Nat.div n 2)) (Nat.beq (Nat.mod n 2) 1)) v (Nat.beq n 0)) t
noncomputable def T.set1 (x : Option α) (f : Nat) : Nat → T α := Nat.rec (motive := fun _ => Nat → T α) (fun _ => .leaf)
  (fun _ g n => Bool.rec (Bool.rec (.node none .leaf (g (Nat.pred (Nat.div n 2)))) (.node none (g (Nat.div n 2)) .leaf) (Nat.beq (Nat.mod n 2) 1)) (.node x .leaf .leaf) (Nat.beq n 0)) f
noncomputable def T.set (t : T α) (n : Nat) (x : Option α) : T α := T.rec (motive := fun _ => Nat → T α) (fun n => T.set1 x (Nat.succ n) n)
  (fun v l r gl gr n => Bool.rec (Bool.rec (.node v l (gr (Nat.pred (Nat.div n 2)))) (.node v (gl (Nat.div n 2)) r) (Nat.beq (Nat.mod n 2) 1)) (.node x l r) (Nat.beq n 0)) t n

noncomputable def ifB (b : Bool) (x y : α) : α := Bool.rec y x b
noncomputable def ifS (d : β) (k : α → β) (o : Option α) : β := Option.rec d k o
noncomputable def ifC (d : β) (k : α → List α → β) (l : List α) : β := List.rec d (fun a t _ => k a t) l
noncomputable def onBool (d : α) (k : Bool → α) (v : AV) : α :=
  AV.rec (motive_1 := fun _ => α) (motive_2 := fun _ => Unit) k (fun _ _ => d) (fun _ => d) (fun _ => d) (fun _ _ _ _ => d) (fun _ => d) (fun _ _ _ _ _ => d) d (fun _ _ _ => d) d (fun _ _ => d) (fun _ _ => d) () (fun _ _ _ _ => ()) v
noncomputable def onInt (d : α) (k : IntKind → Int → α) (v : AV) : α :=
  AV.rec (motive_1 := fun _ => α) (motive_2 := fun _ => Unit) (fun _ => d) k (fun _ => d) (fun _ => d) (fun _ _ _ _ => d) (fun _ => d) (fun _ _ _ _ _ => d) d (fun _ _ _ => d) d (fun _ _ => d) (fun _ _ => d) () (fun _ _ _ _ => ()) v
noncomputable def onStr (d : α) (k : List Nat → α) (v : AV) : α :=
  AV.rec (motive_1 := fun _ => α) (motive_2 := fun _ => Unit) (fun _ => d) (fun _ _ => d) k (fun _ => d) (fun _ _ _ _ => d) (fun _ => d) (fun _ _ _ _ _ => d) d (fun _ _ _ => d) d (fun _ _ => d) (fun _ _ => d) () (fun _ _ _ _ => ()) v
noncomputable def onPtr (d : α) (k : Option (Nat × Nat) → α) (v : AV) : α :=
  AV.rec (motive_1 := fun _ => α) (motive_2 := fun _ => Unit) (fun _ => d) (fun _ _ => d) (fun _ => d) k (fun _ _ _ _ => d) (fun _ => d) (fun _ _ _ _ _ => d) d (fun _ _ _ => d) d (fun _ _ => d) (fun _ _ => d) () (fun _ _ _ _ => ()) v
noncomputable def onSlice (d : α) (k : Option (Nat × Nat) → Nat → Nat → Nat → α) (v : AV) : α :=
  AV.rec (motive_1 := fun _ => α) (motive_2 := fun _ => Unit) (fun _ => d) (fun _ _ => d) (fun _ => d) (fun _ => d) k (fun _ => d) (fun _ _ _ _ _ => d) d (fun _ _ _ => d) d (fun _ _ => d) (fun _ _ => d) () (fun _ _ _ _ => ()) v
noncomputable def onMap (d : α) (k : Option Nat → α) (v : AV) : α :=
  AV.rec (motive_1 := fun _ => α) (motive_2 := fun _ => Unit) (fun _ => d) (fun _ _ => d) (fun _ => d) (fun _ => d) (fun _ _ _ _ => d) k (fun _ _ _ _ _ => d) d (fun _ _ _ => d) d (fun _ _ => d) (fun _ _ => d) () (fun _ _ _ _ => ()) v
noncomputable def onFn (d : α) (k : Nat → List AV → List AV → α) (v : AV) : α :=
  AV.rec (motive_1 := fun _ => α) (motive_2 := fun _ => Unit) (fun _ => d) (fun _ _ => d) (fun _ => d) (fun _ => d) (fun _ _ _ _ => d) (fun _ => d) (fun f a b _ _ => k f a b) d (fun _ _ _ => d) d (fun _ _ => d) (fun _ _ => d) () (fun _ _ _ _ => ()) v
noncomputable def onAgg (d : α) (k : List AV → α) (v : AV) : α :=
  AV.rec (motive_1 := fun _ => α) (motive_2 := fun _ => Unit) (fun _ => d) (fun _ _ => d) (fun _ => d) (fun _ => d) (fun _ _ _ _ => d) (fun _ => d) (fun _ _ _ _ _ => d) d (fun _ _ _ => d) d (fun l _ => k l) (fun _ _ => d) () (fun _ _ _ _ => ()) v
noncomputable def onTuple (d : α) (k : List AV → α) (v : AV) : α :=
  AV.rec (motive_1 := fun _ => α) (motive_2 := fun _ => Unit) (fun _ => d) (fun _ _ => d) (fun _ => d) (fun _ => d) (fun _ _ _ _ => d) (fun _ => d) (fun _ _ _ _ _ => d) d (fun _ _ _ => d) d (fun _ _ => d) (fun l _ => k l) () (fun _ _ _ _ => ()) v
noncomputable def onIface (d : α) (n : α) (k : Nat → AV → α) (v : AV) : α :=
  AV.rec (motive_1 := fun _ => α) (motive_2 := fun _ => Unit) (fun _ => d) (fun _ _ => d) (fun _ => d) (fun _ => d) (fun _ _ _ _ => d) (fun _ => d) (fun _ _ _ _ _ => d) d (fun t v _ => k t v) n (fun _ _ => d) (fun _ _ => d) () (fun _ _ _ _ => ()) v
noncomputable def onNat (d : α) (k : Nat → α) (n : Int) : α := Int.rec k (fun _ => d) n

noncomputable def M.pure (a : α) : M α := fun c h => .ok a c h []
noncomputable def Rs.andThen (k : α → M β) (r : Rs α) : Rs β :=
  Rs.rec (motive := fun _ => Rs β) .fail (fun a c h l => Rs.rec (motive := fun _ => Rs β) .fail (fun b c h l2 => .ok b c h (List.append l l2)) (k a c h)) r
noncomputable def M.bind (m : M α) (k : α → M β) : M β := fun c h => Rs.andThen k (m c h)
noncomputable def M.map (f : α → β) (m : M α) : M β := fun c h => Rs.rec (motive := fun _ => Rs β) .fail (fun a c h l => .ok (f a) c h l) (m c h)
noncomputable def fail : M α := fun _ _ => .fail
noncomputable def ofOpt (o : Option α) : M α := ifS fail M.pure o
end
noncomputable def len {α : Type} (l : List α) : Nat := List.rec 0 (fun _ _ n => Nat.succ n) l
noncomputable def newO (o : AO) : M Nat := fun c h => .ok c (Nat.succ c) (h.set c (some o)) []
noncomputable def AO.row? (o : AO) : Option (List AV) := AO.rec (fun cs => some cs) (fun _ _ => none) o
noncomputable def AO.map? (o : AO) : Option (List (AV × AV × Nat) × Nat) := AO.rec (fun _ => none) (fun es k => some (es, k)) o
noncomputable def rowOf (h : H) (n : Nat) : Option (List AV) := ifS none AO.row? (h.get n)
noncomputable def getMap (n : Nat) : M (List (AV × AV × Nat) × Nat) := fun c h =>
  ifB (Nat.blt n c) (ifS .fail (fun r => .ok r c h [(n, none, false)]) (ifS none AO.map? (h.get n))) .fail
noncomputable def setMap (n : Nat) (r : List (AV × AV × Nat) × Nat) : M Unit := fun c h => ifB (Nat.blt n c) (ifS .fail (fun _ => .ok () c (h.set n (some (.mp r.1 r.2))) [(n, none, true)]) (h.get n)) .fail
noncomputable def dropN (n : Nat) : List AV → List AV := Nat.rec (motive := fun _ => List AV → List AV) (fun l => l) (fun _ g l => ifC [] (fun _ t => g t) l) n
noncomputable def takeN (n : Nat) : List AV → Option (List AV) :=
  Nat.rec (motive := fun _ => List AV → Option (List AV)) (fun _ => some []) (fun _ g l => ifC none (fun a t => ifS none (fun r => some (a :: r)) (g t)) l) n
noncomputable def locs (b : Bool) (n : Nat) (k : Nat) : Nat → Log :=
  Nat.rec (motive := fun _ => Nat → Log) (fun _ => []) (fun _ g off => (n, some off, b) :: g (Nat.succ off)) k
noncomputable def load1 (n off : Nat) : M AV := fun c h => ifB (Nat.blt n c) (ifS .fail (fun cs => ifC .fail (fun v _ => .ok v c h [(n, some off, false)]) (dropN off cs)) (rowOf h n)) .fail
noncomputable def loadR (n off k : Nat) : M (List AV) := fun c h => ifB (Nat.blt n c) (ifS .fail (fun cs => ifS .fail (fun l => .ok l c h (locs false n k off)) (takeN k (dropN off cs))) (rowOf h n)) .fail
noncomputable def loadN (n off k : Nat) : M (List AV) := ifB (Nat.beq k 0) (M.pure []) (loadR n off k)
noncomputable def putL (vs : List AV) : List AV → Option (List AV) :=
  List.rec (motive := fun _ => List AV → Option (List AV)) some (fun v _ g cs => ifC none (fun _ t => ifS none (fun r => some (v :: r)) (g t)) cs) vs
noncomputable def putAt (vs : List AV) (n : Nat) : List AV → Option (List AV) :=
  Nat.rec (motive := fun _ => List AV → Option (List AV)) (putL vs) (fun _ g cs => ifC none (fun x t => ifS none (fun r => some (x :: r)) (g t)) cs) n
noncomputable def scal (v : AV) : Bool := onAgg (onTuple true (fun _ => false) v) (fun _ => false) v
noncomputable def scals (l : List AV) : Bool := List.rec true (fun v _ r => ifB (scal v) r false) l
noncomputable def storeR (n off : Nat) (vs : List AV) : M Unit := fun c h =>
  ifB (Nat.blt n c) (ifS .fail (fun cs => ifS .fail (fun r => ifB (scals vs) (.ok () c (h.set n (some (.row r))) (locs true n (len vs) off)) .fail) (putAt vs off cs)) (rowOf h n)) .fail
noncomputable def storeN (n off : Nat) (vs : List AV) : M Unit := ifC (M.pure ()) (fun _ _ => storeR n off vs) vs
noncomputable def killRow (n off k : Nat) : M (List AV) := fun c h =>
  ifB (Nat.blt n c) (ifS .fail (fun cs => ifS .fail (fun l => .ok l c (h.set n none) [(n, none, true)]) (takeN k (dropN off cs))) (rowOf h n)) .fail

inductive Opd where
  | tmp (t : Nat)
  | const (v : AV)
inductive Env where
  | base (t : T AV)
  | put (t : Nat) (v : AV) (e : Env)
noncomputable def undefA : AV := .tuple []
noncomputable def Env.get (t : Nat) (e : Env) : AV := Env.rec (motive := fun _ => AV) (fun b => ifS undefA (fun v => v) (b.get t)) (fun u v _ g => Bool.rec g v (Nat.beq u t)) e
noncomputable def Env.flush (e : Env) : T AV := Env.rec (motive := fun _ => T AV) (fun b => b) (fun u v _ g => g.set u (some v)) e
noncomputable def ev (e : Env) (x : Opd) : AV := Opd.rec (fun t => e.get t) (fun v => v) x
noncomputable def evs (e : Env) (l : List Opd) : List AV := List.rec [] (fun x _ r => ev e x :: r) l
structure St where
  env : Env
  defers : List (Nat × List AV)
abbrev Ctx := Nat → List AV → M AV
abbrev Ev := Ctx → Env → M AV
noncomputable def AV.cells (v : AV) : List AV := onAgg [v] (fun l => l) v

noncomputable def oMove (x : Opd) : Ev := fun _ e => M.pure (ev e x)
noncomputable def oPick (c a b : Opd) : Ev := fun _ e => onBool fail (fun t => M.pure (ifB t (ev e a) (ev e b))) (ev e c)
noncomputable def mkPtr (n : Nat) : AV := .ptr (some (n, 0))
noncomputable def oAlloc (z : List AV) : Ev := fun _ _ => M.map mkPtr (newO (.row z))
noncomputable def oBox (x : Opd) : Ev := fun _ e => M.map mkPtr (newO (.row (ev e x).cells))
noncomputable def fillA (e : Env) (ps : List (Nat × Nat × Opd)) : List AV → Option (List AV) :=
  List.rec (motive := fun _ => List AV → Option (List AV)) some (fun p _ g cs => ifB (Nat.beq (ev e p.2.2).cells.length p.2.1) (ifS none g (putAt (ev e p.2.2).cells p.1 cs)) none) ps
noncomputable def oBuild (z : List AV) (ps : List (Nat × Nat × Opd)) : Ev := fun _ e => ifS fail (fun l => M.pure (.agg l)) (fillA e ps z)
noncomputable def oBuildSlice (z1 : Nat) (z : List AV) (n : Nat) (ps : List (Nat × Nat × Opd)) : Ev := fun _ e =>
  ifS fail (fun l => M.map (fun k => .slice (some (k, 0)) n n z1) (newO (.row l))) (fillA e ps z)
noncomputable def load1At (v : AV) : M AV := onPtr fail (ifS fail fun a => load1 a.1 a.2) v
noncomputable def loadNAt (n : Nat) (v : AV) : M AV := onPtr fail (ifS fail fun a => M.map .agg (loadN a.1 a.2 n)) v
noncomputable def oLoad1 (a : Opd) : Ev := fun _ e => load1At (ev e a)
noncomputable def oLoadN (n : Nat) (a : Opd) : Ev := fun _ e => loadNAt n (ev e a)
noncomputable def oStore (n : Nat) (a x : Opd) : Ev := fun _ e =>
  ifB (Nat.beq (ev e x).cells.length n) (onPtr fail (ifS fail fun a => M.map (fun _ => undefA) (storeN a.1 a.2 (ev e x).cells)) (ev e a)) fail
noncomputable def oNilCheck (x : Opd) : Ev := fun _ e => onPtr fail (ifS fail fun a => M.pure (.ptr (some a))) (ev e x)
noncomputable def wrapA (k : IntKind) (n : Int) : Int := Int.rec (fun m => ifB (Nat.blt m 128) (.ofNat m) (k.wrap (.ofNat m))) (fun m => k.wrap (.negSucc m)) n
noncomputable def ltS (x : List Nat) : List Nat → Bool := List.rec (motive := fun _ => List Nat → Bool) (ifC false fun _ _ => true)
  (fun a _ g y => ifC false (fun b t => ifB (Nat.blt a b) true (ifB (Nat.beq a b) (g t) false)) y) x
noncomputable def eqS (x : List Nat) : List Nat → Bool := List.rec (motive := fun _ => List Nat → Bool) (ifC true fun _ _ => false)
  (fun a _ g y => ifC false (fun b t => ifB (Nat.beq a b) (g t) false) y) x
noncomputable def eqI (a b : Int) : Bool := Int.rec (fun m => Int.rec (fun n => Nat.beq m n) (fun _ => false) b) (fun m => Int.rec (fun _ => false) (fun n => Nat.beq m n) b) a
noncomputable def ltI (a b : Int) : Bool := Int.rec (fun m => Int.rec (fun n => Nat.blt m n) (fun _ => false) b) (fun m => Int.rec (fun _ => true) (fun n => Nat.blt n m) b) a
noncomputable def eqP (a b : Option (Nat × Nat)) : Option Bool := ifS (some (ifS true (fun _ => false) b)) (fun a => ifS (some false) (fun b => ifB (Nat.beq a.1 b.1) (some (Nat.beq a.2 b.2)) none) b) a
noncomputable def nilEq {α : Type} (a b : Option α) : Option Bool := ifS (some (ifS true (fun _ => false) b)) (fun _ => ifS (some false) (fun _ => none) b) a
noncomputable def kindN (k : IntKind) : Nat := IntKind.rec 0 1 2 3 4 5 6 7 k
noncomputable def shBin (op : BinOp) (k : IntKind) (a b : Int) : Option AV :=
  BinOp.rec none none none none none none none none (ifB (ltI b 0) none (some (.int k (k.wrap (a * 2 ^ (min b.toNat k.bits)))))) (ifB (ltI b 0) none (some (.int k (a.fdiv (2 ^ (min b.toNat k.bits)))))) none none none none none none none op
noncomputable def intBin (op : BinOp) (k : IntKind) (a b : Int) : Option AV :=
  BinOp.rec (some (.int k (wrapA k (Int.add a b)))) (some (.int k (wrapA k (Int.sub a b)))) (some (.int k (wrapA k (Int.mul a b))))
    (ifB (eqI b 0) none (some (.int k (k.wrap (a.tdiv b))))) (ifB (eqI b 0) none (some (.int k (a.tmod b))))
    (some (.int k (k.wrap (BitVec.ofInt k.bits a &&& BitVec.ofInt k.bits b).toNat))) (some (.int k (k.wrap (BitVec.ofInt k.bits a ||| BitVec.ofInt k.bits b).toNat))) none
    (ifB (ltI b 0) none (some (.int k (k.wrap (a * 2 ^ (min b.toNat k.bits)))))) (ifB (ltI b 0) none (some (.int k (a.fdiv (2 ^ (min b.toNat k.bits)))))) none
    (some (.bool (eqI a b))) (some (.bool (not (eqI a b)))) (some (.bool (ltI a b))) (some (.bool (not (ltI b a)))) (some (.bool (ltI b a))) (some (.bool (not (ltI a b)))) op
noncomputable def strBin (op : BinOp) (a b : List Nat) : Option AV :=
  BinOp.rec (ifB (Nat.ble (Nat.add (len a) (len b)) 1048576) (some (.str (List.append a b))) none) none none none none none none none none none none (some (.bool (eqS a b))) (some (.bool (not (eqS a b)))) (some (.bool (ltS a b)))
    (some (.bool (ifB (ltS a b) true (eqS a b)))) (some (.bool (not (ifB (ltS a b) true (eqS a b))))) (some (.bool (not (ltS a b)))) op
noncomputable def bin1 (op : BinOp) (x y : AV) : Option AV :=
  onInt (onStr none (fun a => onStr none (fun b => strBin op a b) y) x) (fun k a => onInt none (fun j b => ifB (Nat.beq (kindN k) (kindN j)) (intBin op k a b) (shBin op k a b)) y) x
noncomputable def oBin (op : BinOp) (x y : Opd) : Ev := fun _ e => ofOpt (bin1 op (ev e x) (ev e y))
inductive FK where
  | int
  | str
  | bool
noncomputable def eqCell (k : FK) (x y : AV) : Option Bool :=
  FK.rec (onInt none (fun i a => onInt none (fun j b => ifB (Nat.beq (kindN i) (kindN j)) (some (eqI a b)) none) y) x) (onStr none (fun a => onStr none (fun b => some (eqS a b)) y) x)
    (onBool none (fun a => onBool none (fun b => some (ifB a b (not b))) y) x) k
noncomputable def eqPtr (x y : AV) : Option Bool := onPtr none (fun a => onPtr none (eqP a) y) x
noncomputable def eqSl (x y : AV) : Option Bool := onSlice none (fun a _ _ _ => onSlice none (fun b _ _ _ => nilEq a b) y) x
noncomputable def eqMap (x y : AV) : Option Bool := onMap none (fun a => onMap none (nilEq a) y) x
noncomputable def nilF (v : AV) : Option Bool :=
  AV.rec (motive_1 := fun _ => Option Bool) (motive_2 := fun _ => Unit) (fun _ => none) (fun _ _ => none) (fun _ => none) (fun _ => none) (fun _ _ _ _ => none) (fun _ => none) (fun _ _ _ _ _ => some false) (some true) (fun _ _ _ => none) none (fun _ _ => none) (fun _ _ => none) () (fun _ _ _ _ => ()) v
noncomputable def nilI (v : AV) : Option Bool := onIface none (some true) (fun _ _ => some false) v
noncomputable def nil2 (a b : Option Bool) : Option Bool := ifS none (fun a => ifS none (fun b => ifB a (some b) (ifB b (some false) none)) b) a
noncomputable def eqFn (x y : AV) : Option Bool := nil2 (nilF x) (nilF y)
noncomputable def eqIf (x y : AV) : Option Bool := nil2 (nilI x) (nilI y)
noncomputable def eqFs (ks : List (Nat × FK)) (x y : AV) : Option Bool := onAgg none (fun a => onAgg none (fun b => List.rec (some true) (fun k _ r =>
  ifC none (fun p _ => ifC none (fun q _ => ifS none (fun t => ifB t r (some false)) (eqCell k.2 p q)) (dropN k.1 b)) (dropN k.1 a)) ks) y) x
noncomputable def oEq (f : AV → AV → Option Bool) (pos : Bool) (x y : Opd) : Ev := fun _ e => ifS fail (fun b => M.pure (.bool (ifB pos b (not b)))) (f (ev e x) (ev e y))
noncomputable def oNot (x : Opd) : Ev := fun _ e => onBool fail (fun b => M.pure (.bool (not b))) (ev e x)
noncomputable def oNeg (x : Opd) : Ev := fun _ e => onInt fail (fun k n => M.pure (.int k (wrapA k (Int.sub 0 n)))) (ev e x)
noncomputable def oConv (k : IntKind) (x : Opd) : Ev := fun _ e => onInt fail (fun _ n => M.pure (.int k (wrapA k n))) (ev e x)
noncomputable def oSame (x : Opd) : Ev := fun _ e => onStr fail (fun s => M.pure (.str s)) (ev e x)
noncomputable def oChr (x : Opd) : Ev := fun _ e => onInt fail (fun _ n => onNat fail (fun n => ifB (Nat.blt n 128) (M.pure (.str [n])) fail) n) (ev e x)
noncomputable def u8s (s : List Nat) : List AV := List.rec [] (fun b _ r => .int .u8 (.ofNat b) :: r) s
noncomputable def oStrBytes (x : Opd) : Ev := fun _ e => onStr fail (fun s => M.map (fun k => .slice (some (k, 0)) (len s) (len s) 1) (newO (.row (u8s s)))) (ev e x)
noncomputable def oIface (t : Nat) (x : Opd) : Ev := fun _ e => M.pure (.iface t (ev e x))
noncomputable def oFunc (f : Nat) (a b : List Opd) : Ev := fun _ e => M.pure (.fn f (evs e a) (evs e b))
noncomputable def oMakeMap : Ev := fun _ _ => M.map (fun n => .map (some n)) (newO (.mp [] 0))
noncomputable def asN (v : AV) : Option Nat := onInt none (fun _ n => onNat none some n) v
noncomputable def reps (z : List AV) (n : Nat) : List AV := Nat.rec [] (fun _ r => List.append z r) n
noncomputable def oMakeSlice (z : List AV) (l c : Opd) : Ev := fun _ e => ifS fail (fun l => ifS fail (fun c =>
  ifB (ifB (Nat.ble l c) (Nat.ble c 1048576) false) (M.map (fun k => .slice (some (k, 0)) l c (len z)) (newO (.row (reps z c)))) fail) (asN (ev e c))) (asN (ev e l))
noncomputable def evB (e : Env) (d : Nat) (x : Option Opd) : Option Nat := ifS (some d) (fun x => asN (ev e x)) x
noncomputable def dropS (n : Nat) : List Nat → List Nat := Nat.rec (motive := fun _ => List Nat → List Nat) (fun l => l) (fun _ g l => ifC [] (fun _ t => g t) l) n
noncomputable def takeS (n : Nat) : List Nat → List Nat := Nat.rec (motive := fun _ => List Nat → List Nat) (fun _ => []) (fun _ g l => ifC [] (fun a t => a :: g t) l) n
noncomputable def oSliceStr (x : Opd) (lo hi : Option Opd) : Ev := fun _ e => onStr fail (fun s => ifS fail (fun l => ifS fail (fun h =>
  ifB (ifB (Nat.ble l h) (Nat.ble h (len s)) false) (M.pure (.str (takeS (Nat.sub h l) (dropS l s)))) fail) (evB e (len s) hi)) (evB e 0 lo)) (ev e x)
noncomputable def shiftA (k : Nat) (a : Option (Nat × Nat)) : Option (Nat × Nat) := ifS none (fun a => some (a.1, Nat.add a.2 k)) a
noncomputable def sub2 (size : Nat) (a : Option (Nat × Nat)) (c : Nat) (l h : Option Nat) : M AV := ifS fail (fun l => ifS fail (fun h =>
  ifB (ifB (Nat.ble l h) (Nat.ble h c) false) (M.pure (.slice (shiftA (Nat.mul l size) a) (Nat.sub h l) (Nat.sub c l) size)) fail) h) l
noncomputable def oSliceSl (size : Nat) (x : Opd) (lo hi : Option Opd) : Ev := fun _ e => onSlice fail (fun a n c z => ifB (ifS true (fun _ => Nat.beq z size) a) (sub2 size a c (evB e 0 lo) (evB e n hi)) fail) (ev e x)
noncomputable def oFieldAddr (off : Nat) (x : Opd) : Ev := fun _ e => onPtr fail (ifS fail fun a => M.pure (.ptr (some (a.1, Nat.add a.2 off)))) (ev e x)
noncomputable def part1 (off : Nat) (v : AV) : M AV := onAgg fail (fun l => ifC fail (fun v _ => M.pure v) (dropN off l)) v
noncomputable def partN (off n : Nat) (v : AV) : M AV := onAgg fail (fun l => ifS fail (fun r => M.pure (.agg r)) (takeN n (dropN off l))) v
noncomputable def oField1 (off : Nat) (x : Opd) : Ev := fun _ e => part1 off (ev e x)
noncomputable def oFieldN (off n : Nat) (x : Opd) : Ev := fun _ e => partN off n (ev e x)
noncomputable def ixA (size n : Nat) (a : Nat × Nat) (i : Option Nat) : M AV :=
  ifS fail (fun i => ifB (Nat.blt i n) (M.pure (.ptr (some (a.1, Nat.add a.2 (Nat.mul i size))))) fail) i
noncomputable def oIndexSl (size : Nat) (x i : Opd) : Ev := fun _ e => onSlice fail (fun a n _ _ => ifS fail (fun a => ixA size n a (asN (ev e i))) a) (ev e x)
noncomputable def oIndexAr (n size : Nat) (x i : Opd) : Ev := fun _ e => onPtr fail (ifS fail fun a => ixA size n a (asN (ev e i))) (ev e x)
noncomputable def oIndexStr (x i : Opd) : Ev := fun _ e => onStr fail (fun s => ifS fail (fun i => ifC fail (fun b _ => M.pure (.int .u8 (.ofNat b))) (dropS i s)) (asN (ev e i))) (ev e x)
noncomputable def oIndexVal (n size : Nat) (agg : Bool) (x i : Opd) : Ev := fun _ e =>
  ifS fail (fun i => ifB (Nat.blt i n) (ifB agg (partN (Nat.mul i size) size (ev e x)) (part1 (Nat.mul i size) (ev e x))) fail) (asN (ev e i))
noncomputable def findK (f : FK) (k : AV) (es : List (AV × AV × Nat)) : Option (Option AV) :=
  List.rec (some none) (fun a _ r => ifS none (fun t => ifB t (some (some a.2.1)) r) (eqCell f k a.1)) es
noncomputable def setK (f : FK) (k v : AV) (clock : Nat) (es : List (AV × AV × Nat)) : Option (List (AV × AV × Nat) × Nat) :=
  List.rec (some ([(k, v, clock)], Nat.succ clock)) (fun a t r => ifS none (fun b => ifB b (some ((k, v, a.2.2) :: t, clock)) (ifS none (fun q => some (a :: q.1, q.2)) r)) (eqCell f k a.1)) es
noncomputable def outK (z : AV) (ok : Bool) (r : Option AV) : AV := ifS (ifB ok (.tuple [z, .bool false]) z) (fun v => ifB ok (.tuple [v, .bool true]) v) r
noncomputable def oLookup (f : FK) (z : AV) (m k : Opd) (ok : Bool) : Ev := fun _ e =>
  onMap fail (ifS (M.pure (outK z ok none)) fun n => M.bind (getMap n) fun r => ifS fail (fun x => M.pure (outK z ok x)) (findK f (ev e k) r.1)) (ev e m)
noncomputable def oMapUpdate (f : FK) (m k x : Opd) : Ev := fun _ e =>
  onMap fail (ifS fail fun n => M.bind (getMap n) fun r => ifS fail (fun q => M.map (fun _ => undefA) (setMap n q)) (setK f (ev e k) (ev e x) r.2 r.1)) (ev e m)
noncomputable def oExtract (x : Opd) (i : Nat) : Ev := fun _ e => onTuple fail (fun l => ifC fail (fun v _ => M.pure v) (dropN i l)) (ev e x)
noncomputable def oCall (f : Opd) (args : List Opd) : Ev := fun call e => onFn fail (fun g a b => call g (List.append a (List.append (evs e args) b))) (ev e f)
noncomputable def strCells (size : Nat) (s : List Nat) : M (List AV × Nat) := ifB (Nat.beq size 1) (M.pure (u8s s, len s)) fail
noncomputable def srcOf (size : Nat) (v : AV) : M (List AV × Nat) :=
  onSlice (onStr fail (strCells size) v) (fun a k _ _ => ifS (ifB (Nat.beq k 0) (M.pure ([], 0)) fail) (fun a => M.map (fun l => (l, k)) (loadN a.1 a.2 (Nat.mul k size))) a) v
noncomputable def zerosOf (z : List AV) (v : AV) : M (List AV × Nat) := ifS fail (fun k => ifB (Nat.ble k 1048576) (M.pure (reps z k, k)) fail) (asN v)
noncomputable def grow (size : Nat) (n : Nat) (src : M Nat) : M AV := M.map (fun m => .slice (some (m, 0)) n n size) src
noncomputable def appIn (size : Nat) (p : Nat × Nat) (n c z : Nat) (l : List AV) (k : Nat) : M AV := M.map (fun _ => .slice (some p) (Nat.add n k) c z) (storeN p.1 (Nat.add p.2 (Nat.mul n size)) l)
noncomputable def appOut (size : Nat) (p : Nat × Nat) (n z : Nat) (l : List AV) (k : Nat) : M AV := ifB (ifB (ifB (Nat.beq p.2 0) (Nat.beq z size) false) (scals l) false)
  (M.bind (killRow p.1 0 (Nat.mul n size)) fun o => grow size (Nat.add n k) (newO (.row (List.append o l)))) fail
noncomputable def app2 (size : Nat) (a : Option (Nat × Nat)) (n c z : Nat) (l : List AV) (k : Nat) : M AV :=
  ifB (Nat.ble (Nat.add n k) 1048576)
    (Bool.rec (ifS (ifB (Nat.beq n 0) (grow size (Nat.add n k) (newO (.row l))) fail) (fun p => appOut size p n z l k) a)
      (ifS (M.pure (.slice none (Nat.add n k) c z)) (fun p => appIn size p n c z l k) a) (Nat.ble (Nat.add n k) c)) fail
noncomputable def app1 (size : Nat) (src : M (List AV × Nat)) (v : AV) : M AV := onSlice fail (fun a n c z => M.bind src fun r => app2 size a n c z r.1 r.2) v
noncomputable def oAppend (size : Nat) (x y : Opd) : Ev := fun _ e => app1 size (srcOf size (ev e y)) (ev e x)
noncomputable def oAppendZ (size : Nat) (z : List AV) (x y : Opd) : Ev := fun _ e => app1 size (zerosOf z (ev e y)) (ev e x)
noncomputable def int64 (n : Nat) : AV := .int .i64 (.ofNat n)
noncomputable def oLenStr (x : Opd) : Ev := fun _ e => onStr fail (fun s => M.pure (int64 (len s))) (ev e x)
noncomputable def oLenSl (x : Opd) : Ev := fun _ e => onSlice fail (fun _ n _ _ => M.pure (int64 n)) (ev e x)
noncomputable def oLenMap (x : Opd) : Ev := fun _ e => onMap fail (ifS (M.pure (int64 0)) fun m => M.map (fun r => int64 (len r.1)) (getMap m)) (ev e x)
noncomputable def oLenArr (n : Nat) : Ev := fun _ _ => M.pure (int64 n)
noncomputable def oCap (x : Opd) : Ev := fun _ e => onSlice fail (fun a _ c _ => ifS (M.pure (int64 c)) (fun _ => fail) a) (ev e x)
noncomputable def oMinMax (mx : Bool) (x y : Opd) : Ev := fun _ e => onInt fail (fun k a => onInt fail (fun _ b => M.pure (.int k (ifB (ifB mx (ltI a b) (ltI b a)) b a))) (ev e y)) (ev e x)
noncomputable def oFail : Ev := fun _ _ => fail

noncomputable def putE (d : Option Nat) (v : AV) (s : St) : St := ifS s (fun d => ⟨.put d v s.env, s.defers⟩) d
noncomputable def isB (w : Bool) (v : AV) : Bool := onBool false (fun b => ifB b w (not w)) v
inductive It where
  | val (d : Option Nat) (g : Option (Nat × Bool)) (f : Ev)
  | dfr (d : Option Nat) (f : Opd) (args : List Opd)
  | bad
noncomputable def stepV (d : Option Nat) (g : Option (Nat × Bool)) (f : Ev) (call : Ctx) (s : St) : M St :=
  ifS (M.map (fun v => putE d v s) (f call s.env)) (fun q => ifB (isB q.2 (s.env.get q.1)) (M.map (fun v => putE d v s) (f call s.env)) (M.pure (putE d undefA s))) g
noncomputable def stepD (d : Option Nat) (f : Opd) (args : List Opd) (s : St) : M St :=
  onFn fail (fun g a b => M.pure (putE d undefA ⟨s.env, (g, List.append a (List.append (evs s.env args) b)) :: s.defers⟩)) (ev s.env f)
noncomputable def step1 (call : Ctx) (s : St) (i : It) : M St := It.rec (fun d g f => stepV d g f call s) (fun d f args => stepD d f args s) fail i
noncomputable def evOps (call : Ctx) (l : List It) : St → M St := List.rec (motive := fun _ => St → M St) M.pure (fun i _ ih s => M.bind (step1 call s i) ih) l
noncomputable def step2 (call : Ctx) (s : St) (i : It) : M St := It.rec (fun d g f => stepV d g f call s) (fun _ _ _ => fail) fail i
noncomputable def evOpsD (call : Ctx) (l : List It) : St → M (List (Nat × Nat × Log) × St) := List.rec (motive := fun _ => St → M (List (Nat × Nat × Log) × St)) (fun s => M.pure ([], s))
  (fun i _ ih s c h => Rs.rec .fail (fun s1 c1 h1 f1 => Rs.rec .fail (fun r c2 h2 f2 => .ok ((c, c1, f1) :: r.1, r.2) c2 h2 (List.append f1 f2)) (ih s1 c1 h1)) (step2 call s i c h)) l
noncomputable def meets (x y : Option Nat) : Bool := ifS true (fun a => ifS true (Nat.beq a) y) x
noncomputable def clash (q p : Nat × Option Nat × Bool) : Bool := ifB (Nat.beq q.1 p.1) (ifB (ifB q.2.2 true p.2.2) (meets q.2.1 p.2.1) false) false
noncomputable def apart1 (q : Nat × Option Nat × Bool) (l : Log) : Bool := List.rec true (fun p _ r => ifB (clash q p) false r) l
noncomputable def apartL (k l : Log) : Bool := List.rec true (fun q _ r => ifB (apart1 q l) r false) k
noncomputable def nthL (n : Nat) : List (Nat × Nat × Log) → Nat × Nat × Log := Nat.rec (motive := fun _ => List (Nat × Nat × Log) → Nat × Nat × Log) (ifC (0, 0, []) fun a _ => a) (fun _ g l => ifC (0, 0, []) (fun _ t => g t) l) n
/-- no place of the log lies between the names lo and hi -/
noncomputable def outL (lo hi : Nat) (l : Log) : Bool := List.rec true (fun q _ r => ifB (ifB (Nat.blt q.1 lo) true (Nat.ble hi q.1)) r false) l
/-- two operations that may come in either order: their logs don't clash, and the later one touches nothing that the former makes -/
noncomputable def apartR (a b : Nat × Nat × Log) : Bool := ifB (apartL a.2.2 b.2.2) (outL a.1 a.2.1 b.2.2) false
noncomputable def okPairs (fs : List (Nat × Nat × Log)) (ps : List (Nat × Nat)) : Bool := List.rec true (fun p _ r => ifB (apartR (nthL p.1 fs) (nthL p.2 fs)) r false) ps

inductive X where
  | normal
  | ret
  | exit (id : Nat)
abbrev CodeE := Ctx → St → M (X × St)
noncomputable def cSkip : CodeE := fun _ s => M.pure (.normal, s)
noncomputable def cRegion (l : List It) : CodeE := fun call s => M.map (fun s => (.normal, s)) (evOps call l s)
noncomputable def cRegionD (ps : List (Nat × Nat)) (l : List It) : CodeE := fun call s => M.bind (evOpsD call l s) fun r => ifB (okPairs r.1 ps) (M.pure (.normal, r.2)) fail
inductive Box (α : Type) where
  | mk (a : α)
noncomputable def Box.rn {α β : Type} (k : α → β) (b : Box α) : β := Box.rec k b
noncomputable def onN (k : St → M (X × St)) (r : X × St) : M (X × St) := X.rec (k r.2) (M.pure (.ret, r.2)) (fun i => M.pure (.exit i, r.2)) r.1
noncomputable def cSeq (a b : CodeE) : CodeE := fun call s => M.bind (a call s) (onN (b call))
noncomputable def cCond (c : Opd) (a b : CodeE) : CodeE := fun call s => onBool fail (fun t => ifB t (a call s) (b call s)) (ev s.env c)
noncomputable def block1 (id : Nat) (r : X × St) : X × St := (X.rec .normal .ret (fun i => ifB (Nat.beq i id) .normal (.exit i)) r.1, r.2)
noncomputable def cBlock (id : Nat) (b : CodeE) : CodeE := fun call s => M.map (block1 id) (b call s)
noncomputable def flushS (s : St) : St := ⟨.base s.env.flush, s.defers⟩
noncomputable def loopN (b : CodeE) (n : Nat) : CodeE := Nat.rec (motive := fun _ => CodeE) (fun _ _ => fail) (fun _ g call s => M.bind (b call s) (onN fun s => g call (flushS s))) n
noncomputable def cLoop (b : CodeE) : CodeE := loopN b 100000
noncomputable def cExit (id : Nat) : CodeE := fun _ s => M.pure (.exit id, s)
noncomputable def cRet : CodeE := fun _ s => M.pure (.ret, s)
noncomputable def cBad : CodeE := fun _ _ => fail
noncomputable def allO {α β : Type} (f : α → Option β) (l : List α) : Option (List β) := List.rec (some []) (fun a _ r => ifS none (fun b => ifS none (fun r => some (b :: r)) r) (f a)) l
noncomputable def ofS (v : Value) : Option AV := match v with
  | .bool b => some (.bool b)
  | .int k n => some (.int k n)
  | .string s => some (.str (s.data.toList.map UInt8.toNat))
  | .pointer none => some (.ptr none)
  | .slice none 0 0 => some (.slice none 0 0 0)
  | .map none => some (.map none)
  | .nilFunc => some .nilFn
  | .nilIface => some .nilIface
  | .func (.func f) ⟨[]⟩ ⟨[]⟩ => some (.fn f [] [])
  | _ => none
noncomputable def ofV (v : Value) : Option AV := match v with
  | .agg cs => ifS none (fun l => some (.agg l)) (allO ofS cs.toList)
  | .tuple ⟨[]⟩ => some (.tuple [])
  | v => ofS v
noncomputable def cOpd (x : Operand) : Option Opd := match x with
  | .tmp t => some (.tmp t)
  | .const v => ifS none (fun a => some (.const a)) (ofV v)
  | .global _ => none
  | .func f => some (.const (.fn f [] []))
noncomputable def cOps (l : List Operand) : Option (List Opd) := allO cOpd l
noncomputable def cOpdO (x : Option Operand) : Option (Option Opd) := ifS (some none) (fun x => ifS none (fun y => some (some y)) (cOpd x)) x
variable (P : Program)
/-- the zero value of a type whose cells are as many as its size says, of at most 2^20 bytes -/
noncomputable def zeroOf (t : TypeId) : Option AV := ifS none (fun i => ifS none (fun z => ifS none (fun v => ifB (ifB (Nat.beq (len v.cells) i.size) (Nat.ble i.bytes 1048576) false) (some v) none) (ofV z)) i.zero) (P.info? t)
noncomputable def sizeO (t : TypeId) : Option Nat := ifS none (fun i => some i.size) (P.info? t)
noncomputable def isAggD (d : TypeDesc) : Bool := match d with
  | .struct _ => true
  | .array _ _ => true
  | _ => false
noncomputable def aggO (t : TypeId) : Option Bool := ifS none (fun d => some (isAggD d)) (P.underlying t)
noncomputable def elemS (t : TypeId) : Option TypeId := match P.underlying t with
  | some (.slice e) => some e
  | _ => none
noncomputable def cAppend (s e : TypeId) (x y : Opd) : Option Ev :=
  ifS none (fun el => ifS none (fun z => ifS none (fun d => match d with
    | .int _ => some (oAppendZ (len z.cells) z.cells x y)
    | _ => some (oAppend (len z.cells) x y)) (P.underlying e)) (zeroOf P el)) (elemS P s)
noncomputable def cLen (t : TypeId) (x : Opd) : Option Ev := match P.underlying t with
  | some (.array n _) => some (oLenArr n)
  | some (.pointer a) => (match P.underlying a with | some (.array n _) => some (oLenArr n) | _ => none)
  | some .string => some (oLenStr x)
  | some (.slice _) => some (oLenSl x)
  | some (.map _ _) => some (oLenMap x)
  | _ => none
noncomputable def cBuiltin (b : Builtin) (args : List Opd) (ts : List TypeId) : Option Ev :=
  match b, args, ts with
  | .append, [x, y], [s, e] => cAppend P s e x y
  | .len, [x], [t] => cLen P t x
  | .cap, [x], [t] => ifS none (fun _ => some (oCap x)) (elemS P t)
  | .min, [x, y], _ => some (oMinMax false x y)
  | .max, [x, y], _ => some (oMinMax true x y)
  | _, _, _ => none
noncomputable def placesO (fs : Array Field) : Option (List (Nat × Nat)) := fs.toList.mapM (fun f => (P.info? f.type).map fun i => (f.offset, i.size))
noncomputable def partS (ps : List (Nat × Nat)) (q : Nat × Operand) : Option (Nat × Nat × Opd) := ifS none (fun p => ifS none (fun x => some (p.1, p.2, x)) (cOpd q.2)) ps[q.1]?
noncomputable def partA (s : Nat) (q : Nat × Operand) : Option (Nat × Nat × Opd) := ifS none (fun x => some (q.1 * s, s, x)) (cOpd q.2)
noncomputable def cBuild (t : TypeId) (ps : List (Nat × Operand)) (z : AV) : Option Ev := match P.underlying t with
  | some (.struct fs) => ifS none (fun pl => ifS none (fun l => some (oBuild z.cells l)) (allO (partS pl) ps)) (placesO P fs)
  | some (.array _ el) => ifS none (fun s => ifS none (fun l => some (oBuild z.cells l)) (allO (partA s) ps)) (sizeO P el)
  | _ => none
noncomputable def cConv (x : Opd) (a b : TypeDesc) : Option Ev := match a, b with
  | .int _, .int k => some (oConv k x)
  | .int _, .string => some (oChr x)
  | .string, .string => some (oSame x)
  | _, _ => none
noncomputable def cConvB (x : Opd) (a b : TypeDesc) : Option Ev := match a, b with
  | .string, .slice e => (match P.underlying e with | some (.int .u8) => some (oStrBytes x) | _ => none)
  | a, b => cConv x a b
noncomputable def cSlice (t : TypeId) (x : Opd) (lo hi : Option Opd) : Option Ev := match P.underlying t with
  | some .string => some (oSliceStr x lo hi)
  | some (.slice el) => ifS none (fun n => some (oSliceSl n x lo hi)) (sizeO P el)
  | _ => none
noncomputable def fieldO (s : TypeId) (i : Nat) : Option Field := match P.underlying s with
  | some (.struct fs) => fs[i]?
  | _ => none
noncomputable def plainT (t : TypeId) : Bool := match P.underlying t with
  | some (.interface _) => false
  | some _ => true
  | none => false
noncomputable def cIndexAddr (t : TypeId) (x i : Opd) : Option Ev := match P.underlying t with
  | some (.array n el) => ifS none (fun z => some (oIndexAr n z x i)) (sizeO P el)
  | some (.slice el) => ifS none (fun z => some (oIndexSl z x i)) (sizeO P el)
  | _ => none
noncomputable def cIndex (t : TypeId) (x i : Opd) : Option Ev := match P.underlying t with
  | some (.array n el) => ifS none (fun z => ifS none (fun b => some (oIndexVal n z b x i)) (aggO P el)) (sizeO P el)
  | some .string => some (oIndexStr x i)
  | _ => none
noncomputable def mapO (t : TypeId) : Option (TypeId × TypeId) := match P.underlying t with
  | some (.map k e) => some (k, e)
  | _ => none
noncomputable def fkO (t : TypeId) : Option FK := match P.underlying t with
  | some (.int _) => some .int
  | some .string => some .str
  | some .bool => some .bool
  | _ => none
noncomputable def fieldK (f : Field) : Option (Nat × FK) := ifB (f.name != "_") (ifS none (fun k => some (f.offset, k)) (fkO P f.type)) none
noncomputable def isConst (x : Operand) : Bool := match x with
  | .const _ => true
  | _ => false
/-- how '==' compares a type's values -/
noncomputable def eqOf (t : TypeId) (x y : Operand) : Option (AV → AV → Option Bool) := match P.underlying t with
  | some .bool => some (eqCell .bool)
  | some (.pointer e) => ifS none (fun n => ifB (Nat.beq n 0) none (some eqPtr)) (sizeO P e)
  | some (.slice _) => some eqSl
  | some (.map _ _) => some eqMap
  | some (.func _ _ _) => some eqFn
  | some (.interface _) => ifB (ifB (isConst x) true (isConst y)) (some eqIf) none
  | some (.struct fs) => ifB (ifB (P.eqGuardType P.depth t) false (not (P.stoodInHeld t))) (ifS none (fun ks => some (eqFs ks)) (allO (fieldK P) fs.toList)) none
  | _ => none
noncomputable def isScal (t : TypeId) : Bool := match P.underlying t with
  | some (.int _) => true
  | some .string => true
  | _ => false
noncomputable def cBin (op : BinOp) (t : TypeId) (x y : Operand) (a b : Opd) : Option Ev := ifB (isScal P t) (some (oBin op a b)) (match op with
  | .eql => ifS none (fun f => some (oEq f true a b)) (eqOf P t x y)
  | .neq => ifS none (fun f => some (oEq f false a b)) (eqOf P t x y)
  | _ => none)
noncomputable def cCall (c : Call) (args : List Opd) : Option Ev := match c.callee with
  | .value f => ifS none (fun f => some (oCall f args)) (cOpd f)
  | .builtin b => cBuiltin P b args c.argTypes.toList
  | _ => none
noncomputable def cOp (o : Op) : Option Ev :=
  match o with
  | .move x => ifS none (fun x => some (oMove x)) (cOpd x)
  | .assign x => ifS none (fun x => some (oMove x)) (cOpd x)
  | .pick c a b => ifS none (fun c => ifS none (fun a => ifS none (fun b => some (oPick c a b)) (cOpd b)) (cOpd a)) (cOpd c)
  | .alloc e => ifS none (fun z => some (oAlloc z.cells)) (zeroOf P e)
  | .box _ x => ifS none (fun x => some (oBox x)) (cOpd x)
  | .build t ps => ifS none (cBuild P t ps.toList) (zeroOf P t)
  | .buildSlice t n ps => ifS none (fun el => ifS none (fun z => ifB (Nat.ble (n * len z.cells) 16777216) (ifS none (fun l => some (oBuildSlice (len z.cells) (reps z.cells n) n l)) (allO (partA (len z.cells)) ps.toList)) none) (zeroOf P el)) (elemS P t)
  | .load t a => ifS none (fun a => ifS none (fun b => ifB b (ifS none (fun n => some (oLoadN n a)) (sizeO P t)) (some (oLoad1 a))) (aggO P t)) (cOpd a)
  | .store t a x => ifS none (fun a => ifS none (fun x => ifS none (fun n => some (oStore n a x)) (sizeO P t)) (cOpd x)) (cOpd a)
  | .nilCheck x => ifS none (fun x => some (oNilCheck x)) (cOpd x)
  | .binOp op t x y _ => ifS none (fun a => ifS none (fun b => cBin P op t x y a b) (cOpd y)) (cOpd x)
  | .unOp .not _ x => ifS none (fun x => some (oNot x)) (cOpd x)
  | .unOp .neg _ x => ifS none (fun x => some (oNeg x)) (cOpd x)
  | .convert s d x => ifS none (fun x => ifS none (fun a => ifS none (fun b => cConvB P x a b) (P.underlying d)) (P.underlying s)) (cOpd x)
  | .makeInterface t x => ifS none (fun x => ifB (plainT P t) (some (oIface t x)) none) (cOpd x)
  | .makeFunc (.func f) a b => ifS none (fun a => ifS none (fun b => some (oFunc f a b)) (cOps b.toList)) (cOps a.toList)
  | .makeMap _ none => some oMakeMap
  | .makeSlice t l c => ifS none (fun el => ifS none (fun z => ifS none (fun l => ifS none (fun c => some (oMakeSlice z.cells l c)) (cOpd c)) (cOpd l)) (zeroOf P el)) (elemS P t)
  | .slice t x lo hi none => ifS none (fun x => ifS none (fun lo => ifS none (fun hi => cSlice P t x lo hi) (cOpdO hi)) (cOpdO lo)) (cOpd x)
  | .fieldAddr s x i => ifS none (fun x => ifS none (fun f => ifS none (fun n => ifB (Nat.beq n 0) none (some (oFieldAddr f.offset x))) (sizeO P f.type)) (fieldO P s i)) (cOpd x)
  | .field s x i => ifS none (fun x => ifS none (fun f => ifS none (fun b => ifB b (ifS none (fun n => some (oFieldN f.offset n x)) (sizeO P f.type)) (some (oField1 f.offset x))) (aggO P f.type)) (fieldO P s i)) (cOpd x)
  | .indexAddr t x i => ifS none (fun x => ifS none (fun i => cIndexAddr P t x i) (cOpd i)) (cOpd x)
  | .index t x i => ifS none (fun x => ifS none (fun i => cIndex P t x i) (cOpd i)) (cOpd x)
  | .lookup t m k ok => ifS none (fun m => ifS none (fun k => ifS none (fun q => ifS none (fun f => ifS none (fun z => some (oLookup f z m k ok)) (zeroOf P q.2)) (fkO P q.1)) (mapO P t)) (cOpd k)) (cOpd m)
  | .mapUpdate t m k x => ifS none (fun m => ifS none (fun k => ifS none (fun x => ifS none (fun q => ifS none (fun f => some (oMapUpdate f m k x)) (fkO P q.1)) (mapO P t)) (cOpd x)) (cOpd k)) (cOpd m)
  | .insert t m k x => ifS none (fun m => ifS none (fun k => ifS none (fun x => ifS none (fun q => ifS none (fun f => some (oMapUpdate f m k x)) (fkO P q.1)) (mapO P t)) (cOpd x)) (cOpd k)) (cOpd m)
  | .extract x i => ifS none (fun x => some (oExtract x i)) (cOpd x)
  | .call c => ifS none (cCall P c) (cOps c.args.toList)
  | _ => none
/-- a deferred call -/
noncomputable def cDefer (o : Op) : Option (Opd × List Opd) := match o with
  | .defer c => (match c.callee with
    | .value f => ifS none (fun f => ifS none (fun l => some (f, l)) (cOps c.args.toList)) (cOpd f)
    | _ => none)
  | _ => none
noncomputable def guardO (ops : Array Oper) (g : Option (Nat × Bool)) : Option (Option (Nat × Bool)) :=
  ifS (some none) (fun g => ifS none (fun o => ifS none (fun t => some (some (t, g.2))) o.dst) ops[g.1]?) g
noncomputable def dstOk (n : Nat) (d : Option Nat) : Bool := ifS true (fun d => Nat.blt d n) d
noncomputable def cIt (n : Nat) (ops : Array Oper) (o : Oper) : It :=
  ifB (dstOk n o.dst) (ifS (ifS .bad (fun g => .val o.dst g (ifS oFail (fun f => f) (cOp P o.op))) (guardO ops o.guard)) (fun q => ifS (.dfr o.dst q.1 q.2) (fun _ => .bad) o.guard) (cDefer o.op)) .bad
noncomputable def mapL {α β : Type} (f : α → β) (l : List α) : List β := List.rec [] (fun a _ r => f a :: r) l
/-- what stands ahead of an operation, whatever the order: a set of places, as a number's bits; 'ps': the like of the operations ahead of it -/
noncomputable def aheadOf (ps : List Nat) (l : List Edge) : Nat :=
  List.rec 0 (fun e _ r => ifB (Region.binds .any e) (ifS r (fun m => Nat.lor r (Nat.lor m (Nat.shiftLeft 1 e.on))) (ps[e.on]?)) r) l
noncomputable def aheads (l : List Oper) : List Nat → List Nat := List.rec (motive := fun _ => List Nat → List Nat) (fun ps => ps) (fun o _ g ps => g (List.append ps [aheadOf ps o.after.toList])) l
/-- the pairs of operations that may come in either order; none, if two of them meet in a temporary -/
noncomputable def pairs1 (ops : Array Oper) (m j : Nat) (oj : Oper) (i : Nat) : Option (List (Nat × Nat)) :=
  Nat.rec (some []) (fun i r => ifB (Nat.testBit m i) r (ifS none (fun oi => ifB (Oper.apart ops oi oj) (ifS none (fun l => some ((i, j) :: l)) r) none) ops[i]?)) i
/-- the edges that bind in any order point backward -/
noncomputable def backL (j : Nat) (l : List Edge) : Bool := List.rec true (fun e _ r => ifB (ifB (Region.binds .any e) (Nat.blt e.on j) true) r false) l
noncomputable def pairsN (ops : Array Oper) (ps : List Nat) (j : Nat) : Option (List (Nat × Nat)) :=
  Nat.rec (some []) (fun j r => ifS none (fun m => ifS none (fun oj => ifB (backL j oj.after.toList) (ifS none (fun l => ifS none (fun k => some (List.append l k)) (pairs1 ops m j oj j)) r) none) ops[j]?) ps[j]?) j
noncomputable def pairsOf (ops : Array Oper) : Option (List (Nat × Nat)) := pairsN ops (aheads ops.toList []) ops.size
noncomputable def cRegions (n : Nat) (ops : Array Oper) (draw : Bool) : Box CodeE :=
  ifB draw (ifB (P.follows .mixedOrders) (ifS (.mk cBad) (fun ps => .mk (cRegionD ps (mapL (cIt P n ops) ops.toList))) (pairsOf ops)) (.mk cBad)) (.mk (cRegion (mapL (cIt P n ops) ops.toList)))
noncomputable def cCode (n : Nat) (c : Code) : Box CodeE :=
  Code.rec (motive := fun _ => Box CodeE) (.mk cSkip) (fun _ ops d => cRegions P n ops d)
    (fun _ _ f g => Box.rn (fun f => Box.rn (fun g => .mk (cSeq f g)) g) f)
    (fun c _ _ f g => ifS (.mk cBad) (fun x => Box.rn (fun f => Box.rn (fun g => .mk (cCond x f g)) g) f) (cOpd c))
    (fun id _ f => Box.rn (fun f => .mk (cBlock id f)) f) (fun _ f => Box.rn (fun f => .mk (cLoop f)) f) (fun _ _ _ _ _ _ => .mk cBad)
    (fun id => .mk (cExit id)) (fun _ f => f) (fun _ => .mk cSkip) (fun _ => .mk cBad) (.mk cRet) (fun _ => .mk cBad) c
inductive RV where
  | tmp (t : Nat)
  | one (a : Nat)
  | many (a : Nat) (n : Nat)
structure AF where
  results : List RV
  body : CodeE
noncomputable def cRes (r : ResultVar) : Option RV := match r with
  | .tmp t => some (.tmp t)
  | .cell a t => ifS none (fun b => ifB b (ifS none (fun n => some (.many a n)) (sizeO P t)) (some (.one a))) (aggO P t)
noncomputable def cFunc (f : Func) : Option AF := ifS none (fun rs => ifS none (fun b => Box.rn (fun g => some ⟨rs, g⟩) (cCode P f.ntmps b)) f.body) (allO (cRes P) f.results.toList)
noncomputable def tab (f : Nat) : Option AF := ifS none (fun fn => ifB (fn.name == "runtime.NumGoroutine") none (cFunc P fn)) P.funcs[f]?

noncomputable def fillT (l : List AV) : T AV → Nat → T AV := List.rec (motive := fun _ => T AV → Nat → T AV) (fun t _ => t) (fun v _ g t i => g (t.set i (some v)) (Nat.succ i)) l
noncomputable def res1 (e : Env) (r : RV) : M AV := RV.rec (fun t => M.pure (e.get t)) (fun a => load1At (e.get a)) (fun a n => loadNAt n (e.get a)) r
noncomputable def resA (e : Env) (l : List RV) : M (List AV) := List.rec (M.pure []) (fun r _ g => M.bind (res1 e r) fun v => M.map (fun vs => v :: vs) g) l
noncomputable def one (l : List AV) : AV := ifC (.tuple []) (fun v t => ifC v (fun _ _ => .tuple l) t) l
/-- the deferred calls are all of functions that do nothing where no panic came: 'idle' lists these -/
noncomputable def hasN (n : Nat) (l : List Nat) : Bool := List.rec false (fun a _ r => ifB (Nat.beq a n) true r) l
noncomputable def onePtr (l : List AV) : Bool := ifC false (fun v t => ifC (onPtr false (ifS false fun _ => true) v) (fun _ _ => false) t) l
noncomputable def idleAll (idle : List Nat) (l : List (Nat × List AV)) : Bool := List.rec true (fun q _ r => ifB (ifB (hasN q.1 idle) (onePtr q.2) false) r false) l
noncomputable def keep (c : Nat) (l : Log) : Log := List.rec [] (fun q _ r => ifB (Nat.blt q.1 c) (q :: r) r) l
noncomputable def dropPriv {α : Type} (m : M α) : M α := fun c h => Rs.rec (motive := fun _ => Rs α) .fail (fun a c1 h1 l => .ok a c1 h1 (keep c l)) (m c h)
noncomputable def isExit (x : X) : Bool := X.rec false false (fun _ => true) x
noncomputable def leave (idle : List Nat) (rs : List RV) (r : X × St) : M AV :=
  ifB (isExit r.1) fail (ifB (idleAll idle r.2.defers) (M.map one (resA r.2.env rs)) fail)
noncomputable def enterF (idle : List Nat) (call : Ctx) (args : List AV) (o : Option AF) : M AV :=
  ifS fail (fun fn => dropPriv (M.bind (fn.body call ⟨.base (fillT args .leaf 0), []⟩) (leave idle fn.results))) o
noncomputable def same1 (args : List AV) : M AV := ifC fail (fun v t => ifC (onStr fail (fun s => ifB (Nat.ble (len s) 1048576) (M.pure (.str s)) fail) v) (fun _ _ => fail) t) args
/-- 'same': functions that answer their one string -/
noncomputable def evCall (idle same : List Nat) (d : Nat) : Ctx := Nat.rec (motive := fun _ => Ctx) (fun _ _ => fail) (fun _ g f args => ifB (hasN f same) (same1 args) (enterF idle g args (tab P f))) d
end Go.Sx
