import PyProof.Rows.All
import Wide.All
import OpenK.AllK
import Wide.FinOn
import HandS.ForMost
import HandS.ExcCtx
import HandS.HotCalls
import HandS.ExcInitHot
import HandS.Words
import HandS.Base
import HandS.Call
import HandS.List
import HandS.Ends
import HandS.Exc
import HandS.ExcInit
import HandS.Nested
import KE.KExcSuper
import HandS.More
import HandS.WordsExc
import HandS.Defaults
import HandS.Head0
import HandS.Head1
import HandS.Head2
import HandS.HeadEnd
import HandS.HeadHook1
import HandS.HeadHook2
import HandS.ClsMeth
import PyProof.EqAt
import PyProof.EqKinds
import PyProof.TupleCall
import KE.KOpsOwn
import HandS.Iter
import HandS.IterNext
import KE.KOwnIter
import HandS.ExcOwn
import HandS.ExcIs
import HandS.ExcField
import HandS.Codes
import HandS.Walk
import HandS.IsInst
import HandS.Style
import HandS.Wide
import HandS.Deep
import HandS.TupAny
import HandS.Text
import HandS.Flow
import HandS.Comp
import HandS.CallRecv
import HandS.StrMore
import HandS.FStr
import PySem.Challenge.RW_pagebureau_k19_fill_text_and_refusals
set_option Elab.async false
set_option linter.all false
/-! Values as data, names that own what they hold: what a def does, as a function. -/
namespace Vm

inductive D where
  | non | bl (b : Bool) | int (i : Int) | str (z : List Nat)
  | tup (xs : List D) | lst (xs : List D) | dic (kvs : List (D × D))
  | obj (c : Nat) (fs : List (Nat × D)) | cls (c : Nat) | ty (t : String)
  deriving Inhabited, Repr

/-- what a slot holds: nothing, data that never changes again, an object of one's own (io: the caller's; lk: a loop walks it) -/
inductive SD where
  | un | sh (d : D) | ow (io lk : Bool) (d : D) | ex (c : Nat) (fs : List (Nat × D))
  deriving Inhabited, Repr
abbrev Env := List SD
/-- what an expression gives: data, the thing that slot i owns, a new thing -/
inductive EV where
  | val (d : D) | own (i : Nat) | fr (d : D) | ex (c : Nat) (fs : List (Nat × D))
  deriving Inhabited, Repr
structure Xc where
  c : Nat
  fs : List (Nat × D)
  deriving Inhabited, Repr
inductive R (α : Type) where
  | ok (a : α) (r : Env) | exc (x : Xc) (r : Env) | bad
  deriving Inhabited, Repr
inductive Arg where
  | val (d : D) | io (d : D)
  deriving Inhabited, Repr
inductive RV where
  | val (d : D) | fr (d : D)
  deriving Inhabited, Repr
inductive FR where
  | ret (r : RV) (outs : List D) | exc (x : Xc) (outs : List D) | bad
  deriving Inhabited, Repr
abbrev Fn := List Arg → FR
/-- an expression, a statement, a block, as what they do -/
abbrev Ex := Env → R EV
inductive S where
  | nx (r : Env) | rt (v : RV) (r : Env) | bk (r : Env) | ct (r : Env) | exc (x : Xc) (r : Env) | bad
  deriving Inhabited, Repr
abbrev Tx := Env → S
abbrev Exs := Env → R (List EV)
abbrev Tst := Env → R Bool

def R.bind {α β : Type} (r : R α) (k : α → Env → R β) : R β :=
  match r with
  | .ok a ρ => k a ρ
  | .exc x ρ => .exc x ρ
  | .bad => .bad
def R.thn {α : Type} (r : R α) (k : α → Env → S) : S :=
  match r with
  | .ok a ρ => k a ρ
  | .exc x ρ => .exc x ρ
  | .bad => .bad
def R.of {α : Type} (o : Option α) (ρ : Env) : R α :=
  match o with
  | some a => .ok a ρ
  | none => .bad
def SD.look : SD → Option D
  | .sh d => some d
  | .ow _ _ d => some d
  | _ => none
/-- what it is now -/
def EV.peek (ρ : Env) : EV → Option D
  | .val d => some d
  | .fr d => some d
  | .own i => (ρ[i]?).bind SD.look
  | .ex _ _ => none
/-- from now on it never changes -/
def EV.frz (ρ : Env) : EV → Option (D × Env)
  | .val d => some (d, ρ)
  | .fr d => some (d, ρ)
  | .own i =>
    match ρ[i]? with
    | some (.sh d) => some (d, ρ)
    | some (.ow false false d) => some (d, ρ.set i (.sh d))
    | _ => none
  | .ex _ _ => none
def frzs (ρ : Env) : List EV → Option (List D × Env)
  | [] => some ([], ρ)
  | v :: vs =>
    match v.frz ρ with
    | some (d, ρ1) =>
      match frzs ρ1 vs with
      | some (ds, ρ2) => some (d :: ds, ρ2)
      | none => none
    | none => none

/-! ### data -/
mutual
def D.eqv : D → D → Bool
  | .non, .non => true
  | .bl a, .bl b => a == b
  | .bl a, .int j => (if a then 1 else 0) == j
  | .int i, .bl b => i == (if b then 1 else 0)
  | .int i, .int j => i == j
  | .str x, .str y => x == y
  | .lst xs, .lst ys => D.eqvs xs ys
  | .tup xs, .tup ys => D.eqvs xs ys
  | _, _ => false
def D.eqvs : List D → List D → Bool
  | [], [] => true
  | x :: xs, y :: ys => D.eqv x y && D.eqvs xs ys
  | _, _ => false
end
mutual
/-- plain data, at most n deep -/
def D.pl : Nat → D → Bool
  | _, .non => true
  | _, .bl _ => true
  | _, .int _ => true
  | _, .str z => z.all fun c => decide (c < 1114112)
  | n + 1, .lst xs => D.pls n xs
  | n + 1, .tup xs => D.pls n xs
  | _, _ => false
def D.pls : Nat → List D → Bool
  | _, [] => true
  | n, x :: xs => D.pl n x && D.pls n xs
end
def D.flat : D → Bool
  | .non => true
  | .bl _ => true
  | .int _ => true
  | .str _ => true
  | _ => false
/-- a == b -/
def deq (a b : D) : Option Bool :=
  match a, b with
  | .int i, .int j => some (decide (i = j))
  | .str x, .str y => some (decide (x = y))
  | a, b => if D.pl 50 a && D.pl 50 b then some (D.eqv a b) else none
def line : Nat := 16777216
def D.tru : D → Option Bool
  | .non => some false
  | .bl b => some b
  | .int i => some (i != 0)
  | .str z => if z.length ≤ line then some (!z.isEmpty) else none
  | .tup xs => some (!xs.isEmpty)
  | .lst xs => some (!xs.isEmpty)
  | _ => none

/-! ### operators -/
inductive BOp where
  | add | sub | mul | fdiv | mod | pow
  deriving DecidableEq, Repr
def bop : BOp → D → D → Option EV
  | .add, .int i, .int j => some (.val (.int (i + j)))
  | .add, .str a, .str b => if a.length + b.length ≤ line then some (.val (.str (a ++ b))) else none
  | .add, .lst a, .lst b => if a.length + b.length ≤ line then some (.fr (.lst (a ++ b))) else none
  | .add, .tup a, .tup b => if a.length + b.length ≤ line then some (.val (.tup (a ++ b))) else none
  | .sub, .int i, .int j => some (.val (.int (i - j)))
  | .mul, .int i, .int j => if i.natAbs.log2 + j.natAbs.log2 < 1000000 then some (.val (.int (i * j))) else none
  | .fdiv, .int i, .int j => if 0 < j ∧ j.natAbs.log2 < 9000 then some (.val (.int (i / j))) else none
  | .mod, .int i, .int j => if 0 < j then some (.val (.int (i % j))) else none
  | .pow, .int i, .int j => if 0 ≤ j ∧ j ≤ 1000000 ∧ i.natAbs < 2 ^ 64 then some (.val (.int (i ^ j.toNat))) else none
  | _, _, _ => none
inductive COp where
  | eq | ne | lt | le | gt | ge | is | isnt | inn | nin
  deriving DecidableEq, Repr
/-- x in xs, by scalars -/
def mem (x : D) (xs : List D) : Bool := xs.any fun y => D.eqv y x
def din (x y : D) : Option Bool :=
  match y with
  | .str z => (match x with
    | .str [c] => some (decide (c ∈ z))
    | _ => none)
  | .lst xs => if x.flat && xs.all D.flat then some (mem x xs) else if D.pl 50 x && D.pls 50 xs then some (mem x xs) else none
  | .tup xs => if x.flat && xs.all D.flat then some (mem x xs) else none
  | _ => none
def dis (x y : D) : Option Bool :=
  match y with
  | .non => (match x with
    | .non => some true
    | .obj _ _ => some false
    | .cls _ => none
    | .ty _ => none
    | .dic _ => some false
    | _ => some false)
  | .bl b => (match x with
    | .bl a => some (decide (a = b))
    | .int _ => some false
    | _ => none)
  | _ => none
def cop : COp → D → D → Option Bool
  | .eq, a, b => deq a b
  | .ne, a, b => (deq a b).map not
  | .lt, .int i, .int j => some (decide (i < j))
  | .le, .int i, .int j => some (decide (i ≤ j))
  | .gt, .int i, .int j => some (decide (j < i))
  | .ge, .int i, .int j => some (decide (j ≤ i))
  | .lt, .str a, .str b => some (decide (a < b))
  | .le, .str a, .str b => some (!decide (b < a))
  | .gt, .str a, .str b => some (decide (b < a))
  | .ge, .str a, .str b => some (!decide (a < b))
  | .is, a, b => dis a b
  | .isnt, a, b => (dis a b).map not
  | .inn, a, b => din a b
  | .nin, a, b => (din a b).map not
  | _, _, _ => none

/-! ### expressions -/
def var (i : Nat) : Ex := fun ρ =>
  match ρ[i]? with
  | some (.sh d) => .ok (.val d) ρ
  | some (.ow _ _ _) => .ok (.own i) ρ
  | some (.ex c fs) => .ok (.ex c fs) ρ
  | _ => .bad
def cst (d : D) : Ex := fun ρ => .ok (.val d) ρ
/-- two operands, read -/
def two (a b : Ex) (k : D → D → Env → R EV) : Ex := fun ρ =>
  (a ρ).bind fun va ρ1 => (b ρ1).bind fun vb ρ2 =>
    match va.peek ρ2, vb.peek ρ2 with
    | some x, some y => k x y ρ2
    | _, _ => .bad
def bin (o : BOp) (a b : Ex) : Ex := two a b fun x y ρ => R.of (bop o x y) ρ
def cmp (o : COp) (a b : Ex) : Ex := two a b fun x y ρ => R.of ((cop o x y).map fun k => .val (.bl k)) ρ
/-- an operand, read -/
def one (a : Ex) (k : D → Env → R EV) : Ex := fun ρ =>
  (a ρ).bind fun va ρ1 =>
    match va.peek ρ1 with
    | some x => k x ρ1
    | none => .bad
def neg (a : Ex) : Ex := one a fun x ρ => match x with
  | .int i => .ok (.val (.int (-i))) ρ
  | _ => .bad
/-- a op b op c -/
def chain (o o' : COp) (a b c : Ex) : Ex := fun ρ =>
  (a ρ).bind fun va ρ1 => (b ρ1).bind fun vb ρ2 =>
    match va.peek ρ2, vb.peek ρ2 with
    | some x, some y => (match cop o x y with
      | some true => (c ρ2).bind fun vc ρ3 =>
        (match vb.peek ρ3, vc.peek ρ3 with
        | some y, some z => R.of ((cop o' y z).map fun k => .val (.bl k)) ρ3
        | _, _ => .bad)
      | some false => .ok (.val (.bl false)) ρ2
      | none => .bad)
    | _, _ => .bad
/-- .. and .., or: the value that decides -/
def andE (a b : Ex) : Ex := fun ρ => (a ρ).bind fun va ρ1 =>
  match (va.peek ρ1).bind D.tru with
  | some true => b ρ1
  | some false => .ok va ρ1
  | none => .bad
def orE (a b : Ex) : Ex := fun ρ => (a ρ).bind fun va ρ1 =>
  match (va.peek ρ1).bind D.tru with
  | some true => .ok va ρ1
  | some false => b ρ1
  | none => .bad
def tst (a : Ex) : Tst := fun ρ =>
  (a ρ).bind fun va ρ1 =>
    match (va.peek ρ1).bind D.tru with
    | some k => .ok k ρ1
    | none => .bad
/-- .. a bool -/
def tstB (a : Ex) : Tst := fun ρ => (a ρ).bind fun va ρ1 =>
  match va.peek ρ1 with
  | some (.bl k) => .ok k ρ1
  | _ => .bad
def tAnd (a b : Tst) : Tst := fun ρ => (a ρ).bind fun k ρ1 => if k then b ρ1 else .ok false ρ1
def tOr (a b : Tst) : Tst := fun ρ => (a ρ).bind fun k ρ1 => if k then .ok true ρ1 else b ρ1
def tNot (a : Tst) : Tst := fun ρ => (a ρ).bind fun k ρ1 => .ok (!k) ρ1
def notE (a : Ex) : Ex := one a fun x ρ => match x with
  | .bl k => .ok (.val (.bl (!k))) ρ
  | _ => .bad
def ifx (c : Tst) (a b : Ex) : Ex := fun ρ => (c ρ).bind fun k ρ1 => if k then a ρ1 else b ρ1
def nilA : Exs := fun ρ => .ok [] ρ
def consA (a : Ex) (r : Exs) : Exs := fun ρ => (a ρ).bind fun v ρ1 => (r ρ1).bind fun vs ρ2 => .ok (v :: vs) ρ2
def tupE (es : Exs) : Ex := fun ρ => (es ρ).bind fun vs ρ1 =>
  match frzs ρ1 vs with
  | some (ds, ρ2) => if ds.length ≤ line then .ok (.val (.tup ds)) ρ2 else .bad
  | none => .bad
def lstE (es : Exs) : Ex := fun ρ => (es ρ).bind fun vs ρ1 =>
  match frzs ρ1 vs with
  | some (ds, ρ2) => if ds.length ≤ line then .ok (.fr (.lst ds)) ρ2 else .bad
  | none => .bad
def ixN (n : Nat) (i : Int) : Option Nat := if 0 ≤ i then (if i < n then some i.toNat else none) else if -(n : Int) ≤ i then some (i + n).toNat else none
def atI {α : Type} (xs : List α) (i : Int) : Option α := (ixN xs.length i).bind fun j => xs[j]?
def ixd (x y : D) : Option D :=
  match y with
  | .int i => (match x with
    | .lst xs => atI xs i
    | .tup xs => atI xs i
    | .str z => if z.length ≤ line then (atI z i).map fun c => .str [c] else none
    | _ => none)
  | _ => none
def idx (a b : Ex) : Ex := two a b fun x y ρ => R.of ((ixd x y).map EV.val) ρ
def sIx (n d : Nat) : Option Int → Nat
  | none => d
  | some i => if i < 0 then (i + (n : Int)).toNat else min i.toNat n
def cut {α : Type} (xs : List α) (lo hi : Option Int) : List α := (xs.drop (sIx xs.length 0 lo)).take (sIx xs.length xs.length hi - sIx xs.length 0 lo)
abbrev Opt := Env → R (Option Int)
def noPart : Opt := fun ρ => .ok none ρ
def part (a : Ex) : Opt := fun ρ => (a ρ).bind fun v ρ1 => match v.peek ρ1 with
  | some (.int i) => .ok (some i) ρ1
  | _ => .bad
def slcd (x : D) (lo hi : Option Int) : Option EV :=
  match x with
  | .lst xs => some (.fr (.lst (cut xs lo hi)))
  | .str z => if z.length ≤ line then some (.val (.str (cut z lo hi))) else none
  | .tup xs => if sIx xs.length 0 lo = 0 ∧ sIx xs.length xs.length hi = xs.length then some (.val (.tup xs)) else some (.val (.tup (cut xs lo hi)))
  | _ => none
def slc (a : Ex) (lo hi : Opt) : Ex := fun ρ => (a ρ).bind fun v ρ1 => (lo ρ1).bind fun l ρ2 => (hi ρ2).bind fun h ρ3 =>
  match v.peek ρ3 with
  | some x => R.of (slcd x l h) ρ3
  | none => .bad
/-- the field f -/
def fld (f : Nat) (cs : List Nat) (a : Ex) : Ex := fun ρ => (a ρ).bind fun v ρ1 =>
  match v.peek ρ1 with
  | some (.obj c fs) => if cs.contains c then R.of ((fs.lookup f).map EV.val) ρ1 else .bad
  | _ => .bad
/-- .. of a caught error -/
def xfld (f : Nat) (cs : List Nat) (a : Ex) : Ex := fun ρ => (a ρ).bind fun v ρ1 =>
  match v with
  | .ex c fs => if cs.contains c then R.of ((fs.lookup f).map EV.val) ρ1 else .bad
  | _ => .bad

/-! ### calls -/
/-- what is handed over: by ms, whether as the caller's own -/
def hand (ρ : Env) : List Bool → List EV → Option (List Arg × List (Option Nat) × Env)
  | _, [] => some ([], [], ρ)
  | ms, v :: vs =>
    match ms.headD false, v with
    | true, .own i => (match hand ρ ms.tail vs with
      | some (as, ls, ρ1) => (match ρ1[i]? with
        | some (.ow _ false d) => if ls.contains (some i) then none else some (.io d :: as, some i :: ls, ρ1)
        | _ => none)
      | none => none)
    | true, .fr d => (match hand ρ ms.tail vs with
      | some (as, ls, ρ1) => some (.io d :: as, none :: ls, ρ1)
      | none => none)
    | _, v => (match v.frz ρ with
      | some (d, ρ1) => (match hand ρ1 ms.tail vs with
        | some (as, ls, ρ2) => some (.val d :: as, none :: ls, ρ2)
        | none => none)
      | none => none)
/-- what the caller's own things are behind the call -/
def back (ρ : Env) : List (Option Nat) → List D → Env
  | some i :: ls, d :: ds => (match ρ[i]? with
    | some (.ow io lk _) => back (ρ.set i (.ow io lk d)) ls ds
    | _ => back ρ ls ds)
  | none :: ls, _ :: ds => back ρ ls ds
  | _, _ => ρ
def RV.ev : RV → EV
  | .val d => .val d
  | .fr d => .fr d
def callV (F : Fn) (ms : List Bool) (dv : List D) (vs : List EV) (ρ : Env) : R EV :=
  match hand ρ ms vs with
  | some (as, ls, ρ1) => (match F (as ++ dv.map Arg.val) with
    | .ret r outs => .ok r.ev (back ρ1 ls outs)
    | .exc x outs => .exc x (back ρ1 ls outs)
    | .bad => .bad)
  | none => .bad
def call (F : Fn) (ms : List Bool) (dv : List D) (es : Exs) : Ex := fun ρ => (es ρ).bind fun vs ρ1 => callV F ms dv vs ρ1
/-- C(..): F is its __init__ -/
def make (c : Nat) (F : Fn) (ms : List Bool) (dv : List D) (es : Exs) : Ex := fun ρ => (es ρ).bind fun vs ρ1 =>
  match hand ρ1 ms vs with
  | some (as, ls, ρ2) => (match F (.io (.obj c []) :: (as ++ dv.map Arg.val)) with
    | .ret (.val .non) (o :: outs) => .ok (.fr o) (back ρ2 ls outs)
    | .exc x (_ :: outs) => .exc x (back ρ2 ls outs)
    | _ => .bad)
  | none => .bad

/-! ### built-in functions and methods, by what they are handed -/
abbrev Bi := List D → Option EV
def peeks (ρ : Env) : List EV → Option (List D)
  | [] => some []
  | v :: vs => match v.peek ρ with
    | some d => (peeks ρ vs).map (d :: ·)
    | none => none
def bcall (f : Bi) (es : Exs) : Ex := fun ρ => (es ρ).bind fun vs ρ1 =>
  match peeks ρ1 vs with
  | some ds => R.of (f ds) ρ1
  | none => .bad
def biLen : Bi
  | [.str z] => if z.length ≤ line then some (.val (.int z.length)) else none
  | [.lst xs] => some (.val (.int xs.length))
  | [.tup xs] => some (.val (.int xs.length))
  | [.dic xs] => some (.val (.int xs.length))
  | _ => none
def biAbs : Bi
  | [.int i] => some (.val (.int i.natAbs))
  | _ => none
def biInt : Bi
  | [.int i] => some (.val (.int i))
  | [.bl b] => some (.val (.int (if b then 1 else 0)))
  | _ => none
def boolsOf : List D → Option (List Bool)
  | [] => some []
  | .bl b :: r => (boolsOf r).map (b :: ·)
  | _ => none
def intsOf : List D → Option (List Int)
  | [] => some []
  | .int i :: r => (intsOf r).map (i :: ·)
  | _ => none
def biAll : Bi
  | [.lst xs] => (boolsOf xs).map fun bs => .val (.bl (bs.all id))
  | _ => none
def biAny : Bi
  | [.lst xs] => (boolsOf xs).map fun bs => .val (.bl (bs.any id))
  | _ => none
def biSum : Bi
  | [.lst xs] => (intsOf xs).map fun ns => .val (.int ns.sum)
  | _ => none
def biMin : Bi
  | [.int i, .int j] => some (.val (.int (if j < i then j else i)))
  | _ => none
def biMax : Bi
  | [.int i, .int j] => some (.val (.int (if i < j then j else i)))
  | _ => none
def biList : Bi
  | [.lst xs] => some (.fr (.lst xs))
  | [.tup xs] => some (.fr (.lst xs))
  | _ => none
def biTuple : Bi
  | [.lst xs] => some (.val (.tup xs))
  | [.tup xs] => some (.val (.tup xs))
  | _ => none
/-- isinstance(x, a built-in class) -/
def D.isTy (t : String) : D → Option Bool
  | .non => some false
  | .bl _ => some (t == "bool" || t == "int")
  | .int _ => some (t == "int")
  | .str _ => some (t == "str")
  | .tup _ => some (t == "tuple")
  | .lst _ => some (t == "list")
  | .obj _ _ => some false
  | _ => none
def isTy (t : String) (a : Ex) : Ex := one a fun x ρ => R.of ((x.isTy t).map fun k => .val (.bl k)) ρ
/-- isinstance(x, a class of one's own), subs: the ids of it and of those below it -/
def isCls (subs : List Nat) (a : Ex) : Ex := fun ρ => (a ρ).bind fun v ρ1 =>
  match v with
  | .ex c _ => .ok (.val (.bl (subs.contains c))) ρ1
  | v => match v.peek ρ1 with
    | some (.obj c _) => .ok (.val (.bl (subs.contains c))) ρ1
    | some (.dic _) => .bad
    | some (.cls _) => .bad
    | some (.ty _) => .bad
    | some _ => .ok (.val (.bl false)) ρ1
    | none => .bad
def fillL (c : Nat) (n : Nat) (z : List Nat) : List Nat := List.replicate (n - z.length) c ++ z

/-! ### statements -/
def asgV (i : Nat) (v : EV) (ρ : Env) : S :=
  match v with
  | .fr d => .nx (ρ.set i (.ow false false d))
  | v => (match v.frz ρ with
    | some (d, ρ2) => .nx (ρ2.set i (.sh d))
    | none => .bad)
def asg (i : Nat) (a : Ex) : Tx := fun ρ => (a ρ).thn fun v ρ1 =>
  match ρ1[i]? with
  | some (.ow true _ _) => .bad
  | some (.ow _ true _) => .bad
  | none => .bad
  | some _ => asgV i v ρ1
abbrev Tg := D → Env → Option Env
def tgN (i : Nat) : Tg := fun d ρ =>
  match ρ[i]? with
  | some (.ow true _ _) => none
  | some (.ow _ true _) => none
  | none => none
  | some _ => some (ρ.set i (.sh d))
abbrev Tgs := List D → Env → Option Env
def tgNil : Tgs := fun ds ρ => match ds with
  | [] => some ρ
  | _ => none
def tgCons (t : Tg) (r : Tgs) : Tgs := fun ds ρ => match ds with
  | d :: ds => (t d ρ).bind fun ρ1 => r ds ρ1
  | [] => none
def tgT (ts : Tgs) : Tg := fun d ρ => match d with
  | .tup ds => ts ds ρ
  | _ => none
/-- a pattern = .. -/
def pat (t : Tg) (a : Ex) : Tx := fun ρ => (a ρ).thn fun v ρ1 =>
  match v.frz ρ1 with
  | some (d, ρ2) => (match t d ρ2 with
    | some ρ3 => .nx ρ3
    | none => .bad)
  | none => .bad
/-- a, b = x, y -/
def par (i j : Nat) (a b : Ex) : Tx := fun ρ => (a ρ).thn fun va ρ1 => (b ρ1).thn fun vb ρ2 =>
  match frzs ρ2 [va, vb] with
  | some ([x, y], ρ3) => (match tgN i x ρ3 with
    | some ρ4 => (match tgN j y ρ4 with
      | some ρ5 => .nx ρ5
      | none => .bad)
    | none => .bad)
  | _ => .bad
/-- self.f = .. (slot i) -/
def setF {α : Type} (f : Nat) (d : α) : List (Nat × α) → List (Nat × α)
  | [] => [(f, d)]
  | (g, e) :: r => if g = f then (f, d) :: r else (g, e) :: setF f d r
def fset (i f : Nat) (a : Ex) : Tx := fun ρ => (a ρ).thn fun v ρ1 =>
  match v.frz ρ1 with
  | some (d, ρ2) => (match ρ2[i]? with
    | some (.ow io false (.obj c fs)) => .nx (ρ2.set i (.ow io false (.obj c (setF f d fs))))
    | _ => .bad)
  | none => .bad
def ownL (n : Nat) (ρ : Env) : Bool :=
  match ρ[n]? with
  | some (.ow _ _ (.lst _)) => true
  | _ => false
/-- x[i] = .. , x an own list in slot n -/
def iset (n : Nat) (b a : Ex) : Tx := fun ρ => (a ρ).thn fun v ρ1 =>
  match v.frz ρ1 with
  | some (d, ρ2) => if ownL n ρ2 then (b ρ2).thn fun vi ρ3 => (match vi.peek ρ3, ρ3[n]? with
    | some (.int i), some (.ow io false (.lst xs)) => (match ixN xs.length i with
      | some j => .nx (ρ3.set n (.ow io false (.lst (xs.set j d))))
      | none => .bad)
    | _, _ => .bad)
    else .bad
  | none => .bad
/-- x.append(..) -/
def append (n : Nat) (a : Ex) : Ex := fun ρ => if ownL n ρ then (a ρ).bind fun v ρ1 =>
  match v.frz ρ1 with
  | some (d, ρ2) => (match ρ2[n]? with
    | some (.ow io false (.lst xs)) => if xs.length < line then .ok (.val .non) (ρ2.set n (.ow io false (.lst (xs ++ [d])))) else .bad
    | _ => .bad)
  | none => .bad
  else .bad
/-- x.pop(i) -/
def popAt (n : Nat) (a : Ex) : Ex := fun ρ => if ownL n ρ then (a ρ).bind fun v ρ1 =>
  match v.peek ρ1, ρ1[n]? with
  | some (.int i), some (.ow io false (.lst xs)) => (match ixN xs.length i with
    | some j => (match xs[j]? with
      | some d => if xs.length ≤ line then .ok (.val d) (ρ1.set n (.ow io false (.lst (xs.eraseIdx j)))) else .bad
      | none => .bad)
    | none => .bad)
  | _, _ => .bad
  else .bad
def exprS (a : Ex) : Tx := fun ρ => (a ρ).thn fun _ ρ1 => .nx ρ1
def retS (a : Ex) : Tx := fun ρ => (a ρ).thn fun v ρ1 =>
  match v with
  | .val d => .rt (.val d) ρ1
  | .fr d => .rt (.fr d) ρ1
  | .own i => (match ρ1[i]? with
    | some (.sh d) => .rt (.val d) ρ1
    | some (.ow false false d) => .rt (.fr d) (ρ1.set i .un)
    | _ => .bad)
  | .ex _ _ => .bad
def retN : Tx := fun ρ => .rt (.val .non) ρ
def next : Tx := fun ρ => .nx ρ
def seq (a b : Tx) : Tx := fun ρ => match a ρ with
  | .nx ρ1 => b ρ1
  | s => s
def ifS (c : Tst) (a b : Tx) : Tx := fun ρ => (c ρ).thn fun k ρ1 => if k then a ρ1 else b ρ1
def brkS : Tx := fun ρ => .bk ρ
def cntS : Tx := fun ρ => .ct ρ
def never : Tx := fun _ => .bad
/-- raise C(..): the fields by their ids -/
def raiseS (c : Nat) (fs : List Nat) (es : Exs) : Tx := fun ρ => (es ρ).thn fun vs ρ1 =>
  match frzs ρ1 vs with
  | some (ds, ρ2) => if ds.length = fs.length then .exc ⟨c, fs.zip ds⟩ ρ2 else .bad
  | none => .bad

/-! ### loops -/
/-- what is walked: its items, and the slot that is locked meanwhile -/
abbrev Ix := Env → R (List D × Option Nat)
def itemsOf : D → Option (List D)
  | .lst xs => some xs
  | .tup xs => some xs
  | .str z => some (z.map fun c => .str [c])
  | _ => none
def EV.slot : EV → Option Nat
  | .own i => some i
  | _ => none
def itE (a : Ex) : Ix := fun ρ => (a ρ).bind fun v ρ1 =>
  match (v.peek ρ1).bind itemsOf with
  | some xs => .ok (xs, v.slot) ρ1
  | none => .bad
def upto (lo : Int) : Nat → List D
  | 0 => []
  | n + 1 => .int lo :: upto (lo + 1) n
def itRange (a : Ex) : Ix := fun ρ => (a ρ).bind fun v ρ1 =>
  match v.peek ρ1 with
  | some (.int n) => if -(2 ^ 62) ≤ n ∧ n < 2 ^ 62 then .ok (upto 0 n.toNat, none) ρ1 else .bad
  | _ => .bad
def itRange2 (a b : Ex) : Ix := fun ρ => (a ρ).bind fun v ρ1 => (b ρ1).bind fun u ρ2 =>
  match v.peek ρ2, u.peek ρ2 with
  | some (.int m), some (.int n) => if -(2 ^ 62) ≤ m ∧ m < 2 ^ 62 ∧ -(2 ^ 62) ≤ n ∧ n < 2 ^ 62 then .ok (upto m (n - m).toNat, none) ρ2 else .bad
  | _, _ => .bad
def nums (i : Int) : List D → List D
  | [] => []
  | x :: xs => .tup [.int i, x] :: nums (i + 1) xs
def itEnum (a : Ex) : Ix := fun ρ => (a ρ).bind fun v ρ1 =>
  match v.peek ρ1 with
  | some (.lst xs) => .ok (nums 0 xs, v.slot) ρ1
  | _ => .bad
def pairs : List D → List D → List D
  | x :: xs, y :: ys => .tup [x, y] :: pairs xs ys
  | _, _ => []
def lock (k : Bool) (l : Option Nat) (ρ : Env) : Env :=
  match l with
  | none => ρ
  | some i => (match ρ[i]? with
    | some (.ow io _ d) => ρ.set i (.ow io k d)
    | _ => ρ)
def locked (l : Option Nat) (ρ : Env) : Bool :=
  match l with
  | none => false
  | some i => (match ρ[i]? with
    | some (.ow _ k _) => k
    | _ => false)
def S.map (f : Env → Env) : S → S
  | .nx ρ => .nx (f ρ)
  | .rt v ρ => .rt v (f ρ)
  | .bk ρ => .bk (f ρ)
  | .ct ρ => .ct (f ρ)
  | .exc x ρ => .exc x (f ρ)
  | .bad => .bad
def loop (tg : Tg) (body : Tx) : List D → Tx
  | [], ρ => .nx ρ
  | x :: xs, ρ =>
    match tg x ρ with
    | none => .bad
    | some ρ1 =>
      match body ρ1 with
      | .nx ρ2 => loop tg body xs ρ2
      | .ct ρ2 => loop tg body xs ρ2
      | .bk ρ2 => .nx ρ2
      | s => s
def forS (tg : Tg) (it : Ix) (body : Tx) : Tx := fun ρ => (it ρ).thn fun (xs, l) ρ1 =>
  (loop tg body xs (lock true l ρ1)).map (lock (locked l ρ1) l)
def whiles (c : Tst) (body : Tx) : Nat → Tx
  | 0, _ => .bad
  | n + 1, ρ => (c ρ).thn fun k ρ1 =>
    if k then
      match body ρ1 with
      | .nx ρ2 => whiles c body n ρ2
      | .ct ρ2 => whiles c body n ρ2
      | .bk ρ2 => .nx ρ2
      | s => s
    else .nx ρ1
def whileS (c : Tst) (body : Tx) : Tx := fun ρ => whiles c body 1000000 ρ
def SD.calm : SD → Bool
  | .ow _ _ _ => false
  | _ => true
/-- a comprehension's own names are free of things that may change -/
def calmAt (own : List Nat) (ρ : Env) : Bool := own.all fun i => match ρ[i]? with
  | some s => s.calm
  | none => false
def wipeE (ρ : Env) : List Nat → Env
  | [] => ρ
  | i :: is => (wipeE ρ is).set i .un
def putE (ρ1 ρ : Env) : List Nat → Env
  | [] => ρ
  | i :: is => (putE ρ1 ρ is).set i (ρ1.getD i .un)
/-- [elt for tg in it if c] -/
def comp (own : List Nat) (tg : Tg) (c : Tst) (elt : Ex) : List D → Env → R (List D)
  | [], ρ => .ok [] ρ
  | x :: xs, ρ =>
    match tg x ρ with
    | none => .bad
    | some ρ1 => (c ρ1).bind fun k ρ2 =>
      if k then (elt ρ2).bind fun v ρ3 =>
        match v.frz ρ3 with
        | some (d, ρ4) => if calmAt own ρ4 then (comp own tg c elt xs (wipeE ρ4 own)).bind fun ds ρ5 => .ok (d :: ds) ρ5 else .bad
        | none => .bad
      else if calmAt own ρ2 then comp own tg c elt xs (wipeE ρ2 own) else .bad
def okT : Tst := fun ρ => .ok true ρ
/-- the names own are the comprehension's alone -/
def lcE (own : List Nat) (tg : Tg) (it : Ix) (c : Tst) (elt : Ex) : Ex := fun ρ => (it ρ).bind fun (xs, l) ρ1 =>
  if calmAt own ρ1 && decide (xs.length < line) then
    match comp own tg c elt xs (wipeE (lock true l ρ1) own) with
    | .ok ds ρ2 => .ok (.fr (.lst ds)) (lock (locked l ρ1) l (putE ρ1 ρ2 own))
    | _ => .bad
  else .bad

/-! ### a def -/
def slotsOf (n : Nat) (as : List Arg) : Env := (as.map fun
  | .val d => SD.sh d
  | .io d => SD.ow true false d) ++ List.replicate (n - as.length) .un
/-- what the caller's things are at the end -/
def outsOf (ρ : Env) (i : Nat) : List Arg → Option (List D)
  | [] => some []
  | .val _ :: as => (outsOf ρ (i + 1) as).map (.non :: ·)
  | .io _ :: as => (match ρ[i]? with
    | some (.ow true _ d) => (outsOf ρ (i + 1) as).map (d :: ·)
    | _ => none)
def run (np n : Nat) (body : Tx) : Fn := fun as =>
  if as.length = np then
    match body (slotsOf n as) with
    | .nx ρ => (match outsOf ρ 0 as with
      | some outs => .ret (.val .non) outs
      | none => .bad)
    | .rt v ρ => (match outsOf ρ 0 as with
      | some outs => .ret v outs
      | none => .bad)
    | .exc x ρ => (match outsOf ρ 0 as with
      | some outs => .exc x outs
      | none => .bad)
    | _ => .bad
  else .bad
end Vm

set_option Elab.async false
set_option linter.all false
set_option maxRecDepth 100000
/-! How data lies in the heap. -/
namespace Vm
open PySem PySem.Spec PyProof.Rows L2

/-- the text of a list of code points -/
abbrev T (z : List Nat) : Str := ⟨z.toArray⟩
/-- what the ids of classes and fields stand for -/
structure Tb where
  K : PySem.W.Frag
  cls : Nat → Addr
  fld : Nat → Str
  inj : ∀ i j, fld i = fld j → i = j

mutual
/-- in the frozen part G the value v is the data d -/
inductive Rp (B : Tb) (G : Hp) : D → V → Prop where
  | non : Rp B G .non .non
  | bl (b : Bool) : Rp B G (.bl b) (.bl b)
  | int (i : Int) : Rp B G (.int i) (.int i)
  | str (z : List Nat) : Rp B G (.str z) (.str (T z))
  | tup {a : Addr} {ds : List D} {vs : List V} (h : SqT B.K G a vs) (r : Rps B G ds vs) : Rp B G (.tup ds) (.ref a)
  | lst {a : Addr} {ds : List D} {vs : List V} (h : SqL B.K G a vs) (r : Rps B G ds vs) : Rp B G (.lst ds) (.ref a)
  | obj {a dx : Addr} {c : Nat} {fs : List (Nat × D)} {vs : List (Str × V)} (h : G a = some (.ins (B.cls c) dx vs)) (r : Rpf B G fs vs) : Rp B G (.obj c fs) (.ref a)
  | cls (c : Nat) : Rp B G (.cls c) (.ref (B.cls c))
  | ty (t : String) : Rp B G (.ty t) (.ty t)
inductive Rps (B : Tb) (G : Hp) : List D → List V → Prop where
  | nil : Rps B G [] []
  | cons {d : D} {v : V} {ds : List D} {vs : List V} (h : Rp B G d v) (r : Rps B G ds vs) : Rps B G (d :: ds) (v :: vs)
inductive Rpf (B : Tb) (G : Hp) : List (Nat × D) → List (Str × V) → Prop where
  | nil : Rpf B G [] []
  | cons {f : Nat} {d : D} {v : V} {fs : List (Nat × D)} {vs : List (Str × V)} (h : Rp B G d v) (r : Rpf B G fs vs) : Rpf B G ((f, d) :: fs) ((B.fld f, v) :: vs)
end

mutual
theorem Rp.to {B : Tb} {G G' : Hp} (s : Same G G') : ∀ {d : D} {v : V}, Rp B G d v → Rp B G' d v
  | _, _, .non => .non
  | _, _, .bl b => .bl b
  | _, _, .int i => .int i
  | _, _, .str z => .str z
  | _, _, .tup h r => .tup (h.imp (fun h => h.imp (s _ _) fun ⟨o, h⟩ => ⟨o, s _ _ h⟩) id) (Rps.to s r)
  | _, _, .lst h r => .lst (s.seq h) (Rps.to s r)
  | _, _, .obj h r => .obj (s _ _ h) (Rpf.to s r)
  | _, _, .cls c => .cls c
  | _, _, .ty t => .ty t
theorem Rps.to {B : Tb} {G G' : Hp} (s : Same G G') : ∀ {ds : List D} {vs : List V}, Rps B G ds vs → Rps B G' ds vs
  | _, _, .nil => .nil
  | _, _, .cons h r => .cons (Rp.to s h) (Rps.to s r)
theorem Rpf.to {B : Tb} {G G' : Hp} (s : Same G G') : ∀ {ds : List (Nat × D)} {vs : List (Str × V)}, Rpf B G ds vs → Rpf B G' ds vs
  | _, _, .nil => .nil
  | _, _, .cons h r => .cons (Rp.to s h) (Rpf.to s r)
end
theorem sqT_to {K : PySem.W.Frag} {G G' : Hp} {a : Addr} {xs : List V} (s : Same G G') (h : SqT K G a xs) : SqT K G' a xs := h.imp (fun h => h.imp (s _ _) fun ⟨o, h⟩ => ⟨o, s _ _ h⟩) id
section
variable {B : Tb} {G G' H H' : Hp}
theorem Rps.len {ds : List D} : ∀ {vs : List V}, Rps B G ds vs → vs.length = ds.length := by
  induction ds with
  | nil => intro vs h; cases h; rfl
  | cons d ds ih => intro vs h; cases h with | cons h r => rw [List.length_cons, List.length_cons, ih r]
theorem Rps.get : ∀ {ds : List D} {vs : List V} {i : Nat} {d : D}, Rps B G ds vs → ds[i]? = some d → ∃ v, vs[i]? = some v ∧ Rp B G d v
  | _, _, i, d, .nil, e => by simp at e
  | _, _, 0, d, .cons h r, e => by simp at e; subst e; exact ⟨_, rfl, h⟩
  | _, _, i + 1, d, .cons h r, e => by
    obtain ⟨v, h1, h2⟩ := Rps.get r (by simpa using e)
    exact ⟨v, by simpa using h1, h2⟩
theorem Rps.getV : ∀ {ds : List D} {vs : List V} {i : Nat} {v : V}, Rps B G ds vs → vs[i]? = some v → ∃ d, ds[i]? = some d ∧ Rp B G d v
  | _, _, i, d, .nil, e => by simp at e
  | _, _, 0, d, .cons h r, e => by simp at e; subst e; exact ⟨_, rfl, h⟩
  | _, _, i + 1, d, .cons h r, e => by
    obtain ⟨v, h1, h2⟩ := Rps.getV r (by simpa using e)
    exact ⟨v, by simpa using h1, h2⟩
theorem Rps.app : ∀ {ds es : List D} {vs us : List V}, Rps B G ds vs → Rps B G es us → Rps B G (ds ++ es) (vs ++ us)
  | _, _, _, _, .nil, r => r
  | _, _, _, _, .cons h t, r => .cons h (Rps.app t r)
theorem Rps.take : ∀ (n : Nat) {ds : List D} {vs : List V}, Rps B G ds vs → Rps B G (ds.take n) (vs.take n)
  | 0, _, _, _ => by simpa using Rps.nil
  | _ + 1, _, _, .nil => .nil
  | n + 1, _, _, .cons h r => .cons h (Rps.take n r)
theorem Rps.drop : ∀ (n : Nat) {ds : List D} {vs : List V}, Rps B G ds vs → Rps B G (ds.drop n) (vs.drop n)
  | 0, _, _, r => r
  | _ + 1, _, _, .nil => .nil
  | n + 1, _, _, .cons h r => Rps.drop n r
theorem Rps.set {d : D} {v : V} (h : Rp B G d v) : ∀ (n : Nat) {ds : List D} {vs : List V}, Rps B G ds vs → Rps B G (ds.set n d) (vs.set n v)
  | _, _, _, .nil => .nil
  | 0, _, _, .cons _ r => .cons h r
  | n + 1, _, _, .cons q r => .cons q (Rps.set h n r)
theorem Rps.erase : ∀ (n : Nat) {ds : List D} {vs : List V}, Rps B G ds vs → Rps B G (ds.eraseIdx n) (vs.eraseIdx n)
  | _, _, _, .nil => .nil
  | 0, _, _, .cons _ r => r
  | n + 1, _, _, .cons q r => .cons q (Rps.erase n r)
theorem Rpf.look {f : Nat} {d : D} : ∀ {fs : List (Nat × D)} {vs : List (Str × V)}, Rpf B G fs vs → fs.lookup f = some d → ∃ v, vs.lookup (B.fld f) = some v ∧ Rp B G d v
  | _, _, .nil, e => by simp at e
  | _, _, .cons (f := g) h r, e => by
    rw [List.lookup_cons] at e ⊢
    by_cases q : f = g
    · subst q
      rw [beq_self_eq_true] at e ⊢
      cases e
      exact ⟨_, rfl, h⟩
    · rw [beq_eq_false_iff_ne.mpr q] at e
      rw [beq_eq_false_iff_ne.mpr fun z => q (B.inj _ _ z)]
      exact Rpf.look r e
theorem Rpf.no {f : Nat} : ∀ {fs : List (Nat × D)} {vs : List (Str × V)}, Rpf B G fs vs → fs.lookup f = none → vs.lookup (B.fld f) = none
  | _, _, .nil, e => by simp
  | _, _, .cons (f := g) h r, e => by
    rw [List.lookup_cons] at e ⊢
    by_cases q : f = g
    · subst q
      rw [beq_self_eq_true] at e
      cases e
    · rw [beq_eq_false_iff_ne.mpr q] at e
      rw [beq_eq_false_iff_ne.mpr fun z => q (B.inj _ _ z)]
      exact Rpf.no r e
theorem Rpf.len {fs : List (Nat × D)} : ∀ {vs : List (Str × V)}, Rpf B G fs vs → vs.length = fs.length := by
  induction fs with
  | nil => intro vs h; cases h; rfl
  | cons d ds ih => intro vs h; cases h with | cons h r => rw [List.length_cons, List.length_cons, ih r]

/-- the thing at a is d; what it holds is frozen -/
inductive Cell (B : Tb) (G H : Hp) (a : Addr) : D → Prop where
  | lst {ds : List D} {vs : List V} (h : H a = some (.lst vs)) (r : Rps B G ds vs) : Cell B G H a (.lst ds)
  | obj {dx : Addr} {c : Nat} {fs : List (Nat × D)} {vs : List (Str × V)} (h : H a = some (.ins (B.cls c) dx vs)) (r : Rpf B G fs vs) : Cell B G H a (.obj c fs)
theorem Cell.to {a : Addr} {d : D} (c : Cell B G H a d) (s : Same G G') (e : ∀ o, H a = some o → H' a = some o) : Cell B G' H' a d := by
  cases c with
  | lst h r => exact .lst (e _ h) (r.to s)
  | obj h r => exact .obj (e _ h) (r.to s)
theorem Cell.ne {a : Addr} {d : D} (c : Cell B G H a d) : H a ≠ none := by
  cases c with
  | lst h r => rw [h]; exact fun z => nomatch z
  | obj h r => rw [h]; exact fun z => nomatch z
/-- frozen, it is data -/
theorem Cell.rp {a : Addr} {d : D} (c : Cell B G H a d) (s : Same G G') (e : G' a = H a) : Rp B G' d (.ref a) := by
  cases c with
  | lst h r => exact .lst (SqL.of (e.trans h)) (r.to s)
  | obj h r => exact .obj (e.trans h) (r.to s)

/-- the thing is to be read: itself in H, what it holds frozen -/
inductive Rr (B : Tb) (G H : Hp) : D → V → Prop where
  | non : Rr B G H .non .non
  | bl (b : Bool) : Rr B G H (.bl b) (.bl b)
  | int (i : Int) : Rr B G H (.int i) (.int i)
  | str (z : List Nat) : Rr B G H (.str z) (.str (T z))
  | tup {a : Addr} {ds : List D} {vs : List V} (h : SqT B.K G a vs) (r : Rps B G ds vs) : Rr B G H (.tup ds) (.ref a)
  | lst {a : Addr} {ds : List D} {vs : List V} (h : SqL B.K H a vs) (r : Rps B G ds vs) : Rr B G H (.lst ds) (.ref a)
  | obj {a dx : Addr} {c : Nat} {fs : List (Nat × D)} {vs : List (Str × V)} (h : H a = some (.ins (B.cls c) dx vs)) (r : Rpf B G fs vs) : Rr B G H (.obj c fs) (.ref a)
  | cls (c : Nat) : Rr B G H (.cls c) (.ref (B.cls c))
  | ty (t : String) : Rr B G H (.ty t) (.ty t)
theorem Rp.rr {d : D} {v : V} (h : Rp B G d v) (s : Same G H) : Rr B G H d v := by
  cases h with
  | non => exact .non
  | bl b => exact .bl b
  | int i => exact .int i
  | str z => exact .str z
  | tup h r => exact .tup h r
  | lst h r => exact .lst (s.seq h) r
  | obj h r => exact .obj (s _ _ h) r
  | cls c => exact .cls c
  | ty t => exact .ty t
theorem Cell.rr {a : Addr} {d : D} (c : Cell B G H a d) : Rr B G H d (.ref a) := by
  cases c with
  | lst h r => exact .lst (SqL.of h) r
  | obj h r => exact .obj h r
end

/-! ### slots -/
/-- the address of what slot i owns -/
def OwnA (ρ : Vm.Env) (σ : L2.St) (i : Nat) (a : Addr) : Prop := (∃ io lk d, ρ[i]? = some (SD.ow io lk d)) ∧ σ[i]? = some (some (V.ref a))
/-- .. that may change -/
def Own (ρ : Vm.Env) (σ : L2.St) (a : Addr) : Prop := ∃ (i : Nat) (io : Bool) (d : D), ρ[i]? = some (SD.ow io false d) ∧ σ[i]? = some (some (V.ref a))
/-- what a caught error's name stands for -/
structure XR where
  r : Hp → Nat → List (Nat × D) → V → Prop
  mono : ∀ {G G' : Hp} {c : Nat} {fs : List (Nat × D)} {v : V}, Same G G' → r G c fs v → r G' c fs v
inductive SlR (B : Tb) (Z : XR) (G H : Hp) (o : Option (Option V)) : SD → Prop where
  | un : SlR B Z G H o .un
  | sh {d : D} {v : V} (e : o = some (some v)) (r : Rp B G d v) : SlR B Z G H o (.sh d)
  | ow {io lk : Bool} {d : D} {a : Addr} (e : o = some (some (.ref a))) (n : G a = none) (c : Cell B G H a d) : SlR B Z G H o (.ow io lk d)
  | ex {c : Nat} {fs : List (Nat × D)} {v : V} (e : o = some (some v)) (z : Z.r G c fs v) : SlR B Z G H o (.ex c fs)
structure Rep (B : Tb) (Z : XR) (ρ : Vm.Env) (σ : L2.St) (G H : Hp) : Prop where
  len : σ.length = ρ.length
  sub : Same G H
  slot : ∀ (i : Nat) (s : SD), ρ[i]? = some s → SlR B Z G H σ[i]? s
  inj : ∀ (i j : Nat) (a : Addr), OwnA ρ σ i a → OwnA ρ σ j a → i = j

/-- from (G, H) to (G', H') only what L says has changed or was frozen -/
structure Stp (L : Addr → Prop) (G H G' H' : Hp) : Prop where
  k : ∀ b o, H b = some o → ¬ L b → H' b = some o
  d : ∀ b, H b ≠ none → H' b ≠ none
  g : Same G G'
  n : ∀ b, H b ≠ none → G b = none → ¬ L b → G' b = none
section
variable {L L1 : Addr → Prop} {G H G1 H1 G2 H2 : Hp}
theorem Stp.refl : Stp L G H G H := ⟨fun _ _ h _ => h, fun _ h => h, Same.refl _, fun _ _ h _ => h⟩
theorem Stp.trans (s : Stp L G H G1 H1) (t : Stp L1 G1 H1 G2 H2) (l : ∀ b, L1 b → L b ∨ H b = none) : Stp L G H G2 H2 := by
  have nl : ∀ b, H b ≠ none → ¬ L b → ¬ L1 b := fun b h n q => (l b q).elim n h
  refine ⟨fun b o h n => t.k b o (s.k b o h n) (nl b (by rw [h]; exact fun z => nomatch z) n), fun b h => t.d b (s.d b h), s.g.trans t.g, fun b h g n => t.n b (s.d b h) (s.n b h g n) (nl b h n)⟩
/-- a new thing -/
theorem Stp.new {p : Addr} {o : HO} (h : H p = none) : Stp L G H G (upd H p o) := by
  refine ⟨fun b u e _ => ?_, fun b e => ?_, Same.refl _, fun _ _ h _ => h⟩
  · rw [upd_ne fun z => by rw [z, h] at e; cases e]
    exact e
  · rw [upd_ne fun z => e (by rw [z, h])]
    exact e
/-- .. that is frozen at once -/
theorem Stp.newF {p : Addr} {o : HO} (h : H p = none) (s : Same G H) : Stp L G H (upd G p o) (upd H p o) := by
  have gp : G p = none := by
    cases e : G p with
    | none => rfl
    | some u => rw [s _ _ e] at h; cases h
  refine ⟨fun b u e _ => ?_, fun b e => ?_, fun b u e => ?_, fun b e g _ => ?_⟩
  · rw [upd_ne fun z => by rw [z, h] at e; cases e]
    exact e
  · rw [upd_ne fun z => e (by rw [z, h])]
    exact e
  · rw [upd_ne fun z => by rw [z, gp] at e; cases e]
    exact e
  · rw [upd_ne fun z => e (by rw [z, h])]
    exact g
/-- the thing at a is frozen -/
theorem Stp.frz {a : Addr} {o : HO} (h : H a = some o) (g : G a = none) (s : Same G H) : Stp (fun b => b = a) G H (upd G a o) H := by
  refine ⟨fun _ _ e _ => e, fun _ e => e, fun b u e => ?_, fun b _ e n => ?_⟩
  · rw [upd_ne fun z => by rw [z, g] at e; cases e]
    exact e
  · rw [upd_ne n]
    exact e
theorem Stp.put {a : Addr} {o : HO} (g : G a = none) : Stp (fun b => b = a) G H G (upd H a o) := by
  refine ⟨fun b _ e n => by rw [upd_ne n]; exact e, fun b e => ?_, Same.refl _, fun b _ e n => e⟩
  by_cases q : b = a
  · rw [q, upd_same]; exact fun z => nomatch z
  · rw [upd_ne q]; exact e
end
end Vm

set_option Elab.async false
set_option linter.all false
set_option maxRecDepth 100000
/-! Judgements: what an expression does is what its function says. -/
namespace Vm
open PySem PySem.Spec PyProof.Rows L2

/-- from one state of the slots and the heap to another -/
structure Step (ρ : Vm.Env) (σ : L2.St) (G H : Hp) (ρ' : Vm.Env) (σ' : L2.St) (G' H' : Hp) : Prop where
  stp : Stp (Own ρ σ) G H G' H'
  ownA : ∀ (i : Nat) (b : Addr), OwnA ρ' σ' i b → (∃ j, OwnA ρ σ j b) ∨ H b = none
  io : ∀ (i : Nat) (lk : Bool) (d : D), ρ[i]? = some (SD.ow true lk d) → σ'[i]? = σ[i]? ∧ ∃ d', ρ'[i]? = some (SD.ow true lk d')
  lk : ∀ (i : Nat) (io : Bool) (d : D), ρ[i]? = some (SD.ow io true d) → σ'[i]? = σ[i]? ∧ ρ'[i]? = some (SD.ow io true d)
section
variable {B : Tb} {Z : XR} {ρ ρ1 ρ2 : Vm.Env} {σ σ1 σ2 : L2.St} {G H G1 H1 G2 H2 : Hp}
theorem Own.a {b : Addr} (h : Own ρ σ b) : ∃ i, OwnA ρ σ i b := by
  obtain ⟨i, io, d, h1, h2⟩ := h
  exact ⟨i, ⟨io, false, d, h1⟩, h2⟩
theorem Step.own (s : Step ρ σ G H ρ1 σ1 G1 H1) (r : Rep B Z ρ1 σ1 G1 H1) {b : Addr} (h : Own ρ1 σ1 b) : Own ρ σ b ∨ H b = none := by
  obtain ⟨i, io, d, h1, h2⟩ := h
  rcases s.ownA i b ⟨⟨io, false, d, h1⟩, h2⟩ with ⟨j, ⟨io', lk', d', h3⟩, h4⟩ | h
  · cases lk' with
    | false => exact .inl ⟨j, io', d', h3, h4⟩
    | true =>
      obtain ⟨q1, q2⟩ := s.lk j io' d' h3
      have := r.inj i j b ⟨⟨io, false, d, h1⟩, h2⟩ ⟨⟨io', true, d', q2⟩, q1.trans h4⟩
      subst this
      rw [h1] at q2
      cases q2
  · exact .inr h
theorem Step.refl : Step ρ σ G H ρ σ G H := ⟨Stp.refl, fun i b h => .inl ⟨i, h⟩, fun i lk d h => ⟨rfl, d, h⟩, fun i io d h => ⟨rfl, h⟩⟩
theorem none_back {L : Addr → Prop} (s : Stp L G H G1 H1) {b : Addr} (h : H1 b = none) : H b = none := by
  cases e : H b with
  | none => rfl
  | some o => exact absurd h (s.d b (by rw [e]; exact fun z => nomatch z))
theorem Step.trans (s : Step ρ σ G H ρ1 σ1 G1 H1) (r : Rep B Z ρ1 σ1 G1 H1) (t : Step ρ1 σ1 G1 H1 ρ2 σ2 G2 H2) : Step ρ σ G H ρ2 σ2 G2 H2 := by
  refine ⟨s.stp.trans t.stp fun b h => s.own r h, fun i b h => ?_, fun i lk d h => ?_, fun i io d h => ?_⟩
  · rcases t.ownA i b h with ⟨j, h⟩ | h
    · exact s.ownA j b h
    · exact .inr (none_back s.stp h)
  · obtain ⟨e1, d1, h1⟩ := s.io i lk d h
    obtain ⟨e2, d2, h2⟩ := t.io i lk d1 h1
    exact ⟨e2.trans e1, d2, h2⟩
  · obtain ⟨e1, h1⟩ := s.lk i io d h
    obtain ⟨e2, h2⟩ := t.lk i io d h1
    exact ⟨e2.trans e1, h2⟩
/-- a state whose heap alone has grown -/
theorem Step.heap (s : Stp (Own ρ σ) G H G1 H1) : Step ρ σ G H ρ σ G1 H1 := ⟨s, fun i b h => .inl ⟨i, h⟩, fun i lk d h => ⟨rfl, d, h⟩, fun i io d h => ⟨rfl, h⟩⟩
theorem Rep.at_ {i : Nat} {a : Addr} (r : Rep B Z ρ σ G H) (h : OwnA ρ σ i a) : H a ≠ none := by
  obtain ⟨⟨io, lk, d, h1⟩, h2⟩ := h
  have := r.slot i _ h1
  cases this with
  | ow e n c =>
    rw [h2] at e
    cases e
    exact c.ne
theorem Rep.ng {i : Nat} {a : Addr} (r : Rep B Z ρ σ G H) (h : OwnA ρ σ i a) : G a = none := by
  obtain ⟨⟨io, lk, d, h1⟩, h2⟩ := h
  have := r.slot i _ h1
  cases this with
  | ow e n c =>
    rw [h2] at e
    cases e
    exact n
/-- new things in the heap: the slots are as they were -/
theorem Rep.grow (r : Rep B Z ρ σ G H) (g : Same G G1) (k : ∀ b o, H b = some o → H1 b = some o) (s : Same G1 H1) (n : ∀ b, H b ≠ none → G b = none → G1 b = none) : Rep B Z ρ σ G1 H1 := by
  refine ⟨r.len, s, fun i sd h => ?_, r.inj⟩
  cases r.slot i sd h with
  | un => exact .un
  | sh e q => exact .sh e (q.to g)
  | ow e n' c => exact .ow e (n _ c.ne n') (c.to g (k _))
  | ex e z => exact .ex e (Z.mono g z)
theorem Rep.new (r : Rep B Z ρ σ G H) {p : Addr} {o : HO} (h : H p = none) : Rep B Z ρ σ G (upd H p o) := by
  have k : ∀ b u, H b = some u → upd H p o b = some u := fun b u e => by rw [upd_ne (ne_of_none e h)]; exact e
  exact r.grow (Same.refl _) k (r.sub.trans k) fun _ _ h => h
theorem Rep.newF (r : Rep B Z ρ σ G H) {p : Addr} {o : HO} (h : H p = none) : Rep B Z ρ σ (upd G p o) (upd H p o) := by
  have k : ∀ b u, H b = some u → upd H p o b = some u := fun b u e => by rw [upd_ne (ne_of_none e h)]; exact e
  have t : Stp (fun _ => False) G H (upd G p o) (upd H p o) := Stp.newF h r.sub
  refine r.grow t.g k (fun b u e => ?_) fun b h1 h2 => t.n b h1 h2 id
  by_cases q : b = p
  · rw [q, upd_same] at e ⊢; exact e
  · rw [upd_ne q] at e ⊢; exact r.sub _ _ e
end

/-! ### values -/
/-- what stands for what an expression gives; a new thing was not there in H0 -/
inductive RepV (B : Tb) (Z : XR) (H0 : Hp) (ρ : Vm.Env) (σ : L2.St) (G H : Hp) : EV → V → Prop where
  | val {d : D} {v : V} (r : Rp B G d v) : RepV B Z H0 ρ σ G H (.val d) v
  | own {i : Nat} {a : Addr} (e : σ[i]? = some (some (.ref a))) : RepV B Z H0 ρ σ G H (.own i) (.ref a)
  | fr {a : Addr} {d : D} (n : G a = none) (c : Cell B G H a d) (f : H0 a = none) (ne : ∀ i, ¬ OwnA ρ σ i a) : RepV B Z H0 ρ σ G H (.fr d) (.ref a)
  | ex {c : Nat} {fs : List (Nat × D)} {v : V} (z : Z.r G c fs v) : RepV B Z H0 ρ σ G H (.ex c fs) v
/-- the new things among them -/
def frs : List EV → List V → List V
  | .fr _ :: es, v :: vs => v :: frs es vs
  | _ :: es, _ :: vs => frs es vs
  | _, _ => []
theorem frs_sub {e : EV} {es : List EV} {v u : V} {vs : List V} (h : u ∈ frs es vs) : u ∈ frs (e :: es) (v :: vs) := by
  cases e <;> simp only [frs] <;> first | exact h | exact List.mem_cons_of_mem _ h
inductive RepVs (B : Tb) (Z : XR) (H0 : Hp) (ρ : Vm.Env) (σ : L2.St) (G H : Hp) : List EV → List V → Prop where
  | nil : RepVs B Z H0 ρ σ G H [] []
  | cons {e : EV} {v : V} {es : List EV} {vs : List V} (h : RepV B Z H0 ρ σ G H e v) (r : RepVs B Z H0 ρ σ G H es vs) (dis : ∀ d, e = .fr d → v ∉ frs es vs) : RepVs B Z H0 ρ σ G H (e :: es) (v :: vs)
section
variable {B : Tb} {Z : XR} {H0 K0 : Hp} {ρ ρ1 ρ2 : Vm.Env} {σ σ1 σ2 : L2.St} {G H G1 H1 G2 H2 : Hp} {ev : EV} {v : V}
theorem RepV.step (q : RepV B Z H0 ρ σ G H ev v) (s : Step ρ σ G H ρ1 σ G1 H1) : RepV B Z H0 ρ1 σ G1 H1 ev v := by
  cases q with
  | val r => exact .val (r.to s.stp.g)
  | own e => exact .own e
  | fr n c f ne =>
    have no : ¬ Own ρ σ _ := fun h => by obtain ⟨i, h⟩ := h.a; exact ne i h
    refine .fr (s.stp.n _ c.ne n no) (c.to s.stp.g fun o e => s.stp.k _ o e no) f fun i h => ?_
    rcases s.ownA i _ h with ⟨j, h⟩ | h
    · exact ne j h
    · exact c.ne h
  | ex z => exact .ex (Z.mono s.stp.g z)
theorem RepV.old (q : RepV B Z H0 ρ σ G H ev v) (h : ∀ b, H0 b = none → K0 b = none) : RepV B Z K0 ρ σ G H ev v := by
  cases q with
  | val r => exact .val r
  | own e => exact .own e
  | fr n c f ne => exact .fr n c (h _ f) ne
  | ex z => exact .ex z
theorem RepVs.step {es : List EV} {vs : List V} (q : RepVs B Z H0 ρ σ G H es vs) (s : Step ρ σ G H ρ1 σ G1 H1) : RepVs B Z H0 ρ1 σ G1 H1 es vs := by
  induction q with
  | nil => exact .nil
  | cons h r d ih => exact .cons (h.step s) ih d
theorem RepVs.old {es : List EV} {vs : List V} (q : RepVs B Z H0 ρ σ G H es vs) (h : ∀ b, H0 b = none → K0 b = none) : RepVs B Z K0 ρ σ G H es vs := by
  induction q with
  | nil => exact .nil
  | cons h' r d ih => exact .cons (h'.old h) ih d
/-- .. is to be read -/
theorem RepV.peek (q : RepV B Z H0 ρ σ G H ev v) (r : Rep B Z ρ σ G H) {d : D} (e : ev.peek ρ = some d) : Rr B G H d v := by
  cases q with
  | val h => cases e; exact h.rr r.sub
  | own h =>
    rename_i i a
    simp only [EV.peek] at e
    cases hs : ρ[i]? with
    | none => rw [hs] at e; cases e
    | some s =>
      rw [hs] at e
      cases s with
      | un => cases e
      | sh d' =>
        cases e
        cases r.slot i _ hs with
        | sh e1 q1 =>
          rw [h] at e1
          cases e1
          exact q1.rr r.sub
      | ow io lk d' =>
        cases e
        cases r.slot i _ hs with
        | ow e1 n c =>
          rw [h] at e1
          cases e1
          exact c.rr
      | ex c fs => cases e
  | fr n c f ne => cases e; exact c.rr
  | ex z => cases e

/-- a thing is frozen -/
theorem Rep.frzAt (r : Rep B Z ρ σ G H) {a : Addr} {o : HO} (h : H a = some o) (n : G a = none) (ne : ∀ i, ¬ OwnA ρ σ i a) : Rep B Z ρ σ (upd G a o) H := by
  have s := Stp.frz h n r.sub
  refine ⟨r.len, fun b u e => ?_, fun i sd q => ?_, r.inj⟩
  · by_cases q : b = a
    · rw [q, upd_same] at e; rw [q, h]; exact e
    · rw [upd_ne q] at e; exact r.sub _ _ e
  · cases r.slot i sd q with
    | un => exact .un
    | sh e z => exact .sh e (z.to s.g)
    | @ow io lk d b e n' c =>
      have : b ≠ a := fun z => ne i ⟨⟨io, lk, d, q⟩, by rw [← z]; exact e⟩
      exact .ow e (by rw [upd_ne this]; exact n') (c.to s.g fun _ z => z)
    | ex e z => exact .ex e (Z.mono s.g z)
/-- slot i lets go of what it owns -/
theorem OwnA.of_set {i j : Nat} {a : Addr} {sd : SD} (hs : ∀ io lk d, sd ≠ SD.ow io lk d) (h : OwnA (ρ.set i sd) σ j a) : OwnA ρ σ j a ∧ j ≠ i := by
  obtain ⟨⟨io, lk, d, h1⟩, h2⟩ := h
  by_cases q : j = i
  · subst q
    rw [List.getElem?_set] at h1
    split at h1
    · split at h1
      · exact absurd (Option.some.inj h1) (hs io lk d)
      · cases h1
    · exact absurd rfl (by assumption)
  · rw [List.getElem?_set_ne (Ne.symm q)] at h1
    exact ⟨⟨⟨io, lk, d, h1⟩, h2⟩, q⟩
theorem getElem?_set_cases {α : Type} {l : List α} {i j : Nat} {a b : α} (h : (l.set i a)[j]? = some b) : (j = i ∧ b = a ∧ i < l.length) ∨ (j ≠ i ∧ l[j]? = some b) := by
  by_cases q : j = i
  · subst q
    rw [List.getElem?_set] at h
    split at h
    · split at h
      · exact .inl ⟨rfl, (Option.some.inj h).symm, by assumption⟩
      · cases h
    · exact absurd rfl (by assumption)
  · exact .inr ⟨q, by rwa [List.getElem?_set_ne (Ne.symm q)] at h⟩
/-- freezing what an expression gave -/
theorem RepV.frz (q : RepV B Z H0 ρ σ G H ev v) (r : Rep B Z ρ σ G H) (h0 : ∀ b, H b = none → H0 b = none) {d : D} {ρ' : Vm.Env} (e : ev.frz ρ = some (d, ρ')) :
    ∃ G', Rep B Z ρ' σ G' H ∧ Rp B G' d v ∧ Stp (fun b => Own ρ σ b ∨ H0 b = none) G H G' H ∧ (∀ i b, OwnA ρ' σ i b → OwnA ρ σ i b) ∧
      (∀ (i : Nat) (io lk : Bool) (d : D), io = true ∨ lk = true → ρ[i]? = some (SD.ow io lk d) → ρ'[i]? = some (SD.ow io lk d)) ∧ (∀ b, G' b ≠ none → G b = none → v = .ref b ∧ ((∃ i, OwnA ρ σ i b) ∨ ∃ d, ev = .fr d)) := by
  cases q with
  | val h =>
    cases e
    exact ⟨G, r, h, Stp.refl, fun _ _ h => h, fun _ _ _ _ _ h => h, fun b h1 h2 => absurd h2 h1⟩
  | own h =>
    rename_i i a
    simp only [EV.frz] at e
    cases hs : ρ[i]? with
    | none => rw [hs] at e; cases e
    | some s =>
      rw [hs] at e
      cases s with
      | un => cases e
      | sh d' =>
        cases e
        cases r.slot i _ hs with
        | sh e1 q1 =>
          rw [h] at e1
          cases e1
          exact ⟨G, r, q1, Stp.refl, fun _ _ h => h, fun _ _ _ _ _ h => h, fun b h1 h2 => absurd h2 h1⟩
      | ow io lk d' =>
        cases io with
        | true => cases e
        | false =>
        cases lk with
        | true => cases e
        | false =>
        cases e
        cases r.slot i _ hs with
        | ow e1 n c =>
          rw [h] at e1
          cases e1
          obtain ⟨o, ho⟩ := Option.ne_none_iff_exists'.mp c.ne
          have ha : Own ρ σ a := ⟨i, false, d, hs, h⟩
          have s := Stp.frz ho n r.sub
          have sub : Same (upd G a o) H := fun b u e => by
            by_cases q : b = a
            · rw [q, upd_same] at e; rw [q, ho]; exact e
            · rw [upd_ne q] at e; exact r.sub _ _ e
          have rp : Rp B (upd G a o) d (.ref a) := c.rp s.g (by rw [upd_same, ho])
          refine ⟨upd G a o, ⟨?_, sub, fun j sd q => ?_, fun i' j' b h1 h2 => ?_⟩, rp, ⟨fun _ _ e _ => e, s.d, s.g, fun b h1 h2 h3 => s.n b h1 h2 fun z => h3 (.inl (by rw [z]; exact ha))⟩, fun j b h => (OwnA.of_set (sd := .sh d) (by intro _ _ _ z; cases z) h).1, fun j io lk d0 hl hj => ?_, fun b h1 h2 => ?_⟩
          · rw [List.length_set]; exact r.len
          · rcases getElem?_set_cases q with ⟨rfl, rfl, _⟩ | ⟨hne, q⟩
            · exact .sh h rp
            · cases r.slot j sd q with
              | un => exact .un
              | sh e z => exact .sh e (z.to s.g)
              | @ow io lk d2 b e n' c' =>
                have : b ≠ a := fun z => hne (r.inj j i a ⟨⟨io, lk, d2, q⟩, by rw [← z]; exact e⟩ ⟨⟨false, false, d, hs⟩, h⟩)
                exact .ow e (by rw [upd_ne this]; exact n') (c'.to s.g fun _ z => z)
              | ex e z => exact .ex e (Z.mono s.g z)
          · exact r.inj i' j' b (OwnA.of_set (sd := .sh d) (by intro _ _ _ z; cases z) h1).1 (OwnA.of_set (sd := .sh d) (by intro _ _ _ z; cases z) h2).1
          · have : j ≠ i := fun z => by
              subst z
              rw [hs] at hj
              cases hj
              rcases hl with h | h <;> cases h
            rw [List.getElem?_set_ne (Ne.symm this)]
            exact hj
          · by_cases q : b = a
            · rw [q]; exact ⟨rfl, .inl ⟨i, ⟨false, false, d, hs⟩, h⟩⟩
            · rw [upd_ne q] at h1; exact absurd h2 h1
      | ex c fs => cases e
  | fr n c f ne =>
    cases e
    rename_i a
    obtain ⟨o, ho⟩ := Option.ne_none_iff_exists'.mp c.ne
    have s := Stp.frz ho n r.sub
    refine ⟨upd G a o, r.frzAt ho n ne, c.rp s.g (by rw [upd_same, ho]), ⟨fun _ _ e _ => e, s.d, s.g, fun b h1 h2 h3 => s.n b h1 h2 fun z => h3 (.inr (by rw [z]; exact f))⟩, fun _ _ h => h, fun _ _ _ _ _ h => h, fun b h1 h2 => ?_⟩
    by_cases q : b = a
    · rw [q]; exact ⟨rfl, .inr ⟨d, rfl⟩⟩
    · rw [upd_ne q] at h1; exact absurd h2 h1
  | ex z => cases e
/-- one behind another -/
theorem RepVs.frz {es : List EV} {vs : List V} (q : RepVs B Z H0 ρ σ G H es vs) : ∀ (r : Rep B Z ρ σ G H) (h0 : ∀ b, H b = none → H0 b = none) {ds : List D} {ρ' : Vm.Env} (e : frzs ρ es = some (ds, ρ')),
    ∃ G', Rep B Z ρ' σ G' H ∧ Rps B G' ds vs ∧ Stp (fun b => Own ρ σ b ∨ H0 b = none) G H G' H ∧ (∀ i b, OwnA ρ' σ i b → OwnA ρ σ i b) ∧
      (∀ (i : Nat) (io lk : Bool) (d : D), io = true ∨ lk = true → ρ[i]? = some (SD.ow io lk d) → ρ'[i]? = some (SD.ow io lk d)) := by
  induction es generalizing ρ G vs with
  | nil =>
    intro r h0 ds ρ' e
    cases q
    cases e
    exact ⟨G, r, .nil, Stp.refl, fun _ _ h => h, fun _ _ _ _ _ h => h⟩
  | cons ev es ih =>
    intro r h0 ds ρ' e
    cases q with
    | @cons _ v _ vs h t dis =>
    simp only [frzs] at e
    split at e
    · rename_i d ρ1 e1
      split at e
      · rename_i ds' ρ2 e2
        cases e
        obtain ⟨G1, r1, p1, s1, o1, k1, n1⟩ := h.frz r h0 e1
        have t1 : RepVs B Z H0 ρ1 σ G1 H es vs := by
          clear ih e2
          induction t with
          | nil => exact .nil
          | @cons e2 v2 es2 vs2 h2 t2 d2 ih2 =>
            refine .cons ?_ (ih2 fun d q hv => dis d q (frs_sub hv)) d2
            cases h2 with
            | val z => exact .val (z.to s1.g)
            | own z => exact .own z
            | fr n c f ne =>
              refine .fr ?_ (c.to s1.g fun _ z => z) f fun i z => ne i (o1 i _ z)
              rename_i a2 d2
              cases hg : G1 a2 with
              | none => rfl
              | some o =>
                obtain ⟨q1, q2⟩ := n1 a2 (by rw [hg]; exact fun z => nomatch z) n
                rcases q2 with ⟨i, q2⟩ | ⟨d3, q2⟩
                · exact absurd q2 (ne i)
                · exact absurd (by rw [q1]; exact List.mem_cons_self) (dis d3 q2)
            | ex z => exact .ex (Z.mono s1.g z)
        obtain ⟨G2, r2, p2, s2, o2, k2⟩ := ih t1 r1 h0 e2
        refine ⟨G2, r2, .cons (p1.to s2.g) p2, ⟨fun _ _ e _ => e, fun _ e => e, s1.g.trans s2.g, fun b h1 h2 h3 => ?_⟩, fun i b z => o1 i b (o2 i b z), fun i io lk d z1 z2 => k2 i io lk d z1 (k1 i io lk d z1 z2)⟩
        refine s2.n b h1 (s1.n b h1 h2 h3) fun z => h3 (z.imp (fun ⟨i, io, d, z1, z2⟩ => ?_) id)
        obtain ⟨⟨io', lk', d', y1⟩, y2⟩ := o1 i b ⟨⟨io, false, d, z1⟩, z2⟩
        cases lk' with
        | false => exact ⟨i, io', d', y1, y2⟩
        | true =>
          have := k1 i io' true d' (.inr rfl) y1
          rw [z1] at this
          cases this
      · cases e
    · cases e
/-- .. the step of all from the start -/
theorem Step.frz {ρ0 : Vm.Env} {G0 : Hp} (s : Step ρ0 σ G0 H0 ρ σ G H) (r : Rep B Z ρ σ G H) (t : Stp (fun b => Own ρ σ b ∨ H0 b = none) G H G1 H) (o : ∀ i b, OwnA ρ1 σ i b → OwnA ρ σ i b)
    (k : ∀ (i : Nat) (io lk : Bool) (d : D), io = true ∨ lk = true → ρ[i]? = some (SD.ow io lk d) → ρ1[i]? = some (SD.ow io lk d)) : Step ρ0 σ G0 H0 ρ1 σ G1 H := by
  refine ⟨s.stp.trans t fun b h => h.elim (fun h => s.own r h) .inr, fun i b h => s.ownA i b (o i b h), fun i lk d h => ?_, fun i io d h => ?_⟩
  · obtain ⟨e, d', h⟩ := s.io i lk d h
    exact ⟨e, d', k i true lk d' (.inl rfl) h⟩
  · obtain ⟨e, h⟩ := s.lk i io d h
    exact ⟨e, k i io true d (.inr rfl) h⟩
end
end Vm

set_option Elab.async false
set_option linter.all false
set_option maxRecDepth 100000
namespace Vm
open PySem PySem.Spec PyProof.Rows L2

/-- an exception in the air -/
inductive XcR (B : Tb) (G H : Hp) : Xc → Value → Option Addr → Prop where
  | mk {c : Nat} {fs : List (Nat × D)} {dd : Addr} {vs : List (Str × V)} (h : G dd = some (.xd vs)) (r : Rpf B G fs vs) : XcR B G H ⟨c, fs⟩ (.ref (B.cls c)) (some dd)
  | nil {c : Nat} : XcR B G H ⟨c, []⟩ (.ref (B.cls c)) none
/-- what is wished of exceptions -/
abbrev WX := Value → Option Addr → L2.St → Hp → Prop
/-- what is wanted of a result -/
def Want {α β : Type} (B : Tb) (Z : XR) (W : WX) (Rel : α → β → Vm.Env → Hp → Hp → Prop) (r : R α) (ρ : Vm.Env) (σ : L2.St) (G H : Hp) (Q : β → Hp → Prop) : Prop :=
  match r with
  | .ok a ρ' => ∀ (b : β) (G' H' : Hp), Rep B Z ρ' σ G' H' → Step ρ σ G H ρ' σ G' H' → Rel a b ρ' G' H' → Q b H'
  | .exc x ρ' => ∀ (cls : Value) (d : Option Addr) (G' H' : Hp), Rep B Z ρ' σ G' H' → Step ρ σ G H ρ' σ G' H' → XcR B G' H' x cls d → W cls d σ H'
  | .bad => False
abbrev WantE (B : Tb) (Z : XR) (W : WX) (r : R EV) (ρ : Vm.Env) (σ : L2.St) (G H : Hp) (Q : VK) : Prop := Want B Z W (fun ev v ρ' G' H' => RepV B Z H ρ' σ G' H' ev v) r ρ σ G H Q
abbrev WantA (B : Tb) (Z : XR) (W : WX) (r : R (List EV)) (ρ : Vm.Env) (σ : L2.St) (G H : Hp) (Q : List V → Hp → Prop) : Prop := Want B Z W (fun es vs ρ' G' H' => RepVs B Z H ρ' σ G' H' es vs) r ρ σ G H Q
/-- .. plain results -/
abbrev WantP {α : Type} (B : Tb) (Z : XR) (W : WX) (r : R α) (ρ : Vm.Env) (σ : L2.St) (G H : Hp) (Q : α → Hp → Prop) : Prop := Want B Z W (fun a b _ _ _ => a = b) r ρ σ G H Q
/-- the reading does what the function says -/
def GE (B : Tb) (Z : XR) (W : WX) (t : TE) (m : Ex) : Prop := ∀ (ρ : Vm.Env) (σ : L2.St) (G H : Hp) (Q : VK), Rep B Z ρ σ G H → WantE B Z W (m ρ) ρ σ G H Q → t σ H Q
def GA (B : Tb) (Z : XR) (W : WX) (t : TA) (m : Exs) : Prop := ∀ (ρ : Vm.Env) (σ : L2.St) (G H : Hp) (Q : List V → Hp → Prop), Rep B Z ρ σ G H → WantA B Z W (m ρ) ρ σ G H Q → t σ H Q
def GP {α : Type} (B : Tb) (Z : XR) (W : WX) (t : L2.St → Hp → (α → Hp → Prop) → Prop) (m : Vm.Env → R α) : Prop := ∀ (ρ : Vm.Env) (σ : L2.St) (G H : Hp) (Q : α → Hp → Prop), Rep B Z ρ σ G H → WantP B Z W (m ρ) ρ σ G H Q → t σ H Q
abbrev GT (B : Tb) (Z : XR) (W : WX) (t : TT) (m : Tst) : Prop := GP B Z W t m

section
variable {B : Tb} {Z : XR} {W : WX} {ρ ρ1 : Vm.Env} {σ : L2.St} {G H G1 H1 : Hp}
/-- another start -/
theorem WantE.to {r : R EV} {Q : VK} (w : WantE B Z W r ρ σ G H Q) (s : Step ρ σ G H ρ1 σ G1 H1) (q : Rep B Z ρ1 σ G1 H1) : WantE B Z W r ρ1 σ G1 H1 Q := by
  cases r with
  | ok a ρ' => exact fun b G' H' r' s' v => w b G' H' r' (s.trans q s') (v.old fun _ h => none_back s.stp h)
  | exc x ρ' => exact fun c d G' H' r' s' v => w c d G' H' r' (s.trans q s') v
  | bad => exact w.elim
theorem WantA.to {r : R (List EV)} {Q : List V → Hp → Prop} (w : WantA B Z W r ρ σ G H Q) (s : Step ρ σ G H ρ1 σ G1 H1) (q : Rep B Z ρ1 σ G1 H1) : WantA B Z W r ρ1 σ G1 H1 Q := by
  cases r with
  | ok a ρ' => exact fun b G' H' r' s' v => w b G' H' r' (s.trans q s') (v.old fun _ h => none_back s.stp h)
  | exc x ρ' => exact fun c d G' H' r' s' v => w c d G' H' r' (s.trans q s') v
  | bad => exact w.elim
theorem WantP.to {α : Type} {r : R α} {Q : α → Hp → Prop} (w : WantP B Z W r ρ σ G H Q) (s : Step ρ σ G H ρ1 σ G1 H1) (q : Rep B Z ρ1 σ G1 H1) : WantP B Z W r ρ1 σ G1 H1 Q := by
  cases r with
  | ok a ρ' => exact fun b G' H' r' s' v => w b G' H' r' (s.trans q s') v
  | exc x ρ' => exact fun c d G' H' r' s' v => w c d G' H' r' (s.trans q s') v
  | bad => exact w.elim
section
variable {α β : Type} {Rel : α → β → Vm.Env → Hp → Hp → Prop} {ta : TE} {ma : Ex} {xa : TA} {na : Exs}
/-- an expression first -/
theorem GE.bind (ha : GE B Z W ta ma) (r : Rep B Z ρ σ G H) {k : EV → Vm.Env → R α} {Q : β → Hp → Prop} {F : VK} (w : Want B Z W Rel ((ma ρ).bind k) ρ σ G H Q)
    (h : ∀ ev v ρ1 G1 H1, Rep B Z ρ1 σ G1 H1 → Step ρ σ G H ρ1 σ G1 H1 → RepV B Z H ρ1 σ G1 H1 ev v → Want B Z W Rel (k ev ρ1) ρ σ G H Q → F v H1) : ta σ H F := by
  refine ha ρ σ G H F r ?_
  cases e : ma ρ with
  | ok a ρ' =>
    rw [e] at w
    exact fun b G' H' r' s' v => h a b ρ' G' H' r' s' v w
  | exc x ρ' =>
    rw [e] at w
    exact w
  | bad =>
    rw [e] at w
    exact w.elim
theorem GA.bind (ha : GA B Z W xa na) (r : Rep B Z ρ σ G H) {k : List EV → Vm.Env → R α} {Q : β → Hp → Prop} {F : List V → Hp → Prop} (w : Want B Z W Rel ((na ρ).bind k) ρ σ G H Q)
    (h : ∀ ev v ρ1 G1 H1, Rep B Z ρ1 σ G1 H1 → Step ρ σ G H ρ1 σ G1 H1 → RepVs B Z H ρ1 σ G1 H1 ev v → Want B Z W Rel (k ev ρ1) ρ σ G H Q → F v H1) : xa σ H F := by
  refine ha ρ σ G H F r ?_
  cases e : na ρ with
  | ok a ρ' =>
    rw [e] at w
    exact fun b G' H' r' s' v => h a b ρ' G' H' r' s' v w
  | exc x ρ' =>
    rw [e] at w
    exact w
  | bad =>
    rw [e] at w
    exact w.elim
theorem GP.bind {γ : Type} {t : L2.St → Hp → (γ → Hp → Prop) → Prop} {m : Vm.Env → R γ} (ha : GP B Z W t m) (r : Rep B Z ρ σ G H) {k : γ → Vm.Env → R α} {Q : β → Hp → Prop} {F : γ → Hp → Prop} (w : Want B Z W Rel ((m ρ).bind k) ρ σ G H Q)
    (h : ∀ x ρ1 G1 H1, Rep B Z ρ1 σ G1 H1 → Step ρ σ G H ρ1 σ G1 H1 → Want B Z W Rel (k x ρ1) ρ σ G H Q → F x H1) : t σ H F := by
  refine ha ρ σ G H F r ?_
  cases e : m ρ with
  | ok a ρ' =>
    rw [e] at w
    exact fun b G' H' r' s' v => by
      subst v
      exact h a ρ' G' H' r' s' w
  | exc x ρ' =>
    rw [e] at w
    exact w
  | bad =>
    rw [e] at w
    exact w.elim
end

/-! ### results -/
theorem w_val {d : D} {v : V} {Q : VK} (w : WantE B Z W (.ok (.val d) ρ) ρ σ G H Q) (r : Rep B Z ρ σ G H) (q : Rp B G d v) : Q v H := w v G H r Step.refl (.val q)
theorem w_new {d : D} {o : HO} {Q : VK} (w : WantE B Z W (.ok (.fr d) ρ) ρ σ G H Q) (r : Rep B Z ρ σ G H) (c : ∀ p, Cell B G (upd H p o) p d) {p : Addr} (h : H p = none) : Q (.ref p) (upd H p o) := by
  refine w _ G _ (r.new h) (Step.heap (Stp.new h)) (.fr ?_ (c p) h fun i z => r.at_ z h)
  cases e : G p with
  | none => rfl
  | some u => rw [r.sub _ _ e] at h; cases h
theorem w_newF {d : D} {o : HO} {Q : VK} (w : WantE B Z W (.ok (.val d) ρ) ρ σ G H Q) (r : Rep B Z ρ σ G H) (c : ∀ G' p, Same G G' → G' p = some o → Rp B G' d (.ref p)) {p : Addr} (h : H p = none) : Q (.ref p) (upd H p o) :=
  w _ (upd G p o) _ (r.newF h) (Step.heap (Stp.newF h r.sub)) (.val (c _ p (Stp.newF (L := fun _ => False) h r.sub).g upd_same))

/-! ### names, constants -/
theorem ge_var {i : Nat} : GE B Z W (tVar i) (var i) := by
  intro ρ σ G H Q r w
  unfold var at w
  cases e : ρ[i]? with
  | none => rw [e] at w; exact w.elim
  | some s =>
    rw [e] at w
    cases s with
    | un => exact w.elim
    | sh d =>
      cases r.slot i _ e with
      | sh e1 q => exact ⟨_, e1, w_val w r q⟩
    | ow io lk d =>
      cases r.slot i _ e with
      | ow e1 n c => exact ⟨_, e1, w _ G H r Step.refl (.own e1)⟩
    | ex c fs =>
      cases r.slot i _ e with
      | ex e1 z => exact ⟨_, e1, w _ G H r Step.refl (.ex z)⟩
theorem ge_cst {d : D} {v : V} (h : ∀ G, Rp B G d v) : GE B Z W (tC v) (cst d) := fun ρ σ G H Q r w => w_val w r (h G)
theorem ge_int {i : Int} : GE B Z W (tC (.int i)) (cst (.int i)) := ge_cst fun _ => .int i
theorem ge_bl {b : Bool} : GE B Z W (tC (.bl b)) (cst (.bl b)) := ge_cst fun _ => .bl b
theorem ge_non : GE B Z W (tC .non) (cst .non) := ge_cst fun _ => .non
theorem ge_str {z : Str} : GE B Z W (tC (.str z)) (cst (.str z.cps.toList)) := ge_cst fun _ => by
  have := Rp.str (B := B) (G := fun _ => none) z.cps.toList
  exact Rp.str z.cps.toList
/-! ### operators by what is read -/
theorem ge_one {ta : TE} {ma : Ex} (ha : GE B Z W ta ma) {r : V → Hp → VK → Prop} {k : D → Vm.Env → R EV}
    (h : ∀ d v ρ σ G H Q, Rep B Z ρ σ G H → Rr B G H d v → WantE B Z W (k d ρ) ρ σ G H Q → r v H Q) : GE B Z W (fun σ H Q => ta σ H fun x H1 => r x H1 Q) (one ma k) := by
  intro ρ σ G H Q q w
  refine ha.bind q w fun ev v ρ1 G1 H1 r1 s1 p1 w1 => ?_
  cases e : ev.peek ρ1 with
  | none => rw [e] at w1; exact w1.elim
  | some d => rw [e] at w1; exact h d v ρ1 σ G1 H1 Q r1 (p1.peek r1 e) (WantE.to w1 s1 r1)
theorem ge_two {ta tb : TE} {ma mb : Ex} (ha : GE B Z W ta ma) (hb : GE B Z W tb mb) {r : R2} {k : D → D → Vm.Env → R EV}
    (h : ∀ d e v u ρ σ G H Q, Rep B Z ρ σ G H → Rr B G H d v → Rr B G H e u → WantE B Z W (k d e ρ) ρ σ G H Q → r v u H Q) : GE B Z W (tOp r ta tb) (two ma mb k) := by
  intro ρ σ G H Q q w
  refine ha.bind q w fun ev v ρ1 G1 H1 r1 s1 p1 w1 => ?_
  refine hb.bind r1 (Rel := fun ev v ρ' G' H' => RepV B Z H1 ρ' σ G' H' ev v) (WantE.to w1 s1 r1) fun eu u ρ2 G2 H2 r2 s2 p2 w2 => ?_
  have p1' := p1.step s2
  cases e1 : ev.peek ρ2 with
  | none => rw [e1] at w2; exact w2.elim
  | some d =>
    cases e2 : eu.peek ρ2 with
    | none => rw [e1, e2] at w2; exact w2.elim
    | some e => rw [e1, e2] at w2; exact h d e v u ρ2 σ G2 H2 Q r2 (p1'.peek r2 e1) (p2.peek r2 e2) (WantE.to w2 s2 r2)
/-- a pure result -/
theorem w_of {o : Option EV} {Q : VK} (w : WantE B Z W (R.of o ρ) ρ σ G H Q) : ∃ e, o = some e ∧ WantE B Z W (.ok e ρ) ρ σ G H Q := by
  cases o with
  | none => exact w.elim
  | some e => exact ⟨e, rfl, w⟩
end
end Vm

set_option Elab.async false
set_option linter.all false
set_option maxRecDepth 100000
set_option maxHeartbeats 4000000
/-! Exceptions of one's own whose __init__ says super().__init__('..') and then stores its fields. -/
namespace OwnX
open PySem PySem.Spec PyProof.Rows L2

/-- what the written part says of such a class at C and its __init__ at f -/
structure XInit (P : Program) (K : PySem.W.Frag) (mg : Str → Option Value) (C f cda cc : Addr) (qual : Str) (st : Stmt) (fd : FuncData) : Prop where
  ex : ∃ (oc : Value) (od : Option Addr) (kV doc pm : Value) (an : Option Addr) (ct : Value) (osl : Array (Option Value)),
    fd = PySem.W.fnX "__init__" qual (defArgs st) (defBody st) (defScope st) [("__class__", cc)] .none kV doc pm an (.ref cda) ct ∧ K.lookup f = some ⟨oc, od, .func fd, osl⟩
  cd : PySem.W.codeIn K (.ref cda) qual = true
  cell : ∃ cl cld csl, K.lookup cc = some ⟨cl, cld, .cell (some (.ref C)), csl⟩
  code : ∃ ccl cdd vs ccs file tf, K.lookup cda = some ⟨ccl, cdd, .fields vs, ccs⟩ ∧ vs[2]? = some (.str file tf) ∧ ((P.main.file : Str) == file) = true
  sup : PySem.W.ks_superIn K C C "__init__" = some (some (.builtin "ValueError.__init__"))
  sub : PySem.W.mroIn K C (.ref C) = some true
  subV : PySem.W.subIn K (.ref C) (.type "ValueError") = some true
  free : mg "super" = none
  opq : PySem.W.nsIn K cStatics "thirdparty.any" = some none
  top : (P.main.scope.names.lookup ("super" : Str)).isSome = false
  oex : OexC K C

section
variable {prog : Program} {w : World} {A : Around} {E : Value → Shared → Prop} {h : Heap} {g : Array GenState} {d : Drawn} {t : Nat} {os : OsState}
variable {nm q : Str} {C N : Addr} {bs bm : List Value} {hdct : Bool} {sn : List Str} {sub : List Value} {ab : Bool} {col : Option Bool} {dd : Option Addr} {k0 k1 k2 k3 k5 : Option Value}
/-- the bound ValueError.__init__ is called: the exception's args are laid anew -/
theorem call_mw {u e t0 : Addr} {rest : List Value} {Q : Value → Shared → Prop}
    (hC : h.get? C = some (excClassObj nm q C N bs bm hdct sn sub ab col dd k0 k1 k2 k3 k5 "ValueError.__new__")) (he : h.get? e = some (PySem.HandSPX.excO C t0))
    (hu : h.get? u = some (PySem.W.kxs_mw "ValueError.__init__" e)) (hz : rest.length ≤ sizeLine)
    (hq : ∀ h' t1, (∀ b o, b ≠ e → h.get? b = some o → h'.get? b = some o) → h'.get? e = some (PySem.HandSPX.excO C t1) → Q .none ⟨h', g, d, t, os⟩) :
    wpAny (model prog w) A (call (.ref u) rest) Q E ⟨h, g, d, t, os⟩ := by
  refine wpAny_call (codeAny_of_tree ?_)
  show wpAny _ A.in1 (callAny (.ref u) ⟨rest, []⟩) _ _ _
  simp only [callAny]
  refine wpAny_bind (wpAny_load hu ?_)
  simp only [PySem.W.kxs_mw]
  refine PySem.W.KFB.if_so (by decide) ?_
  refine wpAny_bind (PySem.W.check_bound_init (PySem.F.excBase_ValueError).toExcCallFacts hC he rfl ?_)
  refine wpAny_bind (wpAny_pure (wpAny_pure ⟨Code.quiet_builtin _ (by decide +kernel), ?_⟩))
  refine codeAny_builtin (PySem.F.excBase_ValueError).initEntry ?_
  rw [Around.under_plainId (PySem.F.excBase_ValueError).init.plain _]
  wp_walk
  refine hq _ h.objs.size (fun b o hb ho => ?_) ?_
  · rw [Heap.get?_update_other _ _ (Ne.symm hb)]
    exact Heap.get?_push_of_some _ ho
  · rw [Heap.get?_update_self _ (Heap.get?_push_of_some _ he) rfl]
    rfl
end

/-- the def's words -/
abbrev xnf (qual : Str) (st : Stmt) (cc cda : Addr) : NdefX.NF := ⟨"__init__", qual, defArgs st, defBody st, defScope st, [("__class__", cc)], cda⟩
section
variable {P : Program} {w : World} {K : PySem.W.Frag} {mg : Str → Option Value} {base : Heap} {N ps : List Str} {qual : Str} {st : Stmt} {f C cda cc : Addr} {fd : FuncData} {k : Nat} {sp : Sp} {rest : List Stmt} {x0 : Str} {par : Arg} {z : Str} {j0 : Nat} {p0 p1 p2 p3 p4 p5 : Pos}
/-- THE RULE: super().__init__('..') is done; what is left is a body -/
theorem fn_xinit (T : XInit P K mg C f cda cc qual st fd) (S : NdefX.NScope N (x0 :: ps) ["__class__"] (defScope st)) (hb : Binds K fd (x0 :: ps) [])
    (hst : defBody st = .Expr (.Call (.Attribute (.Call (.Name "super" p0) [] [] p1) "__init__" p2) [.Constant (.str z) j0 p3] [] p4) p5 :: rest)
    (hc : ∃ pl : Env → Sem Bool, ∀ env : Env, eval (.Call (.Attribute (.Call (.Name "super" p0) [] [] p1) "__init__" p2) [.Constant (.str z) j0 p3] [] p4) env = (do
      let ov ← attributeBase (.Call (.Name "super" p0) [] [] p1) "__init__" env (eval (.Call (.Name "super" p0) [] [] p1) env)
      standAt p2.atName
      let (g, first) ← holding [ov] (getMethod ov "__init__" (pl env))
      callWith p4 g first (backTo p4 (starEach [.Constant (.str z) j0 p3] env)) []))
    (hpar : ((defArgs st).posonlyargs ++ (defArgs st).args).head? = some par) (hp0 : par.arg = x0) (hks : (defScope st).names.lookup ("super" : Str) = some .globalImplicit)
    (len : ∀ vs H Q E, sp vs H Q E → vs.length = (x0 :: ps).length)
    (self : ∀ vs H Q E, sp vs H Q E → ∃ a xs, vs = .ref a :: xs ∧ H a = some (exo a C none))
    (body : ∀ (A : Around) (o : List Env) (s : Shared) (H : Hp) (vs : List V) (Q : VK) (E : XK), sp vs H Q E →
      ∃ t, PSs (NdefX.ncx CX0 P w K mg base N (xnf qual st cc cda) f A o s H E) rest t ∧ t { nx := fun _ H' => Q .non H', rt := Q } (NdefX.startF N vs [some (.ref C)]) H) : FnOk P w K mg base CX0 (k + 1) f fd (x0 :: ps) sp := by
  refine ⟨len, fun A o s H args us vs Q E hr e0 hbind r hs => ?_⟩
  obtain ⟨oc, od, kV, doc, pm, an, ct, osl, rfl, lk⟩ := T.ex
  obtain ⟨a, xs, rfl, ha⟩ := self _ _ _ _ hs
  have n1 := len _ _ _ _ hs
  have kin : K.In s.heap := e0.mod.kin.keeps fun b x y => (e0.bs b x y).1
  have nolim : s.heap.NoLimit := e0.mod.nolimit.keeps fun b x y => (e0.bs b x y).1
  obtain ⟨cl, cld, csl, hcell⟩ := T.cell
  obtain ⟨ccl, cdd, fv, ccs, file, tf, hcode, hv2, hfile⟩ := T.code
  have hin : ∀ {b : Addr} {x : Obj}, K.lookup b = some x → H b = none := fun {b x} y => (e0.bs b x (e0.mod.kin _ _ y)).2
  have cells : NdefX.CellsAt [("__class__", cc)] ["__class__"] [some (.ref C)] s.heap H := by
    have one : ∀ y c, ([(("__class__" : Str), cc)]).lookup y = some c → y = "__class__" ∧ c = cc := fun y c e => by
      have m := PySem.mem_of_lookup e
      simp only [List.mem_singleton, Prod.mk.injEq] at m
      exact m
    refine ⟨rfl, fun y c e => ?_, fun x y c e1 e2 => (one _ _ e1).1.trans (one _ _ e2).1.symm, fun i y e => ?_⟩
    · obtain ⟨rfl, rfl⟩ := one y c e
      exact ⟨hin hcell, some (.ref C), _, kin _ _ hcell, rfl⟩
    · have e' : y = "__class__" ∧ i = 0 := by
        cases i with
        | zero => exact ⟨(Option.some.inj e).symm, rfl⟩
        | succ i => simp at e
      obtain ⟨rfl, rfl⟩ := e'
      refine ⟨cc, by simp [List.lookup], fun v e => ?_⟩
      obtain rfl : V.ref C = v := by simpa using e
      exact ⟨.ref C, rfl, _, kin _ _ hcell, rfl⟩
  refine PySem.ks_codeAny_call_defAt hr.depth (kin _ _ lk) rfl nolim (PySem.W.codeRec_of kin T.cd) rfl hbind S.nocell (fun y hy => S.par y.1 (List.of_mem_zip hy).1) (fun h0 hns hk => ?_) S.co S.gen S.kind
  have I0 := NdefX.inv_startN (CX := CX0) (F := xnf qual st cc cda) (f := f) (N := N) (E := E) (mg := mg) (tk := s.toks + ((x0 :: ps).zip us).length) S hr.hd e0 n1 r cells hns hk
  obtain ⟨t, ht, hq⟩ := body A o s H (.ref a :: xs) Q E hs
  generalize hX : NdefX.ncx CX0 P w K mg base N (xnf qual st cc cda) f A o s H E = X at I0 ht
  obtain ⟨t0, hexo⟩ := exo_at I0.hok ha
  obtain ⟨nm, q, NN, bs, bm, sn, sub, ab, col, dd, k0, k1, k2, k3, k5, hC, hbm⟩ := T.oex.cls
  have hCcls : ∃ cd, PySem.W.clsIn K C = some cd ∧ (excClassObj nm q C NN bs bm true sn sub ab col dd k0 k1 k2 k3 k5 "ValueError.__new__").data = .cls cd := by
    unfold PySem.W.clsIn
    rw [hC]
    exact ⟨_, rfl, rfl⟩
  obtain ⟨cd, hcd, hdata⟩ := hCcls
  cases r with
  | @cons _ u0 _ us' r0 r' =>
  obtain rfl : u0 = Value.ref a := r0
  have nd : (x0 :: ps).Nodup := by
    have z : (List.take ((x0 :: ps).length + (["__class__"] : List Str).length) N).Nodup := S.nd.sublist (List.take_sublist _ _)
    rw [S.pre] at z
    exact (List.nodup_append.mp z).1
  have hself : (((x0 :: ps).zip (Value.ref a :: us')).reverse).lookup x0 = some (.ref a) := NdefX.zip_look (i := 0) nd rfl rfl
  have Xk : X.K = K := by rw [← hX]; rfl
  have Xp : X.prog = P := by rw [← hX]; rfl
  have Xw : X.w = w := by rw [← hX]; rfl
  have kin1 : K.In h0 := by
    have z := I0.kIn
    rw [Xk] at z
    exact z
  show _root_.PySem.wpAt (model P w) (A.deeper (NdefX.envF (xnf qual st cc cda) f s.heap.objs.size)) (.func (defBody st) (NdefX.envF (xnf qual st cc cda) f s.heap.objs.size)) (execs (defBody st) (NdefX.envF (xnf qual st cc cda) f s.heap.objs.size)) _ _ _
  rw [show execs (defBody st) (NdefX.envF (xnf qual st cc cda) f s.heap.objs.size) = execs (Stmt.Expr (.Call (.Attribute (.Call (.Name "super" p0) [] [] p1) "__init__" p2) [.Constant (.str z) j0 p3] [] p4) p5 :: rest) (NdefX.envF (xnf qual st cc cda) f s.heap.objs.size) from by rw [hst]]
  obtain ⟨pl, hc⟩ := hc
  refine ks_wpAt_execs_cons (ks_wpAt_Expr_any (ks_wpAt_MethodCall ?_ (hc _)) (by
    unfold interactive
    rw [show (NdefX.envF (xnf qual st cc cda) f s.heap.objs.size).scope.kind = .function from S.kind]
    rfl))
  have hkc : (defScope st).names.lookup ("__class__" : Str) = some .free := S.frk _ (List.mem_singleton.mpr rfl)
  have hka : (defScope st).names.lookup x0 = some .local := S.par _ List.mem_cons_self
  obtain ⟨mb, hmb, hbb⟩ := e0.mod.blt
  have bk : ∀ b x, base.get? b = some x → h0.get? b = some x := fun b x y => hk b x (e0.bs b x y).1
  refine ks_wpAt_super_base (env := NdefX.envF (xnf qual st cc cda) f s.heap.objs.size) hks hkc (by decide) rfl (kin1 _ _ lk) rfl hpar rfl (kin1 _ _ hcode) rfl hv2 hfile T.top ?_
  refine PySem.W.ks_loadName_global S.kind hks (Calls.loadGlobal_builtin (env := NdefX.envF (xnf qual st cc cda) f s.heap.objs.size) (e0.mod.glob.keeps bk) T.free (hmb.keeps bk) ((hbb "super" (by decide +kernel)).trans (by decide +kernel : bootBuiltins "super" = some (.type "super"))) ⟨rfl, ?_⟩)
  refine wpAny_loadName_free S.kind hkc rfl ⟨_, kin1 _ _ hcell, rfl⟩ ?_
  rw [hp0]
  refine wpAny_loadName_local S.kind hka hns hself ?_
  refine ks_wpAny_isType_cls (kin1 _ _ hC) hdata ⟨rfl, ?_⟩
  refine ks_wpAny_call_super (kin1 _ _ hC) hdata hexo rfl (fun c e => by cases e) (PySem.W.looks_mroIn kin1 T.sub) (fun h' hso hk' => ?_)
  have kin2 : K.In h' := kin1.keeps hk'
  have J : PySem.W.InstAt h' a _ C none := ⟨hk' _ _ hexo, rfl, rfl, trivial⟩
  have hsup := T.sup
  unfold PySem.W.ks_superIn at hsup
  rw [hcd] at hsup
  have hmro : PySem.W.Looks (model P w) h' (mroOf (.ref C)) cd.mro := fun A Q E s k y => wpAny_bind ((PySem.W.looks_clsIn kin2 hcd) A _ E s k (wpAny_pure y))
  refine PySem.W.kxs_getMethod PySem.W.kxs_ValueError hso (PySem.W.looks_opaque kin2 T.opq) hmro rfl kin2 hsup (J.type.andThen (PySem.W.looks_subIn kin2 T.subV)) (PySem.W.ks_ne kin2 J hcd) (by decide) ?_
  refine PySem.W.kxs_callWith (i := "ValueError.__init__") (x := a) (by rfl) ?_
  have hmw : (h'.push (PySem.W.kxs_mw "ValueError.__init__" a)).get? h'.objs.size = some (PySem.W.kxs_mw "ValueError.__init__" a) := Heap.get?_push_size _ rfl
  have k2 : ∀ b x, h0.get? b = some x → (h'.push (PySem.W.kxs_mw "ValueError.__init__" a)).get? b = some x := fun b x y => Heap.get?_push_of_some _ (hk' b x y)
  refine Calls.evalArgs_plain (Calls.spliced_cons (Calls.Constant_str (k := j0) (pos := p3) (Calls.spliced_nil ⟨hmw, ?_⟩)))
  refine call_mw (k2 _ _ (kin1 _ _ hC)) (k2 _ _ hexo) hmw (by rw [sizeLine_eq]; show 1 ≤ 16777216; decide) fun h3 t1 kk hx => ?_
  have I1 := I0.kept (t' := s.toks + ((x0 :: ps).zip (Value.ref a :: us')).length + 1 + 1) k2
  have mu : Mut (H a) := by rw [ha]; exact True.intro
  have J3 := I1.write (t' := s.toks + ((x0 :: ps).zip (Value.ref a :: us')).length + 1 + 1) (x := a) (e := a) (o := exo a C none) mu (.inl rfl) kk ⟨_, hx⟩ (exo_ok hx)
  have eu : upd H a (exo a C none) = H := by
    funext b
    by_cases hb : b = a
    · rw [hb, upd_same, ha]
    · rw [upd_ne hb]
  rw [eu] at J3
  subst hX
  refine wpAt_of_wpAny ?_
  refine wpAny_mono (ht.run [] _ _ H _ J3 hq) (fun fl s' hs' => ?_) fun e s' y => y
  cases fl with
  | ret u =>
    obtain ⟨v, σ', H', J, rv, q⟩ := hs'
    exact ⟨v, H', J.os, J.bare, J.base, J.hok, rv, q⟩
  | next =>
    obtain ⟨σ', H', J, q⟩ := hs'
    exact ⟨V.non, H', J.os, J.bare, J.base, J.hok, rfl, q⟩
  | brk =>
    obtain ⟨_, _, _, q⟩ := hs'
    exact q.elim
  | cont =>
    obtain ⟨_, _, _, q⟩ := hs'
    exact q.elim
end
end OwnX

set_option Elab.async false
set_option linter.all false
set_option maxRecDepth 100000
set_option maxHeartbeats 2000000
/-! A head by any Bool over the written part, and the defs told by where they stand (a class's methods, class methods, properties, the __init__ of an error). -/
namespace MH
open PySem PySem.Spec PyProof.Rows L2

abbrev Fg := PySem.W.Frag
abbrev At := Fg → Addr
/-! ### where things stand -/
def gl (x : Str) : At := fun K => He.ga K x
def mt (x m : Str) : At := fun K => He.ma K (He.ga K x) m
/-- what a record (a class method, a static method, a property) holds first -/
def inner (T : String) (p : At) : At := fun K => match PySem.W.recIn K (p K) T with
  | some (.ref g :: _) => g
  | _ => 0
def cm (x m : Str) : At := inner "classmethod" (mt x m)
def sm (x m : Str) : At := inner "staticmethod" (mt x m)
def pr (x m : Str) : At := inner "property" (mt x m)
/-- the cell __class__ of a def -/
def cellOf (p : At) : At := fun K => match K.lookup (p K) with
  | some ⟨_, _, .func fd, _⟩ => (match fd.closure with
    | [(_, c)] => c
    | _ => 0)
  | _ => 0
def codeAt (p : At) : At := fun K => match K.lookup (p K) with
  | some ⟨_, _, .func fd, _⟩ => (match fd.code with
    | .ref c => c
    | _ => 0)
  | _ => 0

/-! ### the defs -/
structure DefM where
  at_ : At
  name : Str
  qual : Str
  params : Arguments
  body : List Stmt
  scope : Scope
  dfl : List He.Dv := []
  kwd : List (Str × He.Dv) := []
  caps : List Str := []
abbrev FnV : Type := Option (Str × Str × Arguments × FuncBody × Scope × Addr × List Str × Addr)
def fnV (K : Fg) (a : Addr) : FnV := match K.lookup a with
  | some ⟨_, _, .func fd, _⟩ => some (fd.name, fd.qualname, fd.params, fd.body, fd.scope, fd.globals, fd.closure.map (·.1), fd.builtins)
  | _ => none
def DefM.val (d : DefM) : FnV := some (d.name, d.qual, d.params, .stmts d.body, d.scope, mainGlobals, d.caps, builtinsNs)
def DefM.dvs (K : Fg) (d : DefM) : List V := d.dfl.map (He.Dv.v K)
def DefM.kws (K : Fg) (d : DefM) : List (Str × V) := d.kwd.map fun q => (q.1, q.2.v K)
def DefM.ok (K : Fg) (d : DefM) : Bool := PySem.W.keepIn K (.ref (d.at_ K)) && (match K.lookup (d.at_ K) with
  | some ⟨_, _, .func fd, _⟩ => PySem.W.codeIn K fd.code d.qual && (He.dflB K fd.defaults (d.dvs K) && He.kwdB K fd.kwdefaults (d.kws K))
  | _ => false)
theorem two {a b : Bool} (h : (a && b) = true) : a = true ∧ b = true := by
  cases a
  · cases h
  · exact ⟨rfl, h⟩
/-- any def that captures the names caps -/
theorem DefM.any {K : Fg} {d : DefM} (e : fnV K (d.at_ K) = d.val) (c : d.ok K = true) : ∃ (oc : Value) (od : Option Addr) (cl : List (Str × Addr)) (dV kV doc pm : Value) (an : Option Addr) (cdv ct : Value) (osl : Array (Option Value)),
    cl.map (·.1) = d.caps ∧ K.lookup (d.at_ K) = some ⟨oc, od, .func (PySem.W.fnX d.name d.qual d.params d.body d.scope cl dV kV doc pm an cdv ct), osl⟩ ∧ PySem.W.codeIn K cdv d.qual = true ∧ DflV K dV (d.dvs K) ∧ KwdV K kV (d.kws K) ∧ PySem.W.keepIn K (.ref (d.at_ K)) = true := by
  unfold fnV at e
  unfold DefM.ok at c
  obtain ⟨kp, c⟩ := two c
  revert e c
  cases K.lookup (d.at_ K) with
  | none => exact fun _ c => nomatch c
  | some o =>
    obtain ⟨oc, od, dt, osl⟩ := o
    cases dt with
    | func fd =>
      intro e c
      obtain ⟨n1, n2, n3, n4, n5, n6, n7, n8, n9, n10, n11, n12, n13, n14, n15⟩ := fd
      obtain ⟨c1, c2⟩ := two c
      obtain ⟨c2, c3⟩ := two c2
      have e' := Option.some.inj e
      simp only [Prod.mk.injEq] at e'
      obtain ⟨h1, h2, h3, h4, h5, h6, h7, h8⟩ := e'
      subst h1 h2 h3 h4 h5 h6 h8
      exact ⟨oc, od, n7, n8, n9, n10, n11, n12, n13, n14, osl, h7, rfl, c1, He.dflB_ok c2, He.kwdB_ok c3, kp⟩
    | _ => exact fun _ c => nomatch c
theorem DefM.funD {K : Fg} {d : DefM} (h0 : d.caps = []) (e : fnV K (d.at_ K) = d.val) (c : d.ok K = true) : ∃ fd, FunD K d.name d.qual d.params d.body d.scope (d.dvs K) (d.kws K) (d.at_ K) fd := by
  obtain ⟨oc, od, cl, dV, kV, doc, pm, an, cdv, ct, osl, h1, h2, h3, h4, h5, h6⟩ := d.any e c
  rw [h0] at h1
  obtain rfl := List.map_eq_nil_iff.mp h1
  exact ⟨_, ⟨oc, od, dV, kV, doc, pm, an, cdv, ct, osl, rfl, h2, h3, h4, h5⟩, h6⟩

/-! ### the Hook -/
def asM (g : Addr → Option Obj) : Nat → List Addr
  | 0 => [mainGlobals, cStatics]
  | n + 1 => He.growD g (asM g n)
abbrev AlM : Type := Bool × Bool × List FnV
def obsM (ex : List (Fg → Bool)) (fn : List DefM) (K : Fg) : AlM := (ex.all fun f => f K, fn.all fun d => d.ok K, fn.map fun d => fnV K (d.at_ K))
def valM (fn : List DefM) : AlM := (true, true, fn.map DefM.val)
def Says (ex : List (Fg → Bool)) (fn : List DefM) (K : Fg) : Prop := obsM ex fn K = valM fn
def obsG (n : Nat) (ex : List (Fg → Bool)) (fn : List DefM) (g : Addr → Option Obj) : AlM := obsM ex fn (He.frG g (asM g n))
def hook (n : Nat) (ex : List (Fg → Bool)) (fn : List DefM) : PySem.W.Hook where
  α := AlM
  obs := fun s => obsG n ex fn s.heap.get?
  val := fun _ => valM fn
  says := fun _ h => ∃ K : Fg, K.In h ∧ Says ex fn K
  of := fun _ _ e => ⟨_, He.frG_in, e⟩
  keeps := fun _ _ _ ⟨K, hK, c⟩ k => ⟨K, hK.keeps k, c⟩
theorem obs_eq {n : Nat} {ex : List (Fg → Bool)} {fn : List DefM} {s : PySem.W.SharedT} : obsG n ex fn (HandSHeadRun.getT s) = (hook n ex fn).obs s.abs := by
  have e : HandSHeadRun.getT s = s.abs.heap.get? := funext (HandSHeadRun.getT_eq s)
  rw [e]
  rfl
section
variable {ex : List (Fg → Bool)} {fn : List DefM} {K : Fg}
theorem Says.fact (c : Says ex fn K) (i : Nat) {f : Fg → Bool} (h : ex[i]? = some f := by rfl) : f K = true := by
  have z : (ex.all fun f => f K) = true := congrArg Prod.fst c
  exact List.all_eq_true.mp z f (List.mem_of_getElem? h)
theorem Says.raw (c : Says ex fn K) (i : Nat) {d : DefM} (h : fn[i]? = some d := by rfl) : fnV K (d.at_ K) = d.val ∧ d.ok K = true := by
  have z : (fn.all fun d => d.ok K) = true := congrArg (fun q : AlM => q.2.1) c
  have y : (fn.map fun d => fnV K (d.at_ K)) = fn.map DefM.val := congrArg (fun q : AlM => q.2.2) c
  have y2 := congrArg (fun l => l[i]?) y
  simp only [List.getElem?_map, h, Option.map_some] at y2
  exact ⟨Option.some.inj y2, List.all_eq_true.mp z d (List.mem_of_getElem? h)⟩
theorem Says.fun_ (c : Says ex fn K) (i : Nat) {d : DefM} (h : fn[i]? = some d := by rfl) (h0 : d.caps = [] := by rfl) : ∃ fd, FunD K d.name d.qual d.params d.body d.scope (d.dvs K) (d.kws K) (d.at_ K) fd :=
  let ⟨a, b⟩ := c.raw i h
  DefM.funD h0 a b
end

/-! ### facts as Bools -/
def isV (a b : Option (Option Value)) : Bool := decide (a = b)
/-- the module has no such name -/
def fFree (x : Str) : Fg → Bool := fun K => isV (PySem.W.nsIn K mainGlobals x) (some none)
def fGlo (x : Str) : Fg → Bool := fun K => isV (PySem.W.nsIn K mainGlobals x) (some (some (.ref (He.ga K x))))
/-- a class of instances with dicts -/
def fCls (x : Str) : Fg → Bool := fun K => PySem.W.plainGet K (He.ga K x) Str.empty && (PySem.W.hasDictIn K (He.ga K x) && (PySem.W.plainOver K (He.ga K x) && isV (PySem.W.findIn K (.ref (He.ga K x)) "__setattr__") (some (some (.builtin "object.__setattr__")))))
def fNoAt (x f : Str) : Fg → Bool := fun K => isV (PySem.W.findIn K (.ref (He.ga K x)) f) (some none)
def fMeth (x m : Str) : Fg → Bool := fun K => isV (PySem.W.findIn K (.ref (He.ga K x)) m) (some (some (.ref (He.ma K (He.ga K x) m)))) && (PySem.W.isFn K (.ref (He.ma K (He.ga K x) m)) && PySem.W.keepIn K (.ref (He.ma K (He.ga K x) m)))
def fMk (x : Str) : Fg → Bool := fun K => PySem.W.makesIn K (He.ga K x) && PySem.W.keepIn K (.ref (He.ga K x))
def fFirst (x : Str) : Fg → Bool := fun K => PySem.W.selfFirst K (He.ga K x)
section
variable {K : Fg} {h : Heap} {mg : Str → Option Value} {x m f : Str}
theorem free_of (X : K.In h) (G : h.Ns mainGlobals mg) (c : fFree x K = true) : mg x = none := PySem.W.mg_none_of X G (of_decide_eq_true c)
theorem glo_of (X : K.In h) (G : h.Ns mainGlobals mg) (c : fGlo x K = true) : mg x = some (.ref (He.ga K x)) := PySem.W.mg_of X G (of_decide_eq_true c)
theorem cls_of (c : fCls x K = true) : Cls K (He.ga K x) := by
  obtain ⟨a, c⟩ := two c
  obtain ⟨b, c⟩ := two c
  obtain ⟨c, d⟩ := two c
  exact ⟨a, b, c, of_decide_eq_true d⟩
theorem noAt_of (c : fNoAt x f K = true) : NoAttr K (He.ga K x) f := by
  unfold NoAttr
  exact of_decide_eq_true c
theorem meth_of (c : fMeth x m K = true) : Meth K (He.ga K x) m (mt x m K) := by
  obtain ⟨a, c⟩ := two c
  obtain ⟨b, c⟩ := two c
  exact ⟨of_decide_eq_true a, b, c⟩
theorem mk_of (c : fMk x K = true) (d : fMeth x "__init__" K = true) : Mk K (He.ga K x) (mt x "__init__" K) := by
  obtain ⟨a, b⟩ := two c
  have M := meth_of d
  exact ⟨a, M.at_, M.fn, b⟩
end

/-! ### errors -/
/-- an error class of one's own (over ValueError, through classes of one's own) -/
def fOex (x : Str) : Fg → Bool := fun K => (match K.lookup (He.ga K x) with
  | some ⟨.type "type", _, .cls cd, sl⟩ => (match cd.mro, sl.toList with
    | .ref b :: bm, [_, _, _, _, some (.builtin n), _] => decide (b = He.ga K x) && (decide (n = "ValueError.__new__") && (!cd.hasDel && (cd.hasDict && PySem.HandSPX.refsVE bm)))
    | _, _ => false)
  | _ => false) && (isV (PySem.W.findIn K (.ref (He.ga K x)) "__setattr__") (some (some (.builtin "object.__setattr__"))) && (decide (PySem.W.subIn K (.ref (He.ga K x)) (.type "BaseException") = some true) &&
    (decide (PySem.W.typeIn K (.ref (He.ga K x)) = some (.type "type")) && PySem.W.keepIn K (.ref (He.ga K x)))))
theorem oex_of {K : Fg} {x : Str} (c : fOex x K = true) : OexC K (He.ga K x) := by
  obtain ⟨a, c⟩ := two c
  obtain ⟨b, c⟩ := two c
  obtain ⟨c, d⟩ := two c
  obtain ⟨d, e⟩ := two d
  refine ⟨?_, of_decide_eq_true b, of_decide_eq_true c, of_decide_eq_true d, e⟩
  revert a
  split
  · rename_i dd cd sl ho
    split
    · rename_i b' bm k0 k1 k2 k3 n k5 hm hs
      intro a
      obtain ⟨a1, a⟩ := two a
      obtain ⟨a2, a⟩ := two a
      obtain ⟨a3, a⟩ := two a
      obtain ⟨a4, a5⟩ := two a
      obtain rfl := of_decide_eq_true a1
      obtain rfl := of_decide_eq_true a2
      obtain ⟨nm, bs, mro, ns, qn, hd, sn, sub, ab, col, del⟩ := cd
      simp only [Bool.not_eq_true'] at a3
      simp only at hm a3 a4
      subst hm a3 a4
      have e : sl = #[k0, k1, k2, k3, some (.builtin "ValueError.__new__"), k5] := by
        obtain ⟨l⟩ := sl
        simp only at hs
        rw [hs]
      subst e
      exact ⟨nm, qn, ns, bs, bm, sn, sub, ab, col, dd, k0, k1, k2, k3, k5, ho, a5⟩
    · exact fun a => nomatch a
  · exact fun a => nomatch a
/-- what an __init__ with super() leans on besides -/
def fXin (x : Str) (file : Str) : Fg → Bool := fun K => (match K.lookup (cellOf (mt x "__init__") K) with
  | some ⟨_, _, .cell (some (.ref a)), _⟩ => decide (a = He.ga K x)
  | _ => false) && ((match K.lookup (codeAt (mt x "__init__") K) with
  | some ⟨_, _, .fields vs, _⟩ => (match (vs[2]? : Option Value) with
    | some (Value.str z _) => decide (z = file)
    | _ => false)
  | _ => false) && (isV (PySem.W.ks_superIn K (He.ga K x) (He.ga K x) "__init__") (some (some (.builtin "ValueError.__init__"))) && (decide (PySem.W.mroIn K (He.ga K x) (.ref (He.ga K x)) = some true) &&
    (decide (PySem.W.subIn K (.ref (He.ga K x)) (.type "ValueError") = some true) && isV (PySem.W.nsIn K cStatics "thirdparty.any") (some none)))))
theorem xin_of {P : Program} {K : Fg} {mg : Str → Option Value} {x : Str} {d : DefM} {st : Stmt} (o : OexC K (He.ga K x)) (c : fXin x P.main.file K = true) (g : mg "super" = none) (t : (P.main.scope.names.lookup ("super" : Str)).isSome = false)
    (e : fnV K (d.at_ K) = d.val) (k : d.ok K = true) (h0 : d.caps = [("__class__" : Str)]) (h1 : d.at_ = mt x "__init__") (h2 : d.name = "__init__") (h3 : d.params = defArgs st) (h4 : d.body = defBody st) (h5 : d.scope = defScope st) (h6 : d.dfl = []) :
    ∃ fd, OwnX.XInit P K mg (He.ga K x) (mt x "__init__" K) (codeAt (mt x "__init__") K) (cellOf (mt x "__init__") K) d.qual st fd ∧
      ∃ (kV doc pm : Value) (an : Option Addr) (ct : Value), fd = PySem.W.fnX "__init__" d.qual (defArgs st) (defBody st) (defScope st) [("__class__", cellOf (mt x "__init__") K)] .none kV doc pm an (.ref (codeAt (mt x "__init__") K)) ct := by
  obtain ⟨c1, c⟩ := two c
  obtain ⟨c2, c⟩ := two c
  obtain ⟨c3, c⟩ := two c
  obtain ⟨c4, c⟩ := two c
  obtain ⟨c5, c6⟩ := two c
  obtain ⟨oc, od, cl, dV, kV, doc, pm, an, cdv, ct, osl, q1, q2, q3, q4, q5, q6⟩ := d.any e k
  rw [h0] at q1
  obtain ⟨cc, rfl⟩ : ∃ cc : Addr, cl = [(("__class__" : Str), cc)] := by
    cases cl with
    | nil => cases q1
    | cons y r =>
      cases r with
      | nil =>
        obtain ⟨y1, y2⟩ := y
        simp only [List.map_cons, List.map_nil, List.cons.injEq, and_true] at q1
        rw [q1]
        exact ⟨y2, rfl⟩
      | cons _ _ => simp at q1
  have hdv : d.dvs K = [] := by
    unfold DefM.dvs
    rw [h6]
    rfl
  rw [hdv] at q4
  have q4' : dV = .none := by
    rcases q4 with ⟨_, z⟩ | ⟨z, _⟩
    · exact z
    · exact absurd rfl z
  subst q4'
  rw [h1] at q2 q6
  rw [h2, h3, h4, h5] at q2
  have ec : cellOf (mt x "__init__") K = cc := by
    unfold cellOf
    rw [q2]
  have ed : ∃ c, cdv = .ref c ∧ codeAt (mt x "__init__") K = c := by
    cases cdv with
    | ref c =>
      refine ⟨c, rfl, ?_⟩
      unfold codeAt
      rw [q2]
    | _ => cases q3
  obtain ⟨c, rfl, ed⟩ := ed
  rw [ec, ed]
  rw [ec] at c1
  rw [ed] at c2
  refine ⟨_, ⟨⟨oc, od, kV, doc, pm, an, ct, osl, rfl, q2⟩, q3, ?_, ?_, of_decide_eq_true c3, of_decide_eq_true c4, of_decide_eq_true c5, g, of_decide_eq_true c6, t, o⟩, kV, doc, pm, an, ct, rfl⟩
  · revert c1
    split
    · rename_i a b c d e
      intro c1
      have z := of_decide_eq_true c1
      subst z
      exact ⟨_, _, _, e⟩
    · exact fun z => nomatch z
  · revert c2
    split
    · rename_i a b vs d e
      split
      · rename_i z tk hz
        intro c2
        have y := of_decide_eq_true c2
        subst y
        exact ⟨_, _, vs, _, _, tk, e, hz, by simp⟩
      · exact fun z => nomatch z
    · exact fun z => nomatch z
end MH

set_option Elab.async false
set_option linter.all false
set_option maxRecDepth 100000
set_option maxHeartbeats 2000000
/-! Operators of one's own classes over the hand layer: x op y, -x, ~x, x == y, x <= y, y in x, x[i], by the class's own method. -/
namespace OwnO
open PySem PySem.Spec PyProof.Rows L2

/-- the class has the name as a plain def of its own -/
structure Own (K : PySem.W.Frag) (C : Addr) (m : Str) (f : Addr) : Prop where
  at_ : PySem.W.findIn K (.ref C) m = some (some (.ref f))
  fn : PySem.W.isFn K (.ref f) = true

theorem rel_back {Q : Value → Shared → Prop} {u : Value} {v : V} {s : Shared} (r : RelV v u) (h : Q u s) : PySem.W.CmpBack Q u s := by
  cases v <;> first | (cases (show u = _ from r); exact h) | (obtain ⟨t, rfl⟩ := r; exact h)

section
variable {X : Cx} {CX : CXT} {k : Nat} {f C D : Addr} {fd : FuncData} {ps : List Str} {sp : Sp} {dvs : List V} {ds : List Value} {E : XK}

/-- x op y of two instances: the first one's method (which does not give NotImplemented) -/
def rBin (C D : Addr) (sp : Sp) (dvs : List V) (E : XK) : R2 := fun x y H Q => ∃ a b dx dy fs gs, x = .ref a ∧ y = .ref b ∧ H a = some (.ins C dx fs) ∧ H b = some (.ins D dy gs) ∧ sp ([.ref a, .ref b] ++ dvs) H Q E

theorem op_own {op : Operator} (F : FnOk X.prog X.w X.K X.mg X.base CX k f fd ps sp) (hr : Room k X.A) (o : Own X.K C (PySem.dunder op.info.2) f) (hc : PySem.W.selfFirst X.K C = true) (hb : Binds X.K fd ps ds) (hd : Vals dvs ds) (hx : Passes CX X E) :
    OpR X (binaryOp op) (rBin C C sp dvs E) := by
  intro pins s σ H x y v u Q I rx ry hq
  obtain ⟨a, b, dx, dy, fs, gs, rfl, rfl, ha, hb', q⟩ := hq
  cases rx
  cases ry
  obtain ⟨mA, J, _⟩ := ins_get I.hok ha
  obtain ⟨mB, J', _⟩ := ins_get I.hok hb'
  obtain ⟨od, J, _⟩ := J.look
  obtain ⟨od', J', _⟩ := J'.look
  obtain ⟨m, hF⟩ := I.fr
  refine PySem.W.binop_K hF I.ok.mod.kin J J'.type hc o.at_ o.fn ?_
  exact wpAny_mono (run_fn (us := [.ref a, .ref b]) (vs := [.ref a, .ref b]) F hr hb hd hx I (.cons rfl (.cons rfl .nil)) q) (fun r s' h => by
    obtain ⟨z, H', I', rz, q'⟩ := h
    exact rel_back rz ⟨z, H', I', rz, q'⟩) fun _ _ h => h

/-- -x, ~x -/
def rUn (C : Addr) (sp : Sp) (dvs : List V) (E : XK) : V → Hp → VK → Prop := fun x H Q => ∃ a dx fs, x = .ref a ∧ H a = some (.ins C dx fs) ∧ sp ([.ref a] ++ dvs) H Q E
theorem un_own_neg (F : FnOk X.prog X.w X.K X.mg X.base CX k f fd ps sp) (hr : Room k X.A) (o : Own X.K C "__neg__" f) (hb : Binds X.K fd ps ds) (hd : Vals dvs ds) (hx : Passes CX X E) : UnR X (unaryOp .USub) (rUn C sp dvs E) := by
  intro pins s σ H x v Q I rx hq
  obtain ⟨a, dx, fs, rfl, ha, q⟩ := hq
  cases rx
  obtain ⟨mA, J, _⟩ := ins_get I.hok ha
  obtain ⟨od, J, _⟩ := J.look
  obtain ⟨m, hF⟩ := I.fr
  exact PySem.W.ksp_neg hF I.ok.mod.kin J o.at_ o.fn (run_fn (us := [.ref a]) (vs := [.ref a]) F hr hb hd hx I (.cons rfl .nil) q)
theorem un_own_inv (F : FnOk X.prog X.w X.K X.mg X.base CX k f fd ps sp) (hr : Room k X.A) (o : Own X.K C "__invert__" f) (hb : Binds X.K fd ps ds) (hd : Vals dvs ds) (hx : Passes CX X E) : UnR X (unaryOp .Invert) (rUn C sp dvs E) := by
  intro pins s σ H x v Q I rx hq
  obtain ⟨a, dx, fs, rfl, ha, q⟩ := hq
  cases rx
  obtain ⟨mA, J, _⟩ := ins_get I.hok ha
  obtain ⟨od, J, _⟩ := J.look
  obtain ⟨m, hF⟩ := I.fr
  exact PySem.W.ksp_inv hF I.ok.mod.kin J o.at_ o.fn (run_fn (us := [.ref a]) (vs := [.ref a]) F hr hb hd hx I (.cons rfl .nil) q)

/-- what the other side of a comparison may be: an instance of the same class, or a thing of a built-in class that is no subclass -/
def Other (K : PySem.W.Frag) (C : Addr) (y : V) (H : Hp) : Prop :=
  (∃ b dy gs, y = .ref b ∧ H b = some (.ins C dy gs)) ∨ (∃ t, TyOf K H y t ∧ PySem.W.notFirst K C t = true ∧ ∀ (P : Program) (w : World) (h : Heap) (u : Value), HOk P w H h → K.In h → RelV y u → PySem.W.Looks (model P w) h (typeOf u) t)
/-- x == y, x <= y: the first one's method, which gives a bool -/
def rCmp (K : PySem.W.Frag) (C : Addr) (sp : Sp) (dvs : List V) (E : XK) : R2 := fun x y H Q => ∃ a dx fs, x = .ref a ∧ H a = some (.ins C dx fs) ∧ Other K C y H ∧ sp ([.ref a, y] ++ dvs) H Q E
theorem op_cmp {op : CmpOp} (ho : ∀ v u, compareOp op v u = richCompare op v u) (F : FnOk X.prog X.w X.K X.mg X.base CX k f fd ps sp) (hr : Room k X.A) (o : Own X.K C (PySem.cmpInfo op).2.1 f) (hb : Binds X.K fd ps ds) (hd : Vals dvs ds) (hx : Passes CX X E) :
    OpR X (compareOp op) (rCmp X.K C sp dvs E) := by
  intro pins s σ H x y v u Q I rx ry hq
  obtain ⟨a, dx, fs, rfl, ha, ot, q⟩ := hq
  cases rx
  obtain ⟨mA, J, _⟩ := ins_get I.hok ha
  obtain ⟨od, J, _⟩ := J.look
  obtain ⟨m, hF⟩ := I.fr
  rw [ho]
  have run := wpAny_mono (run_fn (us := [.ref a, u]) (vs := [.ref a, y]) F hr hb hd hx I (.cons rfl (.cons ry .nil)) q) (fun r s' h => by
    obtain ⟨z, H', I', rz, q'⟩ := h
    exact rel_back (Q := EP X pins σ Q) rz ⟨z, H', I', rz, q'⟩) fun _ _ h => h
  rcases ot with ⟨b, dy, gs, rfl, hb'⟩ | ⟨t, _, hn, hl⟩
  · cases ry
    obtain ⟨mB, J', _⟩ := ins_get I.hok hb'
    obtain ⟨od', J', _⟩ := J'.look
    exact PySem.W.cmp_K (tb := .ref C) hr.units0 hF I.ok.mod.kin J J'.type (by simp [PySem.W.notFirst]) o.at_ o.fn run
  · exact PySem.W.cmp_K (tb := t) hr.units0 hF I.ok.mod.kin J (hl _ _ _ _ I.hok I.kIn ry) hn o.at_ o.fn run

/-- y in x -/
def rIn (C : Addr) (sp : Sp) (dvs : List V) (E : XK) (neg : Bool) : R2 := fun y x H Q => ∃ a dx fs, x = .ref a ∧ H a = some (.ins C dx fs) ∧ sp ([.ref a, y] ++ dvs) H (fun v H' => ∃ b, v = .bl b ∧ Q (.bl (neg ^^ b)) H') E
theorem op_in_own (F : FnOk X.prog X.w X.K X.mg X.base CX k f fd ps sp) (hr : Room k X.A) (o : Own X.K C "__contains__" f) (hb : Binds X.K fd ps ds) (hd : Vals dvs ds) (hx : Passes CX X E) : OpR X (compareOp .In) (rIn C sp dvs E false) := by
  intro pins s σ H y x v u Q I ry rx hq
  obtain ⟨a, dx, fs, rfl, ha, q⟩ := hq
  cases rx
  obtain ⟨mA, J, _⟩ := ins_get I.hok ha
  obtain ⟨od, J, _⟩ := J.look
  obtain ⟨m, hF⟩ := I.fr
  refine PySem.W.in_K hF I.ok.mod.kin J o.at_ o.fn (wpAny_mono (run_fn (us := [.ref a, v]) (vs := [.ref a, y]) F hr hb hd hx I (.cons rfl (.cons ry .nil)) q) (fun r s' h => ?_) fun _ _ h => h)
  obtain ⟨z, H', I', rz, b, rfl, q'⟩ := h
  cases rz
  exact wpAny_truthy_bool ⟨.bl b, H', I', rfl, by simpa using q'⟩
theorem op_notin_own (F : FnOk X.prog X.w X.K X.mg X.base CX k f fd ps sp) (hr : Room k X.A) (o : Own X.K C "__contains__" f) (hb : Binds X.K fd ps ds) (hd : Vals dvs ds) (hx : Passes CX X E) : OpR X (compareOp .NotIn) (rIn C sp dvs E true) := by
  intro pins s σ H y x v u Q I ry rx hq
  obtain ⟨a, dx, fs, rfl, ha, q⟩ := hq
  cases rx
  obtain ⟨mA, J, _⟩ := ins_get I.hok ha
  obtain ⟨od, J, _⟩ := J.look
  obtain ⟨m, hF⟩ := I.fr
  refine PySem.W.notIn_K hF I.ok.mod.kin J o.at_ o.fn (wpAny_mono (run_fn (us := [.ref a, v]) (vs := [.ref a, y]) F hr hb hd hx I (.cons rfl (.cons ry .nil)) q) (fun r s' h => ?_) fun _ _ h => h)
  obtain ⟨z, H', I', rz, b, rfl, q'⟩ := h
  cases rz
  exact wpAny_truthy_bool ⟨.bl (!b), H', I', rfl, by simpa using q'⟩
end
end OwnO

set_option Elab.async false
set_option linter.all false
set_option maxRecDepth 100000
set_option maxHeartbeats 2000000
/-! Walking objects of one's own classes whose __iter__ hands out iter(self.field). -/
namespace OwnO
open PySem PySem.Spec PyProof.Rows L2

/-- a def's promise that may speak of the heap's size at its entry -/
def FnN (P : Program) (w : World) (K : PySem.W.Frag) (mg : Str → Option Value) (base : Heap) (CX : CXT) (k : Nat) (f : Addr) (sp : Nat → Sp) : Prop :=
  ∀ (A : Around) (o : List Env) (s : Shared) (H : Hp) (us : List Value) (vs : List V) (Q : VK) (E : XK), Room k A → Env0 P w K mg base A o s H → Vals vs us →
    sp s.heap.objs.size vs H Q E → codeAny (model P w) A (.call (.ref f) ⟨us, []⟩) (CR CX o P w H s Q E) s

section
variable {P : Program} {w : World} {K : PySem.W.Frag} {mg : Str → Option Value} {base : Heap}
theorem fnN_of {name qual : Str} {st : Stmt} {k : Nat} {f : Addr} {fd : FuncData} {N ps : List Str} {sp : Nat → Sp} (F : Fun K name qual st f fd) (S : FnScope N ps (defScope st)) (hb : Binds K fd ps [])
    (len : ∀ n vs H Q E, sp n vs H Q E → vs.length = ps.length)
    (body : ∀ (cdv : Value) (A : Around) (o : List Env) (s : Shared) (H : Hp) (vs : List V) (Q : VK) (E : XK), Room k (A.deeper (envOfC qual (defScope st) s.heap.objs.size f cdv)) → sp s.heap.objs.size vs H Q E →
      ∃ t, PSs (cxOf CX0 P w K mg base N qual (defScope st) f cdv A o s H E).nox (defBody st) t ∧ t { nx := fun _ H' => Q .non H', rt := Q } (start N vs) H) : FnN P w K mg base CX0 (k + 1) f sp := by
  intro A o s H us vs Q E hr e0 r hs
  obtain ⟨oc, od, kV, doc, pm, an, cdv, ct, osl, rfl, lk, hcd⟩ := F.ex
  have n1 : vs.length = ps.length := len _ _ _ _ _ hs
  have n2 : us.length = ps.length := by rw [← r.length]; exact n1
  have kin : K.In s.heap := e0.mod.kin.keeps fun b x z => (e0.bs b x z).1
  have nolim : s.heap.NoLimit := e0.mod.nolimit.keeps fun b x z => (e0.bs b x z).1
  have kinds : ∀ y ∈ ps.zip us, (defScope st).names.lookup y.1 = some .local ∨ ((defScope st).names.lookup y.1 = some .cell ∧ ((cellsFrom (s.heap.objs.size + 1) (defScope st).names []).lookup y.1).isSome = true) := by
    rintro ⟨x, v⟩ hy
    rcases S.par x (List.of_mem_zip hy).1 with q | q
    · exact Or.inl q
    · exact Or.inr ⟨q, PySem.W.cellsFrom_some _ _ _ (Or.inl q)⟩
  have bt := hb s us kin (by simpa using n2)
  rw [List.append_nil] at bt
  refine codeAny_call_function hr.depth (kin _ _ lk) rfl S.co S.gen rfl (PySem.W.codeRec_of kin hcd) (bt _ _ _ _ ?_)
  refine wpAny_newFunctionEnv_cells S.kind kinds fun env he s1 x => ?_
  subst he
  refine ⟨nolim.keeps x.toInCall.keep, codeAny_func ?_⟩
  obtain ⟨t, ht, hq⟩ := body cdv A o s H vs Q E (hr.deeper _) hs
  have I0 := inv_start (CX := CX0) (P := P) (w := w) (K := K) (mg := mg) (base := base) (f := f) (E := E) S hr.hd e0 n1 r x
  refine wpAny_mono (ht.nox.run [] s1 (start N vs) H _ I0 hq) (fun fl s' hs' => ?_) fun e s' z => z
  cases fl with
  | ret u =>
    obtain ⟨v, σ', H', J, rv, q⟩ := hs'
    exact ⟨v, H', J.os, J.bare, J.base, J.hok, rv, q⟩
  | next =>
    obtain ⟨σ', H', J, q⟩ := hs'
    exact ⟨V.non, H', J.os, J.bare, J.base, J.hok, rfl, q⟩
  | brk =>
    obtain ⟨_, _, _, q⟩ := hs'
    exact q.elim
  | cont =>
    obtain ⟨_, _, _, q⟩ := hs'
    exact q.elim
end

/-! ### a tracked iterator is forgotten -/
def gone (H : Hp) (a : Addr) : Hp := fun b => if b = a then Option.none else H b
theorem gone_upd {H : Hp} {a : Addr} {o : HO} (h : H a = Option.none) : gone (upd H a o) a = H := by
  funext b
  unfold gone
  by_cases hb : b = a
  · rw [if_pos hb, hb, h]
  · rw [if_neg hb, upd_ne hb]
section
variable {X : Cx} {pins : List (Addr × Obj)} {σ : L2.St} {H : Hp} {s : Shared} {a : Addr} {φ : Heap → Prop}
theorem inv_gone (I : Inv X pins σ (upd H a (.ext φ)) s) (h : H a = Option.none) : Inv X pins σ H s := by
  have same : ∀ b u, upd H a (.ext φ) b = some u → (∀ ψ, u ≠ .ext ψ) → H b = some u := fun b u e n => by
    by_cases hb : b = a
    · rw [hb, upd_same] at e
      exact absurd (Option.some.inj e).symm (n φ)
    · rwa [upd_ne hb] at e
  have hok : HOk X.prog X.w H s.heap := fun b u e => by
    have hb : b ≠ a := fun z => by
      rw [z, h] at e
      cases e
    have z := I.hok b u (by rw [upd_ne hb]; exact e)
    exact z.stay (fun _ _ _ y => y) (fun c y => same c _ y (fun _ q => nomatch q)) fun c xs y => same c _ y fun _ q => nomatch q
  refine I.un (t' := s.toks) ⟨fun _ _ z _ _ _ => z, fun _ x z _ _ _ => ⟨x.slots, z⟩, fun b _ _ z _ => ?_, fun _ x z _ => ⟨x, z⟩, fun b xs z => same b _ z (fun _ q => nomatch q), fun b o x z => same b _ z (fun _ q => nomatch q), fun b ps z => ⟨#[], by rw [same b _ z (fun _ q => nomatch q)]; simp⟩⟩ hok
  by_cases hb : b = a
  · rw [hb]; exact h
  · rwa [upd_ne hb] at z
theorem fp_gone {u : HO} (I : Inv X pins σ (upd H a u) s) (h : H a = Option.none) (hn : X.s_0.heap.objs.size ≤ a) : FpOk X pins H a := by
  refine ⟨h, fun z => ?_, fun z => ?_, .inr hn, fun x c e z => ?_, fun p hp z => ?_⟩
  · have q := I.free
    rw [← z, upd_same] at q
    cases q
  · obtain ⟨_, o, ho, _⟩ := I.ok.funs.mem z
    exact absurd (Nat.lt_of_lt_of_le (Heap.lt_size ho) hn) (Nat.lt_irrefl _)
  · have q := I.freeC x c e
    rw [z, upd_same] at q
    cases q
  · have q := (I.pin p hp).2.1
    rw [z, upd_same] at q
    cases q
end

/-! ### iter(x) -/
def SitO (ty : String) (z : Str) (t : Tok) (it : Addr) : HO := .ext fun h => h.IsStrIter it ty z t 0
/-- iter(x), x a list or a text: a young iterator -/
def rIterY (K : PySem.W.Frag) (n : Nat) : List V → Hp → VK → Prop := fun xs H Q =>
  (∃ (l : Addr) (zs : List V), xs = [.ref l] ∧ SqL K H l zs ∧ ∀ it, H it = Option.none → n ≤ it → Q (.ref it) (upd H it (ItO l it 0))) ∨
  (∃ z : Str, xs = [.str z] ∧ ∀ it ty t, (ty = "str_ascii_iterator" ∨ ty = "str_iterator") → H it = Option.none → n ≤ it → Q (.ref it) (upd H it (SitO ty z t it)))
theorem call_iter_str {prog : Program} {w : World} {A : Around} {E : Value → Shared → Prop} {s : Shared} {z : Str} {t : Tok} {Q : Value → Shared → Prop}
    (h : ∀ ty, (ty = "str_ascii_iterator" ∨ ty = "str_iterator") → Q (.ref s.heap.objs.size) { s with heap := s.heap.push { cls := .type ty, data := .fields #[.str z t, .int 0 0] } }) :
    wpAny (model prog w) A (call (.builtin "iter") [.str z t]) Q E s := by
  refine Calls.call_function_entry (by decide +kernel) (by decide +kernel) PySem.W.kdk_entry_iter (PySem.W.kdk_args_iter _) ?_
  unfold Builtin.«iter»
  refine wpAny_bind (m := someArgs "iter" 1 2 _) (wpAny_of_eq (a := [Value.str z t]) (by first | rfl | kernel_rfl!) ?_)
  show wpAny _ _ (pyIter (.str z t) >>= _) _ _ _
  cases ha : z.cps.all (· < 128)
  · exact wpAny_bind (wpAny_pyIter_wide ha (wpAny_pure ⟨_, rfl, h _ (Or.inr rfl)⟩))
  · exact wpAny_bind (wpAny_pyIter_ascii ha (wpAny_pure ⟨_, rfl, h _ (Or.inl rfl)⟩))
theorem call_iterY {X : Cx} : CallR X (.builtin "iter") (rIterY X.K X.s_0.heap.objs.size) := by
  intro pins s σ H xs us Q I r h
  rcases h with ⟨l, zs, rfl, hq, q⟩ | ⟨z, rfl, q⟩
  · obtain ⟨u, rfl, ru⟩ := vals1 r
    cases ru
    obtain ⟨its, rv, pl, hz⟩ := I.list hq
    refine GNX.call_iter pl.isList ⟨.ref s.heap.objs.size, _, I.laid (t' := s.toks) (fun b u e => Heap.get?_push_of_some _ e) (Nat.le_refl _) (itO_ok (Heap.get?_push_size _ rfl)), rfl, q _ (I.hok.fresh (Nat.le_refl _)) I.sz⟩
  · obtain ⟨u, rfl, ru⟩ := vals1 r
    obtain ⟨t, rfl⟩ := (show ∃ t, u = Value.str z t from ru)
    refine call_iter_str fun ty hty => ⟨.ref s.heap.objs.size, _, I.laid (t' := s.toks) (fun b u e => Heap.get?_push_of_some _ e) (Nat.le_refl _) ?_, rfl, q _ ty t hty (I.hok.fresh (Nat.le_refl _)) I.sz⟩
    have e := Heap.get?_push_size s.heap (o := { cls := .type ty, data := .fields #[.str z t, .int 0 0] }) rfl
    exact ⟨⟨_, e, rfl, rfl⟩, ⟨_, e⟩, fun h1 h2 ⟨o, q1, q2⟩ k => ⟨o, k o q1, q2⟩⟩

/-! ### for x in o -/
/-- what the __iter__ promises: iter(self.f) -/
def spIt (K : PySem.W.Frag) (C : Addr) (fld : Str) (n : Nat) : Sp := fun vs H Q _ => ∃ a dx fs y, vs = [.ref a] ∧ H a = some (.ins C dx fs) ∧ fs.lookup fld = some y ∧ rIterY K n [y] H Q
/-- the walk over o: o.f is a list, or a text -/
def iOwn (K : PySem.W.Frag) (C : Addr) (fld : Str) (te : TE) : TI := fun σ H R => te σ H fun x H1 => ∃ a dx fs y, x = .ref a ∧ H1 a = some (.ins C dx fs) ∧ fs.lookup fld = some y ∧
  ((∃ l, y = .ref l ∧ (∃ xs, SqL K H1 l xs) ∧ R (Itl K l) H1) ∨ (∃ z, y = .str z ∧ R (Its z) H1))
section
variable {X : Cx} {k : Nat} {f C : Addr} {fld : Str} {e tg : Expr} {te : TE}
theorem pi_own (he : PE X e te) (N : FnN X.prog X.w X.K X.mg X.base CX0 k f (spIt X.K C fld)) (hr : Room k X.A) (o : Own X.K C "__iter__" f) : PI X tg e (iOwn X.K C fld te) := by
  refine ⟨fun pins s σ H R I h => ?_⟩
  refine thn (he.run pins s σ H _ I h) fun v s1 ⟨x, H1, I1, r1, a, dx, fs, y, ex, ha, hl, q⟩ => ?_
  subst ex
  cases r1
  obtain ⟨mA, J, _⟩ := ins_get I1.hok ha
  obtain ⟨od, J, _⟩ := J.look
  obtain ⟨m, hF⟩ := I1.fr
  refine PySem.W.owit_iter hF I1.ok.mod.kin J o.at_ o.fn ?_
  have go : ∀ Q : VK, rIterY X.K s1.heap.objs.size [y] H1 Q → wpAny (model X.prog X.w) X.A (call (.ref f) [.ref a]) (EP X pins σ Q) X.xe s1 := fun Q hq => by
    refine wpAny_call (codeAny_mono (N X.A X.stack s1 H1 [.ref a] [.ref a] Q (fun _ _ _ => False) hr I1.env0 (.cons rfl .nil) ⟨a, dx, fs, y, rfl, ha, hl, hq⟩) fun r s' z => ?_)
    cases r with
    | error er => exact z.elim
    | ok fl =>
      cases fl with
      | ret u => exact I1.after z
      | next => exact z.elim
      | brk => exact z.elim
      | cont => exact z.elim
  rcases q with ⟨l, rfl, ⟨xs, hxs⟩, q⟩ | ⟨z, rfl, q⟩
  · refine wpAny_mono (go (fun v H' => ∃ it, v = .ref it ∧ H1 it = Option.none ∧ s1.heap.objs.size ≤ it ∧ H' = upd H1 it (ItO l it 0)) (Or.inl ⟨l, xs, rfl, hxs, fun it h1 h2 => ⟨it, rfl, h1, h2, rfl⟩⟩)) (fun u s2 z => ?_) fun _ _ z => z
    obtain ⟨v, H2, I2, r2, it, rfl, hn, hle, rfl⟩ := z
    cases r2
    have eo := itO_get I2 upd_same
    have st : s2.heap.IsListIter it l 0 := ⟨_, eo, rfl, rfl⟩
    unfold PySem.W.OwitIt
    refine wpAny_specialOf (name := Str.ofString "__next__") ⟨_, eo, rfl⟩ slot_listiter_next.lookup ?_
    have I2' := I2
    unfold ItO at I2'
    exact ⟨it, [it], _, _, H1, rfl, inv_gone I2' hn, turn_list l it, st, fun b hb => by rw [show b = it by simpa using hb]; exact fp_gone I2 hn (Nat.le_trans I1.sz hle), q⟩
  · refine wpAny_mono (go (fun v H' => ∃ it ty t, v = .ref it ∧ (ty = "str_ascii_iterator" ∨ ty = "str_iterator") ∧ H1 it = Option.none ∧ s1.heap.objs.size ≤ it ∧ H' = upd H1 it (SitO ty z t it)) (Or.inr ⟨z, rfl, fun it ty t h0 h1 h2 => ⟨it, ty, t, rfl, h0, h1, h2, rfl⟩⟩)) (fun u s2 zz => ?_) fun _ _ z => z
    obtain ⟨v, H2, I2, r2, it, ty, t, rfl, hty, hn, hle, rfl⟩ := zz
    cases r2
    have eo : s2.heap.IsStrIter it ty z t 0 := (I2.hok it _ upd_same).1
    unfold PySem.W.OwitIt
    have I2' := I2
    unfold SitO at I2'
    have fin : PIE X pins σ tg R (.ref it) s2 := ⟨it, [it], _, _, H1, rfl, inv_gone I2' hn, turn_str it z t ty hty, eo, fun b hb => by rw [show b = it by simpa using hb]; exact fp_gone I2 hn (Nat.le_trans I1.sz hle), q⟩
    rcases hty with rfl | rfl
    · exact wpAny_specialOf (name := Str.ofString "__next__") eo.typeIs F.slot_str_ascii_iterator_next.lookup fin
    · exact wpAny_specialOf (name := Str.ofString "__next__") eo.typeIs F.slot_str_iterator_next.lookup fin
end
end OwnO

set_option Elab.async false
set_option linter.all false
set_option maxRecDepth 100000
set_option maxHeartbeats 2000000
/-! len(o), the truth of o, C(..) by a local name that holds the class, o[i]: all by the class's own methods. -/
namespace OwnO
open PySem PySem.Spec PyProof.Rows L2

section
variable {X : Cx} {CX : CXT} {k : Nat} {f C D : Addr} {fd : FuncData} {ps : List Str} {sp : Sp} {dvs : List V} {ds : List Value} {E : XK}

/-- len(o) -/
def rLenO (C : Addr) (sp : Sp) (dvs : List V) (E : XK) : List V → Hp → VK → Prop := fun xs H Q => ∃ a dx fs, xs = [.ref a] ∧ H a = some (.ins C dx fs) ∧
  sp ([.ref a] ++ dvs) H (fun v H' => ∃ n : Int, v = .int n ∧ 0 ≤ n ∧ n < 2 ^ 63 ∧ Q (.int n) H') E
theorem call_len_own (F : FnOk X.prog X.w X.K X.mg X.base CX k f fd ps sp) (hr : Room (k + 1) X.A) (o : Own X.K C "__len__" f) (hb : Binds X.K fd ps ds) (hd : Vals dvs ds) (hx : Passes CX X E) :
    CallR X (.builtin "len") (rLenO C sp dvs E) := by
  intro pins s σ H xs us Q I r hq
  obtain ⟨a, dx, fs, rfl, ha, q⟩ := hq
  obtain ⟨u, rfl, ru⟩ := vals1 r
  cases ru
  obtain ⟨mA, J, _⟩ := ins_get I.hok ha
  obtain ⟨od, J, _⟩ := J.look
  obtain ⟨m, hF⟩ := I.fr
  refine PySem.W.len_K hF I.ok.mod.kin J o.at_ o.fn ?_
  have r2 : Vals ([V.ref a] ++ dvs) ([Value.ref a] ++ ds) := Vals.append (.cons rfl .nil) hd
  have hl : ([Value.ref a] ++ ds).length = ps.length := by rw [← r2.length]; exact F.len _ _ _ _ q
  refine wpAny_call (codeAny_mono (F.run X.A.in1 X.stack s H ⟨[.ref a], []⟩ _ _ _ E hr.in1 I.env0.in1 (hb s [.ref a] I.kIn hl) r2 q) fun r s' hq' => ?_)
  cases r with
  | error e => exact hx pins σ H s e s' I hq'
  | ok fl =>
    cases fl with
    | ret u =>
      obtain ⟨v, H', I3, rv, n, rfl, h0, h1, q3⟩ := I.after hq'
      obtain ⟨t, rfl⟩ := (show ∃ t, u = Value.int n t from rv)
      exact ⟨⟨h0, h1⟩, .int n, H', I3.tok _, ⟨_, rfl⟩, q3⟩
    | next => exact hq'.elim
    | brk => exact hq'.elim
    | cont => exact hq'.elim

/-- an expression's truth, by __bool__ -/
def tTruO (C : Addr) (sp : Sp) (dvs : List V) (E : XK) (ta : TE) : TT := fun σ H Q => ta σ H fun x H1 => ∃ a dx fs, x = .ref a ∧ H1 a = some (.ins C dx fs) ∧ sp ([.ref a] ++ dvs) H1 (fun v H' => ∃ b, v = .bl b ∧ Q b H') E
theorem tru_own (F : FnOk X.prog X.w X.K X.mg X.base CX k f fd ps sp) (hr : Room k X.A) (o : Own X.K C "__bool__" f) (hb : Binds X.K fd ps ds) (hd : Vals dvs ds) (hx : Passes CX X E)
    {pins : List (Addr × Obj)} {σ : L2.St} {H : Hp} {s : Shared} {a dx : Addr} {fs : List (Str × V)} {Q : Bool → Hp → Prop} (I : Inv X pins σ H s) (ha : H a = some (.ins C dx fs)) (q : sp ([.ref a] ++ dvs) H (fun v H' => ∃ b, v = .bl b ∧ Q b H') E) :
    wpAny (model X.prog X.w) X.A (truthy (.ref a)) (TP X pins σ Q) X.xe s := by
  obtain ⟨mA, J, _⟩ := ins_get I.hok ha
  obtain ⟨od, J, _⟩ := J.look
  obtain ⟨m, hF⟩ := I.fr
  refine PySem.W.truthy_K hF I.ok.mod.kin J o.at_ o.fn (wpAny_mono (run_fn (us := [.ref a]) (vs := [.ref a]) F hr hb hd hx I (.cons rfl .nil) q) (fun r s' h => ?_) fun _ _ h => h)
  obtain ⟨z, H', I', rz, b, rfl, q'⟩ := h
  cases rz
  exact ⟨H', I', q'⟩
theorem pt_own {e : Expr} {ta : TE} (he : PE X e ta) (F : FnOk X.prog X.w X.K X.mg X.base CX k f fd ps sp) (hr : Room k X.A) (o : Own X.K C "__bool__" f) (hb : Binds X.K fd ps ds) (hd : Vals dvs ds) (hx : Passes CX X E)
    (ht : ∀ whole, isTrue e X.env whole = (do let v ← whole; standAt e.pos; holding [v] (truthy v))) : PT X e (tTruO C sp dvs E ta) := by
  refine ⟨fun pins s σ H Q I h => ?_⟩
  refine isTrue_plain (thn (he.run pins s σ H _ I h) fun v s1 ⟨x, H1, I1, r1, a, dx, fs, ex, ha, q⟩ => ?_) (ht _)
  subst ex
  cases r1
  exact tru_own F hr o hb hd hx I1 ha q
/-- not o, as a value -/
theorem pe_not_own {e : Expr} {ta : TE} {pos : Pos} (he : PE X e ta) (F : FnOk X.prog X.w X.K X.mg X.base CX k f fd ps sp) (hr : Room k X.A) (o : Own X.K C "__bool__" f) (hb : Binds X.K fd ps ds) (hd : Vals dvs ds) (hx : Passes CX X E) :
    PE X (.UnaryOp .Not e pos) (fun σ H Q => tTruO C sp dvs E ta σ H fun b H' => Q (.bl (!b)) H') := by
  refine ⟨fun pins s σ H Q I h => ?_⟩
  refine UnaryOp_ (thn (he.run pins s σ H _ I h) fun v s1 ⟨x, H1, I1, r1, a, dx, fs, ex, ha, q⟩ => ?_)
  subst ex
  cases r1
  refine not_of (wpAny_mono (tru_own (Q := fun b H' => Q (.bl (!b)) H') F hr o hb hd hx I1 ha q) (fun b s' h => ?_) fun _ _ h => h)
  obtain ⟨H', I', q'⟩ := h
  exact ⟨.bl (!b), H', I', rfl, q'⟩

/-- x(e, ..), x a local name that holds the class at C -/
def tMakeL (i : Nat) (C : Addr) (sp : Sp) (dvs : List V) (E : XK) (t : TA) : TE := fun σ H Q => σ[i]? = some (some (.ref C)) ∧ tMake C sp dvs E t σ H Q
theorem pe_makeL {i : Nat} {x : Str} {e : Expr} {es : List Expr} {t : TA} {p pos : Pos} (M : Mk X.K C f) (F : FnOk X.prog X.w X.K X.mg X.base CX k f fd ps sp) (hr : Room (k + 1) X.A) (hb : Binds X.K fd ps ds) (hd : Vals dvs ds) (hx : Passes CX X E)
    (hN : X.N[i]? = some x) (hv : Vis X.env.scope x) (ha : PA X (e :: es) t) (h1 : (x == ("__debug__" : Str)) = false := by decide) (h2 : (x == ("__classdict__" : Str)) = false := by decide)
    (he : starEach (e :: es) X.env = (false, eval e X.env) :: starEach es X.env := by rfl) (hpl : (backTo pos (starEach es X.env)).any (·.1) = false := by rfl) : PE X (.Call (.Name x p) (e :: es) [] pos) (tMakeL i C sp dvs E t) := by
  refine ⟨fun pins s σ H Q I h => ?_⟩
  obtain ⟨hs, h⟩ := h
  refine wpAny_Call_Name_kw (thn ((pe_var (pos := p) (i := i) hN hv h1 h2).run pins s σ H (fun v H1 => v = .ref C ∧ H1 = H) I ⟨.ref C, hs, rfl, rfl⟩) fun u s1 ⟨v, H1, I1, r1, ev, eH⟩ => ?_)
  subst ev
  subst eH
  cases r1
  refine PySem.W.callWith_K (h₀ := X.base) I.ok.mod.kin M.kp (thn (ha.run pos pins s1 σ _ _ I1 h) fun us s2 ⟨vs, H2, I2, r, q⟩ => ⟨I2.kIn, ?_⟩) he hpl
  exact run_make M F hr hb hd hx I2 r q

/-- o[i] -/
def rIxO (C : Addr) (sp : Sp) (dvs : List V) (E : XK) : R2 := fun x y H Q => ∃ a dx fs, x = .ref a ∧ H a = some (.ins C dx fs) ∧ sp ([.ref a, y] ++ dvs) H Q E
end
end OwnO

set_option Elab.async false
set_option linter.all false
set_option maxRecDepth 100000
set_option maxHeartbeats 2000000
/-! Errors that are caught: isinstance of one that has fields; a class, a class method called within a try. -/
namespace PySem.W
open PySem PySem.Spec PySem.Calls PyProof.Rows
namespace OwnT
section
variable {prog : Program} {w : World} {A : Around} {E : Value → Shared → Prop} {s : Shared} {K : Frag} {x D : Addr} {ox : Obj} {od : Option Obj}
/-- what the class says, so that an instance's __class__ is read by object's own way -/
structure Asks (K : Frag) (D : Addr) : Prop where
  ga : findIn K (.ref D) "__getattribute__" = some (some (.builtin "BaseException.__getattribute__"))
  gt : findIn K (.ref D) "__getattr__" = some none
  sub : subIn K (.ref D) (.type "BaseException") = some true
  dct : hasDictIn K D = true
  at_ : findIn K (.ref D) "__class__" = some (some (.builtin "object.__class__"))
  get : specialIn K (.builtin "object.__class__") "__get__" = some (some (.builtin "getset_descriptor.__get__"))
  tak : takesIn K (.builtin "object.__class__") = some true
  obj : mroIn K D (.type "object") = some true
theorem found (T : Asks K D) : findObj K D od "__class__" = some (.bind (.builtin "getset_descriptor.__get__") (.builtin "object.__class__")) := by
  obtain ⟨cd, hc, _⟩ := any_some T.dct
  unfold findObj
  rw [hc, Option.bind_some, T.at_, Option.bind_some]
  simp only [T.get, T.tak, Option.bind_some]
theorem class_of_exc {Q : Option Value → Shared → Prop} (T : Asks K D) (X : K.In s.heap) (I : InstAt s.heap x ox D od) (h : Q (some (.ref D)) { s with toks := s.toks + 1 }) : wpAny (model prog w) A (getAttr? (.ref x) "__class__") Q E s := by
  have hf := found (od := od) T
  obtain ⟨hp, g, d, t, os⟩ := s
  have l0 := I.type (M := model prog w)
  have l1 := looks_findIn (M := model prog w) X T.ga
  have l2 := looks_findIn (M := model prog w) X T.gt
  have l3 := looks_find (M := model prog w) X I hf
  have isb : Looks (model prog w) hp (isInstance (.ref x) (.type "BaseException")) true := l0.andThen (looks_subIn X T.sub)
  have n0 : (false && onTheHeap (Value.builtin "BaseException.__getattribute__")) = false := rfl
  have n2 : (Value.builtin "BaseException.__getattribute__" == Value.builtin "object.__getattribute__") = false := by decide +kernel
  have n1 : (onTheHeap (Value.ref D) && Value.builtin "BaseException.__getattribute__" == Value.builtin "object.__getattribute__") = false := by
    rw [n2]
    rfl
  unfold getAttr? getAttrBy? getAttrBy
  refine wpAny_bind (wpAny_mkText (wpAny_bind (wpAny_attempt (wpAny_holding ?_))))
  refine wpAny_bind (l0.at (wpAny_bind (l1.at ?_)))
  show wpAny _ _ (if (onTheHeap (Value.ref D) && Value.builtin "BaseException.__getattribute__" == Value.builtin "object.__getattribute__") = true then _ else _) _ _ _
  rw [n1, if_neg Bool.false_ne_true]
  unfold getAttrByItsOwn hookBefore
  refine wpAny_bind ?_
  rw [if_pos (show onTheHeap (Value.ref D) = true from rfl)]
  refine l2.at (wpAny_bind (wpAny_attempt (wpAny_holding ?_)))
  unfold callGetattribute
  rw [n0, if_neg Bool.false_ne_true]
  unfold boundAndCalled
  rw [PySem.F.excAttr_ValueError.ga.bind (.ref x)]
  refine wpAny_bind (wpAny_pure ?_)
  show wpAny _ _ (call (.builtin "BaseException.__getattribute__") [.ref x, .str "__class__" t]) _ _ _
  refine wpAny_call (codeAny_call_builtin PySem.F.excAttr_ValueError.ga.plain PySem.F.entry_bexc_ga ?_)
  refine @check_slot (model prog w) _ _ ⟨hp, g, d, t + 1, os⟩ "BaseException.__getattribute__" "BaseException" "__getattribute__" (.ref x) [.str "__class__" t] [] _ (by decide +kernel) (by decide +kernel) isb (PySem.F.args_bexc_ga (.ref x) (.str "__class__" t)) ?_
  unfold Builtin.«object.__getattribute__»
  refine wpAny_bind (wpAny_of_eq (a := ((Value.ref x : Value), [Value.str "__class__" t])) (by first | rfl | (simp only [slotArgs]; rfl)) ?_)
  refine wpAny_bind (wpAny_pure (wpAny_bind (l0.at (wpAny_bind (l3.at ?_)))))
  show wpAny _ _ (holding [Value.builtin "object.__class__"] (call (.builtin "getset_descriptor.__get__") [.builtin "object.__class__", .ref x, .ref D]) >>= ret) _ _ _
  refine wpAny_bind (wpAny_holding (wpAny_call (class_get (s := ⟨hp, g, d, t + 1, os⟩) (ox := ox) (od := od) X I T.obj ?_)))
  refine wpAny_pure ?_
  show wpAny _ _ (handedOut (.ref D)) _ _ _
  rw [handedOut_of (v := .ref D) rfl]
  first
    | exact wpAny_pure h
    | exact wpAny_pure (wpAny_pure h)
    | exact wpAny_pure (wpAny_bind (wpAny_pure (wpAny_pure h)))
theorem kit_exc (T : Asks K D) : KitX K (.ref x) (.ref D) (fun h => InstAt h x ox D od) where
  ty := fun _ _ _ I => I.type
  it := fun _ _ X _ => by
    obtain ⟨cd, hc, _⟩ := any_some T.dct
    unfold clsIn at hc
    split at hc
    · rename_i a1 a2 a3 a4 ho
      intro A' Q' E' s' k q
      unfold isType loadHead
      exact wpAny_bind (wpAny_loadPart (k _ _ (X _ _ ho)) (wpAny_pure q))
    · cases hc
  ne := fun h tp dd its n sl X htp => by
    obtain ⟨cd, hc, _⟩ := any_some T.dct
    refine Bool.eq_false_iff.mpr fun q => ?_
    obtain rfl : D = tp := Value.ref.inj (beq_iff_eq.mp q)
    unfold clsIn at hc
    split at hc
    · rename_i a1 a2 a3 a4 ho
      exact nomatch (X _ _ ho).symm.trans htp
    · cases hc
  ca := fun X I k => class_of_exc T X I k
end
end OwnT
end PySem.W

namespace OwnX
open PySem PySem.Spec PyProof.Rows L2 ClX
/-- isinstance(e, c), e the caught error (of the class cls, with the dict d) -/
def rIsX (K : PySem.W.Frag) (a : Addr) (cls : Value) (d : Option Addr) : List V → Hp → VK → Prop := fun xs H Q => ∃ (D : Addr) (c : V) (cv : Value) (b : Bool), xs = [.ref a, c] ∧ cls = .ref D ∧ PySem.W.OwnT.Asks K D ∧ (∀ u, RelV c u → u = cv) ∧ (∀ dd, d = some dd → ∃ fs, H dd = some (.xd fs)) ∧ PySem.W.kitOne K (.ref D) cv = some b ∧ Q (.bl b) H
theorem call_isX {X : Cx} {a : Addr} {cls : Value} {oe : Obj} {d : Option Addr} {pn : List (Addr × Obj)} (hz : Zc cls d oe) (hf : ∃ vs, oe.data = .fields vs) : CallR (X.suite a ((a, oe) :: pn)) (.builtin "isinstance") (rIsX X.K a cls d) := by
  intro pins s σ H xs us Q I r h
  obtain ⟨D, c, cv, b, rfl, rfl, T, hcv, hd, e, q⟩ := h
  cases r with
  | cons rx rr =>
  cases rr with
  | cons rt rr =>
  cases rr
  cases rx
  obtain rfl := hcv _ rt
  obtain ⟨hget, _⟩ := I.pin (a, oe) (List.mem_append.mpr (.inl List.mem_cons_self))
  obtain ⟨vs, hv⟩ := hf
  obtain ⟨od, J⟩ : ∃ od, PySem.W.InstAt s.heap a oe D od := by
    cases d with
    | none => exact ⟨none, hget, hz.1, by unfold PySem.W.notCls; rw [hv] <;> rfl, by rw [hz.2]; exact True.intro⟩
    | some dd =>
      obtain ⟨fs, hfs⟩ := hd dd rfl
      obtain ⟨mA, hns, _⟩ := (show ObjOk X.prog X.w H s.heap dd (.xd fs) from I.hok dd _ hfs)
      obtain ⟨o2, ho, _⟩ := lookIn_ns hns
      exact ⟨some o2, hget, hz.1, by unfold PySem.W.notCls; rw [hv] <;> rfl, by rw [hz.2]; exact ho⟩
  exact PySem.W.kia_one (PySem.W.OwnT.kit_exc T) I.kIn J e (fun z => nomatch z) fun tk => ⟨.bl b, H, I.kept (t' := tk) fun _ _ z => z, rfl, q⟩
/-- e.n of the caught error -/
def tXfA (K : PySem.W.Frag) (a : Addr) (cls : Value) (d : Option Addr) (n : Str) (te : TE) : TE := fun σ H Q => te σ H fun x H1 => x = .ref a ∧ ∃ (C : Addr) (dd : Addr) (fs : List (Str × V)) (v : V), cls = .ref C ∧ PySem.W.OwnT.Asks K C ∧ NoAttr K C n ∧ d = some dd ∧ H1 dd = some (.xd fs) ∧ fs.lookup n = some v ∧ Q v H1
theorem pe_xfA {X : Cx} {a : Addr} {oe : Obj} {cls : Value} {d : Option Addr} {pn : List (Addr × Obj)} {e : Expr} {te : TE} {pos : Pos} {n : Str}
    (hz : Zc cls d oe) (hf : ∃ vs, oe.data = .fields vs) (he : PE (X.suite a ((a, oe) :: pn)) e te) (hb : attributeBase e n X.env (eval e X.env) = eval e X.env := by rfl) :
    PE (X.suite a ((a, oe) :: pn)) (.Attribute e n pos) (tXfA X.K a cls d n te) := by
  refine ⟨fun pins s σ H Q I h => ?_⟩
  refine attr_of hb (thn (he.run pins s σ H _ I h) fun u s1 hh => ?_)
  obtain ⟨x, H1, I1, rx, ex, C, dd, fs, v, ec, T, hno, ed, ea, l, q⟩ := hh
  subst ex
  obtain rfl : u = Value.ref a := rx
  subst ec
  subst ed
  obtain ⟨ha, _⟩ := I1.pin (a, oe) (List.mem_append_left _ List.mem_cons_self)
  obtain ⟨vs, hd⟩ := hf
  have hx : ObjOk X.prog X.w H1 s1.heap dd (.xd fs) := I1.hok dd _ ea
  obtain ⟨mA, hns, hr⟩ := hx
  obtain ⟨od, ho, hl⟩ := lookIn_ns hns
  obtain ⟨u, hu, ru⟩ := RelO.some_of (v := v) (o := mA n) (by rw [← l]; exact hr n)
  have J : PySem.W.InstAt s1.heap a oe C (some od) := ⟨ha, hz.1, by unfold PySem.W.notCls; rw [hd] <;> rfl, by rw [hz.2]; exact ho⟩
  exact HandSPX.exc_get I1.kIn J T.ga T.gt T.sub (PySem.W.findObj_own T.dct hno rfl (by rw [hl, hu])) (handed_of ru) ⟨v, H1, I1.tok _, ru, q⟩

/-- what cannot be wished for is not let out -/
theorem passF {P : Program} {w : World} {X : Cx} : Passes (L2.CX P w) X (fun _ _ _ => False) := fun _ _ _ _ _ _ _ h => by
  obtain ⟨_, _, _, _, _, _, _, _, _, _, _, _, z⟩ := h
  exact z.elim

section
variable {X : Cx} {CX : CXT} {k : Nat} {f C p g : Addr} {mc : Value} {fd : FuncData} {ps : List Str} {sp : Sp} {E : L2.St → XK} {ds : List Value} {dvs : List V} {x m : Str} {q pos apos : Pos} {e o : Expr} {es : List Expr} {ta : TE} {t : TA}
theorem run_makeS {pins : List (Addr × Obj)} {σ : L2.St} {H : Hp} {s : Shared} {Q : VK} {us : List Value} {vs : List V} (M : Mk X.K C f) (F : FnOk X.prog X.w X.K X.mg X.base CX k f fd ps sp) (hr : Room (k + 1) X.A) (hb : Binds X.K fd ps ds) (hd : Vals dvs ds)
    (hx : PassesAt CX X σ (E σ)) (I : Inv X pins σ H s) (r : Vals vs us)
    (h : ∀ a dx, H a = none → H dx = none → dx ≠ a → sp (.ref a :: (vs ++ dvs)) (upd (upd H dx (.own a)) a (.ins C dx [])) (fun v H2 => v = .non ∧ Q (.ref a) H2) (E σ)) :
    wpAny (model X.prog X.w) X.A (call (.ref C) us) (EP X pins σ Q) X.xe s := by
  have hq := h (s.heap.objs.size + 1) s.heap.objs.size (I.hok.fresh (Nat.le_succ _)) (I.hok.fresh (Nat.le_refl _)) (Nat.ne_of_lt (Nat.lt_succ_self _))
  have J := Inv.made (C := C) I
  have rr : Vals (V.ref (s.heap.objs.size + 1) :: (vs ++ dvs)) (Value.ref (s.heap.objs.size + 1) :: (us ++ ds)) := .cons rfl (r.append hd)
  have n1 : (Value.ref (s.heap.objs.size + 1) :: us ++ ds).length = ps.length := by
    have z := rr.length
    rw [F.len _ _ _ _ hq] at z
    exact z.symm
  have bt := hb _ (Value.ref (s.heap.objs.size + 1) :: us) J.kIn n1
  have run := F.run _ X.stack _ _ ⟨Value.ref (s.heap.objs.size + 1) :: us, []⟩ (Value.ref (s.heap.objs.size + 1) :: (us ++ ds)) _ _ (E σ) (hr.make C us []) (J.env0.make C us []) bt rr hq
  refine wpAny_call (make_map (f := f) I.kIn M.makes M.init (beq_iff_eq.mp M.fn) (codeAny_mono run fun r s' z => ?_))
  cases r with
  | error er => exact hx pins _ _ er s' J z
  | ok fl =>
    cases fl with
    | ret u =>
      obtain ⟨v, H', I3, rv, ev, q3⟩ := J.after z
      subst ev
      exact ⟨rv, ⟨V.ref (s.heap.objs.size + 1), H', I3, rfl, q3⟩⟩
    | next => exact z.elim
    | brk => exact z.elim
    | cont => exact z.elim
/-- C(e, ..) within a try: the wish may speak of the slots -/
def tMakeS (C : Addr) (sp : Sp) (dvs : List V) (E : L2.St → XK) (t : TA) : TE := fun σ H Q => t σ H fun vs H1 => ∀ a dx, H1 a = none → H1 dx = none → dx ≠ a →
  sp (.ref a :: (vs ++ dvs)) (upd (upd H1 dx (.own a)) a (.ins C dx [])) (fun v H2 => v = .non ∧ Q (.ref a) H2) (E σ)
theorem pe_makeS (M : Mk X.K C f) (F : FnOk X.prog X.w X.K X.mg X.base CX k f fd ps sp) (hr : Room (k + 1) X.A) (hg : Gl X x) (hm : X.mg x = some (.ref C)) (hb : Binds X.K fd ps ds) (hd : Vals dvs ds) (hx : ∀ σ, PassesAt CX X σ (E σ))
    (ha : PA X (e :: es) t) (h1 : (x == ("__debug__" : Str)) = false := by decide) (he : starEach (e :: es) X.env = (false, eval e X.env) :: starEach es X.env := by rfl) (hp : (backTo pos (starEach es X.env)).any (·.1) = false := by rfl) :
    PE X (.Call (.Name x q) (e :: es) [] pos) (tMakeS C sp dvs E t) := by
  refine ⟨fun pins s σ H Q I h => ?_⟩
  refine wpAny_Call_Name_kw (ld_glob I hg hm ?_ h1)
  exact PySem.W.callWith_K (h₀ := X.base) I.ok.mod.kin M.kp (thn (ha.run pos pins s σ H _ I h) fun us s1 ⟨vs, H1, I1, r, q⟩ => ⟨I1.kIn, run_makeS M F hr hb hd (hx σ) I1 r q⟩) he hp

/-- C.m(..), m a class method, within a try -/
def tCMethS (C : Addr) (sp : Sp) (E : L2.St → XK) (ta : TE) (t : TA) : TE := fun σ H Q => ta σ H fun x H1 => x = .ref C ∧ t σ H1 fun vs H2 => sp (.ref C :: vs) H2 Q (E σ)
theorem pe_cmethS {pl : Sem Bool} (he : PE X o ta) (r : CRead X.K C mc) (c : CMet X.K C mc m p g) (F : FnR X.prog X.w X.K X.mg X.base CX k g sp) (hr : Room k X.A) (hx : ∀ σ pins H s e s', Inv X pins σ H s → CX X.stack H s (E σ) e s' → X.xe e s') (ha : PA X (e :: es) t)
    (hst : starEach (e :: es) X.env = (false, eval e X.env) :: starEach es X.env := by rfl) (hpl : (backTo pos (starEach es X.env)).any (·.1) = false := by rfl)
    (ht : eval (.Call (.Attribute o m apos) (e :: es) [] pos) X.env = (do
      let ov ← eval o X.env
      standAt apos.atName
      let (h, first) ← holding [ov] (getMethod ov m pl)
      callWith pos h first (backTo pos (starEach (e :: es) X.env)) (backToKw pos (keywordEach [] X.env))) := by rfl) :
    PE X (.Call (.Attribute o m apos) (e :: es) [] pos) (tCMethS C sp E ta t) := by
  refine ⟨fun pins s σ H Q I h => ?_⟩
  refine PySem.W.methodCall_KW (pl := pl) (thn (he.run pins s σ H _ I h) fun u s1 ⟨x, H1, I1, rx, ex, q⟩ => ?_) ht
  subst ex
  obtain rfl : u = Value.ref C := rx
  refine getmethcm_ok I1 r c fun s2 I2 => ?_
  refine callwith_cm I2 (base_none I1 (Nat.le_refl _)) c.fi (thn (ha.run pos _ s2 σ H1 _ I2 q) fun us s3 ⟨vs, H2, I3, rv, q2⟩ => ?_) hst hpl
  refine ⟨⟨pin_at I3, I3.kIn⟩, thn (Q := EP X ((s1.heap.objs.size, PySem.W.methodObj (.ref g) (.ref C)) :: pins) σ Q) (wpAny_call (PySem.W.method_call (pin_at I3) (codeAny_mono (F X.A X.stack s3 H2 (.ref C :: us) (.ref C :: vs) Q (E σ) hr I3.env0 (.cons rfl rv) q2) fun r s' z => ?_))) fun _ _ y => unpinE y⟩
  cases r with
  | error er => exact hx σ _ _ _ _ _ I3 z
  | ok fl =>
    cases fl with
    | ret u => exact I3.after z
    | next => exact z.elim
    | brk => exact z.elim
    | cont => exact z.elim
end
end OwnX

set_option Elab.async false
set_option linter.all false
set_option maxRecDepth 100000
set_option maxHeartbeats 2000000
/-! Small things for every law: heaps that grow, comprehensions over texts, a def that may be called. -/
namespace Z
open PySem PySem.Spec PyProof.Rows L2 SX

/-! ### heaps -/
theorem same_new {H : Hp} {p : Addr} {o : HO} (h : H p = none) : Same H (upd H p o) := fun b x e => by
  rw [upd_ne (ne_of_none e h)]
  exact e
theorem same_to {H H1 : Hp} {p : Addr} {o : HO} (s : Same H H1) (h : H p = none) : Same H (upd H1 p o) := fun b x e => by
  rw [upd_ne (ne_of_none e h)]
  exact s _ _ e
/-- all but a is as it was -/
def But (a : Addr) (H H' : Hp) : Prop := ∀ b o, b ≠ a → H b = some o → H' b = some o
theorem But.of {a : Addr} {H H' : Hp} (s : Same H H') : But a H H' := fun b o _ e => s b o e
theorem But.trans {a : Addr} {H H1 H2 : Hp} (s : But a H H1) (t : But a H1 H2) : But a H H2 := fun b o n e => t b o n (s b o n e)
theorem But.put {a : Addr} {H H1 : Hp} {o : HO} (s : But a H H1) : But a H (upd H1 a o) := fun b x n e => by
  rw [upd_ne n]
  exact s b x n e
theorem But.same {a : Addr} {H H' : Hp} (s : But a H H') (h : H a = none) : Same H H' := fun b o e => s b o (ne_of_none e h) e
theorem But.seq {a l : Addr} {K : PySem.W.Frag} {H H' : Hp} {xs : List V} (s : But a H H') (h : SqL K H l xs) (n : l ≠ a) : SqL K H' l xs := by
  rcases h with (h | ⟨o, h⟩) | h
  · exact .inl (.inl (s _ _ n h))
  · exact .inl (.inr ⟨o, s _ _ n h⟩)
  · exact .inr h
theorem free_put {H : Hp} {a b : Addr} {o : HO} (h : upd H a o b = none) : b ≠ a ∧ H b = none := by
  by_cases e : b = a
  · rw [e, upd_same] at h
    cases h
  · rw [upd_ne e] at h
    exact ⟨e, h⟩

/-- an error laid in full: all that was before stands -/
theorem same_err {H H1 : Hp} {a d : Addr} {x y o z : HO} (s : Same H H1) (ha : H1 a = none) (hd : (upd H1 a x) d = none) : Same H (upd (del (upd (upd (upd H1 a x) d y) a o) a) d z) := fun b u e => by
  have e1 := s _ _ e
  obtain ⟨nd, hd1⟩ := free_put hd
  have ba := ne_of_none e1 ha
  have bd := ne_of_none e1 hd1
  rw [upd_ne bd]
  show (if b = a then none else _) = _
  rw [if_neg ba, upd_ne ba, upd_ne bd, upd_ne ba]
  exact e1

/-! ### calls -/
/-- the def at a may be called: its promise, with the defaults dvs -/
structure Ok (P : Program) (w : World) (K : PySem.W.Frag) (mg : Str → Option Value) (base : Heap) (CX : CXT) (k : Nat) (a : Addr) (sp : Sp) (dvs : List V) : Prop where
  ex : ∃ fd ps ds, FnOk P w K mg base CX k a fd ps sp ∧ Binds K fd ps ds ∧ Vals dvs ds
  kp : PySem.W.keepIn K (.ref a) = true
section
variable {X : Cx} {CX : CXT} {j k : Nat} {a C : Addr} {sp : Sp} {dvs : List V} {E : XK} {x m : Str} {p pos apos : Pos} {e o : Expr} {es : List Expr} {ta : TE} {t : TA}
theorem pe_f (c : Ok X.prog X.w X.K X.mg X.base CX k a sp dvs) (hr : Room j X.A) (hm : X.mg x = some (.ref a)) (hx : Passes CX X E) (ha : PA X (e :: es) t) (hk : k ≤ j := by decide) (hg : Gl X x := by rfl)
    (hd : (x == ("__debug__" : Str)) = false := by decide) (he : starEach (e :: es) X.env = (false, eval e X.env) :: starEach es X.env := by rfl) (hp : (backTo pos (starEach es X.env)).any (·.1) = false := by rfl) :
    PE X (.Call (.Name x p) (e :: es) [] pos) (tCall sp dvs E t) := by
  obtain ⟨fd, ps, ds, F, b, d⟩ := c.ex
  exact pe_call F (hr.mono hk) hg hm c.kp b d hx ha hd he hp
theorem pe_f0 (c : Ok X.prog X.w X.K X.mg X.base CX k a sp dvs) (hr : Room j X.A) (hm : X.mg x = some (.ref a)) (hx : Passes CX X E) (hk : k ≤ j := by decide) (hg : Gl X x := by rfl) (hd : (x == ("__debug__" : Str)) = false := by decide) :
    PE X (.Call (.Name x p) [] [] pos) (tCall sp dvs E tNil) := by
  obtain ⟨fd, ps, ds, F, b, d⟩ := c.ex
  exact pe_call0 F (hr.mono hk) hg hm c.kp b d hx hd
theorem pe_m {pl : Sem Bool} (he : PE X o ta) (cl : Cls X.K C) (hm : Meth X.K C m a) (c : Ok X.prog X.w X.K X.mg X.base CX k a sp dvs) (hr : Room j X.A) (hx : Passes CX X E) (ha : PA X (e :: es) t) (hk : k ≤ j := by decide)
    (hst : starEach (e :: es) X.env = (false, eval e X.env) :: starEach es X.env := by rfl) (hpl : (backTo pos (starEach es X.env)).any (·.1) = false := by rfl)
    (ht : eval (.Call (.Attribute o m apos) (e :: es) [] pos) X.env = (do
      let ov ← eval o X.env
      standAt apos.atName
      let (g, first) ← holding [ov] (getMethod ov m pl)
      callWith pos g first (backTo pos (starEach (e :: es) X.env)) (backToKw pos (keywordEach [] X.env))) := by rfl) :
    PE X (.Call (.Attribute o m apos) (e :: es) [] pos) (tMeth C m sp dvs E ta t) := by
  obtain ⟨fd, ps, ds, F, b, d⟩ := c.ex
  exact pe_meth (pl := pl) he cl hm F (hr.mono hk) b d hx ha hst hpl ht
theorem pe_m0 {pl : Sem Bool} (he : PE X o ta) (cl : Cls X.K C) (hm : Meth X.K C m a) (c : Ok X.prog X.w X.K X.mg X.base CX k a sp dvs) (hr : Room j X.A) (hx : Passes CX X E) (hk : k ≤ j := by decide)
    (ht : eval (.Call (.Attribute o m apos) [] [] pos) X.env = (do
      let ov ← eval o X.env
      standAt apos.atName
      let (g, first) ← holding [ov] (getMethod ov m pl)
      callWith pos g first (backTo pos (starEach [] X.env)) (backToKw pos (keywordEach [] X.env))) := by rfl) :
    PE X (.Call (.Attribute o m apos) [] [] pos) (tMeth C m sp dvs E ta tNil) := by
  obtain ⟨fd, ps, ds, F, b, d⟩ := c.ex
  exact pe_meth0 (pl := pl) he cl hm F (hr.mono hk) b d hx ht
end
/-- a promise of a def, from its words -/
theorem ok_of {P : Program} {w : World} {K : PySem.W.Frag} {mg : Str → Option Value} {base : Heap} {CX : CXT} {k : Nat} {a : Addr} {sp : Sp} {x qual : Str} {ar : Arguments} {bd : List Stmt} {sc : Scope} {kws : List (Str × V)} {fd : FuncData} {ps : List Str}
    (F : FunD K x qual ar bd sc [] kws a fd) (h : FnOk P w K mg base CX k a fd ps sp)
    (hb : ∀ (kV doc pm : Value) (an : Option Addr) (cdv ct : Value) (us : List Value), us.length = ps.length → bindArgs (PySem.W.fnOf x qual ar bd sc .none kV doc pm an cdv ct) ⟨us, []⟩ = pure (ps.zip us)) : Ok P w K mg base CX k a sp [] :=
  ⟨⟨fd, ps, [], h, F.bindsN hb, .nil⟩, F.kp⟩

/-- .. with defaults that are all left out or all given -/
theorem ok_d {P : Program} {w : World} {K : PySem.W.Frag} {mg : Str → Option Value} {base : Heap} {CX : CXT} {k : Nat} {a : Addr} {sp : Sp} {x qual : Str} {ar : Arguments} {bd : List Stmt} {sc : Scope} {dvs : List V} {kws : List (Str × V)} {fd : FuncData} {ps : List Str}
    (F : FunD K x qual ar bd sc dvs kws a fd) (h : FnOk P w K mg base CX k a fd ps sp) (n j : Nat) (hd : dvs ≠ []) (hn : n + (dvs.length - j) = ps.length)
    (hb : ∀ (t : Addr) (kV doc pm : Value) (an : Option Addr) (cdv ct : Value) (us its : List Value), us.length = n → its.length = dvs.length →
      ∃ g, bindArgs (PySem.W.fnOf x qual ar bd sc (.ref t) kV doc pm an cdv ct) ⟨us, []⟩ = seqItems? (.ref t) >>= g ∧ g (some its.toArray) = pure (ps.zip (us ++ its.drop j))) : Ok P w K mg base CX k a sp (dvs.drop j) := by
  obtain ⟨ds, d, b⟩ := F.binds1 n j hd hn hb
  exact ⟨⟨fd, ps, ds, h, b, d⟩, F.kp⟩
/-- a def without defaults -/
theorem toFun {K : PySem.W.Frag} {x qual : Str} {st : Stmt} {a : Addr} {fd : FuncData} (F : FunD K x qual (defArgs st) (defBody st) (defScope st) [] [] a fd) : Fun K x qual st a fd := by
  obtain ⟨oc, od, dV, kV, doc, pm, an, cdv, ct, osl, e, lk, hcd, hD, _⟩ := F.ex
  rcases hD with ⟨_, rfl⟩ | ⟨z, _⟩
  · exact ⟨⟨oc, od, kV, doc, pm, an, cdv, ct, osl, e, lk, hcd⟩, F.kp⟩
  · exact absurd rfl z

/-! ### own operators by Ok -/
section
variable {X : Cx} {CX : CXT} {j k : Nat} {a C f : Addr} {sp : Sp} {dvs : List V} {E : XK} {x nm : Str} {p pos : Pos} {e : Expr} {es : List Expr} {ta : TE} {t : TA}
theorem op_o {op : Operator} (c : Ok X.prog X.w X.K X.mg X.base CX k f sp dvs) (hr : Room k X.A) (m : Meth X.K C nm f) (h1 : PySem.W.selfFirst X.K C = true) (hx : Passes CX X E) (hn : PySem.dunder op.info.2 = nm := by decide +kernel) : OpR X (binaryOp op) (OwnO.rBin C C sp dvs E) := by
  obtain ⟨fd, ps, ds, F, b, d⟩ := c.ex
  subst hn
  exact OwnO.op_own F hr ⟨m.at_, m.fn⟩ h1 b d hx
theorem un_neg (c : Ok X.prog X.w X.K X.mg X.base CX k f sp dvs) (hr : Room k X.A) (m : Meth X.K C "__neg__" f) (hx : Passes CX X E) : UnR X (unaryOp .USub) (OwnO.rUn C sp dvs E) := by
  obtain ⟨fd, ps, ds, F, b, d⟩ := c.ex
  exact OwnO.un_own_neg F hr ⟨m.at_, m.fn⟩ b d hx
theorem un_invert (c : Ok X.prog X.w X.K X.mg X.base CX k f sp dvs) (hr : Room k X.A) (m : Meth X.K C "__invert__" f) (hx : Passes CX X E) : UnR X (unaryOp .Invert) (OwnO.rUn C sp dvs E) := by
  obtain ⟨fd, ps, ds, F, b, d⟩ := c.ex
  exact OwnO.un_own_inv F hr ⟨m.at_, m.fn⟩ b d hx
theorem op_ceq (c : Ok X.prog X.w X.K X.mg X.base CX k f sp dvs) (hr : Room k X.A) (m : Meth X.K C "__eq__" f) (hx : Passes CX X E) : OpR X (compareOp .Eq) (OwnO.rCmp X.K C sp dvs E) := by
  obtain ⟨fd, ps, ds, F, b, d⟩ := c.ex
  exact OwnO.op_cmp (fun _ _ => rfl) F hr ⟨m.at_, m.fn⟩ b d hx
theorem op_cle (c : Ok X.prog X.w X.K X.mg X.base CX k f sp dvs) (hr : Room k X.A) (m : Meth X.K C "__le__" f) (hx : Passes CX X E) : OpR X (compareOp .LtE) (OwnO.rCmp X.K C sp dvs E) := by
  obtain ⟨fd, ps, ds, F, b, d⟩ := c.ex
  exact OwnO.op_cmp (fun _ _ => rfl) F hr ⟨m.at_, m.fn⟩ b d hx
theorem op_clt (c : Ok X.prog X.w X.K X.mg X.base CX k f sp dvs) (hr : Room k X.A) (m : Meth X.K C "__lt__" f) (hx : Passes CX X E) : OpR X (compareOp .Lt) (OwnO.rCmp X.K C sp dvs E) := by
  obtain ⟨fd, ps, ds, F, b, d⟩ := c.ex
  exact OwnO.op_cmp (fun _ _ => rfl) F hr ⟨m.at_, m.fn⟩ b d hx
theorem op_cgt (c : Ok X.prog X.w X.K X.mg X.base CX k f sp dvs) (hr : Room k X.A) (m : Meth X.K C "__gt__" f) (hx : Passes CX X E) : OpR X (compareOp .Gt) (OwnO.rCmp X.K C sp dvs E) := by
  obtain ⟨fd, ps, ds, F, b, d⟩ := c.ex
  exact OwnO.op_cmp (fun _ _ => rfl) F hr ⟨m.at_, m.fn⟩ b d hx
theorem op_cge (c : Ok X.prog X.w X.K X.mg X.base CX k f sp dvs) (hr : Room k X.A) (m : Meth X.K C "__ge__" f) (hx : Passes CX X E) : OpR X (compareOp .GtE) (OwnO.rCmp X.K C sp dvs E) := by
  obtain ⟨fd, ps, ds, F, b, d⟩ := c.ex
  exact OwnO.op_cmp (fun _ _ => rfl) F hr ⟨m.at_, m.fn⟩ b d hx
theorem op_in (c : Ok X.prog X.w X.K X.mg X.base CX k f sp dvs) (hr : Room k X.A) (m : Meth X.K C "__contains__" f) (hx : Passes CX X E) : OpR X (compareOp .In) (OwnO.rIn C sp dvs E false) := by
  obtain ⟨fd, ps, ds, F, b, d⟩ := c.ex
  exact OwnO.op_in_own F hr ⟨m.at_, m.fn⟩ b d hx
theorem op_nin (c : Ok X.prog X.w X.K X.mg X.base CX k f sp dvs) (hr : Room k X.A) (m : Meth X.K C "__contains__" f) (hx : Passes CX X E) : OpR X (compareOp .NotIn) (OwnO.rIn C sp dvs E true) := by
  obtain ⟨fd, ps, ds, F, b, d⟩ := c.ex
  exact OwnO.op_notin_own F hr ⟨m.at_, m.fn⟩ b d hx
theorem call_len (c : Ok X.prog X.w X.K X.mg X.base CX k f sp dvs) (hr : Room (k + 1) X.A) (m : Meth X.K C "__len__" f) (hx : Passes CX X E) : CallR X (.builtin "len") (OwnO.rLenO C sp dvs E) := by
  obtain ⟨fd, ps, ds, F, b, d⟩ := c.ex
  exact OwnO.call_len_own F hr ⟨m.at_, m.fn⟩ b d hx
theorem pt_o (he : PE X e ta) (c : Ok X.prog X.w X.K X.mg X.base CX k f sp dvs) (hr : Room k X.A) (m : Meth X.K C "__bool__" f) (hx : Passes CX X E) (ht : ∀ whole, isTrue e X.env whole = (do let v ← whole; standAt e.pos; holding [v] (truthy v))) : PT X e (OwnO.tTruO C sp dvs E ta) := by
  obtain ⟨fd, ps, ds, F, b, d⟩ := c.ex
  exact OwnO.pt_own he F hr ⟨m.at_, m.fn⟩ b d hx ht
theorem pe_not_o (he : PE X e ta) (c : Ok X.prog X.w X.K X.mg X.base CX k f sp dvs) (hr : Room k X.A) (m : Meth X.K C "__bool__" f) (hx : Passes CX X E) : PE X (.UnaryOp .Not e pos) (fun σ H Q => OwnO.tTruO C sp dvs E ta σ H fun b H' => Q (.bl (!b)) H') := by
  obtain ⟨fd, ps, ds, F, b, d⟩ := c.ex
  exact OwnO.pe_not_own he F hr ⟨m.at_, m.fn⟩ b d hx
/-- C(..) -/
theorem pe_mk (M : Mk X.K C f) (c : Ok X.prog X.w X.K X.mg X.base CX k f sp dvs) (hr : Room (k + 1) X.A) (hm : X.mg x = some (.ref C)) (hx : Passes CX X E) (ha : PA X (e :: es) t) (hg : Gl X x := by rfl)
    (hd : (x == ("__debug__" : Str)) = false := by decide) (he : starEach (e :: es) X.env = (false, eval e X.env) :: starEach es X.env := by rfl) (hp : (backTo pos (starEach es X.env)).any (·.1) = false := by rfl) :
    PE X (.Call (.Name x p) (e :: es) [] pos) (tMake C sp dvs E t) := by
  obtain ⟨fd, ps, ds, F, b, d⟩ := c.ex
  exact pe_make M F hr hg hm b d hx ha hd he hp
theorem pe_mk0 (M : Mk X.K C f) (c : Ok X.prog X.w X.K X.mg X.base CX k f sp dvs) (hr : Room (k + 1) X.A) (hm : X.mg x = some (.ref C)) (hx : Passes CX X E) (hg : Gl X x := by rfl) (hd : (x == ("__debug__" : Str)) = false := by decide) :
    PE X (.Call (.Name x p) [] [] pos) (tMake C sp dvs E tNil) := by
  obtain ⟨fd, ps, ds, F, b, d⟩ := c.ex
  exact pe_make0 M F hr hg hm b d hx hd
theorem pe_mkL {i : Nat} (M : Mk X.K C f) (c : Ok X.prog X.w X.K X.mg X.base CX k f sp dvs) (hr : Room (k + 1) X.A) (hx : Passes CX X E) (ha : PA X (e :: es) t) (hN : X.N[i]? = some x := by rfl) (hv : Vis X.env.scope x := by first | exact Or.inl rfl | exact Or.inr (Or.inl rfl) | exact Or.inr (Or.inr rfl))
    (h1 : (x == ("__debug__" : Str)) = false := by decide) (h2 : (x == ("__classdict__" : Str)) = false := by decide)
    (he : starEach (e :: es) X.env = (false, eval e X.env) :: starEach es X.env := by rfl) (hp : (backTo pos (starEach es X.env)).any (·.1) = false := by rfl) :
    PE X (.Call (.Name x p) (e :: es) [] pos) (OwnO.tMakeL i C sp dvs E t) := by
  obtain ⟨fd, ps, ds, F, b, d⟩ := c.ex
  exact OwnO.pe_makeL M F hr b d hx hN hv ha h1 h2 he hp
/-- an error is made, for raise -/
theorem pmk {x : Str} (T : OexC X.K C) (m : Meth X.K C "__init__" f) (tI : PySem.W.typeIn X.K (.ref f) = some (.type "function")) (c : Ok X.prog X.w X.K X.mg X.base CX k f sp dvs) (hr : Room (k + 1) X.A) (hx : Passes CX X (fun _ _ _ => False)) (hm : X.mg x = some (.ref C)) (ha : PA X (e :: es) t) (hg : Gl X x := by rfl)
    (hd : (x == ("__debug__" : Str)) = false := by decide) (he : starEach (e :: es) X.env = (false, eval e X.env) :: starEach es X.env := by rfl) (hp : (backTo pos (starEach es X.env)).any (·.1) = false := by rfl) :
    PMk X (.Call (.Name x p) (e :: es) [] pos) (tMkO C sp dvs t) := by
  obtain ⟨fd, ps, ds, F, b, d⟩ := c.ex
  exact pmk_oex T m.at_ tI F hr b d hx hg hm ha hd he hp
theorem pe_mkS {C : Addr} {x : Str} {p : Pos} {E : L2.St → XK} (M : Mk X.K C f) (c : Ok X.prog X.w X.K X.mg X.base CX k f sp dvs) (hr : Room (k + 1) X.A) (hm : X.mg x = some (.ref C)) (hx : ∀ σ, PassesAt CX X σ (E σ)) (ha : PA X (e :: es) t) (hg : Gl X x := by rfl)
    (hd : (x == ("__debug__" : Str)) = false := by decide) (he : starEach (e :: es) X.env = (false, eval e X.env) :: starEach es X.env := by rfl) (hp : (backTo pos (starEach es X.env)).any (·.1) = false := by rfl) :
    PE X (.Call (.Name x p) (e :: es) [] pos) (OwnX.tMakeS C sp dvs E t) := by
  obtain ⟨fd, ps, ds, F, b, d⟩ := c.ex
  exact OwnX.pe_makeS M F hr hg hm b d hx ha hd he hp
/-- f(..) within a try -/
theorem pe_fS {a : Addr} {x : Str} {p : Pos} {E : L2.St → XK} (c : Ok X.prog X.w X.K X.mg X.base CX k a sp []) (hr : Room k X.A) (hm : X.mg x = some (.ref a)) (hx : ∀ σ, PassesAt CX X σ (E σ)) (ha : PA X (e :: es) t) (hg : Gl X x := by rfl)
    (hd : (x == ("__debug__" : Str)) = false := by decide) (he : starEach (e :: es) X.env = (false, eval e X.env) :: starEach es X.env := by rfl) (hp : (backTo pos (starEach es X.env)).any (·.1) = false := by rfl) :
    PE X (.Call (.Name x p) (e :: es) [] pos) (tCallS sp E t) := by
  obtain ⟨fd, ps, ds, F, b, d⟩ := c.ex
  cases d
  exact pe_callS F hr hg hm c.kp b hx ha hd he hp
/-- its promise for a call by hand -/
theorem Ok.raw (c : Ok X.prog X.w X.K X.mg X.base CX k f sp dvs) : FnR X.prog X.w X.K X.mg X.base CX k f (fun vs H Q E => sp (vs ++ dvs) H Q E) := by
  obtain ⟨fd, ps, ds, F, b, d⟩ := c.ex
  exact F.raw b d
end
theorem pw {X : Cx} {W : WX} {E : XK} (tk : Takes X W) (hW : ∀ cls d σ H, E cls d H → W cls d σ H) : Passes (L2.CX X.prog X.w) X E := passes_call tk hW
theorem fn_type {K : PySem.W.Frag} {f : Addr} (h : PySem.W.isFn K (.ref f) = true) : PySem.W.typeIn K (.ref f) = some (.type "function") := beq_iff_eq.mp h

/-! ### comprehensions over a text -/
theorem gname {i : Nat} {v : V} {σ : L2.St} {H : Hp} {Q : L2.St → Hp → Prop} (h : Q (σ.set i (some v)) H) : gName i v σ H Q := h
/-- [f(c) for c in z if p(c)]: what the element and the test call may lay new things -/
theorem lc_txt {i : Nat} {tt : TT} {tE : TE} {vs : List Nat} {σ : L2.St} {H1 : Hp} {D : Addr} {Qd : Hp → Prop} {z : List Nat} (p : Nat → Bool) (f : Nat → V) (hz : z.length < sizeLine) (hD : H1 D = none)
    (hw : ∀ v, wipe ((wipe σ vs).set i (some v)) vs = wipe σ vs)
    (ht : ∀ c H' (Q : Bool → Hp → Prop), c ∈ z → Same H1 H' → (∀ H2, Same H' H2 → Q (p c) H2) → tt ((wipe σ vs).set i (some (.str ⟨#[c]⟩))) H' Q)
    (he : ∀ c H' (Q : VK), c ∈ z → Same H1 H' → (∀ H2, Same H' H2 → Q (f c) H2) → tE ((wipe σ vs).set i (some (.str ⟨#[c]⟩))) H' Q)
    (hd : ∀ H', Same H1 H' → H' D = some (.lst ((z.filter p).map f)) → Qd H') :
    ∃ W : Nat → Nat → Hp → Prop, (∃ m, W 0 m (upd H1 D (.lst []))) ∧ ∀ j m H, W j m H →
      ((Its (S z)).stop j H ∧ Qd H) ∨ ((Its (S z)).go j H ∧ ∃ Nx : Hp → Prop, (∀ H', Nx H' → ∃ m', m' < m ∧ W (j + 1) m' H') ∧ ∀ x H', (Its (S z)).yld j H x H' → gName i x (wipe σ vs) H' fun σ2 H2 => wipe σ2 vs = wipe σ vs ∧ tt σ2 H2 fun b H3 =>
        if b = true then tE σ2 H3 fun y H4 => ∃ acc, H4 D = some (.lst acc) ∧ acc.length < sizeLine ∧ Nx (upd H4 D (.lst (acc ++ [y]))) else Nx H3) := by
  refine lc_it (w := walk_str (z := S z)) (fun j H => Same H1 H ∧ H D = some (.lst (((z.take j).filter p).map f))) ⟨same_new hD, by rw [upd_same]; rfl⟩ (fun _ _ _ _ => trivial) ?_ (fun H' h => ?_)
  · rintro j x H H' hj ⟨s, e⟩ ⟨rfl, c, hc, rfl⟩
    have hc' : z[j]? = some c := by simpa using hc
    have hmem : c ∈ z := List.mem_of_getElem? hc'
    refine gname ⟨hw _, ht c _ _ hmem s fun H2 s2 => ?_⟩
    have e2 : H2 D = some (.lst (((z.take j).filter p).map f)) := s2 _ _ e
    have tk : z.take (j + 1) = z.take j ++ [c] := by rw [List.take_add_one, hc']; rfl
    cases hp : p c with
    | false =>
      rw [if_neg Bool.false_ne_true]
      refine ⟨s.trans s2, ?_⟩
      rw [tk, List.filter_append, List.filter_cons_of_neg (by rw [hp]; exact Bool.false_ne_true)]
      simpa using e2
    | true =>
      rw [if_pos rfl]
      refine he c _ _ hmem (s.trans s2) fun H3 s3 => ⟨_, s3 _ _ e2, ?_, ?_, ?_⟩
      · rw [List.length_map]
        have y1 := List.length_filter_le p (z.take j)
        have y2 : (z.take j).length ≤ z.length := by rw [List.length_take]; exact Nat.min_le_right _ _
        omega
      · exact same_to ((s.trans s2).trans s3) hD
      · rw [upd_same, tk, List.filter_append, List.filter_cons_of_pos hp]
        simp
  · obtain ⟨s, e⟩ := h
    refine hd _ s ?_
    have n : (S z).cps.size = z.length := by simp
    rw [n, List.take_length] at e
    exact e
end Z

set_option Elab.async false
set_option linter.all false
set_option maxRecDepth 100000
set_option maxHeartbeats 2000000
/-! Two words on texts: a text times an int, a text turned round. -/
namespace Z
open PySem PySem.Spec PyProof.Rows L2 SX

theorem all_got (l : List Nat) : (List.range l.length).filterMap (fun i => l[i]?) = l := by
  induction l with
  | nil => rfl
  | cons a r ih =>
    rw [List.length_cons, List.range_succ_eq_map, List.filterMap_cons]
    simp only [List.getElem?_cons_zero, List.filterMap_map]
    exact congrArg (a :: ·) ih
theorem fold_rep (x : List Nat) : ∀ (k : Nat) (acc : List Nat), (List.replicate k x.toArray).foldl (· ++ ·) acc.toArray = (acc ++ (List.replicate k x).flatten).toArray := by
  intro k
  induction k with
  | zero => intro acc; simp
  | succ k ih =>
    intro acc
    rw [List.replicate_succ, List.foldl_cons, List.append_toArray, ih (acc ++ x), List.replicate_succ, List.flatten_cons, List.append_assoc]
/-- text * int -/
def rMulS : R2 := fun x y H Q => ∃ l k, x = .str (S l) ∧ y = .int k ∧ -(2 ^ 63) ≤ k ∧ k < 2 ^ 63 ∧ l.length * k.toNat ≤ sizeLine ∧ Q (.str (S (List.replicate k.toNat l).flatten)) H
section
variable {X : Cx}
theorem op_mul_str : OpR X (binaryOp .Mult) rMulS := by
  intro pins s σ H x y v u Q I rx ry h
  obtain ⟨l, k, rfl, rfl, h1, h2, hz, q⟩ := h
  obtain ⟨t, rfl⟩ := rx
  obtain ⟨t', rfl⟩ := ry
  have hz' : (S l).length * k.toNat ≤ sizeLine := by rw [S_len]; exact hz
  have sl : sizeLine = sizeLine := rfl
  refine P.mul_str ?_ ?_ ?_ ?_
  · rw [decide_eq_false (by omega), decide_eq_false (by omega)]
    rfl
  · intro hk _ hgt
    have hk0 : (0 : Int) < k := by omega
    have : (2 ^ 63 - 1 : Int) / k < ((S l).length : Int) := hgt
    have h3 : ((S l).length : Int) * k ≤ (2 ^ 63 - 1) := by
      have e : (k : Int) = (k.toNat : Int) := by omega
      rw [e, ← Int.natCast_mul]
      have : sizeLine ≤ 2 ^ 63 - 1 := by decide
      omega
    have := (Int.le_ediv_iff_mul_le hk0).mpr h3
    omega
  · intro hk _
    have : Builtin.Str.tooLong ((S l).length * k.toNat) = false := by
      unfold Builtin.Str.tooLong
      simp only [decide_eq_false_iff_not]
      first | omega | (unfold sizeLine at *; omega) | (simp [sizeLine] at *; omega)
    exact this
  · by_cases c1 : k < 1
    · rw [if_pos c1]
      have e : (List.replicate k.toNat l).flatten = [] := by
        rw [show k.toNat = 0 by omega]
        rfl
      rw [e] at q
      exact ⟨by decide, .str _, H, I.tok _, ⟨_, rfl⟩, q⟩
    · rw [if_neg c1]
      by_cases c2 : (k == 1 || (S l).length == 0) = true
      · rw [if_pos c2]
        have e : (List.replicate k.toNat l).flatten = l := by
          rcases Bool.or_eq_true_iff.mp c2 with c | c
          · rw [show k.toNat = 1 by have := of_decide_eq_true c; omega]
            simp
          · have e0 : l = [] := by
              have := of_decide_eq_true c
              rw [S_len] at this
              exact List.length_eq_zero_iff.mp this
            rw [e0]
            induction k.toNat with
            | zero => rfl
            | succ m ih => rw [List.replicate_succ, List.flatten_cons, ih]; rfl
        rw [e] at q
        exact ⟨.str (S l), H, I, ⟨_, rfl⟩, q⟩
      · rw [if_neg c2]
        have e : (⟨(List.replicate k.toNat (S l).cps).foldl (· ++ ·) #[]⟩ : Str) = S (List.replicate k.toNat l).flatten := by
          have := fold_rep l k.toNat []
          rw [List.nil_append] at this
          exact congrArg Str.mk this
        rw [e]
        refine ⟨?_, .str _, H, I.tok _, ⟨_, rfl⟩, q⟩
        rw [S_len]
        have : (List.replicate k.toNat l).flatten.length = k.toNat * l.length := by simp
        rw [this, Nat.mul_comm]
        exact hz

/-- bool(text) -/
theorem call_boolS : CallR X (.type "bool") (fun xs H Q => ∃ z, xs = [.str z] ∧ z.length ≤ sizeLine ∧ Q (.bl ((z.length : Int) != 0)) H) := by
  intro pins s σ H xs us Q I r h
  obtain ⟨z, rfl, hz, q⟩ := h
  obtain ⟨u, rfl, t, rfl⟩ := vals1 r
  have hl := line63
  exact call_bool_str (by omega) ⟨.bl _, H, I.tok _, rfl, q⟩
/-! ### z[::-1] -/
def tRevS (te : TE) : TE := fun σ H Q => te σ H fun x H1 => ∃ l, x = .str (S l) ∧ l.length ≤ sizeLine ∧ Q (.str (S l.reverse)) H1
theorem pe_revS {e : Expr} {te : TE} {k : Nat} {p1 p2 p3 pos : Pos} (he : PE X e te) : PE X (.Subscript e (.Slice none none (some (.UnaryOp .USub (.Constant (.int 1) k p1) p2)) p3) pos) (tRevS te) := by
  refine ⟨fun pins s σ H Q I h => ?_⟩
  refine Subscript_ (thn (he.run pins s σ H _ I h) fun v s1 ⟨x, H1, I1, r1, q1⟩ => ?_)
  obtain ⟨z, ex, hz, q⟩ := q1
  subst ex
  obtain ⟨t, rfl⟩ := r1
  have hst : PO X (some (.UnaryOp .USub (.Constant (.int 1) k p1) p2)) (tPart (tUn (rU fun i => .int (-i)) (tC (.int 1)))) := po_some (pe_un L2.un_neg pe_int)
  refine wpAny_Slice (thn (po_none.run pins s1 σ H1 (fun o H2 => o = none ∧ H2 = H1) I1 ⟨rfl, rfl⟩) fun vl s2 ⟨l, H2, I2, pl, el, e2⟩ => ?_)
  subst el e2
  refine thn (po_none.run pins s2 σ H2 (fun o H3 => o = none ∧ H3 = H2) I2 ⟨rfl, rfl⟩) fun vu s3 ⟨u, H3, I3, pu, eu, e3⟩ => ?_
  subst eu e3
  refine thn (hst.run pins s3 σ H3 (fun o H4 => o = some (-1) ∧ H4 = H3) I3 ⟨1, rfl, -1, rfl, rfl, rfl⟩) fun vs s4 ⟨o, H4, I4, ps, eo, e4⟩ => ?_
  subst eo e4
  have I5 : Inv X pins σ H4 { s4 with heap := s4.heap.push { cls := .type "slice", data := .fields #[vl, vu, vs] } } := I4.kept (t' := s4.toks) fun b ob q => Heap.get?_push_of_some _ q
  obtain ⟨l, rfl, el⟩ := IsPart.raw pl
  obtain ⟨u, rfl, eu⟩ := IsPart.raw pu
  obtain ⟨w, rfl, ew⟩ := IsPart.raw ps
  have el0 : l.map (·.1) = none := el
  have eu0 : u.map (·.1) = none := eu
  have ew0 : w.map (·.1) = some (-1) := ew
  show wpAny (model X.prog X.w) X.A (subscriptTail e (.Slice none none (some (.UnaryOp .USub (.Constant (.int 1) k p1) p2)) p3) (.str (S z) t) (.ref s4.heap.objs.size)) (EP X pins σ Q) X.xe _
  refine tail_any (ops := [.str (S z) t, .ref s4.heap.objs.size]) (typeIs_str _ _ _) (PySem.F.slot_str_getitem.lookup) ?_ (by with_unfolding_all rfl)
  refine wpAny_getItem_str_slice (l := l) (u := u) (st := w) ⟨_, Heap.get?_push_size _ rfl, rfl, rfl⟩ (by rw [ew0]; rfl) ?_
  unfold PySem.sliceMade slicePicked
  rw [el0, eu0, ew0]
  show Made.post (if (((-1 : Int) == 1) && _) = true then Made.val (.str (S z) t) else Made.str ⟨((Builtin.Str.strSliceIndices none none (-1) (S z).length).filterMap ((S z).cps[·]?)).toArray⟩) (EP X pins σ Q) _
  rw [if_neg (by rw [show (((-1 : Int) == 1)) = false by decide, Bool.false_and]; exact Bool.false_ne_true)]
  have e9 : (⟨((Builtin.Str.strSliceIndices none none (-1) (S z).length).filterMap ((S z).cps[·]?)).toArray⟩ : Str) = S z.reverse := by
    have : (Builtin.Str.strSliceIndices none none (-1) (S z).length).filterMap ((S z).cps[·]?) = z.reverse := by
      unfold Builtin.Str.strSliceIndices
      have h1 : ¬ ((-1 : Int) > 0) := by decide
      simp only [h1, if_false]
      rw [PySem.W.krv_sliceRange, PySem.W.krv_range, List.filterMap_reverse, S_len]
      congr 1
      refine Eq.trans ?_ (all_got z)
      simp [S]
    exact congrArg (fun l : List Nat => Str.mk l.toArray) this
  rw [e9]
  refine ⟨?_, .str _, H4, I5.tok _, ⟨_, rfl⟩, q⟩
  rw [S_len, List.length_reverse]
  exact hz
/-! ### rules within a comprehension: the written part by its name -/
theorem pe_fldK (K : PySem.W.Frag) {e : Expr} {ta : TE} {f : Str} {pos : Pos} (he : PE X e ta) (hb : attributeBase e f X.env (eval e X.env) = eval e X.env) (hK : X.K = K := by rfl) : PE X (.Attribute e f pos) (tFld K ta f) := by
  subst hK
  exact pe_fld he hb
theorem call_isiK (K : PySem.W.Frag) (hK : X.K = K := by rfl) : CallR X (.builtin "isinstance") (rIsi K) := by
  subst hK
  exact call_isi
end
end Z

set_option Elab.async false
set_option linter.all false
set_option maxRecDepth 100000
set_option maxHeartbeats 2000000
/-! ''.join([c for c in z if p(c)]), all([p(c) for c in z]), and what tests read. -/
namespace Z
open PySem PySem.Spec PyProof.Rows L2 SX

theorem joinL_one : ∀ l : List Nat, TL.joinL [] (l.map fun c => [c]) = l
  | [] => rfl
  | [c] => rfl
  | c :: d :: r => by
    have := joinL_one (d :: r)
    show [c] ++ [] ++ TL.joinL [] ((d :: r).map fun c => [c]) = _
    rw [this]
    rfl
theorem join_one (l : List Nat) : Txt.join (S []) (l.map fun c => S [c]) = S l := by
  have := join_S [] (l.map fun c => [c])
  rw [joinL_one, List.map_map] at this
  exact this
theorem sum_one (l : List Nat) : ((l.map fun c => S [c]).map (·.length)).sum = l.length := by
  induction l with
  | nil => rfl
  | cons a r ih =>
    rw [List.map_cons, List.map_cons, List.sum_cons, ih, List.length_cons, Nat.add_comm]
    rfl
theorem kit_same {K : PySem.W.Frag} {t : Value} : PySem.W.kitOne K t t = some true := by
  unfold PySem.W.kitOne
  rw [if_pos (beq_self_eq_true t)]
/-- what pe_join asks -/
def rJoin (K : PySem.W.Frag) : V → List V → Hp → VK → Prop := fun x xs H Q => ∃ a p, ∃ ys : List Str, x = .str a ∧ xs = [.ref p] ∧ (SqL K H p (ys.map V.str) ∨ SqT K H p (ys.map V.str)) ∧
  (ys.map (·.length)).sum + ys.length * a.length ≤ 16777216 ∧ Q (.str (Txt.join a ys)) H
/-- what [.. for c in z ..] asks, D the new list -/
def LcG (z : List Nat) (i : Nat) (tt : TT) (tE : TE) (σ : L2.St) (vs : List Nat) (H1 : Hp) (D : Addr) (Qd : Hp → Prop) : Prop :=
  ∃ W : Nat → Nat → Hp → Prop, (∃ m, W 0 m (upd H1 D (.lst []))) ∧ ∀ j m H, W j m H →
    ((Its (S z)).stop j H ∧ Qd H) ∨ ((Its (S z)).go j H ∧ ∃ Nx : Hp → Prop, (∀ H', Nx H' → ∃ m', m' < m ∧ W (j + 1) m' H') ∧ ∀ x H', (Its (S z)).yld j H x H' → gName i x (wipe σ vs) H' fun σ2 H2 => wipe σ2 vs = wipe σ vs ∧ tt σ2 H2 fun b H3 =>
      if b = true then tE σ2 H3 fun y H4 => ∃ acc, H4 D = some (.lst acc) ∧ acc.length < sizeLine ∧ Nx (upd H4 D (.lst (acc ++ [y]))) else Nx H3)
/-- ''.join([c for c in z if p(c)]), z a text -/
theorem join_txt (K : PySem.W.Frag) {i : Nat} {tt : TT} {vs : List Nat} {σ : L2.St} {H1 : Hp} {Qd : Addr → Hp → Prop} {z : List Nat} (p : Nat → Bool) (hz : z.length < 16777216) (hi : i < σ.length) (hw : ∀ v, wipe ((wipe σ vs).set i (some v)) vs = wipe σ vs)
    (ht : ∀ c H' (R : Bool → Hp → Prop), c ∈ z → Same H1 H' → (∀ H2, Same H' H2 → R (p c) H2) → tt ((wipe σ vs).set i (some (.str (S [c])))) H' R)
    (hd : ∀ D H' (ys : List Str), Same H1 H' → SqL K H' D (ys.map V.str) → (ys.map (·.length)).sum + ys.length * 0 ≤ 16777216 → Txt.join (S []) ys = S (z.filter p) → Qd D H') :
    ∀ D, H1 D = none → LcG z i tt (tVar i) σ vs H1 D (Qd D) := by
  intro D hD
  refine lc_txt p (fun c => .str (S [c])) hz hD hw ht (fun c H' R _ _ kk => ⟨_, ?_, kk _ (Same.refl _)⟩) fun H' s e => ?_
  · have hl : ∀ vs : List Nat, (wipe σ vs).length = σ.length := wipe_length σ
    rw [List.getElem?_set_self (by rw [hl]; exact hi)]
  · refine hd D H' ((z.filter p).map fun c => S [c]) s (SqL.of (by rw [e, List.map_map]; rfl)) ?_ (join_one _)
    rw [sum_one]
    have := List.length_filter_le p z
    omega
/-- all([p(c) for c in z]), z a text -/
theorem all_txt (K : PySem.W.Frag) {i : Nat} {tE : TE} {vs : List Nat} {σ : L2.St} {H1 : Hp} {Qd : Addr → Hp → Prop} {z : List Nat} (p : Nat → Bool) (hz : z.length < 16777216) (hw : ∀ v, wipe ((wipe σ vs).set i (some v)) vs = wipe σ vs)
    (he : ∀ c H' (R : VK), c ∈ z → Same H1 H' → (∀ H2, Same H' H2 → R (.bl (p c)) H2) → tE ((wipe σ vs).set i (some (.str (S [c])))) H' R)
    (hd : ∀ D H' (bs : List Bool), Same H1 H' → SqL K H' D (bs.map V.bl) → bs.all id = z.all p → Qd D H') :
    ∀ D, H1 D = none → LcG z i tYes tE σ vs H1 D (Qd D) := by
  intro D hD
  refine lc_txt (fun _ => true) (fun c => .bl (p c)) hz hD hw (fun c H' R _ _ kk => kk _ (Same.refl _)) he fun H' s e => ?_
  rw [List.filter_eq_self.mpr fun _ _ => rfl] at e
  refine hd D H' (z.map p) s (SqL.of (by rw [e, List.map_map]; rfl)) ?_
  rw [List.all_map]
  rfl
/-- [c for c in z if p(c)] -/
theorem list_txt {i : Nat} {tt : TT} {vs : List Nat} {σ : L2.St} {H1 : Hp} {Qd : Addr → Hp → Prop} {z : List Nat} (p : Nat → Bool) (hz : z.length < 16777216) (hi : i < σ.length) (hw : ∀ v, wipe ((wipe σ vs).set i (some v)) vs = wipe σ vs)
    (ht : ∀ c H' (R : Bool → Hp → Prop), c ∈ z → Same H1 H' → (∀ H2, Same H' H2 → R (p c) H2) → tt ((wipe σ vs).set i (some (.str (S [c])))) H' R)
    (hd : ∀ D H', Same H1 H' → H1 D = none → H' D = some (.lst ((z.filter p).map fun c => .str (S [c]))) → Qd D H') :
    ∀ D, H1 D = none → LcG z i tt (tVar i) σ vs H1 D (Qd D) := by
  intro D hD
  refine lc_txt p (fun c => .str (S [c])) hz hD hw ht (fun c H' R _ _ kk => ⟨_, ?_, kk _ (Same.refl _)⟩) fun H' s e => hd D H' s hD e
  have hl : ∀ vs : List Nat, (wipe σ vs).length = σ.length := wipe_length σ
  rw [List.getElem?_set_self (by rw [hl]; exact hi)]
end Z

set_option Elab.async false
set_option linter.all false
set_option maxRecDepth 100000
set_option maxHeartbeats 2000000
/-! Lists of ints, of signs, of bools as data, for == of lists. -/
namespace Z
open PySem PySem.Spec PyProof.Rows L2 SX

/-- plain data: no list within -/
def Flat (d : PyData) : Prop := PyData.canLay0 d = true ∧ PyData.depth d = 0
theorem flat_int (i : Int) : Flat (.int i) := by constructor <;> simp [PyData.canLay0, PyData.depth]
theorem flat_bl (b : Bool) : Flat (.bool b) := by constructor <;> simp [PyData.canLay0, PyData.depth]
/-- all signs can be laid -/
def Cp (l : List Nat) : Prop := ∀ c ∈ l, c < 1114112
theorem flat_str {l : List Nat} (h : Cp l) : Flat (.str (S l)) := by
  constructor
  · simp only [PyData.canLay0]
    show (l.toArray).all (fun c => decide (c < 1114112)) = true
    rw [List.all_toArray]
    exact List.all_eq_true.mpr fun c hc => decide_eq_true (h c hc)
  · simp [PyData.depth]
theorem flat_lay : ∀ ds : List PyData, (∀ d ∈ ds, Flat d) → PyData.canLayAll0 ds = true ∧ PyData.depthAll ds = 0
  | [], _ => by constructor <;> simp [PyData.canLayAll0, PyData.depthAll]
  | d :: ds, h => by
    obtain ⟨a, b⟩ := h d List.mem_cons_self
    obtain ⟨c, e⟩ := flat_lay ds fun x hx => h x (List.mem_cons_of_mem _ hx)
    constructor
    · simp [PyData.canLayAll0, a, c]
    · simp [PyData.depthAll, b, e]
theorem shaped_flat {ds : List PyData} (h : ∀ d ∈ ds, Flat d) : SeqAt.shaped (.list ds) = true := by
  obtain ⟨a, b⟩ := flat_lay ds h
  show (PyData.canLay0 (.list ds) && decide (PyData.depth (.list ds) ≤ 64)) = true
  simp only [PyData.canLay0, PyData.depth, a, b]
  decide
theorem dpAll_int {K : PySem.W.Frag} {H : Hp} : ∀ xs : List Int, DpAll K H (xs.map V.int) (xs.map PyData.int)
  | [] => .nil
  | x :: xs => .cons (.int x) (dpAll_int xs)
theorem dpAll_signs {K : PySem.W.Frag} {H : Hp} : ∀ l : List Nat, DpAll K H (l.map fun c => V.str (S [c])) (l.map fun c => PyData.str (S [c]))
  | [] => .nil
  | x :: xs => .cons (.str _) (dpAll_signs xs)
theorem shaped_ints (xs : List Int) : SeqAt.shaped (.list (xs.map PyData.int)) = true := shaped_flat fun d hd => by
  obtain ⟨i, _, rfl⟩ := List.mem_map.mp hd
  exact flat_int i
theorem shaped_signs {l : List Nat} (h : Cp l) : SeqAt.shaped (.list (l.map fun c => PyData.str (S [c]))) = true := shaped_flat fun d hd => by
  obtain ⟨c, hc, rfl⟩ := List.mem_map.mp hd
  exact flat_str fun x hx => by rw [List.mem_singleton.mp hx]; exact h c hc
theorem shaped_nil : SeqAt.shaped (.list []) = true := shaped_flat fun d hd => nomatch hd
theorem eqv_nil (ds : List PyData) : PyData.eqv (.list ds) (.list []) = ds.isEmpty := by
  cases ds <;> simp [PyData.eqv, PyData.eqvAll]
theorem eqv_signs : ∀ a b : List Nat, PyData.eqv (.list (a.map fun c => PyData.str (S [c]))) (.list (b.map fun c => PyData.str (S [c]))) = decide (a = b)
  | [], [] => by simp [PyData.eqv, PyData.eqvAll]
  | [], b :: r => by simp [PyData.eqv, PyData.eqvAll]
  | a :: r, [] => by simp [PyData.eqv, PyData.eqvAll]
  | a :: r, b :: q => by
    have ih := eqv_signs r q
    simp only [PyData.eqv, List.map_cons, PyData.eqvAll] at ih ⊢
    rw [ih, S_beq_eq]
    by_cases h : a = b
    · subst h
      simp
    · simp [h]
/-- xs == [] of ints -/
theorem rd_int_nil {K : PySem.W.Frag} {H : Hp} {p e : Addr} {xs : List Int} {Q : VK} (h1 : H p = some (.lst (xs.map V.int))) (h2 : H e = some (.lst [])) (q : Q (.bl xs.isEmpty) H) : rEqD K (.ref p) (.ref e) H Q := by
  refine ⟨_, _, .lst (SqL.of h1) (dpAll_int xs), .lst (SqL.of h2) .nil, shaped_ints xs, shaped_nil, ?_⟩
  rw [eqv_nil]
  cases xs
  · exact q
  · exact q
/-- .. of signs -/
theorem rd_signs_nil {K : PySem.W.Frag} {H : Hp} {p e : Addr} {l : List Nat} {Q : VK} (hc : Cp l) (h1 : H p = some (.lst (l.map fun c => V.str (S [c])))) (h2 : H e = some (.lst [])) (q : Q (.bl l.isEmpty) H) : rEqD K (.ref p) (.ref e) H Q := by
  refine ⟨_, _, .lst (SqL.of h1) (dpAll_signs l), .lst (SqL.of h2) .nil, shaped_signs hc, shaped_nil, ?_⟩
  rw [eqv_nil]
  cases l
  · exact q
  · exact q
theorem rd_signs_ne {K : PySem.W.Frag} {H : Hp} {p e : Addr} {a b : List Nat} {Q : VK} (ha : Cp a) (hb : Cp b) (h1 : H p = some (.lst (a.map fun c => V.str (S [c])))) (h2 : H e = some (.lst (b.map fun c => V.str (S [c])))) (q : Q (.bl (!decide (a = b))) H) : rNeD K (.ref p) (.ref e) H Q := by
  refine ⟨_, _, .lst (SqL.of h1) (dpAll_signs a), .lst (SqL.of h2) (dpAll_signs b), shaped_signs ha, shaped_signs hb, ?_⟩
  rw [eqv_signs]
  exact q
/-! ### the other side of a comparison -/
theorem other_str {K : PySem.W.Frag} {C : Addr} {z : Str} {H : Hp} (h : PySem.W.notFirst K C (.type "str") = true) : OwnO.Other K C (.str z) H := .inr ⟨_, .str z, h, fun P w hp u _ _ r => by
  obtain ⟨t, rfl⟩ := r
  exact PySem.W.Looks.of_pure rfl⟩
theorem other_int {K : PySem.W.Frag} {C : Addr} {i : Int} {H : Hp} (h : PySem.W.notFirst K C (.type "int") = true) : OwnO.Other K C (.int i) H := .inr ⟨_, .int i, h, fun P w hp u _ _ r => by
  obtain ⟨t, rfl⟩ := r
  exact PySem.W.Looks.of_pure rfl⟩
theorem other_lst {K : PySem.W.Frag} {C l : Addr} {xs : List V} {H : Hp} (e : H l = some (.lst xs)) (h : PySem.W.notFirst K C (.type "list") = true) : OwnO.Other K C (.ref l) H := .inr ⟨_, .lst e, h, fun P w hp u ok _ r => by
  cases r
  obtain ⟨_, its, n, _, ho⟩ := (show ObjOk P w H hp l (.lst xs) from ok l _ e)
  exact fun A Q E s k q => wpAny_typeOf (T := "list") ⟨_, k _ _ ho, rfl⟩ q⟩
end Z

set_option Elab.async false
set_option linter.all false
set_option maxRecDepth 100000
set_option maxHeartbeats 2000000
namespace Z
open PySem PySem.Spec PyProof.Rows L2 SX
section
variable {X : Cx}
/-- an int is no bool -/
theorem op_isIB : OpR X (compareOp .Is) (fun x y H Q => ∃ (i : Int) (b : Bool), x = .int i ∧ y = .bl b ∧ Q (.bl false) H) := by
  intro pins s σ H x y v u Q I rx ry h
  obtain ⟨a, b, rfl, rfl, q⟩ := h
  obtain ⟨t, rfl⟩ := rx
  cases (show u = Value.bool b from ry)
  exact wpAny_is_other rfl (fun z => nomatch z) ⟨.bl false, H, I, rfl, q⟩
theorem op_notIB : OpR X (compareOp .IsNot) (fun x y H Q => ∃ (i : Int) (b : Bool), x = .int i ∧ y = .bl b ∧ Q (.bl true) H) := by
  intro pins s σ H x y v u Q I rx ry h
  obtain ⟨a, b, rfl, rfl, q⟩ := h
  obtain ⟨t, rfl⟩ := rx
  cases (show u = Value.bool b from ry)
  exact wpAny_isNot_other rfl (fun z => nomatch z) ⟨.bl true, H, I, rfl, q⟩
end
end Z

set_option Elab.async false
set_option linter.all false
set_option maxRecDepth 100000
set_option maxHeartbeats 2000000
namespace Vm
open PySem PySem.Spec PyProof.Rows L2

/-! ### data as PyData -/
mutual
def D.py : D → PyData
  | .non => .none
  | .bl b => .bool b
  | .int i => .int i
  | .str z => .str (T z)
  | .lst xs => .list (D.pys xs)
  | .tup xs => .tuple (D.pys xs)
  | _ => .none
def D.pys : List D → List PyData
  | [] => []
  | x :: xs => x.py :: D.pys xs
end
mutual
theorem Rp.dp {B : Tb} {G H : Hp} (s : Same G H) : ∀ {n : Nat} {d : D} {v : V}, D.pl n d = true → Rp B G d v → Dp B.K H v d.py
  | _, _, _, _, .non => .non
  | _, _, _, _, .bl b => .bl b
  | _, _, _, _, .int i => .int i
  | _, _, _, _, .str z => .str _
  | n + 1, .tup ds, _, p, .tup h r => .tup (sqT_to s h) (Rps.dp s (n := n) (by simpa [D.pl] using p) r)
  | n + 1, .lst ds, _, p, .lst h r => .lst (s.seq h) (Rps.dp s (n := n) (by simpa [D.pl] using p) r)
  | 0, .tup ds, _, p, .tup h r => by simp [D.pl] at p
  | 0, .lst ds, _, p, .lst h r => by simp [D.pl] at p
  | n, .obj c fs, _, p, .obj h r => by cases n <;> simp [D.pl] at p
  | n, .cls c, _, p, .cls _ => by cases n <;> simp [D.pl] at p
  | n, .ty c, _, p, .ty _ => by cases n <;> simp [D.pl] at p
theorem Rps.dp {B : Tb} {G H : Hp} (s : Same G H) : ∀ {n : Nat} {ds : List D} {vs : List V}, D.pls n ds = true → Rps B G ds vs → DpAll B.K H vs (D.pys ds)
  | _, _, _, _, .nil => .nil
  | n, d :: ds, v :: vs, p, .cons h r => by
    rw [D.pls, Bool.and_eq_true] at p
    exact .cons (Rp.dp s p.1 h) (Rps.dp s p.2 r)
end
theorem Rr.dp {B : Tb} {G H : Hp} (s : Same G H) {n : Nat} {d : D} {v : V} (p : D.pl n d = true) (h : Rr B G H d v) : Dp B.K H v d.py := by
  cases h with
  | non => exact .non
  | bl b => exact .bl b
  | int i => exact .int i
  | str z => exact .str _
  | tup h r =>
    cases n with
    | zero => simp [D.pl] at p
    | succ n => exact .tup (sqT_to s h) (Rps.dp s (n := n) (by simpa [D.pl] using p) r)
  | lst h r =>
    cases n with
    | zero => simp [D.pl] at p
    | succ n => exact .lst h (Rps.dp s (n := n) (by simpa [D.pl] using p) r)
  | obj h r => cases n <;> simp [D.pl] at p
  | cls c => cases n <;> simp [D.pl] at p
  | ty t => cases n <;> simp [D.pl] at p
theorem T_beq {x y : List Nat} : (T x == T y) = (x == y) := SX.S_beq x y
theorem T_eq {x y : List Nat} : decide (T x = T y) = decide (x = y) := by
  by_cases h : x = y
  · subst h; simp
  · rw [decide_eq_false h, decide_eq_false fun z => h (SX.S_inj z)]
mutual
theorem py_eqv : ∀ (n m : Nat) (a b : D), D.pl n a = true → D.pl m b = true → PyData.eqv a.py b.py = D.eqv a b := fun n m a b ha hb => by
  cases a with
  | lst xs =>
    cases n with
    | zero => simp [D.pl] at ha
    | succ n =>
    cases b with
    | lst ys =>
      cases m with
      | zero => simp [D.pl] at hb
      | succ m =>
        rw [D.pl] at ha hb
        simp only [D.py, PyData.eqv, D.eqv]
        exact pys_eqv n m xs ys ha hb
    | obj c fs => cases m <;> simp [D.pl] at hb
    | cls c => cases m <;> simp [D.pl] at hb
    | ty c => cases m <;> simp [D.pl] at hb
    | dic c => cases m <;> simp [D.pl] at hb
    | _ => simp [D.py, PyData.eqv, D.eqv]
  | tup xs =>
    cases n with
    | zero => simp [D.pl] at ha
    | succ n =>
    cases b with
    | tup ys =>
      cases m with
      | zero => simp [D.pl] at hb
      | succ m =>
        rw [D.pl] at ha hb
        simp only [D.py, PyData.eqv, D.eqv]
        exact pys_eqv n m xs ys ha hb
    | obj c fs => cases m <;> simp [D.pl] at hb
    | cls c => cases m <;> simp [D.pl] at hb
    | ty c => cases m <;> simp [D.pl] at hb
    | dic c => cases m <;> simp [D.pl] at hb
    | _ => simp [D.py, PyData.eqv, D.eqv]
  | obj c fs => cases n <;> simp [D.pl] at ha
  | cls c => cases n <;> simp [D.pl] at ha
  | ty c => cases n <;> simp [D.pl] at ha
  | dic c => cases n <;> simp [D.pl] at ha
  | str x =>
    cases b with
    | str y => simp only [D.py, PyData.eqv, D.eqv]; exact T_beq
    | obj c fs => cases m <;> simp [D.pl] at hb
    | cls c => cases m <;> simp [D.pl] at hb
    | ty c => cases m <;> simp [D.pl] at hb
    | dic c => cases m <;> simp [D.pl] at hb
    | _ => simp [D.py, PyData.eqv, D.eqv]
  | _ =>
    cases b with
    | obj c fs => cases m <;> simp [D.pl] at hb
    | cls c => cases m <;> simp [D.pl] at hb
    | ty c => cases m <;> simp [D.pl] at hb
    | dic c => cases m <;> simp [D.pl] at hb
    | _ => simp [D.py, PyData.eqv, D.eqv]
theorem pys_eqv : ∀ (n m : Nat) (a b : List D), D.pls n a = true → D.pls m b = true → PyData.eqvAll (D.pys a) (D.pys b) = D.eqvs a b := fun n m a b ha hb => by
  cases a with
  | nil => cases b <;> simp [D.pys, PyData.eqvAll, D.eqvs]
  | cons x xs =>
    cases b with
    | nil => simp [D.pys, PyData.eqvAll, D.eqvs]
    | cons y ys =>
      rw [D.pls, Bool.and_eq_true] at ha hb
      simp only [D.pys, PyData.eqvAll, D.eqvs]
      rw [py_eqv n m x y ha.1 hb.1, pys_eqv n m xs ys ha.2 hb.2]
end
mutual
theorem py_lay : ∀ (n : Nat) (a : D), D.pl n a = true → PyData.canLay0 a.py = true ∧ PyData.depth a.py ≤ n := fun n a ha => by
  cases a with
  | lst xs =>
    cases n with
    | zero => simp [D.pl] at ha
    | succ n =>
      rw [D.pl] at ha
      have := pys_lay n xs ha
      simp only [D.py, PyData.canLay0, PyData.depth]
      exact ⟨this.1, by omega⟩
  | tup xs =>
    cases n with
    | zero => simp [D.pl] at ha
    | succ n =>
      rw [D.pl] at ha
      have := pys_lay n xs ha
      simp only [D.py, PyData.canLay0, PyData.depth]
      exact ⟨this.1, by omega⟩
  | str z =>
    simp only [D.py, PyData.canLay0, PyData.depth]
    refine ⟨?_, Nat.zero_le _⟩
    rw [D.pl] at ha
    show (z.toArray).all (fun c => decide (c < 1114112)) = true
    rw [List.all_toArray]
    exact ha
  | _ => simp [D.py, PyData.canLay0, PyData.depth]
theorem pys_lay : ∀ (n : Nat) (a : List D), D.pls n a = true → PyData.canLayAll0 (D.pys a) = true ∧ PyData.depthAll (D.pys a) ≤ n := fun n a ha => by
  cases a with
  | nil => simp [D.pys, PyData.canLayAll0, PyData.depthAll]
  | cons x xs =>
    rw [D.pls, Bool.and_eq_true] at ha
    have h1 := py_lay n x ha.1
    have h2 := pys_lay n xs ha.2
    simp only [D.pys, PyData.canLayAll0, PyData.depthAll]
    exact ⟨by rw [h1.1, h2.1]; rfl, by omega⟩
end
theorem shaped_of {a : D} (h : D.pl 50 a = true) : SeqAt.shaped a.py = true := by
  have := py_lay 50 a h
  show (PyData.canLay0 a.py && decide (PyData.depth a.py ≤ 64)) = true
  rw [this.1, decide_eq_true (by omega)]
  rfl

/-! ### operators -/
section
variable {X : Cx}
def rCatS (K : PySem.W.Frag) : R2 := fun x y H Q => ∃ l b xs zs, x = .ref l ∧ y = .ref b ∧ SqL K H l xs ∧ SqL K H b zs ∧ xs.length + zs.length ≤ sizeLine ∧ ∀ p, H p = none → Q (.ref p) (upd H p (.lst (xs ++ zs)))
theorem op_catS : OpR X (binaryOp .Add) (rCatS X.K) := by
  intro pins s σ H x y v u Q I rx ry h
  obtain ⟨l, b, xs, zs, rfl, rfl, hH, hB, hz, q⟩ := h
  cases rx
  cases ry
  obtain ⟨its, r, ⟨⟨cls, ddx, data, sl⟩, n, ho, hc, _, hd⟩, _⟩ := I.list hH
  obtain ⟨its2, r2, ⟨⟨cls2, ddy, data2, sl2⟩, n2, ho2, hc2, _, hd2⟩, _⟩ := I.list hB
  simp only at hc hd hc2 hd2
  subst hc hd hc2 hd2
  have l1 := r.length
  have l2 := r2.length
  have ea : its.toArray ++ its2.toArray = (its ++ its2).toArray := by simp
  refine concat_meets ⟨_, ho, rfl⟩ ⟨_, ho2, rfl⟩ noFill_list_add seq_list_add PySem.F.slot_list_add PySem.F.entry_list_add (PySem.F.args_list_add_2 _ _) (list_addW l b its.toArray its2.toArray n n2 ddx ddy sl sl2 (by rw [List.size_toArray, List.size_toArray]; omega)) ⟨ho, ho2, ?_⟩
  rw [ea]
  exact ⟨.ref _, _, I.lnew (t' := s.toks) (r.append r2) (by rw [List.length_append]; omega), rfl, q _ I.fresh⟩
end
abbrev rIntO (g : Int → Int → V) : R2 := rI0 g
/-- what x op y asks -/
def rB (K : PySem.W.Frag) : BOp → R2
  | .add => fun x y H Q => (rI0 (fun i j => .int (i + j)) x y H Q ∨ (∃ i j, x = .str i ∧ y = .str j ∧ i.length + j.length ≤ sizeLine ∧ Q (.str (i ++ j)) H)) ∨ (rCatS K x y H Q ∨ rCatA K x y H Q)
  | .sub => rI0 fun i j => .int (i - j)
  | .mul => rI CMulW fun i j => .int (i * j)
  | .fdiv => rI CDivW fun i j => .int (i / j)
  | .mod => rI (fun _ j => 0 < j) fun i j => .int (i % j)
  | .pow => rI CPow fun i j => .int (i ^ j.toNat)
def BOp.py : BOp → Operator
  | .add => .Add
  | .sub => .Sub
  | .mul => .Mult
  | .fdiv => .FloorDiv
  | .mod => .Mod
  | .pow => .Pow
theorem or_bop {X : Cx} : ∀ o : BOp, OpR X (binaryOp o.py) (rB X.K o)
  | .add => OpR.or (OpR.or op_add op_add_str) (OpR.or op_catS op_catA)
  | .sub => op_sub
  | .mul => op_mulW
  | .fdiv => op_fdivW
  | .mod => op_mod
  | .pow => op_pow
section
variable {B : Tb} {Z : XR} {W : WX} {ρ : Vm.Env} {σ : L2.St} {G H : Hp}
theorem T_cat (a b : List Nat) : T a ++ T b = T (a ++ b) := SX.S_cat a b
theorem T_len (a : List Nat) : (T a).length = a.length := SX.S_len a
theorem line_eq : line = sizeLine := by rw [sizeLine_eq]; rfl
theorem rB_ok {o : BOp} {d e : D} {v u : V} {Q : VK} (r : Rep B Z ρ σ G H) (hd : Rr B G H d v) (he : Rr B G H e u) (w : WantE B Z W (R.of (bop o d e) ρ) ρ σ G H Q) : rB B.K o v u H Q := by
  obtain ⟨ev, h, w⟩ := w_of w
  cases o with
  | add =>
    cases hd with
    | int i =>
      cases he with
      | int j => cases h; exact .inl (.inl ⟨i, j, rfl, rfl, w_val w r (.int _)⟩)
      | _ => cases h
    | str i =>
      cases he with
      | str j =>
        simp only [bop] at h
        split at h
        · cases h
          rename_i hl
          refine .inl (.inr ⟨_, _, rfl, rfl, by rw [T_len, T_len, ← line_eq]; exact hl, ?_⟩)
          rw [T_cat]
          exact w_val w r (.str _)
        · cases h
      | _ => cases h
    | lst hx rx =>
      cases he with
      | lst hy ry =>
        simp only [bop] at h
        split at h
        · cases h
          rename_i hl
          refine .inr (.inl ⟨_, _, _, _, rfl, rfl, hx, hy, by rw [rx.len, ry.len, ← line_eq]; exact hl, fun p hp => w_new w r (fun p => .lst upd_same (rx.app ry)) hp⟩)
        · cases h
      | _ => cases h
    | tup hx rx =>
      cases he with
      | tup hy ry =>
        simp only [bop] at h
        split at h
        · cases h
          rename_i hl
          refine .inr (.inr ⟨_, _, _, _, rfl, rfl, sqT_to r.sub hx, sqT_to r.sub hy, by rw [rx.len, ry.len, ← line_eq]; exact hl, fun e => ?_, fun _ e => ?_, fun _ _ p hp => ?_⟩)
          · subst e
            cases rx
            exact w_val w r (.tup hy ry)
          · subst e
            cases ry
            rw [List.append_nil] at w
            exact w_val w r (.tup hx rx)
          · exact w_newF w r (fun G' p s e => .tup (SqT.of e) ((rx.app ry).to s)) hp
        · cases h
      | _ => cases h
    | _ => cases he <;> cases h
  | sub =>
    cases hd with
    | int i =>
      cases he with
      | int j => cases h; exact ⟨i, j, rfl, rfl, w_val w r (.int _)⟩
      | _ => cases h
    | _ => cases he <;> cases h
  | mul =>
    cases hd with
    | int i =>
      cases he with
      | int j =>
        simp only [bop] at h
        split at h
        · cases h
          rename_i hl
          exact ⟨i, j, rfl, rfl, hl, w_val w r (.int _)⟩
        · cases h
      | _ => cases h
    | _ => cases he <;> cases h
  | fdiv =>
    cases hd with
    | int i =>
      cases he with
      | int j =>
        simp only [bop] at h
        split at h
        · cases h
          rename_i hl
          exact ⟨i, j, rfl, rfl, hl, w_val w r (.int _)⟩
        · cases h
      | _ => cases h
    | _ => cases he <;> cases h
  | mod =>
    cases hd with
    | int i =>
      cases he with
      | int j =>
        simp only [bop] at h
        split at h
        · cases h
          rename_i hl
          exact ⟨i, j, rfl, rfl, hl, w_val w r (.int _)⟩
        · cases h
      | _ => cases h
    | _ => cases he <;> cases h
  | pow =>
    cases hd with
    | int i =>
      cases he with
      | int j =>
        simp only [bop] at h
        split at h
        · cases h
          rename_i hl
          exact ⟨i, j, rfl, rfl, hl, w_val w r (.int _)⟩
        · cases h
      | _ => cases h
    | _ => cases he <;> cases h
theorem ge_bin {o : BOp} {ta tb : TE} {ma mb : Ex} (ha : GE B Z W ta ma) (hb : GE B Z W tb mb) : GE B Z W (tOp (rB B.K o) ta tb) (bin o ma mb) := ge_two ha hb fun _ _ _ _ _ _ _ _ _ r hd he w => rB_ok r hd he w
end
end Vm

set_option Elab.async false
set_option linter.all false
set_option maxRecDepth 100000
set_option maxHeartbeats 2000000
namespace Vm
open PySem PySem.Spec PyProof.Rows L2

def rSign (p : Bool → Bool) : R2 := fun x y H Q => ∃ (c : Nat) (z : Str), x = .str ⟨#[c]⟩ ∧ y = .str z ∧ Q (.bl (p (decide (c ∈ z.cps.toList)))) H
def rIsC (p : Bool → Bool) : R2 := fun x y H Q => (y = .non ∧ Q (.bl (p (decide (x = .non)))) H) ∨ ((∃ a b : Bool, x = .bl a ∧ y = .bl b ∧ Q (.bl (p (decide (a = b)))) H) ∨ (∃ (i : Int) (b : Bool), x = .int i ∧ y = .bl b ∧ Q (.bl (p false)) H))
def rC (K : PySem.W.Frag) : COp → R2
  | .eq => fun x y H Q => rEq x y H Q ∨ rEqD K x y H Q
  | .ne => fun x y H Q => rNe x y H Q ∨ rNeD K x y H Q
  | .lt => fun x y H Q => rI0 (fun i j => .bl (decide (i < j))) x y H Q ∨ ∃ i j, x = .str i ∧ y = .str j ∧ Q (.bl (decide (i.cps.toList < j.cps.toList))) H
  | .le => fun x y H Q => rI0 (fun i j => .bl (decide (i ≤ j))) x y H Q ∨ ∃ i j, x = .str i ∧ y = .str j ∧ Q (.bl (!decide (j.cps.toList < i.cps.toList))) H
  | .gt => fun x y H Q => rI0 (fun i j => .bl (decide (j < i))) x y H Q ∨ ∃ i j, x = .str i ∧ y = .str j ∧ Q (.bl (decide (j.cps.toList < i.cps.toList))) H
  | .ge => fun x y H Q => rI0 (fun i j => .bl (decide (j ≤ i))) x y H Q ∨ ∃ i j, x = .str i ∧ y = .str j ∧ Q (.bl (!decide (i.cps.toList < j.cps.toList))) H
  | .is => rIsC id
  | .isnt => rIsC not
  | .inn => fun x y H Q => rSign id x y H Q ∨ (rIn K false x y H Q ∨ rInD K x y H Q)
  | .nin => fun x y H Q => rSign not x y H Q ∨ (rIn K true x y H Q ∨ rNotInD K x y H Q)
def COp.py : COp → CmpOp
  | .eq => .Eq
  | .ne => .NotEq
  | .lt => .Lt
  | .le => .LtE
  | .gt => .Gt
  | .ge => .GtE
  | .is => .Is
  | .isnt => .IsNot
  | .inn => .In
  | .nin => .NotIn
theorem or_cop {X : Cx} {k : Nat} (hr : L2H.RoomH k X.A) : ∀ o : COp, OpR X (compareOp o.py) (rC X.K o)
  | .eq => OpR.or op_eq (op_eqD (by have := hr.un; omega))
  | .ne => OpR.or op_ne (op_neD (by have := hr.un; omega))
  | .lt => OpR.or op_lt op_lt_str
  | .le => OpR.or op_le op_le_str
  | .gt => OpR.or op_gt op_gt_str
  | .ge => OpR.or op_ge op_ge_str
  | .is => OpR.or op_isN (OpR.or op_isBl Z.op_isIB)
  | .isnt => OpR.or op_notN (OpR.or op_notBl Z.op_notIB)
  | .inn => OpR.or op_in_sign (OpR.or op_in_seq (op_inD (by have := hr.un; omega)))
  | .nin => OpR.or op_notIn_sign (OpR.or op_notIn_seq (op_notInD (by have := hr.un; omega)))
section
variable {B : Tb} {Z : XR} {W : WX} {ρ : Vm.Env} {σ : L2.St} {G H : Hp}
theorem non_iff {d : D} {v : V} (h : Rr B G H d v) : (d = .non ∧ v = .non) ∨ (d ≠ .non ∧ v ≠ .non) := by
  cases h <;> simp
theorem eqV_of {d e : D} {v u : V} (hd : Rp B G d v) (he : Rp B G e u) (fd : d.flat = true) (fe : e.flat = true) : eqV v u = D.eqv d e ∧ flatV v = true ∧ flatV u = true := by
  cases hd <;> cases he <;> first | exact absurd fd Bool.false_ne_true | exact absurd fe Bool.false_ne_true | (refine ⟨?_, rfl, rfl⟩; simp only [eqV, D.eqv]; done) | (refine ⟨?_, rfl, rfl⟩; simp only [eqV, D.eqv]; exact T_beq)
theorem inV_of {ds : List D} {vs : List V} (r : Rps B G ds vs) (f : ds.all D.flat = true) {d : D} {v : V} (hd : Rp B G d v) (fd : d.flat = true) : inV v vs = mem d ds ∧ vs.all flatV = true := by
  induction ds generalizing vs with
  | nil => cases r; exact ⟨rfl, rfl⟩
  | cons e ds ih =>
    cases r with
    | cons h r =>
    rw [List.all_cons, Bool.and_eq_true] at f
    obtain ⟨h1, h2⟩ := ih r f.2
    obtain ⟨q1, q2, _⟩ := eqV_of h hd f.1 fd
    refine ⟨?_, by rw [List.all_cons, q2, h2]; rfl⟩
    unfold inV mem at h1 ⊢
    rw [List.any_cons, List.any_cons, h1, q1]
theorem memD_of {ds : List D} (f : D.pls 50 ds = true) {d : D} (fd : D.pl 50 d = true) : ((D.pys ds).any fun z => PyData.eqv z d.py) = mem d ds := by
  induction ds with
  | nil => rfl
  | cons e ds ih =>
    rw [D.pls, Bool.and_eq_true] at f
    have h1 := ih f.2
    unfold mem at h1 ⊢
    rw [D.pys, List.any_cons, List.any_cons, h1, py_eqv 50 50 e d f.1 fd]
theorem Rr.flat {d : D} {v : V} (h : Rr B G H d v) (f : d.flat = true) : Rp B G d v := by
  cases h with
  | non => exact .non
  | bl b => exact .bl b
  | int i => exact .int i
  | str z => exact .str z
  | _ => cases f
theorem rEq_ok {d e : D} {v u : V} {b : Bool} (r : Rep B Z ρ σ G H) (hd : Rr B G H d v) (he : Rr B G H e u) (h : deq d e = some b) :
    (scal v u = true ∧ decide (v = u) = b) ∨ (∃ x y, Dp B.K H v x ∧ Dp B.K H u y ∧ SeqAt.shaped x = true ∧ SeqAt.shaped y = true ∧ PyData.eqv x y = b) := by
  have deep : ∀ (h : (if D.pl 50 d && D.pl 50 e then some (D.eqv d e) else none) = some b), (∃ x y, Dp B.K H v x ∧ Dp B.K H u y ∧ SeqAt.shaped x = true ∧ SeqAt.shaped y = true ∧ PyData.eqv x y = b) := fun h => by
    split at h
    · rename_i q
      rw [Bool.and_eq_true] at q
      cases h
      exact ⟨_, _, hd.dp r.sub q.1, he.dp r.sub q.2, shaped_of q.1, shaped_of q.2, py_eqv 50 50 d e q.1 q.2⟩
    · cases h
  unfold deq at h
  split at h
  · cases hd
    cases he
    cases h
    exact .inl ⟨rfl, by simp⟩
  · cases hd
    cases he
    cases h
    refine .inl ⟨rfl, ?_⟩
    rw [← T_eq]
    simp
  · exact .inr (deep h)
theorem dis_ok {d e : D} {v u : V} {b : Bool} (hd : Rr B G H d v) (he : Rr B G H e u) (h : dis d e = some b) :
    (u = .non ∧ decide (v = .non) = b) ∨ ((∃ x y : Bool, v = .bl x ∧ u = .bl y ∧ decide (x = y) = b) ∨ (∃ (i : Int) (y : Bool), v = .int i ∧ u = .bl y ∧ false = b)) := by
  cases he with
  | non =>
    refine .inl ⟨rfl, ?_⟩
    cases hd <;> first | (cases h; simp; done) | cases h
  | bl y =>
    refine .inr ?_
    cases hd with
    | bl x => cases h; exact .inl ⟨x, y, rfl, rfl, rfl⟩
    | int i => cases h; exact .inr ⟨i, y, rfl, rfl, rfl⟩
    | _ => cases h
  | _ => cases h
theorem din_ok {d e : D} {v u : V} {b : Bool} (r : Rep B Z ρ σ G H) (hd : Rr B G H d v) (he : Rr B G H e u) (h : din d e = some b) :
    (∃ (c : Nat) (z : Str), v = .str ⟨#[c]⟩ ∧ u = .str z ∧ decide (c ∈ z.cps.toList) = b) ∨ ((∃ p xs, u = .ref p ∧ (SqL B.K H p xs ∨ SqT B.K H p xs) ∧ flatV v = true ∧ xs.all flatV = true ∧ inV v xs = b) ∨
      (∃ x ys, Dp B.K H v x ∧ Dp B.K H u (.list ys) ∧ SeqAt.shaped x = true ∧ SeqAt.shaped (.list ys) = true ∧ (ys.any fun z => PyData.eqv z x) = b)) := by
  cases he with
  | str z =>
    simp only [din] at h
    split at h
    · rename_i c
      cases hd
      cases h
      exact .inl ⟨c, T z, rfl, rfl, rfl⟩
    · cases h
  | lst hy ry =>
    rename_i a ds vs
    simp only [din] at h
    split at h
    · rename_i q
      rw [Bool.and_eq_true] at q
      cases h
      have := inV_of ry q.2 (hd.flat q.1) q.1
      refine .inr (.inl ⟨a, vs, rfl, .inl hy, ?_, this.2, this.1⟩)
      cases hd <;> first | rfl | cases q.1
    · split at h
      · rename_i q
        rw [Bool.and_eq_true] at q
        cases h
        refine .inr (.inr ⟨d.py, D.pys ds, hd.dp r.sub q.1, .lst hy (Rps.dp r.sub q.2 ry), shaped_of q.1, ?_, memD_of q.2 q.1⟩)
        have := pys_lay 50 ds q.2
        have h1 : PyData.canLay0 (.list (D.pys ds)) = true := by simp only [PyData.canLay0]; exact this.1
        have h2 : PyData.depth (.list (D.pys ds)) ≤ 64 := by simp only [PyData.depth]; omega
        show (PyData.canLay0 (.list (D.pys ds)) && decide (PyData.depth (.list (D.pys ds)) ≤ 64)) = true
        rw [h1, decide_eq_true h2]
        rfl
      · cases h
  | tup hy ry =>
    rename_i a ds vs
    simp only [din] at h
    split at h
    · rename_i q
      rw [Bool.and_eq_true] at q
      cases h
      have := inV_of ry q.2 (hd.flat q.1) q.1
      refine .inr (.inl ⟨a, vs, rfl, .inr (sqT_to r.sub hy), ?_, this.2, this.1⟩)
      cases hd <;> first | rfl | cases q.1
    · cases h
  | _ => cases h
theorem rC_ok {o : COp} {d e : D} {v u : V} {b : Bool} {Q : VK} (r : Rep B Z ρ σ G H) (hd : Rr B G H d v) (he : Rr B G H e u) (h : cop o d e = some b) (q : Q (.bl b) H) : rC B.K o v u H Q := by
  cases o with
  | eq =>
    refine (rEq_ok r hd he h).imp (fun ⟨h1, h2⟩ => ⟨h1, by rw [h2]; exact q⟩) fun ⟨x, y, h1, h2, h3, h4, h5⟩ => ⟨x, y, h1, h2, h3, h4, by rw [h5]; exact q⟩
  | ne =>
    simp only [cop, Option.map_eq_some_iff] at h
    obtain ⟨c, h, rfl⟩ := h
    refine (rEq_ok r hd he h).imp (fun ⟨h1, h2⟩ => ⟨h1, by rw [h2]; exact q⟩) fun ⟨x, y, h1, h2, h3, h4, h5⟩ => ⟨x, y, h1, h2, h3, h4, by rw [h5]; exact q⟩
  | is =>
    refine (dis_ok hd he h).imp (fun ⟨h1, h2⟩ => ⟨h1, by rw [h2]; exact q⟩) (Or.imp (fun ⟨x, y, h1, h2, h3⟩ => ⟨x, y, h1, h2, by rw [h3]; exact q⟩) fun ⟨x, y, h1, h2, h3⟩ => ⟨x, y, h1, h2, by rw [h3]; exact q⟩)
  | isnt =>
    simp only [cop, Option.map_eq_some_iff] at h
    obtain ⟨c, h, rfl⟩ := h
    refine (dis_ok hd he h).imp (fun ⟨h1, h2⟩ => ⟨h1, by rw [h2]; exact q⟩) (Or.imp (fun ⟨x, y, h1, h2, h3⟩ => ⟨x, y, h1, h2, by rw [h3]; exact q⟩) fun ⟨x, y, h1, h2, h3⟩ => ⟨x, y, h1, h2, by rw [h3]; exact q⟩)
  | inn =>
    refine (din_ok r hd he h).imp (fun ⟨c, z, h1, h2, h3⟩ => ⟨c, z, h1, h2, by rw [h3]; exact q⟩) (Or.imp (fun ⟨p, xs, h1, h2, h3, h4, h5⟩ => ⟨p, xs, h1, h2, h3, h4, by rw [if_neg Bool.false_ne_true, h5]; exact q⟩) fun ⟨x, ys, h1, h2, h3, h4, h5⟩ => ⟨x, ys, h1, h2, h3, h4, by rw [h5]; exact q⟩)
  | nin =>
    simp only [cop, Option.map_eq_some_iff] at h
    obtain ⟨c, h, rfl⟩ := h
    refine (din_ok r hd he h).imp (fun ⟨c, z, h1, h2, h3⟩ => ⟨c, z, h1, h2, by rw [h3]; exact q⟩) (Or.imp (fun ⟨p, xs, h1, h2, h3, h4, h5⟩ => ⟨p, xs, h1, h2, h3, h4, by rw [if_pos rfl, h5]; exact q⟩) fun ⟨x, ys, h1, h2, h3, h4, h5⟩ => ⟨x, ys, h1, h2, h3, h4, by rw [h5]; exact q⟩)
  | _ =>
    cases hd with
    | int i =>
      cases he with
      | int j => cases h; exact .inl ⟨i, j, rfl, rfl, q⟩
      | _ => cases h
    | str i =>
      cases he with
      | str j => cases h; exact .inr ⟨_, _, rfl, rfl, q⟩
      | _ => cases h
    | _ => cases he <;> cases h
theorem ge_cmp {o : COp} {ta tb : TE} {ma mb : Ex} (ha : GE B Z W ta ma) (hb : GE B Z W tb mb) : GE B Z W (tOp (rC B.K o) ta tb) (cmp o ma mb) := ge_two ha hb fun _ _ _ _ _ _ _ _ _ r hd he w => by
  obtain ⟨ev, h, w⟩ := w_of w
  simp only [Option.map_eq_some_iff] at h
  obtain ⟨b, h, rfl⟩ := h
  exact rC_ok r hd he h (w_val w r (.bl b))
theorem ge_chain {o o' : COp} {ta tb tc : TE} {ma mb mc : Ex} (ha : GE B Z W ta ma) (hb : GE B Z W tb mb) (hc : GE B Z W tc mc) : GE B Z W (tChain (rC B.K o) (rC B.K o') ta tb tc) (chain o o' ma mb mc) := by
  intro ρ σ G H Q q w
  refine ha.bind q w fun ev v ρ1 G1 H1 r1 s1 p1 w1 => ?_
  refine hb.bind r1 (Rel := fun ev v ρ' G' H' => RepV B Z H1 ρ' σ G' H' ev v) (WantE.to w1 s1 r1) fun eu u ρ2 G2 H2 r2 s2 p2 w2 => ?_
  have p1' := p1.step s2
  cases e1 : ev.peek ρ2 with
  | none => simp only [e1] at w2; exact w2.elim
  | some d =>
  cases e2 : eu.peek ρ2 with
  | none => simp only [e1, e2] at w2; exact w2.elim
  | some e =>
  simp only [e1, e2] at w2
  have w2 := WantE.to w2 s2 r2
  cases e3 : cop o d e with
  | none => simp only [e3] at w2; exact w2.elim
  | some k =>
    simp only [e3] at w2
    refine rC_ok r2 (p1'.peek r2 e1) (p2.peek r2 e2) e3 ⟨k, rfl, ?_⟩
    cases k with
    | false => exact w_val w2 r2 (.bl false)
    | true =>
      rw [if_pos rfl]
      refine hc.bind r2 w2 fun ec z ρ3 G3 H3 r3 s3 p3 w3 => ?_
      have p2' := p2.step s3
      cases f1 : eu.peek ρ3 with
      | none => simp only [f1] at w3; exact w3.elim
      | some e' =>
      cases f2 : ec.peek ρ3 with
      | none => simp only [f1, f2] at w3; exact w3.elim
      | some z' =>
      simp only [f1, f2] at w3
      have w3 := WantE.to w3 s3 r3
      obtain ⟨ev', h, w3⟩ := w_of w3
      simp only [Option.map_eq_some_iff] at h
      obtain ⟨b, h, rfl⟩ := h
      exact rC_ok r3 (p2'.peek r3 f1) (p3.peek r3 f2) h (w_val w3 r3 (.bl b))
end
end Vm

set_option Elab.async false
set_option linter.all false
set_option maxRecDepth 100000
set_option maxHeartbeats 2000000
namespace Vm
open PySem PySem.Spec PyProof.Rows L2

section
variable {B : Tb} {Z : XR} {W : WX} {ρ : Vm.Env} {σ : L2.St} {G H : Hp}
theorem tru_of {d : D} {v : V} {k : Bool} (r : Rep B Z ρ σ G H) (h : Rr B G H d v) (e : d.tru = some k) : TruV B.K v H k := by
  cases h with
  | non => cases e; rfl
  | bl b => cases e; rfl
  | int i => cases e; rfl
  | str z =>
    simp only [D.tru] at e
    split at e
    · cases e
      refine ⟨by rw [T_len, ← line_eq]; assumption, ?_⟩
      rw [T_len]
      cases z with
      | nil => rfl
      | cons a z =>
        simp only [List.isEmpty_cons, Bool.not_false, List.length_cons]
        symm
        rw [bne_iff_ne]
        omega
    · cases e
  | tup h r' => cases e; exact .inr (.inl ⟨_, sqT_to r.sub h, by cases r' <;> rfl⟩)
  | lst h r' => cases e; exact .inl ⟨_, h, by cases r' <;> rfl⟩
  | _ => cases e
theorem gt_tst {ta : TE} {ma : Ex} (ha : GE B Z W ta ma) : GT B Z W (fun σ H Q => ta σ H fun x H' => ∃ k, TruV B.K x H' k ∧ Q k H') (tst ma) := by
  intro ρ σ G H Q q w
  refine ha.bind q w fun ev v ρ1 G1 H1 r1 s1 p1 w1 => ?_
  cases e : (ev.peek ρ1).bind D.tru with
  | none => rw [e] at w1; exact w1.elim
  | some k =>
    rw [e] at w1
    obtain ⟨d, e1, e2⟩ := Option.bind_eq_some_iff.mp e
    exact ⟨k, tru_of r1 (p1.peek r1 e1) e2, w1 k G1 H1 r1 s1 rfl⟩
theorem gt_and {ta tb : TT} {ma mb : Tst} (ha : GT B Z W ta ma) (hb : GT B Z W tb mb) : GT B Z W (L2.tAnd ta tb) (tAnd ma mb) := by
  intro ρ σ G H Q q w
  refine GP.bind ha q w fun k ρ1 G1 H1 r1 s1 w1 => ?_
  cases k with
  | true => exact hb ρ1 σ G1 H1 Q r1 (WantP.to w1 s1 r1)
  | false => exact w1 false G1 H1 r1 s1 rfl
theorem gt_or {ta tb : TT} {ma mb : Tst} (ha : GT B Z W ta ma) (hb : GT B Z W tb mb) : GT B Z W (L2.tOr ta tb) (tOr ma mb) := by
  intro ρ σ G H Q q w
  refine GP.bind ha q w fun k ρ1 G1 H1 r1 s1 w1 => ?_
  cases k with
  | false => exact hb ρ1 σ G1 H1 Q r1 (WantP.to w1 s1 r1)
  | true => exact w1 true G1 H1 r1 s1 rfl
theorem gt_not {ta : TT} {ma : Tst} (ha : GT B Z W ta ma) : GT B Z W (L2.tNot ta) (tNot ma) := by
  intro ρ σ G H Q q w
  refine GP.bind ha q w fun k ρ1 G1 H1 r1 s1 w1 => ?_
  exact w1 (!k) G1 H1 r1 s1 rfl
theorem ge_and {ta tb : TE} {ma mb : Ex} (ha : GE B Z W ta ma) (hb : GE B Z W tb mb) : GE B Z W (tAndT B.K ta tb) (andE ma mb) := by
  intro ρ σ G H Q q w
  refine ha.bind q w fun ev v ρ1 G1 H1 r1 s1 p1 w1 => ?_
  cases e : (ev.peek ρ1).bind D.tru with
  | none => rw [e] at w1; exact w1.elim
  | some k =>
    rw [e] at w1
    obtain ⟨d, e1, e2⟩ := Option.bind_eq_some_iff.mp e
    refine ⟨k, tru_of r1 (p1.peek r1 e1) e2, ?_⟩
    cases k with
    | true => exact hb ρ1 σ G1 H1 Q r1 (WantE.to w1 s1 r1)
    | false => exact w1 v G1 H1 r1 s1 p1
theorem ge_or {ta tb : TE} {ma mb : Ex} (ha : GE B Z W ta ma) (hb : GE B Z W tb mb) : GE B Z W (tOrT B.K ta tb) (orE ma mb) := by
  intro ρ σ G H Q q w
  refine ha.bind q w fun ev v ρ1 G1 H1 r1 s1 p1 w1 => ?_
  cases e : (ev.peek ρ1).bind D.tru with
  | none => rw [e] at w1; exact w1.elim
  | some k =>
    rw [e] at w1
    obtain ⟨d, e1, e2⟩ := Option.bind_eq_some_iff.mp e
    refine ⟨k, tru_of r1 (p1.peek r1 e1) e2, ?_⟩
    cases k with
    | false => exact hb ρ1 σ G1 H1 Q r1 (WantE.to w1 s1 r1)
    | true => exact w1 v G1 H1 r1 s1 p1
theorem ge_not {ta : TE} {ma : Ex} (ha : GE B Z W ta ma) : GE B Z W (tNotV ta) (notE ma) := by
  refine ge_one (r := fun x H Q => ∃ c, x = .bl c ∧ Q (.bl (!c)) H) ha fun d v ρ σ G H Q r hd w => ?_
  cases hd with
  | bl b => exact ⟨b, rfl, w_val w r (.bl _)⟩
  | _ => exact w.elim
theorem ge_neg {ta : TE} {ma : Ex} (ha : GE B Z W ta ma) : GE B Z W (tUn (rU fun i => .int (-i)) ta) (neg ma) := by
  refine ge_one (r := rU fun i => .int (-i)) ha fun d v ρ σ G H Q r hd w => ?_
  cases hd with
  | int b => exact ⟨b, rfl, w_val w r (.int _)⟩
  | _ => exact w.elim
theorem ge_ifx {tc : TT} {ta tb : TE} {mc : Tst} {ma mb : Ex} (hc : GT B Z W tc mc) (ha : GE B Z W ta ma) (hb : GE B Z W tb mb) : GE B Z W (tIf tc ta tb) (ifx mc ma mb) := by
  intro ρ σ G H Q q w
  refine GP.bind hc q w fun k ρ1 G1 H1 r1 s1 w1 => ?_
  cases k with
  | true => exact ha ρ1 σ G1 H1 Q r1 (WantE.to w1 s1 r1)
  | false => exact hb ρ1 σ G1 H1 Q r1 (WantE.to w1 s1 r1)

/-! ### argument lists, displays -/
theorem ga_nil : GA B Z W tNil nilA := fun ρ σ G H Q r w => w [] G H r Step.refl .nil
theorem RepVs.mem {H0 : Hp} {es : List EV} {vs : List V} (q : RepVs B Z H0 ρ σ G H es vs) {v : V} (h : v ∈ frs es vs) : ∃ a, v = .ref a ∧ H0 a = none := by
  induction q with
  | nil => cases h
  | @cons e u es us h1 r d ih =>
    cases e with
    | fr d0 =>
      simp only [frs] at h
      rcases List.mem_cons.mp h with h | h
      · subst h
        cases h1 with
        | fr n c f ne => exact ⟨_, rfl, f⟩
      · exact ih h
    | _ => exact ih h
theorem ga_cons {ta : TE} {xa : TA} {ma : Ex} {na : Exs} (ha : GE B Z W ta ma) (hx : GA B Z W xa na) : GA B Z W (tCons ta xa) (consA ma na) := by
  intro ρ σ G H Q q w
  refine ha.bind q w fun ev v ρ1 G1 H1 r1 s1 p1 w1 => ?_
  refine hx ρ1 σ G1 H1 _ r1 ?_
  cases e : na ρ1 with
  | bad => rw [e] at w1; exact w1.elim
  | exc x ρ2 =>
    rw [e] at w1
    exact fun c d G2 H2 r2 s2 p2 => w1 c d G2 H2 r2 (s1.trans r1 s2) p2
  | ok es ρ2 =>
    rw [e] at w1
    intro vs G2 H2 r2 s2 p2
    refine w1 (v :: vs) G2 H2 r2 (s1.trans r1 s2) (.cons (p1.step s2) (p2.old fun b h => none_back s1.stp h) fun d e hv => ?_)
    subst e
    obtain ⟨a, rfl, h⟩ := p2.mem hv
    cases p1 with
    | fr n c f ne => exact c.ne h
/-- what was read is frozen -/
theorem w_frz {es : List EV} {vs : List V} {G0 H0 : Hp} {ρ0 : Vm.Env} {ds : List D} {ρ' : Vm.Env} (q : RepVs B Z H0 ρ σ G H es vs) (s : Step ρ0 σ G0 H0 ρ σ G H) (r : Rep B Z ρ σ G H) (e : frzs ρ es = some (ds, ρ')) :
    ∃ G', Rep B Z ρ' σ G' H ∧ Rps B G' ds vs ∧ Step ρ0 σ G0 H0 ρ' σ G' H := by
  obtain ⟨G', r', p, t, o, k⟩ := q.frz r (fun b h => none_back s.stp h) e
  exact ⟨G', r', p, s.frz r t o k⟩
theorem w_frz1 {ev : EV} {v : V} {G0 H0 : Hp} {ρ0 : Vm.Env} {d : D} {ρ' : Vm.Env} (q : RepV B Z H0 ρ σ G H ev v) (s : Step ρ0 σ G0 H0 ρ σ G H) (r : Rep B Z ρ σ G H) (e : ev.frz ρ = some (d, ρ')) :
    ∃ G', Rep B Z ρ' σ G' H ∧ Rp B G' d v ∧ Step ρ0 σ G0 H0 ρ' σ G' H := by
  obtain ⟨G', r', p, t, o, k, _⟩ := q.frz r (fun b h => none_back s.stp h) e
  exact ⟨G', r', p, s.frz r t o k⟩
theorem ge_tup {xa : TA} {na : Exs} (hx : GA B Z W xa na) : GE B Z W (tTup xa) (tupE na) := by
  intro ρ σ G H Q q w
  refine GA.bind hx q w fun es vs ρ1 G1 H1 r1 s1 p1 w1 => ?_
  cases e : frzs ρ1 es with
  | none => simp only [e] at w1; exact w1.elim
  | some x =>
    obtain ⟨ds, ρ2⟩ := x
    simp only [e] at w1
    obtain ⟨G2, r2, p2, s2⟩ := w_frz p1 s1 r1 e
    by_cases hl : ds.length ≤ line
    · rw [if_pos hl] at w1
      refine ⟨by rw [p2.len, ← line_eq]; exact hl, fun p hp => w_newF (WantE.to w1 s2 r2) r2 (fun G' p s e => .tup (SqT.of e) (p2.to s)) hp⟩
    · rw [if_neg hl] at w1
      exact w1.elim
theorem ge_lst {xa : TA} {na : Exs} (hx : GA B Z W xa na) : GE B Z W (tLst xa) (lstE na) := by
  intro ρ σ G H Q q w
  refine GA.bind hx q w fun es vs ρ1 G1 H1 r1 s1 p1 w1 => ?_
  cases e : frzs ρ1 es with
  | none => simp only [e] at w1; exact w1.elim
  | some x =>
    obtain ⟨ds, ρ2⟩ := x
    simp only [e] at w1
    obtain ⟨G2, r2, p2, s2⟩ := w_frz p1 s1 r1 e
    by_cases hl : ds.length ≤ line
    · rw [if_pos hl] at w1
      refine ⟨by rw [p2.len, ← line_eq]; exact hl, fun p hp => w_new (WantE.to w1 s2 r2) r2 (fun p => .lst upd_same p2) hp⟩
    · rw [if_neg hl] at w1
      exact w1.elim

/-! ### items, slices, fields -/
theorem ixN_eq (n : Nat) (i : Int) : Vm.ixN n i = L2.ixN n i := rfl
def rIx (K : PySem.W.Frag) : R2 := fun x y H Q => rIxL K x y H Q ∨ (rIxT K x y H Q ∨ rIxS x y H Q)
theorem or_ix {X : Cx} : IxR X (rIx X.K) := IxR.or ix_list (IxR.or ix_tup ix_str)
theorem atI_get {ds : List D} {vs : List V} {i : Int} {d : D} (r : Rps B G ds vs) (e : Vm.atI ds i = some d) : ∃ v, L2.atI vs i = some v ∧ Rp B G d v := by
  unfold Vm.atI at e
  obtain ⟨j, h1, h2⟩ := Option.bind_eq_some_iff.mp e
  obtain ⟨v, h3, h4⟩ := r.get h2
  refine ⟨v, ?_, h4⟩
  unfold L2.atI
  rw [r.len]
  have : L2.ixN ds.length i = some j := h1
  rw [this]
  exact h3
theorem ge_idx {ta tb : TE} {ma mb : Ex} (ha : GE B Z W ta ma) (hb : GE B Z W tb mb) : GE B Z W (tOp (rIx B.K) ta tb) (idx ma mb) := ge_two ha hb fun d e v u ρ σ G H Q r hd he w => by
  obtain ⟨ev, h, w'⟩ := w_of w
  clear w
  simp only [Option.map_eq_some_iff] at h
  obtain ⟨x, h, rfl⟩ := h
  cases he with
  | int i =>
    cases hd with
    | lst hx rx =>
      obtain ⟨v', h1, h2⟩ := atI_get rx h
      exact .inl ⟨_, _, i, v', rfl, rfl, hx, h1, w_val w' r h2⟩
    | tup hx rx =>
      obtain ⟨v', h1, h2⟩ := atI_get rx h
      exact .inr (.inl ⟨_, _, i, v', rfl, rfl, sqT_to r.sub hx, h1, w_val w' r h2⟩)
    | str z =>
      simp only [ixd] at h
      split at h
      · simp only [Option.map_eq_some_iff] at h
        obtain ⟨c, h, rfl⟩ := h
        exact .inr (.inr ⟨T z, i, c, rfl, rfl, by rw [T_len, ← line_eq]; assumption, h, w_val w' r (.str _)⟩)
      · cases h
    | _ => cases h
  | _ => cases hd <;> cases h
def rSl (K : PySem.W.Frag) : V → Option Int → Option Int → Hp → VK → Prop := fun x lo hi H Q => rSlL K x lo hi H Q ∨ (rSlA K x lo hi H Q ∨ rSlS x lo hi H Q)
theorem or_sl {X : Cx} : L2.SlR X (rSl X.K)   := L2.SlR.or sl_list (L2.SlR.or sl_tupA sl_str)
theorem sIx_eq (n d : Nat) (o : Option Int) : Vm.sIx n d o = HT.sIx n d o := by cases o <;> rfl
theorem cut_eq {ds : List D} {vs : List V} (r : Rps B G ds vs) (lo hi : Option Int) : Rps B G (cut ds lo hi) (cutV vs lo hi) := by
  unfold cut cutV
  rw [r.len, sIx_eq, sIx_eq]
  exact (r.drop _).take _
theorem gp_noPart : GP B Z W tNoPart noPart := fun ρ σ G H Q r w => w none G H r Step.refl rfl
theorem gp_part {ta : TE} {ma : Ex} (ha : GE B Z W ta ma) : GP B Z W (tPart ta) (part ma) := by
  intro ρ σ G H Q q w
  refine ha.bind q w fun ev v ρ1 G1 H1 r1 s1 p1 w1 => ?_
  cases e : ev.peek ρ1 with
  | none => simp only [e] at w1; exact w1.elim
  | some d =>
    have h := p1.peek r1 e
    simp only [e] at w1
    cases h with
    | int i => exact ⟨i, rfl, w1 (some i) G1 H1 r1 s1 rfl⟩
    | _ => exact w1.elim
theorem ge_slc {ta : TE} {tl th : L2.St → Hp → (Option Int → Hp → Prop) → Prop} {ma : Ex} {ml mh : Opt} (ha : GE B Z W ta ma) (hl : GP B Z W tl ml) (hh : GP B Z W th mh) : GE B Z W (tSl (rSl B.K) ta tl th) (slc ma ml mh) := by
  intro ρ σ G H Q q w
  refine ha.bind q w fun ev v ρ1 G1 H1 r1 s1 p1 w1 => ?_
  refine GP.bind (Rel := fun ev v ρ' G' H' => RepV B Z H1 ρ' σ G' H' ev v) hl r1 (WantE.to w1 s1 r1) fun lo ρ2 G2 H2 r2 s2 w2 => ?_
  refine GP.bind (Rel := fun ev v ρ' G' H' => RepV B Z H2 ρ' σ G' H' ev v) hh r2 (WantE.to w2 s2 r2) fun hi ρ3 G3 H3 r3 s3 w3 => ?_
  have p3 := (p1.step s2).step s3
  cases e : ev.peek ρ3 with
  | none => simp only [e] at w3; exact w3.elim
  | some d =>
    have h := p3.peek r3 e
    simp only [e] at w3
    obtain ⟨ev', h', w4⟩ := w_of (WantE.to w3 s3 r3)
    cases h with
    | lst hx rx =>
      cases h'
      exact .inl ⟨_, _, rfl, hx, fun p hp => w_new w4 r3 (fun p => .lst upd_same (cut_eq rx lo hi)) hp⟩
    | tup hx rx =>
      refine .inr (.inl ⟨_, _, rfl, sqT_to r3.sub hx, fun z => ?_, fun z p hp => ?_⟩)
      · rw [rx.len, ← sIx_eq, ← sIx_eq] at z
        simp only [slcd, if_pos z] at h'
        cases h'
        exact w_val w4 r3 (.tup hx rx)
      · rw [rx.len, ← sIx_eq, ← sIx_eq] at z
        simp only [slcd, if_neg z] at h'
        cases h'
        exact w_newF w4 r3 (fun G' p s e => .tup (SqT.of e) ((cut_eq rx lo hi).to s)) hp
    | str z =>
      simp only [slcd] at h'
      split at h'
      · cases h'
        refine .inr (.inr ⟨T z, rfl, by rw [T_len, ← line_eq]; assumption, ?_⟩)
        have : cutS (T z) lo hi = T (cut z lo hi) := by
          unfold cutS cut
          rw [T_len, sIx_eq, sIx_eq]
        rw [this]
        exact w_val w4 r3 (.str _)
      · cases h'
    | _ => cases h'
end
end Vm

set_option Elab.async false
set_option linter.all false
set_option maxRecDepth 100000
set_option maxHeartbeats 2000000
namespace Vm
open PySem PySem.Spec PyProof.Rows L2

/-- arguments, as they lie -/
inductive ArgR (B : Tb) (G H : Hp) : Arg → V → Prop where
  | val {d : D} {v : V} (r : Rp B G d v) : ArgR B G H (.val d) v
  | io {a : Addr} {d : D} (n : G a = none) (c : Cell B G H a d) : ArgR B G H (.io d) (.ref a)
inductive ArgsR (B : Tb) (G H : Hp) : List Arg → List V → Prop where
  | nil : ArgsR B G H [] []
  | cons {x : Arg} {v : V} {xs : List Arg} {vs : List V} (h : ArgR B G H x v) (r : ArgsR B G H xs vs) : ArgsR B G H (x :: xs) (v :: vs)
/-- the address of the i-th argument, that is the caller's own -/
def IoA (xs : List Arg) (vs : List V) (i : Nat) (a : Addr) : Prop := (∃ d, xs[i]? = some (Arg.io d)) ∧ vs[i]? = some (V.ref a)
def IoAny (xs : List Arg) (vs : List V) (a : Addr) : Prop := ∃ i, IoA xs vs i a
structure EntryR (B : Tb) (G H : Hp) (xs : List Arg) (vs : List V) : Prop where
  args : ArgsR B G H xs vs
  sub : Same G H
  inj : ∀ i j a, IoA xs vs i a → IoA xs vs j a → i = j
/-- behind a call -/
structure PostR (B : Tb) (xs : List Arg) (vs : List V) (G H : Hp) (outs : List D) (G' H' : Hp) : Prop where
  stp : Stp (IoAny xs vs) G H G' H'
  sub : Same G' H'
  len : outs.length = xs.length
  io : ∀ i a, IoA xs vs i a → G' a = none ∧ ∃ d, outs[i]? = some d ∧ Cell B G' H' a d
inductive RetR (B : Tb) (H0 G H : Hp) : RV → V → Prop where
  | val {d : D} {v : V} (r : Rp B G d v) : RetR B H0 G H (.val d) v
  | fr {a : Addr} {d : D} (n : G a = none) (c : Cell B G H a d) (f : H0 a = none) : RetR B H0 G H (.fr d) (.ref a)
def WantF (B : Tb) (r : FR) (xs : List Arg) (vs : List V) (G H : Hp) (Q : VK) (E : XK) : Prop :=
  match r with
  | .ret rv outs => ∀ (v : V) (G' H' : Hp), PostR B xs vs G H outs G' H' → RetR B H G' H' rv v → Q v H'
  | .exc x outs => ∀ (cls : Value) (d : Option Addr) (G' H' : Hp), PostR B xs vs G H outs G' H' → XcR B G' H' x cls d → E cls d H'
  | .bad => False
/-- THE PROMISE of a def whose function is F -/
def spF (B : Tb) (F : Fn) (np : Nat) : Sp := fun vs H Q E => vs.length = np ∧ ∃ (xs : List Arg) (G : Hp), EntryR B G H xs vs ∧ WantF B (F xs) xs vs G H Q E

/-- what was handed over -/
inductive HandR (B : Tb) (H0 : Hp) (ρ : Vm.Env) (σ : L2.St) (G H : Hp) : List Arg → List (Option Nat) → List V → Prop where
  | nil : HandR B H0 ρ σ G H [] [] []
  | val {d : D} {v : V} {as : List Arg} {ls : List (Option Nat)} {vs : List V} (q : Rp B G d v) (r : HandR B H0 ρ σ G H as ls vs) : HandR B H0 ρ σ G H (.val d :: as) (none :: ls) (v :: vs)
  | own {i : Nat} {a : Addr} {io : Bool} {d : D} {as : List Arg} {ls : List (Option Nat)} {vs : List V} (e : σ[i]? = some (some (.ref a))) (o : ρ[i]? = some (.ow io false d)) (n : some i ∉ ls) (r : HandR B H0 ρ σ G H as ls vs) :
      HandR B H0 ρ σ G H (.io d :: as) (some i :: ls) (.ref a :: vs)
  | fr {a : Addr} {d : D} {as : List Arg} {ls : List (Option Nat)} {vs : List V} (n : G a = none) (c : Cell B G H a d) (f : H0 a = none) (ne : ∀ i, ¬ OwnA ρ σ i a) (t : ∀ i, ¬ IoA as vs i a) (r : HandR B H0 ρ σ G H as ls vs) :
      HandR B H0 ρ σ G H (.io d :: as) (none :: ls) (.ref a :: vs)
section
variable {B : Tb} {Z : XR} {H0 : Hp} {ρ ρ1 ρ' : Vm.Env} {σ : L2.St} {G H G1 H1 : Hp}
theorem RepVs.frzT {es : List EV} {vs : List V} (t : RepVs B Z H0 ρ σ G H es vs) (s : Same G G1) (o : ∀ i b, OwnA ρ1 σ i b → OwnA ρ σ i b) (n : ∀ b, G1 b ≠ none → G b = none → V.ref b ∉ frs es vs) : RepVs B Z H0 ρ1 σ G1 H es vs := by
  induction t with
  | nil => exact .nil
  | @cons e2 v2 es2 vs2 h2 t2 d2 ih2 =>
    refine .cons ?_ (ih2 fun b h1 h2 hv => n b h1 h2 (frs_sub hv)) d2
    cases h2 with
    | val z => exact .val (z.to s)
    | own z => exact .own z
    | fr n' c f ne =>
      rename_i a2 d2
      refine .fr ?_ (c.to s fun _ z => z) f fun i z => ne i (o i _ z)
      cases hg : G1 a2 with
      | none => rfl
      | some o => exact absurd (List.mem_cons_self) (n a2 (by rw [hg]; exact fun z => nomatch z) n')
    | ex z => exact .ex (Z.mono s z)
theorem RepVs.notOwn {es : List EV} {vs : List V} (t : RepVs B Z H0 ρ σ G H es vs) {b : Addr} (hv : V.ref b ∈ frs es vs) : ∀ i, ¬ OwnA ρ σ i b := by
  induction t with
  | nil => cases hv
  | @cons e2 v2 es2 vs2 h2 t2 d2 ih2 =>
    cases e2 with
    | fr d0 =>
      simp only [frs] at hv
      rcases List.mem_cons.mp hv with hv | hv
      · cases h2 with
        | fr n c f ne =>
          cases hv
          exact ne
      · exact ih2 hv
    | _ => exact ih2 hv
theorem HandR.frsA {as : List Arg} {ls : List (Option Nat)} {vs : List V} (h : HandR B H0 ρ σ G H as ls vs) : ∀ {i : Nat} {a : Addr}, IoA as vs i a → (∃ j, OwnA ρ σ j a) ∨ H0 a = none := by
  induction h with
  | nil => intro i a h; obtain ⟨⟨d, h⟩, _⟩ := h; simp at h
  | val q r ih =>
    intro i a h
    cases i with
    | zero => obtain ⟨⟨d, h⟩, _⟩ := h; simp at h
    | succ i => exact ih ⟨by simpa using h.1, by simpa using h.2⟩
  | @own j b io d as ls vs e o n r ih =>
    intro i a h
    cases i with
    | zero =>
      have : b = a := by simpa using h.2
      subst this
      exact .inl ⟨j, ⟨io, false, d, o⟩, e⟩
    | succ i => exact ih ⟨by simpa using h.1, by simpa using h.2⟩
  | @fr b d as ls vs n c f ne t r ih =>
    intro i a h
    cases i with
    | zero =>
      have : b = a := by simpa using h.2
      subst this
      exact .inr f
    | succ i => exact ih ⟨by simpa using h.1, by simpa using h.2⟩
theorem RepVs.hand {es : List EV} {vs : List V} (q : RepVs B Z H0 ρ σ G H es vs) : ∀ (ms : List Bool) (r : Rep B Z ρ σ G H) (h0 : ∀ b, H b = none → H0 b = none) {as : List Arg} {ls : List (Option Nat)} {ρ' : Vm.Env} (e : Vm.hand ρ ms es = some (as, ls, ρ')),
    ∃ G', Rep B Z ρ' σ G' H ∧ HandR B H0 ρ' σ G' H as ls vs ∧ Stp (fun b => Own ρ σ b ∨ H0 b = none) G H G' H ∧ (∀ i b, OwnA ρ' σ i b → OwnA ρ σ i b) ∧
      (∀ (i : Nat) (io lk : Bool) (d : D), io = true ∨ lk = true → ρ[i]? = some (SD.ow io lk d) → ρ'[i]? = some (SD.ow io lk d)) ∧ (∀ b, G' b ≠ none → G b = none → (∃ i, OwnA ρ σ i b) ∨ V.ref b ∈ frs es vs) ∧
      (∀ i a, IoA as vs i a → (∃ j, OwnA ρ' σ j a) ∨ V.ref a ∈ frs es vs) := by
  induction es generalizing ρ G vs with
  | nil =>
    intro ms r h0 as ls ρ' e
    cases q
    simp only [Vm.hand] at e
    cases e
    exact ⟨G, r, .nil, Stp.refl, fun _ _ h => h, fun _ _ _ _ _ h => h, fun b h1 h2 => absurd h2 h1, fun i a h => by obtain ⟨⟨d, h⟩, _⟩ := h; simp at h⟩
  | cons ev es ih =>
    intro ms r h0 as ls ρ' e
    cases q with
    | @cons _ v _ vs h t dis =>
    -- by value
    have byV : ∀ {as : List Arg} {ls : List (Option Nat)} {ρ' : Vm.Env} (_ : (match ev.frz ρ with
      | some (d, ρ1) => (match Vm.hand ρ1 ms.tail es with
        | some (as, ls, ρ2) => some (Arg.val d :: as, (none : Option Nat) :: ls, ρ2)
        | none => none)
      | none => none) = some (as, ls, ρ')), ∃ G', Rep B Z ρ' σ G' H ∧ HandR B H0 ρ' σ G' H as ls (v :: vs) ∧ Stp (fun b => Own ρ σ b ∨ H0 b = none) G H G' H ∧ (∀ i b, OwnA ρ' σ i b → OwnA ρ σ i b) ∧
      (∀ (i : Nat) (io lk : Bool) (d : D), io = true ∨ lk = true → ρ[i]? = some (SD.ow io lk d) → ρ'[i]? = some (SD.ow io lk d)) ∧ (∀ b, G' b ≠ none → G b = none → (∃ i, OwnA ρ σ i b) ∨ V.ref b ∈ frs (ev :: es) (v :: vs)) ∧
      (∀ i a, IoA as (v :: vs) i a → (∃ j, OwnA ρ' σ j a) ∨ V.ref a ∈ frs (ev :: es) (v :: vs)) := by
      intro as ls ρ' e
      split at e
      · rename_i d ρ1 e1
        split at e
        · rename_i as' ls' ρ2 e2
          cases e
          obtain ⟨G1, r1, p1, s1, o1, k1, n1⟩ := h.frz r h0 e1
          have t1 : RepVs B Z H0 ρ1 σ G1 H es vs := t.frzT s1.g o1 fun b h1 h2 hv => by
            obtain ⟨q1, q2⟩ := n1 b h1 h2
            rcases q2 with ⟨i, q2⟩ | ⟨d3, q2⟩
            · obtain ⟨a, ha, hn⟩ := t.mem hv
              cases ha
              exact t.notOwn hv i q2
            · exact dis d3 q2 (by rw [q1]; exact hv)
          obtain ⟨G2, r2, p2, s2, o2, k2, n2, m2⟩ := ih t1 ms.tail r1 h0 e2
          refine ⟨G2, r2, .val (p1.to s2.g) p2, ⟨fun _ _ e _ => e, fun _ e => e, s1.g.trans s2.g, fun b h1 h2 h3 => ?_⟩, fun i b z => o1 i b (o2 i b z), fun i io lk d z1 z2 => k2 i io lk d z1 (k1 i io lk d z1 z2), fun b h1 h2 => ?_, fun i a hi => ?_⟩
          · refine s2.n b h1 (s1.n b h1 h2 h3) fun z => h3 (z.imp (fun ⟨i, io, d, z1, z2⟩ => ?_) id)
            obtain ⟨⟨io', lk', d', y1⟩, y2⟩ := o1 i b ⟨⟨io, false, d, z1⟩, z2⟩
            cases lk' with
            | false => exact ⟨i, io', d', y1, y2⟩
            | true =>
              have := k1 i io' true d' (.inr rfl) y1
              rw [z1] at this
              cases this
          · cases hg : G1 b with
            | none =>
              rcases n2 b h1 hg with ⟨i, z⟩ | z
              · exact .inl ⟨i, o1 i b z⟩
              · exact .inr (frs_sub z)
            | some o =>
              obtain ⟨q1, q2⟩ := n1 b (by rw [hg]; exact fun z => nomatch z) h2
              rcases q2 with q2 | ⟨d3, q2⟩
              · exact .inl q2
              · subst q1 q2
                exact .inr (by simp [frs])
          · cases i with
            | zero => obtain ⟨⟨d, hi⟩, _⟩ := hi; simp at hi
            | succ i =>
              rcases m2 i a ⟨by simpa using hi.1, by simpa using hi.2⟩ with z | z
              · exact .inl z
              · exact .inr (frs_sub z)
        · cases e
      · cases e
    cases hm : ms.headD false with
    | false =>
      simp only [Vm.hand, hm] at e
      exact byV e
    | true =>
      cases ev with
      | val d =>
        simp only [Vm.hand, hm] at e
        exact byV e
      | ex c fs =>
        simp only [Vm.hand, hm] at e
        exact byV e
      | own i =>
        simp only [Vm.hand, hm] at e
        split at e
        · rename_i as' ls' ρ2 e2
          obtain ⟨G2, r2, p2, s2, o2, k2, n2, m2⟩ := ih t ms.tail r h0 e2
          split at e
          · rename_i io d e3
            split at e
            · cases e
            · rename_i hc
              cases e
              cases h with
              | own e4 =>
              refine ⟨G2, r2, .own e4 e3 (fun z => hc (by simpa using z)) p2, s2, o2, k2, fun b h1 h2 => (n2 b h1 h2).imp id frs_sub, fun j a hj => ?_⟩
              cases j with
              | zero =>
                have := hj.2
                simp at this
                subst this
                exact .inl ⟨i, ⟨io, false, d, e3⟩, e4⟩
              | succ j => exact (m2 j a ⟨by simpa using hj.1, by simpa using hj.2⟩).imp id frs_sub
          · cases e
        · cases e
      | fr d =>
        simp only [Vm.hand, hm] at e
        split at e
        · rename_i as' ls' ρ2 e2
          cases e
          obtain ⟨G2, r2, p2, s2, o2, k2, n2, m2⟩ := ih t ms.tail r h0 e2
          cases h with
          | @fr a _ n c f ne =>
          have ng : G2 a = none := by
            cases hg : G2 a with
            | none => rfl
            | some o =>
              rcases n2 a (by rw [hg]; exact fun z => nomatch z) n with ⟨i, z⟩ | z
              · exact absurd z (ne i)
              · exact absurd z (dis d rfl)
          refine ⟨G2, r2, .fr ng (c.to s2.g fun _ z => z) f (fun i z => ne i (o2 i a z)) (fun i z => ?_) p2, s2, o2, k2, fun b h1 h2 => (n2 b h1 h2).imp id frs_sub, fun j b hj => ?_⟩
          · rcases m2 i a z with ⟨j, z⟩ | z
            · exact ne j (o2 j a z)
            · exact dis d rfl z
          · cases j with
            | zero =>
              have := hj.2
              simp at this
              subst this
              exact .inr (by simp [frs])
            | succ j => exact (m2 j b ⟨by simpa using hj.1, by simpa using hj.2⟩).imp id frs_sub
        · cases e
end
end Vm

set_option Elab.async false
set_option linter.all false
set_option maxRecDepth 100000
set_option maxHeartbeats 2000000
namespace Vm
open PySem PySem.Spec PyProof.Rows L2
section
variable {B : Tb} {Z : XR} {H0 G0 : Hp} {ρ0 ρ ρ1 ρ' : Vm.Env} {σ : L2.St} {G H G1 H1 : Hp}
theorem IoA.succ {x : Arg} {v : V} {xs : List Arg} {vs : List V} {i : Nat} {a : Addr} (h : IoA (x :: xs) (v :: vs) (i + 1) a) : IoA xs vs i a := ⟨by simpa using h.1, by simpa using h.2⟩
theorem IoA.up {x : Arg} {v : V} {xs : List Arg} {vs : List V} {i : Nat} {a : Addr} (h : IoA xs vs i a) : IoA (x :: xs) (v :: vs) (i + 1) a := ⟨by simpa using h.1, by simpa using h.2⟩
/-- what is the caller's own among what was handed over -/
theorem HandR.own_of {as : List Arg} {ls : List (Option Nat)} {vs : List V} (h : HandR B H0 ρ σ G H as ls vs) : ∀ {i : Nat} {a : Addr}, IoA as vs i a →
    (∃ j io d, ls[i]? = some (some j) ∧ σ[j]? = some (some (.ref a)) ∧ ρ[j]? = some (SD.ow io false d)) ∨ (ls[i]? = some none ∧ H0 a = none ∧ ∀ j, ¬ OwnA ρ σ j a) := by
  induction h with
  | nil => intro i a h; obtain ⟨⟨d, h⟩, _⟩ := h; simp at h
  | val q r ih =>
    intro i a h
    cases i with
    | zero => obtain ⟨⟨d, h⟩, _⟩ := h; simp at h
    | succ i => simpa using ih h.succ
  | @own j b io d as ls vs e o n r ih =>
    intro i a h
    cases i with
    | zero =>
      have : b = a := by simpa using h.2
      subst this
      exact .inl ⟨j, io, d, rfl, e, o⟩
    | succ i => simpa using ih h.succ
  | @fr b d as ls vs n c f ne t r ih =>
    intro i a h
    cases i with
    | zero =>
      have : b = a := by simpa using h.2
      subst this
      exact .inr ⟨rfl, f, ne⟩
    | succ i => simpa using ih h.succ
theorem HandR.slot {as : List Arg} {ls : List (Option Nat)} {vs : List V} (h : HandR B H0 ρ σ G H as ls vs) : ∀ {i j : Nat}, ls[i]? = some (some j) →
    ∃ a io d, IoA as vs i a ∧ σ[j]? = some (some (.ref a)) ∧ ρ[j]? = some (SD.ow io false d) ∧ ∀ k, ls[k]? = some (some j) → k = i := by
  induction h with
  | nil => intro i j h; simp at h
  | val q r ih =>
    intro i j h
    cases i with
    | zero => simp at h
    | succ i =>
      obtain ⟨a, io, d, h1, h2, h3, h4⟩ := ih (by simpa using h)
      refine ⟨a, io, d, h1.up, h2, h3, fun k hk => ?_⟩
      cases k with
      | zero => simp at hk
      | succ k => rw [h4 k (by simpa using hk)]
  | @own j' b io d as ls vs e o n r ih =>
    intro i j h
    cases i with
    | zero =>
      have : j' = j := by simpa using h
      subst this
      refine ⟨b, io, d, ⟨⟨d, rfl⟩, rfl⟩, e, o, fun k hk => ?_⟩
      cases k with
      | zero => rfl
      | succ k => exact absurd (List.mem_of_getElem? (by simpa using hk)) n
    | succ i =>
      obtain ⟨a, io', d', h1, h2, h3, h4⟩ := ih (by simpa using h)
      refine ⟨a, io', d', h1.up, h2, h3, fun k hk => ?_⟩
      cases k with
      | zero =>
        have : j' = j := by simpa using hk
        subst this
        exact absurd (List.mem_of_getElem? (by simpa using h)) n
      | succ k => rw [h4 k (by simpa using hk)]
  | @fr b d as ls vs n c f ne t r ih =>
    intro i j h
    cases i with
    | zero => simp at h
    | succ i =>
      obtain ⟨a, io, d, h1, h2, h3, h4⟩ := ih (by simpa using h)
      refine ⟨a, io, d, h1.up, h2, h3, fun k hk => ?_⟩
      cases k with
      | zero => simp at hk
      | succ k => rw [h4 k (by simpa using hk)]
theorem HandR.args {as : List Arg} {ls : List (Option Nat)} {vs : List V} (h : HandR B H0 ρ σ G H as ls vs) (r : Rep B Z ρ σ G H) : ArgsR B G H as vs := by
  induction h with
  | nil => exact .nil
  | val q r ih => exact .cons (.val q) ih
  | own e o n r' ih =>
    refine .cons ?_ ih
    cases r.slot _ _ o with
    | ow e1 n1 c =>
      rw [e] at e1
      cases e1
      exact .io n1 c
  | fr n c f ne t r ih => exact .cons (.io n c) ih
theorem HandR.inj {as : List Arg} {ls : List (Option Nat)} {vs : List V} (h : HandR B H0 ρ σ G H as ls vs) (r : Rep B Z ρ σ G H) : ∀ (i j : Nat) (a : Addr), IoA as vs i a → IoA as vs j a → i = j := by
  intro i j a h1 h2
  rcases h.own_of h1 with ⟨x, io, d, q1, q2, q3⟩ | ⟨q1, q2, q3⟩
  · rcases h.own_of h2 with ⟨y, io', d', p1, p2, p3⟩ | ⟨p1, p2, p3⟩
    · have := r.inj x y a ⟨⟨_, _, _, q3⟩, q2⟩ ⟨⟨_, _, _, p3⟩, p2⟩
      subst this
      obtain ⟨_, _, _, _, _, _, u⟩ := h.slot q1
      exact (u j p1).symm
    · exact absurd ⟨⟨_, _, _, q3⟩, q2⟩ (p3 x)
  · rcases h.own_of h2 with ⟨y, io', d', p1, p2, p3⟩ | ⟨p1, p2, p3⟩
    · exact absurd ⟨⟨_, _, _, p3⟩, p2⟩ (q3 y)
    · -- both new: by the order
      clear q1 q2 q3 p1 p2 p3
      induction h generalizing i j with
      | nil => obtain ⟨⟨d, h⟩, _⟩ := h1; simp at h
      | val q r' ih =>
        cases i with
        | zero => obtain ⟨⟨d, h⟩, _⟩ := h1; simp at h
        | succ i =>
          cases j with
          | zero => obtain ⟨⟨d, h⟩, _⟩ := h2; simp at h
          | succ j => rw [ih i j h1.succ h2.succ]
      | @own j' b io d as ls vs e o n r' ih =>
        cases i with
        | zero =>
          cases j with
          | zero => rfl
          | succ j =>
            have : b = a := by simpa using h1.2
            subst this
            rcases r'.own_of h2.succ with ⟨y, io', d', p1, p2, p3⟩ | ⟨p1, p2, p3⟩
            · have := r.inj j' y b ⟨⟨_, _, _, o⟩, e⟩ ⟨⟨_, _, _, p3⟩, p2⟩
              subst this
              exact absurd (List.mem_of_getElem? p1) n
            · exact absurd ⟨⟨_, _, _, o⟩, e⟩ (p3 j')
        | succ i =>
          cases j with
          | zero =>
            have : b = a := by simpa using h2.2
            subst this
            rcases r'.own_of h1.succ with ⟨y, io', d', p1, p2, p3⟩ | ⟨p1, p2, p3⟩
            · have := r.inj j' y b ⟨⟨_, _, _, o⟩, e⟩ ⟨⟨_, _, _, p3⟩, p2⟩
              subst this
              exact absurd (List.mem_of_getElem? p1) n
            · exact absurd ⟨⟨_, _, _, o⟩, e⟩ (p3 j')
          | succ j => rw [ih i j h1.succ h2.succ]
      | @fr b d as ls vs n c f ne t r' ih =>
        cases i with
        | zero =>
          cases j with
          | zero => rfl
          | succ j =>
            have : b = a := by simpa using h1.2
            subst this
            exact absurd h2.succ (t j)
        | succ i =>
          cases j with
          | zero =>
            have : b = a := by simpa using h2.2
            subst this
            exact absurd h1.succ (t i)
          | succ j => rw [ih i j h1.succ h2.succ]
theorem HandR.len {as : List Arg} {ls : List (Option Nat)} {vs : List V} (h : HandR B H0 ρ σ G H as ls vs) : as.length = vs.length ∧ ls.length = vs.length := by
  induction h with
  | nil => exact ⟨rfl, rfl⟩
  | val q r ih => exact ⟨by rw [List.length_cons, List.length_cons, ih.1], by rw [List.length_cons, List.length_cons, ih.2]⟩
  | own e o n r ih => exact ⟨by rw [List.length_cons, List.length_cons, ih.1], by rw [List.length_cons, List.length_cons, ih.2]⟩
  | fr n c f ne t r ih => exact ⟨by rw [List.length_cons, List.length_cons, ih.1], by rw [List.length_cons, List.length_cons, ih.2]⟩

/-! ### what stands behind a call -/
theorem back_len : ∀ (ls : List (Option Nat)) (outs : List D) (ρ : Vm.Env), (back ρ ls outs).length = ρ.length
  | [], _, _ => by simp [back]
  | none :: ls, [], _ => by simp [back]
  | some i :: ls, [], _ => by simp [back]
  | none :: ls, _ :: ds, ρ => by simp only [back]; exact back_len ls ds ρ
  | some i :: ls, d :: ds, ρ => by
    simp only [back]
    split
    · rw [back_len ls ds, List.length_set]
    · exact back_len ls ds ρ
theorem back_not {j : Nat} : ∀ (ls : List (Option Nat)) (outs : List D) (ρ : Vm.Env), some j ∉ ls → (back ρ ls outs)[j]? = ρ[j]?
  | [], _, _, _ => by simp [back]
  | none :: ls, [], _, _ => by simp [back]
  | some i :: ls, [], _, _ => by simp [back]
  | none :: ls, _ :: ds, ρ, h => by simp only [back]; exact back_not ls ds ρ fun z => h (List.mem_cons_of_mem _ z)
  | some i :: ls, d :: ds, ρ, h => by
    have hi : i ≠ j := fun z => h (by rw [z]; exact List.mem_cons_self)
    simp only [back]
    split
    · rw [back_not ls ds _ fun z => h (List.mem_cons_of_mem _ z), List.getElem?_set_ne hi]
    · exact back_not ls ds ρ fun z => h (List.mem_cons_of_mem _ z)
theorem back_at {j : Nat} {io lk : Bool} {d : D} : ∀ (ls : List (Option Nat)) (outs : List D) (ρ : Vm.Env) (k : Nat) (d0 : D), ls[k]? = some (some j) → (∀ k', ls[k']? = some (some j) → k' = k) → ρ[j]? = some (.ow io lk d0) → outs[k]? = some d →
    (back ρ ls outs)[j]? = some (.ow io lk d)
  | [], _, _, k, _, h, _, _, _ => by simp at h
  | _ :: _, [], _, k, _, _, _, _, h => by simp at h
  | none :: ls, _ :: ds, ρ, k, d0, h, u, e, o => by
    cases k with
    | zero => simp at h
    | succ k =>
      simp only [back]
      exact back_at ls ds ρ k d0 (by simpa using h) (fun k' z => by have := u (k' + 1) (by simpa using z); omega) e (by simpa using o)
  | some i :: ls, x :: ds, ρ, k, d0, h, u, e, o => by
    cases k with
    | zero =>
      have : i = j := by simpa using h
      subst this
      have hn : some i ∉ ls := fun z => by
        obtain ⟨k', z⟩ := List.getElem?_of_mem z
        have := u (k' + 1) (by simpa using z)
        omega
      have : x = d := by simpa using o
      subst this
      simp only [back, e]
      rw [back_not ls ds _ hn, List.getElem?_set_self (List.getElem?_eq_some_iff.mp e).1]
    | succ k =>
      have hi : i ≠ j := fun z => by
        subst z
        have := u 0 rfl
        omega
      simp only [back]
      split
      · exact back_at ls ds _ k d0 (by simpa using h) (fun k' z => by have := u (k' + 1) (by simpa using z); omega) (by rw [List.getElem?_set_ne hi]; exact e) (by simpa using o)
      · exact back_at ls ds ρ k d0 (by simpa using h) (fun k' z => by have := u (k' + 1) (by simpa using z); omega) e (by simpa using o)
/-- the state behind a call -/
theorem HandR.back {as : List Arg} {ls : List (Option Nat)} {vs : List V} {outs : List D} {G' H' : Hp} (h : HandR B H0 ρ σ G H as ls vs) (r : Rep B Z ρ σ G H) (s : Step ρ0 σ G0 H0 ρ σ G H)
    (p : Stp (IoAny as vs) G H G' H') (sub : Same G' H') (io : ∀ i a, IoA as vs i a → G' a = none ∧ ∃ d, outs[i]? = some d ∧ Cell B G' H' a d) :
    Rep B Z (Vm.back ρ ls outs) σ G' H' ∧ Step ρ0 σ G0 H0 (Vm.back ρ ls outs) σ G' H' := by
  have here : ∀ j, (∃ k, ls[k]? = some (some j)) ∨ some j ∉ ls := fun j => by
    by_cases q : some j ∈ ls
    · exact .inl (List.getElem?_of_mem q)
    · exact .inr q
  -- what slot j is
  have look : ∀ j, (∃ a iof d d', ρ[j]? = some (SD.ow iof false d) ∧ σ[j]? = some (some (.ref a)) ∧ (Vm.back ρ ls outs)[j]? = some (SD.ow iof false d') ∧ G' a = none ∧ Cell B G' H' a d') ∨ ((Vm.back ρ ls outs)[j]? = ρ[j]? ∧ some j ∉ ls) := fun j => by
    rcases here j with ⟨k, hk⟩ | hn
    · obtain ⟨a, iof, d, h1, h2, h3, h4⟩ := h.slot hk
      obtain ⟨n, d', o, c⟩ := io k a h1
      exact .inl ⟨a, iof, d, d', h3, h2, back_at ls outs ρ k d hk h4 h3 o, n, c⟩
    · exact .inr ⟨back_not ls outs ρ hn, hn⟩
  have own : ∀ i b, OwnA (Vm.back ρ ls outs) σ i b → OwnA ρ σ i b := fun i b ⟨⟨x, y, z, e⟩, e2⟩ => by
    rcases look i with ⟨a, iof, d, d', h1, h2, h3, _⟩ | ⟨h1, _⟩
    · exact ⟨⟨_, _, _, h1⟩, e2⟩
    · exact ⟨⟨_, _, _, h1 ▸ e⟩, e2⟩
  have any : ∀ b, IoAny as vs b → Own ρ σ b ∨ H0 b = none := fun b ⟨i, hi⟩ => by
    rcases h.own_of hi with ⟨j, io, d, _, q2, q3⟩ | ⟨_, q, _⟩
    · exact .inl ⟨j, io, d, q3, q2⟩
    · exact .inr q
  refine ⟨⟨by rw [back_len]; exact r.len, sub, fun j sd e => ?_, fun i j a h1 h2 => r.inj i j a (own i a h1) (own j a h2)⟩, ?_⟩
  · rcases look j with ⟨a, iof, d, d', h1, h2, h3, n, c⟩ | ⟨h1, hn⟩
    · rw [e] at h3
      cases h3
      exact .ow h2 n c
    · rw [h1] at e
      cases r.slot j sd e with
      | un => exact .un
      | sh e1 q => exact .sh e1 (q.to p.g)
      | @ow iof lk d a e1 n c =>
        have no : ¬ IoAny as vs a := fun ⟨i, hi⟩ => by
          rcases h.own_of hi with ⟨j', io', d', q1, q2, q3⟩ | ⟨_, _, q⟩
          · have := r.inj j' j a ⟨⟨_, _, _, q3⟩, q2⟩ ⟨⟨_, _, _, e⟩, e1⟩
            subst this
            exact hn (List.mem_of_getElem? q1)
          · exact q j ⟨⟨_, _, _, e⟩, e1⟩
        exact .ow e1 (p.n _ c.ne n no) (c.to p.g fun o z => p.k _ o z no)
      | ex e1 z => exact .ex e1 (Z.mono p.g z)
  · refine ⟨s.stp.trans p fun b h => ?_, fun i b h => s.ownA i b (own i b h), fun i lk d e => ?_, fun i iof d e => ?_⟩
    · rcases any b h with h | h
      · exact s.own r h
      · exact .inr h
    · obtain ⟨e1, d1, e2⟩ := s.io i lk d e
      rcases look i with ⟨a, iof, d2, d', h1, h2, h3, _⟩ | ⟨h1, _⟩
      · rw [h1] at e2
        cases e2
        exact ⟨e1, d', h3⟩
      · exact ⟨e1, d1, h1.trans e2⟩
    · obtain ⟨e1, e2⟩ := s.lk i iof d e
      rcases look i with ⟨a, iof, d2, d', h1, h2, h3, _⟩ | ⟨h1, _⟩
      · rw [h1] at e2
        cases e2
      · exact ⟨e1, h1.trans e2⟩
end
end Vm

set_option Elab.async false
set_option linter.all false
set_option maxRecDepth 100000
set_option maxHeartbeats 2000000
namespace Vm
open PySem PySem.Spec PyProof.Rows L2

/-- the def at f does what F says (dv: its defaults that are left out) -/
structure FP (P : Program) (w : World) (K : PySem.W.Frag) (mg : Str → Option Value) (base : Heap) (B : Tb) (k : Nat) (f : Addr) (F : Fn) (np : Nat) (dv : List D) : Prop where
  fn : ∃ dvs, (∀ G, Rps B G dv dvs) ∧ FnR P w K mg base (L2N.CX P w) k f (fun vs => spF B F np (vs ++ dvs))
  len : ∀ as, F as ≠ .bad → as.length = np
theorem Stp.imp {L L1 : Addr → Prop} {G H G1 H1 : Hp} (s : Stp L G H G1 H1) (h : ∀ b, L b → L1 b) : Stp L1 G H G1 H1 := ⟨fun b o e n => s.k b o e fun z => n (h b z), s.d, s.g, fun b e g n => s.n b e g fun z => n (h b z)⟩
section
variable {B : Tb} {G H : Hp}
theorem ArgsR.len {as : List Arg} {vs : List V} (h : ArgsR B G H as vs) : as.length = vs.length := by
  induction h with
  | nil => rfl
  | cons h r ih => rw [List.length_cons, List.length_cons, ih]
theorem ArgsR.app {as bs : List Arg} {vs us : List V} (h : ArgsR B G H as vs) (k : ArgsR B G H bs us) : ArgsR B G H (as ++ bs) (vs ++ us) := by
  induction h with
  | nil => exact k
  | cons h r ih => exact .cons h ih
theorem ArgsR.vals {ds : List D} {vs : List V} (h : Rps B G ds vs) : ArgsR B G H (ds.map Arg.val) vs := by
  induction ds generalizing vs with
  | nil => cases h; exact .nil
  | cons d ds ih => cases h with | cons h r => exact .cons (.val h) (ih r)
theorem io_app {as : List Arg} {ds : List D} {vs us : List V} (hl : as.length = vs.length) {i : Nat} {a : Addr} (h : IoA (as ++ ds.map Arg.val) (vs ++ us) i a) : IoA as vs i a := by
  obtain ⟨⟨d, h1⟩, h2⟩ := h
  have hi : i < as.length := by
    by_cases q : i < as.length
    · exact q
    · rw [List.getElem?_append_right (by omega), List.getElem?_map] at h1
      cases e : ds[i - as.length]? with
      | none => rw [e] at h1; cases h1
      | some x => rw [e] at h1; cases h1
  rw [List.getElem?_append_left hi] at h1
  rw [List.getElem?_append_left (by omega)] at h2
  exact ⟨⟨d, h1⟩, h2⟩
theorem io_app' {as bs : List Arg} {vs us : List V} {i : Nat} {a : Addr} (hl : as.length = vs.length) (h : IoA as vs i a) : IoA (as ++ bs) (vs ++ us) i a := by
  obtain ⟨⟨d, h1⟩, h2⟩ := h
  have hi := (List.getElem?_eq_some_iff.mp h1).1
  exact ⟨⟨d, by rw [List.getElem?_append_left hi]; exact h1⟩, by rw [List.getElem?_append_left (by omega)]; exact h2⟩
end
section
variable {B : Tb} {Z : XR} {W : WX} {ρ ρ1 : Vm.Env} {σ : L2.St} {G H G1 H1 : Hp}
/-- THE CALL, by values -/
theorem callV_ok {F : Fn} {np : Nat} {dv : List D} {dvs : List V} {ms : List Bool} (hd : ∀ G, Rps B G dv dvs) (hl : ∀ as, F as ≠ .bad → as.length = np) {es : List EV} {vs : List V} {Q : VK} (r : Rep B Z ρ1 σ G1 H1) (s : Step ρ σ G H ρ1 σ G1 H1) (q : RepVs B Z H ρ1 σ G1 H1 es vs)
    (w : WantE B Z W (callV F ms dv es ρ1) ρ σ G H Q) : spF B F np (vs ++ dvs) H1 Q fun cls d H' => W cls d σ H' := by
  unfold callV at w
  cases e : hand ρ1 ms es with
  | none => rw [e] at w; exact w.elim
  | some x =>
    obtain ⟨as, ls, ρ2⟩ := x
    simp only [e] at w
    obtain ⟨G2, r2, hp, t, o, k, _, _⟩ := q.hand ms r (fun b h => none_back s.stp h) e
    have s2 := s.frz r t o k
    have la := hp.args r2
    have ll := la.len
    have nb : F (as ++ dv.map Arg.val) ≠ .bad := fun z => by rw [z] at w; exact w.elim
    have hn := hl _ nb
    rw [List.length_append, List.length_map] at hn
    have hdl := (hd G2).len
    refine ⟨by rw [List.length_append]; omega, as ++ dv.map Arg.val, G2, ⟨la.app (.vals (hd G2)), r2.sub, fun i j a h1 h2 => hp.inj r2 i j a (io_app ll h1) (io_app ll h2)⟩, ?_⟩
    have any : ∀ b, IoAny (as ++ dv.map Arg.val) (vs ++ dvs) b → IoAny as vs b := fun b ⟨i, h⟩ => ⟨i, io_app ll h⟩
    cases ef : F (as ++ dv.map Arg.val) with
    | bad => exact absurd ef nb
    | ret rv outs =>
      simp only [ef] at w
      intro v G' H' p rr
      obtain ⟨r3, s3⟩ := hp.back r2 s2 (p.stp.imp any) p.sub fun i a h => p.io i a (io_app' ll h)
      refine w v G' H' r3 s3 ?_
      cases rr with
      | val z => exact .val z
      | fr n c f =>
        refine .fr n c (none_back s.stp f) fun i z => ?_
        have : ∀ i b, OwnA (back ρ2 ls outs) σ i b → H1 b ≠ none := fun i b z => by
          obtain ⟨⟨x, y, zz, e1⟩, e2⟩ := z
          -- it was there before
          by_cases q : some i ∈ ls
          · obtain ⟨kk, hk⟩ := List.getElem?_of_mem q
            obtain ⟨a, iof, d, h1, h2, h3, _⟩ := hp.slot hk
            rw [e2] at h2
            cases h2
            exact r2.at_ ⟨⟨_, _, _, h3⟩, e2⟩
          · rw [back_not ls outs ρ2 q] at e1
            exact r2.at_ ⟨⟨_, _, _, e1⟩, e2⟩
        exact this i _ z f
    | exc x outs =>
      simp only [ef] at w
      intro cls d G' H' p rr
      obtain ⟨r3, s3⟩ := hp.back r2 s2 (p.stp.imp any) p.sub fun i a h => p.io i a (io_app' ll h)
      exact w cls d G' H' r3 s3 rr
theorem ge_call {F : Fn} {np : Nat} {dv : List D} {dvs : List V} {ms : List Bool} (hd : ∀ G, Rps B G dv dvs) (hl : ∀ as, F as ≠ .bad → as.length = np) {xa : TA} {na : Exs} (hx : GA B Z W xa na) :
    GE B Z W (fun σ H Q => xa σ H fun vs H1 => spF B F np (vs ++ dvs) H1 Q (WE W σ)) (call F ms dv na) := by
  intro ρ σ G H Q q w
  refine GA.bind hx q w fun es vs ρ1 G1 H1 r1 s1 p1 w1 => ?_
  exact callV_ok hd hl r1 s1 p1 w1
end

/-! ### the rules of calls -/
section
variable {X : Cx} {W : WX} {k : Nat} {f C : Addr} {sp : Sp} {x m : Str} {p pos apos : Pos} {e o : Expr} {es : List Expr} {ta : TE} {t : TA}
theorem run_fnW (F : FnR X.prog X.w X.K X.mg X.base (L2N.CX X.prog X.w) k f sp) (hr : Room k X.A) (tk : L2N.Takes X W) {pins : List (Addr × Obj)} {σ : L2.St} {H : Hp} {s : Shared} {Q : VK} {us : List Value} {vs : List V} (I : Inv X pins σ H s) (r : Vals vs us) (h : sp vs H Q (WE W σ)) :
    wpAny (model X.prog X.w) X.A (PySem.call (.ref f) us) (EP X pins σ Q) X.xe s := by
  refine wpAny_call (codeAny_mono (F X.A X.stack s H us vs Q (WE W σ) hr I.env0 r h) fun r s' hq => ?_)
  cases r with
  | error e => exact L2N.passAt tk σ pins H s e s' I hq
  | ok fl =>
    cases fl with
    | ret u => exact I.after hq
    | next => exact hq.elim
    | brk => exact hq.elim
    | cont => exact hq.elim
theorem pe_callF (F : FnR X.prog X.w X.K X.mg X.base (L2N.CX X.prog X.w) k f sp) (hr : Room k X.A) (tk : L2N.Takes X W) (hg : Gl X x) (hm : X.mg x = some (.ref f)) (hk : PySem.W.keepIn X.K (.ref f) = true) (ha : PA X (e :: es) t)
    (hdb : (x == ("__debug__" : Str)) = false) (he : starEach (e :: es) X.env = (false, eval e X.env) :: starEach es X.env) (hpl : (backTo pos (starEach es X.env)).any (·.1) = false) :
    PE X (.Call (.Name x p) (e :: es) [] pos) (fun σ H Q => t σ H fun vs H1 => sp vs H1 Q (WE W σ)) := by
  refine ⟨fun pins s σ H Q I h => ?_⟩
  refine wpAny_Call_Name_kw (ld_glob I hg hm ?_ hdb)
  refine PySem.W.callWith_K (h₀ := X.base) I.ok.mod.kin hk (thn (ha.run pos pins s σ H _ I h) fun us s1 ⟨vs, H1, I1, r, q⟩ => ⟨I1.kIn, ?_⟩) he hpl
  exact run_fnW F hr tk I1 r q
theorem pe_callF0 (F : FnR X.prog X.w X.K X.mg X.base (L2N.CX X.prog X.w) k f sp) (hr : Room k X.A) (tk : L2N.Takes X W) (hg : Gl X x) (hm : X.mg x = some (.ref f)) (hk : PySem.W.keepIn X.K (.ref f) = true)
    (hdb : (x == ("__debug__" : Str)) = false) : PE X (.Call (.Name x p) [] [] pos) (fun σ H Q => tNil σ H fun vs H1 => sp vs H1 Q (WE W σ)) := by
  refine ⟨fun pins s σ H Q I h => ?_⟩
  refine wpAny_Call_Name_kw (ld_glob I hg hm ?_ hdb)
  exact PySem.W.callWith_K0 I.kIn hk (run_fnW (us := []) (vs := []) F hr tk I .nil h)
end
end Vm

set_option Elab.async false
set_option linter.all false
set_option maxRecDepth 100000
set_option maxHeartbeats 2000000
namespace Vm
open PySem PySem.Spec PyProof.Rows L2

/-- what a return hands out: a new thing was not there at the start, or was the start's own (not its caller's) -/
inductive RetV (B : Tb) (ρ0 : Vm.Env) (σ0 : L2.St) (H0 : Hp) (ρ : Vm.Env) (σ : L2.St) (G H : Hp) : RV → V → Prop where
  | val {d : D} {v : V} (r : Rp B G d v) : RetV B ρ0 σ0 H0 ρ σ G H (.val d) v
  | fr {a : Addr} {d : D} (n : G a = none) (c : Cell B G H a d) (ne : ∀ i, ¬ OwnA ρ σ i a) (f : H0 a = none ∨ ∃ (i : Nat) (lk : Bool) (d : D), ρ0[i]? = some (SD.ow false lk d) ∧ σ0[i]? = some (some (.ref a))) : RetV B ρ0 σ0 H0 ρ σ G H (.fr d) (.ref a)
def WantS (B : Tb) (Z : XR) (W : WX) (r : S) (ρ : Vm.Env) (σ : L2.St) (G H : Hp) (D : Ends) : Prop :=
  match r with
  | .nx ρ' => ∀ (σ' : L2.St) (G' H' : Hp), Rep B Z ρ' σ' G' H' → Step ρ σ G H ρ' σ' G' H' → D.nx σ' H'
  | .bk ρ' => ∀ (σ' : L2.St) (G' H' : Hp), Rep B Z ρ' σ' G' H' → Step ρ σ G H ρ' σ' G' H' → D.bk σ' H'
  | .ct ρ' => ∀ (σ' : L2.St) (G' H' : Hp), Rep B Z ρ' σ' G' H' → Step ρ σ G H ρ' σ' G' H' → D.ct σ' H'
  | .rt rv ρ' => ∀ (v : V) (σ' : L2.St) (G' H' : Hp), Rep B Z ρ' σ' G' H' → Step ρ σ G H ρ' σ' G' H' → RetV B ρ σ H ρ' σ' G' H' rv v → D.rt v H'
  | .exc x ρ' => ∀ (cls : Value) (d : Option Addr) (σ' : L2.St) (G' H' : Hp), Rep B Z ρ' σ' G' H' → Step ρ σ G H ρ' σ' G' H' → XcR B G' H' x cls d → W cls d σ' H'
  | .bad => False
def GS (B : Tb) (Z : XR) (W : WX) (t : TS) (m : Tx) : Prop := ∀ (ρ : Vm.Env) (σ : L2.St) (G H : Hp) (D : Ends), Rep B Z ρ σ G H → WantS B Z W (m ρ) ρ σ G H D → t D σ H
section
variable {B : Tb} {Z : XR} {W : WX} {ρ0 ρ ρ1 : Vm.Env} {σ0 σ σ1 : L2.St} {G0 H0 G H G1 H1 G' H' : Hp}
theorem RetV.to {ρ' : Vm.Env} {σ' : L2.St} {rv : RV} {v : V} (q : RetV B ρ σ H ρ' σ' G' H' rv v) (s : Step ρ0 σ0 G0 H0 ρ σ G H) (r : Rep B Z ρ σ G H) : RetV B ρ0 σ0 H0 ρ' σ' G' H' rv v := by
  cases q with
  | val r => exact .val r
  | fr n c ne f =>
    refine .fr n c ne ?_
    rcases f with f | ⟨i, lk, d, f1, f2⟩
    · exact .inl (none_back s.stp f)
    · rcases s.ownA i _ ⟨⟨_, _, _, f1⟩, f2⟩ with ⟨j, ⟨io, lk', d', h1⟩, h2⟩ | h
      · cases io with
        | false => exact .inr ⟨j, lk', d', h1, h2⟩
        | true =>
          obtain ⟨e, d2, h3⟩ := s.io j lk' d' h1
          have := r.inj i j _ ⟨⟨_, _, _, f1⟩, f2⟩ ⟨⟨_, _, _, h3⟩, e.trans h2⟩
          subst this
          rw [f1] at h3
          cases h3
      · exact .inl h
theorem WantS.to {r : S} {D : Ends} (w : WantS B Z W r ρ0 σ0 G0 H0 D) (s : Step ρ0 σ0 G0 H0 ρ σ G H) (q : Rep B Z ρ σ G H) : WantS B Z W r ρ σ G H D := by
  cases r with
  | nx ρ' => exact fun σ' G' H' r' s' => w σ' G' H' r' (s.trans q s')
  | bk ρ' => exact fun σ' G' H' r' s' => w σ' G' H' r' (s.trans q s')
  | ct ρ' => exact fun σ' G' H' r' s' => w σ' G' H' r' (s.trans q s')
  | rt v ρ' => exact fun v σ' G' H' r' s' x => w v σ' G' H' r' (s.trans q s') (x.to s q)
  | exc x ρ' => exact fun c d σ' G' H' r' s' x => w c d σ' G' H' r' (s.trans q s') x
  | bad => exact w.elim
/-- an expression first -/
theorem GE.thn {ta : TE} {ma : Ex} (ha : GE B Z W ta ma) (r : Rep B Z ρ σ G H) {k : EV → Vm.Env → S} {D : Ends} {F : VK} (w : WantS B Z W ((ma ρ).thn k) ρ σ G H D)
    (h : ∀ ev v ρ1 G1 H1, Rep B Z ρ1 σ G1 H1 → Step ρ σ G H ρ1 σ G1 H1 → RepV B Z H ρ1 σ G1 H1 ev v → WantS B Z W (k ev ρ1) ρ σ G H D → F v H1) : ta σ H F := by
  refine ha ρ σ G H F r ?_
  cases e : ma ρ with
  | ok a ρ' =>
    rw [e] at w
    exact fun b G' H' r' s' v => h a b ρ' G' H' r' s' v w
  | exc x ρ' =>
    rw [e] at w
    exact fun c d G' H' r' s' v => w c d σ G' H' r' s' v
  | bad =>
    rw [e] at w
    exact w.elim
theorem GA.thn {xa : TA} {na : Exs} (ha : GA B Z W xa na) (r : Rep B Z ρ σ G H) {k : List EV → Vm.Env → S} {D : Ends} {F : List V → Hp → Prop} (w : WantS B Z W ((na ρ).thn k) ρ σ G H D)
    (h : ∀ ev v ρ1 G1 H1, Rep B Z ρ1 σ G1 H1 → Step ρ σ G H ρ1 σ G1 H1 → RepVs B Z H ρ1 σ G1 H1 ev v → WantS B Z W (k ev ρ1) ρ σ G H D → F v H1) : xa σ H F := by
  refine ha ρ σ G H F r ?_
  cases e : na ρ with
  | ok a ρ' =>
    rw [e] at w
    exact fun b G' H' r' s' v => h a b ρ' G' H' r' s' v w
  | exc x ρ' =>
    rw [e] at w
    exact fun c d G' H' r' s' v => w c d σ G' H' r' s' v
  | bad =>
    rw [e] at w
    exact w.elim
theorem GP.thn {α : Type} {t : L2.St → Hp → (α → Hp → Prop) → Prop} {m : Vm.Env → R α} (ha : GP B Z W t m) (r : Rep B Z ρ σ G H) {k : α → Vm.Env → S} {D : Ends} {F : α → Hp → Prop} (w : WantS B Z W ((m ρ).thn k) ρ σ G H D)
    (h : ∀ x ρ1 G1 H1, Rep B Z ρ1 σ G1 H1 → Step ρ σ G H ρ1 σ G1 H1 → WantS B Z W (k x ρ1) ρ σ G H D → F x H1) : t σ H F := by
  refine ha ρ σ G H F r ?_
  cases e : m ρ with
  | ok a ρ' =>
    rw [e] at w
    exact fun b G' H' r' s' v => by
      subst v
      exact h a ρ' G' H' r' s' w
  | exc x ρ' =>
    rw [e] at w
    exact fun c d G' H' r' s' v => w c d σ G' H' r' s' v
  | bad =>
    rw [e] at w
    exact w.elim

/-! ### a slot is set -/
theorem Rep.put (r : Rep B Z ρ σ G H) {i : Nat} {s : SD} {v : V} (h : SlR B Z G H (some (some v)) s) (n : ∀ io lk d, s = .ow io lk d → ∀ a, v = .ref a → ∀ j, ¬ OwnA ρ σ j a) : Rep B Z (ρ.set i s) (σ.set i (some v)) G H := by
  refine ⟨by rw [List.length_set, List.length_set]; exact r.len, r.sub, fun j sd e => ?_, fun x y a h1 h2 => ?_⟩
  · rcases getElem?_set_cases e with ⟨rfl, rfl, hl⟩ | ⟨hne, e⟩
    · rw [List.getElem?_set_self (by rw [r.len]; exact hl)]
      exact h
    · rw [List.getElem?_set_ne (Ne.symm hne)]
      exact r.slot j sd e
  · have c : ∀ x, OwnA (ρ.set i s) (σ.set i (some v)) x a → (x = i ∧ ∃ io lk d, s = .ow io lk d ∧ v = .ref a) ∨ (x ≠ i ∧ OwnA ρ σ x a) := fun x ⟨⟨io, lk, d, z1⟩, z2⟩ => by
      rcases getElem?_set_cases z1 with ⟨rfl, q, hl⟩ | ⟨hne, z1⟩
      · rw [List.getElem?_set_self (by rw [r.len]; exact hl)] at z2
        exact .inl ⟨rfl, io, lk, d, q.symm, by simpa using z2⟩
      · rw [List.getElem?_set_ne (Ne.symm hne)] at z2
        exact .inr ⟨hne, ⟨io, lk, d, z1⟩, z2⟩
    rcases c x h1 with ⟨rfl, io, lk, d, q1, q2⟩ | ⟨hx, q⟩
    · rcases c y h2 with ⟨rfl, _⟩ | ⟨hy, q'⟩
      · rfl
      · exact absurd q' (n io lk d q1 a q2 y)
    · rcases c y h2 with ⟨rfl, io, lk, d, q1, q2⟩ | ⟨hy, q'⟩
      · exact absurd q (n io lk d q1 a q2 x)
      · exact r.inj x y a q q'
theorem Step.put (t : Step ρ0 σ0 G0 H0 ρ σ G H) (r : Rep B Z ρ σ G H) {i : Nat} {s : SD} {v : V} (c : ∀ io lk d, ρ[i]? = some (SD.ow io lk d) → io = false ∧ lk = false) (n : ∀ io lk d, s = .ow io lk d → ∀ a, v = .ref a → H0 a = none) :
    Step ρ0 σ0 G0 H0 (ρ.set i s) (σ.set i (some v)) G H := by
  refine ⟨t.stp, fun j b ⟨⟨io, lk, d, h1⟩, h2⟩ => ?_, fun j lk d h => ?_, fun j io d h => ?_⟩
  · rcases getElem?_set_cases h1 with ⟨rfl, q, hl⟩ | ⟨hne, h1⟩
    · rw [List.getElem?_set_self (by rw [r.len]; exact hl)] at h2
      exact .inr (n io lk d q.symm b (by simpa using h2))
    · rw [List.getElem?_set_ne (Ne.symm hne)] at h2
      exact t.ownA j b ⟨⟨io, lk, d, h1⟩, h2⟩
  · obtain ⟨e, d', h⟩ := t.io j lk d h
    have : j ≠ i := fun z => by subst z; cases (c _ _ _ h).1
    rw [List.getElem?_set_ne (Ne.symm this), List.getElem?_set_ne (Ne.symm this)]
    exact ⟨e, d', h⟩
  · obtain ⟨e, h⟩ := t.lk j io d h
    have : j ≠ i := fun z => by subst z; cases (c _ _ _ h).2
    rw [List.getElem?_set_ne (Ne.symm this), List.getElem?_set_ne (Ne.symm this)]
    exact ⟨e, h⟩

/-! ### statements -/
theorem gs_next : GS B Z W tNext next := fun ρ σ G H D r w => w σ G H r Step.refl
theorem gs_brk : GS B Z W tBreak brkS := fun ρ σ G H D r w => w σ G H r Step.refl
theorem gs_cnt : GS B Z W tCont cntS := fun ρ σ G H D r w => w σ G H r Step.refl
theorem gs_never : GS B Z W tNever never := fun ρ σ G H D r w => w.elim
theorem gs_seq {ta tb : TS} {ma mb : Tx} (ha : GS B Z W ta ma) (hb : GS B Z W tb mb) : GS B Z W (tSeq ta tb) (seq ma mb) := by
  intro ρ σ G H D r w
  refine ha ρ σ G H _ r ?_
  unfold seq at w
  cases e : ma ρ with
  | nx ρ1 =>
    simp only [e] at w
    exact fun σ' G' H' r' s' => hb ρ1 σ' G' H' D r' (WantS.to w s' r')
  | _ => simp only [e] at w; exact w
theorem gs_expr {ta : TE} {ma : Ex} (ha : GE B Z W ta ma) : GS B Z W (tDrop ta) (exprS ma) := by
  intro ρ σ G H D r w
  exact ha.thn r w fun ev v ρ1 G1 H1 r1 s1 p1 w1 => w1 σ G1 H1 r1 s1
theorem gs_if {tc : TT} {ta tb : TS} {mc : Tst} {ma mb : Tx} (hc : GT B Z W tc mc) (ha : GS B Z W ta ma) (hb : GS B Z W tb mb) : GS B Z W (tIfS tc ta tb) (ifS mc ma mb) := by
  intro ρ σ G H D r w
  refine GP.thn hc r w fun k ρ1 G1 H1 r1 s1 w1 => ?_
  cases k with
  | true => exact ha ρ1 σ G1 H1 D r1 (WantS.to w1 s1 r1)
  | false => exact hb ρ1 σ G1 H1 D r1 (WantS.to w1 s1 r1)
theorem gs_retN : GS B Z W tRetN retN := fun ρ σ G H D r w => w .non σ G H r Step.refl (.val .non)
theorem gs_ret {ta : TE} {ma : Ex} (ha : GE B Z W ta ma) : GS B Z W (tRet ta) (retS ma) := by
  intro ρ σ G H D r w
  refine ha.thn r w fun ev v ρ1 G1 H1 r1 s1 p1 w1 => ?_
  cases p1 with
  | val q => exact w1 v σ G1 H1 r1 s1 (.val q)
  | fr n c f ne => exact w1 _ σ G1 H1 r1 s1 (.fr n c ne (.inl f))
  | ex z => exact w1.elim
  | own e =>
    rename_i i a
    simp only at w1
    cases hs : ρ1[i]? with
    | none => simp only [hs] at w1; exact w1.elim
    | some sd =>
      cases sd with
      | un => simp only [hs] at w1; exact w1.elim
      | ex c fs => simp only [hs] at w1; exact w1.elim
      | sh d =>
        simp only [hs] at w1
        cases r1.slot i _ hs with
        | sh e1 q =>
          rw [e] at e1
          cases e1
          exact w1 _ σ G1 H1 r1 s1 (.val q)
      | ow io lk d =>
        cases io with
        | true => simp only [hs] at w1; exact w1.elim
        | false =>
          cases lk with
          | true => simp only [hs] at w1; exact w1.elim
          | false =>
          simp only [hs] at w1
          cases r1.slot i _ hs with
          | ow e1 n c =>
            rw [e] at e1
            cases e1
            have nu : ∀ io lk d, SD.un ≠ SD.ow io lk d := fun _ _ _ z => by cases z
            have h0 : OwnA ρ1 σ i a := ⟨⟨_, _, _, hs⟩, e⟩
            have back : H a = none ∨ ∃ (i : Nat) (lk : Bool) (d : Vm.D), ρ[i]? = some (SD.ow false lk d) ∧ σ[i]? = some (some (.ref a)) := by
              rcases s1.ownA i a h0 with ⟨j, ⟨io, lk', d', h1⟩, h2⟩ | h
              · cases io with
                | false => exact .inr ⟨j, lk', d', h1, h2⟩
                | true =>
                  obtain ⟨q, d2, h3⟩ := s1.io j lk' d' h1
                  have := r1.inj i j a h0 ⟨⟨_, _, _, h3⟩, h2⟩
                  subst this
                  rw [hs] at h3
                  cases h3
              · exact .inl h
            refine w1 _ σ G1 H1 ⟨by rw [List.length_set]; exact r1.len, r1.sub, fun j sd q => ?_, fun x y b h1 h2 => r1.inj x y b (OwnA.of_set nu h1).1 (OwnA.of_set nu h2).1⟩ ?_ (.fr n c (fun j z => ?_) back)
            · rcases getElem?_set_cases q with ⟨rfl, rfl, _⟩ | ⟨_, q⟩
              · exact .un
              · exact r1.slot j sd q
            · refine ⟨s1.stp, fun j b z => s1.ownA j b (OwnA.of_set nu z).1, fun j lk d z => ?_, fun j io d z => ?_⟩
              · obtain ⟨e', d', h⟩ := s1.io j lk d z
                have : j ≠ i := fun z => by subst z; rw [hs] at h; cases h
                rw [List.getElem?_set_ne (Ne.symm this)]
                exact ⟨e', d', h⟩
              · obtain ⟨e', h⟩ := s1.lk j io d z
                have q : j ≠ i := fun z => by subst z; rw [hs] at h; cases h
                rw [List.getElem?_set_ne (Ne.symm q)]
                exact ⟨e', h⟩
            · have := OwnA.of_set nu z
              exact this.2 (r1.inj j i a this.1 h0)
end
end Vm

set_option Elab.async false
set_option linter.all false
set_option maxRecDepth 100000
set_option maxHeartbeats 2000000
namespace Vm
open PySem PySem.Spec PyProof.Rows L2
section
variable {B : Tb} {Z : XR} {W : WX} {ρ0 ρ ρ1 : Vm.Env} {σ0 σ σ1 : L2.St} {G0 H0 G H G1 H1 G' H' : Hp}
/-- targets -/
def GG (B : Tb) (Z : XR) (ts : List Nat) (t : TG) (m : Tg) : Prop := ∀ (ρ : Vm.Env) (σ : L2.St) (G H : Hp) (d : Vm.D) (v : V) (ρ' : Vm.Env) (Q : L2.St → Hp → Prop), Rep B Z ρ σ G H → Rp B G d v → m d ρ = some ρ' →
  (∀ σ', Rep B Z ρ' σ' G H → Step ρ σ G H ρ' σ' G H → (σ'.length = σ.length ∧ ∀ j, j ∉ ts → σ'[j]? = σ[j]?) → Q σ' H) → t v σ H Q
def GGs (B : Tb) (Z : XR) (ts : List Nat) (t : TGs) (m : Tgs) : Prop := ∀ (ρ : Vm.Env) (σ : L2.St) (G H : Hp) (ds : List Vm.D) (vs : List V) (ρ' : Vm.Env) (Q : L2.St → Hp → Prop), Rep B Z ρ σ G H → Rps B G ds vs → m ds ρ = some ρ' →
  (∀ σ', Rep B Z ρ' σ' G H → Step ρ σ G H ρ' σ' G H → (σ'.length = σ.length ∧ ∀ j, j ∉ ts → σ'[j]? = σ[j]?) → Q σ' H) → t vs σ H Q
theorem gg_name {i : Nat} : GG B Z [i] (gName i) (tgN i) := by
  intro ρ σ G H d v ρ' Q r p e k
  unfold tgN at e
  cases hs : ρ[i]? with
  | none => rw [hs] at e; cases e
  | some s =>
    have nu : ∀ io lk d', SD.sh d ≠ SD.ow io lk d' := fun _ _ _ z => by cases z
    have fin : (∀ io lk d, s = .ow io lk d → io = false ∧ lk = false) → ρ' = ρ.set i (.sh d) → gName i v σ H Q := fun c z => by
      subst z
      exact k _ (r.put (.sh rfl p) fun io lk d' z => absurd z (nu io lk d')) (Step.refl.put r (fun io lk d z => c io lk d (by rw [hs] at z; cases z; rfl)) fun io lk d' z => absurd z (nu io lk d')) ⟨List.length_set, fun j hj => by rw [List.getElem?_set_ne fun z => hj (by rw [z]; exact List.mem_singleton_self _)]⟩
    rw [hs] at e
    cases s with
    | ow io lk d' =>
      cases io with
      | true => cases e
      | false =>
        cases lk with
        | true => cases e
        | false => cases e; exact fin (fun _ _ _ z => by cases z; exact ⟨rfl, rfl⟩) rfl
    | _ => cases e; exact fin (fun _ _ _ z => by cases z) rfl
theorem ggs_nil : GGs B Z [] gNil tgNil := by
  intro ρ σ G H ds vs ρ' Q r p e k
  cases p with
  | nil => cases e; exact ⟨rfl, k σ r Step.refl ⟨rfl, fun _ _ => rfl⟩⟩
  | cons _ _ => cases e
theorem ggs_cons {t : TG} {u : TGs} {m : Tg} {n : Tgs} {as bs : List Nat} (h1 : GG B Z as t m) (h2 : GGs B Z bs u n) : GGs B Z (as ++ bs) (gCons t u) (tgCons m n) := by
  intro ρ σ G H ds vs ρ' Q r p e k
  cases p with
  | nil => cases e
  | cons h q =>
    simp only [tgCons] at e
    obtain ⟨ρ1, e1, e2⟩ := Option.bind_eq_some_iff.mp e
    exact ⟨_, _, rfl, h1 ρ σ G H _ _ ρ1 _ r h e1 fun σ1 r1 s1 k1 => h2 ρ1 σ1 G H _ _ ρ' Q r1 q e2 fun σ2 r2 s2 k2 => k σ2 r2 (s1.trans r1 s2) ⟨k2.1.trans k1.1, fun j hj => (k2.2 j fun z => hj (List.mem_append_right _ z)).trans (k1.2 j fun z => hj (List.mem_append_left _ z))⟩⟩
/-- how many names a pattern has -/
theorem gg_tup {n : Nat} {t : TGs} {m : Tgs} {as : List Nat} (h : GGs B Z as t m) (hn : ∀ ds ρ ρ', m ds ρ = some ρ' → ds.length = n) : GG B Z as (gTup B.K n t) (tgT m) := by
  intro ρ σ G H d v ρ' Q r p e k
  cases p with
  | tup hq rq => exact ⟨_, _, rfl, sqT_to r.sub hq, by rw [rq.len]; exact hn _ _ _ e, h ρ σ G H _ _ ρ' Q r rq e k⟩
  | _ => cases e
theorem tgNil_len {ds : List Vm.D} {ρ ρ' : Vm.Env} (h : tgNil ds ρ = some ρ') : ds.length = 0 := by
  cases ds with
  | nil => rfl
  | cons _ _ => cases h
theorem tgCons_len {m : Tg} {u : Tgs} {n : Nat} (hn : ∀ ds ρ ρ', u ds ρ = some ρ' → ds.length = n) {ds : List Vm.D} {ρ ρ' : Vm.Env} (h : tgCons m u ds ρ = some ρ') : ds.length = n + 1 := by
  cases ds with
  | nil => cases h
  | cons d ds =>
    simp only [tgCons] at h
    obtain ⟨ρ1, _, e2⟩ := Option.bind_eq_some_iff.mp h
    rw [List.length_cons, hn _ _ _ e2]
theorem gs_pat {ta : TE} {ma : Ex} {t : TG} {m : Tg} {as : List Nat} (ha : GE B Z W ta ma) (hg : GG B Z as t m) : GS B Z W (tAsg ta t) (pat m ma) := by
  intro ρ σ G H D r w
  refine ha.thn r w fun ev v ρ1 G1 H1 r1 s1 p1 w1 => ?_
  cases e : ev.frz ρ1 with
  | none => simp only [e] at w1; exact w1.elim
  | some x =>
    obtain ⟨d, ρ2⟩ := x
    simp only [e] at w1
    obtain ⟨G2, r2, p2, s2⟩ := w_frz1 p1 s1 r1 e
    cases e2 : m d ρ2 with
    | none => simp only [e2] at w1; exact w1.elim
    | some ρ3 =>
      simp only [e2] at w1
      exact hg ρ2 σ G2 H1 d v ρ3 _ r2 p2 e2 fun σ' r3 s3 _ => w1 σ' G2 H1 r3 (s2.trans r2 s3)
theorem gs_asg {ta : TE} {ma : Ex} {i : Nat} (ha : GE B Z W ta ma) : GS B Z W (tAsg ta (gName i)) (asg i ma) := by
  intro ρ σ G H D r w
  refine ha.thn r w fun ev v ρ1 G1 H1 r1 s1 p1 w1 => ?_
  cases hs : ρ1[i]? with
  | none => simp only [hs] at w1; exact w1.elim
  | some s =>
    have nu : ∀ d io lk d', SD.sh d ≠ SD.ow io lk d' := fun _ _ _ _ z => by cases z
    have fin : (∀ io lk d, s = .ow io lk d → io = false ∧ lk = false) → WantS B Z W (asgV i ev ρ1) ρ σ G H D → gName i v σ H1 D.nx := fun c w2 => by
      have c1 : ∀ io lk d, ρ1[i]? = some (SD.ow io lk d) → io = false ∧ lk = false := fun io lk d z => c io lk d (by rw [hs] at z; cases z; rfl)
      have frz : ∀ d ρ2, ev.frz ρ1 = some (d, ρ2) → WantS B Z W (.nx (ρ2.set i (.sh d))) ρ σ G H D → gName i v σ H1 D.nx := fun d ρ2 e w3 => by
        obtain ⟨G2, r2, q2, t, o, k, _⟩ := p1.frz r1 (fun b h => none_back s1.stp h) e
        have s2 := s1.frz r1 t o k
        have c2 : ∀ io lk d, ρ2[i]? = some (SD.ow io lk d) → io = false ∧ lk = false := fun io lk d z => by
          obtain ⟨a, ha⟩ : ∃ a, σ[i]? = some (some (.ref a)) := by
            cases r2.slot i _ z with
            | ow e n c => exact ⟨_, e⟩
          obtain ⟨⟨io', lk', d', z1⟩, _⟩ := o i a ⟨⟨io, lk, d, z⟩, ha⟩
          obtain ⟨q1, q2⟩ := c1 io' lk' d' z1
          subst q1 q2
          -- flags are kept
          cases ev with
          | val _ => cases e; rw [z1] at z; cases z; exact ⟨rfl, rfl⟩
          | fr _ => cases e; rw [z1] at z; cases z; exact ⟨rfl, rfl⟩
          | ex _ _ => cases e
          | own j =>
            simp only [EV.frz] at e
            split at e
            · cases e; rw [z1] at z; cases z; exact ⟨rfl, rfl⟩
            · cases e
              rcases getElem?_set_cases z with ⟨_, q, _⟩ | ⟨_, z⟩
              · exact absurd q.symm (nu _ _ _ _)
              · rw [z1] at z; cases z; exact ⟨rfl, rfl⟩
            · cases e
        exact w3 _ G2 H1 (r2.put (.sh rfl q2) fun io lk d' z => absurd z (nu _ io lk d')) (s2.put r2 c2 fun io lk d' z => absurd z (nu _ io lk d'))
      unfold asgV at w2
      cases ev with
      | fr d =>
        simp only at w2
        cases p1 with
        | fr n c' f ne =>
          exact w2 _ G1 H1 (r1.put (.ow rfl n c') fun io lk d' _ a q j => by cases q; exact ne j) (s1.put r1 c1 fun io lk d' _ a q => by cases q; exact f)
      | _ =>
        simp only at w2
        split at w2
        · rename_i d ρ2 e
          exact frz d ρ2 e w2
        · exact w2.elim
    simp only [hs] at w1
    cases s with
    | ow io lk d' =>
      cases io with
      | true => exact w1.elim
      | false =>
        cases lk with
        | true => exact w1.elim
        | false => exact fin (fun _ _ _ z => by cases z; exact ⟨rfl, rfl⟩) w1
    | un => exact fin (fun _ _ _ z => by cases z) w1
    | sh d => exact fin (fun _ _ _ z => by cases z) w1
    | ex c fs => exact fin (fun _ _ _ z => by cases z) w1

/-! ### an own thing changes -/
theorem Rep.mut (r : Rep B Z ρ σ G H) {i : Nat} {io lk : Bool} {d d' : Vm.D} {a : Addr} {o : HO} (hs : ρ[i]? = some (SD.ow io lk d)) (ha : σ[i]? = some (some (.ref a))) (c : Cell B G (upd H a o) a d') : Rep B Z (ρ.set i (.ow io lk d')) σ G (upd H a o) := by
  have ng : G a = none := r.ng ⟨⟨_, _, _, hs⟩, ha⟩
  refine ⟨by rw [List.length_set]; exact r.len, fun b u e => ?_, fun j sd e => ?_, fun x y b h1 h2 => ?_⟩
  · rw [upd_ne fun z => by rw [z, ng] at e; cases e]
    exact r.sub _ _ e
  · rcases getElem?_set_cases e with ⟨rfl, rfl, _⟩ | ⟨hne, e⟩
    · exact .ow ha ng c
    · cases r.slot j sd e with
      | un => exact .un
      | sh e1 q => exact .sh e1 q
      | @ow io2 lk2 d2 b e1 n c2 =>
        have : b ≠ a := fun z => hne (r.inj j i a ⟨⟨_, _, _, e⟩, by rw [← z]; exact e1⟩ ⟨⟨_, _, _, hs⟩, ha⟩)
        exact .ow e1 n (c2.to (Same.refl _) fun u z => by rw [upd_ne this]; exact z)
      | ex e1 z => exact .ex e1 z
  · have back : ∀ x, OwnA (ρ.set i (.ow io lk d')) σ x b → OwnA ρ σ x b := fun x ⟨⟨io2, lk2, d2, z1⟩, z2⟩ => by
      rcases getElem?_set_cases z1 with ⟨rfl, _, _⟩ | ⟨_, z1⟩
      · exact ⟨⟨_, _, _, hs⟩, z2⟩
      · exact ⟨⟨_, _, _, z1⟩, z2⟩
    exact r.inj x y b (back x h1) (back y h2)
theorem Step.mut (t : Step ρ0 σ0 G0 H0 ρ σ G H) (r : Rep B Z ρ σ G H) {i : Nat} {io : Bool} {d d' : Vm.D} {a : Addr} {o : HO} (hs : ρ[i]? = some (SD.ow io false d)) (ha : σ[i]? = some (some (.ref a))) :
    Step ρ0 σ0 G0 H0 (ρ.set i (.ow io false d')) σ G (upd H a o) := by
  have ng : G a = none := r.ng ⟨⟨_, _, _, hs⟩, ha⟩
  refine ⟨t.stp.trans (Stp.put ng) fun b z => ?_, fun j b ⟨⟨io2, lk2, d2, z1⟩, z2⟩ => ?_, fun j lk d2 h => ?_, fun j io2 d2 h => ?_⟩
  · subst z
    exact t.own r ⟨i, io, d, hs, ha⟩
  · rcases getElem?_set_cases z1 with ⟨rfl, _, _⟩ | ⟨_, z1⟩
    · exact t.ownA _ b ⟨⟨_, _, _, hs⟩, z2⟩
    · exact t.ownA j b ⟨⟨_, _, _, z1⟩, z2⟩
  · obtain ⟨e, d3, h⟩ := t.io j lk d2 h
    refine ⟨e, ?_⟩
    by_cases q : j = i
    · subst q
      rw [hs] at h
      cases h
      exact ⟨d', by rw [List.getElem?_set_self (List.getElem?_eq_some_iff.mp hs).1]⟩
    · exact ⟨d3, by rw [List.getElem?_set_ne (Ne.symm q)]; exact h⟩
  · obtain ⟨e, h⟩ := t.lk j io2 d2 h
    have q : j ≠ i := fun z => by subst z; rw [hs] at h; cases h
    rw [List.getElem?_set_ne (Ne.symm q)]
    exact ⟨e, h⟩
end
end Vm

set_option Elab.async false
set_option linter.all false
set_option maxRecDepth 100000
set_option maxHeartbeats 2000000
namespace Vm
open PySem PySem.Spec PyProof.Rows L2
section
variable {B : Tb} {Z : XR} {W : WX} {ρ0 ρ ρ1 ρ' : Vm.Env} {σ0 σ σ1 σ' : L2.St} {G0 H0 G H G1 H1 G' H' : Hp}
/-! ### locks -/
theorem lock_look {k : Bool} {l : Option Nat} {j : Nat} : (lock k l ρ)[j]? = ρ[j]? ∨ ∃ io lk d, l = some j ∧ ρ[j]? = some (SD.ow io lk d) ∧ (lock k l ρ)[j]? = some (SD.ow io k d) := by
  unfold lock
  cases l with
  | none => exact .inl rfl
  | some i =>
    simp only
    split
    · rename_i io lk d e
      by_cases q : j = i
      · subst q
        exact .inr ⟨io, lk, d, rfl, e, by rw [List.getElem?_set_self (List.getElem?_eq_some_iff.mp e).1]⟩
      · exact .inl (by rw [List.getElem?_set_ne (Ne.symm q)])
    · exact .inl rfl
theorem lock_len {k : Bool} {l : Option Nat} : (lock k l ρ).length = ρ.length := by
  unfold lock
  cases l with
  | none => rfl
  | some i =>
    simp only
    split
    · rw [List.length_set]
    · rfl
theorem OwnA.unlock {k : Bool} {l : Option Nat} {i : Nat} {a : Addr} (h : OwnA (lock k l ρ) σ i a) : OwnA ρ σ i a := by
  obtain ⟨⟨io, lk, d, h1⟩, h2⟩ := h
  rcases lock_look (ρ := ρ) (k := k) (l := l) (j := i) with q | ⟨io', lk', d', _, q, _⟩
  · exact ⟨⟨_, _, _, q ▸ h1⟩, h2⟩
  · exact ⟨⟨_, _, _, q⟩, h2⟩
theorem OwnA.lock {k : Bool} {l : Option Nat} {i : Nat} {a : Addr} (h : OwnA ρ σ i a) : OwnA (lock k l ρ) σ i a := by
  obtain ⟨⟨io, lk, d, h1⟩, h2⟩ := h
  rcases lock_look (ρ := ρ) (k := k) (l := l) (j := i) with q | ⟨io', lk', d', _, _, q⟩
  · exact ⟨⟨_, _, _, q.trans h1⟩, h2⟩
  · exact ⟨⟨_, _, _, q⟩, h2⟩
theorem Rep.lock {k : Bool} {l : Option Nat} (r : Rep B Z ρ σ G H) : Rep B Z (lock k l ρ) σ G H := by
  refine ⟨by rw [lock_len]; exact r.len, r.sub, fun j sd e => ?_, fun i j a h1 h2 => r.inj i j a h1.unlock h2.unlock⟩
  rcases lock_look (ρ := ρ) (k := k) (l := l) (j := j) with q | ⟨io, lk, d, _, q1, q2⟩
  · exact r.slot j sd (q ▸ e)
  · rw [e] at q2
    cases q2
    cases r.slot j _ q1 with
    | ow e1 n c => exact .ow e1 n c
/-- what was done while the slot was locked -/
theorem Step.unlock {l : Option Nat} (s : Step ρ0 σ0 G0 H0 ρ σ G H) (r : Rep B Z ρ σ G H) (t : Step (Vm.lock true l ρ) σ G H ρ' σ' G' H') (r' : Rep B Z ρ' σ' G' H') : Step ρ0 σ0 G0 H0 (Vm.lock (locked l ρ) l ρ') σ' G' H' := by
  refine ⟨s.stp.trans t.stp fun b ⟨i, io, d, h1, h2⟩ => ?_, fun i b h => ?_, fun i lk d h => ?_, fun i io d h => ?_⟩
  · rcases lock_look (ρ := ρ) (k := true) (l := l) (j := i) with q | ⟨io', lk', d', _, q1, q2⟩
    · exact s.own r ⟨i, io, d, q ▸ h1, h2⟩
    · rw [h1] at q2; cases q2
  · rcases t.ownA i b h.unlock with ⟨j, h⟩ | h
    · exact s.ownA j b h.unlock
    · exact .inr (none_back s.stp h)
  · obtain ⟨e1, d1, h1⟩ := s.io i lk d h
    rcases lock_look (ρ := ρ) (k := true) (l := l) (j := i) with q | ⟨io', lk', d', ql, q1, q2⟩
    · obtain ⟨e2, d2, h2⟩ := t.io i lk d1 (q.trans h1)
      refine ⟨e2.trans e1, ?_⟩
      rcases lock_look (ρ := ρ') (k := locked l ρ) (l := l) (j := i) with p | ⟨io3, lk3, d3, pl, p1, p2⟩
      · exact ⟨d2, p.trans h2⟩
      · rw [h2] at p1
        cases p1
        have : locked l ρ = lk := by subst pl; simp only [locked, h1]
        exact ⟨d2, by rw [p2, this]⟩
    · rw [h1] at q1
      cases q1
      obtain ⟨e2, d2, h2⟩ := t.io i true d1 q2
      refine ⟨e2.trans e1, ?_⟩
      have : locked l ρ = lk := by subst ql; simp only [locked, h1]
      rcases lock_look (ρ := ρ') (k := locked l ρ) (l := l) (j := i) with p | ⟨io3, lk3, d3, pl, p1, p2⟩
      · -- the slot is l's own
        subst ql
        rw [this] at p ⊢
        refine ⟨d2, ?_⟩
        have : (Vm.lock lk (some i) ρ')[i]? = some (SD.ow true lk d2) := by
          simp only [Vm.lock, h2]
          rw [List.getElem?_set_self (List.getElem?_eq_some_iff.mp h2).1]
        exact this
      · rw [h2] at p1
        cases p1
        exact ⟨d2, by rw [p2, this]⟩
  · obtain ⟨e1, h1⟩ := s.lk i io d h
    have h1' : (Vm.lock true l ρ)[i]? = some (SD.ow io true d) := by
      rcases lock_look (ρ := ρ) (k := true) (l := l) (j := i) with q | ⟨io', lk', d', ql, q1, q2⟩
      · exact q.trans h1
      · rw [h1] at q1; cases q1; exact q2
    obtain ⟨e2, h2⟩ := t.lk i io d h1'
    refine ⟨e2.trans e1, ?_⟩
    rcases lock_look (ρ := ρ') (k := locked l ρ) (l := l) (j := i) with p | ⟨io3, lk3, d3, pl, p1, p2⟩
    · exact p.trans h2
    · rw [h2] at p1
      cases p1
      have : locked l ρ = true := by subst pl; simp only [locked, h1]
      rw [p2, this]

/-! ### what is walked -/
structure ItR (B : Tb) (Z : XR) (J : It) (xs : List Vm.D) (l : Option Nat) (ρ : Vm.Env) (σ : L2.St) (G H : Hp) : Prop where
  run : ∀ (ρ' : Vm.Env) (σ' : L2.St) (G' H' : Hp), Rep B Z ρ' σ' G' H' → Step (Vm.lock true l ρ) σ G H ρ' σ' G' H' → ∀ i,
    (∀ d, xs[i]? = some d → J.go i H' ∧ ∀ x H'', J.yld i H' x H'' → ∃ G'', Stp (fun _ => False) G' H' G'' H'' ∧ Same G'' H'' ∧ Rp B G'' d x) ∧ (xs.length ≤ i → J.stop i H')
abbrev WantI (B : Tb) (Z : XR) (W : WX) (r : R (List Vm.D × Option Nat)) (ρ : Vm.Env) (σ : L2.St) (G H : Hp) (Q : It → Hp → Prop) : Prop := Want B Z W (fun p J ρ' G' H' => ItR B Z J p.1 p.2 ρ' σ G' H') r ρ σ G H Q
def GI (B : Tb) (Z : XR) (W : WX) (t : TI) (m : Ix) : Prop := ∀ (ρ : Vm.Env) (σ : L2.St) (G H : Hp) (Q : It → Hp → Prop), Rep B Z ρ σ G H → WantI B Z W (m ρ) ρ σ G H Q → t σ H Q
theorem Rep.grown {G2 H2 : Hp} (r : Rep B Z ρ σ G H) (s : Stp (fun _ => False) G H G2 H2) (q : Same G2 H2) : Rep B Z ρ σ G2 H2 := r.grow s.g (fun b o e => s.k b o e id) q fun b h1 h2 => s.n b h1 h2 id
theorem Step.grown {G2 H2 : Hp} (t : Step ρ0 σ0 G0 H0 ρ σ G H) (s : Stp (fun _ => False) G H G2 H2) : Step ρ0 σ0 G0 H0 ρ σ G2 H2 :=
  ⟨t.stp.trans s fun _ h => h.elim, t.ownA, t.io, t.lk⟩
theorem WantS.unlock {l : Option Nat} {r : S} {D : Ends} (w : WantS B Z W (r.map (lock (locked l ρ) l)) ρ0 σ0 G0 H0 D) (s : Step ρ0 σ0 G0 H0 ρ σ G H) (q : Rep B Z ρ σ G H) :
    ∀ ρ2 σ2 G2 H2, Rep B Z ρ2 σ2 G2 H2 → Step (Vm.lock true l ρ) σ G H ρ2 σ2 G2 H2 → WantS B Z W r ρ2 σ2 G2 H2 { D with nx := fun σ' H' => D.nx σ' H' } := by
  intro ρ2 σ2 G2 H2 q2 t
  have st : ∀ {ρ' : Vm.Env} {σ' : L2.St} {G' H' : Hp}, Rep B Z ρ' σ' G' H' → Step ρ2 σ2 G2 H2 ρ' σ' G' H' → Step ρ0 σ0 G0 H0 (Vm.lock (locked l ρ) l ρ') σ' G' H' := fun r' s' => s.unlock q (t.trans q2 s') r'
  cases r with
  | nx ρ' => exact fun σ' G' H' r' s' => w σ' G' H' r'.lock (st r' s')
  | bk ρ' => exact fun σ' G' H' r' s' => w σ' G' H' r'.lock (st r' s')
  | ct ρ' => exact fun σ' G' H' r' s' => w σ' G' H' r'.lock (st r' s')
  | exc x ρ' => exact fun c d σ' G' H' r' s' x => w c d σ' G' H' r'.lock (st r' s') x
  | bad => exact w.elim
  | rt v ρ' =>
    intro v σ' G' H' r' s' x
    refine w v σ' G' H' r'.lock (st r' s') ?_
    cases x with
    | val r => exact .val r
    | fr n c ne f =>
      refine .fr n c (fun i z => ne i z.unlock) ?_
      have big := s.unlock q t q2
      rcases f with f | ⟨i, lk, d, f1, f2⟩
      · exact .inl (none_back big.stp f)
      · obtain ⟨lk', d', f1'⟩ : ∃ lk' d', (Vm.lock (locked l ρ) l ρ2)[i]? = some (SD.ow false lk' d') := by
          rcases lock_look (ρ := ρ2) (k := locked l ρ) (l := l) (j := i) with p | ⟨io3, lk3, d3, pl, p1, p2⟩
          · exact ⟨lk, d, p.trans f1⟩
          · rw [f1] at p1
            cases p1
            exact ⟨_, _, p2⟩
        rcases big.ownA i _ ⟨⟨_, _, _, f1'⟩, f2⟩ with ⟨j, ⟨io, lk2, d2, h1⟩, h2⟩ | h
        · cases io with
          | false => exact .inr ⟨j, lk2, d2, h1, h2⟩
          | true =>
            obtain ⟨e, d3, h3⟩ := big.io j lk2 d2 h1
            have := q2.lock.inj i j _ ⟨⟨_, _, _, f1'⟩, f2⟩ ⟨⟨_, _, _, h3⟩, e.trans h2⟩
            subst this
            rw [f1'] at h3
            cases h3
        · exact .inl h
theorem gs_for {wi : TI} {g : TG} {tb : TS} {mi : Ix} {mg : Tg} {mb : Tx} {as : List Nat} (hi : GI B Z W wi mi) (hg : GG B Z as g mg) (hb : GS B Z W tb mb) : GS B Z W (tFor wi g tb) (forS mg mi mb) := by
  intro ρ σ G H D r w
  refine hi ρ σ G H _ r ?_
  unfold forS at w
  cases e : mi ρ with
  | bad => rw [e] at w; exact w.elim
  | exc x ρ1 => rw [e] at w; exact fun c d G' H' r' s' v => w c d σ G' H' r' s' v
  | ok p ρ1 =>
    obtain ⟨xs, l⟩ := p
    rw [e] at w
    intro J G1 H1 r1 s1 it
    simp only [R.thn] at w
    -- the turns
    refine ⟨fun i m σ' H' => m = xs.length - i ∧ i ≤ xs.length ∧ ∃ ρ' G', Rep B Z ρ' σ' G' H' ∧ Step (lock true l ρ1) σ G1 H1 ρ' σ' G' H' ∧ WantS B Z W ((loop mg mb (xs.drop i) ρ').map (lock (locked l ρ1) l)) ρ σ G H D,
      ⟨xs.length, rfl, Nat.zero_le _, lock true l ρ1, G1, r1.lock, Step.refl, w⟩, ?_⟩
    rintro i m σ' H' ⟨rfl, hil, ρ', G', r', s', w'⟩
    obtain ⟨t1, t2⟩ := it.run ρ' σ' G' H' r' s' i
    by_cases hlt : i < xs.length
    · refine .inr ⟨(t1 xs[i] (by simp [hlt])).1, fun σ2 H2 => i + 1 ≤ xs.length ∧ ∃ ρ2 G2, Rep B Z ρ2 σ2 G2 H2 ∧ Step (lock true l ρ1) σ G1 H1 ρ2 σ2 G2 H2 ∧ WantS B Z W ((loop mg mb (xs.drop (i + 1)) ρ2).map (lock (locked l ρ1) l)) ρ σ G H D, fun σ2 H2 ⟨h1, h2⟩ => ⟨xs.length - (i + 1), by omega, rfl, h1, h2⟩, fun x H2 y => ?_⟩
      obtain ⟨G2, st, sub, rp⟩ := (t1 xs[i] (by simp [hlt])).2 x H2 y
      have r2 := r'.grown st sub
      have s2 := s'.grown st
      rw [List.drop_eq_getElem_cons hlt] at w'
      simp only [loop] at w'
      cases e1 : mg xs[i] ρ' with
      | none => rw [e1] at w'; exact w'.elim
      | some ρ2 =>
        rw [e1] at w'
        simp only at w'
        refine hg ρ' σ' G2 H2 _ x ρ2 _ r2 rp e1 fun σ3 r3 s3 _ => ?_
        have s13 := s2.trans r2 s3
        refine hb ρ2 σ3 G2 H2 _ r3 ?_
        cases e2 : mb ρ2 with
        | bad => rw [e2] at w'; exact w'.elim
        | nx ρ3 =>
          rw [e2] at w'
          exact fun σ4 G4 H4 r4 s4 => ⟨hlt, ρ3, G4, r4, s13.trans r3 s4, w'⟩
        | ct ρ3 =>
          rw [e2] at w'
          exact fun σ4 G4 H4 r4 s4 => ⟨hlt, ρ3, G4, r4, s13.trans r3 s4, w'⟩
        | bk ρ3 =>
          rw [e2] at w'
          exact fun σ4 G4 H4 r4 s4 => w' σ4 G4 H4 r4.lock (s1.unlock r1 (s13.trans r3 s4) r4)
        | rt v ρ3 =>
          rw [e2] at w'
          have := WantS.unlock (r := .rt v ρ3) w' s1 r1 ρ2 σ3 G2 H2 r3 s13
          exact this
        | exc x ρ3 =>
          rw [e2] at w'
          have := WantS.unlock (r := .exc x ρ3) w' s1 r1 ρ2 σ3 G2 H2 r3 s13
          exact this
    · have : i = xs.length := by omega
      subst this
      rw [List.drop_length] at w'
      simp only [loop] at w'
      exact .inl ⟨t2 (Nat.le_refl _), w' σ' G' H' r'.lock (s1.unlock r1 s' r')⟩
end
end Vm

set_option Elab.async false
set_option linter.all false
set_option maxRecDepth 100000
set_option maxHeartbeats 2000000
namespace Vm
open PySem PySem.Spec PyProof.Rows L2
section
variable {B : Tb} {Z : XR} {W : WX} {ρ0 ρ ρ1 ρ' : Vm.Env} {σ0 σ σ1 σ' : L2.St} {G0 H0 G H G1 H1 G' H' : Hp}
/-! ### while -/
theorem gs_whiles {tc : TT} {tb : TS} {mc : Tst} {mb : Tx} (hc : GT B Z W tc mc) (hb : GS B Z W tb mb) (n : Nat) : GS B Z W (tWhile tc tb) (whiles mc mb n) := by
  intro ρ σ G H D r w
  refine ⟨fun m σ' H' => ∃ ρ' G', Rep B Z ρ' σ' G' H' ∧ Step ρ σ G H ρ' σ' G' H' ∧ WantS B Z W (whiles mc mb m ρ') ρ σ G H D, ⟨n, ρ, G, r, Step.refl, w⟩, ?_⟩
  rintro m σ' H' ⟨ρ', G', r', s', w'⟩
  cases m with
  | zero => exact w'.elim
  | succ m =>
    simp only [whiles] at w'
    refine hc ρ' σ' G' H' _ r' ?_
    cases e : mc ρ' with
    | bad => rw [e] at w'; exact w'.elim
    | exc x ρ1 => rw [e] at w'; exact fun c d G2 H2 r2 s2 v => w' c d σ' G2 H2 r2 (s'.trans r' s2) v
    | ok k ρ1 =>
      rw [e] at w'
      simp only [R.thn] at w'
      intro b G1 H1 r1 s1 eb
      subst eb
      have s01 := s'.trans r' s1
      cases k with
      | false =>
        simp only [Bool.false_eq_true, if_false] at w' ⊢
        exact w' σ' G1 H1 r1 s01
      | true =>
        simp only [if_true] at w' ⊢
        refine ⟨fun σ2 H2 => ∃ ρ2 G2, Rep B Z ρ2 σ2 G2 H2 ∧ Step ρ σ G H ρ2 σ2 G2 H2 ∧ WantS B Z W (whiles mc mb m ρ2) ρ σ G H D, fun σ2 H2 h => ⟨m, Nat.lt_succ_self _, h⟩, ?_⟩
        refine hb ρ1 σ' G1 H1 _ r1 ?_
        cases e2 : mb ρ1 with
        | bad => rw [e2] at w'; exact w'.elim
        | nx ρ3 =>
          rw [e2] at w'
          exact fun σ4 G4 H4 r4 s4 => ⟨ρ3, G4, r4, s01.trans r1 s4, w'⟩
        | ct ρ3 =>
          rw [e2] at w'
          exact fun σ4 G4 H4 r4 s4 => ⟨ρ3, G4, r4, s01.trans r1 s4, w'⟩
        | bk ρ3 =>
          rw [e2] at w'
          exact fun σ4 G4 H4 r4 s4 => w' σ4 G4 H4 r4 (s01.trans r1 s4)
        | rt v ρ3 =>
          rw [e2] at w'
          have := WantS.to (r := .rt v ρ3) w' s01 r1
          exact this
        | exc x ρ3 =>
          rw [e2] at w'
          have := WantS.to (r := .exc x ρ3) w' s01 r1
          exact this
theorem gs_while {tc : TT} {tb : TS} {mc : Tst} {mb : Tx} (hc : GT B Z W tc mc) (hb : GS B Z W tb mb) : GS B Z W (tWhile tc tb) (whileS mc mb) := fun ρ σ G H D r w => gs_whiles hc hb 1000000 ρ σ G H D r w

/-! ### iterators -/
theorem it_same {J : It} {xs : List Vm.D} {l : Option Nat} (h : ∀ (ρ' : Vm.Env) (σ' : L2.St) (G' H' : Hp), Rep B Z ρ' σ' G' H' → Step (Vm.lock true l ρ) σ G H ρ' σ' G' H' → ∀ i,
    (∀ d, xs[i]? = some d → J.go i H' ∧ ∀ x H'', J.yld i H' x H'' → H'' = H' ∧ Rp B G' d x) ∧ (xs.length ≤ i → J.stop i H')) : ItR B Z J xs l ρ σ G H :=
  ⟨fun ρ' σ' G' H' r s i => ⟨fun d e => ⟨((h ρ' σ' G' H' r s i).1 d e).1, fun x H'' y => by
    obtain ⟨e1, e2⟩ := ((h ρ' σ' G' H' r s i).1 d e).2 x H'' y
    subst e1
    exact ⟨G', Stp.refl, r.sub, e2⟩⟩, (h ρ' σ' G' H' r s i).2⟩⟩
/-- what is walked: a list, a tuple, a text -/
def iSeq (K : PySem.W.Frag) (t : TE) : TI := fun σ H R => t σ H fun x H1 => (∃ a, x = .ref a ∧ (∃ xs, SqL K H1 a xs) ∧ R (Itl K a) H1) ∨ ((∃ a, x = .ref a ∧ (∃ xs, SqT K H1 a xs) ∧ R (Itt K a) H1) ∨ ∃ z, x = .str z ∧ R (Its z) H1)
theorem pi_seq {X : Cx} {tg e : Expr} {t : TE} (he : PE X e t) : PI X tg e (iSeq X.K t) := by
  refine ⟨fun pins s σ H R I h => ?_⟩
  refine thn (he.run pins s σ H _ I h) fun v s1 ⟨x, H1, I1, r1, q⟩ => ?_
  rcases q with ⟨a, e, ⟨xs, hq⟩, q⟩ | ⟨a, e, ⟨xs, hq⟩, q⟩ | ⟨z, e, q⟩
  · subst e
    cases r1
    obtain ⟨its, rv, p, hz⟩ := I1.list hq
    refine wpAny_pyIter_list p.isList ?_
    refine ⟨s1.heap.objs.size, [s1.heap.objs.size], _, _, H1, rfl, I1.kept (t' := s1.toks) fun b o e => Heap.get?_push_of_some _ e, turn_list a _, ⟨_, Heap.get?_push_size _ rfl, rfl, rfl⟩, fun b hb => ?_, q⟩
    have e : b = s1.heap.objs.size := by simpa using hb
    subst e
    exact I1.fpOk (Nat.le_refl _) (I1.hok.fresh (Nat.le_refl _))
  · subst e
    cases r1
    obtain ⟨its, rv, p, hz⟩ := I1.tuple hq
    refine wpAny_pyIter_tuple (show s1.heap.IsTuple a its.toArray from p) ?_
    refine ⟨s1.heap.objs.size, [s1.heap.objs.size], _, _, H1, rfl, I1.kept (t' := s1.toks) fun b o e => Heap.get?_push_of_some _ e, turn_tuple a _, ⟨_, Heap.get?_push_size _ rfl, rfl, rfl⟩, fun b hb => ?_, q⟩
    have e : b = s1.heap.objs.size := by simpa using hb
    subst e
    exact I1.fpOk (Nat.le_refl _) (I1.hok.fresh (Nat.le_refl _))
  · subst e
    obtain ⟨t, rfl⟩ := r1
    cases ha : z.cps.all (· < 128)
    · exact wpAny_pyIter_wide ha (pi_one (tk := s1.toks) I1 _ (turn_str _ z t "str_iterator" (.inr rfl)) ⟨_, Heap.get?_push_size _ rfl, rfl, rfl⟩ q)
    · exact wpAny_pyIter_ascii ha (pi_one (tk := s1.toks) I1 _ (turn_str _ z t "str_ascii_iterator" (.inl rfl)) ⟨_, Heap.get?_push_size _ rfl, rfl, rfl⟩ q)
/-- the list that is walked stays as it is -/
theorem seq_at {ev : EV} {v : V} (p : RepV B Z H0 ρ σ G H ev v) (r : Rep B Z ρ σ G H) {ds : List Vm.D} (e : ev.peek ρ = some (.lst ds)) :
    ∃ a vs, v = .ref a ∧ Rps B G ds vs ∧ SqL B.K H a vs ∧ ∀ ρ' σ' G' H', Rep B Z ρ' σ' G' H' → Step (Vm.lock true ev.slot ρ) σ G H ρ' σ' G' H' → SqL B.K H' a vs := by
  have keep : ∀ {a : Addr} {vs : List V} {l : Option Nat}, H a = some (.lst vs) → (∀ b, Own (Vm.lock true l ρ) σ b → b ≠ a) → ∀ ρ' σ' G' H', Rep B Z ρ' σ' G' H' → Step (Vm.lock true l ρ) σ G H ρ' σ' G' H' → SqL B.K H' a vs :=
    fun h n ρ' σ' G' H' r' s' => SqL.of (s'.stp.k _ _ h fun z => n _ z rfl)
  have frozen : ∀ {a : Addr} {vs : List V} {l : Option Nat}, SqL B.K G a vs → ∀ ρ' σ' G' H', Rep B Z ρ' σ' G' H' → Step (Vm.lock true l ρ) σ G H ρ' σ' G' H' → SqL B.K H' a vs :=
    fun h ρ' σ' G' H' r' s' => (s'.stp.g.trans r'.sub).seq h
  cases p with
  | val q =>
    cases e
    cases q with
    | lst h rr => exact ⟨_, _, rfl, rr, r.sub.seq h, frozen h⟩
  | fr n c f ne =>
    cases e
    cases c with
    | lst h rr => exact ⟨_, _, rfl, rr, SqL.of h, keep (l := none) h fun b z q => by subst q; obtain ⟨i, z⟩ := z.a; exact ne i z⟩
  | ex z => cases e
  | own h =>
    rename_i i a
    simp only [EV.peek] at e
    cases hs : ρ[i]? with
    | none => rw [hs] at e; cases e
    | some sd =>
      rw [hs] at e
      cases sd with
      | un => cases e
      | ex c fs => cases e
      | sh d =>
        cases e
        cases r.slot i _ hs with
        | sh e1 q =>
          rw [h] at e1
          cases e1
          cases q with
          | lst h' rr => exact ⟨_, _, rfl, rr, r.sub.seq h', frozen h'⟩
      | ow io lk d =>
        cases e
        cases r.slot i _ hs with
        | ow e1 n c =>
          rw [h] at e1
          cases e1
          cases c with
          | lst h' rr =>
            refine ⟨_, _, rfl, rr, SqL.of h', keep (l := some i) h' fun b ⟨j, io2, d2, z1, z2⟩ q => ?_⟩
            subst q
            have := r.inj j i b (OwnA.unlock ⟨⟨_, _, _, z1⟩, z2⟩) ⟨⟨_, _, _, hs⟩, h⟩
            subst this
            simp only [Vm.lock, hs] at z1
            rw [List.getElem?_set_self (List.getElem?_eq_some_iff.mp hs).1] at z1
            cases z1
theorem gi_seq {ta : TE} {ma : Ex} (ha : GE B Z W ta ma) : GI B Z W (iSeq B.K ta) (itE ma) := by
  intro ρ σ G H Q q w
  refine ha.bind q w fun ev v ρ1 G1 H1 r1 s1 p1 w1 => ?_
  cases e : ev.peek ρ1 with
  | none => simp only [e] at w1; exact w1.elim
  | some d =>
    simp only [e, Option.bind_some] at w1
    cases d with
    | lst ds =>
      obtain ⟨a, vs, rfl, rr, sq, keep⟩ := seq_at p1 r1 e
      simp only [itemsOf] at w1
      refine .inl ⟨a, rfl, ⟨vs, sq⟩, w1 _ G1 H1 r1 s1 (it_same fun ρ' σ' G' H' r' s' i => ?_)⟩
      have sq' := keep ρ' σ' G' H' r' s'
      refine ⟨fun d e => ?_, fun h => ⟨vs, sq', by rw [rr.len]; exact h⟩⟩
      obtain ⟨x, hx, rx⟩ := rr.get e
      exact ⟨⟨vs, x, sq', hx⟩, fun y H'' ⟨e1, e2⟩ => ⟨e1, by have := e2 vs sq'; rw [hx] at this; cases this; exact rx.to s'.stp.g⟩⟩
    | tup ds =>
      have := p1.peek r1 e
      cases this with
      | @tup a _ vs h rr =>
      simp only [itemsOf] at w1
      refine .inr (.inl ⟨a, rfl, ⟨vs, sqT_to r1.sub h⟩, w1 _ G1 H1 r1 s1 (it_same fun ρ' σ' G' H' r' s' i => ?_)⟩)
      have sq' : SqT B.K H' a vs := sqT_to (s'.stp.g.trans r'.sub) h
      refine ⟨fun d e => ?_, fun h => ⟨vs, sq', by rw [rr.len]; exact h⟩⟩
      obtain ⟨x, hx, rx⟩ := rr.get e
      exact ⟨⟨vs, x, sq', hx⟩, fun y H'' ⟨e1, e2⟩ => ⟨e1, by have := e2 vs sq'; rw [hx] at this; cases this; exact rx.to s'.stp.g⟩⟩
    | str z =>
      have := p1.peek r1 e
      cases this with
      | str =>
      simp only [itemsOf] at w1
      refine .inr (.inr ⟨T z, rfl, w1 _ G1 H1 r1 s1 (it_same fun ρ' σ' G' H' r' s' i => ?_)⟩)
      refine ⟨fun d e => ?_, fun h => by show (T z).cps.size ≤ i; simpa using h⟩
      rw [List.getElem?_map] at e
      cases hc : z[i]? with
      | none => rw [hc] at e; cases e
      | some c =>
        rw [hc] at e
        cases e
        refine ⟨by show i < (T z).cps.size; simpa using (List.getElem?_eq_some_iff.mp hc).1, fun y H'' ⟨e1, c', e2, e3⟩ => ⟨e1, ?_⟩⟩
        have : z[i]? = some c' := by simpa using e2
        rw [hc] at this
        cases this
        subst e3
        exact Rp.str [c]
    | _ => simp only [itemsOf] at w1; exact w1.elim
end
end Vm

set_option Elab.async false
set_option linter.all false
set_option maxRecDepth 100000
set_option maxHeartbeats 2000000
namespace Vm
open PySem PySem.Spec PyProof.Rows L2
section
variable {B : Tb} {Z : XR} {W : WX} {ρ0 ρ ρ1 ρ' : Vm.Env} {σ0 σ σ1 σ' : L2.St} {G0 H0 G H G1 H1 G' H' : Hp}
theorem upto_get : ∀ (n : Nat) (lo : Int) (i : Nat), (upto lo n)[i]? = if i < n then some (.int (lo + i)) else none
  | 0, lo, i => by simp [upto]
  | n + 1, lo, 0 => by simp [upto]
  | n + 1, lo, i + 1 => by
    rw [upto, List.getElem?_cons_succ, upto_get n (lo + 1) i]
    by_cases h : i < n
    · rw [if_pos h, if_pos (by omega)]
      congr 2
      omega
    · rw [if_neg h, if_neg (by omega)]
theorem upto_len : ∀ (n : Nat) (lo : Int), (upto lo n).length = n
  | 0, lo => rfl
  | n + 1, lo => by rw [upto, List.length_cons, upto_len n]
theorem it_range (lo : Int) (n : Nat) (r : Rep B Z ρ σ G H) : ItR B Z (Itr lo n) (upto lo n) none ρ σ G H := it_same fun ρ' σ' G' H' r' s' i => by
  refine ⟨fun d e => ?_, fun h => by rw [upto_len] at h; exact h⟩
  rw [upto_get] at e
  split at e
  · cases e
    exact ⟨by assumption, fun x H'' ⟨e1, e2⟩ => ⟨e1, by rw [e2]; exact .int _⟩⟩
  · cases e
theorem gi_range {ta : TE} {ma : Ex} (ha : GE B Z W ta ma) : GI B Z W (iRng1 (tCons ta tNil)) (itRange ma) := by
  intro ρ σ G H Q q w
  refine ha.bind q w fun ev v ρ1 G1 H1 r1 s1 p1 w1 => ?_
  cases e : ev.peek ρ1 with
  | none => simp only [e] at w1; exact w1.elim
  | some d =>
    have h := p1.peek r1 e
    simp only [e] at w1
    cases h with
    | int n =>
      simp only at w1
      split at w1
      · rename_i hb
        exact ⟨n, rfl, hb.1, hb.2, w1 _ G1 H1 r1 s1 (it_range 0 n.toNat r1)⟩
      · exact w1.elim
    | _ => exact w1.elim
theorem gi_range2 {ta tb : TE} {ma mb : Ex} (ha : GE B Z W ta ma) (hb : GE B Z W tb mb) : GI B Z W (iRng2 (tCons ta (tCons tb tNil))) (itRange2 ma mb) := by
  intro ρ σ G H Q q w
  refine ha.bind q w fun ev v ρ1 G1 H1 r1 s1 p1 w1 => ?_
  refine hb ρ1 σ G1 H1 _ r1 ?_
  cases e0 : mb ρ1 with
  | bad => rw [e0] at w1; exact w1.elim
  | exc x ρ2 => rw [e0] at w1; exact fun c d G2 H2 r2 s2 v => w1 c d G2 H2 r2 (s1.trans r1 s2) v
  | ok eu ρ2 =>
    rw [e0] at w1
    intro u G2 H2 r2 s2 p2
    simp only [R.bind] at w1
    cases e : ev.peek ρ2 with
    | none => simp only [e] at w1; exact w1.elim
    | some d =>
    cases e' : eu.peek ρ2 with
    | none => simp only [e, e'] at w1; exact w1.elim
    | some d' =>
    have h := (p1.step s2).peek r2 e
    have h' := p2.peek r2 e'
    simp only [e, e'] at w1
    cases h with
    | int m =>
      cases h' with
      | int n =>
        simp only at w1
        split at w1
        · rename_i hb
          exact ⟨m, n, rfl, hb, w1 _ G2 H2 r2 (s1.trans r1 s2) (it_range m (n - m).toNat r2)⟩
        · exact w1.elim
      | _ => exact w1.elim
    | _ => exact w1.elim
theorem nums_get : ∀ (xs : List Vm.D) (k : Int) (i : Nat), (nums k xs)[i]? = (xs[i]?).map fun x => .tup [.int (k + i), x]
  | [], k, i => by simp [nums]
  | x :: xs, k, 0 => by simp [nums]
  | x :: xs, k, i + 1 => by
    have e : k + 1 + (i : Int) = k + ((i + 1 : Nat) : Int) := by omega
    rw [nums, List.getElem?_cons_succ, nums_get xs (k + 1) i, List.getElem?_cons_succ, e]
theorem nums_len : ∀ (xs : List Vm.D) (k : Int), (nums k xs).length = xs.length
  | [], k => rfl
  | x :: xs, k => by rw [nums, List.length_cons, nums_len xs, List.length_cons]
theorem gi_enum {ta : TE} {ma : Ex} (ha : GE B Z W ta ma) : GI B Z W (iEnum B.K (tCons ta tNil)) (itEnum ma) := by
  intro ρ σ G H Q q w
  refine ha.bind q w fun ev v ρ1 G1 H1 r1 s1 p1 w1 => ?_
  cases e : ev.peek ρ1 with
  | none => simp only [e] at w1; exact w1.elim
  | some d =>
    simp only [e] at w1
    cases d with
    | lst ds =>
      obtain ⟨a, vs, rfl, rr, sq, keep⟩ := seq_at p1 r1 e
      simp only at w1
      refine ⟨a, vs, rfl, sq, w1 _ G1 H1 r1 s1 ⟨fun ρ' σ' G' H' r' s' i => ?_⟩⟩
      have sq' := keep ρ' σ' G' H' r' s'
      refine ⟨fun d e => ?_, fun h => ⟨vs, sq', by rw [rr.len]; rw [nums_len] at h; exact h⟩⟩
      rw [nums_get] at e
      cases hx : ds[i]? with
      | none => rw [hx] at e; cases e
      | some y =>
        rw [hx] at e
        cases e
        obtain ⟨x, hx, rx⟩ := rr.get hx
        refine ⟨⟨vs, x, sq', hx⟩, fun y H'' ⟨Tt, x', e1, e2, e3, e4⟩ => ?_⟩
        have := e4 vs sq'
        rw [hx] at this
        cases this
        subst e1 e3
        have st : Stp (fun _ => False) G' H' (upd G' Tt (.tup [.int (i : Nat), x])) (upd H' Tt (.tup [.int (i : Nat), x])) := Stp.newF e2 r'.sub
        refine ⟨_, st, (r'.newF e2).sub, .tup (SqT.of upd_same) (.cons (by rw [Int.zero_add]; exact .int _) (.cons (rx.to (s'.stp.g.trans st.g)) .nil))⟩
    | _ => exact w1.elim

/-! ### comprehensions -/
abbrev WNo : WX := fun _ _ _ _ => False
theorem wipeE_len : ∀ (ρ : Vm.Env) (vs : List Nat), (wipeE ρ vs).length = ρ.length
  | _, [] => rfl
  | ρ, v :: vs => by rw [wipeE, List.length_set, wipeE_len ρ vs]
theorem putE_len : ∀ (ρ1 ρ : Vm.Env) (vs : List Nat), (putE ρ1 ρ vs).length = ρ.length
  | _, _, [] => rfl
  | ρ1, ρ, v :: vs => by rw [putE, List.length_set, putE_len ρ1 ρ vs]
theorem wipeE_not {j : Nat} : ∀ (ρ : Vm.Env) (vs : List Nat), j ∉ vs → (wipeE ρ vs)[j]? = ρ[j]?
  | _, [], _ => rfl
  | ρ, v :: vs, h => by rw [wipeE, List.getElem?_set_ne fun z => h (by rw [z]; exact List.mem_cons_self), wipeE_not ρ vs fun z => h (List.mem_cons_of_mem _ z)]
theorem wipeE_at {j : Nat} : ∀ (ρ : Vm.Env) (vs : List Nat), j ∈ vs → (wipeE ρ vs)[j]? = (if j < ρ.length then some .un else none)
  | ρ, v :: vs, h => by
    rw [wipeE, List.getElem?_set, wipeE_len]
    by_cases q : v = j
    · subst q; rw [if_pos rfl]
    · rw [if_neg q]
      exact wipeE_at ρ vs ((List.mem_cons.mp h).resolve_left fun z => q z.symm)
theorem putE_not {j : Nat} : ∀ (ρ1 ρ : Vm.Env) (vs : List Nat), j ∉ vs → (putE ρ1 ρ vs)[j]? = ρ[j]?
  | _, _, [], _ => rfl
  | ρ1, ρ, v :: vs, h => by rw [putE, List.getElem?_set_ne fun z => h (by rw [z]; exact List.mem_cons_self), putE_not ρ1 ρ vs fun z => h (List.mem_cons_of_mem _ z)]
theorem putE_at {j : Nat} : ∀ (ρ1 ρ : Vm.Env) (vs : List Nat), j ∈ vs → (putE ρ1 ρ vs)[j]? = (if j < ρ.length then some (ρ1.getD j .un) else none)
  | ρ1, ρ, v :: vs, h => by
    rw [putE, List.getElem?_set, putE_len]
    by_cases q : v = j
    · subst q; rw [if_pos rfl]
    · rw [if_neg q]
      exact putE_at ρ1 ρ vs ((List.mem_cons.mp h).resolve_left fun z => q z.symm)
theorem wipe_not {j : Nat} : ∀ (σ : L2.St) (vs : List Nat), j ∉ vs → (wipe σ vs)[j]? = σ[j]?
  | _, [], _ => rfl
  | σ, v :: vs, h => by rw [wipe, List.getElem?_set_ne fun z => h (by rw [z]; exact List.mem_cons_self), wipe_not σ vs fun z => h (List.mem_cons_of_mem _ z)]
theorem wipe_at {j : Nat} : ∀ (σ : L2.St) (vs : List Nat), j ∈ vs → (wipe σ vs)[j]? = (if j < σ.length then some none else none)
  | σ, v :: vs, h => by
    rw [wipe, List.getElem?_set, wipe_length]
    by_cases q : v = j
    · subst q; rw [if_pos rfl]
    · rw [if_neg q]
      exact wipe_at σ vs ((List.mem_cons.mp h).resolve_left fun z => q z.symm)
theorem wipe_eq {σ2 : L2.St} {vs : List Nat} (hl : σ2.length = σ.length) (h : ∀ j, j ∉ vs → σ2[j]? = (wipe σ vs)[j]?) : wipe σ2 vs = wipe σ vs := by
  refine List.ext_getElem? fun j => ?_
  by_cases q : j ∈ vs
  · rw [wipe_at _ _ q, wipe_at _ _ q, hl]
  · rw [wipe_not _ _ q]
    exact h j q
theorem calm_at {own : List Nat} (h : calmAt own ρ = true) {i : Nat} (hi : i ∈ own) : ∀ io lk d, ρ[i]? ≠ some (SD.ow io lk d) := fun io lk d e => by
  have := List.all_eq_true.mp h i hi
  rw [e] at this
  exact absurd this Bool.false_ne_true
/-- the comprehension's own names are forgotten -/
theorem Rep.wipe {own : List Nat} (r : Rep B Z ρ σ G H) (c : calmAt own ρ = true) {σ2 : L2.St} (hl : σ2.length = σ.length) (hs : ∀ j, j ∉ own → σ2[j]? = σ[j]?) : Rep B Z (wipeE ρ own) σ2 G H := by
  refine ⟨by rw [wipeE_len, hl]; exact r.len, r.sub, fun j sd e => ?_, fun i j a h1 h2 => ?_⟩
  · by_cases q : j ∈ own
    · rw [wipeE_at _ _ q] at e
      split at e
      · cases e; exact .un
      · cases e
    · rw [wipeE_not _ _ q] at e
      rw [hs j q]
      exact r.slot j sd e
  · have back : ∀ i, OwnA (wipeE ρ own) σ2 i a → OwnA ρ σ i a := fun i ⟨⟨io, lk, d, z1⟩, z2⟩ => by
      have q : i ∉ own := fun q => by
        rw [wipeE_at _ _ q] at z1
        split at z1 <;> cases z1
      rw [wipeE_not _ _ q] at z1
      rw [hs i q] at z2
      exact ⟨⟨_, _, _, z1⟩, z2⟩
    exact r.inj i j a (back i h1) (back j h2)
theorem Step.wipe {own : List Nat} (s : Step ρ0 σ0 G0 H0 ρ σ G H) (c : calmAt own ρ = true) {σ2 : L2.St} (hs : ∀ j, j ∉ own → σ2[j]? = σ[j]?) : Step ρ0 σ0 G0 H0 (wipeE ρ own) σ2 G H := by
  have no : ∀ {i : Nat} {io lk : Bool} {d : Vm.D}, ρ[i]? = some (SD.ow io lk d) → i ∉ own := fun h q => calm_at c q _ _ _ h
  refine ⟨s.stp, fun i b ⟨⟨io, lk, d, z1⟩, z2⟩ => ?_, fun i lk d h => ?_, fun i io d h => ?_⟩
  · have q : i ∉ own := fun q => by
      rw [wipeE_at _ _ q] at z1
      split at z1 <;> cases z1
    rw [wipeE_not _ _ q] at z1
    rw [hs i q] at z2
    exact s.ownA i b ⟨⟨_, _, _, z1⟩, z2⟩
  · obtain ⟨e, d', h⟩ := s.io i lk d h
    exact ⟨(hs i (no h)).trans e, d', by rw [wipeE_not _ _ (no h)]; exact h⟩
  · obtain ⟨e, h⟩ := s.lk i io d h
    exact ⟨(hs i (no h)).trans e, by rw [wipeE_not _ _ (no h)]; exact h⟩
/-- a thing that is no one's stays through a step -/
theorem Step.aside (s : Step ρ σ G H ρ1 σ1 G1 H1) {a : Addr} {o : HO} (h : H a = some o) (g : G a = none) (n : ∀ i, ¬ OwnA ρ σ i a) : H1 a = some o ∧ G1 a = none ∧ ∀ i, ¬ OwnA ρ1 σ1 i a := by
  have no : ¬ Own ρ σ a := fun z => by obtain ⟨i, z⟩ := z.a; exact n i z
  refine ⟨s.stp.k _ _ h no, s.stp.n _ (by rw [h]; exact fun z => nomatch z) g no, fun i z => ?_⟩
  rcases s.ownA i a z with ⟨j, z⟩ | z
  · exact n j z
  · rw [h] at z; cases z
/-- what is no one's changes -/
theorem Rep.asideR (r : Rep B Z ρ σ G H) {a : Addr} {o : HO} (g : G a = none) (n : ∀ i, ¬ OwnA ρ σ i a) : Rep B Z ρ σ G (upd H a o) := by
  refine ⟨r.len, fun b u e => ?_, fun j sd e => ?_, r.inj⟩
  · rw [upd_ne fun z => by rw [z, g] at e; cases e]
    exact r.sub _ _ e
  · cases r.slot j sd e with
    | un => exact .un
    | sh e1 q => exact .sh e1 q
    | @ow io lk d b e1 n1 c =>
      have : b ≠ a := fun z => n j ⟨⟨_, _, _, e⟩, by rw [← z]; exact e1⟩
      exact .ow e1 n1 (c.to (Same.refl _) fun u z => by rw [upd_ne this]; exact z)
    | ex e1 z => exact .ex e1 z
theorem Step.asideS (s : Step ρ0 σ0 G0 H0 ρ σ G H) {a : Addr} {o : HO} (g : G a = none) (f : H0 a = none) : Step ρ0 σ0 G0 H0 ρ σ G (upd H a o) :=
  ⟨s.stp.trans (Stp.put g) fun b z => .inr (by rw [z]; exact f), s.ownA, s.io, s.lk⟩
/-- the own names are again what they were -/
theorem putE_own {own : List Nat} (cal : calmAt own ρ1 = true) {i : Nat} {io lk : Bool} {d : Vm.D} (h : (putE ρ1 ρ own)[i]? = some (SD.ow io lk d)) : i ∉ own ∧ ρ[i]? = some (SD.ow io lk d) := by
  by_cases q : i ∈ own
  · rw [putE_at _ _ _ q] at h
    split at h
    · have h := Option.some.inj h
      rw [List.getD_eq_getElem?_getD] at h
      cases z : ρ1[i]? with
      | none => rw [z] at h; cases h
      | some s =>
        rw [z] at h
        simp only [Option.getD_some] at h
        subst h
        exact absurd z (calm_at cal q _ _ _)
    · cases h
  · rw [putE_not _ _ _ q] at h
    exact ⟨q, h⟩
theorem Rep.unwipe {own : List Nat} (r1 : Rep B Z ρ1 σ G1 H1) (r : Rep B Z ρ (L2.wipe σ own) G H) (s : Same G1 G) (cal : calmAt own ρ1 = true) : Rep B Z (putE ρ1 ρ own) σ G H := by
  refine ⟨by rw [putE_len, ← r.len, wipe_length], r.sub, fun j sd e => ?_, fun i j a ⟨⟨_, _, _, x1⟩, x2⟩ ⟨⟨_, _, _, y1⟩, y2⟩ => ?_⟩
  · by_cases q : j ∈ own
    · rw [putE_at _ _ _ q] at e
      split at e
      · have e := Option.some.inj e
        rw [List.getD_eq_getElem?_getD] at e
        cases z : ρ1[j]? with
        | none => rw [z] at e; cases e; exact .un
        | some s' =>
          rw [z] at e
          simp only [Option.getD_some] at e
          subst e
          cases r1.slot j _ z with
          | un => exact .un
          | sh e1 q => exact .sh e1 (q.to s)
          | ow e1 n c => exact absurd z (calm_at cal q _ _ _)
          | ex e1 zz => exact .ex e1 (Z.mono s zz)
      · cases e
    · rw [putE_not _ _ _ q] at e
      have := r.slot j sd e
      rw [wipe_not _ _ q] at this
      exact this
  · obtain ⟨q1, q2⟩ := putE_own cal x1
    obtain ⟨p1, p2⟩ := putE_own cal y1
    exact r.inj i j a ⟨⟨_, _, _, q2⟩, by rw [wipe_not _ _ q1]; exact x2⟩ ⟨⟨_, _, _, p2⟩, by rw [wipe_not _ _ p1]; exact y2⟩
theorem Step.unwipe {own : List Nat} {ρs : Vm.Env} (s : Step ρs σ G1 H1 ρ (L2.wipe σ own) G H) (cal : calmAt own ρ1 = true) (cs : calmAt own ρs = true) : Step ρs σ G1 H1 (putE ρ1 ρ own) σ G H := by
  refine ⟨s.stp, fun i b ⟨⟨_, _, _, x1⟩, x2⟩ => ?_, fun i lk d h => ?_, fun i io d h => ?_⟩
  · obtain ⟨q1, q2⟩ := putE_own cal x1
    exact s.ownA i b ⟨⟨_, _, _, q2⟩, by rw [wipe_not _ _ q1]; exact x2⟩
  · obtain ⟨_, d', e⟩ := s.io i lk d h
    have q : i ∉ own := fun q => calm_at cs q _ _ _ h
    exact ⟨rfl, d', by rw [putE_not _ _ _ q]; exact e⟩
  · obtain ⟨_, e⟩ := s.lk i io d h
    have q : i ∉ own := fun q => calm_at cs q _ _ _ h
    exact ⟨rfl, by rw [putE_not _ _ _ q]; exact e⟩
/-- what the elements' turns leave: list D holds them -/
theorem ge_lc {wi : TI} {g : TG} {tt : TT} {te : TE} {mi : Ix} {mg : Tg} {mc : Tst} {me : Ex} {as own : List Nat} (hi : GI B Z W wi mi) (hg : GG B Z as g mg) (hc : GT B Z WNo tt mc) (he : GE B Z WNo te me) (hs : ∀ j ∈ as, j ∈ own) :
    GE B Z W (tLc wi g tt te own) (lcE own mg mi mc me) := by
  intro ρ σ G H Q r w
  refine hi ρ σ G H _ r ?_
  unfold lcE at w
  cases e : mi ρ with
  | bad => rw [e] at w; exact w.elim
  | exc x ρ1 => rw [e] at w; exact w
  | ok p ρ1 =>
  obtain ⟨xs, l⟩ := p
  rw [e] at w
  intro J G1 H1 r1 s1 it
  simp only [R.bind] at w
  by_cases hcl : (calmAt own ρ1 && decide (xs.length < line)) = true
  · rw [if_pos hcl] at w
    rw [Bool.and_eq_true, decide_eq_true_iff] at hcl
    obtain ⟨cal, hlen⟩ := hcl
    cases ec : comp own mg mc me xs (wipeE (lock true l ρ1) own) with
    | bad => rw [ec] at w; exact w.elim
    | exc x ρ2 => rw [ec] at w; exact w.elim
    | ok all ρ2 =>
    rw [ec] at w
    simp only at w
    intro Da hD
    have hw : ∀ j, j ∉ own → (L2.wipe σ own)[j]? = σ[j]? := fun j h => wipe_not σ own h
    have calL : calmAt own (lock true l ρ1) = true := by
      refine List.all_eq_true.mpr fun i hi => ?_
      have := List.all_eq_true.mp cal i hi
      rcases lock_look (ρ := ρ1) (k := true) (l := l) (j := i) with q | ⟨io, lk, d, _, q1, _⟩
      · rw [q]; exact this
      · rw [q1] at this; exact absurd this Bool.false_ne_true
    have gD : G1 Da = none := by
      cases z : G1 Da with
      | none => rfl
      | some o => rw [r1.sub _ _ z] at hD; cases hD
    have rb : Rep B Z (wipeE (lock true l ρ1) own) (L2.wipe σ own) G1 (upd H1 Da (.lst [])) := (r1.lock.wipe calL (wipe_length σ own) hw).new hD
    have sb : Step (lock true l ρ1) σ G1 H1 (wipeE (lock true l ρ1) own) (L2.wipe σ own) G1 (upd H1 Da (.lst [])) := by
      have := (Step.refl (ρ := lock true l ρ1) (σ := σ) (G := G1) (H := H1)).wipe calL hw
      exact ⟨this.stp.trans (Stp.new (L := fun _ => False) hD) fun _ h => h.elim, this.ownA, this.io, this.lk⟩
    have nb : ∀ i, ¬ OwnA (wipeE (lock true l ρ1) own) (L2.wipe σ own) i Da := fun i z => by
      have := (r1.lock.wipe calL (wipe_length σ own) hw).at_ z
      exact this hD
    refine ⟨fun i m H' => m = xs.length - i ∧ i ≤ xs.length ∧ ∃ ρ' G' acc vacc ds, Rep B Z ρ' (L2.wipe σ own) G' H' ∧ Step (lock true l ρ1) σ G1 H1 ρ' (L2.wipe σ own) G' H' ∧ H' Da = some (.lst vacc) ∧ G' Da = none ∧ (∀ i, ¬ OwnA ρ' (L2.wipe σ own) i Da) ∧
      Rps B G' acc vacc ∧ acc.length ≤ i ∧ comp own mg mc me (xs.drop i) ρ' = .ok ds ρ2 ∧ all = acc ++ ds,
      ⟨xs.length, rfl, Nat.zero_le _, _, G1, [], [], all, rb, sb, upd_same, gD, nb, .nil, Nat.zero_le _, ec, rfl⟩, ?_⟩
    rintro i m H' ⟨rfl, hil, ρ', G', acc, vacc, ds, r', s', aD, gD', nD, ra, hal, ec', ea⟩
    obtain ⟨t1, t2⟩ := it.run ρ' _ G' H' r' s' i
    by_cases hlt : i < xs.length
    · refine .inr ⟨(t1 xs[i] (by simp [hlt])).1, fun H'' => i + 1 ≤ xs.length ∧ ∃ ρ' G' acc vacc ds, Rep B Z ρ' (L2.wipe σ own) G' H'' ∧ Step (lock true l ρ1) σ G1 H1 ρ' (L2.wipe σ own) G' H'' ∧ H'' Da = some (.lst vacc) ∧ G' Da = none ∧ (∀ i, ¬ OwnA ρ' (L2.wipe σ own) i Da) ∧
        Rps B G' acc vacc ∧ acc.length ≤ i + 1 ∧ comp own mg mc me (xs.drop (i + 1)) ρ' = .ok ds ρ2 ∧ all = acc ++ ds, fun H'' ⟨h1, h2⟩ => ⟨xs.length - (i + 1), by omega, rfl, h1, h2⟩, fun x H2 y => ?_⟩
      obtain ⟨G2, st, sub, rp⟩ := (t1 xs[i] (by simp [hlt])).2 x H2 y
      have r2 := r'.grown st sub
      have s2 := s'.grown st
      have aD2 := st.k _ _ aD id
      have gD2 := st.n Da (by rw [aD]; exact fun z => nomatch z) gD' id
      have ra2 := ra.to st.g
      rw [List.drop_eq_getElem_cons hlt] at ec'
      simp only [comp] at ec'
      cases e1 : mg xs[i] ρ' with
      | none => rw [e1] at ec'; cases ec'
      | some ρ3 =>
      rw [e1] at ec'
      simp only at ec'
      refine hg ρ' _ G2 H2 _ x ρ3 _ r2 rp e1 fun σ3 r3 s3 k3 => ?_
      obtain ⟨l3, k3⟩ := k3
      have k3' : ∀ j, j ∉ own → σ3[j]? = (L2.wipe σ own)[j]? := fun j h => k3 j fun z => h (hs j z)
      have l3' : σ3.length = σ.length := l3.trans (wipe_length σ own)
      refine ⟨wipe_eq l3' k3', ?_⟩
      refine hc ρ3 σ3 G2 H2 _ r3 ?_
      cases e3 : mc ρ3 with
      | bad => rw [e3] at ec'; cases ec'
      | exc x ρ4 => rw [e3] at ec'; cases ec'
      | ok kk ρ4 =>
      rw [e3] at ec'
      simp only [R.bind] at ec'
      intro b G4 H4 r4 s4 eb
      subst eb
      have s24 := s3.trans r3 s4
      -- the next turn
      have nxt : ∀ {ρ6 : Vm.Env} {G6 H6 : Hp} {acc' : List Vm.D} {vacc' : List V} {ds' : List Vm.D}, Rep B Z ρ6 σ3 G6 H6 → Step ρ' (L2.wipe σ own) G2 H2 ρ6 σ3 G6 H6 → calmAt own ρ6 = true → Rps B G6 acc' vacc' → acc'.length ≤ i + 1 → comp own mg mc me (xs.drop (i + 1)) (wipeE ρ6 own) = .ok ds' ρ2 → all = acc' ++ ds' →
          i + 1 ≤ xs.length ∧ ∃ ρ' G' acc vacc ds, Rep B Z ρ' (L2.wipe σ own) G' (upd H6 Da (.lst vacc')) ∧ Step (lock true l ρ1) σ G1 H1 ρ' (L2.wipe σ own) G' (upd H6 Da (.lst vacc')) ∧ (upd H6 Da (.lst vacc')) Da = some (.lst vacc) ∧ G' Da = none ∧ (∀ i, ¬ OwnA ρ' (L2.wipe σ own) i Da) ∧
        Rps B G' acc vacc ∧ acc.length ≤ i + 1 ∧ comp own mg mc me (xs.drop (i + 1)) ρ' = .ok ds ρ2 ∧ all = acc ++ ds := by
        intro ρ6 G6 H6 acc' vacc' ds' r6 s6 c6 ra6 la6 ec6 ea6
        obtain ⟨_, gD6, nD6⟩ := s6.aside aD2 gD2 nD
        have hw6 : ∀ j, j ∉ own → (L2.wipe σ own)[j]? = σ3[j]? := fun j h => (k3' j h).symm
        have r7 := r6.wipe c6 (σ2 := L2.wipe σ own) ((wipe_length σ own).trans l3'.symm) hw6
        have s7 := (s2.trans r2 s6).wipe c6 (σ2 := L2.wipe σ own) hw6
        have n7 : ∀ i, ¬ OwnA (wipeE ρ6 own) (L2.wipe σ own) i Da := fun i z => by
          obtain ⟨⟨_, _, _, z1⟩, z2⟩ := z
          have q : i ∉ own := fun q => by
            rw [wipeE_at _ _ q] at z1
            split at z1 <;> cases z1
          rw [wipeE_not _ _ q] at z1
          rw [hw6 i q] at z2
          exact nD6 i ⟨⟨_, _, _, z1⟩, z2⟩
        exact ⟨hlt, _, G6, acc', vacc', ds', r7.asideR gD6 n7, s7.asideS gD6 hD, upd_same, gD6, n7, ra6, la6, ec6, ea6⟩
      cases kk with
      | false =>
        simp only [Bool.false_eq_true, if_false] at ec' ⊢
        split at ec'
        · rename_i c4
          obtain ⟨aD4, gD4, nD4⟩ := s24.aside aD2 gD2 nD
          have := nxt r4 s24 c4 (ra2.to s24.stp.g) (by omega) ec' ea
          have same : upd H4 Da (.lst vacc) = H4 := by
            funext b
            by_cases q : b = Da
            · rw [q, upd_same, aD4]
            · rw [upd_ne q]
          rw [same] at this
          exact this
        · cases ec'
      | true =>
        simp only [if_true] at ec' ⊢
        refine he ρ4 σ3 G4 H4 _ r4 ?_
        cases e4 : me ρ4 with
        | bad => rw [e4] at ec'; cases ec'
        | exc x ρ5 => rw [e4] at ec'; cases ec'
        | ok ev ρ5 =>
        rw [e4] at ec'
        simp only at ec'
        intro y G5 H5 r5 s5 p5
        cases e5 : ev.frz ρ5 with
        | none => simp only [e5] at ec'; cases ec'
        | some q =>
        obtain ⟨d, ρ6⟩ := q
        simp only [e5] at ec'
        split at ec'
        · rename_i c6
          obtain ⟨G6, r6, p6, s6⟩ := w_frz1 p5 s5 r5 e5
          have s26 := s24.trans r4 s6
          obtain ⟨aD6, gD6, nD6⟩ := s26.aside aD2 gD2 nD
          cases ec6 : comp own mg mc me (xs.drop (i + 1)) (wipeE ρ6 own) with
          | bad => rw [ec6] at ec'; cases ec'
          | exc x ρ7 => rw [ec6] at ec'; cases ec'
          | ok ds' ρ7 =>
          rw [ec6] at ec'
          cases ec'
          refine ⟨vacc, aD6, by rw [(ra.len), ← line_eq]; omega, ?_⟩
          exact nxt (acc' := acc ++ [d]) r6 s26 c6 ((ra2.to s26.stp.g).app (.cons p6 .nil)) (by rw [List.length_append]; simp; omega) ec6 (by rw [ea, List.append_assoc]; rfl)
        · cases ec'
    · have : i = xs.length := by omega
      subst this
      rw [List.drop_length] at ec'
      simp only [comp] at ec'
      cases ec'
      rw [List.append_nil] at ea
      subst ea
      refine .inl ⟨t2 (Nat.le_refl _), ?_⟩
      have rE := Rep.unwipe r1 r' (s'.stp.g) cal
      have sE := Step.unwipe s' cal calL
      refine w _ G' H' rE.lock (s1.unlock r1 sE rE) (.fr gD' (.lst aD ra) (none_back s1.stp hD) fun i z => ?_)
      obtain ⟨⟨_, _, _, z1⟩, z2⟩ := z.unlock
      obtain ⟨q1, q2⟩ := putE_own cal z1
      exact nD i ⟨⟨_, _, _, q2⟩, by rw [wipe_not _ _ q1]; exact z2⟩
  · rw [if_neg hcl] at w
    exact w.elim
end
end Vm

set_option Elab.async false
set_option linter.all false
set_option maxRecDepth 100000
set_option maxHeartbeats 2000000
namespace Vm
open PySem PySem.Spec PyProof.Rows L2
section
variable {B : Tb} {W : WX} {G H : Hp}
def ZNo : XR := ⟨fun _ _ _ _ => False, fun _ h => h⟩
theorem outs_get {ρ : Vm.Env} : ∀ (xs : List Arg) (k : Nat) (outs : List Vm.D), outsOf ρ k xs = some outs → outs.length = xs.length ∧ ∀ i d0, xs[i]? = some (Arg.io d0) → ∃ lk d, ρ[k + i]? = some (SD.ow true lk d) ∧ outs[i]? = some d
  | [], k, outs, h => by
    simp only [outsOf] at h
    cases h
    exact ⟨rfl, fun i d h => by simp at h⟩
  | .val x :: xs, k, outs, h => by
    simp only [outsOf, Option.map_eq_some_iff] at h
    obtain ⟨o, h, rfl⟩ := h
    obtain ⟨h1, h2⟩ := outs_get xs (k + 1) o h
    refine ⟨by rw [List.length_cons, List.length_cons, h1], fun i d0 e => ?_⟩
    cases i with
    | zero => simp at e
    | succ i =>
      obtain ⟨lk, d, q1, q2⟩ := h2 i d0 (by simpa using e)
      exact ⟨lk, d, by rw [show k + (i + 1) = k + 1 + i by omega]; exact q1, by simpa using q2⟩
  | .io x :: xs, k, outs, h => by
    simp only [outsOf] at h
    split at h
    · rename_i lk d e0
      simp only [Option.map_eq_some_iff] at h
      obtain ⟨o, h, rfl⟩ := h
      obtain ⟨h1, h2⟩ := outs_get xs (k + 1) o h
      refine ⟨by rw [List.length_cons, List.length_cons, h1], fun i d0 e => ?_⟩
      cases i with
      | zero => exact ⟨lk, d, by simpa using e0, rfl⟩
      | succ i =>
        obtain ⟨lk, d, q1, q2⟩ := h2 i d0 (by simpa using e)
        exact ⟨lk, d, by rw [show k + (i + 1) = k + 1 + i by omega]; exact q1, by simpa using q2⟩
    · cases h
theorem slots_get {n : Nat} {xs : List Arg} {i : Nat} {s : SD} (h : (slotsOf n xs)[i]? = some s) : (∃ d, xs[i]? = some (.val d) ∧ s = .sh d) ∨ (∃ d, xs[i]? = some (.io d) ∧ s = .ow true false d) ∨ (xs.length ≤ i ∧ s = .un) := by
  unfold slotsOf at h
  by_cases q : i < xs.length
  · rw [List.getElem?_append_left (by simpa using q), List.getElem?_map] at h
    cases e : xs[i]? with
    | none => rw [e] at h; cases h
    | some x =>
      rw [e] at h
      cases x with
      | val d => cases h; exact .inl ⟨d, rfl, rfl⟩
      | io d => cases h; exact .inr (.inl ⟨d, rfl, rfl⟩)
  · rw [List.getElem?_append_right (by simpa using q)] at h
    have := List.eq_of_mem_replicate (List.mem_of_getElem? h)
    exact .inr (.inr ⟨by omega, this⟩)
theorem slots_at {n : Nat} {xs : List Arg} {i : Nat} {d : Vm.D} (h : xs[i]? = some (.io d)) : (slotsOf n xs)[i]? = some (.ow true false d) := by
  unfold slotsOf
  have hi := (List.getElem?_eq_some_iff.mp h).1
  rw [List.getElem?_append_left (by simpa using hi), List.getElem?_map, h]
  rfl
theorem ArgsR.get {xs : List Arg} {vs : List V} (h : ArgsR B G H xs vs) : ∀ {i : Nat} {x : Arg}, xs[i]? = some x → ∃ v, vs[i]? = some v ∧ ArgR B G H x v := by
  induction h with
  | nil => intro i x e; simp at e
  | cons h r ih =>
    intro i x e
    cases i with
    | zero => simp at e; subst e; exact ⟨_, rfl, h⟩
    | succ i =>
      obtain ⟨v, h1, h2⟩ := ih (i := i) (by simpa using e)
      exact ⟨v, by simpa using h1, h2⟩
theorem start_get {N : List Str} {vs : List V} {i : Nat} (h : i < vs.length) : (L2.start N vs)[i]? = (vs[i]?).map some := by
  unfold L2.start
  rw [List.getElem?_append_left (by simpa using h), List.getElem?_map]
/-- at the entry -/
theorem entry_rep {N : List Str} {xs : List Arg} {vs : List V} (e : EntryR B G H xs vs) (hn : vs.length ≤ N.length) : Rep B ZNo (slotsOf N.length xs) (L2.start N vs) G H := by
  have hl := e.args.len
  refine ⟨?_, e.sub, fun i s h => ?_, fun i j a ⟨⟨_, _, _, h1⟩, h2⟩ ⟨⟨_, _, _, h3⟩, h4⟩ => ?_⟩
  · unfold L2.start slotsOf
    simp only [List.length_append, List.length_map, List.length_replicate]
    omega
  · rcases slots_get h with ⟨d, h1, rfl⟩ | ⟨d, h1, rfl⟩ | ⟨_, rfl⟩
    · obtain ⟨v, h2, h3⟩ := e.args.get h1
      have hi := (List.getElem?_eq_some_iff.mp h2).1
      cases h3 with
      | val r => exact .sh (by rw [start_get hi, h2]; rfl) r
    · obtain ⟨v, h2, h3⟩ := e.args.get h1
      have hi := (List.getElem?_eq_some_iff.mp h2).1
      cases h3 with
      | io n c => exact .ow (by rw [start_get hi, h2]; rfl) n c
    · exact .un
  · have c : ∀ {i io lk d}, (slotsOf N.length xs)[i]? = some (SD.ow io lk d) → (L2.start N vs)[i]? = some (some (V.ref a)) → IoA xs vs i a := fun h1 h2 => by
      rcases slots_get h1 with ⟨d, h3, q⟩ | ⟨d, h3, _⟩ | ⟨_, q⟩
      · cases q
      · obtain ⟨v, h4, _⟩ := e.args.get h3
        have hi := (List.getElem?_eq_some_iff.mp h4).1
        rw [start_get hi, h4] at h2
        exact ⟨⟨_, h3⟩, by rw [h4]; simpa using h2⟩
      · cases q
    exact e.inj i j a (c h1 h2) (c h3 h4)
/-- a body's function, as a promise -/
theorem body_ok {N : List Str} {np : Nat} {t : TS} {m : Tx} {E : XK} (hm : GS B ZNo (fun cls d _ H => E cls d H) t m) {vs : List V} {Q : VK} (hn : np ≤ N.length) (h : spF B (run np N.length m) np vs H Q E) : t { nx := fun _ H' => Q .non H', rt := Q } (L2.start N vs) H := by
  obtain ⟨hl, xs, G, en, w⟩ := h
  have hxl := en.args.len
  have r0 := entry_rep (N := N) en (by omega)
  refine hm (slotsOf N.length xs) (L2.start N vs) G H _ r0 ?_
  have own : ∀ b, Own (slotsOf N.length xs) (L2.start N vs) b → IoAny xs vs b := fun b ⟨i, io, d, h1, h2⟩ => by
    rcases slots_get h1 with ⟨d, h3, q⟩ | ⟨d, h3, _⟩ | ⟨_, q⟩
    · cases q
    · obtain ⟨v, h4, _⟩ := en.args.get h3
      have hi := (List.getElem?_eq_some_iff.mp h4).1
      rw [start_get hi, h4] at h2
      exact ⟨i, ⟨_, h3⟩, by rw [h4]; simpa using h2⟩
    · cases q
  have post : ∀ {ρ' : Vm.Env} {σ' : L2.St} {G' H' : Hp} {outs : List Vm.D}, Rep B ZNo ρ' σ' G' H' → Step (slotsOf N.length xs) (L2.start N vs) G H ρ' σ' G' H' → outsOf ρ' 0 xs = some outs → PostR B xs vs G H outs G' H' := fun {ρ' σ' G' H' outs} r s o => by
    obtain ⟨o1, o2⟩ := outs_get xs 0 outs o
    refine ⟨s.stp.imp own, r.sub, o1, fun i a ⟨⟨d0, h1⟩, h2⟩ => ?_⟩
    obtain ⟨lk, d, q1, q2⟩ := o2 i d0 h1
    rw [Nat.zero_add] at q1
    have hi := (List.getElem?_eq_some_iff.mp h2).1
    obtain ⟨e1, _⟩ := s.io i false d0 (slots_at h1)
    have e2 : σ'[i]? = some (some (.ref a)) := by rw [e1, start_get hi, h2]; rfl
    cases r.slot i _ q1 with
    | ow e3 n c =>
      rw [e2] at e3
      cases e3
      exact ⟨n, d, q2, c⟩
  unfold run at w
  rw [if_pos (by omega)] at w
  cases e : m (slotsOf N.length xs) with
  | bad => rw [e] at w; exact w.elim
  | bk ρ' => rw [e] at w; exact w.elim
  | ct ρ' => rw [e] at w; exact w.elim
  | nx ρ' =>
    simp only [e] at w
    cases o : outsOf ρ' 0 xs with
    | none => simp only [o] at w; exact w.elim
    | some outs =>
      simp only [o] at w
      exact fun σ' G' H' r s => w .non G' H' (post r s o) (.val .non)
  | rt rv ρ' =>
    simp only [e] at w
    cases o : outsOf ρ' 0 xs with
    | none => simp only [o] at w; exact w.elim
    | some outs =>
      simp only [o] at w
      intro v σ' G' H' r s x
      refine w v G' H' (post r s o) ?_
      cases x with
      | val q => exact .val q
      | fr n c ne f =>
        refine .fr n c (f.resolve_right fun ⟨i, lk, d, h1, h2⟩ => ?_)
        rcases slots_get h1 with ⟨d, h3, q⟩ | ⟨d, h3, q⟩ | ⟨_, q⟩ <;> cases q
  | exc x ρ' =>
    simp only [e] at w
    cases o : outsOf ρ' 0 xs with
    | none => simp only [o] at w; exact w.elim
    | some outs =>
      simp only [o] at w
      exact fun cls d σ' G' H' r s x => w cls d G' H' (post r s o) x
theorem run_len {np n : Nat} {m : Tx} : ∀ as, run np n m as ≠ .bad → as.length = np := fun as h => by
  unfold run at h
  by_cases q : as.length = np
  · exact q
  · rw [if_neg q] at h
    exact absurd rfl h
end
section
variable {P : Program} {w : World} {K : PySem.W.Frag} {mg : Str → Option Value} {base : Heap} {B : Tb} {k : Nat} {f : Addr}
theorem fp_of {F : Fn} {np : Nat} {dv : List Vm.D} {dvs : List V} (c : Z.Ok P w K mg base (L2N.CX P w) k f (spF B F np) dvs) (hd : ∀ G, Rps B G dv dvs) (hl : ∀ as, F as ≠ .bad → as.length = np) : FP P w K mg base B k f F np dv := by
  obtain ⟨fd, ps, ds, F, b, d⟩ := c.ex
  exact ⟨⟨dvs, hd, F.raw b d⟩, hl⟩
/-- THE RULE of a def: its body's derivation and its function -/
theorem def_ok {x qual : Str} {st : Stmt} {dvs : List V} {kws : List (Str × V)} {fd : FuncData} {N ps : List Str} {m : Tx} (F : FunD K x qual (defArgs st) (defBody st) (defScope st) dvs kws f fd) (S : FnScope N ps (defScope st)) (hn : ps.length ≤ N.length)
    (body : ∀ (cdv : Value) (A : Around) (outer : List PySem.Env) (s : Shared) (H : Hp) (E : XK), Room k (A.deeper (envOfC qual (defScope st) s.heap.objs.size f cdv)) →
      ∃ t, PSs (cxOf (L2N.CX P w) P w K mg base N qual (defScope st) f cdv A outer s H E) (defBody st) t ∧ GS B ZNo (fun cls d _ H => E cls d H) t m) :
    FnOk P w K mg base (L2N.CX P w) (k + 1) f fd ps (spF B (run ps.length N.length m) ps.length) :=
  F.ok S (fun vs H Q E h => h.1) fun cdv A outer s H vs Q E hr h => by
    obtain ⟨t, h1, h2⟩ := body cdv A outer s H E hr
    exact ⟨t, h1, body_ok h2 hn h⟩
end
end Vm

set_option Elab.async false
set_option linter.all false
set_option maxRecDepth 100000
set_option maxHeartbeats 2000000
namespace Vm
open PySem PySem.Spec PyProof.Rows L2
section
variable {B : Tb} {Z : XR} {W : WX} {ρ : Vm.Env} {σ : L2.St} {G H : Hp}
theorem CallR.or {X : Cx} {f : Value} {r r' : List V → Hp → VK → Prop} (h : CallR X f r) (h' : CallR X f r') : CallR X f (fun xs H Q => r xs H Q ∨ r' xs H Q) := fun pins s σ H xs us Q I v q => q.elim (h pins s σ H xs us Q I v) (h' pins s σ H xs us Q I v)
inductive Rrs (B : Tb) (G H : Hp) : List Vm.D → List V → Prop where
  | nil : Rrs B G H [] []
  | cons {d : Vm.D} {v : V} {ds : List Vm.D} {vs : List V} (h : Rr B G H d v) (r : Rrs B G H ds vs) : Rrs B G H (d :: ds) (v :: vs)
theorem RepVs.peeks {H0 : Hp} {es : List EV} {vs : List V} (q : RepVs B Z H0 ρ σ G H es vs) (r : Rep B Z ρ σ G H) : ∀ {ds : List Vm.D}, peeks ρ es = some ds → Rrs B G H ds vs := by
  induction q with
  | nil => intro ds e; cases e; exact .nil
  | cons h t d ih =>
    intro ds e
    simp only [Vm.peeks] at e
    split at e
    · rename_i x e1
      simp only [Option.map_eq_some_iff] at e
      obtain ⟨y, e2, rfl⟩ := e
      exact .cons (h.peek r e1) (ih e2)
    · cases e
/-- a built-in's function is its rule's -/
def Bok (B : Tb) (r : List V → Hp → VK → Prop) (f : Bi) : Prop := ∀ (Z : XR) (W : WX) (ρ : Vm.Env) (σ : L2.St) (G H : Hp) (ds : List Vm.D) (vs : List V) (ev : EV) (Q : VK), Rep B Z ρ σ G H → Rrs B G H ds vs → f ds = some ev → WantE B Z W (.ok ev ρ) ρ σ G H Q → r vs H Q
theorem ge_bcall {r : List V → Hp → VK → Prop} {f : Bi} (hf : Bok B r f) {xa : TA} {na : Exs} (hx : GA B Z W xa na) : GE B Z W (tCB r xa) (bcall f na) := by
  intro ρ σ G H Q q w
  refine GA.bind hx q w fun es vs ρ1 G1 H1 r1 s1 p1 w1 => ?_
  cases e : peeks ρ1 es with
  | none => simp only [e] at w1; exact w1.elim
  | some ds =>
    simp only [e] at w1
    obtain ⟨ev, h, w2⟩ := w_of (WantE.to w1 s1 r1)
    exact hf Z W ρ1 σ G1 H1 ds vs ev Q r1 (p1.peeks r1 e) h w2
def rLen (K : PySem.W.Frag) : List V → Hp → VK → Prop := fun xs H Q => (∃ p ys, xs = [.ref p] ∧ (SqL K H p ys ∨ SqT K H p ys) ∧ Q (.int ys.length) H) ∨ (∃ z, xs = [.str z] ∧ z.length ≤ sizeLine ∧ Q (.int z.length) H)
theorem cr_len {X : Cx} : CallR X (.builtin "len") (rLen X.K) := CallR.or call_len_seq call_len_str
theorem bok_len : Bok B (rLen B.K) biLen := by
  intro Z W ρ σ G H ds vs ev Q r rr h w
  cases rr with
  | nil => cases h
  | cons h1 r1 =>
  cases r1 with
  | cons _ _ => cases h1 <;> cases h
  | nil =>
  cases h1 with
  | str z =>
    simp only [biLen] at h
    split at h
    · cases h
      refine .inr ⟨_, rfl, by rw [T_len, ← line_eq]; assumption, ?_⟩
      rw [T_len]
      exact w_val w r (.int _)
    · cases h
  | lst hx rx => cases h; exact .inl ⟨_, _, rfl, .inl hx, by rw [rx.len]; exact w_val w r (.int _)⟩
  | tup hx rx => cases h; exact .inl ⟨_, _, rfl, .inr (sqT_to r.sub hx), by rw [rx.len]; exact w_val w r (.int _)⟩
  | _ => cases h
def rAbs : List V → Hp → VK → Prop := fun xs H Q => ∃ i, xs = [.int i] ∧ Q (.int (if i < 0 then -i else i)) H
theorem bok_abs : Bok B rAbs biAbs := by
  intro Z W ρ σ G H ds vs ev Q r rr h w
  cases rr with
  | nil => cases h
  | cons h1 r1 =>
  cases r1 with
  | cons _ _ => cases h1 <;> cases h
  | nil =>
  cases h1 with
  | int i =>
    cases h
    refine ⟨i, rfl, ?_⟩
    have : (if i < 0 then -i else i) = (i.natAbs : Int) := by split <;> omega
    rw [this]
    exact w_val w r (.int _)
  | _ => cases h
def rInt1 : List V → Hp → VK → Prop := fun xs H Q => (∃ i, xs = [V.int i] ∧ Q (V.int i) H) ∨ ∃ k, xs = [V.bl k] ∧ Q (V.int (if k then 1 else 0)) H
theorem bok_int : Bok B rInt1 biInt := by
  intro Z W ρ σ G H ds vs ev Q r rr h w
  cases rr with
  | nil => cases h
  | cons h1 r1 =>
  cases r1 with
  | cons _ _ => cases h1 <;> cases h
  | nil =>
  cases h1 with
  | int i => cases h; exact .inl ⟨i, rfl, w_val w r (.int _)⟩
  | bl b => cases h; exact .inr ⟨b, rfl, w_val w r (.int _)⟩
  | _ => cases h
theorem bools_of {ds : List Vm.D} {vs : List V} (r : Rps B G ds vs) : ∀ {bs : List Bool}, boolsOf ds = some bs → vs = bs.map V.bl := by
  induction ds generalizing vs with
  | nil => intro bs e; cases r; cases e; rfl
  | cons d ds ih =>
    intro bs e
    cases r with
    | cons h r =>
    cases h with
    | bl b =>
      simp only [boolsOf, Option.map_eq_some_iff] at e
      obtain ⟨x, e, rfl⟩ := e
      rw [ih r e]
      rfl
    | _ => cases e
theorem ints_of {ds : List Vm.D} {vs : List V} (r : Rps B G ds vs) : ∀ {ns : List Int}, intsOf ds = some ns → vs = ns.map V.int := by
  induction ds generalizing vs with
  | nil => intro bs e; cases r; cases e; rfl
  | cons d ds ih =>
    intro bs e
    cases r with
    | cons h r =>
    cases h with
    | int b =>
      simp only [intsOf, Option.map_eq_some_iff] at e
      obtain ⟨x, e, rfl⟩ := e
      rw [ih r e]
      rfl
    | _ => cases e
theorem bok_all : Bok B (rAll B.K) biAll := by
  intro Z W ρ σ G H ds vs ev Q r rr h w
  cases rr with
  | nil => cases h
  | cons h1 r1 =>
  cases r1 with
  | cons _ _ => cases h1 <;> cases h
  | nil =>
  cases h1 with
  | lst hx rx =>
    simp only [biAll, Option.map_eq_some_iff] at h
    obtain ⟨bs, e, rfl⟩ := h
    have := bools_of rx e
    subst this
    exact ⟨_, bs, rfl, hx, w_val w r (.bl _)⟩
  | _ => cases h
theorem bok_any : Bok B (rAny B.K) biAny := by
  intro Z W ρ σ G H ds vs ev Q r rr h w
  cases rr with
  | nil => cases h
  | cons h1 r1 =>
  cases r1 with
  | cons _ _ => cases h1 <;> cases h
  | nil =>
  cases h1 with
  | lst hx rx =>
    simp only [biAny, Option.map_eq_some_iff] at h
    obtain ⟨bs, e, rfl⟩ := h
    have := bools_of rx e
    subst this
    exact ⟨_, bs, rfl, hx, w_val w r (.bl _)⟩
  | _ => cases h
theorem bok_sum : Bok B (rSum B.K) biSum := by
  intro Z W ρ σ G H ds vs ev Q r rr h w
  cases rr with
  | nil => cases h
  | cons h1 r1 =>
  cases r1 with
  | cons _ _ => cases h1 <;> cases h
  | nil =>
  cases h1 with
  | lst hx rx =>
    simp only [biSum, Option.map_eq_some_iff] at h
    obtain ⟨bs, e, rfl⟩ := h
    have := ints_of rx e
    subst this
    exact ⟨_, bs, rfl, hx, w_val w r (.int _)⟩
  | _ => cases h
def rMin2 : List V → Hp → VK → Prop := fun xs H Q => ∃ i j, xs = [.int i, .int j] ∧ Q (.int (if j < i then j else i)) H
def rMax2 : List V → Hp → VK → Prop := fun xs H Q => ∃ i j, xs = [.int i, .int j] ∧ Q (.int (if j > i then j else i)) H
theorem two_int {f : Bi} {ds : List Vm.D} {vs : List V} {ev : EV} (hf : ∀ ds, (∀ i j, ds ≠ [Vm.D.int i, Vm.D.int j]) → f ds = none) (rr : Rrs B G H ds vs) (h : f ds = some ev) : ∃ i j, ds = [.int i, .int j] ∧ vs = [.int i, .int j] := by
  by_cases q : ∃ i j, ds = [Vm.D.int i, Vm.D.int j]
  · obtain ⟨i, j, rfl⟩ := q
    refine ⟨i, j, rfl, ?_⟩
    cases rr with
    | cons h1 r1 =>
    cases r1 with
    | cons h2 r2 =>
    cases r2
    cases h1
    cases h2
    rfl
  · rw [hf ds fun i j e => q ⟨i, j, e⟩] at h
    cases h
theorem bok_min : Bok B rMin2 biMin := by
  intro Z W ρ σ G H ds vs ev Q r rr h w
  obtain ⟨i, j, rfl, rfl⟩ := two_int (f := biMin) (fun ds hn => by unfold biMin; split <;> first | rfl | exact absurd rfl (hn _ _)) rr h
  cases h
  exact ⟨i, j, rfl, w_val w r (.int _)⟩
theorem bok_max : Bok B rMax2 biMax := by
  intro Z W ρ σ G H ds vs ev Q r rr h w
  obtain ⟨i, j, rfl, rfl⟩ := two_int (f := biMax) (fun ds hn => by unfold biMax; split <;> first | rfl | exact absurd rfl (hn _ _)) rr h
  cases h
  exact ⟨i, j, rfl, w_val w r (.int _)⟩
def rListOf (K : PySem.W.Frag) : List V → Hp → VK → Prop := fun xs H Q => ∃ p ys, xs = [.ref p] ∧ (SqL K H p ys ∨ SqT K H p ys) ∧ ∀ l, H l = none → Q (.ref l) (upd H l (.lst ys))
theorem bok_list : Bok B (rListOf B.K) biList := by
  intro Z W ρ σ G H ds vs ev Q r rr h w
  cases rr with
  | nil => cases h
  | cons h1 r1 =>
  cases r1 with
  | cons _ _ => cases h1 <;> cases h
  | nil =>
  cases h1 with
  | lst hx rx => cases h; exact ⟨_, _, rfl, .inl hx, fun l hl => w_new w r (fun p => .lst upd_same rx) hl⟩
  | tup hx rx => cases h; exact ⟨_, _, rfl, .inr (sqT_to r.sub hx), fun l hl => w_new w r (fun p => .lst upd_same rx) hl⟩
  | _ => cases h
def rTupleOf (K : PySem.W.Frag) : List V → Hp → VK → Prop := fun xs H Q => ∃ p ys, xs = [.ref p] ∧ ((SqL K H p ys ∧ ∀ l, H l = none → Q (.ref l) (upd H l (.tup ys))) ∨ (SqT K H p ys ∧ Q (.ref p) H))
theorem bok_tuple : Bok B (rTupleOf B.K) biTuple := by
  intro Z W ρ σ G H ds vs ev Q r rr h w
  cases rr with
  | nil => cases h
  | cons h1 r1 =>
  cases r1 with
  | cons _ _ => cases h1 <;> cases h
  | nil =>
  cases h1 with
  | lst hx rx => cases h; exact ⟨_, _, rfl, .inl ⟨hx, fun l hl => w_newF w r (fun G' p s e => .tup (SqT.of e) (rx.to s)) hl⟩⟩
  | tup hx rx => cases h; exact ⟨_, _, rfl, .inr ⟨sqT_to r.sub hx, w_val w r (.tup hx rx)⟩⟩
  | _ => cases h

/-! ### isinstance -/
theorem kit_bt (K : PySem.W.Frag) : PySem.W.kitOne K (.type "bool") (.type "int") = some true := by first | rfl | decide
end
end Vm

set_option Elab.async false
set_option linter.all false
set_option maxRecDepth 100000
set_option maxHeartbeats 4000000
namespace Vm
open PySem PySem.Spec PyProof.Rows L2
section
variable {B : Tb} {Z : XR} {W : WX} {ρ : Vm.Env} {σ : L2.St} {G H : Hp}
theorem ownL_at {n : Nat} (h : ownL n ρ = true) (r : Rep B Z ρ σ G H) : ∃ a vs, σ[n]? = some (some (.ref a)) ∧ H a = some (.lst vs) := by
  unfold ownL at h
  split at h
  · rename_i io lk xs e
    cases r.slot n _ e with
    | ow e1 _ c =>
      cases c with
      | lst h1 _ => exact ⟨_, _, e1, h1⟩
  · cases h
theorem w_mut {io : Bool} {d d' res : Vm.D} {i : Nat} {a : Addr} {o : HO} {v : V} {Q : VK} {ρ0 : Vm.Env} {G0 H0 : Hp} (w : WantE B Z W (.ok (.val res) (ρ.set i (.ow io false d'))) ρ0 σ G0 H0 Q) (s : Step ρ0 σ G0 H0 ρ σ G H) (r : Rep B Z ρ σ G H) (hs : ρ[i]? = some (SD.ow io false d)) (ha : σ[i]? = some (some (.ref a)))
    (c : Cell B G (upd H a o) a d') (q : Rp B G res v) : Q v (upd H a o) := w v G _ (r.mut hs ha c) (s.mut r hs ha) (.val q)
theorem ge_append {n : Nat} {ta : TE} {ma : Ex} (ha : GE B Z W ta ma) : GE B Z W (tBM B.K "list" rAppend (tVar n) (tCons ta tNil)) (append n ma) := by
  intro ρ σ G H Q r w
  unfold append at w
  by_cases ho : ownL n ρ = true
  · rw [if_pos ho] at w
    obtain ⟨a, vs, e1, e2⟩ := ownL_at ho r
    refine ⟨_, e1, .inl ⟨rfl, vs, SqL.of e2⟩, ?_⟩
    refine ha.bind r w fun ev v ρ1 G1 H1 r1 s1 p1 w1 => ?_
    cases e : ev.frz ρ1 with
    | none => simp only [e] at w1; exact w1.elim
    | some x =>
      obtain ⟨d, ρ2⟩ := x
      simp only [e] at w1
      obtain ⟨G2, r2, p2, s2⟩ := w_frz1 p1 s1 r1 e
      split at w1
      · rename_i io xs hs
        split at w1
        · rename_i hl
          cases r2.slot n _ hs with
          | ow e3 n3 c3 =>
            rw [e1] at e3
            cases e3
            cases c3 with
            | lst h3 r3 =>
              exact ⟨a, _, v, rfl, rfl, h3, by rw [r3.len, ← line_eq]; exact hl, w_mut w1 s2 r2 hs e1 (.lst upd_same (r3.app (.cons p2 .nil))) .non⟩
        · exact w1.elim
      · exact w1.elim
  · rw [if_neg ho] at w
    exact w.elim
theorem seqIx {n : Nat} {i : Int} {j : Nat} (h : Vm.ixN n i = some j) (hl : n ≤ line) : seqIndex? i n = some j ∧ -(2 ^ 63) ≤ i ∧ i < 2 ^ 63 := by
  have hl' : n ≤ 16777216 := hl
  clear hl
  unfold Vm.ixN at h
  have fin : ∀ k : Int, (if i < 0 then i + (n : Int) else i) = k → 0 ≤ k → k < n → seqIndex? i n = some k.toNat := fun k e h1 h2 => by
    show (if (decide (0 ≤ (if i < 0 then i + (n : Int) else i)) && decide ((if i < 0 then i + (n : Int) else i) < n)) = true then some (if i < 0 then i + (n : Int) else i).toNat else none) = _
    rw [e, decide_eq_true h1, decide_eq_true h2]
    rfl
  by_cases h0 : 0 ≤ i
  · rw [if_pos h0] at h
    by_cases h1 : i < n
    · rw [if_pos h1] at h
      cases h
      exact ⟨fin i (if_neg (by omega)) h0 h1, by omega, by omega⟩
    · rw [if_neg h1] at h; cases h
  · rw [if_neg h0] at h
    by_cases h1 : -(n : Int) ≤ i
    · rw [if_pos h1] at h
      cases h
      exact ⟨fin (i + n) (if_pos (by omega)) (by omega) (by omega), by omega, by omega⟩
    · rw [if_neg h1] at h; cases h
theorem ge_popAt {n : Nat} {ta : TE} {ma : Ex} (ha : GE B Z W ta ma) : GE B Z W (tBM B.K "list" rPopAt (tVar n) (tCons ta tNil)) (popAt n ma) := by
  intro ρ σ G H Q r w
  unfold popAt at w
  by_cases ho : ownL n ρ = true
  · rw [if_pos ho] at w
    obtain ⟨a, vs, e1, e2⟩ := ownL_at ho r
    refine ⟨_, e1, .inl ⟨rfl, vs, SqL.of e2⟩, ?_⟩
    refine ha.bind r w fun ev v ρ1 G1 H1 r1 s1 p1 w1 => ?_
    cases e : ev.peek ρ1 with
    | none => simp only [e] at w1; exact w1.elim
    | some d =>
      have hp := p1.peek r1 e
      simp only [e] at w1
      split at w1
      · rename_i i io xs hi hs
        cases hi
        cases hp
        split at w1
        · rename_i j hj
          split at w1
          · rename_i d' hd
            split at w1
            · rename_i hl
              cases r1.slot n _ hs with
              | ow e3 n3 c3 =>
                rw [e1] at e3
                cases e3
                cases c3 with
                | lst h3 r3 =>
                  obtain ⟨u, hu, ru⟩ := r3.get hd
                  obtain ⟨q1, q2, q3⟩ := seqIx hj hl
                  exact ⟨a, _, i, j, u, rfl, rfl, h3, q2, q3, by rw [r3.len]; exact q1, hu, w_mut w1 s1 r1 hs e1 (.lst upd_same (r3.erase j)) ru⟩
            · exact w1.elim
          · exact w1.elim
        · exact w1.elim
      · exact w1.elim
  · rw [if_neg ho] at w
    exact w.elim
theorem gs_iset {n : Nat} {ta tb : TE} {ma mb : Ex} (ha : GE B Z W ta ma) (hb : GE B Z W tb mb) : GS B Z W (tAsg ta (gSub (tVar n) tb rSetL)) (iset n mb ma) := by
  intro ρ σ G H D r w
  refine ha.thn r w fun ev v ρ1 G1 H1 r1 s1 p1 w1 => ?_
  cases e : ev.frz ρ1 with
  | none => simp only [e] at w1; exact w1.elim
  | some x =>
    obtain ⟨d, ρ2⟩ := x
    simp only [e] at w1
    obtain ⟨G2, r2, p2, s2⟩ := w_frz1 p1 s1 r1 e
    by_cases ho : ownL n ρ2 = true
    · rw [if_pos ho] at w1
      obtain ⟨a, vs, e1, e2⟩ := ownL_at ho r2
      refine ⟨_, e1, ?_⟩
      refine hb ρ2 σ G2 H1 _ r2 ?_
      cases e3 : mb ρ2 with
      | bad => rw [e3] at w1; exact w1.elim
      | exc x ρ3 => rw [e3] at w1; exact fun c d G3 H3 r3 s3 v => w1 c d σ G3 H3 r3 (s2.trans r2 s3) v
      | ok vi ρ3 =>
      rw [e3] at w1
      intro u G3 H3 r3 s3 p3
      simp only [R.thn] at w1
      cases e4 : vi.peek ρ3 with
      | none => simp only [e4] at w1; exact w1.elim
      | some di =>
      have hp := p3.peek r3 e4
      simp only [e4] at w1
      split at w1
      · rename_i i io xs hi hs
        cases hi
        cases hp
        split at w1
        · rename_i j hj
          cases r3.slot n _ hs with
          | ow e5 n3 c3 =>
            rw [e1] at e5
            cases e5
            cases c3 with
            | lst h3 rr3 =>
              refine ⟨a, _, i, j, rfl, rfl, h3, by rw [rr3.len]; exact hj, ?_⟩
              exact w1 σ G3 _ (r3.mut hs e1 (.lst upd_same (rr3.set (p2.to s3.stp.g) j))) ((s2.trans r2 s3).mut r3 hs e1)
        · exact w1.elim
      · exact w1.elim
    · rw [if_neg ho] at w1
      exact w1.elim
end
end Vm

set_option Elab.async false
set_option linter.all false
set_option maxRecDepth 100000
set_option maxHeartbeats 2000000
/-! Objects of one's own: fields, making, methods. -/
namespace Vm
open PySem PySem.Spec PyProof.Rows L2

/-- self.f = .. (slot i), of the classes cs -/
def fsetC (i f : Nat) (cs : List Nat) (a : Ex) : Tx := fun ρ => (a ρ).thn fun v ρ1 =>
  match v.frz ρ1 with
  | some (d, ρ2) => (match ρ2[i]? with
    | some (.ow io false (.obj c fs)) => if cs.contains c && decide (fs.length < 1000) then .nx (ρ2.set i (.ow io false (.obj c (setF f d fs)))) else .bad
    | _ => .bad)
  | none => .bad
/-- a def that may be called, by its class -/
structure MtE where
  F : Fn
  ms : List Bool
  np : Nat
  dv : List D
  lv : Nat
/-- o.m(..): by the class of o; mid: the id of m -/
def meth (mid : Nat) (tab : List (Nat × MtE)) (a : Ex) (es : Exs) : Ex := fun ρ => (a ρ).bind fun v ρ1 =>
  match v.peek ρ1 with
  | some (.obj c fs) => (match fs.lookup mid, tab.lookup c with
    | none, some fe => (es ρ1).bind fun vs ρ2 => callV fe.F fe.ms fe.dv (v :: vs) ρ2
    | _, _ => .bad)
  | _ => .bad
/-- C.m(..), a class method -/
def cmeth (c : Nat) (F : Fn) (ms : List Bool) (dv : List D) (es : Exs) : Ex := fun ρ => (es ρ).bind fun vs ρ1 => callV F (false :: ms) dv (.val (.cls c) :: vs) ρ1

section
variable {B : Tb} {Z : XR} {W : WX} {ρ ρ1 : Vm.Env} {σ : L2.St} {G H G1 H1 : Hp}
/-! ### fields -/
theorem ge_fld {f : Nat} {fn : Str} {cs : List Nat} (hf : B.fld f = fn) (hc : ∀ c, cs.contains c = true → Cls B.K (B.cls c) ∧ NoAttr B.K (B.cls c) fn) {ta : TE} {ma : Ex} (ha : GE B Z W ta ma) : GE B Z W (tFld B.K ta fn) (fld f cs ma) := by
  intro ρ σ G H Q q w
  refine ha.bind q w fun ev v ρ1 G1 H1 r1 s1 p1 w1 => ?_
  cases e : ev.peek ρ1 with
  | none => simp only [e] at w1; exact w1.elim
  | some d =>
    have h := p1.peek r1 e
    simp only [e] at w1
    cases h with
    | @obj a dx c fs vs h rf =>
      simp only at w1
      by_cases hcs : cs.contains c = true
      · rw [if_pos hcs] at w1
        obtain ⟨e2, h2, w2⟩ := w_of (WantE.to w1 s1 r1)
        simp only [Option.map_eq_some_iff] at h2
        obtain ⟨x, hx, rfl⟩ := h2
        obtain ⟨v, l, rv⟩ := rf.look hx
        rw [hf] at l
        obtain ⟨c1, c2⟩ := hc c hcs
        exact ⟨a, _, dx, vs, v, rfl, h, c1, c2, l, w_val w2 r1 rv⟩
      · rw [if_neg hcs] at w1
        exact w1.elim
    | _ => exact w1.elim
theorem Rpf.put {f : Nat} {d : D} {v : V} (h : Rp B G d v) : ∀ {fs : List (Nat × D)} {vs : List (Str × V)}, Rpf B G fs vs → Rpf B G (setF f d fs) (putF (B.fld f) v vs)
  | _, _, .nil => .cons h .nil
  | _, _, .cons (f := g) q r => by
    unfold setF putF
    by_cases e : g = f
    · subst e
      rw [if_pos rfl, if_pos rfl]
      exact .cons h r
    · rw [if_neg e, if_neg fun z => e (B.inj _ _ z)]
      exact .cons q (Rpf.put h r)
theorem gs_fset {i f : Nat} {fn : Str} {cs : List Nat} (hf : B.fld f = fn) (hc : ∀ c, cs.contains c = true → Cls B.K (B.cls c) ∧ NoAttr B.K (B.cls c) fn) {ta : TE} {ma : Ex} (ha : GE B Z W ta ma) : GS B Z W (sFld B.K (tVar i) ta fn) (fsetC i f cs ma) := by
  intro ρ σ G H D r w
  refine ha.thn r w fun ev v ρ1 G1 H1 r1 s1 p1 w1 => ?_
  cases e : ev.frz ρ1 with
  | none => simp only [e] at w1; exact w1.elim
  | some x =>
    obtain ⟨d, ρ2⟩ := x
    simp only [e] at w1
    obtain ⟨G2, r2, p2, s2⟩ := w_frz1 p1 s1 r1 e
    split at w1
    · rename_i io c fs hs
      split at w1
      · rename_i hk
        rw [Bool.and_eq_true] at hk
        obtain ⟨c1, c2⟩ := hc c hk.1
        cases r2.slot i _ hs with
        | ow e3 n3 c3 =>
          cases c3 with
          | @obj dx c0 fs0 vs h3 r3 =>
            refine ⟨_, e3, _, _, dx, vs, rfl, h3, c1, c2, by rw [r3.len]; exact of_decide_eq_true hk.2, ?_⟩
            subst hf
            exact w1 σ G2 _ (r2.mut hs e3 (.obj upd_same (r3.put p2))) (s2.mut r2 hs e3)
      · exact w1.elim
    · exact w1.elim

/-! ### calls, by what is handed over -/
theorem hand_ok {F : Fn} {np : Nat} {dv : List D} {dvs : List V} {ms : List Bool} (hd : ∀ G, Rps B G dv dvs) (hl : ∀ as, F as ≠ .bad → as.length = np) {es : List EV} {vs : List V} {as : List Arg} {ls : List (Option Nat)} {ρ2 : Vm.Env}
    (r : Rep B Z ρ1 σ G1 H1) (s : Step ρ σ G H ρ1 σ G1 H1) (q : RepVs B Z H ρ1 σ G1 H1 es vs) (e : hand ρ1 ms es = some (as, ls, ρ2)) {Q : VK} {E : XK}
    (h1 : ∀ rv outs, F (as ++ dv.map Arg.val) = .ret rv outs → ∀ (v : V) (G' H' : Hp), Rep B Z (back ρ2 ls outs) σ G' H' → Step ρ σ G H (back ρ2 ls outs) σ G' H' → RepV B Z H (back ρ2 ls outs) σ G' H' rv.ev v →
      (∀ i a, IoA as vs i a → G' a = none ∧ ∃ d, outs[i]? = some d ∧ Cell B G' H' a d) → (∀ i b, OwnA (back ρ2 ls outs) σ i b → OwnA ρ1 σ i b) → Q v H')
    (h2 : ∀ x outs, F (as ++ dv.map Arg.val) = .exc x outs → ∀ (cls : Value) (d : Option Addr) (G' H' : Hp), Rep B Z (back ρ2 ls outs) σ G' H' → Step ρ σ G H (back ρ2 ls outs) σ G' H' → XcR B G' H' x cls d → E cls d H')
    (nb : F (as ++ dv.map Arg.val) ≠ .bad) : spF B F np (vs ++ dvs) H1 Q E := by
  obtain ⟨G2, r2, hp, t, o, k, _, _⟩ := q.hand ms r (fun b h => none_back s.stp h) e
  have s2 := s.frz r t o k
  have la := hp.args r2
  have ll := la.len
  have hn := hl _ nb
  rw [List.length_append, List.length_map] at hn
  have hdl := (hd G2).len
  refine ⟨by rw [List.length_append]; omega, as ++ dv.map Arg.val, G2, ⟨la.app (.vals (hd G2)), r2.sub, fun i j a h1 h2 => hp.inj r2 i j a (io_app ll h1) (io_app ll h2)⟩, ?_⟩
  have any : ∀ b, IoAny (as ++ dv.map Arg.val) (vs ++ dvs) b → IoAny as vs b := fun b ⟨i, h⟩ => ⟨i, io_app ll h⟩
  have own2 : ∀ outs i b, OwnA (back ρ2 ls outs) σ i b → OwnA ρ2 σ i b := fun outs i b z => by
    obtain ⟨⟨x, y, zz, e1⟩, e2⟩ := z
    by_cases q : some i ∈ ls
    · obtain ⟨kk, hk⟩ := List.getElem?_of_mem q
      obtain ⟨a, iof, d, h1, h2, h3, _⟩ := hp.slot hk
      exact ⟨⟨_, _, _, h3⟩, e2⟩
    · rw [back_not ls outs ρ2 q] at e1
      exact ⟨⟨_, _, _, e1⟩, e2⟩
  cases ef : F (as ++ dv.map Arg.val) with
  | bad => exact absurd ef nb
  | ret rv outs =>
    intro v G' H' p rr
    have io' : ∀ i a, IoA as vs i a → G' a = none ∧ ∃ d, outs[i]? = some d ∧ Cell B G' H' a d := fun i a h => p.io i a (io_app' ll h)
    obtain ⟨r3, s3⟩ := hp.back r2 s2 (p.stp.imp any) p.sub io'
    refine h1 rv outs ef v G' H' r3 s3 ?_ io' fun i b z => o i b (own2 outs i b z)
    cases rr with
    | val z => exact .val z
    | fr n c f => exact .fr n c (none_back s.stp f) fun i z => r2.at_ (own2 outs i _ z) f
  | exc x outs =>
    intro cls d G' H' p rr
    obtain ⟨r3, s3⟩ := hp.back r2 s2 (p.stp.imp any) p.sub fun i a h => p.io i a (io_app' ll h)
    exact h2 x outs ef cls d G' H' r3 s3 rr

theorem RepVs.memH {H0 : Hp} {es : List EV} {vs : List V} (q : RepVs B Z H0 ρ σ G H es vs) {v : V} (h : v ∈ frs es vs) : ∃ a, v = .ref a ∧ H a ≠ none := by
  induction q with
  | nil => cases h
  | @cons e u es us h1 r d ih =>
    cases e with
    | fr d0 =>
      simp only [frs] at h
      rcases List.mem_cons.mp h with h | h
      · subst h
        cases h1 with
        | fr n c f ne => exact ⟨_, rfl, c.ne⟩
      · exact ih h
    | _ => exact ih h
/-! ### C(..) -/
/-- a new object and its dict -/
theorem ge_make {c : Nat} {F : Fn} {np : Nat} {dv : List D} {dvs : List V} {ms : List Bool} (hd : ∀ G, Rps B G dv dvs) (hl : ∀ as, F as ≠ .bad → as.length = np) {xa : TA} {na : Exs} (hx : GA B Z W xa na) :
    GE B Z W (fun σ H Q => xa σ H fun vs H1 => ∀ x dx, H1 x = none → H1 dx = none → dx ≠ x → spF B F np (.ref x :: (vs ++ dvs)) (upd (upd H1 dx (.own x)) x (.ins (B.cls c) dx [])) (fun v H2 => v = .non ∧ Q (.ref x) H2) (WE W σ)) (make c F ms dv na) := by
  intro ρ σ G H Q q w
  refine GA.bind hx q w fun es vs ρ1 G1 H1 r1 s1 p1 w1 => ?_
  intro x dx hx hdx ne
  have hx' : upd H1 dx (.own x) x = none := by rw [upd_ne (Ne.symm ne)]; exact hx
  have rN := (r1.new (o := .own x) hdx).new (o := .ins (B.cls c) dx []) hx'
  have st1 : Step ρ1 σ G1 H1 ρ1 σ G1 (upd H1 dx (.own x)) := Step.heap (Stp.new hdx)
  have st2 : Step ρ1 σ G1 (upd H1 dx (.own x)) ρ1 σ G1 (upd (upd H1 dx (.own x)) x (.ins (B.cls c) dx [])) := Step.heap (Stp.new hx')
  have sN : Step ρ σ G H ρ1 σ G1 (upd (upd H1 dx (.own x)) x (.ins (B.cls c) dx [])) := (s1.trans r1 st1).trans (r1.new hdx) st2
  have pN := (p1.step st1).step st2
  have gx : G1 x = none := by
    cases e : G1 x with
    | none => rfl
    | some u => rw [r1.sub _ _ e] at hx; cases hx
  have H0x : H x = none := none_back s1.stp hx
  have pA : RepVs B Z H ρ1 σ G1 (upd (upd H1 dx (.own x)) x (.ins (B.cls c) dx [])) (.fr (.obj c []) :: es) (.ref x :: vs) := by
    refine .cons (.fr gx (.obj upd_same .nil) H0x fun i z => r1.at_ z hx) pN fun d _ hv => ?_
    obtain ⟨a, ha, hn⟩ := p1.memH hv
    cases ha
    exact hn hx
  cases e : hand ρ1 ms es with
  | none => simp only [e] at w1; exact w1.elim
  | some y =>
    obtain ⟨as, ls, ρ2⟩ := y
    simp only [e] at w1
    have e' : hand ρ1 (true :: ms) (.fr (.obj c []) :: es) = some (.io (.obj c []) :: as, none :: ls, ρ2) := by
      simp only [hand, List.headD_cons, List.tail_cons, e]
    refine hand_ok (vs := .ref x :: vs) hd hl rN sN pA e' (fun rv outs ef v G' H' r3 s3 rr io' ow => ?_) (fun y outs ef cls d G' H' r3 s3 rr => ?_) fun z => ?_
    · rw [List.cons_append] at ef
      simp only [ef] at w1
      cases rv with
      | fr d => exact w1.elim
      | val d =>
        cases d with
        | non =>
          cases outs with
          | nil => exact w1.elim
          | cons o outs =>
            simp only [back] at r3 s3 rr ow
            simp only at w1
            obtain ⟨gn, d, hd', cl⟩ := io' 0 x ⟨⟨_, rfl⟩, rfl⟩
            cases hd'
            cases rr with
            | val z =>
              cases z
              exact ⟨rfl, w1 (.ref x) G' H' r3 s3 (.fr gn cl H0x fun i z => r1.at_ (ow i _ z) hx)⟩
        | _ => exact w1.elim
    · rw [List.cons_append] at ef
      simp only [ef] at w1
      cases outs with
      | nil => exact w1.elim
      | cons o outs =>
        simp only [back] at r3 s3
        exact w1 cls d G' H' r3 s3 rr
    · rw [List.cons_append] at z
      simp only [z] at w1
      exact w1.elim
end
end Vm

set_option Elab.async false
set_option linter.all false
set_option maxRecDepth 100000
set_option maxHeartbeats 2000000
/-! Objects of one's own: the rules of making and of methods. -/
namespace Vm
open PySem PySem.Spec PyProof.Rows L2
section
variable {X : Cx} {W : WX} {k : Nat} {f C : Addr} {sp : Sp} {x m : Str} {p pos apos : Pos} {e o : Expr} {es : List Expr} {ta : TE} {t : TA}
theorem run_makeR {pins : List (Addr × Obj)} {σ : L2.St} {H : Hp} {s : Shared} {Q : VK} {us : List Value} {vs : List V} (M : Mk X.K C f) (F : FnR X.prog X.w X.K X.mg X.base (L2N.CX X.prog X.w) k f sp) (hr : Room (k + 1) X.A) (tk : L2N.Takes X W) (I : Inv X pins σ H s) (r : Vals vs us)
    (h : ∀ x dx, H x = none → H dx = none → dx ≠ x → sp (V.ref x :: vs) (upd (upd H dx (.own x)) x (.ins C dx [])) (fun v H2 => v = .non ∧ Q (.ref x) H2) (WE W σ)) : wpAny (model X.prog X.w) X.A (PySem.call (.ref C) us) (EP X pins σ Q) X.xe s := by
  have hq := h (s.heap.objs.size + 1) s.heap.objs.size (I.hok.fresh (Nat.le_succ _)) (I.hok.fresh (Nat.le_refl _)) (Nat.ne_of_lt (Nat.lt_succ_self _))
  have I2 := Inv.made (C := C) I
  have r2 : Vals (V.ref (s.heap.objs.size + 1) :: vs) (Value.ref (s.heap.objs.size + 1) :: us) := .cons rfl r
  refine wpAny_call (make_map (f := f) I.kIn M.makes M.init (beq_iff_eq.mp M.fn) (codeAny_mono (F _ X.stack _ _ (Value.ref (s.heap.objs.size + 1) :: us) _ _ (WE W σ) (hr.make C us []) (I2.env0.make C us []) r2 hq) fun r s' hq' => ?_))
  cases r with
  | error e => exact L2N.passAt tk σ pins _ _ e s' I2 hq'
  | ok fl =>
    cases fl with
    | ret u =>
      obtain ⟨v, H', I3, rv, ev, q3⟩ := I2.after hq'
      subst ev
      exact ⟨rv, ⟨V.ref (s.heap.objs.size + 1), H', I3, rfl, q3⟩⟩
    | next => exact False.elim hq'
    | brk => exact False.elim hq'
    | cont => exact False.elim hq'
/-- C(e, ..) -/
theorem pe_makeF (M : Mk X.K C f) (F : FnR X.prog X.w X.K X.mg X.base (L2N.CX X.prog X.w) k f sp) (hr : Room (k + 1) X.A) (tk : L2N.Takes X W) (hg : Gl X x) (hm : X.mg x = some (.ref C)) (ha : PA X (e :: es) t)
    (hdb : (x == ("__debug__" : Str)) = false) (he : starEach (e :: es) X.env = (false, eval e X.env) :: starEach es X.env) (hpl : (backTo pos (starEach es X.env)).any (·.1) = false) :
    PE X (.Call (.Name x p) (e :: es) [] pos) (fun σ H Q => t σ H fun vs H1 => ∀ x dx, H1 x = none → H1 dx = none → dx ≠ x → sp (V.ref x :: vs) (upd (upd H1 dx (.own x)) x (.ins C dx [])) (fun v H2 => v = .non ∧ Q (.ref x) H2) (WE W σ)) := by
  refine ⟨fun pins s σ H Q I h => ?_⟩
  refine wpAny_Call_Name_kw (ld_glob I hg hm ?_ hdb)
  refine PySem.W.callWith_K (h₀ := X.base) I.ok.mod.kin M.kp (thn (ha.run pos pins s σ H _ I h) fun us s1 ⟨vs, H1, I1, r, q⟩ => ⟨I1.kIn, ?_⟩) he hpl
  exact run_makeR M F hr tk I1 r q
theorem pe_makeF0 (M : Mk X.K C f) (F : FnR X.prog X.w X.K X.mg X.base (L2N.CX X.prog X.w) k f sp) (hr : Room (k + 1) X.A) (tk : L2N.Takes X W) (hg : Gl X x) (hm : X.mg x = some (.ref C)) (hdb : (x == ("__debug__" : Str)) = false) :
    PE X (.Call (.Name x p) [] [] pos) (fun σ H Q => tNil σ H fun vs H1 => ∀ x dx, H1 x = none → H1 dx = none → dx ≠ x → sp (V.ref x :: vs) (upd (upd H1 dx (.own x)) x (.ins C dx [])) (fun v H2 => v = .non ∧ Q (.ref x) H2) (WE W σ)) := by
  refine ⟨fun pins s σ H Q I h => ?_⟩
  refine wpAny_Call_Name_kw (ld_glob I hg hm ?_ hdb)
  exact PySem.W.callWith_K0 I.kIn M.kp (run_makeR (us := []) (vs := []) M F hr tk I .nil h)
/-- o.m(..), by the class of o -/
def tMethD (X : Cx) (W : WX) (m : Str) (ta : TE) (t : TA) : TE := fun σ H Q => ta σ H fun x H1 => ∃ a C dx fs g k sp, x = .ref a ∧ H1 a = some (.ins C dx fs) ∧ Cls X.K C ∧ Meth X.K C m g ∧ fs.lookup m = none ∧
  FnR X.prog X.w X.K X.mg X.base (L2N.CX X.prog X.w) k g sp ∧ Room k X.A ∧ t σ H1 fun vs H2 => sp (x :: vs) H2 Q (WE W σ)
/-- the tree of a method call -/
theorem mcall_tree {m : Str} {args : List Expr} {env : PySem.Env} (hb : attributeBase o m env (eval o env) = eval o env) (hf : methodCallForm (args.length + ([] : List Keyword).length) (backTo pos (starEach args env)) (backToKw pos (keywordEach [] env)) = true) (hl : (apos.endLine == pos.line) = true) :
    eval (.Call (.Attribute o m apos) args [] pos) env = (do
      let ov ← eval o env
      standAt apos.atName
      let (f, first) ← holding [ov] (getMethod ov m (do
        let r ← importBound o env
        pure (r.getD true)))
      callWith pos f first (backTo pos (starEach args env)) (backToKw pos (keywordEach [] env))) := by
  refine mcall_of hb fun ov => ?_
  unfold methodCall
  rw [hf]
  unfold methodCallPos
  rw [hl]
  rfl
theorem few_of {args : List Expr} {env : PySem.Env} (hs : ∀ e ∈ args, (∀ es, starEach (e :: es) env = (false, eval e env) :: starEach es env)) (hn : args.length < 30) : methodCallForm (args.length + ([] : List Keyword).length) (backTo pos (starEach args env)) (backToKw pos (keywordEach [] env)) = true := by
  unfold methodCallForm
  have h1 : (backTo pos (starEach args env)).all (fun x => !x.1) = true := by
    clear hn
    induction args with
    | nil => rfl
    | cons e es ih =>
      rw [hs e List.mem_cons_self es]
      have := ih fun e he => hs e (List.mem_cons_of_mem _ he)
      unfold backTo at this ⊢
      rw [List.map_cons, List.all_cons, this]
      rfl
  rw [h1]
  show (true && (true && decide (args.length + 0 + 0 < 30))) = true
  rw [decide_eq_true (by omega)]
  rfl
theorem pe_methD (he : PE X o ta) (tk : L2N.Takes X W) (ha : PA X (e :: es) t) (hst : starEach (e :: es) X.env = (false, eval e X.env) :: starEach es X.env) (hpl : (backTo pos (starEach es X.env)).any (·.1) = false)
    (hb : attributeBase o m X.env (eval o X.env) = eval o X.env) (hf : methodCallForm ((e :: es).length + ([] : List Keyword).length) (backTo pos (starEach (e :: es) X.env)) (backToKw pos (keywordEach [] X.env)) = true) (hl : (apos.endLine == pos.line) = true) :
    PE X (.Call (.Attribute o m apos) (e :: es) [] pos) (tMethD X W m ta t) := by
  refine ⟨fun pins s σ H Q I h => ?_⟩
  refine PySem.W.methodCall_KW (thn (he.run pins s σ H _ I h) fun u s1 ⟨x, H1, I1, rx, a, C, dx, fs, g, k, sp, ex, ea, c, hm, l, F, hr, q⟩ => ?_) (mcall_tree hb hf hl)
  subst ex
  obtain rfl : u = Value.ref a := rx
  refine getmeth_ok I1 ea c hm l ?_
  refine PySem.W.callWith_K (first := [.ref a]) (h₀ := X.base) I.ok.mod.kin hm.kp (thn (ha.run pos pins s1 σ H1 _ I1 q) fun us s2 ⟨vs, H2, I2, r, q2⟩ => ⟨I2.kIn, ?_⟩) hst hpl
  exact run_fnW (us := .ref a :: us) (vs := .ref a :: vs) F hr tk I2 (.cons rfl r) q2
theorem pe_methD0 (he : PE X o ta) (tk : L2N.Takes X W) (hb : attributeBase o m X.env (eval o X.env) = eval o X.env) (hl : (apos.endLine == pos.line) = true) :
    PE X (.Call (.Attribute o m apos) [] [] pos) (tMethD X W m ta tNil) := by
  refine ⟨fun pins s σ H Q I h => ?_⟩
  refine PySem.W.methodCall_KW (thn (he.run pins s σ H _ I h) fun u s1 ⟨x, H1, I1, rx, a, C, dx, fs, g, k, sp, ex, ea, c, hm, l, F, hr, q⟩ => ?_) (mcall_tree hb rfl hl)
  subst ex
  obtain rfl : u = Value.ref a := rx
  refine getmeth_ok I1 ea c hm l ?_
  exact PySem.W.callWith_K0 (first := [.ref a]) I1.kIn hm.kp (run_fnW (us := [.ref a]) (vs := [.ref a]) F hr tk I1 (.cons rfl .nil) q)
end
section
variable {X : Cx} {B : Tb} {Z : XR} {W : WX}
/-- a class's method, what is known of it -/
structure MtOk (X : Cx) (B : Tb) (m : Str) (c : Nat) (fe : MtE) : Prop where
  cl : Cls X.K (B.cls c)
  sf : PySem.W.selfFirst X.K (B.cls c) = true
  ex : ∃ g, Meth X.K (B.cls c) m g ∧ FP X.prog X.w X.K X.mg X.base B fe.lv g fe.F fe.np fe.dv
theorem ge_meth {mid : Nat} {m : Str} {tab : List (Nat × MtE)} (hm : B.fld mid = m) (ht : ∀ c fe, tab.lookup c = some fe → MtOk X B m c fe ∧ Room fe.lv X.A) {ta : TE} {ma : Ex} {xa : TA} {na : Exs} (ha : GE B Z W ta ma) (hx : GA B Z W xa na) :
    GE B Z W (tMethD X W m ta xa) (meth mid tab ma na) := by
  intro ρ σ G H Q q w
  refine ha.bind q w fun ev v ρ1 G1 H1 r1 s1 p1 w1 => ?_
  cases e : ev.peek ρ1 with
  | none => simp only [e] at w1; exact w1.elim
  | some d =>
    have h := p1.peek r1 e
    simp only [e] at w1
    cases h with
    | @obj a dx c fs vs h rf =>
      simp only at w1
      split at w1
      · rename_i fe h1 h2
        obtain ⟨⟨cl, _, g, hmt, ⟨dvs, hd, F⟩, hl⟩, hr⟩ := ht _ _ h2
        have l := rf.no h1
        rw [hm] at l
        refine ⟨a, _, dx, vs, g, _, _, rfl, h, cl, hmt, l, F, hr, ?_⟩
        refine hx ρ1 σ G1 H1 _ r1 ?_
        cases e2 : na ρ1 with
        | bad => rw [e2] at w1; exact w1.elim
        | exc x ρ2 =>
          rw [e2] at w1
          exact fun c d G2 H2 r2 s2 p2 => w1 c d G2 H2 r2 (s1.trans r1 s2) p2
        | ok es ρ2 =>
          rw [e2] at w1
          intro us G2 H2 r2 s2 p2
          refine callV_ok (vs := .ref a :: us) hd hl r2 (s1.trans r1 s2) (.cons (p1.step s2) (p2.old fun b h => none_back s1.stp h) fun d e hv => ?_) w1
          subst e
          obtain ⟨b, eb, hb⟩ := p2.mem hv
          cases eb
          rw [h] at hb
          cases hb
      · exact w1.elim
    | _ => exact w1.elim
open ClX in
/-- C.m(e, ..), a class method -/
theorem pe_cmethF {k : Nat} {g C pp : Addr} {mc : Value} {sp : Sp} {x m : Str} {p pos apos : Pos} {e : Expr} {es : List Expr} {t : TA} (r : CRead X.K C mc) (c : CMet X.K C mc m pp g) (F : FnR X.prog X.w X.K X.mg X.base (L2N.CX X.prog X.w) k g sp) (hr : Room k X.A) (tk : L2N.Takes X W) (he : PE X (.Name x p) (tC (.ref C)))
    (ha : PA X (e :: es) t) (hst : starEach (e :: es) X.env = (false, eval e X.env) :: starEach es X.env) (hpl : (backTo pos (starEach es X.env)).any (·.1) = false)
    (hf : methodCallForm ((e :: es).length + ([] : List Keyword).length) (backTo pos (starEach (e :: es) X.env)) (backToKw pos (keywordEach [] X.env)) = true) (hl : (apos.endLine == pos.line) = true) :
    PE X (.Call (.Attribute (.Name x p) m apos) (e :: es) [] pos) (OwnX.tCMethS C sp (WE W) (tC (.ref C)) t) :=
  OwnX.pe_cmethS he r c F hr (fun σ pins H s e s' I h => L2N.passAt tk σ pins H s e s' I h) ha hst hpl (mcall_tree rfl hf hl)
theorem ge_cmeth {c : Nat} {F : Fn} {np : Nat} {dv : List D} {dvs : List V} {ms : List Bool} (hd : ∀ G, Rps B G dv dvs) (hl : ∀ as, F as ≠ .bad → as.length = np) {xa : TA} {na : Exs} (hx : GA B Z W xa na) :
    GE B Z W (OwnX.tCMethS (B.cls c) (fun vs => spF B F np (vs ++ dvs)) (WE W) (tC (.ref (B.cls c))) xa) (cmeth c F ms dv na) := by
  intro ρ σ G H Q q w
  refine ⟨rfl, ?_⟩
  refine GA.bind hx q w fun es vs ρ1 G1 H1 r1 s1 p1 w1 => ?_
  exact callV_ok (vs := .ref (B.cls c) :: vs) hd hl r1 s1 (.cons (.val (.cls c)) p1 fun d e => nomatch e) w1
end
end Vm

set_option Elab.async false
set_option linter.all false
set_option maxRecDepth 100000
set_option maxHeartbeats 2000000
/-! Operators of one's own classes: two things of one class. -/
namespace Vm
open PySem PySem.Spec PyProof.Rows L2

def both : D → D → Option Nat
  | .obj c _, .obj c' _ => if c = c' then some c else none
  | _, _ => none
def ownOp (tab : List (Nat × MtE)) (c : Nat) (vs : List EV) (ρ : Env) : R EV :=
  match tab.lookup c with
  | some fe => callV fe.F fe.ms fe.dv vs ρ
  | none => .bad
/-- two operands: of one class of one's own by its method, else by k -/
def twoO (tab : List (Nat × MtE)) (a b : Ex) (k : D → D → Env → R EV) : Ex := fun ρ => (a ρ).bind fun va ρ1 => (b ρ1).bind fun vb ρ2 =>
  match va.peek ρ2, vb.peek ρ2 with
  | some x, some y => (match both x y with
    | some c => ownOp tab c [va, vb] ρ2
    | none => k x y ρ2)
  | _, _ => .bad
def binO (o : Option BOp) (tab : List (Nat × MtE)) (a b : Ex) : Ex := twoO tab a b fun x y ρ => R.of (o.bind fun o => bop o x y) ρ
def cmpO (o : COp) (tab : List (Nat × MtE)) (a b : Ex) : Ex := twoO tab a b fun x y ρ => R.of ((cop o x y).map fun k => .val (.bl k)) ρ

/-- by the method of both's class -/
def rOwn (X : Cx) (W : WX) (nm : Str) : L2.St → R2 := fun σ x y H Q => ∃ a b C dx dy fs gs g k sp, x = .ref a ∧ y = .ref b ∧ H a = some (.ins C dx fs) ∧ H b = some (.ins C dy gs) ∧ PySem.W.selfFirst X.K C = true ∧ OwnO.Own X.K C nm g ∧
  FnR X.prog X.w X.K X.mg X.base (L2N.CX X.prog X.w) k g sp ∧ Room k X.A ∧ sp [.ref a, .ref b] H Q (WE W σ)
def tTwoO (r : L2.St → R2) (ta tb : TE) : TE := fun σ H Q => ta σ H fun x H1 => tb σ H1 fun y H2 => r σ x y H2 Q
section
variable {X : Cx} {W : WX} {nm : Str}
theorem own_bin {op : Operator} (tk : L2N.Takes X W) (pins : List (Addr × Obj)) (s : Shared) (σ : L2.St) (H : Hp) (x y : V) (v u : Value) (Q : VK) (I : Inv X pins σ H s) (rx : RelV x v) (ry : RelV y u) (hq : rOwn X W (PySem.dunder op.info.2) σ x y H Q) :
    wpAny (model X.prog X.w) X.A (binaryOp op v u) (EP X pins σ Q) X.xe s := by
  obtain ⟨a, b, C, dx, dy, fs, gs, g, k, sp, rfl, rfl, ha, hb', hc, o, F, hr, q⟩ := hq
  cases rx
  cases ry
  obtain ⟨mA, J, _⟩ := ins_get I.hok ha
  obtain ⟨mB, J', _⟩ := ins_get I.hok hb'
  obtain ⟨od, J, _⟩ := J.look
  obtain ⟨od', J', _⟩ := J'.look
  obtain ⟨m, hF⟩ := I.fr
  refine PySem.W.binop_K hF I.ok.mod.kin J J'.type hc o.at_ o.fn ?_
  exact wpAny_mono (run_fnW (us := [.ref a, .ref b]) (vs := [.ref a, .ref b]) F hr tk I (.cons rfl (.cons rfl .nil)) q) (fun r s' h => by
    obtain ⟨z, H', I', rz, q'⟩ := h
    exact OwnO.rel_back rz ⟨z, H', I', rz, q'⟩) fun _ _ h => h
theorem own_cmp {op : CmpOp} (ho : ∀ v u, compareOp op v u = richCompare op v u) (tk : L2N.Takes X W) (pins : List (Addr × Obj)) (s : Shared) (σ : L2.St) (H : Hp) (x y : V) (v u : Value) (Q : VK) (I : Inv X pins σ H s) (rx : RelV x v) (ry : RelV y u) (hq : rOwn X W (PySem.cmpInfo op).2.1 σ x y H Q) :
    wpAny (model X.prog X.w) X.A (compareOp op v u) (EP X pins σ Q) X.xe s := by
  obtain ⟨a, b, C, dx, dy, fs, gs, g, k, sp, rfl, rfl, ha, hb', hc, o, F, hr, q⟩ := hq
  cases rx
  cases ry
  obtain ⟨mA, J, _⟩ := ins_get I.hok ha
  obtain ⟨mB, J', _⟩ := ins_get I.hok hb'
  obtain ⟨od, J, _⟩ := J.look
  obtain ⟨od', J', _⟩ := J'.look
  obtain ⟨m, hF⟩ := I.fr
  rw [ho]
  refine PySem.W.cmp_K (tb := .ref C) hr.units0 hF I.ok.mod.kin J J'.type (by simp [PySem.W.notFirst]) o.at_ o.fn ?_
  exact wpAny_mono (run_fnW (us := [.ref a, .ref b]) (vs := [.ref a, .ref b]) F hr tk I (.cons rfl (.cons rfl .nil)) q) (fun r s' h => by
    obtain ⟨z, H', I', rz, q'⟩ := h
    exact OwnO.rel_back (Q := EP X pins σ Q) rz ⟨z, H', I', rz, q'⟩) fun _ _ h => h
/-- an operation whose reading may speak of the slots -/
def OpRS (X : Cx) (f : Value → Value → Sem Value) (r : L2.St → R2) : Prop :=
  ∀ (pins : List (Addr × Obj)) (s : Shared) (σ : L2.St) (H : Hp) (x y : V) (v u : Value) (Q : VK), Inv X pins σ H s → RelV x v → RelV y u → r σ x y H Q → wpAny (model X.prog X.w) X.A (f v u) (EP X pins σ Q) X.xe s
def rOr (r : R2) (r' : L2.St → R2) : L2.St → R2 := fun σ x y H Q => r x y H Q ∨ r' σ x y H Q
theorem OpRS.or {f : Value → Value → Sem Value} {r : R2} {r' : L2.St → R2} (h : OpR X f r) (h' : OpRS X f r') : OpRS X f (rOr r r') := fun pins s σ H x y v u Q I rx ry q => q.elim (h pins s σ H x y v u Q I rx ry) (h' pins s σ H x y v u Q I rx ry)
section
variable {a b : Expr} {ta tb : TE} {pos : Pos} {r : L2.St → R2}
theorem pe_opS {op : Operator} (ho : OpRS X (binaryOp op) r) (ha : PE X a ta) (hb : PE X b tb) : PE X (.BinOp a op b pos) (tTwoO r ta tb) := by
  refine ⟨fun pins s σ H Q I h => ?_⟩
  exact wpAny_BinOp (thn (ha.run pins s σ H _ I h) fun v s1 ⟨x, H1, I1, r1, q1⟩ => thn (hb.run pins s1 σ H1 _ I1 q1) fun u s2 ⟨y, H2, I2, r2, q2⟩ => ho pins s2 σ H2 x y v u Q I2 r1 r2 q2)
theorem pe_cmpS {op : CmpOp} (ho : OpRS X (compareOp op) r) (ha : PE X a ta) (hb : PE X b tb) (hm : behindInMarks op b = false) : PE X (.Compare a [op] [b] pos) (tTwoO r ta tb) := by
  refine ⟨fun pins s σ H Q I h => ?_⟩
  exact wpAny_Compare1 (thn (ha.run pins s σ H _ I h) fun v s1 ⟨x, H1, I1, r1, q1⟩ => thn (hb.run pins s1 σ H1 _ I1 q1) fun u s2 ⟨y, H2, I2, r2, q2⟩ => ho pins s2 σ H2 x y v u Q I2 r1 r2 q2) hm
theorem pt_cmpS {op : CmpOp} (ho : OpRS X (compareOp op) r) (ha : PE X a ta) (hb : PE X b tb) (hm : behindInMarks op b = false) : PT X (.Compare a [op] [b] pos) (tTest (tTwoO r ta tb)) := by
  refine ⟨fun pins s σ H Q I h => ?_⟩
  refine wpAny_isTrue_Compare1 (thn (ha.run pins s σ H _ I h) fun v s1 ⟨x, H1, I1, r1, q1⟩ => thn (hb.run pins s1 σ H1 _ I1 q1) fun u s2 ⟨y, H2, I2, r2, q2⟩ =>
    thn (ho pins s2 σ H2 x y v u _ I2 r1 r2 q2) fun c s3 ⟨z, H3, I3, r3, k, e, q3⟩ => ?_) hm
  subst e
  cases r3
  exact wpAny_truthy_bool ⟨H3, I3, q3⟩
end
variable {B : Tb} {Z : XR}
theorem ge_twoO {tab : List (Nat × MtE)} (ht : ∀ c fe, tab.lookup c = some fe → MtOk X B nm c fe ∧ Room fe.lv X.A) {r : R2} {kf : D → D → Vm.Env → R EV} {ta tb : TE} {ma mb : Ex} (ha : GE B Z W ta ma) (hb : GE B Z W tb mb)
    (h : ∀ d e v u ρ σ G H Q, Rep B Z ρ σ G H → Rr B G H d v → Rr B G H e u → WantE B Z W (kf d e ρ) ρ σ G H Q → r v u H Q) : GE B Z W (tTwoO (rOr r (rOwn X W nm)) ta tb) (twoO tab ma mb kf) := by
  intro ρ σ G H Q q w
  refine ha.bind q w fun ev v ρ1 G1 H1 r1 s1 p1 w1 => ?_
  refine hb ρ1 σ G1 H1 _ r1 ?_
  cases e0 : mb ρ1 with
  | bad => rw [e0] at w1; exact w1.elim
  | exc x ρ2 =>
    rw [e0] at w1
    exact fun c d G2 H2 r2 s2 p2 => w1 c d G2 H2 r2 (s1.trans r1 s2) p2
  | ok eu ρ2 =>
    rw [e0] at w1
    intro u G2 H2 r2 s2 p2
    have s12 := s1.trans r1 s2
    have p1' := p1.step s2
    simp only [R.bind] at w1
    cases e1 : ev.peek ρ2 with
    | none => simp only [e1] at w1; exact w1.elim
    | some d =>
    cases e2 : eu.peek ρ2 with
    | none => simp only [e1, e2] at w1; exact w1.elim
    | some e =>
    simp only [e1, e2] at w1
    have h1 := p1'.peek r2 e1
    have h2 := p2.peek r2 e2
    cases e3 : both d e with
    | none =>
      simp only [e3] at w1
      exact .inl (h d e v u ρ2 σ G2 H2 Q r2 h1 h2 (WantE.to w1 s12 r2))
    | some c =>
      simp only [e3] at w1
      unfold both at e3
      split at e3
      · rename_i c1 fs1 c2 fs2
        split at e3
        · rename_i hc
          subst hc
          cases e3
          cases h1 with
          | @obj a dx _ _ vs h1 rf =>
          cases h2 with
          | @obj b dy _ _ us h2 rg =>
          unfold ownOp at w1
          split at w1
          · rename_i fe hl
            obtain ⟨⟨cl, sf, g, hmt, ⟨dvs, hd, F⟩, len⟩, hr⟩ := ht _ _ hl
            refine .inr ⟨a, b, _, dx, dy, vs, us, g, _, _, rfl, rfl, h1, h2, sf, ⟨hmt.at_, hmt.fn⟩, F, hr, ?_⟩
            refine callV_ok (vs := [.ref a, .ref b]) hd len r2 s12 (.cons p1' (.cons (p2.old fun b h => none_back s1.stp h) .nil fun d e => ?_) fun d e hv => ?_) w1
            · exact fun z => by cases z
            · subst e
              cases p1 with
              | fr n c f ne =>
                cases eu with
                | fr d2 =>
                  simp only [frs, List.mem_singleton] at hv
                  cases hv
                  cases p2 with
                  | fr n2 c2 f2 ne2 => exact c.ne f2
                | _ => cases hv
          · exact w1.elim
        · cases e3
      · cases e3
end
end Vm

set_option Elab.async false
set_option linter.all false
set_option maxRecDepth 100000
set_option maxHeartbeats 2000000
namespace Vm
open PySem PySem.Spec PyProof.Rows L2
def dunB : Operator → Str
  | .Add => "__add__"
  | .Sub => "__sub__"
  | .Mult => "__mul__"
  | .MatMult => "__matmul__"
  | .Div => "__truediv__"
  | .Mod => "__mod__"
  | .Pow => "__pow__"
  | .LShift => "__lshift__"
  | .RShift => "__rshift__"
  | .BitOr => "__or__"
  | .BitXor => "__xor__"
  | .BitAnd => "__and__"
  | .FloorDiv => "__floordiv__"
theorem dunB_ok (o : Operator) : PySem.dunder o.info.2 = dunB o := by cases o <;> decide +kernel
def dunC : CmpOp → Option Str
  | .Eq => some "__eq__"
  | .Lt => some "__lt__"
  | .LtE => some "__le__"
  | .Gt => some "__gt__"
  | .GtE => some "__ge__"
  | _ => none
theorem dunC_ok {o : CmpOp} {m : Str} (h : dunC o = some m) : (PySem.cmpInfo o).2.1 = m ∧ ∀ v u, compareOp o v u = richCompare o v u := by
  cases o <;> first | (cases h; exact ⟨by decide +kernel, fun _ _ => rfl⟩) | cases h
def rBo (K : PySem.W.Frag) : Option BOp → R2
  | some o => rB K o
  | none => fun _ _ _ _ => False
section
variable {X : Cx} {W : WX} {B : Tb} {Z : XR} {a b : Expr} {ta tb : TE} {ma mb : Ex} {pos : Pos} {tab : List (Nat × MtE)}
theorem tr_binO {op : Operator} {o : Option BOp} (hK : X.K = B.K) (ho : ∀ o', o = some o' → o'.py = op) (tk : L2N.Takes X W) (ht : ∀ c fe, tab.lookup c = some fe → MtOk X B (dunB op) c fe ∧ Room fe.lv X.A)
    (pa : PE X a ta) (ga : GE B Z W ta ma) (pb : PE X b tb) (gb : GE B Z W tb mb) : ∃ t, PE X (.BinOp a op b pos) t ∧ GE B Z W t (binO o tab ma mb) := by
  have h1 : OpR X (binaryOp op) (rBo B.K o) := by
    cases o with
    | none => exact fun _ _ _ _ _ _ _ _ _ _ _ _ h => h.elim
    | some o' =>
      have := or_bop (X := X) o'
      rw [ho o' rfl, hK] at this
      exact this
  have h2 : OpRS X (binaryOp op) (rOwn X W (dunB op)) := fun pins s σ H x y v u Q I rx ry hq => own_bin tk pins s σ H x y v u Q I rx ry (by rw [dunB_ok]; exact hq)
  refine ⟨_, pe_opS (OpRS.or h1 h2) pa pb, ge_twoO ht ga gb fun d e v u ρ σ G H Q r hd he w => ?_⟩
  cases o with
  | none => exact w.elim
  | some o' => exact rB_ok r hd he w
theorem or_cmpO {op : CmpOp} {m : Str} {co : COp} {k : Nat} (hK : X.K = B.K) (ho : co.py = op) (hm : dunC op = some m) (hr : Room k X.A) (tk : L2N.Takes X W) : OpRS X (compareOp op) (rOr (rC B.K co) (rOwn X W m)) := by
  have h1 := or_cop (X := X) (L2H.roomH_of hr) co
  rw [ho, hK] at h1
  obtain ⟨e1, e2⟩ := dunC_ok hm
  exact OpRS.or h1 fun pins s σ H x y v u Q I rx ry hq => own_cmp e2 tk pins s σ H x y v u Q I rx ry (by rw [e1]; exact hq)
theorem ge_cmpO {m : Str} {co : COp} (ht : ∀ c fe, tab.lookup c = some fe → MtOk X B m c fe ∧ Room fe.lv X.A) (ga : GE B Z W ta ma) (gb : GE B Z W tb mb) : GE B Z W (tTwoO (rOr (rC B.K co) (rOwn X W m)) ta tb) (cmpO co tab ma mb) :=
  ge_twoO ht ga gb fun d e v u ρ σ G H Q r hd he w => by
    obtain ⟨ev, h, w⟩ := w_of w
    simp only [Option.map_eq_some_iff] at h
    obtain ⟨b, h, rfl⟩ := h
    exact rC_ok r hd he h (w_val w r (.bl b))
end
end Vm

set_option Elab.async false
set_option linter.all false
set_option maxRecDepth 100000
set_option maxHeartbeats 2000000
/-! Texts: methods of texts, texts of numbers, texts put together. -/
namespace Vm
open PySem PySem.Spec PyProof.Rows L2

/-- z.m(..), z a text -/
def smeth (f : List Nat → Bi) (a : Ex) (as : Exs) : Ex := fun ρ => (a ρ).bind fun v ρ1 =>
  match v with
  | .val (.str z) => (as ρ1).bind fun vs ρ2 => (match peeks ρ2 vs with
    | some ds => R.of (f z ds) ρ2
    | none => .bad)
  | _ => .bad
def strsOf : List D → Option (List (List Nat))
  | [] => some []
  | .str z :: r => (strsOf r).map (z :: ·)
  | _ => none
def biIsdigit (z : List Nat) : Bi
  | [] => some (.val (.bl (Txt.isdigit (T z))))
  | _ => none
def biIsascii (z : List Nat) : Bi
  | [] => some (.val (.bl (Txt.isascii (T z))))
  | _ => none
def biStarts (z : List Nat) : Bi
  | [.str y] => some (.val (.bl (Txt.startswith (T z) (T y))))
  | _ => none
def biSplit (z : List Nat) : Bi
  | [.str y] => if (!y.isEmpty && (decide (z.length + 2 ≤ line) && y.all (· < 256))) = true then some (.fr (.lst ((TL.spl y 0 [] z).map .str))) else none
  | _ => none
def joinD (a : List Nat) (ys : List (List Nat)) : Option EV := if (ys.map List.length).sum + ys.length * a.length ≤ line then some (.val (.str (TL.joinL a ys))) else none
def biJoin (a : List Nat) : Bi
  | [.lst xs] => (strsOf xs).bind (joinD a)
  | [.tup xs] => (strsOf xs).bind (joinD a)
  | _ => none
/-- the text of an integer -/
def numI (i : Int) : List Nat := (Str.ofString (toString i)).cps.toList
def biStr : Bi
  | [.int i] => if i.natAbs.log2 < 1920 then some (.val (.str (numI i))) else none
  | _ => none
def biIntS : Bi
  | [.int i] => some (.val (.int i))
  | [.bl b] => some (.val (.int (if b then 1 else 0)))
  | [.str z] => if z.length ≤ 640 then (PySem.intText? (T z)).map fun n => .val (.int n) else none
  | _ => none
/-- {x} -/
def fmtE (a : Ex) : Ex := one a fun x ρ => match x with
  | .str y => if y.length ≤ line then .ok (.val (.str y)) ρ else .bad
  | .int i => if i.natAbs.log2 < 1920 then .ok (.val (.str (numI i))) ρ else .bad
  | _ => .bad
/-- the parts of f'..', one behind the other -/
def joinF : List Ex → List Nat → Ex
  | [], acc => fun ρ => .ok (.val (.str acc)) ρ
  | e :: es, acc => fun ρ => (e ρ).bind fun v ρ1 =>
    match v with
    | .val (.str y) => if acc.length + y.length ≤ line then joinF es (acc ++ y) ρ1 else .bad
    | _ => .bad

section
variable {B : Tb} {Z : XR} {W : WX} {ρ : Vm.Env} {σ : L2.St} {G H : Hp}
theorem T_num (i : Int) : T (numI i) = ((toString i : String) : Str) := TL.mk_tl _
/-- a method's function is its rule's -/
def Mok (B : Tb) (r : V → List V → Hp → VK → Prop) (f : List Nat → Bi) : Prop := ∀ (Z : XR) (W : WX) (ρ : Vm.Env) (σ : L2.St) (G H : Hp) (z : List Nat) (ds : List Vm.D) (vs : List V) (ev : EV) (Q : VK), Rep B Z ρ σ G H → Rrs B G H ds vs → f z ds = some ev → WantE B Z W (.ok ev ρ) ρ σ G H Q → r (.str (T z)) vs H Q
theorem ge_smeth {r : V → List V → Hp → VK → Prop} {f : List Nat → Bi} (hf : Mok B r f) {ta : TE} {ma : Ex} {xa : TA} {na : Exs} (ha : GE B Z W ta ma) (hx : GA B Z W xa na) : GE B Z W (tBM B.K "str" r ta xa) (smeth f ma na) := by
  intro ρ σ G H Q q w
  refine ha.bind q w fun ev v ρ1 G1 H1 r1 s1 p1 w1 => ?_
  cases ev with
  | val d =>
    cases d with
    | str z =>
      cases p1 with
      | val h =>
        cases h
        refine ⟨rfl, ?_⟩
        refine GA.bind hx r1 (Rel := fun ev v ρ' G' H' => RepV B Z H1 ρ' σ G' H' ev v) (WantE.to w1 s1 r1) fun es vs ρ2 G2 H2 r2 s2 p2 w2 => ?_
        cases e : peeks ρ2 es with
        | none => simp only [e] at w2; exact w2.elim
        | some ds =>
          simp only [e] at w2
          obtain ⟨ev, h, w3⟩ := w_of (WantE.to w2 s2 r2)
          exact hf Z W ρ2 σ G2 H2 z ds vs ev Q r2 (p2.peeks r2 e) h w3
    | _ => exact w1.elim
  | _ => exact w1.elim
theorem ge_smeth0 {r : V → List V → Hp → VK → Prop} {f : List Nat → Bi} (hf : Mok B r f) {ta : TE} {ma : Ex} (ha : GE B Z W ta ma) : GE B Z W (tBM0 B.K "str" r ta) (smeth f ma nilA) := by
  intro ρ σ G H Q q w
  refine ha.bind q w fun ev v ρ1 G1 H1 r1 s1 p1 w1 => ?_
  cases ev with
  | val d =>
    cases d with
    | str z =>
      cases p1 with
      | val h =>
        cases h
        obtain ⟨ev, h, w3⟩ := w_of (WantE.to (show WantE B Z W (R.of (f z []) ρ1) ρ σ G H Q from w1) s1 r1)
        exact ⟨rfl, hf Z W ρ1 σ G1 H1 z [] [] ev Q r1 .nil h w3⟩
    | _ => exact w1.elim
  | _ => exact w1.elim
theorem one_str {ds : List Vm.D} {vs : List V} {f : Bi} {ev : EV} (hf : ∀ ds, (∀ y, ds ≠ [Vm.D.str y]) → f ds = none) (rr : Rrs B G H ds vs) (h : f ds = some ev) : ∃ y, ds = [.str y] ∧ vs = [.str (T y)] := by
  by_cases q : ∃ y, ds = [Vm.D.str y]
  · obtain ⟨y, rfl⟩ := q
    refine ⟨y, rfl, ?_⟩
    cases rr with
    | cons h1 r1 =>
    cases r1
    cases h1
    rfl
  · rw [hf ds fun y e => q ⟨y, e⟩] at h
    cases h
def rIsdigit : V → List V → Hp → VK → Prop := fun x xs H Q => ∃ a, x = .str a ∧ xs = [] ∧ True ∧ Q (.bl (Txt.isdigit a)) H
def rIsascii : V → List V → Hp → VK → Prop := fun x xs H Q => ∃ a, x = .str a ∧ xs = [] ∧ True ∧ Q (.bl (Txt.isascii a)) H
def rStarts : V → List V → Hp → VK → Prop := fun x xs H Q => ∃ a b, x = .str a ∧ xs = [.str b] ∧ Q (.bl (Txt.startswith a b)) H
def rSplit : V → List V → Hp → VK → Prop := fun x xs H Q => ∃ a b, x = .str a ∧ xs = [.str b] ∧ (b.length == 0) = false ∧ a.length + 2 ≤ sizeLine ∧ rNewStrs (Txt.split a b) H Q
def rJoinS (K : PySem.W.Frag) : V → List V → Hp → VK → Prop := fun x xs H Q => ∃ a p, ∃ ys : List Str, x = .str a ∧ xs = [.ref p] ∧ (SqL K H p (ys.map V.str) ∨ SqT K H p (ys.map V.str)) ∧ (ys.map (·.length)).sum + ys.length * a.length ≤ 16777216 ∧ Q (.str (Txt.join a ys)) H
theorem mok_isdigit : Mok B rIsdigit biIsdigit := by
  intro Z W ρ σ G H z ds vs ev Q r rr h w
  cases rr with
  | nil => cases h; exact ⟨_, rfl, rfl, trivial, w_val w r (.bl _)⟩
  | cons _ _ => cases h
theorem mok_isascii : Mok B rIsascii biIsascii := by
  intro Z W ρ σ G H z ds vs ev Q r rr h w
  cases rr with
  | nil => cases h; exact ⟨_, rfl, rfl, trivial, w_val w r (.bl _)⟩
  | cons _ _ => cases h
theorem mok_starts : Mok B rStarts biStarts := by
  intro Z W ρ σ G H z ds vs ev Q r rr h w
  obtain ⟨y, rfl, rfl⟩ := one_str (f := biStarts z) (fun ds hn => by unfold biStarts; split <;> first | rfl | exact absurd rfl (hn _)) rr h
  cases h
  exact ⟨_, _, rfl, rfl, w_val w r (.bl _)⟩
theorem rps_strs {G : Hp} : ∀ ys : List (List Nat), Rps B G (ys.map Vm.D.str) ((ys.map fun y => T y).map V.str)
  | [] => .nil
  | y :: ys => .cons (.str y) (rps_strs ys)
theorem mok_split : Mok B rSplit biSplit := by
  intro Z W ρ σ G H z ds vs ev Q r rr h w
  obtain ⟨y, rfl, rfl⟩ := one_str (f := biSplit z) (fun ds hn => by unfold biSplit; split <;> first | rfl | exact absurd rfl (hn _)) rr h
  simp only [biSplit] at h
  split at h
  · rename_i hc
    simp only [Bool.and_eq_true, Bool.not_eq_true'] at hc
    obtain ⟨h1, h2, h3⟩ := hc
    have h2 := of_decide_eq_true h2
    cases h
    have ne : y ≠ [] := fun e => by subst e; cases h1
    refine ⟨_, _, rfl, rfl, ?_, by rw [T_len, ← line_eq]; exact h2, ?_⟩
    · rw [T_len]
      cases y with
      | nil => exact absurd rfl ne
      | cons a r => rfl
    · intro p hp
      rw [SX.split_S ne h3]
      exact w_new w r (fun p => .lst upd_same (rps_strs _)) hp
  · cases h
theorem strs_of {ds : List Vm.D} {vs : List V} (r : Rps B G ds vs) : ∀ {ys : List (List Nat)}, strsOf ds = some ys → vs = (ys.map fun y => T y).map V.str := by
  induction ds generalizing vs with
  | nil => intro bs e; cases r; cases e; rfl
  | cons d ds ih =>
    intro bs e
    cases r with
    | cons h r =>
    cases h with
    | str b =>
      simp only [strsOf, Option.map_eq_some_iff] at e
      obtain ⟨x, e, rfl⟩ := e
      rw [ih r e]
      rfl
    | _ => cases e
theorem lens_T (ys : List (List Nat)) : ((ys.map fun y => T y).map (·.length)) = ys.map List.length := by
  rw [List.map_map]
  exact List.map_congr_left fun y _ => T_len y
theorem join_fin {a : List Nat} {ys : List (List Nat)} {ev : EV} {p : Addr} {Q : VK} (h : joinD a ys = some ev) (r : Rep B Z ρ σ G H) (hp : SqL B.K H p ((ys.map fun y => T y).map V.str) ∨ SqT B.K H p ((ys.map fun y => T y).map V.str)) (w : WantE B Z W (.ok ev ρ) ρ σ G H Q) : rJoinS B.K (.str (T a)) [.ref p] H Q := by
  unfold joinD at h
  split at h
  · rename_i hl
    cases h
    refine ⟨_, p, _, rfl, rfl, hp, ?_, ?_⟩
    · rw [lens_T, List.length_map, T_len]
      exact hl
    · rw [show Txt.join (T a) (ys.map fun y => T y) = T (TL.joinL a ys) from SX.join_S a ys]
      exact w_val w r (.str _)
  · cases h
theorem mok_join : Mok B (rJoinS B.K) biJoin := by
  intro Z W ρ σ G H z ds vs ev Q r rr h w
  cases rr with
  | nil => cases h
  | cons h1 r1 =>
  cases r1 with
  | cons _ _ => cases h1 <;> cases h
  | nil =>
  cases h1 with
  | lst hx rx =>
    simp only [biJoin] at h
    obtain ⟨ys, e1, e2⟩ := Option.bind_eq_some_iff.mp h
    have := strs_of rx e1
    subst this
    exact join_fin e2 r (.inl hx) w
  | tup hx rx =>
    simp only [biJoin] at h
    obtain ⟨ys, e1, e2⟩ := Option.bind_eq_some_iff.mp h
    have := strs_of rx e1
    subst this
    exact join_fin e2 r (.inr (sqT_to r.sub hx)) w
  | _ => cases h
def rStrI : List V → Hp → VK → Prop := fun xs H Q => ∃ i, xs = [V.int i] ∧ i.natAbs.log2 < 1920 ∧ Q (V.str (toString i)) H
theorem bok_str : Bok B rStrI biStr := by
  intro Z W ρ σ G H ds vs ev Q r rr h w
  cases rr with
  | nil => cases h
  | cons h1 r1 =>
  cases r1 with
  | cons _ _ => cases h1 <;> cases h
  | nil =>
  cases h1 with
  | int i =>
    simp only [biStr] at h
    split at h
    · cases h
      refine ⟨i, rfl, by assumption, ?_⟩
      rw [← T_num]
      exact w_val w r (.str _)
    · cases h
  | _ => cases h
def rIntS : List V → Hp → VK → Prop := fun xs H Q => ∃ a n, xs = [.str a] ∧ PySem.intText? a = some n ∧ a.length ≤ 640 ∧ Q (.int n) H
theorem bok_intS : Bok B (fun xs H Q => rInt1 xs H Q ∨ rIntS xs H Q) biIntS := by
  intro Z W ρ σ G H ds vs ev Q r rr h w
  cases rr with
  | nil => cases h
  | cons h1 r1 =>
  cases r1 with
  | cons _ _ => cases h1 <;> cases h
  | nil =>
  cases h1 with
  | int i => cases h; exact .inl (.inl ⟨i, rfl, w_val w r (.int _)⟩)
  | bl b => cases h; exact .inl (.inr ⟨b, rfl, w_val w r (.int _)⟩)
  | str z =>
    simp only [biIntS] at h
    split at h
    · simp only [Option.map_eq_some_iff] at h
      obtain ⟨n, hn, rfl⟩ := h
      exact .inr ⟨_, n, rfl, hn, by rw [T_len]; assumption, w_val w r (.int _)⟩
    · cases h
  | _ => cases h

/-! ### f'..' -/
theorem ge_fmt {ta : TE} {ma : Ex} (ha : GE B Z W ta ma) : GE B Z W (tFmt ta) (fmtE ma) := by
  intro ρ σ G H Q q w
  refine ha.bind q w fun ev v ρ1 G1 H1 r1 s1 p1 w1 => ?_
  cases e : ev.peek ρ1 with
  | none => rw [e] at w1; exact w1.elim
  | some d =>
    have h := p1.peek r1 e
    rw [e] at w1
    cases h with
    | str y =>
      simp only at w1
      split at w1
      · exact .inl ⟨_, rfl, by rw [T_len, ← line_eq]; assumption, w_val (WantE.to w1 s1 r1) r1 (.str _)⟩
      · exact w1.elim
    | int i =>
      simp only at w1
      split at w1
      · refine .inr ⟨i, rfl, by assumption, ?_⟩
        rw [← T_num]
        exact w_val (WantE.to w1 s1 r1) r1 (.str _)
      · exact w1.elim
    | _ => exact w1.elim
inductive GJ (B : Tb) (Z : XR) (W : WX) : List TE → List Ex → Prop where
  | nil : GJ B Z W [] []
  | cons {t : TE} {m : Ex} {ts : List TE} {ms : List Ex} (h : GE B Z W t m) (r : GJ B Z W ts ms) : GJ B Z W (t :: ts) (m :: ms)
theorem T_cat2 (a b : List Nat) : T a ++ T b = T (a ++ b) := SX.S_cat a b
theorem ge_joinF {ts : List TE} {ms : List Ex} (h : GJ B Z W ts ms) : ∀ acc : List Nat, GE B Z W (fun σ H Q => tJs ts (T acc) σ H fun out H1 => Q (.str out) H1) (joinF ms acc) := by
  induction h with
  | nil => intro acc ρ σ G H Q r w; exact w_val w r (.str _)
  | cons h _ ih =>
    intro acc ρ σ G H Q q w
    refine h.bind q w fun ev v ρ1 G1 H1 r1 s1 p1 w1 => ?_
    cases ev with
    | val d =>
      cases d with
      | str y =>
        cases p1 with
        | val hh =>
          cases hh
          simp only at w1
          split at w1
          · rename_i hl
            refine ⟨_, rfl, ?_, ?_⟩
            · rw [T_cat2, T_len, List.length_append, ← line_eq]
              exact hl
            · rw [T_cat2]
              exact ih (acc ++ y) ρ1 σ G1 H1 Q r1 (WantE.to w1 s1 r1)
          · exact w1.elim
      | _ => exact w1.elim
    | _ => exact w1.elim
theorem T_nil : (Str.empty : Str) = T [] := rfl
theorem ge_fstr {ts : List TE} {ms : List Ex} (h : GJ B Z W ts ms) : GE B Z W (fun σ H Q => tJs ts Str.empty σ H fun out H1 => Q (.str out) H1) (joinF ms []) := ge_joinF h []
end
end Vm

set_option Elab.async false
set_option linter.all false
set_option maxRecDepth 100000
set_option maxHeartbeats 2000000
/-! isinstance, and what a caught error is asked. -/
namespace Vm
open PySem PySem.Spec PyProof.Rows L2

/-- which classes are below which: instances of one's own classes (cc, ct), of built-in ones (tc); pl: plain classes -/
structure Kt where
  cc : Nat → Nat → Option Bool := fun _ _ => none
  ct : Nat → String → Option Bool := fun _ _ => none
  tc : String → Nat → Option Bool := fun _ _ => none
  pl : Nat → Bool := fun _ => false
def bTys : List String := ["NoneType", "bool", "int", "str", "tuple", "list"]
def tyB (t u : String) : Option Bool := if (bTys.contains t && bTys.contains u) = true then some (decide (t = u) || (decide (t = "bool") && decide (u = "int"))) else none
def D.tn : D → Option String
  | .non => some "NoneType"
  | .bl _ => some "bool"
  | .int _ => some "int"
  | .str _ => some "str"
  | .tup _ => some "tuple"
  | .lst _ => some "list"
  | _ => none
def isiC (k : Kt) (cl : Nat) : D → Option Bool
  | .ty u => k.ct cl u
  | .cls c' => k.cc cl c'
  | _ => none
def isiT (k : Kt) (t : String) : D → Option Bool
  | .ty u => tyB t u
  | .cls c' => k.tc t c'
  | _ => none
def isiD (k : Kt) (x c : D) : Option Bool :=
  match x with
  | .obj cl _ => if k.pl cl then isiC k cl c else none
  | x => x.tn.bind fun t => isiT k t c
def isiE (k : Kt) (es : Exs) : Ex := fun ρ => (es ρ).bind fun vs ρ1 =>
  match vs with
  | [.ex cl _, .val c] => R.of ((isiC k cl c).map fun b => .val (.bl b)) ρ1
  | vs => (match peeks ρ1 vs with
    | some [x, c] => R.of ((isiD k x c).map fun b => .val (.bl b)) ρ1
    | _ => .bad)
/-- e.f, e a thing of one's own or a caught error -/
def fldX (f : Nat) (cs : List Nat) (a : Ex) : Ex := fun ρ => (a ρ).bind fun v ρ1 =>
  match v with
  | .ex _ fs => R.of ((fs.lookup f).map EV.val) ρ1
  | v => (match v.peek ρ1 with
    | some (.obj c fs) => if cs.contains c then R.of ((fs.lookup f).map EV.val) ρ1 else .bad
    | _ => .bad)
structure KtOk (B : Tb) (k : Kt) : Prop where
  cc : ∀ c c' b, k.cc c c' = some b → PySem.W.kitOne B.K (.ref (B.cls c)) (.ref (B.cls c')) = some b
  ct : ∀ c u b, k.ct c u = some b → PySem.W.kitOne B.K (.ref (B.cls c)) (.type u) = some b
  tc : ∀ t c' b, k.tc t c' = some b → PySem.W.kitOne B.K (.type t) (.ref (B.cls c')) = some b
  pl : ∀ c, k.pl c = true → ∀ (H : Hp) (a dx : Addr) (fs : List (Str × V)), H a = some (.ins (B.cls c) dx fs) → TyX B.K H (.ref a) (.ref (B.cls c))
/-- what is known of the error that X handles: a is where it stands -/
structure HotR (X : Cx) (B : Tb) (Z : XR) (a : Addr) (cls : Value) (d : Option Addr) : Prop where
  ex : ∃ (X' : Cx) (oe : Obj) (pn : List (Addr × Obj)), X = X'.suite a ((a, oe) :: pn) ∧ Zc cls d oe ∧ ∃ vs, oe.data = .fields vs
  r : ∀ G c fs v, Z.r G c fs v → v = .ref a ∧ cls = .ref (B.cls c) ∧ PySem.W.OwnT.Asks B.K (B.cls c) ∧ ((∃ dc vs, d = some dc ∧ G dc = some (.xd vs) ∧ Rpf B G fs vs ∧ ∀ f s, fs.lookup f = some s → NoAttr B.K (B.cls c) (B.fld f)) ∨ (d = none ∧ fs = []))
/-- nothing is handled, or this -/
def HotX (X : Cx) (B : Tb) (Z : XR) : Prop := (∀ G c fs v, ¬ Z.r G c fs v) ∨ ∃ a cls d, HotR X B Z a cls d

section
variable {X : Cx} {B : Tb} {Z : XR} {W : WX} {ρ : Vm.Env} {σ : L2.St} {G H : Hp}
theorem kit_b (K : PySem.W.Frag) {t u : String} {b : Bool} (h : tyB t u = some b) : PySem.W.kitOne K (.type t) (.type u) = some b := by
  unfold tyB at h
  split at h
  · rename_i hc
    rw [Bool.and_eq_true] at hc
    have h1 : t ∈ bTys := List.contains_iff_mem.mp hc.1
    have h2 : u ∈ bTys := List.contains_iff_mem.mp hc.2
    simp only [bTys, List.mem_cons, List.not_mem_nil, or_false] at h1 h2
    rcases h1 with rfl | rfl | rfl | rfl | rfl | rfl <;> rcases h2 with rfl | rfl | rfl | rfl | rfl | rfl <;> (cases h; first | rfl | (with_unfolding_all rfl))
  · cases h
theorem tyx_of {d : Vm.D} {v : V} (h : Rr B G H d v) (s : Same G H) {t : String} (e : d.tn = some t) : TyX B.K H v (.type t) := by
  cases h with
  | non => cases e; exact .base .non
  | bl b => cases e; exact .base (.bl b)
  | int i => cases e; exact .base (.int i)
  | str z => cases e; exact .base (.str _)
  | tup h r =>
    cases e
    rcases sqT_to s h with (h | ⟨o, h⟩) | ⟨o, its, n, h1, h2, _⟩
    · exact .base (.tup h)
    · exact .fTuple h
    · exact .kTuple h1 h2
  | lst h r =>
    cases e
    rcases h with (h | ⟨o, h⟩) | ⟨o, its, n, h1, h2, _⟩
    · exact .base (.lst h)
    · exact .base (.frz h)
    · exact .kList h1 h2
  | _ => cases e
theorem clsv_of {c : Vm.D} {v : V} (h : Rr B G H c v) : (∀ u, c = .ty u → ClsV v (.type u)) ∧ (∀ c', c = .cls c' → ClsV v (.ref (B.cls c'))) := by
  cases h with
  | ty t => exact ⟨fun u e => (by cases e; exact .ty _), fun _ e => nomatch e⟩
  | cls c => exact ⟨(fun u e => nomatch e), fun _ e => (by cases e; exact .own _)⟩
  | _ => exact ⟨(fun _ e => nomatch e), fun _ e => nomatch e⟩
/-- isinstance, by whatever the context knows -/
def rIsH (X : Cx) (B : Tb) (Z : XR) : List V → Hp → VK → Prop := fun xs H Q => rIsi X.K xs H Q ∨ ∃ a cls d, HotR X B Z a cls d ∧ OwnX.rIsX X.K a cls d xs H Q
theorem call_isH : CallR X (.builtin "isinstance") (rIsH X B Z) := by
  intro pins s σ H xs us Q I r h
  rcases h with h | ⟨a, cls, d, hr, h⟩
  · exact call_isi pins s σ H xs us Q I r h
  · obtain ⟨X', oe, pn, rfl, hz, hf⟩ := hr.ex
    exact OwnX.call_isX hz hf pins s σ H xs us Q I r h
theorem ge_isi (hK : X.K = B.K) {k : Kt} (kt : KtOk B k) (hx : HotX X B Z) {xa : TA} {na : Exs} (ha : GA B Z W xa na) : GE B Z W (tCB (rIsH X B Z) xa) (isiE k na) := by
  intro ρ σ G H Q q w
  refine GA.bind ha q w fun es vs ρ1 G1 H1 r1 s1 p1 w1 => ?_
  have plain : ∀ ds, peeks ρ1 es = some ds → WantE B Z W (match some ds with
      | some [x, c] => R.of ((isiD k x c).map fun b => EV.val (.bl b)) ρ1
      | _ => .bad) ρ σ G H Q → rIsH X B Z vs H1 Q := fun ds e w2 => by
    have rr := p1.peeks r1 e
    cases rr with
    | nil => exact w2.elim
    | cons h1 t1 =>
    cases t1 with
    | nil => exact w2.elim
    | cons h2 t2 =>
    cases t2 with
    | cons _ _ => exact w2.elim
    | nil =>
    rename_i x xv c cv
    obtain ⟨ev, e3, w3⟩ := w_of (WantE.to w2 s1 r1)
    simp only [Option.map_eq_some_iff] at e3
    obtain ⟨b, e3, rfl⟩ := e3
    have fin := w_val w3 r1 (.bl b)
    refine .inl ?_
    obtain ⟨cv1, cv2⟩ := clsv_of h2
    have go : ∀ t, x.tn = some t → isiT k t c = some b → rIsi X.K [xv, cv] H1 Q := fun t et h4 => by
      rw [hK]
      cases c with
      | ty u => exact ⟨_, _, _, _, b, rfl, cv1 _ rfl, tyx_of h1 r1.sub et, kit_b _ h4, fin⟩
      | cls c' => exact ⟨_, _, _, _, b, rfl, cv2 _ rfl, tyx_of h1 r1.sub et, kt.tc _ _ _ h4, fin⟩
      | _ => cases h4
    cases h1 with
    | @obj a dx cl fs vs h rf =>
      simp only [isiD] at e3
      split at e3
      · rename_i hp
        rw [hK]
        have ty := kt.pl cl hp H1 a dx vs h
        cases c with
        | ty u => exact ⟨_, _, _, _, b, rfl, cv1 _ rfl, ty, kt.ct _ _ _ e3, fin⟩
        | cls c' => exact ⟨_, _, _, _, b, rfl, cv2 _ rfl, ty, kt.cc _ _ _ e3, fin⟩
        | _ => cases e3
      · cases e3
    | cls c => cases e3
    | ty t => cases e3
    | _ =>
      simp only [isiD] at e3
      obtain ⟨t, et, h4⟩ := Option.bind_eq_some_iff.mp e3
      exact go t et h4
  have rest : (∀ cl fs c, es ≠ [EV.ex cl fs, EV.val c]) → rIsH X B Z vs H1 Q := fun hne => by
    have w2 : WantE B Z W (match peeks ρ1 es with
      | some [x, c] => R.of ((isiD k x c).map fun b => EV.val (.bl b)) ρ1
      | _ => .bad) ρ σ G H Q := by
      revert w1
      split
      · exact absurd rfl (hne _ _ _)
      · exact id
    cases e : peeks ρ1 es with
    | none => rw [e] at w2; exact w2.elim
    | some ds => rw [e] at w2; exact plain ds e w2
  by_cases hq : ∃ cl fs c, es = [EV.ex cl fs, EV.val c]
  · obtain ⟨cl, fs, c, rfl⟩ := hq
    simp only at w1
    obtain ⟨ev, e3, w3⟩ := w_of (WantE.to w1 s1 r1)
    simp only [Option.map_eq_some_iff] at e3
    obtain ⟨b, e3, rfl⟩ := e3
    have fin := w_val w3 r1 (.bl b)
    cases p1 with
    | cons h1 t1 =>
    cases t1 with
    | cons h2 t2 =>
    cases t2
    cases h1 with
    | ex z =>
    cases h2 with
    | @val _ cv hc =>
    rcases hx with hx | ⟨a, cls, d, hr⟩
    · exact absurd z (hx _ _ _ _)
    · obtain ⟨rfl, hcls, as, hd⟩ := hr.r _ _ _ _ z
      refine .inr ⟨a, cls, d, hr, ?_⟩
      have hdd : ∀ dc, d = some dc → ∃ fs, H1 dc = some (.xd fs) := fun dc e => by
        rcases hd with ⟨dc', vs, e1, e2, _⟩ | ⟨e1, _⟩
        · rw [e1] at e
          cases e
          exact ⟨_, r1.sub _ _ e2⟩
        · rw [e1] at e
          cases e
      rw [hK]
      obtain ⟨cv1, cv2⟩ := clsv_of (hc.rr r1.sub)
      cases c with
      | ty u => exact ⟨_, _, _, b, rfl, hcls, as, fun u r => (cv1 _ rfl).eq r, hdd, kt.ct _ _ _ e3, fin⟩
      | cls c' => exact ⟨_, _, _, b, rfl, hcls, as, fun u r => (cv2 _ rfl).eq r, hdd, kt.cc _ _ _ e3, fin⟩
      | _ => cases e3
  · exact rest fun cl fs c e => hq ⟨cl, fs, c, e⟩

/-! ### fields -/
def tFldH (X : Cx) (B : Tb) (Z : XR) (ta : TE) (f : Str) : TE := fun σ H Q => tFld X.K ta f σ H Q ∨ ∃ a cls d, HotR X B Z a cls d ∧ OwnX.tXfA X.K a cls d f ta σ H Q
theorem pe_fldH {e : Expr} {ta : TE} {f : Str} {pos : Pos} (he : PE X e ta) (hb : attributeBase e f X.env (eval e X.env) = eval e X.env) : PE X (.Attribute e f pos) (tFldH X B Z ta f) := by
  refine ⟨fun pins s σ H Q I h => ?_⟩
  rcases h with h | ⟨a, cls, d, hr, h⟩
  · exact (pe_fld he hb).run pins s σ H Q I h
  · obtain ⟨X', oe, pn, rfl, hz, hf⟩ := hr.ex
    exact (OwnX.pe_xfA hz hf he hb).run pins s σ H Q I h
theorem ge_fldX (hK : X.K = B.K) {f : Nat} {fn : Str} {cs : List Nat} (hf : B.fld f = fn) (hc : ∀ c, cs.contains c = true → Cls B.K (B.cls c) ∧ NoAttr B.K (B.cls c) fn) (hx : HotX X B Z) {ta : TE} {ma : Ex} (ha : GE B Z W ta ma) : GE B Z W (tFldH X B Z ta fn) (fldX f cs ma) := by
  intro ρ σ G H Q q w
  have w0 := w
  unfold fldX at w
  cases em : ma ρ with
  | bad => rw [em] at w; exact w.elim
  | exc x ρ1 =>
    refine .inl (ge_fld hf hc ha ρ σ G H Q q ?_ |> fun z => by rw [hK]; exact z)
    unfold fld
    rw [em] at w ⊢
    exact w
  | ok v ρ1 =>
    rw [em] at w
    by_cases hv : ∃ c fs, v = EV.ex c fs
    · obtain ⟨c, fs, rfl⟩ := hv
      rcases hx with hx | ⟨a, cls, d, hr⟩
      · -- never
        refine .inl ?_
        refine ha ρ σ G H _ q ?_
        rw [em]
        intro b G' H' r' s' v'
        cases v' with
        | ex z => exact absurd z (hx _ _ _ _)
      · refine .inr ⟨a, cls, d, hr, ?_⟩
        refine ha ρ σ G H _ q ?_
        rw [em]
        intro b G' H' r' s' v'
        cases v' with
        | ex z =>
          obtain ⟨rfl, hcls, as, hd⟩ := hr.r _ _ _ _ z
          have w1 : WantE B Z W (R.of ((fs.lookup f).map EV.val) ρ1) ρ σ G H Q := w
          obtain ⟨ev, e3, w3⟩ := w_of (WantE.to w1 s' r')
          simp only [Option.map_eq_some_iff] at e3
          obtain ⟨x, hx, rfl⟩ := e3
          rcases hd with ⟨dc, vs, e1, e2, rf, hno⟩ | ⟨_, e2⟩
          · obtain ⟨u, l, ru⟩ := rf.look hx
            rw [hf] at l
            have := hno f x hx
            rw [hf] at this
            rw [hK]
            exact ⟨rfl, _, dc, vs, u, hcls, as, this, e1, r'.sub _ _ e2, l, w_val w3 r' ru⟩
          · subst e2
            cases hx
    · refine .inl (ge_fld hf hc ha ρ σ G H Q q ?_ |> fun z => by rw [hK]; exact z)
      unfold fld
      rw [em]
      cases v with
      | ex c fs => exact absurd ⟨c, fs, rfl⟩ hv
      | _ => exact w
end
end Vm

set_option Elab.async false
set_option linter.all false
set_option maxRecDepth 100000
set_option maxHeartbeats 4000000
/-! raise, try. -/
namespace Vm
open PySem PySem.Spec PyProof.Rows L2

/-- raise C(..): the fields by their ids -/
def raiseX (c : Nat) (fs : List Nat) (es : Exs) : Tx := fun ρ => (es ρ).thn fun vs ρ1 =>
  match frzs ρ1 vs with
  | some (ds, ρ2) => if (decide (ds.length = fs.length) && (!fs.isEmpty && decide (fs.length ≤ 900))) = true then .exc ⟨c, (fs.zip ds).reverse⟩ ρ2 else .bad
  | none => .bad
def noX : SD → Bool
  | .ex _ _ => false
  | _ => true
def noO : SD → Bool
  | .ow _ _ _ => false
  | _ => true
def dropX (i : Nat) (ρ : Env) : Option Env := if (ρ.set i .un).all noX = true then some (ρ.set i .un) else none
def endX (i : Nat) : S → S
  | .nx ρ => (match dropX i ρ with
    | some ρ' => .nx ρ'
    | none => .bad)
  | .rt v ρ => (match dropX i ρ with
    | some ρ' => .rt v ρ'
    | none => .bad)
  | .bk ρ => (match dropX i ρ with
    | some ρ' => .bk ρ'
    | none => .bad)
  | .ct ρ => (match dropX i ρ with
    | some ρ' => .ct ρ'
    | none => .bad)
  | _ => .bad
def askOk (ask : Nat → Option (List Nat)) (x : Xc) : Bool := match ask x.c with
  | some fl => x.fs.all fun p => fl.contains p.1
  | none => false
/-- try: a, except C as n (slot i): h; cat: does it catch? -/
def tryX (i : Nat) (cat : Nat → Option Bool) (ask : Nat → Option (List Nat)) (a h : Tx) : Tx := fun ρ =>
  match a ρ with
  | .exc x ρ1 => (match cat x.c with
    | some true => (match ρ1[i]? with
      | some s => if (noO s && (ρ1.all noX && askOk ask x)) = true then endX i (h (ρ1.set i (.ex x.c x.fs))) else .bad
      | none => .bad)
    | some false => .exc x ρ1
    | none => .bad)
  | s => s

/-- what an error's __init__ with such fields does -/
def spErrs (C : Addr) (fns : List Str) : Sp := fun vs H Q _ => ∃ a us, vs = V.ref a :: us ∧ us.length = fns.length ∧ H a = some (exo a C none) ∧ ∀ d, H d = none → d ≠ a → Q .non (upd (upd H d (exd d (fns.zip us).reverse)) a (exo a C (some d)))
def AskOk (B : Tb) (ask : Nat → Option (List Nat)) : Prop := ∀ c fl, ask c = some fl → PySem.W.OwnT.Asks B.K (B.cls c) ∧ ∀ f ∈ fl, NoAttr B.K (B.cls c) (B.fld f)
/-- the error that is handled -/
def Zs (B : Tb) (a : Addr) (cls : Value) (d : Option Addr) : XR where
  r := fun G c fs v => v = .ref a ∧ cls = .ref (B.cls c) ∧ PySem.W.OwnT.Asks B.K (B.cls c) ∧ ((∃ dc vs, d = some dc ∧ G dc = some (.xd vs) ∧ Rpf B G fs vs ∧ ∀ f s, fs.lookup f = some s → NoAttr B.K (B.cls c) (B.fld f)) ∨ (d = none ∧ fs = []))
  mono := fun s ⟨h1, h2, h3, h4⟩ => ⟨h1, h2, h3, h4.imp (fun ⟨dc, vs, e1, e2, e3, e4⟩ => ⟨dc, vs, e1, s _ _ e2, e3.to s, e4⟩) id⟩

section
variable {B : Tb} {Z Z' : XR} {W : WX} {ρ0 ρ ρ1 : Vm.Env} {σ0 σ σ1 : L2.St} {G0 H0 G H G1 H1 G' H' : Hp}
theorem Rpf.snoc {f : Nat} {d : Vm.D} {v : V} (h : Rp B G d v) : ∀ {fs : List (Nat × Vm.D)} {vs : List (Str × V)}, Rpf B G fs vs → Rpf B G (fs ++ [(f, d)]) (vs ++ [(B.fld f, v)])
  | _, _, .nil => .cons h .nil
  | _, _, .cons q r => .cons q (Rpf.snoc h r)
theorem Rpf.rev : ∀ {fs : List (Nat × Vm.D)} {vs : List (Str × V)}, Rpf B G fs vs → Rpf B G fs.reverse vs.reverse
  | _, _, .nil => .nil
  | _, _, .cons q r => by
    rw [List.reverse_cons, List.reverse_cons]
    exact Rpf.snoc q (Rpf.rev r)
theorem rpf_zip : ∀ (fs : List Nat) {ds : List Vm.D} {vs : List V}, Rps B G ds vs → Rpf B G (fs.zip ds) ((fs.map B.fld).zip vs)
  | [], _, _, _ => .nil
  | _ :: _, _, _, .nil => .nil
  | f :: fs, _, _, .cons h r => .cons h (rpf_zip fs r)
theorem gs_raiseX {c : Nat} {fs : List Nat} {xa : TA} {na : Exs} (ha : GA B Z W xa na) : GS B Z W (fun _ σ H => tMkO (B.cls c) (spErrs (B.cls c) (fs.map B.fld)) [] xa σ H fun cls d H' => W cls d σ H') (raiseX c fs na) := by
  intro ρ σ G H D q w
  refine ha.thn q w fun es vs ρ1 G1 H1 r1 s1 p1 w1 => ?_
  cases e : frzs ρ1 es with
  | none => simp only [e] at w1; exact w1.elim
  | some x =>
    obtain ⟨ds, ρ2⟩ := x
    simp only [e] at w1
    split at w1
    · rename_i hc
      simp only [Bool.and_eq_true] at hc
      obtain ⟨h1, h2, h3⟩ := hc
      have h1 := of_decide_eq_true h1
      have h3 := of_decide_eq_true h3
      obtain ⟨G2, r2, p2, t, o, k⟩ := p1.frz r1 (fun b h => none_back s1.stp h) e
      have s2 := s1.frz r1 t o k
      have hl := p2.len
      refine ⟨by omega, fun a na => ⟨a, vs, by rw [List.append_nil], by rw [List.length_map]; omega, upd_same, fun d hd hne => ⟨rfl, d, _, upd_same, by rw [upd_ne hne, upd_same], ?_, ?_⟩⟩⟩
      · rw [upd_ne hne] at hd
        exact hd
      · rw [upd_ne hne] at hd
        have eh : upd (del (upd (upd (upd H1 a (exo a (B.cls c) none)) d (exd d ((fs.map B.fld).zip vs).reverse)) a (exo a (B.cls c) (some d))) a) d (.xd ((fs.map B.fld).zip vs).reverse) = upd H1 d (.xd ((fs.map B.fld).zip vs).reverse) := by
          funext b
          by_cases hb : b = d
          · rw [hb, upd_same, upd_same]
          · rw [upd_ne hb, upd_ne hb]
            by_cases hba : b = a
            · rw [hba, del_same, na]
            · rw [del_ne hba, upd_ne hba, upd_ne hb, upd_ne hba]
        rw [eh]
        have st : Stp (fun _ => False) G2 H1 (upd G2 d (.xd ((fs.map B.fld).zip vs).reverse)) (upd H1 d (.xd ((fs.map B.fld).zip vs).reverse)) := Stp.newF hd r2.sub
        exact w1 (.ref (B.cls c)) (some d) σ _ _ (r2.newF hd) (s2.trans r2 (Step.heap (Stp.newF hd r2.sub))) (.mk upd_same (Rpf.rev (rpf_zip fs (p2.to st.g))))
    · exact w1.elim

/-! ### try -/
theorem all_noX {i : Nat} {s : SD} (h : ρ.all noX = true) (e : ρ[i]? = some s) : noX s = true := List.all_eq_true.mp h s (List.mem_of_getElem? e)
theorem Rep.chg (r : Rep B Z ρ σ G H) (h : ρ.all noX = true) : Rep B Z' ρ σ G H := by
  refine ⟨r.len, r.sub, fun i s e => ?_, r.inj⟩
  cases r.slot i s e with
  | un => exact .un
  | sh e1 q => exact .sh e1 q
  | ow e1 n c => exact .ow e1 n c
  | ex e1 z => exact absurd (all_noX h e) Bool.false_ne_true
theorem ownA_drop {i j : Nat} {b : Addr} (h : OwnA (ρ.set i .un) (σ.set i none) j b) : OwnA ρ σ j b := by
  obtain ⟨⟨io, lk, d, h1⟩, h2⟩ := h
  rcases getElem?_set_cases h1 with ⟨_, q, _⟩ | ⟨hne, h1⟩
  · cases q
  · rw [List.getElem?_set_ne (Ne.symm hne)] at h2
    exact ⟨⟨io, lk, d, h1⟩, h2⟩
theorem Rep.drop (r : Rep B Z ρ σ G H) {i : Nat} : Rep B Z (ρ.set i .un) (σ.set i none) G H := by
  refine ⟨by rw [List.length_set, List.length_set]; exact r.len, r.sub, fun j sd e => ?_, fun x y a h1 h2 => r.inj x y a (ownA_drop h1) (ownA_drop h2)⟩
  rcases getElem?_set_cases e with ⟨rfl, rfl, hl⟩ | ⟨hne, e⟩
  · exact .un
  · rw [List.getElem?_set_ne (Ne.symm hne)]
    exact r.slot j sd e
theorem Step.drop (t : Step ρ0 σ0 G0 H0 ρ σ G H) {i : Nat} (c : ∀ io lk d, ρ0[i]? = some (SD.ow io lk d) → io = false ∧ lk = false) : Step ρ0 σ0 G0 H0 (ρ.set i .un) (σ.set i none) G H := by
  refine ⟨t.stp, fun j b h => t.ownA j b (ownA_drop h), fun j lk d h => ?_, fun j io d h => ?_⟩
  · obtain ⟨e, d', h'⟩ := t.io j lk d h
    have : j ≠ i := fun z => by subst z; cases (c _ _ _ h).1
    rw [List.getElem?_set_ne (Ne.symm this), List.getElem?_set_ne (Ne.symm this)]
    exact ⟨e, d', h'⟩
  · obtain ⟨e, h'⟩ := t.lk j io d h
    have : j ≠ i := fun z => by subst z; cases (c _ _ _ h).2
    rw [List.getElem?_set_ne (Ne.symm this), List.getElem?_set_ne (Ne.symm this)]
    exact ⟨e, h'⟩
theorem RetV.drop {rv : RV} {v : V} {i : Nat} (q : RetV B ρ0 σ0 H0 ρ σ G H rv v) : RetV B ρ0 σ0 H0 (ρ.set i .un) (σ.set i none) G H rv v := by
  cases q with
  | val r => exact .val r
  | fr n c ne f => exact .fr n c (fun j z => ne j (ownA_drop z)) f
theorem dropX_of {i : Nat} {ρ' : Vm.Env} (h : dropX i ρ = some ρ') : ρ' = ρ.set i .un ∧ ρ'.all noX = true := by
  unfold dropX at h
  split at h
  · cases h
    exact ⟨rfl, by assumption⟩
  · cases h
theorem mem_lk {α : Type} {f : Nat} {s : α} : ∀ {fs : List (Nat × α)}, fs.lookup f = some s → (f, s) ∈ fs
  | [], h => nomatch h
  | (k, u) :: r, h => by
    rw [List.lookup_cons] at h
    by_cases q : f = k
    · subst q
      rw [beq_self_eq_true] at h
      cases h
      exact List.mem_cons_self
    · rw [beq_eq_false_iff_ne.mpr q] at h
      exact List.mem_cons_of_mem _ (mem_lk h)
theorem gs_try {K : PySem.W.Frag} {cv : Value} {i : Nat} {cat : Nat → Option Bool} {ask : Nat → Option (List Nat)} {tb : WX → TS} {ts : Addr → Value → Option Addr → TS} {ma mh : Tx} (ha : ∀ W', GS B Z W' (tb W') ma) (hh : ∀ a cls d, GS B (Zs B a cls d) WNo (ts a cls d) mh)
    (hcat : ∀ c b, cat c = some b → PySem.W.exmOne K (.ref (B.cls c)) cv = some b) (hask : AskOk B ask) : GS B Z W (fun D σ H => tb (wAs K cv i ts W D) D σ H) (tryX i cat ask ma mh) := by
  intro ρ σ G H D r w
  refine ha _ ρ σ G H D r ?_
  unfold tryX at w
  cases e : ma ρ with
  | nx ρ1 => rw [e] at w; exact w
  | bk ρ1 => rw [e] at w; exact w
  | ct ρ1 => rw [e] at w; exact w
  | rt v ρ1 => rw [e] at w; exact w
  | bad => rw [e] at w; exact w
  | exc x ρ1 =>
    rw [e] at w
    intro cls d σ1 G1 H1 r1 s1 x1
    have hcls : cls = .ref (B.cls x.c) := by cases x1 <;> rfl
    cases hc : cat x.c with
    | none => simp only [hc] at w; exact w.elim
    | some b =>
      refine ⟨b, by rw [hcls]; exact hcat _ _ hc, fun hb a na => ?_, fun hb => ?_⟩
      · subst hb
        simp only [hc] at w
        cases hs : ρ1[i]? with
        | none => simp only [hs] at w; exact w.elim
        | some s =>
        simp only [hs] at w
        split at w
        · rename_i hq
          simp only [Bool.and_eq_true] at hq
          obtain ⟨q1, q2, q3⟩ := hq
          have nos : ∀ io lk d, ρ1[i]? ≠ some (SD.ow io lk d) := fun io lk d z => by rw [hs] at z; cases z; cases q1
          have no0 : ∀ io lk d, ρ[i]? = some (SD.ow io lk d) → io = false ∧ lk = false := fun io lk d z => by
            cases io with
            | true => obtain ⟨_, d', z'⟩ := s1.io i lk d z; exact absurd z' (nos _ _ _)
            | false =>
              cases lk with
              | true => obtain ⟨_, z'⟩ := s1.lk i false d z; exact absurd z' (nos _ _ _)
              | false => exact ⟨rfl, rfl⟩
          have zr : (Zs B a cls d).r G1 x.c x.fs (.ref a) := by
            unfold askOk at q3
            split at q3
            · rename_i fl hfl
              obtain ⟨as, hno⟩ := hask _ _ hfl
              refine ⟨rfl, hcls, as, ?_⟩
              cases x1 with
              | mk h rf =>
                refine .inl ⟨_, _, rfl, h, rf, fun f s l => hno f ?_⟩
                have hm := mem_lk l
                exact List.contains_iff_mem.mp (List.all_eq_true.mp q3 _ hm)
              | nil => exact .inr ⟨rfl, rfl⟩
            · cases q3
          have r2 : Rep B (Zs B a cls d) (ρ1.set i (.ex x.c x.fs)) (σ1.set i (some (.ref a))) G1 H1 := (r1.chg q2).put (.ex rfl zr) fun io lk d z => nomatch z
          have s2 : Step ρ σ G H (ρ1.set i (.ex x.c x.fs)) (σ1.set i (some (.ref a))) G1 H1 := s1.put r1 (fun io lk d z => absurd z (nos _ _ _)) fun io lk d z => nomatch z
          refine hh a cls d _ _ G1 H1 _ r2 ?_
          cases e2 : mh (ρ1.set i (.ex x.c x.fs)) with
          | bad => rw [e2] at w; exact w.elim
          | exc y ρ3 => rw [e2] at w; exact w.elim
          | nx ρ3 =>
            rw [e2] at w
            simp only [endX] at w
            cases e3 : dropX i ρ3 with
            | none => simp only [e3] at w; exact w.elim
            | some ρ4 =>
              simp only [e3] at w
              obtain ⟨rfl, hx⟩ := dropX_of e3
              exact fun σ3 G3 H3 r3 s3 => w _ G3 H3 (r3.drop.chg hx) ((s2.trans r2 s3).drop no0)
          | bk ρ3 =>
            rw [e2] at w
            simp only [endX] at w
            cases e3 : dropX i ρ3 with
            | none => simp only [e3] at w; exact w.elim
            | some ρ4 =>
              simp only [e3] at w
              obtain ⟨rfl, hx⟩ := dropX_of e3
              exact fun σ3 G3 H3 r3 s3 => w _ G3 H3 (r3.drop.chg hx) ((s2.trans r2 s3).drop no0)
          | ct ρ3 =>
            rw [e2] at w
            simp only [endX] at w
            cases e3 : dropX i ρ3 with
            | none => simp only [e3] at w; exact w.elim
            | some ρ4 =>
              simp only [e3] at w
              obtain ⟨rfl, hx⟩ := dropX_of e3
              exact fun σ3 G3 H3 r3 s3 => w _ G3 H3 (r3.drop.chg hx) ((s2.trans r2 s3).drop no0)
          | rt rv ρ3 =>
            rw [e2] at w
            simp only [endX] at w
            cases e3 : dropX i ρ3 with
            | none => simp only [e3] at w; exact w.elim
            | some ρ4 =>
              simp only [e3] at w
              obtain ⟨rfl, hx⟩ := dropX_of e3
              exact fun v σ3 G3 H3 r3 s3 rr => w v _ G3 H3 (r3.drop.chg hx) ((s2.trans r2 s3).drop no0) (rr.to s2 r2).drop
        · exact w.elim
      · subst hb
        simp only [hc] at w
        exact w cls d σ1 G1 H1 r1 s1 x1
end
end Vm

set_option Elab.async false
set_option linter.all false
set_option maxRecDepth 100000
set_option maxHeartbeats 4000000
/-! Making errors; calls where an error is handled; keyword calls. -/
namespace Vm
open PySem PySem.Spec PyProof.Rows L2

/-! ### an error is made -/
section
variable {X : Cx} {k : Nat} {fI C : Addr} {sp : Sp} {x : Str} {p pos : Pos} {e : Expr} {es : List Expr} {ta : TA}
/-- nothing comes out of a def that raises nothing -/
theorem cxN_false {P : Program} {w : World} {outer : List PySem.Env} {H : Hp} {s s' : Shared} {u : Value} (h : L2N.CX P w outer H s (fun _ _ _ => False) u s') : False := by
  obtain ⟨_, _, _, _, _, _, _, _, _, _, _, _, z⟩ := h
  exact z
theorem pmkN (T : OexC X.K C) (iC : PySem.W.findIn X.K (.ref C) "__init__" = some (some (.ref fI))) (tI : PySem.W.typeIn X.K (.ref fI) = some (.type "function")) (F1 : FnR X.prog X.w X.K X.mg X.base (L2N.CX X.prog X.w) k fI sp) (hr : Room (k + 1) X.A)
    (hg : Gl X x) (hm : X.mg x = some (.ref C)) (ha : PA X (e :: es) ta) (hdb : (x == ("__debug__" : Str)) = false) (he : starEach (e :: es) X.env = (false, eval e X.env) :: starEach es X.env) (hpl : (backTo pos (starEach es X.env)).any (·.1) = false) :
    L2N.PMk X (.Call (.Name x p) (e :: es) [] pos) (tMkO C sp [] ta) := by
  intro pins s σ H Q I h
  obtain ⟨nm, q, N, bs, bm, sn, sub, ab, col, d0, k0, k1, k2, k3, k5, cC, cbm⟩ := T.cls
  refine wpAny_Call_Name_kw (ld_glob I hg hm ?_ hdb)
  refine PySem.W.callWith_K (h₀ := X.base) I.ok.mod.kin T.kC (thn (ha.run pos pins s σ H _ I h) fun us s1 hh => ?_) he hpl
  obtain ⟨vs, H1, I1, r1, vz, q1⟩ := hh
  refine ⟨I1.kIn, ?_⟩
  obtain ⟨hp, g, dr, tk, os⟩ := s1
  generalize ea : hp.objs.size + 1 = a
  have le : hp.objs.size ≤ a := by omega
  have fresh : H1 a = none := I1.hok.fresh le
  have q2 := q1 a fresh
  rw [List.append_nil] at q2
  generalize eh : (hp.push (PySem.W.kdv_tup us)).push (PySem.HandSPX.excO C hp.objs.size) = h2
  have keep : ∀ b o, hp.get? b = some o → h2.get? b = some o := fun b o z => by
    subst eh
    exact Heap.get?_push_of_some _ (Heap.get?_push_of_some _ z)
  have laid : h2.get? a = some (PySem.HandSPX.excO C hp.objs.size) := by
    subst eh ea
    heap_get
  have I2 : Inv X pins σ (upd H1 a (exo a C none)) ⟨h2, g, dr, tk, os⟩ := I1.laid (t' := tk) (o := exo a C none) keep le (exo_ok laid)
  have sz : us.length ≤ sizeLine := by
    have := r1.length
    rw [sizeLine_eq]
    omega
  subst ea eh
  refine wpAny_call (PySem.HandSPX.call_own F.excBase_ValueError (fun Y => PySem.HandSPX.refsVE_contains Y bm cbm) (I1.kIn _ _ cC) (PySem.W.looks_findIn I1.kIn iC) (fun self => PySem.W.bind_fn I1.kIn self tI) sz ?_)
  refine codeAny_mono (F1 _ X.stack _ _ (.ref (hp.objs.size + 1) :: us) (.ref (hp.objs.size + 1) :: vs) _ (fun _ _ _ => False) (hr.make C us []) (I2.env0.make C us []) (.cons rfl r1) q2) fun r s' z => ?_
  cases r with
  | error er => exact (cxN_false z).elim
  | ok fl =>
    cases fl with
    | next => exact z.elim
    | brk => exact z.elim
    | cont => exact z.elim
    | ret u =>
      obtain ⟨v, H3, o3, b3, u3, k3', rv, ev, d, fs, e1, e2, e3, q3⟩ := z
      subst ev
      refine ⟨rv, ?_⟩
      obtain ⟨h3, g3, d3, t3, os3⟩ := s'
      obtain ⟨t0, G3, J, kG, nG, oe, na⟩ := mk_end0 (d2 := d3) (t2 := t3) I1 le keep u3 k3' o3 b3 e1 e2 e3
      refine ⟨_, _, _, _, _, _, some d, rfl, J, kG, nG, oe, ⟨rfl, rfl, fun vs hv => ?_⟩, rfl, rfl, na, rfl, b3, raises_own T.exC T.tyC, q3⟩
      cases hv
      rfl
end

/-! ### calls where an error is handled -/
/-- the def at f does what F says, also there -/
structure FPH (P : Program) (w : World) (K : PySem.W.Frag) (mg : Str → Option Value) (base : Heap) (B : Tb) (k : Nat) (f : Addr) (F : Fn) (np : Nat) : Prop where
  fn : ∃ fd ps, L2H.FnH P w K mg base (L2N.CX P w) k f fd ps (spF B F np) ∧ Binds K fd ps []
  len : ∀ as, F as ≠ .bad → as.length = np
section
variable {X : Cx} {B : Tb} {Z : XR} {W : WX}
theorem ge_call_nil {F : Fn} {np : Nat} {ms : List Bool} (hl : ∀ as, F as ≠ .bad → as.length = np) {xa : TA} {na : Exs} (hx : GA B Z W xa na) : GE B Z W (tCallS (spF B F np) (WE W) xa) (call F ms [] na) := by
  have := ge_call (B := B) (Z := Z) (W := W) (F := F) (np := np) (dv := []) (dvs := []) (ms := ms) (fun _ => .nil) hl hx
  simp only [List.append_nil] at this
  exact this
end

/-! ### keyword calls -/
/-- the def at f, called with so many arguments by position and then those by the names ks -/
def FnRK (P : Program) (w : World) (K : PySem.W.Frag) (mg : Str → Option Value) (base : Heap) (CX : CXT) (k : Nat) (f : Addr) (j : Nat) (ks : List Str) (sp : Sp) : Prop :=
  ∀ (A : Around) (outer : List PySem.Env) (s : Shared) (H : Hp) (us ws : List Value) (vs zs : List V) (Q : VK) (E : XK), Room k A → Env0 P w K mg base A outer s H → Vals vs us → Vals zs ws → vs.length = j → sp (vs ++ zs) H Q E →
    codeAny (model P w) A (.call (.ref f) ⟨us, ks.zip ws⟩) (CR CX outer P w H s Q E) s
structure FPK (P : Program) (w : World) (K : PySem.W.Frag) (mg : Str → Option Value) (base : Heap) (B : Tb) (k : Nat) (f : Addr) (j : Nat) (ks : List Str) (F : Fn) (np : Nat) : Prop where
  fn : FnRK P w K mg base (L2N.CX P w) k f j ks (spF B F np)
  len : ∀ as, F as ≠ .bad → as.length = np
def tApp (p : Nat → Prop) (t tk : TA) : TA := fun σ H Q => t σ H fun vs H1 => tk σ H1 fun zs H2 => p vs.length ∧ Q (vs ++ zs) H2
theorem ga_app0 {B : Tb} {Z : XR} {W : WX} {p : Nat → Prop} (h : p 0) {tk : TA} {m : Exs} (g : GA B Z W tk m) : GA B Z W (tApp p tNil tk) m := fun ρ σ G H Q r w => g ρ σ G H (fun zs H2 => p 0 ∧ Q zs H2) r (by
  cases e : m ρ with
  | ok a ρ1 => rw [e] at w; exact fun b G' H' r s v => ⟨h, w b G' H' r s v⟩
  | exc x ρ1 => rw [e] at w; exact w
  | bad => rw [e] at w; exact w)
section
variable {X : Cx} {W : WX} {k j : Nat} {f : Addr} {ks : List Str} {sp : Sp} {x : Str} {p pos : Pos} {e : Expr} {es : List Expr} {kws : List Keyword} {t tk : TA}
theorem pe_callKW (F : FnRK X.prog X.w X.K X.mg X.base (L2N.CX X.prog X.w) k f j ks sp) (hr : Room k X.A) (ht : L2N.Takes X W) (hg : Gl X x) (hm : X.mg x = some (.ref f)) (hk : PySem.W.keepIn X.K (.ref f) = true)
    (ha : PA X (e :: es) t) (hkw : PK X kws tk) (hall : (backToKw pos (keywordEach kws X.env)).all (·.1.isSome) = true) (hks : (backToKw pos (keywordEach kws X.env)).filterMap (·.1) = ks)
    (hdb : (x == ("__debug__" : Str)) = false) (he : starEach (e :: es) X.env = (false, eval e X.env) :: starEach es X.env)
    (hpl : ((backTo pos (starEach (e :: es) X.env)).any (·.1) || (backToKw pos (keywordEach kws X.env)).any (·.1.isNone)) = false) :
    PE X (.Call (.Name x p) (e :: es) kws pos) (fun σ H Q => tApp (· = j) t tk σ H fun vs H1 => sp vs H1 Q (WE W σ)) := by
  refine ⟨fun pins s σ H Q I h => ?_⟩
  refine wpAny_Call_Name_kw (ld_glob I hg hm ?_ hdb)
  refine PySem.W.callWith_KW (h₀ := X.base) I.ok.mod.kin hk hall (thn (ha.run pos pins s σ H _ I h) fun us s1 z1 => ?_) hpl he
  obtain ⟨vs, H1, I1, r1, q1⟩ := z1
  refine thn (hkw.run pos pins s1 σ H1 _ I1 q1) fun ws s2 z2 => ?_
  obtain ⟨zs, H2, I2, r2, hj, q2⟩ := z2
  refine ⟨I2.kIn, ?_⟩
  rw [hks]
  refine wpAny_call (codeAny_mono (F X.A X.stack s2 H2 us ws vs zs Q (WE W σ) hr I2.env0 r1 r2 hj q2) fun r s' z => ?_)
  cases r with
  | error er => exact L2N.passAt ht σ pins H2 s2 er s' I2 z
  | ok fl =>
    cases fl with
    | ret u => exact I2.after z
    | _ => exact z.elim
end
/-- a def by other arguments: data alone -/
def valsOf : List Arg → Option (List D)
  | [] => some []
  | .val d :: r => (valsOf r).map (d :: ·)
  | _ => none
def adF (n : Nat) (g : List D → List D) (F : Fn) : Fn := fun as =>
  match valsOf as with
  | some ds => if ds.length = n then (match F ((g ds).map .val) with
    | .ret r _ => .ret r (ds.map fun _ => .non)
    | .exc x _ => .exc x (ds.map fun _ => .non)
    | .bad => .bad) else .bad
  | none => .bad
section
variable {B : Tb} {G H : Hp}
theorem valsOf_eq : ∀ {as : List Arg} {ds : List D}, valsOf as = some ds → as = ds.map Arg.val
  | [], ds, h => by cases h; rfl
  | .val d :: r, ds, h => by
    simp only [valsOf, Option.map_eq_some_iff] at h
    obtain ⟨x, h, rfl⟩ := h
    rw [valsOf_eq h]
    rfl
  | .io _ :: _, _, h => by cases h
theorem args_rps {ds : List D} {vs : List V} (h : ArgsR B G H (ds.map Arg.val) vs) : Rps B G ds vs := by
  induction ds generalizing vs with
  | nil => cases h; exact .nil
  | cons d ds ih =>
    cases h with
    | cons h r =>
    cases h with
    | val q => exact .cons q (ih r)
theorem no_io {ds : List D} {vs : List V} {i : Nat} {a : Addr} (h : IoA (ds.map Arg.val) vs i a) : False := by
  obtain ⟨⟨d, h⟩, _⟩ := h
  rw [List.getElem?_map] at h
  cases e : ds[i]? with
  | none => rw [e] at h; cases h
  | some x => rw [e] at h; cases h
theorem adF_ok {F : Fn} {n m : Nat} {g : List D → List D} {gV : List V → List V} (hF : ∀ as, F as ≠ .bad → as.length = m) (hg : ∀ (G : Hp) ds vs, ds.length = n → Rps B G ds vs → Rps B G (g ds) (gV vs)) {vs : List V} {H : Hp} {Q : VK} {E : XK} (h : spF B (adF n g F) n vs H Q E) : spF B F m (gV vs) H Q E := by
  obtain ⟨hl, xs, G, en, w⟩ := h
  unfold adF at w
  cases ev : valsOf xs with
  | none => simp only [ev] at w; exact w.elim
  | some ds =>
    simp only [ev] at w
    have ex := valsOf_eq ev
    subst ex
    split at w
    · rename_i hn
      have rp := hg G ds vs hn (args_rps en.args)
      have nb : F ((g ds).map .val) ≠ .bad := fun z => by rw [z] at w; exact w.elim
      have hm := hF _ nb
      rw [List.length_map] at hm
      refine ⟨by rw [rp.len]; exact hm, _, G, ⟨.vals rp, en.sub, fun i j a h1 _ => (no_io h1).elim⟩, ?_⟩
      cases ef : F ((g ds).map .val) with
      | bad => exact absurd ef nb
      | ret r outs =>
        rw [ef] at w
        intro v G' H' pr rr
        exact w v G' H' ⟨pr.stp.imp fun b ⟨i, h⟩ => (no_io h).elim, pr.sub, by rw [List.length_map, List.length_map], fun i a h => (no_io h).elim⟩ rr
      | exc x outs =>
        rw [ef] at w
        intro cls d G' H' pr rr
        exact w cls d G' H' ⟨pr.stp.imp fun b ⟨i, h⟩ => (no_io h).elim, pr.sub, by rw [List.length_map, List.length_map], fun i a h => (no_io h).elim⟩ rr
    · exact w.elim
theorem adF_len {F : Fn} {n : Nat} {g : List D → List D} : ∀ as, adF n g F as ≠ .bad → as.length = n := fun as h => by
  unfold adF at h
  cases ev : valsOf as with
  | none => simp only [ev] at h; exact absurd rfl h
  | some ds =>
    simp only [ev] at h
    split at h
    · rename_i hn
      rw [valsOf_eq ev, List.length_map]
      exact hn
    · exact absurd rfl h
end
end Vm

set_option Elab.async false
set_option linter.all false
set_option maxRecDepth 100000
set_option maxHeartbeats 4000000
namespace Vm
open PySem PySem.Spec PyProof.Rows L2

/-- a def that may be called: its function, which parameters are the caller's own, how many, its defaults, its level -/
structure FnE where
  F : Fn
  ms : List Bool
  np : Nat
  dv : List D
  lv : Nat
  hot : Bool := false
/-- what the translation goes by; cm: no error is handled here -/
structure Gm where
  N : List Str
  sc : Scope
  sc0 : Scope
  lv : Nat
  fns : Str → Option FnE
  cstD : Str → Option D
  free : Str → Bool
  flds : Str → Option (Nat × List Nat) := fun _ => none
  mks : Str → Option (Nat × MtE) := fun _ => none
  mth : Str → Option (Nat × List (Nat × MtE)) := fun _ => none
  cms : Str → Str → Option (Nat × MtE) := fun _ _ => none
  cm : Bool := true
  clsN : Str → Option Nat := fun _ => none
  kt : Kt := {}
  clv : Str → Str → Option D := fun _ _ => none
  err : Str → Option (Nat × List Nat × Nat) := fun _ => none
  exn : Str → Option (Nat → Option Bool) := fun _ => none
  ask : Nat → Option (List Nat) := fun _ => none
  kwc : Str → Nat → List (Option Str) → Option FnE := fun _ _ _ => none
def Gm.vis (g : Gm) (x : Str) : Bool := match g.sc.names.lookup x with
  | some .local => true
  | some .cell => true
  | some .free => true
  | _ => false
def Gm.loc (g : Gm) (x : Str) : Bool := match g.sc.names.lookup x with
  | some .local => true
  | some .cell => decide (g.sc0.names.lookup x = some .cell)
  | _ => false
def Gm.glo (g : Gm) (x : Str) : Bool := match g.sc.names.lookup x with
  | some .globalImplicit => true
  | _ => false
def slotOf (N : List Str) (x : Str) : Option Nat := N.findIdx? (· == x)
def okName (x : Str) : Bool := !(x == ("__debug__" : Str)) && (!(x == ("__classdict__" : Str)) && !(x == ("__name__" : Str)))
def trB : Operator → Option BOp
  | .Add => some .add
  | .Sub => some .sub
  | .Mult => some .mul
  | .FloorDiv => some .fdiv
  | .Mod => some .mod
  | .Pow => some .pow
  | _ => none
def trO : CmpOp → COp
  | .Eq => .eq
  | .NotEq => .ne
  | .Lt => .lt
  | .LtE => .le
  | .Gt => .gt
  | .GtE => .ge
  | .Is => .is
  | .IsNot => .isnt
  | .In => .inn
  | .NotIn => .nin
def noSet : Expr → Bool
  | .Set _ _ _ => false
  | _ => true
def isTuple : Expr → Bool
  | .Tuple _ _ _ => true
  | _ => false
def plainB : Expr → Bool
  | .Slice _ _ _ _ => false
  | .Tuple _ _ _ => false
  | _ => true
def noStar : Expr → Bool
  | .Starred _ _ => false
  | _ => true
/-- things whose attributes are read plainly -/
def plainO : Expr → Bool
  | .Name _ _ => true
  | .Attribute _ _ _ => true
  | .Subscript _ _ _ => true
  | .Constant _ _ _ => true
  | _ => false
/-- a built-in class by its name -/
def tyN (x : Str) : Option String := if x = "int" then some "int" else if x = "bool" then some "bool" else if x = "str" then some "str" else if x = "list" then some "list" else if x = "tuple" then some "tuple" else if x = "ValueError" then some "ValueError" else none
/-- C.NAME -/
def Gm.clvOf (g : Gm) (o : Expr) (f : Str) : Option D := match o with
  | .Name x _ => if okName x && g.glo x then g.clv x f else none
  | _ => none
/-- methods of texts -/
def trMt (m : Str) : Option (List Nat → Bi) :=
  if m = "isdigit" then some biIsdigit else if m = "isascii" then some biIsascii else if m = "startswith" then some biStarts else if m = "split" then some biSplit else if m = "join" then some biJoin else none
/-- built-in functions that want that no error is handled -/
def calmBi (x : Str) : Bool := !(x == ("len" : Str)) && !(x == ("abs" : Str))
def kwVal (k : Keyword) : Expr := k.value
def kwNm (k : Keyword) : Option Str := k.arg
def lvAll (lv : Nat) (tab : List (Nat × MtE)) : Bool := tab.all fun p => decide (p.2.lv ≤ lv)
/-- the built-in functions of one or two things -/
def trBi (x : Str) : Option Bi :=
  if x = "len" then some biLen else if x = "abs" then some biAbs else if x = "all" then some biAll else if x = "any" then some biAny else if x = "sum" then some biSum else if x = "min" then some biMin else if x = "max" then some biMax else none
def trTy (x : Str) : Option Bi :=
  if x = "int" then some biIntS else if x = "str" then some biStr else if x = "list" then some biList else if x = "tuple" then some biTuple else none
/-- in a comprehension -/
def relab (sc0 sc : Scope) : Scope := { sc with names := sc.names.map fun (n, k) => if (k == .free && sc0.kind == .function && sc0.names.lookup n == some .cell) then (n, .cell) else (n, k) }
def Gm.blk (g : Gm) (sc : Scope) : Gm := { g with sc := relab g.sc sc, sc0 := sc }
def ownOf (N : List Str) (sc : Scope) : List (Str × Nat) := sc.names.filterMap fun y => match y.2 with
  | .local => (slotOf N y.1).map fun i => (y.1, i)
  | .cell => (slotOf N y.1).map fun i => (y.1, i)
  | _ => none
mutual
/-- targets: what they do, and the slots -/
def trG (g : Gm) : Nat → Expr → Option (Tg × List Nat)
  | 0, _ => none
  | n + 1, .Name x _ => if g.loc x then (slotOf g.N x).map fun i => (tgN i, [i]) else none
  | n + 1, .Tuple es _ _ => if g.cm then (trGs g n es).map fun p => (tgT p.1, p.2) else none
  | n + 1, _ => none
def trGs (g : Gm) : Nat → List Expr → Option (Tgs × List Nat)
  | n + 1, [] => some (tgNil, [])
  | n + 1, e :: es => (match trG g n e, trGs g n es with
    | some a, some r => some (tgCons a.1 r.1, a.2 ++ r.2)
    | _, _ => none)
  | _, _ => none
end
mutual
def trE (g : Gm) : Nat → Expr → Option Ex
  | 0, _ => none
  | n + 1, .Name x _ => if okName x then (if g.vis x then (slotOf g.N x).map var else if g.glo x then (match g.cstD x with
      | some d => some (cst d)
      | none => (match g.clsN x with
        | some c => some (cst (.cls c))
        | none => if g.free x then (tyN x).map fun t => cst (.ty t) else none)) else none) else none
  | n + 1, .Constant (.int i) _ _ => some (cst (.int i))
  | n + 1, .Constant (.bool b) _ _ => some (cst (.bl b))
  | n + 1, .Constant .none _ _ => some (cst .non)
  | n + 1, .Constant (.str z) _ _ => some (cst (.str z.cps.toList))
  | n + 1, .BinOp a o b _ => (match trE g n a, trE g n b with
    | some a, some b => (match g.mth (dunB o) with
      | some (_, tab) => if g.cm && lvAll g.lv tab then some (binO (trB o) tab a b) else none
      | none => (trB o).map fun o => bin o a b)
    | _, _ => none)
  | n + 1, .UnaryOp .USub a _ => (trE g n a).map neg
  | n + 1, .UnaryOp .Not a _ => (trE g n a).map notE
  | n + 1, .Compare a [o] [b] _ => (match trE g n a, trE g n b with
    | some a', some b' => if noSet b then (match (dunC o).bind g.mth with
      | some (_, tab) => if g.cm && lvAll g.lv tab then some (cmpO (trO o) tab a' b') else none
      | none => some (cmp (trO o) a' b')) else none
    | _, _ => none)
  | n + 1, .Compare a [o, o'] [b, c] _ => (match trE g n a, trE g n b, trE g n c with
    | some a', some b', some c' => if noSet c then some (chain (trO o) (trO o') a' b' c') else none
    | _, _, _ => none)
  | n + 1, .BoolOp .And es _ => trAnd g n es
  | n + 1, .BoolOp .Or es _ => trOr g n es
  | n + 1, .IfExp c a b _ => (match trT g n c, trE g n a, trE g n b with
    | some c, some a, some b => some (ifx c a b)
    | _, _, _ => none)
  | n + 1, .Tuple es _ _ => (trA g n es).map tupE
  | n + 1, .List es _ => (trA g n es).map lstE
  | n + 1, .Subscript a (.Slice lo hi none _) _ => (match trE g n a, trP g n lo, trP g n hi with
    | some a, some l, some h => some (slc a l h)
    | _, _, _ => none)
  | n + 1, .Subscript a b _ => (match trE g n a, trE g n b with
    | some a, some b' => if plainB b then some (idx a b') else none
    | _, _ => none)
  | n + 1, .Call (.Name x _) (e :: es) [] _ => (match trA g n (e :: es) with
    | some as => if okName x && g.glo x then (match g.fns x with
      | some fe => if fe.lv ≤ g.lv then (if g.cm then some (call fe.F fe.ms fe.dv as) else if fe.hot && fe.dv.isEmpty then some (call fe.F fe.ms [] as) else none) else none
      | none => (match g.mks x with
        | some (c, fe) => if g.cm && decide (fe.lv + 1 ≤ g.lv) then some (make c fe.F fe.ms fe.dv as) else none
        | none => if g.free x then (if x = "isinstance" then some (isiE g.kt as) else match trBi x, trTy x with
          | some f, _ => if g.cm || !calmBi x then some (bcall f as) else none
          | none, some f => some (bcall f as)
          | _, _ => none) else none)) else none
    | none => none)
  | n + 1, .Call (.Attribute o m ap) es [] cp => if plainO o && ((ap.endLine == cp.line) && decide (es.length < 30)) then (match g.mth m with
      | some (mid, tab) => (match trE g n o, trA g n es with
        | some a, some as => if g.cm && lvAll g.lv tab then some (meth mid tab a as) else none
        | _, _ => none)
      | none => (match trMt m with
      | some f => (match trE g n o, trA g n es with
        | some a, some as => some (smeth f a as)
        | _, _ => none)
      | none => (match o, es with
        | .Name x _, [e] => (match g.cms x m with
          | some (c, fe) => (match trA g n [e] with
            | some as => if g.cm && (okName x && (g.glo x && decide (fe.lv ≤ g.lv))) then some (cmeth c fe.F fe.ms fe.dv as) else none
            | none => none)
          | none => if okName x && g.vis x then (match slotOf g.N x, trE g n e with
            | some i, some a => if m = "append" then some (append i a) else if m = "pop" then some (popAt i a) else none
            | _, _ => none) else none)
        | .Name x _, e :: e' :: es => (match g.cms x m with
          | some (c, fe) => (match trA g n (e :: e' :: es) with
            | some as => if g.cm && (okName x && (g.glo x && decide (fe.lv ≤ g.lv))) then some (cmeth c fe.F fe.ms fe.dv as) else none
            | none => none)
          | none => none)
        | _, _ => none))) else none
  | n + 1, .Call (.Name x _) (e :: es) (k :: ks) _ => (match trA g n (e :: es ++ (k :: ks).map kwVal) with
    | some as => if g.cm && (okName x && (g.glo x && (k :: ks).all fun k => k.arg.isSome)) then (match g.kwc x (es.length + 1) ((k :: ks).map kwNm) with
      | some fe => if decide (fe.lv ≤ g.lv) && fe.dv.isEmpty then some (call fe.F fe.ms [] as) else none
      | none => none) else none
    | none => none)
  | n + 1, .FormattedValue e c none _ => if c = -1 then (trE g n e).map fmtE else none
  | n + 1, .JoinedStr [e] _ => trE g n e
  | n + 1, .JoinedStr (e :: e' :: es) _ => (trJ g n (e :: e' :: es)).map fun ms => joinF ms []
  | n + 1, .Attribute o f _ => (match g.clvOf o f with
    | some d => some (cst d)
    | none => if plainO o then (match g.flds f, trE g n o with
      | some (i, cs), some a => some (fldX i cs a)
      | _, _ => none) else none)
  | n + 1, .ListComp elt [⟨tg, it, ifs, 0⟩] sc _ => if g.cm = false then none else (match trG (g.blk sc) n tg, trI g n tg it, trIfs (g.blk sc) n ifs, trE (g.blk sc) n elt with
      | some (t, ts), some i, some c, some e => if blkC g.N g.sc sc (ownOf g.N sc) && ts.all (fun j => ((ownOf g.N sc).map (·.2)).contains j) then some (lcE ((ownOf g.N sc).map (·.2)) t i c e) else none
      | _, _, _, _ => none)
  | n + 1, .Call (.Name x _) [] [] _ => if okName x && g.glo x then (match g.fns x with
      | some fe => if g.cm && decide (fe.lv ≤ g.lv) then some (call fe.F fe.ms fe.dv nilA) else none
      | none => (match g.mks x with
        | some (c, fe) => if g.cm && decide (fe.lv + 1 ≤ g.lv) then some (make c fe.F fe.ms fe.dv nilA) else none
        | none => none)) else none
  | n + 1, _ => none
def trAnd (g : Gm) : Nat → List Expr → Option Ex
  | n + 1, [a] => trE g n a
  | n + 1, a :: b :: r => (match trE g n a, trAnd g n (b :: r) with
    | some a, some b => some (andE a b)
    | _, _ => none)
  | _, _ => none
def trOr (g : Gm) : Nat → List Expr → Option Ex
  | n + 1, [a] => trE g n a
  | n + 1, a :: b :: r => (match trE g n a, trOr g n (b :: r) with
    | some a, some b => some (orE a b)
    | _, _ => none)
  | _, _ => none
def trA (g : Gm) : Nat → List Expr → Option Exs
  | n + 1, [] => some nilA
  | n + 1, e :: es => (match trE g n e, trA g n es with
    | some a, some r => some (consA a r)
    | _, _ => none)
  | _, _ => none
def trJ (g : Gm) : Nat → List Expr → Option (List Ex)
  | n + 1, [] => some []
  | n + 1, e :: es => (match trE g n e, trJ g n es with
    | some a, some r => some (a :: r)
    | _, _ => none)
  | _, _ => none
def trP (g : Gm) : Nat → Option Expr → Option Opt
  | n + 1, none => some noPart
  | n + 1, some e => (trE g n e).map part
  | _, _ => none
def trT (g : Gm) : Nat → Expr → Option Tst
  | 0, _ => none
  | n + 1, .UnaryOp .Not a _ => (trT g n a).map tNot
  | n + 1, .BoolOp .And es _ => trTAnd g n es
  | n + 1, .BoolOp .Or es _ => trTOr g n es
  | n + 1, .IfExp _ _ _ _ => none
  | n + 1, .Compare a [o] [b] _ => (match trE g n a, trE g n b with
    | some a', some b' => if noSet b then (match (dunC o).bind g.mth with
      | some (_, tab) => if g.cm && lvAll g.lv tab then some (tstB (cmpO (trO o) tab a' b')) else none
      | none => some (tstB (cmp (trO o) a' b'))) else none
    | _, _ => none)
  | n + 1, .Compare a [o, o'] [b, c] _ => (match trE g n a, trE g n b, trE g n c with
    | some a', some b', some c' => if noSet c then some (tstB (chain (trO o) (trO o') a' b' c')) else none
    | _, _, _ => none)
  | n + 1, .Compare _ _ _ _ => none
  | n + 1, e => (trE g n e).map tst
def trTAnd (g : Gm) : Nat → List Expr → Option Tst
  | n + 1, [a] => trT g n a
  | n + 1, a :: b :: r => (match trT g n a, trTAnd g n (b :: r) with
    | some a, some b => some (tAnd a b)
    | _, _ => none)
  | _, _ => none
def trTOr (g : Gm) : Nat → List Expr → Option Tst
  | n + 1, [a] => trT g n a
  | n + 1, a :: b :: r => (match trT g n a, trTOr g n (b :: r) with
    | some a, some b => some (tOr a b)
    | _, _ => none)
  | _, _ => none
def trIfs (g : Gm) : Nat → List Expr → Option Tst
  | n + 1, [] => some okT
  | n + 1, [c] => trT g n c
  | _, _ => none
/-- what a for walks -/
def trI (g : Gm) : Nat → Expr → Expr → Option Ix
  | 0, _, _ => none
  | n + 1, tg, e => (match e with
    | .Call (.Name x _) [a] [] _ => if okName x && (g.glo x && g.free x) then
        (if x = "range" then (trE g n a).map itRange
         else if x = "enumerate" then (match tg with
          | .Tuple _ _ _ => (trE g n a).map itEnum
          | _ => none)
         else (trE g n e).map itE) else (trE g n e).map itE
    | .Call (.Name x _) [a, b] [] _ => if okName x && (g.glo x && (g.free x && decide (x = "range"))) then
        (match trE g n a, trE g n b with
        | some a, some b => some (itRange2 a b)
        | _, _ => none) else (trE g n e).map itE
    | e => (trE g n e).map itE)
end
/-- a, b = x, y -/
def parX (i j : Nat) (es : Exs) : Tx := fun ρ => (es ρ).thn fun vs ρ1 =>
  match frzs ρ1 vs with
  | some ([x, y], ρ2) => (match tgN i x ρ2 with
    | some ρ3 => (match tgN j y ρ3 with
      | some ρ4 => .nx ρ4
      | none => .bad)
    | none => .bad)
  | _ => .bad
def parOk (x y : Str) (px py : Pos) (a b : Expr) : Bool := !(x == y) && ((px.line == py.line) && (!(foldedForSure 8 a && foldedForSure 8 b) && (!(constantsAlone 8 a && constantsAlone 8 b) && (noStar a && noStar b))))
/-- target = e -/
def trA1 (g : Gm) (n : Nat) (e : Expr) : Expr → Option Tx
  | .Name x _ => if g.loc x then (match slotOf g.N x, trE g n e with
      | some i, some a => some (asg i a)
      | _, _ => none) else none
  | .Tuple ts k p => if isTuple e then (match ts, e with
      | [.Name x px, .Name y py], .Tuple [a, b] _ _ => if g.cm && (decide (g.sc.names.lookup x = some .local) && decide (g.sc.names.lookup y = some .local)) then (match slotOf g.N x, slotOf g.N y, trE g n a, trE g n b with
        | some i, some j, some a', some b' => if parOk x y px py a b && decide (i ≠ j) then some (parX i j (consA a' (consA b' nilA))) else none
        | _, _, _, _ => none) else none
      | _, _ => none) else if g.cm = false then none else (match trG g n (.Tuple ts k p), trE g n e with
      | some t, some a => some (pat t.1 a)
      | _, _ => none)
  | .Subscript o i _ => (match o with
      | .Name x _ => if okName x && g.vis x then (match slotOf g.N x, trE g n i, trE g n e with
        | some j, some b, some a => some (iset j b a)
        | _, _, _ => none) else none
      | _ => none)
  | .Attribute o f _ => (match o with
      | .Name x _ => if okName x && g.vis x then (match slotOf g.N x, g.flds f, trE g n e with
        | some j, some (i, cs), some a => some (fsetC j i cs a)
        | _, _, _ => none) else none
      | _ => none)
  | _ => none
def trAs (g : Gm) (n : Nat) (ts : List Expr) (e : Expr) : Option Tx :=
  match ts with
  | [t] => trA1 g n e t
  | _ => none
def raiseParts : Option Expr → Option Expr → Option (Str × Expr × List Expr)
  | some (.Call (.Name x _) (e :: es) [] _), none => some (x, e, es)
  | _, _ => none
def tryParts : List ExceptHandler → List Stmt → List Stmt → Option (Str × Str × Stmt × List Stmt)
  | [.ExceptHandler (some (.Name x _)) (some nm) (s :: r) _], [], [] => some (x, nm, s, r)
  | _, _, _ => none
mutual
def trS (g : Gm) : Nat → Stmt → Option Tx
  | 0, _ => none
  | n + 1, .Assign ts e _ => trAs g n ts e
  | n + 1, .Expr (.ListComp _ _ _ _) _ => none
  | n + 1, .Expr e _ => (trE g n e).map exprS
  | n + 1, .Return (some e) _ => (trE g n e).map retS
  | n + 1, .Return none _ => some retN
  | n + 1, .If c a b _ => (match trT g n c, trSs g n a, trSs g n b with
      | some c, some a, some b => some (ifS c a b)
      | _, _, _ => none)
  | n + 1, .Raise e fr _ => (match raiseParts e fr with
      | some (x, e, es) => if g.cm && (okName x && g.glo x) then (match g.err x, trA g n (e :: es) with
        | some (c, fs, lv), some as => if lv + 1 ≤ g.lv then some (raiseX c fs as) else none
        | _, _ => none) else none
      | none => none)
  | n + 1, .Try body hs els fin _ => (match tryParts hs els fin with
      | some (x, nm, s, r) => if g.cm && (okName x && (g.glo x && decide (g.sc.names.lookup nm = some .local))) then (match slotOf g.N nm, g.exn x, trSs g n body, trSs { g with cm := false } n (s :: r) with
        | some i, some cat, some a, some h => some (tryX i cat g.ask a h)
        | _, _, _, _ => none) else none
      | none => none)
  | n + 1, .For tg it body [] _ => if g.cm = false then none else (match trG g n tg, trI g n tg it, trSs g n body with
      | some t, some i, some b => some (forS t.1 i b)
      | _, _, _ => none)
  | n + 1, .While c body [] _ => (match trT g n c, trSs g n body with
      | some c, some b => some (whileS c b)
      | _, _ => none)
  | n + 1, .Break _ => some brkS
  | n + 1, .Continue _ => some cntS
  | n + 1, .Pass _ => some next
  | n + 1, _ => none
def trSs (g : Gm) : Nat → List Stmt → Option Tx
  | n + 1, [] => some next
  | n + 1, [s] => some ((trS g n s).getD never)
  | n + 1, s :: r => (trSs g n r).map fun b => seq ((trS g n s).getD never) b
  | _, _ => none
end
end Vm

set_option Elab.async false
set_option linter.all false
set_option maxRecDepth 100000
set_option maxHeartbeats 4000000
namespace Vm
open PySem PySem.Spec PyProof.Rows L2
/-- where the translation stands -/
structure Ctx (X : Cx) (g : Gm) (B : Tb) (Z : XR) (W : WX) : Prop where
  K : X.K = B.K
  N : X.N = g.N
  sc : X.env.scope = g.sc
  nd : X.N.Nodup
  fnx : ∀ x, g.sc0.names.lookup x = some .cell → X.fn x = true
  calm : g.cm = true → X.calm = true
  zno : g.cm = true → ∀ G c fs v, ¬ Z.r G c fs v
  room : g.cm = true → Room g.lv X.A
  roomH : L2H.RoomH g.lv X.A
  hot : g.cm = false → L2H.HotC X
  hx : HotX X B Z
  tk : L2N.Takes X W
  own : PassesOwn (model X.prog X.w) X.A X.env X.xe
  fns : ∀ x fe, g.fns x = some fe → ∃ f, X.mg x = some (.ref f) ∧ PySem.W.keepIn X.K (.ref f) = true ∧ FP X.prog X.w X.K X.mg X.base B fe.lv f fe.F fe.np fe.dv ∧ (fe.hot = true → FPH X.prog X.w X.K X.mg X.base B fe.lv f fe.F fe.np)
  cst : ∀ x d, g.cstD x = some d → ∃ v u, X.mg x = some u ∧ RelV v u ∧ ∀ G, Rp B G d v
  free : ∀ x, g.free x = true → X.mg x = none
  flds : ∀ f i cs, g.flds f = some (i, cs) → B.fld i = f ∧ ∀ c, cs.contains c = true → Cls B.K (B.cls c) ∧ NoAttr B.K (B.cls c) f
  mks : ∀ x c fe, g.mks x = some (c, fe) → ∃ f, X.mg x = some (.ref (B.cls c)) ∧ Mk X.K (B.cls c) f ∧ FP X.prog X.w X.K X.mg X.base B fe.lv f fe.F fe.np fe.dv
  mth : ∀ m mid tab, g.mth m = some (mid, tab) → B.fld mid = m ∧ ∀ c fe, tab.lookup c = some fe → MtOk X B m c fe
  cms : ∀ x m c fe, g.cms x m = some (c, fe) → ∃ mc p f, X.mg x = some (.ref (B.cls c)) ∧ ClX.CRead X.K (B.cls c) mc ∧ ClX.CMet X.K (B.cls c) mc m p f ∧ FP X.prog X.w X.K X.mg X.base B fe.lv f fe.F fe.np fe.dv
  clsN : ∀ x c, g.clsN x = some c → X.mg x = some (.ref (B.cls c))
  kt : KtOk B g.kt
  clv : ∀ x f d, g.clv x f = some d → ∃ c mc v u, X.mg x = some (.ref (B.cls c)) ∧ ClX.CRead X.K (B.cls c) mc ∧ ClX.CVal X.K (B.cls c) mc f v u ∧ ∀ G, Rp B G d v
  err : ∀ x c fs lv, g.err x = some (c, fs, lv) → X.mg x = some (.ref (B.cls c)) ∧ OexC X.K (B.cls c) ∧ ∃ fI, PySem.W.findIn X.K (.ref (B.cls c)) "__init__" = some (some (.ref fI)) ∧ PySem.W.typeIn X.K (.ref fI) = some (.type "function") ∧ FnR X.prog X.w X.K X.mg X.base (L2N.CX X.prog X.w) lv fI (spErrs (B.cls c) (fs.map B.fld))
  exn : ∀ x cat, g.exn x = some cat → ∃ cv, X.mg x = some cv ∧ ∀ c b, cat c = some b → PySem.W.exmOne X.K (.ref (B.cls c)) cv = some b
  ask : AskOk B g.ask
  kwc : ∀ x n ks fe, g.kwc x n ks = some fe → ∃ f, X.mg x = some (.ref f) ∧ PySem.W.keepIn X.K (.ref f) = true ∧ FPK X.prog X.w X.K X.mg X.base B fe.lv f n (ks.filterMap id) fe.F fe.np
section
variable {X : Cx} {g : Gm} {B : Tb} {Z : XR} {W : WX}
theorem slot_of {N : List Str} {x : Str} {i : Nat} (h : slotOf N x = some i) : N[i]? = some x := by
  unfold slotOf at h
  rw [List.findIdx?_eq_some_iff_getElem] at h
  obtain ⟨hi, h1, _⟩ := h
  rw [List.getElem?_eq_getElem hi, eq_of_beq h1]
theorem okName_of {x : Str} (h : okName x = true) : (x == ("__debug__" : Str)) = false ∧ (x == ("__classdict__" : Str)) = false ∧ x ≠ "__name__" := by
  unfold okName at h
  simp only [Bool.and_eq_true, Bool.not_eq_true'] at h
  exact ⟨h.1, h.2.1, fun e => by rw [e] at h; exact absurd h.2.2 (by simp)⟩
theorem Ctx.vis (C : Ctx X g B Z W) {x : Str} (h : g.vis x = true) : Vis X.env.scope x := by
  unfold Gm.vis at h
  unfold Vis
  rw [C.sc]
  split at h <;> first | (rename_i e; exact .inl e) | (rename_i e; exact .inr (.inl e)) | (rename_i e; exact .inr (.inr e)) | cases h
theorem Ctx.loc (C : Ctx X g B Z W) {x : Str} (h : g.loc x = true) : L2.Loc X.env.scope x ∧ (X.fn x = true ∨ X.env.scope.names.lookup x = some .local) := by
  unfold Gm.loc at h
  unfold L2.Loc
  rw [C.sc]
  split at h
  · rename_i e; exact ⟨.inl e, .inr e⟩
  · rename_i e; exact ⟨.inr e, .inl (C.fnx x (of_decide_eq_true h))⟩
  · cases h
theorem Ctx.glo (C : Ctx X g B Z W) {x : Str} (h : g.glo x = true) : Gl X x := by
  unfold Gm.glo at h
  split at h
  · rename_i e
    show X.env.scope.names.lookup x = some .globalImplicit
    rw [C.sc]
    exact e
  · cases h
theorem star_of {e : Expr} {es : List Expr} {env : PySem.Env} (h : noStar e = true) : starEach (e :: es) env = (false, eval e env) :: starEach es env := by
  cases e <;> first | rfl | cases h
theorem asg_of {e : Expr} {es : List Expr} {env : PySem.Env} (h : noStar e = true) : assignEach (e :: es) env = (false, assign e env) :: assignEach es env := by
  cases e <;> first | rfl | cases h
theorem fold_of {e : Expr} {env : PySem.Env} (h : noSet e = true) : ∀ x, foldedSetIterable e env x = pure x := fun x => by
  cases e <;> first | rfl | cases h
theorem trE_set {n : Nat} {e : Expr} {m : Ex} (h : trE g n e = some m) : noSet e = true := by
  cases n with
  | zero => simp [trE] at h
  | succ n => cases e <;> first | rfl | (simp [trE] at h)
theorem trI_set {n : Nat} {tg e : Expr} {m : Ix} (h : trI g n tg e = some m) : noSet e = true := by
  cases e with
  | Set a b c =>
    cases n with
    | zero => simp [trI] at h
    | succ n =>
      simp only [trI, Option.map_eq_some_iff] at h
      obtain ⟨a', e1, _⟩ := h
      have := trE_set e1
      cases this
  | _ => rfl
theorem ix_of {b : Expr} (h : plainB b = true) : PlainIx b := fun _ _ => by
  cases b <;> first | rfl | cases h
theorem mark_of {o : CmpOp} {e : Expr} (h : noSet e = true) : behindInMarks o e = false := by
  cases e <;> first | rfl | cases h
theorem plain_of {es : List Expr} {env : PySem.Env} {pos : Pos} (h : ∀ e ∈ es, noStar e = true) : (backTo pos (starEach es env)).any (·.1) = false := by
  induction es with
  | nil => rfl
  | cons e es ih =>
    rw [star_of (h e List.mem_cons_self)]
    have := ih fun e he => h e (List.mem_cons_of_mem _ he)
    unfold backTo at this ⊢
    rw [List.map_cons, List.any_cons, this]
    rfl
theorem trE_star {n : Nat} {e : Expr} {m : Ex} (h : trE g n e = some m) : noStar e = true := by
  cases n with
  | zero => simp [trE] at h
  | succ n => cases e <;> first | rfl | (simp [trE] at h)
theorem trA_star : ∀ {n : Nat} {es : List Expr} {m : Exs}, trA g n es = some m → ∀ e ∈ es, noStar e = true
  | 0, es, m, h => by cases es <;> simp [trA] at h
  | n + 1, [], m, h => fun e he => nomatch he
  | n + 1, a :: es, m, h => fun e he => by
    simp only [trA] at h
    split at h
    · rename_i ma r e1 e2
      rcases List.mem_cons.mp he with rfl | he
      · exact trE_star e1
      · exact trA_star e2 e he
    · cases h
theorem ge_test {ta : TE} {ma : Ex} (ha : GE B Z W ta ma) : GT B Z W (tTest ta) (tstB ma) := by
  intro ρ σ G H Q q w
  refine ha.bind q w fun ev v ρ1 G1 H1 r1 s1 p1 w1 => ?_
  cases e : ev.peek ρ1 with
  | none => simp only [e] at w1; exact w1.elim
  | some d =>
    have h := p1.peek r1 e
    simp only [e] at w1
    cases h with
    | bl k => exact ⟨k, rfl, w1 k G1 H1 r1 s1 rfl⟩
    | _ => exact w1.elim
theorem trB_py {o : Operator} {b : BOp} (h : trB o = some b) : b.py = o := by
  cases o <;> first | (cases h; rfl) | cases h
theorem trO_py (o : CmpOp) : (trO o).py = o := by cases o <;> rfl
theorem Ctx.blk (C : Ctx X g B Z W) (hc : g.cm = true) {s : Shared} {H : Hp} {sc : Scope} {Ca : Addr} {cl : List (Str × Addr)} {fp : List Addr} : Ctx (X.blk s H sc (compEnvC sc cl Ca X.env) fp) (g.blk sc) B Z WNo where
  K := C.K
  N := C.N
  sc := by
    show relabel sc X.env = relab g.sc sc
    rw [← C.sc]
    rfl
  nd := C.nd
  fnx := fun x h => by
    show (sc.names.lookup x == some .cell) = true
    rw [show sc.names.lookup x = some .cell from h]
    rfl
  calm := C.calm
  zno := C.zno
  room := C.room
  roomH := C.roomH
  hot := fun h => absurd (hc.symm.trans h) Bool.noConfusion
  hx := .inl (C.zno hc)
  tk := fun u s' ⟨_, _, _, _, _, _, _, _, _, _, _, _, _, _, _, _, w⟩ => w.elim
  own := PassesOwn.never
  fns := C.fns
  cst := C.cst
  free := C.free
  flds := C.flds
  mks := C.mks
  mth := fun m mid tab h => ⟨(C.mth m mid tab h).1, fun c fe h' => ⟨((C.mth m mid tab h).2 c fe h').cl, ((C.mth m mid tab h).2 c fe h').sf, ((C.mth m mid tab h).2 c fe h').ex⟩⟩
  cms := C.cms
  clsN := C.clsN
  kt := C.kt
  clv := C.clv
  err := C.err
  exn := C.exn
  ask := C.ask
  kwc := C.kwc
/-- targets, whatever the block -/
theorem trG_ok' : ∀ n, (∀ {g : Gm} {B : Tb} {Z : XR} e t ts, trG g n e = some (t, ts) → ∃ gt, (∀ X Z' W, Ctx X g B Z' W → PG X e gt) ∧ GG B Z ts gt t) ∧
    (∀ {g : Gm} {B : Tb} {Z : XR} es t ts, trGs g n es = some (t, ts) → ∃ gt, (∀ X Z' W, Ctx X g B Z' W → PGs X es gt) ∧ GGs B Z ts gt t ∧ (∀ ds ρ ρ', t ds ρ = some ρ' → ds.length = es.length) ∧ ∀ e ∈ es, noStar e = true) := by
  intro n
  induction n with
  | zero =>
    refine ⟨fun e t ts h => by simp [trG] at h, fun es t ts h => by cases es <;> simp [trGs] at h⟩
  | succ n ih =>
    refine ⟨fun {g B Z} e t ts h => ?_, fun {g B Z} es t ts h => ?_⟩
    · cases e with
      | Name x p =>
        simp only [trG] at h
        split at h
        · rename_i hl
          simp only [Option.map_eq_some_iff] at h
          obtain ⟨i, hi, e⟩ := h
          cases e
          refine ⟨_, fun X Z' W C => ?_, gg_name⟩
          obtain ⟨l1, l2⟩ := C.loc hl
          exact pg_name C.nd (by rw [C.N]; exact slot_of hi) l1 l2
        · cases h
      | Tuple es k p =>
        simp only [trG] at h
        split at h
        case isFalse => cases h
        rename_i hcm
        simp only [Option.map_eq_some_iff] at h
        obtain ⟨⟨t', ts'⟩, h, e⟩ := h
        cases e
        obtain ⟨gt, h1, h2, h3, h4⟩ := ih.2 (B := B) (Z := Z) es t' ts' h
        have ha : ∀ env : PySem.Env, (assignEach es env).length = es.length := fun env => by
          clear h h1 h2 h3
          induction es with
          | nil => rfl
          | cons e es ih2 =>
            have := ih2 fun e he => h4 e (List.mem_cons_of_mem _ he)
            have q := h4 e List.mem_cons_self
            rw [asg_of q, List.length_cons, List.length_cons, this]
        have hb : ∀ env : PySem.Env, (assignEach es env).findIdx? (·.1) = none := fun env => by
          clear h h1 h2 h3 ha
          induction es with
          | nil => rfl
          | cons e es ih2 =>
            have := ih2 fun e he => h4 e (List.mem_cons_of_mem _ he)
            have q := h4 e List.mem_cons_self
            rw [asg_of q, List.findIdx?_cons, this]
            rfl
        refine ⟨gTup B.K es.length gt, fun X Z' W C => ?_, gg_tup h2 h3⟩
        have := pg_tup (k := k) (pos := p) (C.calm hcm) (h1 X Z' W C) (ha X.env) (hb X.env)
        rw [C.K] at this
        exact this
      | _ => simp [trG] at h
    · cases es with
      | nil =>
        simp only [trGs] at h
        cases h
        exact ⟨_, fun X Z' W C => pgs_nil, ggs_nil, fun ds ρ ρ' h => tgNil_len h, fun e he => nomatch he⟩
      | cons e es =>
        simp only [trGs] at h
        split at h
        · rename_i a r e1 e2
          cases h
          obtain ⟨g1, h1, h2⟩ := ih.1 (B := B) (Z := Z) e a.1 a.2 e1
          obtain ⟨g2, k1, k2, k3, k4⟩ := ih.2 (B := B) (Z := Z) es r.1 r.2 e2
          have st : noStar e = true := by
            cases n with
            | zero => simp [trG] at e1
            | succ n => cases e <;> first | rfl | (simp [trG] at e1)
          refine ⟨_, fun X Z' W C => pgs_cons (h1 X Z' W C) (k1 X Z' W C) ?_, ggs_cons h2 k2, fun ds ρ ρ' h => by rw [tgCons_len k3 h, List.length_cons], fun y hy => ?_⟩
          · rw [asg_of st]; rfl
          · rcases List.mem_cons.mp hy with rfl | hy
            · exact st
            · exact k4 y hy
        · cases h
/-- the translation is right, for so much fuel -/
structure TrOk (n : Nat) : Prop where
  e : ∀ {X : Cx} {g : Gm} {B : Tb} {Z : XR} {W : WX}, Ctx X g B Z W → ∀ e m, trE g n e = some m → ∃ t, PE X e t ∧ GE B Z W t m
  and_ : ∀ {X : Cx} {g : Gm} {B : Tb} {Z : XR} {W : WX}, Ctx X g B Z W → ∀ es m pos, trAnd g n es = some m → ∃ t, PE X (.BoolOp .And es pos) t ∧ GE B Z W t m
  or_ : ∀ {X : Cx} {g : Gm} {B : Tb} {Z : XR} {W : WX}, Ctx X g B Z W → ∀ es m pos, trOr g n es = some m → ∃ t, PE X (.BoolOp .Or es pos) t ∧ GE B Z W t m
  a : ∀ {X : Cx} {g : Gm} {B : Tb} {Z : XR} {W : WX}, Ctx X g B Z W → ∀ es m, trA g n es = some m → ∃ t, PA X es t ∧ GA B Z W t m
  kw : ∀ {X : Cx} {g : Gm} {B : Tb} {Z : XR} {W : WX}, Ctx X g B Z W → ∀ (kws : List Keyword) m, trA g n (kws.map kwVal) = some m → ∃ tk, PK X kws tk ∧ GA B Z W tk m
  aa : ∀ {X : Cx} {g : Gm} {B : Tb} {Z : XR} {W : WX}, Ctx X g B Z W → ∀ es (kws : List Keyword) m, trA g n (es ++ kws.map kwVal) = some m → ∃ t tk, PA X es t ∧ PK X kws tk ∧ ∀ p : Nat → Prop, p es.length → GA B Z W (tApp p t tk) m
  j : ∀ {X : Cx} {g : Gm} {B : Tb} {Z : XR} {W : WX}, Ctx X g B Z W → ∀ es ms, trJ g n es = some ms → ∃ ts, PJ X es ts ∧ GJ B Z W ts ms
  p : ∀ {X : Cx} {g : Gm} {B : Tb} {Z : XR} {W : WX}, Ctx X g B Z W → ∀ e m, trP g n e = some m → ∃ t, PO X e t ∧ GP B Z W t m
  t : ∀ {X : Cx} {g : Gm} {B : Tb} {Z : XR} {W : WX}, Ctx X g B Z W → ∀ e m, trT g n e = some m → ∃ t, PT X e t ∧ GT B Z W t m
  ifs : ∀ {X : Cx} {g : Gm} {B : Tb} {Z : XR} {W : WX}, Ctx X g B Z W → ∀ es m, trIfs g n es = some m → ∃ t, PTs X es t ∧ GT B Z W t m
  i : ∀ {X : Cx} {g : Gm} {B : Tb} {Z : XR} {W : WX}, Ctx X g B Z W → ∀ tg e m, trI g n tg e = some m → ∃ t, PI X tg e t ∧ GI B Z W t m
  tand : ∀ {X : Cx} {g : Gm} {B : Tb} {Z : XR} {W : WX}, Ctx X g B Z W → ∀ es m pos, trTAnd g n es = some m → ∃ t, PW X (.BoolOp .And es pos) t ∧ GT B Z W t m
  tor : ∀ {X : Cx} {g : Gm} {B : Tb} {Z : XR} {W : WX}, Ctx X g B Z W → ∀ es m pos, trTOr g n es = some m → ∃ t, PW X (.BoolOp .Or es pos) t ∧ GT B Z W t m
theorem tr_zero : TrOk 0 where
  ifs := fun _ es m h => by cases es <;> simp [trIfs] at h
  i := fun _ tg e m h => by simp [trI] at h
  e := fun _ e m h => by simp [trE] at h
  and_ := fun _ es m _ h => by cases es <;> simp [trAnd] at h
  or_ := fun _ es m _ h => by cases es <;> simp [trOr] at h
  a := fun _ es m h => by cases es <;> simp [trA] at h
  j := fun _ es m h => by cases es <;> simp [trJ] at h
  kw := fun _ kws m h => by cases kws <;> simp [trA] at h
  aa := fun _ es kws m h => by cases es <;> cases kws <;> simp [trA] at h
  p := fun _ e m h => by cases e <;> simp [trP] at h
  t := fun _ e m h => by simp [trT] at h
  tand := fun _ es m _ h => by cases es <;> simp [trTAnd] at h
  tor := fun _ es m _ h => by cases es <;> simp [trTOr] at h
/-- a call of a def -/
theorem tr_call0 (C : Ctx X g B Z W) (hc : g.cm = true) {x : Str} {fe : FnE} {p pos : Pos} (hx : okName x = true) (hg : g.glo x = true) (hf : g.fns x = some fe) (hl : fe.lv ≤ g.lv) :
    ∃ t, PE X (.Call (.Name x p) [] [] pos) t ∧ GE B Z W t (call fe.F fe.ms fe.dv nilA) := by
  obtain ⟨f, hm, hk, ⟨⟨dvs, hd, F⟩, len⟩, _⟩ := C.fns x fe hf
  obtain ⟨o1, _, _⟩ := okName_of hx
  exact ⟨_, pe_callF0 F ((C.room hc).mono hl) C.tk (C.glo hg) hm hk o1, ge_call hd len ga_nil⟩
theorem tr_call (C : Ctx X g B Z W) (hc : g.cm = true) {x : Str} {fe : FnE} {e : Expr} {es : List Expr} {t : TA} {as : Exs} {p pos : Pos} (hx : okName x = true) (hg : g.glo x = true) (hf : g.fns x = some fe) (hl : fe.lv ≤ g.lv) (ht : PA X (e :: es) t) (ha : GA B Z W t as) (hs : ∀ y ∈ e :: es, noStar y = true) :
    ∃ t, PE X (.Call (.Name x p) (e :: es) [] pos) t ∧ GE B Z W t (call fe.F fe.ms fe.dv as) := by
  obtain ⟨f, hm, hk, ⟨⟨dvs, hd, F⟩, len⟩, _⟩ := C.fns x fe hf
  obtain ⟨o1, _, _⟩ := okName_of hx
  exact ⟨_, pe_callF F ((C.room hc).mono hl) C.tk (C.glo hg) hm hk ht o1 (star_of (hs e List.mem_cons_self)) (plain_of fun e he => hs e (List.mem_cons_of_mem _ he)), ge_call hd len ha⟩
theorem tr_make0 (C : Ctx X g B Z W) (hc : g.cm = true) {x : Str} {c : Nat} {fe : MtE} {p pos : Pos} (hx : okName x = true) (hg : g.glo x = true) (hf : g.mks x = some (c, fe)) (hl : fe.lv + 1 ≤ g.lv) :
    ∃ t, PE X (.Call (.Name x p) [] [] pos) t ∧ GE B Z W t (make c fe.F fe.ms fe.dv nilA) := by
  obtain ⟨f, hm, M, ⟨dvs, hd, F⟩, len⟩ := C.mks x c fe hf
  obtain ⟨o1, _, _⟩ := okName_of hx
  exact ⟨_, pe_makeF0 M F ((C.room hc).mono hl) C.tk (C.glo hg) hm o1, ge_make hd len ga_nil⟩
theorem tr_make (C : Ctx X g B Z W) (hc : g.cm = true) {x : Str} {c : Nat} {fe : MtE} {e : Expr} {es : List Expr} {t : TA} {as : Exs} {p pos : Pos} (hx : okName x = true) (hg : g.glo x = true) (hf : g.mks x = some (c, fe)) (hl : fe.lv + 1 ≤ g.lv) (ht : PA X (e :: es) t) (ha : GA B Z W t as) (hs : ∀ y ∈ e :: es, noStar y = true) :
    ∃ t, PE X (.Call (.Name x p) (e :: es) [] pos) t ∧ GE B Z W t (make c fe.F fe.ms fe.dv as) := by
  obtain ⟨f, hm, M, ⟨dvs, hd, F⟩, len⟩ := C.mks x c fe hf
  obtain ⟨o1, _, _⟩ := okName_of hx
  exact ⟨_, pe_makeF M F ((C.room hc).mono hl) C.tk (C.glo hg) hm ht o1 (star_of (hs e List.mem_cons_self)) (plain_of fun e he => hs e (List.mem_cons_of_mem _ he)), ge_make hd len ha⟩
theorem base_of {o : Expr} {m : Str} {env : PySem.Env} {whole : Sem Value} (h : plainO o = true) : attributeBase o m env whole = whole := by
  cases o <;> first | rfl | cases h
theorem trA_nil {n : Nat} {as : Exs} (h : trA g n [] = some as) : as = nilA := by
  cases n with
  | zero => simp [trA] at h
  | succ n => simp only [trA] at h; cases h; rfl
theorem Ctx.tabOk (C : Ctx X g B Z W) (hc : g.cm = true) {m : Str} {mid : Nat} {tab : List (Nat × MtE)} (hm : g.mth m = some (mid, tab)) (hv : lvAll g.lv tab = true) : ∀ c fe, tab.lookup c = some fe → MtOk X B m c fe ∧ Room fe.lv X.A := fun c fe h => by
  obtain ⟨h1, h2⟩ := C.mth m mid tab hm
  refine ⟨h2 c fe h, (C.room hc).mono ?_⟩
  unfold lvAll at hv
  rw [List.all_eq_true] at hv
  have : (c, fe) ∈ tab := by
    clear hv h2 hm
    induction tab with
    | nil => simp at h
    | cons a r ih =>
      obtain ⟨k, u⟩ := a
      rw [List.lookup_cons] at h
      by_cases q : c = k
      · subst q
        rw [beq_self_eq_true] at h
        cases h
        exact List.mem_cons_self
      · rw [beq_eq_false_iff_ne.mpr q] at h
        exact List.mem_cons_of_mem _ (ih h)
  exact of_decide_eq_true (hv _ this)
theorem tr_meth (C : Ctx X g B Z W) (hc : g.cm = true) {o : Expr} {m : Str} {mid : Nat} {tab : List (Nat × MtE)} {es : List Expr} {ta : TE} {ma : Ex} {t : TA} {as : Exs} {ap pos : Pos} (hm : g.mth m = some (mid, tab)) (hv : lvAll g.lv tab = true) (ho : plainO o = true) (hl : (ap.endLine == pos.line) = true) (hn : es.length < 30)
    (po : PE X o ta) (go : GE B Z W ta ma) (ht : PA X es t) (ha : GA B Z W t as) (hs : ∀ y ∈ es, noStar y = true) (h0 : es = [] → t = tNil) :
    ∃ t, PE X (.Call (.Attribute o m ap) es [] pos) t ∧ GE B Z W t (meth mid tab ma as) := by
  obtain ⟨h1, h2⟩ := C.mth m mid tab hm
  have hr := C.tabOk hc hm hv
  cases es with
  | nil =>
    have := h0 rfl
    subst this
    exact ⟨_, pe_methD0 po C.tk (base_of ho) hl, ge_meth h1 hr go ha⟩
  | cons e es =>
    exact ⟨_, pe_methD po C.tk ht (star_of (hs e List.mem_cons_self)) (plain_of fun e he => hs e (List.mem_cons_of_mem _ he)) (base_of ho) (few_of (fun e he es => star_of (hs e he)) hn) hl, ge_meth h1 hr go ha⟩
theorem tr_cmeth (C : Ctx X g B Z W) (hc : g.cm = true) {x m : Str} {c : Nat} {fe : MtE} {e : Expr} {es : List Expr} {t : TA} {as : Exs} {p ap pos : Pos} (hx : okName x = true) (hg : g.glo x = true) (hf : g.cms x m = some (c, fe)) (hv : fe.lv ≤ g.lv) (hl : (ap.endLine == pos.line) = true) (hn : (e :: es).length < 30) (ht : PA X (e :: es) t) (ha : GA B Z W t as) (hs : ∀ y ∈ e :: es, noStar y = true) :
    ∃ t, PE X (.Call (.Attribute (.Name x p) m ap) (e :: es) [] pos) t ∧ GE B Z W t (cmeth c fe.F fe.ms fe.dv as) := by
  obtain ⟨mc, pp, f, hm, r, cm, ⟨dvs, hd, F⟩, len⟩ := C.cms x m c fe hf
  obtain ⟨o1, o2, o3⟩ := okName_of hx
  have pn : PE X (.Name x p) (tC (.ref (B.cls c))) := pe_glob (C.glo hg) hm (show RelV (V.ref (B.cls c)) _ from rfl) o1
  exact ⟨_, pe_cmethF r cm F ((C.room hc).mono hv) C.tk pn ht (star_of (hs e List.mem_cons_self)) (plain_of fun e he => hs e (List.mem_cons_of_mem _ he)) (few_of (fun e he es => star_of (hs e he)) hn) hl, ge_cmeth hd len ha⟩
theorem calm_of {x : Str} (hc : (g.cm || !calmBi x) = true) (h : calmBi x = true) : g.cm = true := by
  rw [h] at hc
  simpa using hc
/-- .. of a built-in -/
theorem tr_bi (C : Ctx X g B Z W) {x : Str} {f : Bi} (hc : (g.cm || !calmBi x) = true) {e : Expr} {es : List Expr} {t : TA} {as : Exs} {p pos : Pos} (hx : okName x = true) (hg : g.glo x = true) (hf : g.free x = true) (hb : trBi x = some f) (ht : PA X (e :: es) t) (ha : GA B Z W t as) (hs : ∀ y ∈ e :: es, noStar y = true) :
    ∃ t, PE X (.Call (.Name x p) (e :: es) [] pos) t ∧ GE B Z W t (bcall f as) := by
  obtain ⟨o1, _, o3⟩ := okName_of hx
  have hm := C.free x hf
  have h1 := star_of (env := X.env) (es := es) (hs e List.mem_cons_self)
  have h2 := plain_of (env := X.env) (pos := pos) fun e he => hs e (List.mem_cons_of_mem _ he)
  unfold trBi at hb
  have cl : ∀ {id : String} {r : List V → Hp → VK → Prop}, CallR X (.builtin id) r → Bok B r f → bootBuiltins x = some (.builtin id) → ∃ t, PE X (.Call (.Name x p) (e :: es) [] pos) t ∧ GE B Z W t (bcall f as) :=
    fun hc hk hv => ⟨_, pe_callB hc (C.glo hg) hm hv ht o3 o1 h1 h2, ge_bcall hk ha⟩
  split at hb
  · rename_i q; subst q; cases hb; exact cl (C.K ▸ cr_len) bok_len (by decide +kernel)
  · split at hb
    · rename_i q; subst q; cases hb; exact cl (id := "abs") (r := rAbs) call_abs bok_abs (by decide +kernel)
    · split at hb
      · rename_i q; subst q; cases hb; exact cl (C.K ▸ cr_all (C.calm (calm_of hc (by decide +kernel)))) bok_all (by decide +kernel)
      · split at hb
        · rename_i q; subst q; cases hb; exact cl (C.K ▸ cr_any (C.calm (calm_of hc (by decide +kernel)))) bok_any (by decide +kernel)
        · split at hb
          · rename_i q; subst q; cases hb; exact cl (C.K ▸ cr_sum (C.calm (calm_of hc (by decide +kernel)))) bok_sum (by decide +kernel)
          · split at hb
            · rename_i q; subst q; cases hb; exact cl (r := rMin2) (call_min2 (C.calm (calm_of hc (by decide +kernel)))) bok_min (by decide +kernel)
            · split at hb
              · rename_i q; subst q; cases hb; exact cl (r := rMax2) (call_max2 (C.calm (calm_of hc (by decide +kernel)))) bok_max (by decide +kernel)
              · cases hb
theorem tr_ty (C : Ctx X g B Z W) {x : Str} {f : Bi} {e : Expr} {es : List Expr} {t : TA} {as : Exs} {p pos : Pos} (hx : okName x = true) (hg : g.glo x = true) (hf : g.free x = true) (hb : trTy x = some f) (ht : PA X (e :: es) t) (ha : GA B Z W t as) (hs : ∀ y ∈ e :: es, noStar y = true) :
    ∃ t, PE X (.Call (.Name x p) (e :: es) [] pos) t ∧ GE B Z W t (bcall f as) := by
  obtain ⟨o1, _, o3⟩ := okName_of hx
  have hm := C.free x hf
  have h1 := star_of (env := X.env) (es := es) (hs e List.mem_cons_self)
  have h2 := plain_of (env := X.env) (pos := pos) fun e he => hs e (List.mem_cons_of_mem _ he)
  unfold trTy at hb
  have cl : ∀ {id : String} {r : List V → Hp → VK → Prop}, CallR X (.type id) r → Bok B r f → bootBuiltins x = some (.type id) → ∃ t, PE X (.Call (.Name x p) (e :: es) [] pos) t ∧ GE B Z W t (bcall f as) :=
    fun hc hk hv => ⟨_, pe_callTy hc (C.glo hg) hm hv ht o3 o1 h1 h2, ge_bcall hk ha⟩
  split at hb
  · rename_i q; subst q; cases hb; exact cl (r := fun xs H Q => rInt1 xs H Q ∨ rIntS xs H Q) (CallR.or call_int1 call_int_str) bok_intS (by decide +kernel)
  split at hb
  · rename_i q; subst q; cases hb; exact cl (r := rStrI) call_str_int bok_str (by decide +kernel)
  · split at hb
    · rename_i q; subst q; cases hb; exact cl (r := rListOf B.K) (C.K ▸ call_list_of) bok_list (by decide +kernel)
    · split at hb
      · rename_i q; subst q; cases hb; exact cl (r := rTupleOf B.K) (C.K ▸ call_tuple_of) bok_tuple (by decide +kernel)
      · cases hb
theorem tr_bm {n : Nat} (T : TrOk n) {X : Cx} {g : Gm} {B : Tb} {Z : XR} {W : WX} (C : Ctx X g B Z W) {x m : Str} {e : Expr} {q ap p : Pos} {r : Ex} (hx : okName x = true) (hv : g.vis x = true) (hl : (ap.endLine == p.line) = true)
    (h : (match slotOf g.N x, trE g n e with
      | some i, some a => if m = "append" then some (append i a) else if m = "pop" then some (popAt i a) else none
      | _, _ => none) = some r) : ∃ t, PE X (.Call (.Attribute (.Name x q) m ap) [e] [] p) t ∧ GE B Z W t r := by
  obtain ⟨o1, o2, o3⟩ := okName_of hx
  split at h
  · rename_i i a hi e1
    obtain ⟨ta, p1, g1⟩ := T.e (Z := Z) C e a e1
    have hs := trE_star e1
    have pa : PA X [e] (tCons ta tNil) := pa_cons p1 pa_nil (star_of hs)
    have pv : PE X (.Name x q) (tVar i) := pe_var (by rw [C.N]; exact slot_of hi) (C.vis hv) o1 o2
    have few : ((backTo p (starEach [e] X.env)).all (fun x => !x.1) && (backToKw p (keywordEach [] X.env)).all (fun x => x.1.isSome)
      && decide ([e].length + ([] : List Keyword).length + (if ([] : List Keyword).isEmpty then 0 else 1) < 30)) = true := by
      rw [star_of hs]; rfl
    split at h
    · rename_i hm
      subst hm
      cases h
      have := pe_bm (cpos := p) (apos := ap) PySem.F.plainAttrs_list PySem.F.slot_list_append PySem.F.type_list_append mt_append pv pa rfl few hl (star_of hs) rfl
      rw [C.K] at this
      exact ⟨_, this, ge_append g1⟩
    · split at h
      · rename_i hm
        subst hm
        cases h
        have := pe_bm (cpos := p) (apos := ap) PySem.F.plainAttrs_list PySem.F.slot_list_pop PySem.F.type_list_pop mt_popAt pv pa rfl few hl (star_of hs) rfl
        rw [C.K] at this
        exact ⟨_, this, ge_popAt g1⟩
      · cases h
  · cases h
theorem tr_lc {n : Nat} (T : TrOk n) {X : Cx} {g : Gm} {B : Tb} {Z : XR} {W : WX} (C : Ctx X g B Z W) {elt tg it : Expr} {ifs : List Expr} {asy : Int} {sc : Scope} {p : Pos} {m : Ex} (h : trE g (n + 1) (.ListComp elt [⟨tg, it, ifs, asy⟩] sc p) = some m) :
    ∃ wi gt tt te, asy = 0 ∧ g.cm = true ∧ PI X tg it wi ∧ (∀ (s : Shared) (H : Hp) (Ca : Addr) (cl : List (Str × Addr)) (fp : List Addr), PG (X.blk s H sc (compEnvC sc cl Ca X.env) fp) tg gt) ∧ (∀ (s : Shared) (H : Hp) (Ca : Addr) (cl : List (Str × Addr)) (fp : List Addr), PTs (X.blk s H sc (compEnvC sc cl Ca X.env) fp) ifs tt) ∧
      (∀ (s : Shared) (H : Hp) (Ca : Addr) (cl : List (Str × Addr)) (fp : List Addr), PE (X.blk s H sc (compEnvC sc cl Ca X.env) fp) elt te) ∧ BlkOk X.N X.env.scope sc (ownOf g.N sc) ∧ (∀ x, foldedSetIterable it X.env x = pure x) ∧ GE B Z W (tLc wi gt tt te ((ownOf g.N sc).map (·.2))) m := by
  cases asy with
  | negSucc k => simp [trE] at h
  | ofNat k =>
  cases k with
  | succ k =>
    exfalso
    revert h
    rw [show trE g (n + 1) (.ListComp elt [⟨tg, it, ifs, Int.ofNat (k + 1)⟩] sc p) = none from by unfold trE; rfl]
    exact fun h => nomatch h
  | zero =>
  change trE g (n + 1) (.ListComp elt [⟨tg, it, ifs, 0⟩] sc p) = some m at h
  simp only [trE] at h
  split at h
  case isTrue => cases h
  rename_i hcm
  have hc : g.cm = true := by simpa using hcm
  split at h
  · rename_i t ts i c e' e1 e2 e3 e4
    split at h
    · rename_i hb
      rw [Bool.and_eq_true] at hb
      cases h
      obtain ⟨wi, p2, g2⟩ := T.i (Z := Z) C tg it i e2
      have Cb : ∀ (s : Shared) (H : Hp) (Ca : Addr) (cl : List (Str × Addr)) (fp : List Addr), Ctx (X.blk s H sc (compEnvC sc cl Ca X.env) fp) (g.blk sc) B Z WNo := fun s H Ca cl fp => C.blk hc
      obtain ⟨gt, pg, gg⟩ := (trG_ok' n).1 (B := B) (Z := Z) tg t ts e1
      obtain ⟨tt, ptt, gtt⟩ : ∃ t, (∀ X', Ctx X' (g.blk sc) B Z WNo → PTs X' ifs t) ∧ GT B Z WNo t c := by
        refine ⟨fun σ H Q => ∀ X' (h : Ctx X' (g.blk sc) B Z WNo), (T.ifs (Z := Z) h ifs c e3).choose σ H Q, fun X' h => ⟨fun pins s σ H Q I q => (T.ifs (Z := Z) h ifs c e3).choose_spec.1.run pins s σ H Q I (q X' h)⟩, fun ρ σ G H Q r w X' h => (T.ifs (Z := Z) h ifs c e3).choose_spec.2 ρ σ G H Q r w⟩
      obtain ⟨te, pte, gte⟩ : ∃ t, (∀ X', Ctx X' (g.blk sc) B Z WNo → PE X' elt t) ∧ GE B Z WNo t e' := by
        refine ⟨fun σ H Q => ∀ X' (h : Ctx X' (g.blk sc) B Z WNo), (T.e (Z := Z) h elt e' e4).choose σ H Q, fun X' h => ⟨fun pins s σ H Q I q => (T.e (Z := Z) h elt e' e4).choose_spec.1.run pins s σ H Q I (q X' h)⟩, fun ρ σ G H Q r w X' h => (T.e (Z := Z) h elt e' e4).choose_spec.2 ρ σ G H Q r w⟩
      have ok : BlkOk X.N X.env.scope sc (ownOf g.N sc) := by
        rw [C.N, C.sc]
        exact blkOk_by hb.1
      refine ⟨_, _, _, _, rfl, hc, p2, (fun s H Ca cl fp => pg _ _ _ (Cb s H Ca cl fp)), (fun s H Ca cl fp => ptt _ (Cb s H Ca cl fp)), (fun s H Ca cl fp => pte _ (Cb s H Ca cl fp)), ok, (fold_of (trI_set e2)), ge_lc g2 gg gtt gte fun j hj => ?_⟩
      have := List.all_eq_true.mp hb.2 j hj
      exact List.contains_iff_mem.mp this
    · cases h
  · cases h

/-- a call where an error is handled -/
theorem tr_callH (C : Ctx X g B Z W) (hc : g.cm = false) {x : Str} {fe : FnE} {e : Expr} {es : List Expr} {t : TA} {as : Exs} {p pos : Pos} (hx : okName x = true) (hg : g.glo x = true) (hf : g.fns x = some fe) (hl : fe.lv ≤ g.lv) (hh : fe.hot = true) (ht : PA X (e :: es) t) (ha : GA B Z W t as) (hs : ∀ y ∈ e :: es, noStar y = true) :
    ∃ t, PE X (.Call (.Name x p) (e :: es) [] pos) t ∧ GE B Z W t (call fe.F fe.ms [] as) := by
  obtain ⟨f, hm, hk, _, hot⟩ := C.fns x fe hf
  obtain ⟨⟨fd, ps, F, hb⟩, len⟩ := hot hh
  obtain ⟨o1, _, _⟩ := okName_of hx
  exact ⟨_, L2H.pe_callH F (C.roomH.mono hl) (C.hot hc) (C.glo hg) hm hk hb (fun σ => L2N.passAt C.tk σ) ht o1 (star_of (hs e List.mem_cons_self)) (plain_of fun e he => hs e (List.mem_cons_of_mem _ he)), ge_call_nil len ha⟩
/-- names that stand for classes -/
theorem tr_cls (C : Ctx X g B Z W) {x : Str} {c : Nat} {p : Pos} (hx : okName x = true) (hg : g.glo x = true) (h : g.clsN x = some c) : ∃ t, PE X (.Name x p) t ∧ GE B Z W t (cst (.cls c)) := by
  obtain ⟨o1, _, _⟩ := okName_of hx
  exact ⟨_, pe_glob (C.glo hg) (C.clsN x c h) (show RelV (V.ref (B.cls c)) _ from rfl) o1, ge_cst fun _ => .cls c⟩
theorem tr_tyN (C : Ctx X g B Z W) {x : Str} {t : String} {p : Pos} (hx : okName x = true) (hg : g.glo x = true) (hf : g.free x = true) (h : tyN x = some t) : ∃ r, PE X (.Name x p) r ∧ GE B Z W r (cst (.ty t)) := by
  obtain ⟨o1, _, o3⟩ := okName_of hx
  have hm := C.free x hf
  unfold tyN at h
  have go : ∀ {t : String}, bootBuiltins x = some (.type t) → ∃ r, PE X (.Name x p) r ∧ GE B Z W r (cst (.ty t)) := fun {t} hv =>
    ⟨_, pe_bltn (v := .ty t) (C.glo hg) hm hv rfl o3 o1, ge_cst fun _ => .ty t⟩
  split at h
  · rename_i q; subst q; cases h; exact go (by decide +kernel)
  split at h
  · rename_i q; subst q; cases h; exact go (by decide +kernel)
  split at h
  · rename_i q; subst q; cases h; exact go (by decide +kernel)
  split at h
  · rename_i q; subst q; cases h; exact go (by decide +kernel)
  split at h
  · rename_i q; subst q; cases h; exact go (by decide +kernel)
  split at h
  · rename_i q; subst q; cases h; exact go (by decide +kernel)
  · cases h
/-- isinstance -/
theorem tr_isi (C : Ctx X g B Z W) {x : Str} {e : Expr} {es : List Expr} {t : TA} {as : Exs} {p pos : Pos} (hx : okName x = true) (hg : g.glo x = true) (hf : g.free x = true) (hi : x = "isinstance") (ht : PA X (e :: es) t) (ha : GA B Z W t as) (hs : ∀ y ∈ e :: es, noStar y = true) :
    ∃ t, PE X (.Call (.Name x p) (e :: es) [] pos) t ∧ GE B Z W t (isiE g.kt as) := by
  obtain ⟨o1, _, o3⟩ := okName_of hx
  have hm := C.free x hf
  subst hi
  exact ⟨_, pe_callB (call_isH (B := B) (Z := Z)) (C.glo hg) hm (by decide +kernel) ht o3 o1 (star_of (hs e List.mem_cons_self)) (plain_of fun e he => hs e (List.mem_cons_of_mem _ he)), ge_isi C.K C.kt C.hx ha⟩
/-- methods of texts -/
theorem tr_mt (C : Ctx X g B Z W) {o : Expr} {m : Str} {f : List Nat → Bi} {es : List Expr} {ta : TE} {ma : Ex} {t : TA} {as : Exs} {ap pos : Pos} (hm : trMt m = some f) (ho : plainO o = true) (hl : (ap.endLine == pos.line) = true) (hn : es.length < 30) (po : PE X o ta) (go : GE B Z W ta ma) (ht : PA X es t) (ha : GA B Z W t as) (hs : ∀ y ∈ es, noStar y = true) (h0 : es = [] → as = nilA) :
    ∃ t, PE X (.Call (.Attribute o m ap) es [] pos) t ∧ GE B Z W t (smeth f ma as) := by
  have go2 : ∀ {id : String} {r : V → List V → Hp → VK → Prop}, Slot "str" m id → typeOf (.builtin id) = pure (.type "method_descriptor") → MtR X id r → Mok B r f → ∃ t, PE X (.Call (.Attribute o m ap) es [] pos) t ∧ GE B Z W t (smeth f ma as) := fun sl ty mr mk => by
    cases es with
    | nil =>
      have := h0 rfl
      subst this
      have := pe_bm0 (cpos := pos) (apos := ap) PySem.F.plainAttrs_str sl ty mr po (base_of ho) hl
      rw [C.K] at this
      exact ⟨_, this, ge_smeth0 mk go⟩
    | cons e es =>
      have := pe_bm (cpos := pos) (apos := ap) PySem.F.plainAttrs_str sl ty mr po ht (base_of ho) (few_of (fun e he es => star_of (hs e he)) hn) hl (star_of (hs e List.mem_cons_self)) (plain_of fun e he => hs e (List.mem_cons_of_mem _ he))
      rw [C.K] at this
      exact ⟨_, this, ge_smeth mk go ha⟩
  unfold trMt at hm
  split at hm
  · rename_i q; subst q; cases hm; exact go2 PySem.F.slot_str_isdigit PySem.F.type_str_isdigit mt_isdigit mok_isdigit
  split at hm
  · rename_i q; subst q; cases hm; exact go2 PySem.F.slot_str_isascii PySem.F.type_str_isascii mt_isascii mok_isascii
  split at hm
  · rename_i q; subst q; cases hm; exact go2 PySem.F.slot_str_startswith PySem.F.type_str_startswith mt_startswith mok_starts
  split at hm
  · rename_i q; subst q; cases hm; exact go2 PySem.F.slot_str_split PySem.F.type_str_split mt_split mok_split
  split at hm
  · rename_i q; subst q; cases hm; exact go2 PySem.F.slot_str_join PySem.F.type_str_join (C.K ▸ mt_join) mok_join
  · cases hm
/-- C.NAME -/
theorem tr_clv (C : Ctx X g B Z W) {o : Expr} {f : Str} {d : Vm.D} {p : Pos} (h : g.clvOf o f = some d) : ∃ t, PE X (.Attribute o f p) t ∧ GE B Z W t (cst d) := by
  unfold Gm.clvOf at h
  split at h
  · rename_i x q
    split at h
    · rename_i hx
      rw [Bool.and_eq_true] at hx
      obtain ⟨o1, _, _⟩ := okName_of hx.1
      obtain ⟨c, mc, v, u, h1, h2, h3, h4⟩ := C.clv x f d h
      have pn : PE X (.Name x q) (tC (.ref (B.cls c))) := pe_glob (C.glo hx.2) h1 (show RelV (V.ref (B.cls c)) _ from rfl) o1
      exact ⟨_, ClX.pe_cval pn, fun ρ σ G H Q r w => ⟨_, mc, v, u, rfl, h2, h3, w_val w r (h4 G)⟩⟩
    · cases h
  · cases h
/-- f(.., k = ..) -/
theorem tr_kw (C : Ctx X g B Z W) (hc : g.cm = true) {x : Str} {ks : List (Option Str)} {fe : FnE} {e : Expr} {es : List Expr} {kws : List Keyword} {t tk : TA} {as : Exs} {p pos : Pos} {n : Nat} (hx : okName x = true) (hg : g.glo x = true) (hf : g.kwc x n ks = some fe) (hks : kws.map kwNm = ks) (hso : (kws.all fun k => k.arg.isSome) = true) (hl : fe.lv ≤ g.lv)
    (ht : PA X (e :: es) t) (hk : PK X kws tk) (ha : GA B Z W (tApp (· = n) t tk) as) (hs : ∀ y ∈ e :: es, noStar y = true) : ∃ t, PE X (.Call (.Name x p) (e :: es) kws pos) t ∧ GE B Z W t (call fe.F fe.ms [] as) := by
  obtain ⟨f, hm, hkp, F, len⟩ := C.kwc x n ks fe hf
  obtain ⟨o1, _, _⟩ := okName_of hx
  subst hks
  have h1 : ∀ kws : List Keyword, (kws.all fun k => k.arg.isSome) = true → (backToKw pos (keywordEach kws X.env)).all (·.1.isSome) = true := fun kws => by
    induction kws with
    | nil => intro _; rfl
    | cons k ks ih =>
      obtain ⟨a, v, q⟩ := k
      intro h
      rw [List.all_cons, Bool.and_eq_true] at h
      have := ih h.2
      cases a with
      | none => cases h.1
      | some a =>
        show ((true && (backToKw pos (keywordEach ks X.env)).all (·.1.isSome)) = true)
        rw [this]
        rfl
  have h2 : ∀ kws : List Keyword, (backToKw pos (keywordEach kws X.env)).filterMap (·.1) = (kws.map kwNm).filterMap id := fun kws => by
    induction kws with
    | nil => rfl
    | cons k ks ih =>
      obtain ⟨a, v, q⟩ := k
      cases a with
      | none => exact ih
      | some a =>
        show a :: (backToKw pos (keywordEach ks X.env)).filterMap (·.1) = a :: (ks.map kwNm).filterMap id
        rw [ih]
  have h3 : ((backTo pos (starEach (e :: es) X.env)).any (·.1) || (backToKw pos (keywordEach kws X.env)).any (·.1.isNone)) = false := by
    rw [plain_of fun y hy => hs y hy, Bool.false_or]
    have := h1 kws hso
    rw [List.any_eq_false]
    intro y hy z
    have q := List.all_eq_true.mp this y hy
    rw [Option.isNone_iff_eq_none] at z
    rw [z] at q
    cases q
  have pe := pe_callKW F ((C.room hc).mono hl) C.tk (C.glo hg) hm hkp ht hk (h1 kws hso) (h2 kws) o1 (star_of (hs e List.mem_cons_self)) h3 (p := p)
  have ge := ge_call (B := B) (Z := Z) (W := W) (F := fe.F) (np := fe.np) (dv := []) (dvs := []) (ms := fe.ms) (fun _ => .nil) len ha
  simp only [List.append_nil] at ge
  exact ⟨_, pe, ge⟩

theorem tr_succ {n : Nat} (T : TrOk n) : TrOk (n + 1) where
  e := fun {X g B Z W} C e m h => by
    cases e with
    | Name x p =>
      simp only [trE] at h
      split at h
      · rename_i hx
        obtain ⟨o1, o2, o3⟩ := okName_of hx
        split at h
        · rename_i hv
          simp only [Option.map_eq_some_iff] at h
          obtain ⟨i, hi, rfl⟩ := h
          exact ⟨_, pe_var (by rw [C.N]; exact slot_of hi) (C.vis hv) o1 o2, ge_var⟩
        · split at h
          · rename_i hg
            split at h
            · rename_i d hd
              cases h
              obtain ⟨v, u, h1, h2, h3⟩ := C.cst x d hd
              exact ⟨_, pe_glob (C.glo hg) h1 h2 o1, ge_cst h3⟩
            split at h
            · rename_i c hd
              cases h
              exact tr_cls C hx hg hd
            split at h
            · rename_i hf
              simp only [Option.map_eq_some_iff] at h
              obtain ⟨t, ht, rfl⟩ := h
              exact tr_tyN C hx hg hf ht
            · cases h
          · cases h
      · cases h
    | Constant c k p =>
      cases c with
      | int i => simp only [trE] at h; cases h; exact ⟨_, pe_int, ge_int⟩
      | bool i => simp only [trE] at h; cases h; exact ⟨_, pe_bl, ge_bl⟩
      | none => simp only [trE] at h; cases h; exact ⟨_, pe_non, ge_non⟩
      | str z => simp only [trE] at h; cases h; exact ⟨_, pe_str, ge_str⟩
      | _ => simp [trE] at h
    | BinOp a o b p =>
      simp only [trE] at h
      split at h
      · rename_i a' b' e2 e3
        obtain ⟨ta, p1, g1⟩ := T.e (Z := Z) C a a' e2
        obtain ⟨tb, p2, g2⟩ := T.e (Z := Z) C b b' e3
        split at h
        · rename_i mid tab hm
          split at h
          · rename_i hv
            rw [Bool.and_eq_true] at hv
            cases h
            exact tr_binO C.K (fun o' e => trB_py e) C.tk (C.tabOk hv.1 hm hv.2) p1 g1 p2 g2
          · cases h
        · simp only [Option.map_eq_some_iff] at h
          obtain ⟨o', e1, rfl⟩ := h
          have := pe_op (pos := p) (or_bop (X := X) o') p1 p2
          rw [trB_py e1, C.K] at this
          exact ⟨_, this, ge_bin g1 g2⟩
      · cases h
    | UnaryOp o a p =>
      cases o with
      | USub =>
        simp only [trE, Option.map_eq_some_iff] at h
        obtain ⟨a', e1, rfl⟩ := h
        obtain ⟨ta, p1, g1⟩ := T.e (Z := Z) C a a' e1
        exact ⟨_, pe_un L2.un_neg p1, ge_neg g1⟩
      | Not =>
        simp only [trE, Option.map_eq_some_iff] at h
        obtain ⟨a', e1, rfl⟩ := h
        obtain ⟨ta, p1, g1⟩ := T.e (Z := Z) C a a' e1
        exact ⟨_, pe_not p1, ge_not g1⟩
      | _ => simp [trE] at h
    | Compare a ops bs p =>
      cases ops with
      | nil => simp [trE] at h
      | cons o os =>
      cases os with
      | nil =>
        cases bs with
        | nil => simp [trE] at h
        | cons b bs =>
        cases bs with
        | cons _ _ => simp [trE] at h
        | nil =>
        simp only [trE] at h
        split at h
        · rename_i a' b' e1 e2
          split at h
          · rename_i hs
            obtain ⟨ta, p1, g1⟩ := T.e (Z := Z) C a a' e1
            obtain ⟨tb, p2, g2⟩ := T.e (Z := Z) C b b' e2
            split at h
            · rename_i mid tab hm
              split at h
              · rename_i hv
                rw [Bool.and_eq_true] at hv
                cases h
                obtain ⟨nm, h1, h2⟩ := Option.bind_eq_some_iff.mp hm
                exact ⟨_, pe_cmpS (or_cmpO C.K (trO_py o) h1 (C.room hv.1) C.tk) p1 p2 (mark_of hs), ge_cmpO (C.tabOk hv.1 h2 hv.2) g1 g2⟩
              · cases h
            · cases h
              have := pe_cmpR (pos := p) (or_cop C.roomH (trO o)) p1 p2 (mark_of hs)
              rw [trO_py, C.K] at this
              exact ⟨_, this, ge_cmp g1 g2⟩
          · cases h
        · cases h
      | cons o' os =>
      cases os with
      | cons _ _ => simp [trE] at h
      | nil =>
        cases bs with
        | nil => simp [trE] at h
        | cons b bs =>
        cases bs with
        | nil => simp [trE] at h
        | cons c bs =>
        cases bs with
        | cons _ _ => simp [trE] at h
        | nil =>
        simp only [trE] at h
        split at h
        · rename_i a' b' c' e1 e2 e3
          split at h
          · rename_i hs
            cases h
            obtain ⟨ta, p1, g1⟩ := T.e (Z := Z) C a a' e1
            obtain ⟨tb, p2, g2⟩ := T.e (Z := Z) C b b' e2
            obtain ⟨tc, p3, g3⟩ := T.e (Z := Z) C c c' e3
            have := pe_chain (pos := p) (or_cop C.roomH (trO o)) (or_cop C.roomH (trO o')) p1 p2 p3 (mark_of hs)
            rw [trO_py, trO_py, C.K] at this
            exact ⟨_, this, ge_chain g1 g2 g3⟩
          · cases h
        · cases h
    | BoolOp o es p =>
      cases o with
      | And => simp only [trE] at h; exact T.and_ C es m p h
      | Or => simp only [trE] at h; exact T.or_ C es m p h
    | IfExp c a b p =>
      simp only [trE] at h
      split at h
      · rename_i c' a' b' e1 e2 e3
        cases h
        obtain ⟨tc, p1, g1⟩ := T.t (Z := Z) C c c' e1
        obtain ⟨ta, p2, g2⟩ := T.e (Z := Z) C a a' e2
        obtain ⟨tb, p3, g3⟩ := T.e (Z := Z) C b b' e3
        exact ⟨_, pe_ifExp p1 p2 p3, ge_ifx g1 g2 g3⟩
      · cases h
    | Tuple es k p =>
      simp only [trE, Option.map_eq_some_iff] at h
      obtain ⟨a', e1, rfl⟩ := h
      obtain ⟨ta, p1, g1⟩ := T.a (Z := Z) C es a' e1
      exact ⟨_, pe_tup p1, ge_tup g1⟩
    | List es p =>
      simp only [trE, Option.map_eq_some_iff] at h
      obtain ⟨a', e1, rfl⟩ := h
      obtain ⟨ta, p1, g1⟩ := T.a (Z := Z) C es a' e1
      exact ⟨_, pe_lst p1, ge_lst g1⟩
    | Subscript a b p =>
      cases b with
      | Slice lo hi st q =>
        cases st with
        | some _ =>
          simp only [trE, plainB] at h
          split at h <;> simp at h
        | none =>
        simp only [trE] at h
        split at h
        · rename_i a' l' h' e1 e2 e3
          cases h
          obtain ⟨ta, p1, g1⟩ := T.e (Z := Z) C a a' e1
          obtain ⟨tl, p2, g2⟩ := T.p (Z := Z) C lo l' e2
          obtain ⟨th, p3, g3⟩ := T.p (Z := Z) C hi h' e3
          have := pe_slice (pos := p) (p2 := q) (or_sl (X := X)) p1 p2 p3
          rw [C.K] at this
          exact ⟨_, this, ge_slc g1 g2 g3⟩
        · cases h
      | _ =>
        simp only [trE] at h
        split at h
        · rename_i a' b' e1 e2
          split at h
          · rename_i hp
            cases h
            obtain ⟨ta, p1, g1⟩ := T.e (Z := Z) C a a' e1
            obtain ⟨tb, p2, g2⟩ := T.e (Z := Z) C _ b' e2
            have := pe_ix (pos := p) (or_ix (X := X)) p1 p2 (ix_of hp)
            rw [C.K] at this
            exact ⟨_, this, ge_idx g1 g2⟩
          · cases h
        · cases h
    | Call f es ks p =>
      cases f with
      | Name x q =>
        cases ks with
        | cons k ks =>
          cases es with
          | nil => simp [trE] at h
          | cons e es =>
          simp only [trE] at h
          split at h
          · rename_i as ea
            split at h
            · rename_i hx
              simp only [Bool.and_eq_true] at hx
              obtain ⟨h1, h2, h3, h4⟩ := hx
              split at h
              · rename_i fe hf
                split at h
                · rename_i hl
                  rw [Bool.and_eq_true] at hl
                  cases h
                  obtain ⟨t, tk, p1, p2, g1⟩ := T.aa (Z := Z) C (e :: es) (k :: ks) as ea
                  exact tr_kw C h1 h2 h3 hf rfl h4 (of_decide_eq_true hl.1) p1 p2 (g1 _ rfl) fun y hy => trA_star ea y (List.mem_append_left _ hy)
                · cases h
              · cases h
            · cases h
          · cases h
        | nil =>
        cases es with
        | nil =>
          simp only [trE] at h
          split at h
          · rename_i hx
            rw [Bool.and_eq_true] at hx
            split at h
            · rename_i fe hf
              split at h
              · rename_i hl
                rw [Bool.and_eq_true] at hl
                cases h
                exact tr_call0 C hl.1 hx.1 hx.2 hf (of_decide_eq_true hl.2)
              · cases h
            · split at h
              · rename_i c fe hf
                split at h
                · rename_i hl
                  rw [Bool.and_eq_true] at hl
                  cases h
                  exact tr_make0 C hl.1 hx.1 hx.2 hf (of_decide_eq_true hl.2)
                · cases h
              · cases h
          · cases h
        | cons e es =>
          simp only [trE] at h
          split at h
          · rename_i as ea
            obtain ⟨ta, p1, g1⟩ := T.a (Z := Z) C _ as ea
            have hs := trA_star ea
            split at h
            · rename_i hx
              rw [Bool.and_eq_true] at hx
              split at h
              · rename_i fe hf
                split at h
                · rename_i hl
                  split at h
                  · rename_i hc
                    cases h
                    exact tr_call C hc hx.1 hx.2 hf hl p1 g1 hs
                  · rename_i hc
                    split at h
                    · rename_i hh
                      rw [Bool.and_eq_true] at hh
                      cases h
                      exact tr_callH C (by simpa using hc) hx.1 hx.2 hf hl hh.1 p1 g1 hs
                    · cases h
                · cases h
              · split at h
                · rename_i c fe hf
                  split at h
                  · rename_i hl
                    rw [Bool.and_eq_true] at hl
                    cases h
                    exact tr_make C hl.1 hx.1 hx.2 hf (of_decide_eq_true hl.2) p1 g1 hs
                  · cases h
                · split at h
                  · rename_i hf
                    split at h
                    · rename_i hi
                      cases h
                      exact tr_isi C hx.1 hx.2 hf hi p1 g1 hs
                    split at h
                    · rename_i f hb
                      split at h
                      · rename_i hc
                        cases h
                        exact tr_bi C hc hx.1 hx.2 hf hb p1 g1 hs
                      · cases h
                    · rename_i f _ hb
                      cases h
                      exact tr_ty C hx.1 hx.2 hf hb p1 g1 hs
                    · cases h
                  · cases h
            · cases h
          · cases h
      | Attribute o m ap =>
        cases ks with
        | cons _ _ => cases es <;> simp [trE] at h
        | nil =>
        simp only [trE] at h
        split at h
        · rename_i hx
          simp only [Bool.and_eq_true] at hx
          obtain ⟨ho, hl, hn⟩ := hx
          have hn := of_decide_eq_true hn
          split at h
          · rename_i mid tab hm
            split at h
            · rename_i a as e1 e2
              split at h
              · rename_i hv
                rw [Bool.and_eq_true] at hv
                obtain ⟨hc, hv⟩ := hv
                cases h
                obtain ⟨ta, p1, g1⟩ := T.e (Z := Z) C o a e1
                have hs := trA_star e2
                cases es with
                | nil =>
                  have := trA_nil e2
                  subst this
                  exact tr_meth C hc hm hv ho hl hn p1 g1 pa_nil ga_nil hs fun _ => rfl
                | cons e es =>
                  obtain ⟨t, p2, g2⟩ := T.a (Z := Z) C _ as e2
                  exact tr_meth C hc hm hv ho hl hn p1 g1 p2 g2 hs fun z => nomatch z
              · cases h
            · cases h
          split at h
          · rename_i f hmt
            split at h
            · rename_i a as e1 e2
              cases h
              obtain ⟨ta, p1, g1⟩ := T.e (Z := Z) C o a e1
              obtain ⟨t, p2, g2⟩ := T.a (Z := Z) C es as e2
              exact tr_mt C hmt ho hl hn p1 g1 p2 g2 (trA_star e2) fun z => by subst z; exact trA_nil e2
            · cases h
          · split at h
            · rename_i x q e
              split at h
              · rename_i c fe hc
                split at h
                · rename_i as e2
                  split at h
                  · rename_i hx
                    simp only [Bool.and_eq_true] at hx
                    cases h
                    obtain ⟨t, p2, g2⟩ := T.a (Z := Z) C _ as e2
                    exact tr_cmeth C hx.1 hx.2.1 hx.2.2.1 hc (of_decide_eq_true hx.2.2.2) hl hn p2 g2 (trA_star e2)
                  · cases h
                · cases h
              · split at h
                · rename_i hx
                  simp only [Bool.and_eq_true] at hx
                  obtain ⟨hx, hv⟩ := hx
                  exact tr_bm T C hx hv hl h
                · cases h
            · rename_i x q e e' es
              split at h
              · rename_i c fe hc
                split at h
                · rename_i as e2
                  split at h
                  · rename_i hx
                    simp only [Bool.and_eq_true] at hx
                    cases h
                    obtain ⟨t, p2, g2⟩ := T.a (Z := Z) C _ as e2
                    exact tr_cmeth C hx.1 hx.2.1 hx.2.2.1 hc (of_decide_eq_true hx.2.2.2) hl hn p2 g2 (trA_star e2)
                  · cases h
                · cases h
              · cases h
            · cases h
        · cases h
      | _ => cases es <;> cases ks <;> simp [trE] at h
    | ListComp elt gens sc p =>
      cases gens with
      | nil => simp [trE] at h
      | cons gn gens =>
      cases gens with
      | cons _ _ => simp [trE] at h
      | nil =>
      obtain ⟨tg, it, ifs, asy⟩ := gn
      obtain ⟨wi, gt, tt, te, e0, hcm, p2, pg, ptt, pte, ok, fo, ge⟩ := tr_lc (Z := Z) T C h
      subst e0
      exact ⟨_, pe_lc (pos := p) (C.calm hcm) C.nd p2 ok pg ptt pte fo, ge⟩
    | FormattedValue e c sp p =>
      cases sp with
      | some _ => simp [trE] at h
      | none =>
        simp only [trE] at h
        split at h
        · rename_i hc
          subst hc
          simp only [Option.map_eq_some_iff] at h
          obtain ⟨a', e1, rfl⟩ := h
          obtain ⟨ta, p1, g1⟩ := T.e (Z := Z) C e a' e1
          exact ⟨_, pe_fmt p1, ge_fmt g1⟩
        · cases h
    | JoinedStr es p =>
      cases es with
      | nil => simp [trE] at h
      | cons e es =>
      cases es with
      | nil =>
        simp only [trE] at h
        obtain ⟨ta, p1, g1⟩ := T.e (Z := Z) C e m h
        exact ⟨_, pe_joined1 p1, g1⟩
      | cons e' es =>
        simp only [trE, Option.map_eq_some_iff] at h
        obtain ⟨ms, e1, rfl⟩ := h
        obtain ⟨ts, p1, g1⟩ := T.j (Z := Z) C _ ms e1
        exact ⟨_, pe_joined p1, ge_fstr g1⟩
    | Attribute o f p =>
      simp only [trE] at h
      split at h
      · rename_i d hd
        cases h
        exact tr_clv C hd
      split at h
      · rename_i ho
        split at h
        · rename_i i cs a hf e1
          cases h
          obtain ⟨ta, p1, g1⟩ := T.e (Z := Z) C o a e1
          obtain ⟨h1, h2⟩ := C.flds f i cs hf
          exact ⟨_, pe_fldH (B := B) (Z := Z) (pos := p) (f := f) p1 (base_of ho), ge_fldX C.K h1 h2 C.hx g1⟩
        · cases h
      · cases h
    | _ => simp [trE] at h
  and_ := fun {X g B Z W} C es m pos h => by
    cases es with
    | nil => simp [trAnd] at h
    | cons a es =>
    cases es with
    | nil =>
      simp only [trAnd] at h
      obtain ⟨ta, p1, g1⟩ := T.e (Z := Z) C a m h
      exact ⟨_, pe_one p1, g1⟩
    | cons b r =>
      simp only [trAnd] at h
      split at h
      · rename_i a' b' e1 e2
        cases h
        obtain ⟨ta, p1, g1⟩ := T.e (Z := Z) C a a' e1
        obtain ⟨tb, p2, g2⟩ := T.and_ (Z := Z) C _ b' pos e2
        have := pe_andT p1 p2
        rw [C.K] at this
        exact ⟨_, this, ge_and g1 g2⟩
      · cases h
  or_ := fun {X g B Z W} C es m pos h => by
    cases es with
    | nil => simp [trOr] at h
    | cons a es =>
    cases es with
    | nil =>
      simp only [trOr] at h
      obtain ⟨ta, p1, g1⟩ := T.e (Z := Z) C a m h
      exact ⟨_, pe_one p1, g1⟩
    | cons b r =>
      simp only [trOr] at h
      split at h
      · rename_i a' b' e1 e2
        cases h
        obtain ⟨ta, p1, g1⟩ := T.e (Z := Z) C a a' e1
        obtain ⟨tb, p2, g2⟩ := T.or_ (Z := Z) C _ b' pos e2
        have := pe_orT p1 p2
        rw [C.K] at this
        exact ⟨_, this, ge_or g1 g2⟩
      · cases h
  a := fun {X g B Z W} C es m h => by
    cases es with
    | nil => simp only [trA] at h; cases h; exact ⟨_, pa_nil, ga_nil⟩
    | cons a es =>
      simp only [trA] at h
      split at h
      · rename_i a' r' e1 e2
        cases h
        obtain ⟨ta, p1, g1⟩ := T.e (Z := Z) C a a' e1
        obtain ⟨tr, p2, g2⟩ := T.a (Z := Z) C es r' e2
        exact ⟨_, pa_cons p1 p2 (star_of (trE_star e1)), ga_cons g1 g2⟩
      · cases h
  kw := fun {X g B Z W} C kws m h => by
    cases kws with
    | nil => simp only [List.map_nil, trA] at h; cases h; exact ⟨_, pk_nil, ga_nil⟩
    | cons k kws =>
      obtain ⟨nm, v, kp⟩ := k
      simp only [List.map_cons, kwVal, trA] at h
      split at h
      · rename_i a' r' e1 e2
        cases h
        obtain ⟨ta, p1, g1⟩ := T.e (Z := Z) C v a' e1
        obtain ⟨tk, p2, g2⟩ := T.kw (Z := Z) C kws r' e2
        exact ⟨_, pk_cons p1 p2, ga_cons g1 g2⟩
      · cases h
  aa := fun {X g B Z W} C es kws m h => by
    cases es with
    | nil =>
      cases kws with
      | nil => simp only [List.map_nil, List.append_nil, trA] at h; cases h; exact ⟨_, _, pa_nil, pk_nil, fun p hp => ga_app0 hp ga_nil⟩
      | cons k kws =>
        obtain ⟨nm, v, kp⟩ := k
        simp only [List.nil_append, List.map_cons, kwVal, trA] at h
        split at h
        · rename_i a' r' e1 e2
          cases h
          obtain ⟨ta, p1, g1⟩ := T.e (Z := Z) C v a' e1
          obtain ⟨tk, p2, g2⟩ := T.kw (Z := Z) C kws r' e2
          exact ⟨tNil, _, pa_nil, pk_cons p1 p2, fun p hp => ga_app0 hp (ga_cons g1 g2)⟩
        · cases h
    | cons a es =>
      simp only [List.cons_append, trA] at h
      split at h
      · rename_i a' r' e1 e2
        cases h
        obtain ⟨ta, p1, g1⟩ := T.e (Z := Z) C a a' e1
        obtain ⟨tr, tk, p2, p3, g2⟩ := T.aa (Z := Z) C es kws r' e2
        exact ⟨_, tk, pa_cons p1 p2 (star_of (trE_star e1)), p3, fun p hp => ga_cons g1 (g2 (fun n => p (n + 1)) hp)⟩
      · cases h
  j := fun {X g B Z W} C es ms h => by
    cases es with
    | nil => simp only [trJ] at h; cases h; exact ⟨_, .nil, .nil⟩
    | cons a es =>
      simp only [trJ] at h
      split at h
      · rename_i a' r' e1 e2
        cases h
        obtain ⟨ta, p1, g1⟩ := T.e (Z := Z) C a a' e1
        obtain ⟨tr, p2, g2⟩ := T.j (Z := Z) C es r' e2
        exact ⟨_, .cons p1 p2, .cons g1 g2⟩
      · cases h
  p := fun {X g B Z W} C e m h => by
    cases e with
    | none => simp only [trP] at h; cases h; exact ⟨_, po_none, gp_noPart⟩
    | some e =>
      simp only [trP, Option.map_eq_some_iff] at h
      obtain ⟨a', e1, rfl⟩ := h
      obtain ⟨ta, p1, g1⟩ := T.e (Z := Z) C e a' e1
      exact ⟨_, po_some p1, gp_part g1⟩
  t := fun {X g B Z W} C e m h => by
    have val : ∀ {e : Expr} {m : Tst}, (trE g n e).map tst = some m → (∀ whole, isTrue e X.env whole = (do let v ← whole; standAt e.pos; holding [v] (truthy v))) → ∃ t, PT X e t ∧ GT B Z W t m := fun h he => by
      simp only [Option.map_eq_some_iff] at h
      obtain ⟨a', e1, rfl⟩ := h
      obtain ⟨ta, p1, g1⟩ := T.e (Z := Z) C _ a' e1
      have := pt_truth p1 he
      rw [C.K] at this
      exact ⟨_, this, gt_tst g1⟩
    cases e with
    | UnaryOp o a p =>
      cases o with
      | Not =>
        simp only [trT, Option.map_eq_some_iff] at h
        obtain ⟨a', e1, rfl⟩ := h
        obtain ⟨ta, p1, g1⟩ := T.t (Z := Z) C a a' e1
        exact ⟨_, pt_not p1, gt_not g1⟩
      | _ => simp only [trT] at h; exact val h fun _ => rfl
    | BoolOp o es p =>
      cases o with
      | And =>
        simp only [trT] at h
        obtain ⟨t, p1, g1⟩ := T.tand (Z := Z) C es m p h
        exact ⟨_, PW.pt p1, g1⟩
      | Or =>
        simp only [trT] at h
        obtain ⟨t, p1, g1⟩ := T.tor (Z := Z) C es m p h
        exact ⟨_, PW.pt p1, g1⟩
    | IfExp c a b p => simp [trT] at h
    | Compare a ops bs p =>
      cases ops with
      | nil => simp [trT] at h
      | cons o os =>
      cases os with
      | nil =>
        cases bs with
        | nil => simp [trT] at h
        | cons b bs =>
        cases bs with
        | cons _ _ => simp [trT] at h
        | nil =>
        simp only [trT] at h
        split at h
        · rename_i a' b' e1 e2
          split at h
          · rename_i hs
            obtain ⟨ta, p1, g1⟩ := T.e (Z := Z) C a a' e1
            obtain ⟨tb, p2, g2⟩ := T.e (Z := Z) C b b' e2
            split at h
            · rename_i mid tab hm
              split at h
              · rename_i hv
                rw [Bool.and_eq_true] at hv
                cases h
                obtain ⟨nm, h1, h2⟩ := Option.bind_eq_some_iff.mp hm
                exact ⟨_, pt_cmpS (or_cmpO C.K (trO_py o) h1 (C.room hv.1) C.tk) p1 p2 (mark_of hs), ge_test (ge_cmpO (C.tabOk hv.1 h2 hv.2) g1 g2)⟩
              · cases h
            · cases h
              have := pt_cmpR (pos := p) (or_cop C.roomH (trO o)) p1 p2 (mark_of hs)
              rw [trO_py, C.K] at this
              exact ⟨_, this, ge_test (ge_cmp g1 g2)⟩
          · cases h
        · cases h
      | cons o' os =>
      cases os with
      | cons _ _ => simp [trT] at h
      | nil =>
        cases bs with
        | nil => simp [trT] at h
        | cons b bs =>
        cases bs with
        | nil => simp [trT] at h
        | cons c bs =>
        cases bs with
        | cons _ _ => simp [trT] at h
        | nil =>
        simp only [trT] at h
        split at h
        · rename_i a' b' c' e1 e2 e3
          split at h
          · rename_i hs
            cases h
            obtain ⟨ta, p1, g1⟩ := T.e (Z := Z) C a a' e1
            obtain ⟨tb, p2, g2⟩ := T.e (Z := Z) C b b' e2
            obtain ⟨tc, p3, g3⟩ := T.e (Z := Z) C c c' e3
            have := pt_chain (pos := p) (or_cop C.roomH (trO o)) (or_cop C.roomH (trO o')) p1 p2 p3 (mark_of hs)
            rw [trO_py, trO_py, C.K] at this
            exact ⟨_, this, ge_test (ge_chain g1 g2 g3)⟩
          · cases h
        · cases h
    | _ => simp only [trT] at h; exact val h fun _ => rfl
  ifs := fun {X g B Z W} C es m h => by
    cases es with
    | nil =>
      simp only [trIfs] at h
      cases h
      exact ⟨_, pts_nil, fun ρ σ G H Q r w => w true G H r Step.refl rfl⟩
    | cons c es =>
    cases es with
    | cons _ _ => simp [trIfs] at h
    | nil =>
      simp only [trIfs] at h
      obtain ⟨t, p1, g1⟩ := T.t (Z := Z) C c m h
      exact ⟨t, pts_one p1, g1⟩
  i := fun {X g B Z W} C tg e m h => by
    have seqI : ∀ {e : Expr} {m : Ix}, (trE g n e).map itE = some m → ∃ t, PI X tg e t ∧ GI B Z W t m := fun {e m} h => by
      simp only [Option.map_eq_some_iff] at h
      obtain ⟨a', e1, rfl⟩ := h
      obtain ⟨ta, p1, g1⟩ := T.e (Z := Z) C e a' e1
      have := pi_seq (tg := tg) p1
      rw [C.K] at this
      exact ⟨_, this, gi_seq g1⟩
    simp only [trI] at h
    split at h
    · rename_i x q a pos
      split at h
      · rename_i hx
        simp only [Bool.and_eq_true] at hx
        obtain ⟨hx, hg, hf⟩ := hx
        have hm := C.free x hf
        split at h
        · rename_i e0
          subst e0
          simp only [Option.map_eq_some_iff] at h
          obtain ⟨a', e1, rfl⟩ := h
          obtain ⟨ta, p1, g1⟩ := T.e (Z := Z) C a a' e1
          exact ⟨_, pi_range1 (C.glo hg) hm (pa_cons p1 pa_nil (star_of (trE_star e1))) (star_of (trE_star e1)), gi_range g1⟩
        · split at h
          · rename_i e0
            subst e0
            split at h
            · rename_i elts kk tpos
              simp only [Option.map_eq_some_iff] at h
              obtain ⟨a', e1, rfl⟩ := h
              obtain ⟨ta, p1, g1⟩ := T.e (Z := Z) C a a' e1
              have := pi_enum (X := X) (elts := elts) (kk := kk) (tpos := tpos) (p := q) (pos := pos) (C.glo hg) hm (pa_cons p1 pa_nil (star_of (trE_star e1))) (star_of (trE_star e1))
              rw [C.K] at this
              exact ⟨_, this, gi_enum g1⟩
            · cases h
          · exact seqI h
      · exact seqI h
    · rename_i x q a b pos
      split at h
      · rename_i hx
        simp only [Bool.and_eq_true, decide_eq_true_iff] at hx
        obtain ⟨hx, hg, hf, e0⟩ := hx
        subst e0
        have hm := C.free _ hf
        split at h
        · rename_i a' b' e1 e2
          cases h
          obtain ⟨ta, p1, g1⟩ := T.e (Z := Z) C a a' e1
          obtain ⟨tb, p2, g2⟩ := T.e (Z := Z) C b b' e2
          have s1 := star_of (env := X.env) (es := [b]) (trE_star e1)
          have s2 := star_of (env := X.env) (es := []) (trE_star e2)
          exact ⟨_, pi_range2 (C.glo hg) hm (pa_cons p1 (pa_cons p2 pa_nil s2) s1) (by rw [s1, s2]; rfl) s2, gi_range2 g1 g2⟩
        · cases h
      · exact seqI h
    · exact seqI h
  tand := fun {X g B Z W} C es m pos h => by
    cases es with
    | nil => simp [trTAnd] at h
    | cons a es =>
    cases es with
    | nil =>
      simp only [trTAnd] at h
      obtain ⟨ta, p1, g1⟩ := T.t (Z := Z) C a m h
      exact ⟨_, pw_and1 p1, g1⟩
    | cons b r =>
      simp only [trTAnd] at h
      split at h
      · rename_i a' b' e1 e2
        cases h
        obtain ⟨ta, p1, g1⟩ := T.t (Z := Z) C a a' e1
        obtain ⟨tb, p2, g2⟩ := T.tand (Z := Z) C _ b' pos e2
        exact ⟨_, pw_and p1 p2, gt_and g1 g2⟩
      · cases h
  tor := fun {X g B Z W} C es m pos h => by
    cases es with
    | nil => simp [trTOr] at h
    | cons a es =>
    cases es with
    | nil =>
      simp only [trTOr] at h
      obtain ⟨ta, p1, g1⟩ := T.t (Z := Z) C a m h
      exact ⟨_, pw_or1 p1, g1⟩
    | cons b r =>
      simp only [trTOr] at h
      split at h
      · rename_i a' b' e1 e2
        cases h
        obtain ⟨ta, p1, g1⟩ := T.t (Z := Z) C a a' e1
        obtain ⟨tb, p2, g2⟩ := T.tor (Z := Z) C _ b' pos e2
        exact ⟨_, pw_or p1 p2, gt_or g1 g2⟩
      · cases h
end
end Vm

set_option Elab.async false
set_option linter.all false
set_option maxRecDepth 100000
set_option maxHeartbeats 4000000
namespace Vm
open PySem PySem.Spec PyProof.Rows L2
theorem tr_all : ∀ n, TrOk n
  | 0 => tr_zero
  | n + 1 => tr_succ (tr_all n)
section
variable {X : Cx} {g : Gm} {B : Tb} {Z : XR} {W : WX}
/-- an expression's value kept: by its scope, a comprehension has a way of its own -/
theorem swap_of {e : Expr} {t : Option Expr} {l : Nat} {env : PySem.Env} (h : ∀ elt gens sc p, e ≠ .ListComp elt gens sc p) (h1 : ∀ elt gens sc p, e ≠ .SetComp elt gens sc p) (h2 : ∀ k v gens sc p, e ≠ .DictComp k v gens sc p) : swapsWith e t l env = pure false := by
  cases e <;> first | rfl | exact absurd rfl (h _ _ _ _) | exact absurd rfl (h1 _ _ _ _) | exact absurd rfl (h2 _ _ _ _ _)
theorem trE_noSetComp {n : Nat} {e : Expr} {m : Ex} (h : trE g n e = some m) : (∀ elt gens sc p, e ≠ .SetComp elt gens sc p) ∧ (∀ k v gens sc p, e ≠ .DictComp k v gens sc p) := by
  cases n with
  | zero => simp [trE] at h
  | succ n =>
    refine ⟨fun elt gens sc p z => ?_, fun k v gens sc p z => ?_⟩ <;> (subst z; simp [trE] at h)
theorem sole_of {e t : Expr} {l : Nat} {env : PySem.Env} {r : Sem Bool} (h : swapsWith e (some t) l env = r) : swapsWithSole [t] e l env = r := by
  rw [← h]
  rfl
theorem trE_noSlice {n : Nat} {e : Expr} {m : Ex} (h : trE g n e = some m) : ∀ lo hi st p, e ≠ .Slice lo hi st p := fun lo hi st p z => by
  subst z
  cases n <;> simp [trE] at h
theorem asg_sub {o i : Expr} {pos : Pos} {env : PySem.Env} (h : ∀ lo hi st p, i ≠ .Slice lo hi st p) : ∀ v, assign (.Subscript o i pos) env v = (do
      let ov ← holding [v] (eval o env)
      let iv ← holding [v, ov] (eval i env)
      standAt pos
      holding [v, ov, iv] (setItem ov iv v)
      release [v, ov, iv] []) := fun v => by
  cases i <;> first | rfl | exact absurd rfl (h _ _ _ _)
/-- where statements stand -/
structure StOk (X : Cx) : Prop where
  stk : X.stack = X.env :: X.outer
  frm : X.env.frame = some X.env.locals
  blk : X.env.blockKind = .function
theorem swap_par {x y : Str} {px py pt pt2 : Pos} {a b : Expr} {kt k2} {env : PySem.Env} (hb : env.blockKind = .function) (hx : env.kindOf x = some .local) (hy : env.kindOf y = some .local) (h : parOk x y px py a b = true) :
    swappedStores [.Tuple [.Name x px, .Name y py] kt pt] (.Tuple [a, b] k2 pt2) env = pure (some [x, y]) := by
  unfold parOk at h
  simp only [Bool.and_eq_true, Bool.not_eq_true'] at h
  obtain ⟨h1, h2, h3, h4, h5, h6⟩ := h
  have ed : ([x, y] : List Str).eraseDups = [x, y] := by
    have : (y == x) = false := by
      rw [Bool.eq_false_iff] at h1 ⊢
      exact fun z => h1 (by rw [eq_of_beq z]; exact beq_self_eq_true x)
    simp [List.eraseDups, List.eraseDupsBy, List.eraseDupsBy.loop, this]
  have hl : (py.line == px.line) = true := by rw [eq_of_beq h2]; exact beq_self_eq_true _
  unfold swappedStores
  simp only [hb, List.head?_cons, Option.map_some, Option.getD_some, Expr.pos, List.filterMap_cons, List.filterMap_nil, hx, hy, hl, beq_self_eq_true, Bool.and_self, if_true, ed, List.all_cons, List.all_nil, Bool.and_true, h3, h4]
  refine (if_neg (show ¬ _ from Bool.false_ne_true)).trans ?_
  refine (if_neg ?_).trans ?_
  · cases a <;> first | exact absurd h5 Bool.false_ne_true | (cases b <;> first | exact absurd h6 Bool.false_ne_true | exact Bool.false_ne_true)
  rfl
theorem gs_parX {i j : Nat} {xa : TA} {na : Exs} (ha : GA B Z W xa na) : GS B Z W (tPar i j xa) (parX i j na) := by
  intro ρ σ G H D q w
  refine ha.thn q w fun es vs ρ1 G1 H1 r1 s1 p1 w1 => ?_
  cases e : frzs ρ1 es with
  | none => simp only [e] at w1; exact w1.elim
  | some z =>
    obtain ⟨ds, ρ2⟩ := z
    obtain ⟨G2, r2, p2, t, o, k⟩ := p1.frz r1 (fun b h => none_back s1.stp h) e
    have s2 := s1.frz r1 t o k
    simp only [e] at w1
    cases p2 with
    | nil => exact w1.elim
    | cons h1 t1 =>
    cases t1 with
    | nil => exact w1.elim
    | cons h2 t2 =>
    cases t2 with
    | cons _ _ => exact w1.elim
    | nil =>
    simp only at w1
    split at w1
    · rename_i ρ3 e3
      split at w1
      · rename_i ρ4 e4
        refine ⟨_, _, rfl, ?_⟩
        refine gg_name (B := B) (Z := Z) (i := i) ρ2 σ G2 H1 _ _ ρ3 (fun σ1 H1 => gName j _ σ1 H1 D.nx) r2 h1 e3 fun σ3 r3 s3 _ => ?_
        exact gg_name (B := B) (Z := Z) (i := j) ρ3 σ3 G2 H1 _ _ ρ4 D.nx r3 h2 e4 fun σ4 r4 s4 _ => w1 σ4 G2 H1 r4 ((s2.trans r2 s3).trans r3 s4)
      · exact w1.elim
    · exact w1.elim
theorem raiseParts_eq {e fr : Option Expr} {x : Str} {e1 : Expr} {es : List Expr} (h : raiseParts e fr = some (x, e1, es)) : ∃ np cp, e = some (.Call (.Name x np) (e1 :: es) [] cp) ∧ fr = none := by
  unfold raiseParts at h
  split at h
  · cases h
    exact ⟨_, _, rfl, rfl⟩
  · cases h
theorem tryParts_eq {hs : List ExceptHandler} {els fin : List Stmt} {x nm : Str} {s : Stmt} {r : List Stmt} (h : tryParts hs els fin = some (x, nm, s, r)) : ∃ np hp, hs = [.ExceptHandler (some (.Name x np)) (some nm) (s :: r) hp] ∧ els = [] ∧ fin = [] := by
  unfold tryParts at h
  split at h
  · cases h
    exact ⟨_, _, rfl, rfl, rfl⟩
  · cases h
/-- within a try's body -/
theorem Ctx.tr (C : Ctx X g B Z W) (hc : g.cm = true) {W' : WX} {pn : List (Addr × Obj)} {xe : Value → Shared → Prop} (h1 : L2N.Takes (X.tr pn xe) W') (h2 : PassesOwn (model X.prog X.w) X.A X.env xe) : Ctx (X.tr pn xe) g B Z W' where
  K := C.K
  N := C.N
  sc := C.sc
  nd := C.nd
  fnx := C.fnx
  calm := C.calm
  zno := C.zno
  room := C.room
  roomH := C.roomH
  hot := fun h => absurd (hc.symm.trans h) Bool.noConfusion
  hx := .inl (C.zno hc)
  tk := h1
  own := h2
  fns := C.fns
  cst := C.cst
  free := C.free
  flds := C.flds
  mks := C.mks
  mth := fun m mid tab h => ⟨(C.mth m mid tab h).1, fun c fe h' => ⟨((C.mth m mid tab h).2 c fe h').cl, ((C.mth m mid tab h).2 c fe h').sf, ((C.mth m mid tab h).2 c fe h').ex⟩⟩
  cms := C.cms
  clsN := C.clsN
  kt := C.kt
  clv := C.clv
  err := C.err
  exn := C.exn
  ask := C.ask
  kwc := C.kwc
/-- within an except suite -/
theorem Ctx.su (C : Ctx X g B Z W) {a : Addr} {oe : Obj} {cls : Value} {d : Option Addr} {pn : List (Addr × Obj)} (hz : L2N.Zn cls d oe) (hf : ∃ vs, oe.data = .fields vs) : Ctx (X.suite a ((a, oe) :: pn)) { g with cm := false } B (Zs B a cls d) WNo where
  K := C.K
  N := C.N
  sc := C.sc
  nd := C.nd
  fnx := C.fnx
  calm := fun h => nomatch h
  zno := fun h => nomatch h
  room := fun h => nomatch h
  roomH := ⟨C.roomH.dp, C.roomH.un⟩
  hot := fun _ => by
    obtain ⟨vs, hv⟩ := hf
    exact ⟨(a, oe), ⟨rfl, vs, hv, hz.2.2 vs hv⟩, List.mem_cons_self⟩
  hx := .inr ⟨a, cls, d, ⟨X, oe, pn, rfl, hz.zc, hf⟩, fun _ _ _ _ h => h⟩
  tk := fun u s' ⟨_, _, _, _, _, _, _, _, _, _, _, _, _, _, _, _, w⟩ => w.elim
  own := PassesOwn.never
  fns := C.fns
  cst := C.cst
  free := C.free
  flds := C.flds
  mks := C.mks
  mth := fun m mid tab h => ⟨(C.mth m mid tab h).1, fun c fe h' => ⟨((C.mth m mid tab h).2 c fe h').cl, ((C.mth m mid tab h).2 c fe h').sf, ((C.mth m mid tab h).2 c fe h').ex⟩⟩
  cms := C.cms
  clsN := C.clsN
  kt := C.kt
  clv := C.clv
  err := C.err
  exn := C.exn
  ask := C.ask
  kwc := C.kwc
structure TsOk (n : Nat) : Prop where
  s : ∀ {X : Cx} {g : Gm} {B : Tb} {Z : XR} {W : WX}, Ctx X g B Z W → StOk X → ∀ st m, trS g n st = some m → ∃ t, PS X st t ∧ GS B Z W t m
  ss : ∀ {X : Cx} {g : Gm} {B : Tb} {Z : XR} {W : WX}, Ctx X g B Z W → StOk X → ∀ st m, trSs g n st = some m → ∃ t, PSs X st t ∧ GS B Z W t m
theorem ts_zero : TsOk 0 where
  s := fun _ _ e m h => by simp [trS] at h
  ss := fun _ _ es m h => by cases es <;> simp [trSs] at h
theorem ps_setE (C : Ctx X g B Z W) {n : Nat} {x : Str} {e : Expr} {i : Nat} {a : Ex} {px pos : Pos} (hl : g.loc x = true) (hi : slotOf g.N x = some i) (ha : trE g n e = some a) : ∃ t, PS X (.Assign [.Name x px] e pos) t ∧ GS B Z W t (asg i a) := by
  obtain ⟨l1, l2⟩ := C.loc hl
  have hN : X.N[i]? = some x := by rw [C.N]; exact slot_of hi
  obtain ⟨ta, p1, g1⟩ := (tr_all n).e (Z := Z) C e a ha
  by_cases q : ∃ elt gens sc p, e = .ListComp elt gens sc p
  · obtain ⟨elt, gens, sc, p, rfl⟩ := q
    cases hs : (X.env.blockKind == .function && X.env.kindOf x == some .local && px.line == p.line && !(sc.names.any fun (m, k) => m == x && (k == .local || k == .cell))) with
    | false =>
      refine ⟨_, ps_set C.nd hN l1 p1 ?_ l2, gs_asg g1⟩
      show (pure (X.env.blockKind == .function && X.env.kindOf x == some .local && px.line == p.line && !(sc.names.any fun (m, k) => m == x && (k == .local || k == .cell))) : Sem Bool) = pure false
      rw [hs]
    | true =>
      have hloc : X.env.scope.names.lookup x = some .local := by
        simp only [Bool.and_eq_true] at hs
        exact eq_of_beq hs.1.1.2
      cases n with
      | zero => simp [trE] at ha
      | succ n =>
      cases gens with
      | nil => simp [trE] at ha
      | cons gn gens =>
      cases gens with
      | cons _ _ => simp [trE] at ha
      | nil =>
      obtain ⟨tg, it, ifs, asy⟩ := gn
      obtain ⟨wi, gt, tt, te, e0, hcm, p2, pg, ptt, pte, ok, fo, ge⟩ := tr_lc (Z := Z) (tr_all n) C ha
      subst e0
      refine ⟨_, ps_setLc (C.calm hcm) C.nd hN hloc ?_ p2 ok pg ptt pte fo, gs_asg ge⟩
      show (pure (X.env.blockKind == .function && X.env.kindOf x == some .local && px.line == p.line && !(sc.names.any fun (m, k) => m == x && (k == .local || k == .cell))) : Sem Bool) = pure true
      rw [hs]
  · obtain ⟨n1, n2⟩ := trE_noSetComp ha
    exact ⟨_, ps_set C.nd hN l1 p1 (swap_of (fun elt gens sc p z => q ⟨elt, gens, sc, p, z⟩) n1 n2) l2, gs_asg g1⟩
theorem ts_succ {n : Nat} (S : TsOk n) : TsOk (n + 1) where
  s := fun {X g B Z W} C K st m h => by
    have T := tr_all n
    cases st with
    | Assign ts e pos =>
      simp only [trS] at h
      unfold trAs at h
      cases ts with
      | nil => cases h
      | cons tg ts =>
      cases ts with
      | cons _ _ => cases h
      | nil =>
      simp only at h
      unfold trA1 at h
      cases tg with
      | Name x px =>
        simp only at h
        split at h
        · rename_i hl
          split at h
          · rename_i i a hi ha
            cases h
            exact ps_setE C hl hi ha
          · cases h
        · cases h
      | Tuple es k p =>
        simp only at h
        split at h
        · split at h
          · rename_i x px y py a b k2 pt2 _
            split at h
            · rename_i hq
              simp only [Bool.and_eq_true, decide_eq_true_iff] at hq
              obtain ⟨hc, hx, hy⟩ := hq
              split at h
              · rename_i i j a' b' hi hj e1 e2
                split at h
                · rename_i hp
                  rw [Bool.and_eq_true] at hp
                  obtain ⟨hp, hij⟩ := hp
                  cases h
                  obtain ⟨ta, p1, g1⟩ := T.e (Z := Z) C a a' e1
                  obtain ⟨tb, p2, g2⟩ := T.e (Z := Z) C b b' e2
                  have lx : X.env.scope.names.lookup x = some .local := by rw [C.sc]; exact hx
                  have ly : X.env.scope.names.lookup y = some .local := by rw [C.sc]; exact hy
                  exact ⟨_, ps_par (C.calm hc) C.nd (by rw [C.N]; exact slot_of hi) (by rw [C.N]; exact slot_of hj) (of_decide_eq_true hij) lx ly (pa_cons p1 (pa_cons p2 pa_nil (star_of (trE_star e2))) (star_of (trE_star e1))) (swap_par K.blk lx ly hp), gs_parX (ga_cons g1 (ga_cons g2 ga_nil))⟩
                · cases h
              · cases h
            · cases h
          · cases h
        split at h
        case isTrue => cases h
        rename_i hnt hcm
        have nt : ∀ xs kk pp, e ≠ .Tuple xs kk pp := fun xs kk pp z => by subst z; exact hnt rfl
        have h' := h
        split at h'
        · rename_i t a ht ha
          cases h'
          obtain ⟨ta, p1, g1⟩ := T.e (Z := Z) C e a ha
          obtain ⟨gt, pg, gg⟩ := (trG_ok' n).1 (B := B) (Z := Z) _ t.1 t.2 ht
          refine ⟨_, ps_asg p1 (pg X Z W C) ?_ ?_ ?_, gs_pat g1 gg⟩
          · refine sole_of ?_
            by_cases q : ∃ elt gens sc p, e = .ListComp elt gens sc p
            · obtain ⟨elt, gens, sc, p, rfl⟩ := q
              rfl
            · obtain ⟨n1, n2⟩ := trE_noSetComp ha
              exact swap_of (fun elt gens sc p z => q ⟨elt, gens, sc, p, z⟩) n1 n2
          · cases e <;> first | rfl | exact absurd rfl (nt _ _ _)
          · rfl
        · cases h'
      | Subscript o i p =>
        cases o with
        | Name x px =>
          simp only at h
          split at h
          · rename_i hx
            rw [Bool.and_eq_true] at hx
            obtain ⟨o1, o2, o3⟩ := okName_of hx.1
            split at h
            · rename_i j b a hj hb ha
              cases h
              obtain ⟨ta, p1, g1⟩ := T.e (Z := Z) C e a ha
              obtain ⟨tb, p2, g2⟩ := T.e (Z := Z) C i b hb
              have pv : PE X (.Name x px) (tVar j) := pe_var (by rw [C.N]; exact slot_of hj) (C.vis hx.2) o1 o2
              refine ⟨_, ps_asg p1 (pg_sub pv p2 set_list (asg_sub (trE_noSlice hb))) ?_ ?_ ?_, gs_iset g1 g2⟩
              · refine sole_of ?_
                by_cases q : ∃ elt gens sc p, e = .ListComp elt gens sc p
                · obtain ⟨elt, gens, sc, p, rfl⟩ := q
                  rfl
                · obtain ⟨n1, n2⟩ := trE_noSetComp ha
                  exact swap_of (fun elt gens sc p z => q ⟨elt, gens, sc, p, z⟩) n1 n2
              · cases e <;> rfl
              · rfl
            · cases h
          · cases h
        | _ => cases h
      | Attribute o f p =>
        cases o with
        | Name x px =>
          simp only at h
          split at h
          · rename_i hx
            rw [Bool.and_eq_true] at hx
            obtain ⟨o1, o2, o3⟩ := okName_of hx.1
            split at h
            · rename_i j i cs a hj hf ha
              cases h
              obtain ⟨ta, p1, g1⟩ := T.e (Z := Z) C e a ha
              obtain ⟨h1, h2⟩ := C.flds f i cs hf
              have pv : PE X (.Name x px) (tVar j) := pe_var (by rw [C.N]; exact slot_of hj) (C.vis hx.2) o1 o2
              have := ps_fld (f := f) (pos := pos) (pos' := p) pv p1 (by
                by_cases q : ∃ elt gens sc p, e = .ListComp elt gens sc p
                · obtain ⟨elt, gens, sc, p, rfl⟩ := q
                  rfl
                · obtain ⟨n1, n2⟩ := trE_noSetComp ha
                  exact swap_of (fun elt gens sc p z => q ⟨elt, gens, sc, p, z⟩) n1 n2)
              rw [C.K] at this
              exact ⟨_, this, gs_fset h1 h2 g1⟩
            · cases h
          · cases h
        | _ => cases h
      | _ => cases h
    | Expr e pos =>
      by_cases q : ∃ elt gens sc p, e = .ListComp elt gens sc p
      · obtain ⟨elt, gens, sc, p, rfl⟩ := q
        simp [trS] at h
      · have h : (trE g n e).map exprS = some m := by
          cases e <;> first | exact absurd ⟨_, _, _, _, rfl⟩ q | (simp only [trS] at h; exact h)
        simp only [Option.map_eq_some_iff] at h
        obtain ⟨a, ha, rfl⟩ := h
        obtain ⟨ta, p1, g1⟩ := T.e (Z := Z) C e a ha
        obtain ⟨n1, n2⟩ := trE_noSetComp ha
        exact ⟨_, ps_expr p1 (swap_of (fun elt gens sc p z => q ⟨elt, gens, sc, p, z⟩) n1 n2), gs_expr g1⟩
    | Return e pos =>
      cases e with
      | none => simp only [trS] at h; cases h; exact ⟨_, ps_retN, gs_retN⟩
      | some e =>
        simp only [trS, Option.map_eq_some_iff] at h
        obtain ⟨a, ha, rfl⟩ := h
        obtain ⟨ta, p1, g1⟩ := T.e (Z := Z) C e a ha
        exact ⟨_, ps_ret p1, gs_ret g1⟩
    | If c a b pos =>
      simp only [trS] at h
      split at h
      · rename_i c' a' b' hc ha hb
        cases h
        obtain ⟨tc, p1, g1⟩ := T.t (Z := Z) C c c' hc
        obtain ⟨ta, p2, g2⟩ := S.ss (Z := Z) C K a a' ha
        obtain ⟨tb, p3, g3⟩ := S.ss (Z := Z) C K b b' hb
        exact ⟨_, ps_if p1 p2 p3, gs_if g1 g2 g3⟩
      · cases h
    | For tg it body els pos =>
      cases els with
      | cons _ _ => simp [trS] at h
      | nil =>
      simp only [trS] at h
      split at h
      case isTrue => cases h
      rename_i hcm
      have hcm : g.cm = true := by simpa using hcm
      split at h
      · rename_i t i b ht hi hb
        cases h
        obtain ⟨gt, pg, gg⟩ := (trG_ok' n).1 (B := B) (Z := Z) tg t.1 t.2 ht
        obtain ⟨wi, p1, g1⟩ := T.i (Z := Z) C tg it i hi
        obtain ⟨tb, p2, g2⟩ := S.ss (Z := Z) C K body b hb
        exact ⟨_, ps_for C.own (C.calm hcm) p1 (pg X Z W C) p2 (fold_of (trI_set hi)), gs_for g1 gg g2⟩
      · cases h
    | While c body els pos =>
      cases els with
      | cons _ _ => simp [trS] at h
      | nil =>
      simp only [trS] at h
      split at h
      · rename_i c' b hc hb
        cases h
        obtain ⟨tc, p1, g1⟩ := T.t (Z := Z) C c c' hc
        obtain ⟨tb, p2, g2⟩ := S.ss (Z := Z) C K body b hb
        exact ⟨_, ps_while C.own p1 p2, gs_while g1 g2⟩
      · cases h
    | Raise e fr pos =>
      simp only [trS] at h
      split at h
      · rename_i x e1 es hp
        obtain ⟨np, cp, rfl, rfl⟩ := raiseParts_eq hp
        split at h
        · rename_i hq
          simp only [Bool.and_eq_true] at hq
          obtain ⟨hc, hx, hg⟩ := hq
          split at h
          · rename_i c fs lv as he ha
            split at h
            · rename_i hl
              cases h
              obtain ⟨ta, p1, g1⟩ := T.a (Z := Z) C (e1 :: es) as ha
              obtain ⟨hm, ox, fI, h1, h2, h3⟩ := C.err x c fs lv he
              obtain ⟨o1, _, _⟩ := okName_of hx
              have hs := trA_star ha
              exact ⟨_, L2N.ps_raise (C.calm hc) C.tk (pmkN ox h1 h2 h3 ((C.room hc).mono hl) (C.glo hg) hm p1 o1 (star_of (hs e1 List.mem_cons_self)) (plain_of fun e he => hs e (List.mem_cons_of_mem _ he))), gs_raiseX g1⟩
            · cases h
          · cases h
        · cases h
      · cases h
    | Try body hs els fin pos =>
      simp only [trS] at h
      split at h
      · rename_i x nm s r hp
        obtain ⟨np, hpos, rfl, rfl, rfl⟩ := tryParts_eq hp
        split at h
        · rename_i hq
          simp only [Bool.and_eq_true, decide_eq_true_iff] at hq
          obtain ⟨hc, hx, hg, hl⟩ := hq
          split at h
          · rename_i i cat a hh hi hcat ha hsu
            cases h
            obtain ⟨cv, hm, hcv⟩ := C.exn x cat hcat
            obtain ⟨o1, _, _⟩ := okName_of hx
            have hk : X.env.kindOf nm = some .local := by
              show X.env.scope.names.lookup nm = some .local
              rw [C.sc]
              exact hl
            have bd : ∀ (W' : WX), ∃ t, (∀ (pn : List (Addr × Obj)) (xe : Value → Shared → Prop), L2N.Takes (X.tr pn xe) W' → PassesOwn (model X.prog X.w) X.A X.env xe → PSs (X.tr pn xe) body t) ∧ GS B Z W' t a := fun W' =>
              ⟨fun D σ H => ∀ (pn : List (Addr × Obj)) (xe : Value → Shared → Prop) (h1 : L2N.Takes (X.tr pn xe) W') (h2 : PassesOwn (model X.prog X.w) X.A X.env xe), (S.ss (Z := Z) (C.tr hc h1 h2) ⟨K.stk, K.frm, K.blk⟩ body a ha).choose D σ H,
                fun pn xe h1 h2 => ⟨fun pins s σ H D I q => (S.ss (Z := Z) (C.tr hc h1 h2) ⟨K.stk, K.frm, K.blk⟩ body a ha).choose_spec.1.run pins s σ H D I (q pn xe h1 h2)⟩,
                fun ρ σ G H D r w pn xe h1 h2 => (S.ss (Z := Z) (C.tr hc h1 h2) ⟨K.stk, K.frm, K.blk⟩ body a ha).choose_spec.2 ρ σ G H D r w⟩
            have sd : ∀ (e : Addr) (cls : Value) (d : Option Addr), ∃ t, (∀ (oe : Obj) (pn : List (Addr × Obj)), L2N.Zn cls d oe → (∃ vs, oe.data = .fields vs) → PSs (X.suite e ((e, oe) :: pn)) (s :: r) t) ∧ GS B (Zs B e cls d) WNo t hh := fun e cls d =>
              ⟨fun D σ H => ∀ (oe : Obj) (pn : List (Addr × Obj)) (h1 : L2N.Zn cls d oe) (h2 : ∃ vs, oe.data = .fields vs), (S.ss (Z := Zs B e cls d) (C.su (pn := pn) h1 h2) ⟨K.stk, K.frm, K.blk⟩ (s :: r) hh hsu).choose D σ H,
                fun oe pn h1 h2 => ⟨fun pins s' σ H D I q => (S.ss (Z := Zs B e cls d) (C.su (pn := pn) h1 h2) ⟨K.stk, K.frm, K.blk⟩ (s :: r) hh hsu).choose_spec.1.run pins s' σ H D I (q oe pn h1 h2)⟩,
                fun ρ σ G H D r' w oe pn h1 h2 => (S.ss (Z := Zs B e cls d) (C.su (pn := pn) h1 h2) ⟨K.stk, K.frm, K.blk⟩ (s :: r) hh hsu).choose_spec.2 ρ σ G H D r' w⟩
            refine ⟨_, L2N.ps_try_as (tb := fun W' => (bd W').choose) (ts := fun e cls d => (sd e cls d).choose) K.stk K.frm C.nd (by rw [C.N]; exact slot_of hi) hk ⟨C.glo hg, o1, .inl hm⟩ C.tk (fun W' pn xe h1 h2 => (bd W').choose_spec.1 pn xe h1 h2) (fun e oe cls d pn h1 h2 => (sd e cls d).choose_spec.1 oe pn h1 h2), ?_⟩
            exact gs_try (fun W' => (bd W').choose_spec.2) (fun e cls d => (sd e cls d).choose_spec.2) hcv C.ask
          · cases h
        · cases h
      · cases h
    | Break pos => simp only [trS] at h; cases h; exact ⟨_, ps_break, gs_brk⟩
    | Continue pos => simp only [trS] at h; cases h; exact ⟨_, ps_continue, gs_cnt⟩
    | Pass pos => simp only [trS] at h; cases h; exact ⟨_, ps_pass, gs_next⟩
    | _ => simp [trS] at h
  ss := fun {X g B Z W} C K st m h => by
    have one : ∀ s, ∃ t, PS X s t ∧ GS B Z W t ((trS g n s).getD never) := fun s => by
      cases e : trS g n s with
      | none => exact ⟨_, ps_never, gs_never⟩
      | some a => exact S.s (Z := Z) C K s a e
    cases st with
    | nil => simp only [trSs] at h; cases h; exact ⟨_, pss_nil, gs_next⟩
    | cons s r =>
    cases r with
    | nil =>
      simp only [trSs] at h
      cases h
      obtain ⟨t, p1, g1⟩ := one s
      exact ⟨_, pss_one p1, g1⟩
    | cons s' r =>
      simp only [trSs, Option.map_eq_some_iff] at h
      obtain ⟨b, hb, rfl⟩ := h
      obtain ⟨ta, p1, g1⟩ := one s
      obtain ⟨tb, p2, g2⟩ := S.ss (Z := Z) C K (s' :: r) b hb
      exact ⟨_, pss_cons p1 p2, gs_seq g1 g2⟩
theorem ts_all : ∀ n, TsOk n
  | 0 => ts_zero
  | n + 1 => ts_succ (ts_all n)
end
end Vm

set_option Elab.async false
set_option linter.all false
set_option maxRecDepth 100000
set_option maxHeartbeats 4000000
namespace Vm
open PySem PySem.Spec PyProof.Rows L2
/-- what is known of the module's names -/
structure GF (P : Program) (w : World) (mg : Str → Option Value) (base : Heap) (B : Tb) (g : Gm) : Prop where
  fns : ∀ x fe, g.fns x = some fe → ∃ f, mg x = some (.ref f) ∧ PySem.W.keepIn B.K (.ref f) = true ∧ FP P w B.K mg base B fe.lv f fe.F fe.np fe.dv ∧ (fe.hot = true → FPH P w B.K mg base B fe.lv f fe.F fe.np)
  cst : ∀ x d, g.cstD x = some d → ∃ v u, mg x = some u ∧ RelV v u ∧ ∀ G, Rp B G d v
  free : ∀ x, g.free x = true → mg x = none
  flds : ∀ f i cs, g.flds f = some (i, cs) → B.fld i = f ∧ ∀ c, cs.contains c = true → Cls B.K (B.cls c) ∧ NoAttr B.K (B.cls c) f
  mks : ∀ x c fe, g.mks x = some (c, fe) → ∃ f, mg x = some (.ref (B.cls c)) ∧ Mk B.K (B.cls c) f ∧ FP P w B.K mg base B fe.lv f fe.F fe.np fe.dv
  mth : ∀ m mid tab, g.mth m = some (mid, tab) → B.fld mid = m ∧ ∀ c fe, tab.lookup c = some fe → Cls B.K (B.cls c) ∧ PySem.W.selfFirst B.K (B.cls c) = true ∧ ∃ f, Meth B.K (B.cls c) m f ∧ FP P w B.K mg base B fe.lv f fe.F fe.np fe.dv
  cms : ∀ x m c fe, g.cms x m = some (c, fe) → ∃ mc p f, mg x = some (.ref (B.cls c)) ∧ ClX.CRead B.K (B.cls c) mc ∧ ClX.CMet B.K (B.cls c) mc m p f ∧ FP P w B.K mg base B fe.lv f fe.F fe.np fe.dv
  clsN : ∀ x c, g.clsN x = some c → mg x = some (.ref (B.cls c))
  kt : KtOk B g.kt
  clv : ∀ x f d, g.clv x f = some d → ∃ c mc v u, mg x = some (.ref (B.cls c)) ∧ ClX.CRead B.K (B.cls c) mc ∧ ClX.CVal B.K (B.cls c) mc f v u ∧ ∀ G, Rp B G d v
  err : ∀ x c fs lv, g.err x = some (c, fs, lv) → mg x = some (.ref (B.cls c)) ∧ OexC B.K (B.cls c) ∧ ∃ fI, PySem.W.findIn B.K (.ref (B.cls c)) "__init__" = some (some (.ref fI)) ∧ PySem.W.typeIn B.K (.ref fI) = some (.type "function") ∧ FnR P w B.K mg base (L2N.CX P w) lv fI (spErrs (B.cls c) (fs.map B.fld))
  exn : ∀ x cat, g.exn x = some cat → ∃ cv, mg x = some cv ∧ ∀ c b, cat c = some b → PySem.W.exmOne B.K (.ref (B.cls c)) cv = some b
  ask : AskOk B g.ask
  kwc : ∀ x n ks fe, g.kwc x n ks = some fe → ∃ f, mg x = some (.ref f) ∧ PySem.W.keepIn B.K (.ref f) = true ∧ FPK P w B.K mg base B fe.lv f n (ks.filterMap id) fe.F fe.np
section
variable {P : Program} {w : World} {mg : Str → Option Value} {base : Heap} {B : Tb} {f : Addr} {g : Gm}
theorem ZNo_no : ∀ G c fs v, ¬ ZNo.r G c fs v := fun _ _ _ _ h => h
/-- THE END: a def's body as it is written, by its function -/
theorem def_tr {x qual : Str} {st : Stmt} {dvs : List V} {kws : List (Str × V)} {fd : FuncData} {N ps : List Str} {m : Tx} {n : Nat} (F : FunD B.K x qual (defArgs st) (defBody st) (defScope st) dvs kws f fd) (S : FnScope N ps (defScope st)) (hn : ps.length ≤ N.length)
    (h1 : g.N = N) (h2 : g.sc = defScope st) (h3 : g.sc0 = defScope st) (hc : g.cm = true) (gf : GF P w mg base B g) (ht : trSs g n (defBody st) = some m) : FnOk P w B.K mg base (L2N.CX P w) (g.lv + 1) f fd ps (spF B (run ps.length N.length m) ps.length) := by
  refine def_ok F S hn fun cdv A outer s H E hr => ?_
  have C : Ctx (cxOf (L2N.CX P w) P w B.K mg base N qual (defScope st) f cdv A outer s H E) g B ZNo (fun cls d _ H => E cls d H) := {
    K := rfl
    N := h1.symm
    sc := h2.symm
    nd := S.nd
    fnx := fun _ _ => rfl
    calm := fun _ => rfl
    zno := fun _ => ZNo_no
    room := fun _ => hr
    roomH := L2H.roomH_of hr
    hot := fun h => absurd (hc.symm.trans h) Bool.noConfusion
    hx := .inl ZNo_no
    tk := L2N.takes_of rfl rfl rfl rfl
    own := passes_of rfl
    fns := gf.fns
    cst := gf.cst
    free := gf.free
    flds := gf.flds
    mks := gf.mks
    mth := fun m mid tab h => ⟨(gf.mth m mid tab h).1, fun c fe h' => ⟨((gf.mth m mid tab h).2 c fe h').1, ((gf.mth m mid tab h).2 c fe h').2.1, ((gf.mth m mid tab h).2 c fe h').2.2⟩⟩
    cms := gf.cms
    clsN := gf.clsN
    kt := gf.kt
    clv := gf.clv
    err := gf.err
    exn := gf.exn
    ask := gf.ask
    kwc := gf.kwc }
  exact (ts_all n).ss (Z := ZNo) C ⟨rfl, rfl, by show (if (defScope st).kind.isAnnotationScope then ScopeKind.function else (defScope st).kind) = _; rw [S.kind]; rfl⟩ (defBody st) m ht
/-- .. where an error is handled -/
theorem def_trH {x qual : Str} {st : Stmt} {kws : List (Str × V)} {fd : FuncData} {N ps : List Str} {m : Tx} {n : Nat} (F : FunD B.K x qual (defArgs st) (defBody st) (defScope st) [] kws f fd) (S : FnScope N ps (defScope st)) (hn : ps.length ≤ N.length)
    (h1 : g.N = N) (h2 : g.sc = defScope st) (h3 : g.sc0 = defScope st) (hc : g.cm = false) (gf : GF P w mg base B g) (ht : trSs g n (defBody st) = some m) : L2H.FnH P w B.K mg base (L2N.CX P w) (g.lv + 1) f fd ps (spF B (run ps.length N.length m) ps.length) := by
  obtain ⟨oc, od, dV, kV, doc, pm, an, cdv, ct, osl, rfl, lk, hcd, _⟩ := F.ex
  refine L2H.fn_ofH lk hcd S (fun vs H Q E h => h.1) fun A outer s H vs Q E p hot hr h => ?_
  have C : Ctx (L2H.cxH (L2N.CX P w) P w B.K mg base N qual (defScope st) f cdv A outer s H E p) g B ZNo (fun cls d _ H => E cls d H) := {
    K := rfl
    N := h1.symm
    sc := h2.symm
    nd := S.nd
    fnx := fun _ _ => rfl
    calm := fun h => absurd (hc.symm.trans h) Bool.noConfusion
    zno := fun _ => ZNo_no
    room := fun h => absurd (hc.symm.trans h) Bool.noConfusion
    roomH := hr
    hot := fun _ => ⟨p, hot, List.mem_singleton.mpr rfl⟩
    hx := .inl ZNo_no
    tk := L2N.takes_of rfl rfl rfl rfl
    own := passes_of rfl
    fns := gf.fns
    cst := gf.cst
    free := gf.free
    flds := gf.flds
    mks := gf.mks
    mth := fun m mid tab h => ⟨(gf.mth m mid tab h).1, fun c fe h' => ⟨((gf.mth m mid tab h).2 c fe h').1, ((gf.mth m mid tab h).2 c fe h').2.1, ((gf.mth m mid tab h).2 c fe h').2.2⟩⟩
    cms := gf.cms
    clsN := gf.clsN
    kt := gf.kt
    clv := gf.clv
    err := gf.err
    exn := gf.exn
    ask := gf.ask
    kwc := gf.kwc }
  obtain ⟨t, p1, g1⟩ := (ts_all n).ss (Z := ZNo) C ⟨rfl, rfl, by show (if (defScope st).kind.isAnnotationScope then ScopeKind.function else (defScope st).kind) = _; rw [S.kind]; rfl⟩ (defBody st) m ht
  exact ⟨t, p1, body_ok g1 hn h⟩
/-- .. from a def that raises nothing -/
theorem FnR.from0 {K : PySem.W.Frag} {k : Nat} {sp : Sp} {CX : CXT} (F : FnR P w K mg base CX0 k f sp) : FnR P w K mg base CX k f sp := fun A outer s H us vs Q E hr e0 r h =>
  codeAny_mono (F A outer s H us vs Q E hr e0 r h) fun r s' z => by
    cases r with
    | error e => exact z.elim
    | ok fl => cases fl <;> exact z
end
end Vm

set_option Elab.async false
set_option linter.all false
set_option maxRecDepth 100000
set_option maxHeartbeats 2000000
/-! More of what a head is asked: class methods, class constants, errors that are told apart. -/
namespace MH
open PySem PySem.Spec PyProof.Rows L2

/-- a plain class is read by its name -/
def fRead (x : Str) : Fg → Bool := fun K => PySem.W.readsIn K (He.ga K x) (.type "type") && isV (PySem.W.specialIn K (.ref (He.ga K x)) "__getattribute__") (some (some (.builtin "type.__getattribute__")))
theorem read_of {K : Fg} {x : Str} (c : fRead x K = true) : ClX.CRead K (He.ga K x) (.type "type") := by
  obtain ⟨a, b⟩ := two c
  exact ⟨a, of_decide_eq_true b⟩
/-- x.f is the text z -/
def fText (x f z : Str) : Fg → Bool := fun K => match PySem.W.findCls K (.ref (He.ga K x)) (.type "type") f with
  | some (.val (.str y _)) => decide (y = z)
  | _ => false
theorem text_of {K : Fg} {x f z : Str} (c : fText x f z K = true) : ∃ u, ClX.CVal K (He.ga K x) (.type "type") f (.str z) u := by
  unfold fText at c
  revert c
  split
  · rename_i y t h
    intro c
    obtain rfl := of_decide_eq_true c
    exact ⟨_, h, t, rfl⟩
  · exact fun c => nomatch c
/-- o.f of an instance is the text z of its class -/
def fCMet (x m : Str) : Fg → Bool := fun K => (match PySem.W.findCls K (.ref (He.ga K x)) (.type "type") m with
  | some (.get (.builtin g) (.ref p) .none (.ref C)) => decide (g = "classmethod.__get__") && (decide (p = He.ma K (He.ga K x) m) && decide (C = He.ga K x))
  | _ => false) && ((match PySem.W.recIn K (He.ma K (He.ga K x) m) "classmethod" with
  | some (.ref g :: _) => decide (g = cm x m K)
  | _ => false) && PySem.W.fnIn K (cm x m K))
theorem cmet_of {K : Fg} {x m : Str} (c : fCMet x m K = true) : ClX.CMet K (He.ga K x) (.type "type") m (He.ma K (He.ga K x) m) (cm x m K) := by
  obtain ⟨a, c⟩ := two c
  obtain ⟨b, d⟩ := two c
  refine ⟨?_, ?_, d⟩
  · revert a
    split
    · rename_i g p C h
      intro a
      obtain ⟨a1, a⟩ := two a
      obtain ⟨a2, a3⟩ := two a
      obtain rfl := of_decide_eq_true a1
      obtain rfl := of_decide_eq_true a2
      obtain rfl := of_decide_eq_true a3
      exact h
    · exact fun a => nomatch a
  · revert b
    split
    · rename_i g rest h
      intro b
      obtain rfl := of_decide_eq_true b
      exact ⟨_, h⟩
    · exact fun a => nomatch a
/-- what isinstance asks of a class with dicts -/
def fTyI (x : Str) : Fg → Bool := fun K => isV (PySem.W.findIn K (.ref (He.ga K x)) "__class__") (some (some (.builtin "object.__class__"))) && (isV (PySem.W.specialIn K (.builtin "object.__class__") "__get__") (some (some (.builtin "getset_descriptor.__get__"))) &&
  (decide (PySem.W.takesIn K (.builtin "object.__class__") = some true) && decide (PySem.W.mroIn K (He.ga K x) (.type "object") = some true)))
theorem tyI_of {K : Fg} {x : Str} (c : fTyI x K = true) (cl : Cls K (He.ga K x)) {H : Hp} {a dx : Addr} {fs : List (Str × V)} (e : H a = some (.ins (He.ga K x) dx fs)) : TyX K H (.ref a) (.ref (He.ga K x)) := by
  obtain ⟨a1, c⟩ := two c
  obtain ⟨a2, c⟩ := two c
  obtain ⟨a3, a4⟩ := two c
  exact .base (.ins e cl (of_decide_eq_true a1) (of_decide_eq_true a2) (of_decide_eq_true a3) (of_decide_eq_true a4))
/-- things of the type t are no x -/
def fNotF (x : Str) (t : String) : Fg → Bool := fun K => PySem.W.notFirst K (He.ga K x) (.type t)
/-- an error of class x may be asked for its class -/
def fAsks (x : Str) : Fg → Bool := fun K => isV (PySem.W.findIn K (.ref (He.ga K x)) "__getattribute__") (some (some (.builtin "BaseException.__getattribute__"))) && (isV (PySem.W.findIn K (.ref (He.ga K x)) "__getattr__") (some none) &&
  (decide (PySem.W.subIn K (.ref (He.ga K x)) (.type "BaseException") = some true) && (PySem.W.hasDictIn K (He.ga K x) && (isV (PySem.W.findIn K (.ref (He.ga K x)) "__class__") (some (some (.builtin "object.__class__"))) &&
  (isV (PySem.W.specialIn K (.builtin "object.__class__") "__get__") (some (some (.builtin "getset_descriptor.__get__"))) && (decide (PySem.W.takesIn K (.builtin "object.__class__") = some true) &&
  decide (PySem.W.mroIn K (He.ga K x) (.type "object") = some true)))))))
theorem asks_of {K : Fg} {x : Str} (c : fAsks x K = true) : PySem.W.OwnT.Asks K (He.ga K x) := by
  obtain ⟨a1, c⟩ := two c
  obtain ⟨a2, c⟩ := two c
  obtain ⟨a3, c⟩ := two c
  obtain ⟨a4, c⟩ := two c
  obtain ⟨a5, c⟩ := two c
  obtain ⟨a6, c⟩ := two c
  obtain ⟨a7, a8⟩ := two c
  exact ⟨of_decide_eq_true a1, of_decide_eq_true a2, of_decide_eq_true a3, a4, of_decide_eq_true a5, of_decide_eq_true a6, of_decide_eq_true a7, of_decide_eq_true a8⟩
/-- except y: does it catch an error of class x? -/
def fExm (x : Str) (y : Str) (b : Bool) : Fg → Bool := fun K => decide (PySem.W.exmOne K (.ref (He.ga K x)) (.ref (He.ga K y)) = some b)
/-- isinstance(an x, y) -/
def fKit (x : Str) (y : Str) (b : Bool) : Fg → Bool := fun K => decide (PySem.W.kitOne K (.ref (He.ga K x)) (.ref (He.ga K y)) = some b)
def fKitT (x : Str) (y : String) (b : Bool) : Fg → Bool := fun K => decide (PySem.W.kitOne K (.ref (He.ga K x)) (.type y) = some b)
def fKitB (t : String) (y : Str) (b : Bool) : Fg → Bool := fun K => decide (PySem.W.kitOne K (.type t) (.ref (He.ga K y)) = some b)
def fExmT (x : Str) (y : String) (b : Bool) : Fg → Bool := fun K => decide (PySem.W.exmOne K (.ref (He.ga K x)) (.type y) = some b)
theorem kitB_of {K : Fg} {t : String} {y : Str} {b : Bool} (c : fKitB t y b K = true) : PySem.W.kitOne K (.type t) (.ref (He.ga K y)) = some b := of_decide_eq_true c
theorem exmT_of {K : Fg} {x : Str} {y : String} {b : Bool} (c : fExmT x y b K = true) : PySem.W.exmOne K (.ref (He.ga K x)) (.type y) = some b := of_decide_eq_true c
theorem exm_of {K : Fg} {x y : Str} {b : Bool} (c : fExm x y b K = true) : PySem.W.exmOne K (.ref (He.ga K x)) (.ref (He.ga K y)) = some b := of_decide_eq_true c
theorem kit_of {K : Fg} {x y : Str} {b : Bool} (c : fKit x y b K = true) : PySem.W.kitOne K (.ref (He.ga K x)) (.ref (He.ga K y)) = some b := of_decide_eq_true c
theorem kitT_of {K : Fg} {x : Str} {y : String} {b : Bool} (c : fKitT x y b K = true) : PySem.W.kitOne K (.ref (He.ga K x)) (.type y) = some b := of_decide_eq_true c
end MH

set_option Elab.async false
set_option linter.all false
set_option maxRecDepth 100000
set_option maxHeartbeats 2000000
/-! What a head is asked of the module's constants. -/
namespace Vm
open PySem PySem.Spec PyProof.Rows L2
mutual
/-- the value v is the data d, by the written part -/
def chkD (K : PySem.W.Frag) : D → Value → Bool
  | .non, .none => true
  | .bl b, .bool c => b == c
  | .int i, .int j _ => i == j
  | .str z, .str y _ => y.cps.toList == z
  | .tup ds, .ref a => (match K.lookup a with
    | some ⟨.type "tuple", _, .seq its _, _⟩ => decide (its.size ≤ 16777216) && chkDs K ds its.toList
    | _ => false)
  | _, _ => false
def chkDs (K : PySem.W.Frag) : List D → List Value → Bool
  | [], [] => true
  | d :: ds, v :: vs => chkD K d v && chkDs K ds vs
  | _, _ => false
end
mutual
theorem chk_ok {B : Tb} : ∀ {d : D} {v : Value}, chkD B.K d v = true → ∃ x, RelV x v ∧ ∀ G, Rp B G d x
  | .non, .none, _ => ⟨.non, rfl, fun _ => .non⟩
  | .bl b, .bool c, h => by
    have : b = c := eq_of_beq (by simpa only [chkD] using h)
    subst this
    exact ⟨.bl b, rfl, fun _ => .bl b⟩
  | .int i, .int j t, h => by
    have : i = j := eq_of_beq (by simpa only [chkD] using h)
    subst this
    exact ⟨.int i, ⟨t, rfl⟩, fun _ => .int i⟩
  | .str z, .str y t, h => by
    have : y.cps.toList = z := eq_of_beq (by simpa only [chkD] using h)
    subst this
    exact ⟨.str y, ⟨t, rfl⟩, fun _ => Rp.str y.cps.toList⟩
  | .tup ds, .ref a, h => by
    simp only [chkD] at h
    split at h
    · rename_i dc its n sl hl
      rw [Bool.and_eq_true] at h
      obtain ⟨xs, h1, h2⟩ := chks_ok h.2
      exact ⟨.ref a, rfl, fun G => .tup (.inr ⟨_, its, n, hl, rfl, rfl, of_decide_eq_true h.1, h1⟩) (h2 G)⟩
    · cases h
  | .lst _, _, h => by simp [chkD] at h
  | .dic _, _, h => by simp [chkD] at h
  | .obj _ _, _, h => by simp [chkD] at h
  | .cls _, _, h => by simp [chkD] at h
  | .ty _, _, h => by simp [chkD] at h
theorem chks_ok {B : Tb} : ∀ {ds : List D} {vs : List Value}, chkDs B.K ds vs = true → ∃ xs, Vals xs vs ∧ ∀ G, Rps B G ds xs
  | [], [], _ => ⟨[], .nil, fun _ => .nil⟩
  | d :: ds, v :: vs, h => by
    simp only [chkDs, Bool.and_eq_true] at h
    obtain ⟨x, h1, h2⟩ := chk_ok h.1
    obtain ⟨xs, h3, h4⟩ := chks_ok h.2
    exact ⟨x :: xs, .cons h1 h3, fun G => .cons (h2 G) (h4 G)⟩
  | [], _ :: _, h => by simp [chkDs] at h
  | _ :: _, [], h => by simp [chkDs] at h
end
/-- the module's name x stands for d -/
def fCst (x : Str) (d : D) : MH.Fg → Bool := fun K => match PySem.W.nsIn K mainGlobals x with
  | some (some v) => chkD K d v
  | _ => false
theorem cst_of {B : Tb} {h : Heap} {mg : Str → Option Value} {x : Str} {d : D} (X : B.K.In h) (N : h.Ns mainGlobals mg) (c : fCst x d B.K = true) : ∃ v u, mg x = some u ∧ RelV v u ∧ ∀ G, Rp B G d v := by
  unfold fCst at c
  split at c
  · rename_i v hv
    obtain ⟨y, h1, h2⟩ := chk_ok c
    exact ⟨y, v, PySem.W.mg_of X N hv, h1, h2⟩
  · cases c
end Vm

set_option Elab.async false
set_option linter.all false
set_option maxRecDepth 100000
set_option maxHeartbeats 4000000
/-! A law's defs: tables of names, and promises from them. -/
namespace Vm
open PySem PySem.Spec PyProof.Rows L2

/-! ### what is given, put into the parameters' order -/
def gAll {α : Type} (l _ : List α) : List α := l
def gEnd {α : Type} (l m : List α) : List α := l ++ m
def gMid {α : Type} : List α → List α → List α
  | [a, c], [b] => [a, b, c]
  | _, _ => []
def gSwap {α : Type} : List α → List α → List α
  | [a, c, b], _ => [a, b, c]
  | _, _ => []
/-! ### fields by their ids -/
def fldN (l : List Str) (n : Nat) : Str := match l[n]? with
  | some s => s
  | none => T (List.replicate (n + 100) 42)
theorem fldN_inj {l : List Str} (h1 : l.Nodup) (h2 : l.all (fun s => decide (s.length < 100)) = true) : ∀ i j, fldN l i = fldN l j → i = j := by
  have hl : ∀ {i : Nat} {s : Str}, l[i]? = some s → s.length < 100 := fun {i s} e => of_decide_eq_true (List.all_eq_true.mp h2 s (List.mem_of_getElem? e))
  have tl : ∀ n : Nat, (T (List.replicate n 42)).length = n := fun n => by rw [T_len, List.length_replicate]
  intro i j e
  unfold fldN at e
  cases hi : l[i]? with
  | none =>
    cases hj : l[j]? with
    | none =>
      rw [hi, hj] at e
      have := congrArg Str.length e
      simp only [tl] at this
      omega
    | some s =>
      rw [hi, hj] at e
      have := congrArg Str.length e
      simp only [tl] at this
      have := hl hj
      omega
  | some s =>
    cases hj : l[j]? with
    | none =>
      rw [hi, hj] at e
      have := congrArg Str.length e
      simp only [tl] at this
      have := hl hi
      omega
    | some s' =>
      rw [hi, hj] at e
      simp only at e
      subst e
      exact (List.getElem?_inj (List.getElem?_eq_some_iff.mp hi).1 h1).mp (hi.trans hj.symm)
def atN (l : List Addr) (n : Nat) : Addr := l.getD n 0

/-! ### tables -/
def AllL {α β : Type} (P : α → β → Prop) : List (α × β) → Prop
  | [] => True
  | (a, b) :: r => P a b ∧ AllL P r
theorem AllL.look {α β : Type} [BEq α] [LawfulBEq α] {P : α → β → Prop} : ∀ {l : List (α × β)}, AllL P l → ∀ {a : α} {b : β}, l.lookup a = some b → P a b
  | [], _, _, _, h => nomatch h
  | (x, y) :: r, p, a, b, h => by
    rw [List.lookup_cons] at h
    by_cases q : a = x
    · subst q
      rw [beq_self_eq_true] at h
      cases h
      exact p.1
    · rw [beq_eq_false_iff_ne.mpr q] at h
      exact AllL.look p.2 h
/-- the tables of a def over those of its law -/
def gw (g : Gm) (N : List Str) (sc : Scope) (lv : Nat) (cm : Bool) (fns : List (Str × FnE)) (kws : List ((Str × Nat × List (Option Str)) × FnE)) : Gm :=
  { g with N := N, sc := sc, sc0 := sc, lv := lv, cm := cm, fns := fun x => fns.lookup x, kwc := fun x n ks => kws.lookup (x, n, ks) }
section
variable {P : Program} {w : World} {mg : Str → Option Value} {base : Heap} {B : Tb} {g : Gm}
theorem GF.gw {N : List Str} {sc : Scope} {lv : Nat} {cm : Bool} {fns : List (Str × FnE)} {kws : List ((Str × Nat × List (Option Str)) × FnE)} (G : GF P w mg base B g)
    (h1 : AllL (fun x fe => ∃ f, mg x = some (.ref f) ∧ PySem.W.keepIn B.K (.ref f) = true ∧ FP P w B.K mg base B fe.lv f fe.F fe.np fe.dv ∧ (fe.hot = true → FPH P w B.K mg base B fe.lv f fe.F fe.np)) fns)
    (h2 : AllL (fun x fe => ∃ f, mg x.1 = some (.ref f) ∧ PySem.W.keepIn B.K (.ref f) = true ∧ FPK P w B.K mg base B fe.lv f x.2.1 (x.2.2.filterMap id) fe.F fe.np) kws) : GF P w mg base B (gw g N sc lv cm fns kws) where
  fns := fun x fe h => h1.look h
  cst := G.cst
  free := G.free
  flds := G.flds
  mks := G.mks
  mth := G.mth
  cms := G.cms
  clsN := G.clsN
  kt := G.kt
  clv := G.clv
  err := G.err
  exn := G.exn
  ask := G.ask
  kwc := fun x n ks fe h => h2.look (a := (x, n, ks)) h

/-! ### promises -/
variable {x qual : Str} {st : Stmt} {dvs : List V} {kws : List (Str × V)} {fd : FuncData} {N ps ks : List Str} {m : Tx} {n : Nat} {f : Addr} {k np : Nat} {F : Fn}
theorem fp_mk {params : Arguments} {body : List Stmt} {scope : Scope} (Df : FunD B.K x qual params body scope [] kws f fd) (h : FnOk P w B.K mg base (L2N.CX P w) k f fd ps (spF B F ps.length)) (hl : ∀ as, F as ≠ .bad → as.length = ps.length)
    (hb : ∀ (kV doc pm : Value) (an : Option Addr) (cdv ct : Value) (us : List Value), us.length = ps.length → bindArgs (PySem.W.fnOf x qual params body scope .none kV doc pm an cdv ct) ⟨us, []⟩ = pure (ps.zip us)) : FP P w B.K mg base B k f F ps.length [] :=
  fp_of (Z.ok_of Df h hb) (fun _ => .nil) hl
theorem fph_mk {params : Arguments} {body : List Stmt} {scope : Scope} (Df : FunD B.K x qual params body scope [] kws f fd) (h : L2H.FnH P w B.K mg base (L2N.CX P w) k f fd ps (spF B F ps.length)) (hl : ∀ as, F as ≠ .bad → as.length = ps.length)
    (hb : ∀ (kV doc pm : Value) (an : Option Addr) (cdv ct : Value) (us : List Value), us.length = ps.length → bindArgs (PySem.W.fnOf x qual params body scope .none kV doc pm an cdv ct) ⟨us, []⟩ = pure (ps.zip us)) : FPH P w B.K mg base B k f F ps.length :=
  ⟨⟨fd, ps, h, Df.bindsN hb⟩, hl⟩
/-- keyword-only defaults, all left out -/
theorem fp_kw0 {params : Arguments} {body : List Stmt} {scope : Scope} {dv : List D} (Df : FunD B.K x qual params body scope [] kws f fd) (h : FnOk P w B.K mg base (L2N.CX P w) k f fd ps (spF B F ps.length)) (hl : ∀ as, F as ≠ .bad → as.length = ps.length) (n : Nat) (hk : kws ≠ []) (hn : n + kws.length = ps.length) (hd : ∀ G, Rps B G dv (kws.map (·.2)))
    (hb : ∀ (E : Addr) (doc pm : Value) (an : Option Addr) (cdv ct : Value) (us ks : List Value), us.length = n → ks.length = kws.length →
      KwChain E ((kws.map (·.1)).zip ks) (bindArgs (PySem.W.fnOf x qual params body scope .none (.ref E) doc pm an cdv ct) ⟨us, []⟩) (ps.zip (us ++ ks))) : FP P w B.K mg base B k f F ps.length dv := by
  obtain ⟨ds, v, b⟩   := Df.binds0 n hk hn hb
  exact fp_of ⟨⟨fd, ps, ds, h, b, v⟩, Df.kp⟩ hd hl
/-- some of them given by name: g puts the values given by place and by name (one behind the other) and the lacking ones' defaults in order -/
theorem fpk_mk {params : Arguments} {body : List Stmt} {scope : Scope} (Df : FunD B.K x qual params body scope [] kws f fd) (h : FnOk P w B.K mg base (L2N.CX P w) k f fd ps (spF B F ps.length)) (hl : ∀ as, F as ≠ .bad → as.length = ps.length) (j : Nat) (ks : List Str) (ms : List (Str × V)) (md : List D) (g : {α : Type} → List α → List α → List α)
    (hms : ∀ q ∈ ms, q ∈ kws) (hmd : ∀ G, Rps B G md (ms.map (·.2)))
    (hrel : ∀ {zs mz : List V} {ws mv : List Value}, zs.length = n → Vals zs ws → Vals mz mv → mz.length = ms.length → Vals (g zs mz) (g ws mv))
    (hrps : ∀ (G : Hp) (ds : List D) (vs : List V), ds.length = n → Rps B G ds vs → Rps B G (g ds md) (g vs (ms.map (·.2))))
    (hnk : ks.length + j = n) (hk : kws ≠ [])
    (hb : ∀ (E : Addr) (doc pm : Value) (an : Option Addr) (cdv ct : Value) (us ws mv : List Value), us.length = j → ws.length = ks.length → mv.length = ms.length →
      KwChain E ((ms.map (·.1)).zip mv) (bindArgs (PySem.W.fnOf x qual params body scope .none (.ref E) doc pm an cdv ct) ⟨us, ks.zip ws⟩) (ps.zip (g (us ++ ws) mv))) : FPK P w B.K mg base B k f j ks (adF n (fun ds => g ds md) F) n := by
  refine ⟨fun A outer s H us ws vs zs Q E hr e0 r rz hvj hs => ?_, adF_len⟩
  obtain ⟨oc, od, dV, kV, doc, pm, an, cdv, ct, osl, rfl, lk, hcd, hD, hK⟩   := Df.ex
  rcases hD with ⟨_, rfl⟩ | ⟨e, _⟩
  · rcases hK with e | ⟨E0, rfl, hq⟩
    · exact absurd e hk
    · obtain ⟨mv, l1, rk, hks⟩ := kwd_vals (ms := ms) fun q hm => hq q (hms q hm)
      have hn := hs.1
      have q := adF_ok (m := ps.length) hl hrps hs
      have rr := r.append rz
      have v2 := hrel hn rr rk (by rw [List.length_map])
      have hl2 : (us ++ ws).length = n := rr.length.symm.trans hn
      have hu : us.length = j := r.length.symm.trans hvj
      have hw : ws.length = ks.length := by rw [List.length_append] at hl2; omega
      have kin : B.K.In s.heap := e0.mod.kin.keeps fun b x y => (e0.bs b x y).1
      have bt : BindsTo s (PySem.W.fnOf x qual params body scope .none (.ref E0) doc pm an cdv ct) ⟨us, ks.zip ws⟩ (ps.zip (g (us ++ ws) mv)) := BindsTo.of_looks fun M => KwChain.looks kin hks (hb E0 doc pm an cdv ct us ws mv hu hw l1)
      exact h.run A outer s H ⟨us, ks.zip ws⟩ (g (us ++ ws) mv) _ Q E hr e0 bt v2 q
  · exact absurd rfl e
end
end Vm

set_option Elab.async false
set_option linter.all false
set_option maxRecDepth 100000
set_option maxHeartbeats 2000000
/-! The end of a law. -/
namespace Vm
open PySem PySem.Spec PyProof.Rows L2
theorem rps_ints {B : Tb} {G : Hp} : ∀ ns : List Int, Rps B G (ns.map D.int) (ns.map V.int)
  | [] => .nil
  | n :: ns => .cons (.int n) (rps_ints ns)
theorem law_sp {B : Tb} {F : Fn} {ns : List Int} {outs : List D} (hF : F [.val (.lst (ns.map D.int))] = .ret (.val (.bl true)) outs) {H : Hp} {a : Addr} (hS : SqL B.K H a (ns.map V.int)) {E : XK} : spF B F 1 [.ref a] H (fun v _ => v = .bl true) E := by
  refine ⟨rfl, [.val (.lst (ns.map D.int))], H, ⟨.cons (.val (.lst hS (rps_ints ns))) .nil, Same.refl _, fun i j b h _ => ?_⟩, ?_⟩
  · exact (no_io (ds := [.lst (ns.map D.int)]) h).elim
  · rw [hF]
    intro v G' H' _ r
    cases r with
    | val q => cases q; rfl
/-- .. of a def that lets nothing out -/
theorem ok0 {P : Program} {w : World} {K : PySem.W.Frag} {mg : Str → Option Value} {base : Heap} {B : Tb} {k np : Nat} {f : Addr} {fd : FuncData} {ps : List Str} {F : Fn} (D : FnOk P w K mg base (L2N.CX P w) k f fd ps (spF B F np)) :
    FnOk P w K mg base CX0 k f fd ps (fun vs H Q _ => spF B F np vs H Q fun _ _ _ => False) := by
  refine ⟨fun vs H Q E h => D.len _ _ _ _ h, fun A outer s H args us vs Q E hr e0 b r h => ?_⟩
  refine codeAny_mono (D.run A outer s H args us vs Q (fun _ _ _ => False) hr e0 b r h) fun x s' z => ?_
  cases x with
  | error e => exact (cxN_false z).elim
  | ok fl => cases fl <;> exact z
end Vm

set_option Elab.async false
set_option linter.all false
set_option maxRecDepth 100000
set_option maxHeartbeats 0
namespace K19
open PySem PySem.Spec PyProof.Rows L2
/-! ### the text by places -/
def top (i : Nat) : Stmt := PySem.Challenge.pw_pagebureau_k19_fill_text_and_refusals.main.body.getD i (.Pass ⟨0, 0, 0, 0⟩)
abbrev s_BadMarks_init : Stmt := inClass (top 2) 0
abbrev s_BadText_init : Stmt := inClass (top 3) 0
abbrev s_BadStep_init : Stmt := inClass (top 4) 0
abbrev s_is_plain_integer : Stmt := top 7
abbrev s_is_digits : Stmt := top 8
abbrev s_written : Stmt := top 9
abbrev s_read_integer : Stmt := top 10
abbrev s_is_mark : Stmt := top 12
abbrev s_is_marks_text : Stmt := top 13
abbrev s_Marks_init : Stmt := inClass (top 14) 1
abbrev s_Marks_read : Stmt := inClass (top 14) 2
abbrev s_Marks_text : Stmt := inClass (top 14) 3
abbrev s_Marks_len : Stmt := inClass (top 14) 4
abbrev s_Marks_iter : Stmt := inClass (top 14) 5
abbrev s_Marks_bool : Stmt := inClass (top 14) 6
abbrev s_Marks_contains : Stmt := inClass (top 14) 7
abbrev s_Marks_and : Stmt := inClass (top 14) 8
abbrev s_Marks_or : Stmt := inClass (top 14) 9
abbrev s_Marks_sub : Stmt := inClass (top 14) 10
abbrev s_Marks_xor : Stmt := inClass (top 14) 11
abbrev s_Marks_invert : Stmt := inClass (top 14) 12
abbrev s_Marks_le : Stmt := inClass (top 14) 13
abbrev s_Marks_eq : Stmt := inClass (top 14) 14
abbrev s__is_limit : Stmt := top 19
abbrev s_is_fill_step : Stmt := top 20
abbrev s_fill_step : Stmt := top 21
abbrev s__word_behind : Stmt := top 22
abbrev s_read_fill : Stmt := top 23
abbrev s_fill_text : Stmt := top 24
abbrev s_L_pool : Stmt := top 26
abbrev s_L_draw : Stmt := top 27
abbrev s_L_pick : Stmt := top 28
abbrev s_L_letters : Stmt := top 29
abbrev s_L_whole : Stmt := top 30
abbrev s_L_set : Stmt := top 31
abbrev s_L_valid : Stmt := top 32
abbrev s_L_is_step : Stmt := top 33
abbrev s_L_made : Stmt := top 34
abbrev s_L_short : Stmt := top 35
abbrev s_L_text : Stmt := top 36
abbrev s_L_reading : Stmt := top 37
abbrev s_L_reads : Stmt := top 38
abbrev s_L_odd : Stmt := top 39
abbrev s_L_spoilt : Stmt := top 40
abbrev s_L_limit : Stmt := top 41
abbrev s_L_stop : Stmt := top 42
abbrev s_L_good : Stmt := top 43
abbrev s_law : Stmt := top 44
theorem sc_BadMarks_init : NdefX.NScope ["self", "given", "__class__"] ["self", "given"] ["__class__"] (defScope s_BadMarks_init) := NdefX.nscope_by (by decide +kernel)
theorem sc_BadText_init : NdefX.NScope ["self", "at", "__class__"] ["self", "at"] ["__class__"] (defScope s_BadText_init) := NdefX.nscope_by (by decide +kernel)
theorem sc_BadStep_init : NdefX.NScope ["self", "at", "__class__"] ["self", "at"] ["__class__"] (defScope s_BadStep_init) := NdefX.nscope_by (by decide +kernel)
theorem sc_is_plain_integer : FnScope ["thing"] ["thing"] (defScope s_is_plain_integer) := ⟨rfl, rfl, rfl, by decide +kernel, rfl, by decide +kernel, by decide +kernel⟩
theorem sc_is_digits : FnScope ["text"] ["text"] (defScope s_is_digits) := ⟨rfl, rfl, rfl, by decide +kernel, rfl, by decide +kernel, by decide +kernel⟩
theorem sc_written : FnScope ["number", "sign", "rest", "digits", "low"] ["number"] (defScope s_written) := ⟨rfl, rfl, rfl, by decide +kernel, rfl, by decide +kernel, by decide +kernel⟩
theorem sc_read_integer : FnScope ["text", "most", "digits", "number"] ["text", "most"] (defScope s_read_integer) := ⟨rfl, rfl, rfl, by decide +kernel, rfl, by decide +kernel, by decide +kernel⟩
theorem sc_is_mark : FnScope ["thing"] ["thing"] (defScope s_is_mark) := ⟨rfl, rfl, rfl, by decide +kernel, rfl, by decide +kernel, by decide +kernel⟩
theorem sc_is_marks_text : FnScope ["thing", "mark"] ["thing"] (defScope s_is_marks_text) := ⟨rfl, rfl, rfl, by decide +kernel, rfl, by decide +kernel, by decide +kernel⟩
theorem sc_Marks_init : FnScope ["self", "letters", "mark", "letter"] ["self", "letters"] (defScope s_Marks_init) := ⟨rfl, rfl, rfl, by decide +kernel, rfl, by decide +kernel, by decide +kernel⟩
theorem sc_Marks_read : FnScope ["cls", "text"] ["cls", "text"] (defScope s_Marks_read) := ⟨rfl, rfl, rfl, by decide +kernel, rfl, by decide +kernel, by decide +kernel⟩
theorem sc_Marks_text : FnScope ["self"] ["self"] (defScope s_Marks_text) := ⟨rfl, rfl, rfl, by decide +kernel, rfl, by decide +kernel, by decide +kernel⟩
theorem sc_Marks_len : FnScope ["self"] ["self"] (defScope s_Marks_len) := ⟨rfl, rfl, rfl, by decide +kernel, rfl, by decide +kernel, by decide +kernel⟩
theorem sc_Marks_iter : FnScope ["self"] ["self"] (defScope s_Marks_iter) := ⟨rfl, rfl, rfl, by decide +kernel, rfl, by decide +kernel, by decide +kernel⟩
theorem sc_Marks_bool : FnScope ["self"] ["self"] (defScope s_Marks_bool) := ⟨rfl, rfl, rfl, by decide +kernel, rfl, by decide +kernel, by decide +kernel⟩
theorem sc_Marks_contains : FnScope ["self", "x"] ["self", "x"] (defScope s_Marks_contains) := ⟨rfl, rfl, rfl, by decide +kernel, rfl, by decide +kernel, by decide +kernel⟩
theorem sc_Marks_and : FnScope ["self", "other", "mark"] ["self", "other"] (defScope s_Marks_and) := ⟨rfl, rfl, rfl, by decide +kernel, rfl, by decide +kernel, by decide +kernel⟩
theorem sc_Marks_or : FnScope ["self", "other"] ["self", "other"] (defScope s_Marks_or) := ⟨rfl, rfl, rfl, by decide +kernel, rfl, by decide +kernel, by decide +kernel⟩
theorem sc_Marks_sub : FnScope ["self", "other", "mark"] ["self", "other"] (defScope s_Marks_sub) := ⟨rfl, rfl, rfl, by decide +kernel, rfl, by decide +kernel, by decide +kernel⟩
theorem sc_Marks_xor : FnScope ["self", "other"] ["self", "other"] (defScope s_Marks_xor) := ⟨rfl, rfl, rfl, by decide +kernel, rfl, by decide +kernel, by decide +kernel⟩
theorem sc_Marks_invert : FnScope ["self"] ["self"] (defScope s_Marks_invert) := ⟨rfl, rfl, rfl, by decide +kernel, rfl, by decide +kernel, by decide +kernel⟩
theorem sc_Marks_le : FnScope ["self", "other", "mark"] ["self", "other"] (defScope s_Marks_le) := ⟨rfl, rfl, rfl, by decide +kernel, rfl, by decide +kernel, by decide +kernel⟩
theorem sc_Marks_eq : FnScope ["self", "other"] ["self", "other"] (defScope s_Marks_eq) := ⟨rfl, rfl, rfl, by decide +kernel, rfl, by decide +kernel, by decide +kernel⟩
theorem sc__is_limit : FnScope ["rows"] ["rows"] (defScope s__is_limit) := ⟨rfl, rfl, rfl, by decide +kernel, rfl, by decide +kernel, by decide +kernel⟩
theorem sc_is_fill_step : FnScope ["thing", "way", "rows", "halt"] ["thing"] (defScope s_is_fill_step) := ⟨rfl, rfl, rfl, by decide +kernel, rfl, by decide +kernel, by decide +kernel⟩
theorem sc_fill_step : FnScope ["way", "rows", "halt", "step"] ["way", "rows", "halt"] (defScope s_fill_step) := ⟨rfl, rfl, rfl, by decide +kernel, rfl, by decide +kernel, by decide +kernel⟩
theorem sc__word_behind : FnScope ["words", "name", "at", "word"] ["words", "name"] (defScope s__word_behind) := ⟨rfl, rfl, rfl, by decide +kernel, rfl, by decide +kernel, by decide +kernel⟩
theorem sc_read_fill : FnScope ["text", "words", "step", "rows", "halt"] ["text"] (defScope s_read_fill) := ⟨rfl, rfl, rfl, by decide +kernel, rfl, by decide +kernel, by decide +kernel⟩
theorem sc_fill_text : FnScope ["step", "limit", "border", "way", "rows", "halt"] ["step"] (defScope s_fill_text) := ⟨rfl, rfl, rfl, by decide +kernel, rfl, by decide +kernel, by decide +kernel⟩
theorem sc_L_pool : FnScope ["_law_script", "_law_seed", "_law_cell"] ["_law_script"] (defScope s_L_pool) := ⟨rfl, rfl, rfl, by decide +kernel, rfl, by decide +kernel, by decide +kernel⟩
theorem sc_L_draw : FnScope ["_law_pool_here", "_law_limit_here", "_law_mixed", "_law_digit"] ["_law_pool_here", "_law_limit_here"] (defScope s_L_draw) := ⟨rfl, rfl, rfl, by decide +kernel, rfl, by decide +kernel, by decide +kernel⟩
theorem sc_L_pick : FnScope ["_law_pool_here", "_law_things"] ["_law_pool_here", "_law_things"] (defScope s_L_pick) := ⟨rfl, rfl, rfl, by decide +kernel, rfl, by decide +kernel, by decide +kernel⟩
theorem sc_L_letters : FnScope ["_law_bits", "_law_letters_here", "_law_mark"] ["_law_bits"] (defScope s_L_letters) := ⟨rfl, rfl, rfl, by decide +kernel, rfl, by decide +kernel, by decide +kernel⟩
theorem sc_L_whole : FnScope ["_law_actual"] ["_law_actual"] (defScope s_L_whole) := ⟨rfl, rfl, rfl, by decide +kernel, rfl, by decide +kernel, by decide +kernel⟩
theorem sc_L_set : FnScope ["_law_letters_here", "_law_last", "_law_mark"] ["_law_letters_here"] (defScope s_L_set) := ⟨rfl, rfl, rfl, by decide +kernel, rfl, by decide +kernel, by decide +kernel⟩
theorem sc_L_valid : FnScope ["_law_way", "_law_limit_here", "_law_stop_here"] ["_law_way", "_law_limit_here", "_law_stop_here"] (defScope s_L_valid) := ⟨rfl, rfl, rfl, by decide +kernel, rfl, by decide +kernel, by decide +kernel⟩
theorem sc_L_is_step : FnScope ["_law_actual", "_law_due"] ["_law_actual", "_law_due"] (defScope s_L_is_step) := ⟨rfl, rfl, rfl, by decide +kernel, rfl, by decide +kernel, by decide +kernel⟩
theorem sc_L_made : FnScope ["_law_way", "_law_limit_here", "_law_stop_here", "_law_due", "e", "_law_step", "_law_own"] ["_law_way", "_law_limit_here", "_law_stop_here"] (defScope s_L_made) := ⟨rfl, rfl, rfl, by decide +kernel, rfl, by decide +kernel, by decide +kernel⟩
theorem sc_L_short : FnScope ["_law_way", "_law_limit_here", "_law_stop_here", "_law_steps"] ["_law_way", "_law_limit_here", "_law_stop_here"] (defScope s_L_short) := ⟨rfl, rfl, rfl, by decide +kernel, rfl, by decide +kernel, by decide +kernel⟩
theorem sc_L_text : FnScope ["_law_step", "_law_text_here"] ["_law_step"] (defScope s_L_text) := ⟨rfl, rfl, rfl, by decide +kernel, rfl, by decide +kernel, by decide +kernel⟩
theorem sc_L_reading : FnScope ["_law_text_here", "_law_words", "_law_limit_here", "_law_stop_here", "_law_rest"] ["_law_text_here"] (defScope s_L_reading) := ⟨rfl, rfl, rfl, by decide +kernel, rfl, by decide +kernel, by decide +kernel⟩
theorem sc_L_reads : FnScope ["_law_text_here", "_law_due", "e", "_law_step", "_law_own"] ["_law_text_here"] (defScope s_L_reads) := ⟨rfl, rfl, rfl, by decide +kernel, rfl, by decide +kernel, by decide +kernel⟩
theorem sc_L_odd : FnScope ["_law_pool_here", "_law_odd_here"] ["_law_pool_here"] (defScope s_L_odd) := ⟨rfl, rfl, rfl, by decide +kernel, rfl, by decide +kernel, by decide +kernel⟩
theorem sc_L_spoilt : FnScope ["_law_pool_here", "_law_step", "_law_text_here", "_law_words", "_law_kind", "_law_at", "_law_sign"] ["_law_pool_here", "_law_step"] (defScope s_L_spoilt) := ⟨rfl, rfl, rfl, by decide +kernel, rfl, by decide +kernel, by decide +kernel⟩
theorem sc_L_limit : FnScope ["_law_pool_here"] ["_law_pool_here"] (defScope s_L_limit) := ⟨rfl, rfl, rfl, by decide +kernel, rfl, by decide +kernel, by decide +kernel⟩
theorem sc_L_stop : FnScope ["_law_pool_here", "_law_odd_here"] ["_law_pool_here"] (defScope s_L_stop) := ⟨rfl, rfl, rfl, by decide +kernel, rfl, by decide +kernel, by decide +kernel⟩
theorem sc_L_good : FnScope ["_law_pool_here", "_law_way", "_law_limit_here"] ["_law_pool_here"] (defScope s_L_good) := ⟨rfl, rfl, rfl, by decide +kernel, rfl, by decide +kernel, by decide +kernel⟩
theorem sc_law : FnScope ["_law_script", "_law_pool_here", "_law_ways", "_law_k", "_law_step", "_law_texts", "_law_text_here", "_law_way", "_law_limit_here", "_law_stop_here", "_law_some"] ["_law_script"] (defScope s_law) := ⟨rfl, rfl, rfl, by decide +kernel, rfl, by decide +kernel, by decide +kernel⟩
/-! ### the defs, for the head -/
def d_BadMarks_init : MH.DefM := ⟨MH.mt "BadMarks" "__init__", "__init__", "BadMarks.__init__", defArgs s_BadMarks_init, defBody s_BadMarks_init, defScope s_BadMarks_init, [], [], ["__class__"]⟩
def d_BadText_init : MH.DefM := ⟨MH.mt "BadText" "__init__", "__init__", "BadText.__init__", defArgs s_BadText_init, defBody s_BadText_init, defScope s_BadText_init, [], [], ["__class__"]⟩
def d_BadStep_init : MH.DefM := ⟨MH.mt "BadStep" "__init__", "__init__", "BadStep.__init__", defArgs s_BadStep_init, defBody s_BadStep_init, defScope s_BadStep_init, [], [], ["__class__"]⟩
def d_is_plain_integer : MH.DefM := ⟨MH.gl "is_plain_integer", "is_plain_integer", "is_plain_integer", defArgs s_is_plain_integer, defBody s_is_plain_integer, defScope s_is_plain_integer, [], [], []⟩
def d_is_digits : MH.DefM := ⟨MH.gl "is_digits", "is_digits", "is_digits", defArgs s_is_digits, defBody s_is_digits, defScope s_is_digits, [], [], []⟩
def d_written : MH.DefM := ⟨MH.gl "written", "written", "written", defArgs s_written, defBody s_written, defScope s_written, [], [], []⟩
def d_read_integer : MH.DefM := ⟨MH.gl "read_integer", "read_integer", "read_integer", defArgs s_read_integer, defBody s_read_integer, defScope s_read_integer, [], [], []⟩
def d_is_mark : MH.DefM := ⟨MH.gl "is_mark", "is_mark", "is_mark", defArgs s_is_mark, defBody s_is_mark, defScope s_is_mark, [], [], []⟩
def d_is_marks_text : MH.DefM := ⟨MH.gl "is_marks_text", "is_marks_text", "is_marks_text", defArgs s_is_marks_text, defBody s_is_marks_text, defScope s_is_marks_text, [], [], []⟩
def d_Marks_init : MH.DefM := ⟨MH.mt "Marks" "__init__", "__init__", "Marks.__init__", defArgs s_Marks_init, defBody s_Marks_init, defScope s_Marks_init, [(.str "")], [], []⟩
def d_Marks_read : MH.DefM := ⟨MH.cm "Marks" "read", "read", "Marks.read", defArgs s_Marks_read, defBody s_Marks_read, defScope s_Marks_read, [], [], []⟩
def d_Marks_text : MH.DefM := ⟨MH.mt "Marks" "text", "text", "Marks.text", defArgs s_Marks_text, defBody s_Marks_text, defScope s_Marks_text, [], [], []⟩
def d_Marks_len : MH.DefM := ⟨MH.mt "Marks" "__len__", "__len__", "Marks.__len__", defArgs s_Marks_len, defBody s_Marks_len, defScope s_Marks_len, [], [], []⟩
def d_Marks_iter : MH.DefM := ⟨MH.mt "Marks" "__iter__", "__iter__", "Marks.__iter__", defArgs s_Marks_iter, defBody s_Marks_iter, defScope s_Marks_iter, [], [], []⟩
def d_Marks_bool : MH.DefM := ⟨MH.mt "Marks" "__bool__", "__bool__", "Marks.__bool__", defArgs s_Marks_bool, defBody s_Marks_bool, defScope s_Marks_bool, [], [], []⟩
def d_Marks_contains : MH.DefM := ⟨MH.mt "Marks" "__contains__", "__contains__", "Marks.__contains__", defArgs s_Marks_contains, defBody s_Marks_contains, defScope s_Marks_contains, [], [], []⟩
def d_Marks_and : MH.DefM := ⟨MH.mt "Marks" "__and__", "__and__", "Marks.__and__", defArgs s_Marks_and, defBody s_Marks_and, defScope s_Marks_and, [], [], []⟩
def d_Marks_or : MH.DefM := ⟨MH.mt "Marks" "__or__", "__or__", "Marks.__or__", defArgs s_Marks_or, defBody s_Marks_or, defScope s_Marks_or, [], [], []⟩
def d_Marks_sub : MH.DefM := ⟨MH.mt "Marks" "__sub__", "__sub__", "Marks.__sub__", defArgs s_Marks_sub, defBody s_Marks_sub, defScope s_Marks_sub, [], [], []⟩
def d_Marks_xor : MH.DefM := ⟨MH.mt "Marks" "__xor__", "__xor__", "Marks.__xor__", defArgs s_Marks_xor, defBody s_Marks_xor, defScope s_Marks_xor, [], [], []⟩
def d_Marks_invert : MH.DefM := ⟨MH.mt "Marks" "__invert__", "__invert__", "Marks.__invert__", defArgs s_Marks_invert, defBody s_Marks_invert, defScope s_Marks_invert, [], [], []⟩
def d_Marks_le : MH.DefM := ⟨MH.mt "Marks" "__le__", "__le__", "Marks.__le__", defArgs s_Marks_le, defBody s_Marks_le, defScope s_Marks_le, [], [], []⟩
def d_Marks_eq : MH.DefM := ⟨MH.mt "Marks" "__eq__", "__eq__", "Marks.__eq__", defArgs s_Marks_eq, defBody s_Marks_eq, defScope s_Marks_eq, [], [], []⟩
def d__is_limit : MH.DefM := ⟨MH.gl "_is_limit", "_is_limit", "_is_limit", defArgs s__is_limit, defBody s__is_limit, defScope s__is_limit, [], [], []⟩
def d_is_fill_step : MH.DefM := ⟨MH.gl "is_fill_step", "is_fill_step", "is_fill_step", defArgs s_is_fill_step, defBody s_is_fill_step, defScope s_is_fill_step, [], [], []⟩
def d_fill_step : MH.DefM := ⟨MH.gl "fill_step", "fill_step", "fill_step", defArgs s_fill_step, defBody s_fill_step, defScope s_fill_step, [], [("rows", .non), ("halt", (.str "-"))], []⟩
def d__word_behind : MH.DefM := ⟨MH.gl "_word_behind", "_word_behind", "_word_behind", defArgs s__word_behind, defBody s__word_behind, defScope s__word_behind, [], [], []⟩
def d_read_fill : MH.DefM := ⟨MH.gl "read_fill", "read_fill", "read_fill", defArgs s_read_fill, defBody s_read_fill, defScope s_read_fill, [], [], []⟩
def d_fill_text : MH.DefM := ⟨MH.gl "fill_text", "fill_text", "fill_text", defArgs s_fill_text, defBody s_fill_text, defScope s_fill_text, [], [], []⟩
def d_L_pool : MH.DefM := ⟨MH.gl "_law_pool", "_law_pool", "_law_pool", defArgs s_L_pool, defBody s_L_pool, defScope s_L_pool, [], [], []⟩
def d_L_draw : MH.DefM := ⟨MH.gl "_law_draw", "_law_draw", "_law_draw", defArgs s_L_draw, defBody s_L_draw, defScope s_L_draw, [], [], []⟩
def d_L_pick : MH.DefM := ⟨MH.gl "_law_pick", "_law_pick", "_law_pick", defArgs s_L_pick, defBody s_L_pick, defScope s_L_pick, [], [], []⟩
def d_L_letters : MH.DefM := ⟨MH.gl "_law_letters", "_law_letters", "_law_letters", defArgs s_L_letters, defBody s_L_letters, defScope s_L_letters, [], [], []⟩
def d_L_whole : MH.DefM := ⟨MH.gl "_law_whole", "_law_whole", "_law_whole", defArgs s_L_whole, defBody s_L_whole, defScope s_L_whole, [], [], []⟩
def d_L_set : MH.DefM := ⟨MH.gl "_law_set", "_law_set", "_law_set", defArgs s_L_set, defBody s_L_set, defScope s_L_set, [], [], []⟩
def d_L_valid : MH.DefM := ⟨MH.gl "_law_valid", "_law_valid", "_law_valid", defArgs s_L_valid, defBody s_L_valid, defScope s_L_valid, [], [], []⟩
def d_L_is_step : MH.DefM := ⟨MH.gl "_law_is_step", "_law_is_step", "_law_is_step", defArgs s_L_is_step, defBody s_L_is_step, defScope s_L_is_step, [], [], []⟩
def d_L_made : MH.DefM := ⟨MH.gl "_law_made", "_law_made", "_law_made", defArgs s_L_made, defBody s_L_made, defScope s_L_made, [], [], []⟩
def d_L_short : MH.DefM := ⟨MH.gl "_law_short", "_law_short", "_law_short", defArgs s_L_short, defBody s_L_short, defScope s_L_short, [], [], []⟩
def d_L_text : MH.DefM := ⟨MH.gl "_law_text", "_law_text", "_law_text", defArgs s_L_text, defBody s_L_text, defScope s_L_text, [], [], []⟩
def d_L_reading : MH.DefM := ⟨MH.gl "_law_reading", "_law_reading", "_law_reading", defArgs s_L_reading, defBody s_L_reading, defScope s_L_reading, [], [], []⟩
def d_L_reads : MH.DefM := ⟨MH.gl "_law_reads", "_law_reads", "_law_reads", defArgs s_L_reads, defBody s_L_reads, defScope s_L_reads, [], [], []⟩
def d_L_odd : MH.DefM := ⟨MH.gl "_law_odd", "_law_odd", "_law_odd", defArgs s_L_odd, defBody s_L_odd, defScope s_L_odd, [], [], []⟩
def d_L_spoilt : MH.DefM := ⟨MH.gl "_law_spoilt", "_law_spoilt", "_law_spoilt", defArgs s_L_spoilt, defBody s_L_spoilt, defScope s_L_spoilt, [], [], []⟩
def d_L_limit : MH.DefM := ⟨MH.gl "_law_limit", "_law_limit", "_law_limit", defArgs s_L_limit, defBody s_L_limit, defScope s_L_limit, [], [], []⟩
def d_L_stop : MH.DefM := ⟨MH.gl "_law_stop", "_law_stop", "_law_stop", defArgs s_L_stop, defBody s_L_stop, defScope s_L_stop, [], [], []⟩
def d_L_good : MH.DefM := ⟨MH.gl "_law_good", "_law_good", "_law_good", defArgs s_L_good, defBody s_L_good, defScope s_L_good, [], [], []⟩
def d_law : MH.DefM := ⟨MH.gl "law", "law", "law", defArgs s_law, defBody s_law, defScope s_law, [], [], []⟩
def fn : List MH.DefM := [d_BadMarks_init, d_BadText_init, d_BadStep_init, d_is_plain_integer, d_is_digits, d_written, d_read_integer, d_is_mark, d_is_marks_text, d_Marks_init, d_Marks_read, d_Marks_text, d_Marks_len, d_Marks_iter, d_Marks_bool, d_Marks_contains, d_Marks_and, d_Marks_or, d_Marks_sub, d_Marks_xor, d_Marks_invert, d_Marks_le, d_Marks_eq, d__is_limit, d_is_fill_step, d_fill_step, d__word_behind, d_read_fill, d_fill_text, d_L_pool, d_L_draw, d_L_pick, d_L_letters, d_L_whole, d_L_set, d_L_valid, d_L_is_step, d_L_made, d_L_short, d_L_text, d_L_reading, d_L_reads, d_L_odd, d_L_spoilt, d_L_limit, d_L_stop, d_L_good, d_law]
/-! ### what the head is asked -/
def ex : List (MH.Fg → Bool) := [
  MH.fFree "super",
  MH.fFree "isinstance",
  MH.fFree "int",
  MH.fFree "bool",
  MH.fFree "abs",
  MH.fFree "divmod",
  MH.fFree "len",
  MH.fFree "str",
  MH.fFree "all",
  MH.fFree "classmethod",
  MH.fFree "iter",
  MH.fFree "NotImplemented",
  MH.fFree "tuple",
  MH.fFree "enumerate",
  MH.fFree "ValueError",
  MH.fFree "range",
  MH.fGlo "BadMarks",
  MH.fGlo "BadStep",
  MH.fGlo "BadText",
  MH.fGlo "BureauError",
  MH.fGlo "Marks",
  MH.fGlo "_is_limit",
  MH.fGlo "_law_draw",
  MH.fGlo "_law_good",
  MH.fGlo "_law_is_step",
  MH.fGlo "_law_letters",
  MH.fGlo "_law_limit",
  MH.fGlo "_law_made",
  MH.fGlo "_law_odd",
  MH.fGlo "_law_pick",
  MH.fGlo "_law_pool",
  MH.fGlo "_law_reading",
  MH.fGlo "_law_reads",
  MH.fGlo "_law_set",
  MH.fGlo "_law_short",
  MH.fGlo "_law_spoilt",
  MH.fGlo "_law_stop",
  MH.fGlo "_law_text",
  MH.fGlo "_law_valid",
  MH.fGlo "_law_whole",
  MH.fGlo "_word_behind",
  MH.fGlo "fill_step",
  MH.fGlo "fill_text",
  MH.fGlo "is_digits",
  MH.fGlo "is_fill_step",
  MH.fGlo "is_mark",
  MH.fGlo "is_marks_text",
  MH.fGlo "is_plain_integer",
  MH.fGlo "law",
  MH.fGlo "read_fill",
  MH.fGlo "read_integer",
  MH.fGlo "written",
  MH.fCls "Marks",
  MH.fMk "Marks",
  MH.fFirst "Marks",
  MH.fMeth "Marks" "__init__",
  MH.fMeth "Marks" "text",
  MH.fMeth "Marks" "__len__",
  MH.fMeth "Marks" "__iter__",
  MH.fMeth "Marks" "__bool__",
  MH.fMeth "Marks" "__contains__",
  MH.fMeth "Marks" "__and__",
  MH.fMeth "Marks" "__or__",
  MH.fMeth "Marks" "__sub__",
  MH.fMeth "Marks" "__xor__",
  MH.fMeth "Marks" "__invert__",
  MH.fMeth "Marks" "__le__",
  MH.fMeth "Marks" "__eq__",
  MH.fNoAt "Marks" "letters",
  MH.fOex "BureauError",
  MH.fOex "BadMarks",
  MH.fXin "BadMarks" (PySem.Challenge.pw_pagebureau_k19_fill_text_and_refusals.main.file),
  MH.fMeth "BadMarks" "__init__",
  MH.fNoAt "BadMarks" "given",
  MH.fOex "BadText",
  MH.fXin "BadText" (PySem.Challenge.pw_pagebureau_k19_fill_text_and_refusals.main.file),
  MH.fMeth "BadText" "__init__",
  MH.fNoAt "BadText" "at",
  MH.fOex "BadStep",
  MH.fXin "BadStep" (PySem.Challenge.pw_pagebureau_k19_fill_text_and_refusals.main.file),
  MH.fMeth "BadStep" "__init__",
  MH.fNoAt "BadStep" "at",
  MH.fRead "Marks",
  MH.fTyI "Marks",
  MH.fText "Marks" "ALL" "abcdef",
  MH.fCMet "Marks" "read",
  MH.fNotF "Marks" "str",
  MH.fNotF "Marks" "int",
  MH.fNotF "Marks" "bool",
  MH.fNotF "Marks" "list",
  MH.fNotF "Marks" "tuple",
  MH.fNotF "Marks" "NoneType",
  MH.fAsks "BadMarks",
  MH.fExm "BadMarks" "BadStep" false,
  MH.fExm "BadMarks" "BadText" false,
  MH.fKitT "BadMarks" "int" false,
  MH.fKitT "BadMarks" "str" false,
  MH.fKitT "BadMarks" "bool" false,
  MH.fKit "BadMarks" "Marks" false,
  MH.fKitT "BadMarks" "tuple" false,
  MH.fKit "BadMarks" "BureauError" true,
  MH.fKitT "BadMarks" "ValueError" true,
  MH.fKit "BadMarks" "BadText" false,
  MH.fKit "BadMarks" "BadStep" false,
  MH.fAsks "BadText",
  MH.fExm "BadText" "BadStep" false,
  MH.fExm "BadText" "BadText" true,
  MH.fKitT "BadText" "int" false,
  MH.fKitT "BadText" "str" false,
  MH.fKitT "BadText" "bool" false,
  MH.fKit "BadText" "Marks" false,
  MH.fKitT "BadText" "tuple" false,
  MH.fKit "BadText" "BureauError" true,
  MH.fKitT "BadText" "ValueError" true,
  MH.fKit "BadText" "BadText" true,
  MH.fKit "BadText" "BadStep" false,
  MH.fAsks "BadStep",
  MH.fExm "BadStep" "BadStep" true,
  MH.fExm "BadStep" "BadText" false,
  MH.fKitT "BadStep" "int" false,
  MH.fKitT "BadStep" "str" false,
  MH.fKitT "BadStep" "bool" false,
  MH.fKit "BadStep" "Marks" false,
  MH.fKitT "BadStep" "tuple" false,
  MH.fKit "BadStep" "BureauError" true,
  MH.fKitT "BadStep" "ValueError" true,
  MH.fKit "BadStep" "BadText" false,
  MH.fKit "BadStep" "BadStep" true,
  MH.fKitT "Marks" "int" false,
  MH.fKitT "Marks" "str" false,
  MH.fKitT "Marks" "bool" false,
  MH.fKit "Marks" "Marks" true,
  MH.fKitB "str" "Marks" false,
  MH.fKitB "int" "Marks" false,
  MH.fKitB "bool" "Marks" false,
  MH.fKitB "list" "Marks" false,
  MH.fKitB "tuple" "Marks" false,
  MH.fKitB "NoneType" "Marks" false,
  MH.fKitT "Marks" "tuple" false,
  MH.fKitT "Marks" "ValueError" false,
  Vm.fCst "_CHUNK" (.int (10 ^ 60)),
  Vm.fCst "_WAYS" (.tup [(.str [100, 111, 119, 110]), (.str [117, 112]), (.str [110, 101, 97, 114, 95, 97, 98, 111, 118, 101]), (.str [110, 101, 97, 114, 95, 98, 101, 108, 111, 119])]),
  Vm.fCst "_DROP" (.tup [(.str [100, 114, 111, 112]), .non, (.str [45])]),
  Vm.fCst "_MOST_ROWS" (.int 6)]
abbrev R : PySem.W.OpenRow := PySem.W.OpenLaw.row PySem.Challenge.rw_pagebureau_k19_fill_text_and_refusals
abbrev hk : PySem.W.Hook := MH.hook 7 ex fn
def ob (s : PySem.W.SharedT) : MH.AlM := MH.obsG 7 ex fn (HandSHeadRun.getT s)
def names : List Str := (["__name__", "BureauError", "BadMarks", "BadText", "BadStep", "_CHUNK", "is_plain_integer", "is_digits", "written", "read_integer", "is_mark", "is_marks_text"] : List Str) ++ (["Marks", "_WAYS", "_DROP", "_MOST_ROWS", "_is_limit", "is_fill_step", "fill_step", "_word_behind", "read_fill", "fill_text", "_law_pool", "_law_draw"] : List Str) ++ (["_law_pick", "_law_letters", "_law_whole", "_law_set", "_law_valid", "_law_is_step", "_law_made", "_law_short", "_law_text", "_law_reading", "_law_reads", "_law_odd"] : List Str) ++ (["_law_spoilt", "_law_limit", "_law_stop", "_law_good"] : List Str)
abbrev qv : Program := PySem.W.view R.prog [44]
theorem run (w : World) : HandSHeadRun.RunEq R qv hk ob 20000 names w := by
  intro os
  kernel_rfl
end K19

set_option Elab.async false
set_option linter.all false
set_option maxRecDepth 100000
set_option maxHeartbeats 0
namespace K19
open PySem PySem.Spec PyProof.Rows L2
/-! ### the facts by name -/
structure Tx (K : PySem.W.Frag) (mg : Str → Option Value) : Prop where
  says : MH.Says ex fn K
  ns : ∃ h, K.In h ∧ h.Ns mainGlobals mg
namespace Tx
variable {K : PySem.W.Frag} {mg : Str → Option Value}
theorem free_super (T : Tx K mg) : mg "super" = none := let ⟨_, X, G⟩ := T.ns; MH.free_of X G (T.says.fact 0)
theorem free_isinstance (T : Tx K mg) : mg "isinstance" = none := let ⟨_, X, G⟩ := T.ns; MH.free_of X G (T.says.fact 1)
theorem free_int (T : Tx K mg) : mg "int" = none := let ⟨_, X, G⟩ := T.ns; MH.free_of X G (T.says.fact 2)
theorem free_bool (T : Tx K mg) : mg "bool" = none := let ⟨_, X, G⟩ := T.ns; MH.free_of X G (T.says.fact 3)
theorem free_abs (T : Tx K mg) : mg "abs" = none := let ⟨_, X, G⟩ := T.ns; MH.free_of X G (T.says.fact 4)
theorem free_divmod (T : Tx K mg) : mg "divmod" = none := let ⟨_, X, G⟩ := T.ns; MH.free_of X G (T.says.fact 5)
theorem free_len (T : Tx K mg) : mg "len" = none := let ⟨_, X, G⟩ := T.ns; MH.free_of X G (T.says.fact 6)
theorem free_str (T : Tx K mg) : mg "str" = none := let ⟨_, X, G⟩ := T.ns; MH.free_of X G (T.says.fact 7)
theorem free_all (T : Tx K mg) : mg "all" = none := let ⟨_, X, G⟩ := T.ns; MH.free_of X G (T.says.fact 8)
theorem free_classmethod (T : Tx K mg) : mg "classmethod" = none := let ⟨_, X, G⟩ := T.ns; MH.free_of X G (T.says.fact 9)
theorem free_iter (T : Tx K mg) : mg "iter" = none := let ⟨_, X, G⟩ := T.ns; MH.free_of X G (T.says.fact 10)
theorem free_NotImplemented (T : Tx K mg) : mg "NotImplemented" = none := let ⟨_, X, G⟩ := T.ns; MH.free_of X G (T.says.fact 11)
theorem free_tuple (T : Tx K mg) : mg "tuple" = none := let ⟨_, X, G⟩ := T.ns; MH.free_of X G (T.says.fact 12)
theorem free_enumerate (T : Tx K mg) : mg "enumerate" = none := let ⟨_, X, G⟩ := T.ns; MH.free_of X G (T.says.fact 13)
theorem free_ValueError (T : Tx K mg) : mg "ValueError" = none := let ⟨_, X, G⟩ := T.ns; MH.free_of X G (T.says.fact 14)
theorem free_range (T : Tx K mg) : mg "range" = none := let ⟨_, X, G⟩ := T.ns; MH.free_of X G (T.says.fact 15)
theorem g_BadMarks (T : Tx K mg) : mg "BadMarks" = some (.ref (MH.gl "BadMarks" K)) := let ⟨_, X, G⟩ := T.ns; MH.glo_of X G (T.says.fact 16)
theorem g_BadStep (T : Tx K mg) : mg "BadStep" = some (.ref (MH.gl "BadStep" K)) := let ⟨_, X, G⟩ := T.ns; MH.glo_of X G (T.says.fact 17)
theorem g_BadText (T : Tx K mg) : mg "BadText" = some (.ref (MH.gl "BadText" K)) := let ⟨_, X, G⟩ := T.ns; MH.glo_of X G (T.says.fact 18)
theorem g_BureauError (T : Tx K mg) : mg "BureauError" = some (.ref (MH.gl "BureauError" K)) := let ⟨_, X, G⟩ := T.ns; MH.glo_of X G (T.says.fact 19)
theorem g_Marks (T : Tx K mg) : mg "Marks" = some (.ref (MH.gl "Marks" K)) := let ⟨_, X, G⟩ := T.ns; MH.glo_of X G (T.says.fact 20)
theorem g__is_limit (T : Tx K mg) : mg "_is_limit" = some (.ref (MH.gl "_is_limit" K)) := let ⟨_, X, G⟩ := T.ns; MH.glo_of X G (T.says.fact 21)
theorem g_L_draw (T : Tx K mg) : mg "_law_draw" = some (.ref (MH.gl "_law_draw" K)) := let ⟨_, X, G⟩ := T.ns; MH.glo_of X G (T.says.fact 22)
theorem g_L_good (T : Tx K mg) : mg "_law_good" = some (.ref (MH.gl "_law_good" K)) := let ⟨_, X, G⟩ := T.ns; MH.glo_of X G (T.says.fact 23)
theorem g_L_is_step (T : Tx K mg) : mg "_law_is_step" = some (.ref (MH.gl "_law_is_step" K)) := let ⟨_, X, G⟩ := T.ns; MH.glo_of X G (T.says.fact 24)
theorem g_L_letters (T : Tx K mg) : mg "_law_letters" = some (.ref (MH.gl "_law_letters" K)) := let ⟨_, X, G⟩ := T.ns; MH.glo_of X G (T.says.fact 25)
theorem g_L_limit (T : Tx K mg) : mg "_law_limit" = some (.ref (MH.gl "_law_limit" K)) := let ⟨_, X, G⟩ := T.ns; MH.glo_of X G (T.says.fact 26)
theorem g_L_made (T : Tx K mg) : mg "_law_made" = some (.ref (MH.gl "_law_made" K)) := let ⟨_, X, G⟩ := T.ns; MH.glo_of X G (T.says.fact 27)
theorem g_L_odd (T : Tx K mg) : mg "_law_odd" = some (.ref (MH.gl "_law_odd" K)) := let ⟨_, X, G⟩ := T.ns; MH.glo_of X G (T.says.fact 28)
theorem g_L_pick (T : Tx K mg) : mg "_law_pick" = some (.ref (MH.gl "_law_pick" K)) := let ⟨_, X, G⟩ := T.ns; MH.glo_of X G (T.says.fact 29)
theorem g_L_pool (T : Tx K mg) : mg "_law_pool" = some (.ref (MH.gl "_law_pool" K)) := let ⟨_, X, G⟩ := T.ns; MH.glo_of X G (T.says.fact 30)
theorem g_L_reading (T : Tx K mg) : mg "_law_reading" = some (.ref (MH.gl "_law_reading" K)) := let ⟨_, X, G⟩ := T.ns; MH.glo_of X G (T.says.fact 31)
theorem g_L_reads (T : Tx K mg) : mg "_law_reads" = some (.ref (MH.gl "_law_reads" K)) := let ⟨_, X, G⟩ := T.ns; MH.glo_of X G (T.says.fact 32)
theorem g_L_set (T : Tx K mg) : mg "_law_set" = some (.ref (MH.gl "_law_set" K)) := let ⟨_, X, G⟩ := T.ns; MH.glo_of X G (T.says.fact 33)
theorem g_L_short (T : Tx K mg) : mg "_law_short" = some (.ref (MH.gl "_law_short" K)) := let ⟨_, X, G⟩ := T.ns; MH.glo_of X G (T.says.fact 34)
theorem g_L_spoilt (T : Tx K mg) : mg "_law_spoilt" = some (.ref (MH.gl "_law_spoilt" K)) := let ⟨_, X, G⟩ := T.ns; MH.glo_of X G (T.says.fact 35)
theorem g_L_stop (T : Tx K mg) : mg "_law_stop" = some (.ref (MH.gl "_law_stop" K)) := let ⟨_, X, G⟩ := T.ns; MH.glo_of X G (T.says.fact 36)
theorem g_L_text (T : Tx K mg) : mg "_law_text" = some (.ref (MH.gl "_law_text" K)) := let ⟨_, X, G⟩ := T.ns; MH.glo_of X G (T.says.fact 37)
theorem g_L_valid (T : Tx K mg) : mg "_law_valid" = some (.ref (MH.gl "_law_valid" K)) := let ⟨_, X, G⟩ := T.ns; MH.glo_of X G (T.says.fact 38)
theorem g_L_whole (T : Tx K mg) : mg "_law_whole" = some (.ref (MH.gl "_law_whole" K)) := let ⟨_, X, G⟩ := T.ns; MH.glo_of X G (T.says.fact 39)
theorem g__word_behind (T : Tx K mg) : mg "_word_behind" = some (.ref (MH.gl "_word_behind" K)) := let ⟨_, X, G⟩ := T.ns; MH.glo_of X G (T.says.fact 40)
theorem g_fill_step (T : Tx K mg) : mg "fill_step" = some (.ref (MH.gl "fill_step" K)) := let ⟨_, X, G⟩ := T.ns; MH.glo_of X G (T.says.fact 41)
theorem g_fill_text (T : Tx K mg) : mg "fill_text" = some (.ref (MH.gl "fill_text" K)) := let ⟨_, X, G⟩ := T.ns; MH.glo_of X G (T.says.fact 42)
theorem g_is_digits (T : Tx K mg) : mg "is_digits" = some (.ref (MH.gl "is_digits" K)) := let ⟨_, X, G⟩ := T.ns; MH.glo_of X G (T.says.fact 43)
theorem g_is_fill_step (T : Tx K mg) : mg "is_fill_step" = some (.ref (MH.gl "is_fill_step" K)) := let ⟨_, X, G⟩ := T.ns; MH.glo_of X G (T.says.fact 44)
theorem g_is_mark (T : Tx K mg) : mg "is_mark" = some (.ref (MH.gl "is_mark" K)) := let ⟨_, X, G⟩ := T.ns; MH.glo_of X G (T.says.fact 45)
theorem g_is_marks_text (T : Tx K mg) : mg "is_marks_text" = some (.ref (MH.gl "is_marks_text" K)) := let ⟨_, X, G⟩ := T.ns; MH.glo_of X G (T.says.fact 46)
theorem g_is_plain_integer (T : Tx K mg) : mg "is_plain_integer" = some (.ref (MH.gl "is_plain_integer" K)) := let ⟨_, X, G⟩ := T.ns; MH.glo_of X G (T.says.fact 47)
theorem g_law (T : Tx K mg) : mg "law" = some (.ref (MH.gl "law" K)) := let ⟨_, X, G⟩ := T.ns; MH.glo_of X G (T.says.fact 48)
theorem g_read_fill (T : Tx K mg) : mg "read_fill" = some (.ref (MH.gl "read_fill" K)) := let ⟨_, X, G⟩ := T.ns; MH.glo_of X G (T.says.fact 49)
theorem g_read_integer (T : Tx K mg) : mg "read_integer" = some (.ref (MH.gl "read_integer" K)) := let ⟨_, X, G⟩ := T.ns; MH.glo_of X G (T.says.fact 50)
theorem g_written (T : Tx K mg) : mg "written" = some (.ref (MH.gl "written" K)) := let ⟨_, X, G⟩ := T.ns; MH.glo_of X G (T.says.fact 51)
theorem cl_Marks (T : Tx K mg) : Cls K (MH.gl "Marks" K) := MH.cls_of (T.says.fact 52)
theorem mk_Marks (T : Tx K mg) : Mk K (MH.gl "Marks" K) (MH.mt "Marks" "__init__" K) := MH.mk_of (T.says.fact 53) (T.says.fact 55)
theorem first_Marks (T : Tx K mg) : PySem.W.selfFirst K (MH.gl "Marks" K) = true := (T.says.fact 54)
theorem m_Marks_init (T : Tx K mg) : Meth K (MH.gl "Marks" K) "__init__" (MH.mt "Marks" "__init__" K) := MH.meth_of (T.says.fact 55)
theorem m_Marks_text (T : Tx K mg) : Meth K (MH.gl "Marks" K) "text" (MH.mt "Marks" "text" K) := MH.meth_of (T.says.fact 56)
theorem m_Marks_len (T : Tx K mg) : Meth K (MH.gl "Marks" K) "__len__" (MH.mt "Marks" "__len__" K) := MH.meth_of (T.says.fact 57)
theorem m_Marks_iter (T : Tx K mg) : Meth K (MH.gl "Marks" K) "__iter__" (MH.mt "Marks" "__iter__" K) := MH.meth_of (T.says.fact 58)
theorem m_Marks_bool (T : Tx K mg) : Meth K (MH.gl "Marks" K) "__bool__" (MH.mt "Marks" "__bool__" K) := MH.meth_of (T.says.fact 59)
theorem m_Marks_contains (T : Tx K mg) : Meth K (MH.gl "Marks" K) "__contains__" (MH.mt "Marks" "__contains__" K) := MH.meth_of (T.says.fact 60)
theorem m_Marks_and (T : Tx K mg) : Meth K (MH.gl "Marks" K) "__and__" (MH.mt "Marks" "__and__" K) := MH.meth_of (T.says.fact 61)
theorem m_Marks_or (T : Tx K mg) : Meth K (MH.gl "Marks" K) "__or__" (MH.mt "Marks" "__or__" K) := MH.meth_of (T.says.fact 62)
theorem m_Marks_sub (T : Tx K mg) : Meth K (MH.gl "Marks" K) "__sub__" (MH.mt "Marks" "__sub__" K) := MH.meth_of (T.says.fact 63)
theorem m_Marks_xor (T : Tx K mg) : Meth K (MH.gl "Marks" K) "__xor__" (MH.mt "Marks" "__xor__" K) := MH.meth_of (T.says.fact 64)
theorem m_Marks_invert (T : Tx K mg) : Meth K (MH.gl "Marks" K) "__invert__" (MH.mt "Marks" "__invert__" K) := MH.meth_of (T.says.fact 65)
theorem m_Marks_le (T : Tx K mg) : Meth K (MH.gl "Marks" K) "__le__" (MH.mt "Marks" "__le__" K) := MH.meth_of (T.says.fact 66)
theorem m_Marks_eq (T : Tx K mg) : Meth K (MH.gl "Marks" K) "__eq__" (MH.mt "Marks" "__eq__" K) := MH.meth_of (T.says.fact 67)
theorem na_Marks_letters (T : Tx K mg) : NoAttr K (MH.gl "Marks" K) "letters" := MH.noAt_of (T.says.fact 68)
theorem ox_BureauError (T : Tx K mg) : OexC K (MH.gl "BureauError" K) := MH.oex_of (T.says.fact 69)
theorem ox_BadMarks (T : Tx K mg) : OexC K (MH.gl "BadMarks" K) := MH.oex_of (T.says.fact 70)
theorem m_BadMarks_init (T : Tx K mg) : Meth K (MH.gl "BadMarks" K) "__init__" (MH.mt "BadMarks" "__init__" K) := MH.meth_of (T.says.fact 72)
theorem na_BadMarks_given (T : Tx K mg) : NoAttr K (MH.gl "BadMarks" K) "given" := MH.noAt_of (T.says.fact 73)
theorem ox_BadText (T : Tx K mg) : OexC K (MH.gl "BadText" K) := MH.oex_of (T.says.fact 74)
theorem m_BadText_init (T : Tx K mg) : Meth K (MH.gl "BadText" K) "__init__" (MH.mt "BadText" "__init__" K) := MH.meth_of (T.says.fact 76)
theorem na_BadText_at (T : Tx K mg) : NoAttr K (MH.gl "BadText" K) "at" := MH.noAt_of (T.says.fact 77)
theorem ox_BadStep (T : Tx K mg) : OexC K (MH.gl "BadStep" K) := MH.oex_of (T.says.fact 78)
theorem m_BadStep_init (T : Tx K mg) : Meth K (MH.gl "BadStep" K) "__init__" (MH.mt "BadStep" "__init__" K) := MH.meth_of (T.says.fact 80)
theorem na_BadStep_at (T : Tx K mg) : NoAttr K (MH.gl "BadStep" K) "at" := MH.noAt_of (T.says.fact 81)
theorem rd_Marks (T : Tx K mg) : ClX.CRead K (MH.gl "Marks" K) (.type "type") := MH.read_of (T.says.fact 82)
theorem ty_Marks (T : Tx K mg) {H : Hp} {a dx : Addr} {fs : List (Str × V)} (e : H a = some (.ins (MH.gl "Marks" K) dx fs)) : TyX K H (.ref a) (.ref (MH.gl "Marks" K)) := MH.tyI_of (T.says.fact 83) T.cl_Marks e
theorem tx_Marks_ALL (T : Tx K mg) : ∃ u, ClX.CVal K (MH.gl "Marks" K) (.type "type") "ALL" (.str "abcdef") u := MH.text_of (T.says.fact 84)
theorem cm_Marks_read (T : Tx K mg) : ClX.CMet K (MH.gl "Marks" K) (.type "type") "read" (He.ma K (He.ga K "Marks") "read") (MH.cm "Marks" "read" K) := MH.cmet_of (T.says.fact 85)
theorem nf_Marks_str (T : Tx K mg) : PySem.W.notFirst K (MH.gl "Marks" K) (.type "str") = true := (T.says.fact 86)
theorem nf_Marks_int (T : Tx K mg) : PySem.W.notFirst K (MH.gl "Marks" K) (.type "int") = true := (T.says.fact 87)
theorem nf_Marks_bool (T : Tx K mg) : PySem.W.notFirst K (MH.gl "Marks" K) (.type "bool") = true := (T.says.fact 88)
theorem nf_Marks_list (T : Tx K mg) : PySem.W.notFirst K (MH.gl "Marks" K) (.type "list") = true := (T.says.fact 89)
theorem nf_Marks_tuple (T : Tx K mg) : PySem.W.notFirst K (MH.gl "Marks" K) (.type "tuple") = true := (T.says.fact 90)
theorem nf_Marks_NoneType (T : Tx K mg) : PySem.W.notFirst K (MH.gl "Marks" K) (.type "NoneType") = true := (T.says.fact 91)
theorem as_BadMarks (T : Tx K mg) : PySem.W.OwnT.Asks K (MH.gl "BadMarks" K) := MH.asks_of (T.says.fact 92)
theorem em_BadMarks_BadStep (T : Tx K mg) : PySem.W.exmOne K (.ref (MH.gl "BadMarks" K)) (.ref (MH.gl "BadStep" K)) = some false := MH.exm_of (T.says.fact 93)
theorem em_BadMarks_BadText (T : Tx K mg) : PySem.W.exmOne K (.ref (MH.gl "BadMarks" K)) (.ref (MH.gl "BadText" K)) = some false := MH.exm_of (T.says.fact 94)
theorem ki_BadMarks_int (T : Tx K mg) : PySem.W.kitOne K (.ref (MH.gl "BadMarks" K)) (.type "int") = some false := MH.kitT_of (T.says.fact 95)
theorem ki_BadMarks_str (T : Tx K mg) : PySem.W.kitOne K (.ref (MH.gl "BadMarks" K)) (.type "str") = some false := MH.kitT_of (T.says.fact 96)
theorem ki_BadMarks_bool (T : Tx K mg) : PySem.W.kitOne K (.ref (MH.gl "BadMarks" K)) (.type "bool") = some false := MH.kitT_of (T.says.fact 97)
theorem ki_BadMarks_Marks (T : Tx K mg) : PySem.W.kitOne K (.ref (MH.gl "BadMarks" K)) (.ref (MH.gl "Marks" K)) = some false := MH.kit_of (T.says.fact 98)
theorem ki_BadMarks_tuple (T : Tx K mg) : PySem.W.kitOne K (.ref (MH.gl "BadMarks" K)) (.type "tuple") = some false := MH.kitT_of (T.says.fact 99)
theorem ki_BadMarks_BureauError (T : Tx K mg) : PySem.W.kitOne K (.ref (MH.gl "BadMarks" K)) (.ref (MH.gl "BureauError" K)) = some true := MH.kit_of (T.says.fact 100)
theorem ki_BadMarks_ValueError (T : Tx K mg) : PySem.W.kitOne K (.ref (MH.gl "BadMarks" K)) (.type "ValueError") = some true := MH.kitT_of (T.says.fact 101)
theorem ki_BadMarks_BadText (T : Tx K mg) : PySem.W.kitOne K (.ref (MH.gl "BadMarks" K)) (.ref (MH.gl "BadText" K)) = some false := MH.kit_of (T.says.fact 102)
theorem ki_BadMarks_BadStep (T : Tx K mg) : PySem.W.kitOne K (.ref (MH.gl "BadMarks" K)) (.ref (MH.gl "BadStep" K)) = some false := MH.kit_of (T.says.fact 103)
theorem as_BadText (T : Tx K mg) : PySem.W.OwnT.Asks K (MH.gl "BadText" K) := MH.asks_of (T.says.fact 104)
theorem em_BadText_BadStep (T : Tx K mg) : PySem.W.exmOne K (.ref (MH.gl "BadText" K)) (.ref (MH.gl "BadStep" K)) = some false := MH.exm_of (T.says.fact 105)
theorem em_BadText_BadText (T : Tx K mg) : PySem.W.exmOne K (.ref (MH.gl "BadText" K)) (.ref (MH.gl "BadText" K)) = some true := MH.exm_of (T.says.fact 106)
theorem ki_BadText_int (T : Tx K mg) : PySem.W.kitOne K (.ref (MH.gl "BadText" K)) (.type "int") = some false := MH.kitT_of (T.says.fact 107)
theorem ki_BadText_str (T : Tx K mg) : PySem.W.kitOne K (.ref (MH.gl "BadText" K)) (.type "str") = some false := MH.kitT_of (T.says.fact 108)
theorem ki_BadText_bool (T : Tx K mg) : PySem.W.kitOne K (.ref (MH.gl "BadText" K)) (.type "bool") = some false := MH.kitT_of (T.says.fact 109)
theorem ki_BadText_Marks (T : Tx K mg) : PySem.W.kitOne K (.ref (MH.gl "BadText" K)) (.ref (MH.gl "Marks" K)) = some false := MH.kit_of (T.says.fact 110)
theorem ki_BadText_tuple (T : Tx K mg) : PySem.W.kitOne K (.ref (MH.gl "BadText" K)) (.type "tuple") = some false := MH.kitT_of (T.says.fact 111)
theorem ki_BadText_BureauError (T : Tx K mg) : PySem.W.kitOne K (.ref (MH.gl "BadText" K)) (.ref (MH.gl "BureauError" K)) = some true := MH.kit_of (T.says.fact 112)
theorem ki_BadText_ValueError (T : Tx K mg) : PySem.W.kitOne K (.ref (MH.gl "BadText" K)) (.type "ValueError") = some true := MH.kitT_of (T.says.fact 113)
theorem ki_BadText_BadText (T : Tx K mg) : PySem.W.kitOne K (.ref (MH.gl "BadText" K)) (.ref (MH.gl "BadText" K)) = some true := MH.kit_of (T.says.fact 114)
theorem ki_BadText_BadStep (T : Tx K mg) : PySem.W.kitOne K (.ref (MH.gl "BadText" K)) (.ref (MH.gl "BadStep" K)) = some false := MH.kit_of (T.says.fact 115)
theorem as_BadStep (T : Tx K mg) : PySem.W.OwnT.Asks K (MH.gl "BadStep" K) := MH.asks_of (T.says.fact 116)
theorem em_BadStep_BadStep (T : Tx K mg) : PySem.W.exmOne K (.ref (MH.gl "BadStep" K)) (.ref (MH.gl "BadStep" K)) = some true := MH.exm_of (T.says.fact 117)
theorem em_BadStep_BadText (T : Tx K mg) : PySem.W.exmOne K (.ref (MH.gl "BadStep" K)) (.ref (MH.gl "BadText" K)) = some false := MH.exm_of (T.says.fact 118)
theorem ki_BadStep_int (T : Tx K mg) : PySem.W.kitOne K (.ref (MH.gl "BadStep" K)) (.type "int") = some false := MH.kitT_of (T.says.fact 119)
theorem ki_BadStep_str (T : Tx K mg) : PySem.W.kitOne K (.ref (MH.gl "BadStep" K)) (.type "str") = some false := MH.kitT_of (T.says.fact 120)
theorem ki_BadStep_bool (T : Tx K mg) : PySem.W.kitOne K (.ref (MH.gl "BadStep" K)) (.type "bool") = some false := MH.kitT_of (T.says.fact 121)
theorem ki_BadStep_Marks (T : Tx K mg) : PySem.W.kitOne K (.ref (MH.gl "BadStep" K)) (.ref (MH.gl "Marks" K)) = some false := MH.kit_of (T.says.fact 122)
theorem ki_BadStep_tuple (T : Tx K mg) : PySem.W.kitOne K (.ref (MH.gl "BadStep" K)) (.type "tuple") = some false := MH.kitT_of (T.says.fact 123)
theorem ki_BadStep_BureauError (T : Tx K mg) : PySem.W.kitOne K (.ref (MH.gl "BadStep" K)) (.ref (MH.gl "BureauError" K)) = some true := MH.kit_of (T.says.fact 124)
theorem ki_BadStep_ValueError (T : Tx K mg) : PySem.W.kitOne K (.ref (MH.gl "BadStep" K)) (.type "ValueError") = some true := MH.kitT_of (T.says.fact 125)
theorem ki_BadStep_BadText (T : Tx K mg) : PySem.W.kitOne K (.ref (MH.gl "BadStep" K)) (.ref (MH.gl "BadText" K)) = some false := MH.kit_of (T.says.fact 126)
theorem ki_BadStep_BadStep (T : Tx K mg) : PySem.W.kitOne K (.ref (MH.gl "BadStep" K)) (.ref (MH.gl "BadStep" K)) = some true := MH.kit_of (T.says.fact 127)
theorem ki_Marks_int (T : Tx K mg) : PySem.W.kitOne K (.ref (MH.gl "Marks" K)) (.type "int") = some false := MH.kitT_of (T.says.fact 128)
theorem ki_Marks_str (T : Tx K mg) : PySem.W.kitOne K (.ref (MH.gl "Marks" K)) (.type "str") = some false := MH.kitT_of (T.says.fact 129)
theorem ki_Marks_bool (T : Tx K mg) : PySem.W.kitOne K (.ref (MH.gl "Marks" K)) (.type "bool") = some false := MH.kitT_of (T.says.fact 130)
theorem ki_Marks_Marks (T : Tx K mg) : PySem.W.kitOne K (.ref (MH.gl "Marks" K)) (.ref (MH.gl "Marks" K)) = some true := MH.kit_of (T.says.fact 131)
theorem ki_str_Marks (T : Tx K mg) : PySem.W.kitOne K (.type "str") (.ref (MH.gl "Marks" K)) = some false := MH.kitB_of (T.says.fact 132)
theorem ki_int_Marks (T : Tx K mg) : PySem.W.kitOne K (.type "int") (.ref (MH.gl "Marks" K)) = some false := MH.kitB_of (T.says.fact 133)
theorem ki_bool_Marks (T : Tx K mg) : PySem.W.kitOne K (.type "bool") (.ref (MH.gl "Marks" K)) = some false := MH.kitB_of (T.says.fact 134)
theorem ki_list_Marks (T : Tx K mg) : PySem.W.kitOne K (.type "list") (.ref (MH.gl "Marks" K)) = some false := MH.kitB_of (T.says.fact 135)
theorem ki_tuple_Marks (T : Tx K mg) : PySem.W.kitOne K (.type "tuple") (.ref (MH.gl "Marks" K)) = some false := MH.kitB_of (T.says.fact 136)
theorem ki_NoneType_Marks (T : Tx K mg) : PySem.W.kitOne K (.type "NoneType") (.ref (MH.gl "Marks" K)) = some false := MH.kitB_of (T.says.fact 137)
theorem ki_Marks_tuple (T : Tx K mg) : PySem.W.kitOne K (.ref (MH.gl "Marks" K)) (.type "tuple") = some false := MH.kitT_of (T.says.fact 138)
theorem ki_Marks_ValueError (T : Tx K mg) : PySem.W.kitOne K (.ref (MH.gl "Marks" K)) (.type "ValueError") = some false := MH.kitT_of (T.says.fact 139)
theorem k__CHUNK (T : Tx K mg) {B : Vm.Tb} (e : B.K = K) : ∃ v u, mg "_CHUNK" = some u ∧ RelV v u ∧ ∀ G, Vm.Rp B G (.int (10 ^ 60)) v := by subst e; exact let ⟨_, X, G⟩ := T.ns; Vm.cst_of X G (T.says.fact 140)
theorem k__WAYS (T : Tx K mg) {B : Vm.Tb} (e : B.K = K) : ∃ v u, mg "_WAYS" = some u ∧ RelV v u ∧ ∀ G, Vm.Rp B G (.tup [(.str [100, 111, 119, 110]), (.str [117, 112]), (.str [110, 101, 97, 114, 95, 97, 98, 111, 118, 101]), (.str [110, 101, 97, 114, 95, 98, 101, 108, 111, 119])]) v := by subst e; exact let ⟨_, X, G⟩ := T.ns; Vm.cst_of X G (T.says.fact 141)
theorem k__DROP (T : Tx K mg) {B : Vm.Tb} (e : B.K = K) : ∃ v u, mg "_DROP" = some u ∧ RelV v u ∧ ∀ G, Vm.Rp B G (.tup [(.str [100, 114, 111, 112]), .non, (.str [45])]) v := by subst e; exact let ⟨_, X, G⟩ := T.ns; Vm.cst_of X G (T.says.fact 142)
theorem k__MOST_ROWS (T : Tx K mg) {B : Vm.Tb} (e : B.K = K) : ∃ v u, mg "_MOST_ROWS" = some u ∧ RelV v u ∧ ∀ G, Vm.Rp B G (.int 6) v := by subst e; exact let ⟨_, X, G⟩ := T.ns; Vm.cst_of X G (T.says.fact 143)
theorem xi_BadMarks (T : Tx K mg) : ∃ fd, OwnX.XInit PySem.Challenge.pw_pagebureau_k19_fill_text_and_refusals K mg (MH.gl "BadMarks" K) ((MH.mt "BadMarks" "__init__") K) (MH.codeAt (MH.mt "BadMarks" "__init__") K) (MH.cellOf (MH.mt "BadMarks" "__init__") K) "BadMarks.__init__" s_BadMarks_init fd ∧ ∃ (kV doc pm : Value) (an : Option Addr) (ct : Value), fd = PySem.W.fnX "__init__" "BadMarks.__init__" (defArgs s_BadMarks_init) (defBody s_BadMarks_init) (defScope s_BadMarks_init) [("__class__", MH.cellOf (MH.mt "BadMarks" "__init__") K)] .none kV doc pm an (.ref (MH.codeAt (MH.mt "BadMarks" "__init__") K)) ct := MH.xin_of (d := d_BadMarks_init) (st := s_BadMarks_init) (P := PySem.Challenge.pw_pagebureau_k19_fill_text_and_refusals) (MH.oex_of (T.says.fact 70)) (T.says.fact 71) T.free_super (by decide +kernel) (T.says.raw (d := d_BadMarks_init) 0).1 (T.says.raw (d := d_BadMarks_init) 0).2 rfl rfl rfl rfl rfl rfl rfl
theorem xi_BadText (T : Tx K mg) : ∃ fd, OwnX.XInit PySem.Challenge.pw_pagebureau_k19_fill_text_and_refusals K mg (MH.gl "BadText" K) ((MH.mt "BadText" "__init__") K) (MH.codeAt (MH.mt "BadText" "__init__") K) (MH.cellOf (MH.mt "BadText" "__init__") K) "BadText.__init__" s_BadText_init fd ∧ ∃ (kV doc pm : Value) (an : Option Addr) (ct : Value), fd = PySem.W.fnX "__init__" "BadText.__init__" (defArgs s_BadText_init) (defBody s_BadText_init) (defScope s_BadText_init) [("__class__", MH.cellOf (MH.mt "BadText" "__init__") K)] .none kV doc pm an (.ref (MH.codeAt (MH.mt "BadText" "__init__") K)) ct := MH.xin_of (d := d_BadText_init) (st := s_BadText_init) (P := PySem.Challenge.pw_pagebureau_k19_fill_text_and_refusals) (MH.oex_of (T.says.fact 74)) (T.says.fact 75) T.free_super (by decide +kernel) (T.says.raw (d := d_BadText_init) 1).1 (T.says.raw (d := d_BadText_init) 1).2 rfl rfl rfl rfl rfl rfl rfl
theorem xi_BadStep (T : Tx K mg) : ∃ fd, OwnX.XInit PySem.Challenge.pw_pagebureau_k19_fill_text_and_refusals K mg (MH.gl "BadStep" K) ((MH.mt "BadStep" "__init__") K) (MH.codeAt (MH.mt "BadStep" "__init__") K) (MH.cellOf (MH.mt "BadStep" "__init__") K) "BadStep.__init__" s_BadStep_init fd ∧ ∃ (kV doc pm : Value) (an : Option Addr) (ct : Value), fd = PySem.W.fnX "__init__" "BadStep.__init__" (defArgs s_BadStep_init) (defBody s_BadStep_init) (defScope s_BadStep_init) [("__class__", MH.cellOf (MH.mt "BadStep" "__init__") K)] .none kV doc pm an (.ref (MH.codeAt (MH.mt "BadStep" "__init__") K)) ct := MH.xin_of (d := d_BadStep_init) (st := s_BadStep_init) (P := PySem.Challenge.pw_pagebureau_k19_fill_text_and_refusals) (MH.oex_of (T.says.fact 78)) (T.says.fact 79) T.free_super (by decide +kernel) (T.says.raw (d := d_BadStep_init) 2).1 (T.says.raw (d := d_BadStep_init) 2).2 rfl rfl rfl rfl rfl rfl rfl
theorem f_is_plain_integer (T : Tx K mg) : ∃ fd, FunD K "is_plain_integer" "is_plain_integer" (defArgs s_is_plain_integer) (defBody s_is_plain_integer) (defScope s_is_plain_integer) [] (d_is_plain_integer.kws K) (MH.gl "is_plain_integer" K) fd := T.says.fun_ (d := d_is_plain_integer) 3
theorem f_is_digits (T : Tx K mg) : ∃ fd, FunD K "is_digits" "is_digits" (defArgs s_is_digits) (defBody s_is_digits) (defScope s_is_digits) [] (d_is_digits.kws K) (MH.gl "is_digits" K) fd := T.says.fun_ (d := d_is_digits) 4
theorem f_written (T : Tx K mg) : ∃ fd, FunD K "written" "written" (defArgs s_written) (defBody s_written) (defScope s_written) [] (d_written.kws K) (MH.gl "written" K) fd := T.says.fun_ (d := d_written) 5
theorem f_read_integer (T : Tx K mg) : ∃ fd, FunD K "read_integer" "read_integer" (defArgs s_read_integer) (defBody s_read_integer) (defScope s_read_integer) [] (d_read_integer.kws K) (MH.gl "read_integer" K) fd := T.says.fun_ (d := d_read_integer) 6
theorem f_is_mark (T : Tx K mg) : ∃ fd, FunD K "is_mark" "is_mark" (defArgs s_is_mark) (defBody s_is_mark) (defScope s_is_mark) [] (d_is_mark.kws K) (MH.gl "is_mark" K) fd := T.says.fun_ (d := d_is_mark) 7
theorem f_is_marks_text (T : Tx K mg) : ∃ fd, FunD K "is_marks_text" "is_marks_text" (defArgs s_is_marks_text) (defBody s_is_marks_text) (defScope s_is_marks_text) [] (d_is_marks_text.kws K) (MH.gl "is_marks_text" K) fd := T.says.fun_ (d := d_is_marks_text) 8
theorem f_Marks_init (T : Tx K mg) : ∃ fd, FunD K "__init__" "Marks.__init__" (defArgs s_Marks_init) (defBody s_Marks_init) (defScope s_Marks_init) [(.str "")] (d_Marks_init.kws K) (MH.mt "Marks" "__init__" K) fd := T.says.fun_ (d := d_Marks_init) 9
theorem f_Marks_read (T : Tx K mg) : ∃ fd, FunD K "read" "Marks.read" (defArgs s_Marks_read) (defBody s_Marks_read) (defScope s_Marks_read) [] (d_Marks_read.kws K) (MH.cm "Marks" "read" K) fd := T.says.fun_ (d := d_Marks_read) 10
theorem f_Marks_text (T : Tx K mg) : ∃ fd, FunD K "text" "Marks.text" (defArgs s_Marks_text) (defBody s_Marks_text) (defScope s_Marks_text) [] (d_Marks_text.kws K) (MH.mt "Marks" "text" K) fd := T.says.fun_ (d := d_Marks_text) 11
theorem f_Marks_len (T : Tx K mg) : ∃ fd, FunD K "__len__" "Marks.__len__" (defArgs s_Marks_len) (defBody s_Marks_len) (defScope s_Marks_len) [] (d_Marks_len.kws K) (MH.mt "Marks" "__len__" K) fd := T.says.fun_ (d := d_Marks_len) 12
theorem f_Marks_iter (T : Tx K mg) : ∃ fd, FunD K "__iter__" "Marks.__iter__" (defArgs s_Marks_iter) (defBody s_Marks_iter) (defScope s_Marks_iter) [] (d_Marks_iter.kws K) (MH.mt "Marks" "__iter__" K) fd := T.says.fun_ (d := d_Marks_iter) 13
theorem f_Marks_bool (T : Tx K mg) : ∃ fd, FunD K "__bool__" "Marks.__bool__" (defArgs s_Marks_bool) (defBody s_Marks_bool) (defScope s_Marks_bool) [] (d_Marks_bool.kws K) (MH.mt "Marks" "__bool__" K) fd := T.says.fun_ (d := d_Marks_bool) 14
theorem f_Marks_contains (T : Tx K mg) : ∃ fd, FunD K "__contains__" "Marks.__contains__" (defArgs s_Marks_contains) (defBody s_Marks_contains) (defScope s_Marks_contains) [] (d_Marks_contains.kws K) (MH.mt "Marks" "__contains__" K) fd := T.says.fun_ (d := d_Marks_contains) 15
theorem f_Marks_and (T : Tx K mg) : ∃ fd, FunD K "__and__" "Marks.__and__" (defArgs s_Marks_and) (defBody s_Marks_and) (defScope s_Marks_and) [] (d_Marks_and.kws K) (MH.mt "Marks" "__and__" K) fd := T.says.fun_ (d := d_Marks_and) 16
theorem f_Marks_or (T : Tx K mg) : ∃ fd, FunD K "__or__" "Marks.__or__" (defArgs s_Marks_or) (defBody s_Marks_or) (defScope s_Marks_or) [] (d_Marks_or.kws K) (MH.mt "Marks" "__or__" K) fd := T.says.fun_ (d := d_Marks_or) 17
theorem f_Marks_sub (T : Tx K mg) : ∃ fd, FunD K "__sub__" "Marks.__sub__" (defArgs s_Marks_sub) (defBody s_Marks_sub) (defScope s_Marks_sub) [] (d_Marks_sub.kws K) (MH.mt "Marks" "__sub__" K) fd := T.says.fun_ (d := d_Marks_sub) 18
theorem f_Marks_xor (T : Tx K mg) : ∃ fd, FunD K "__xor__" "Marks.__xor__" (defArgs s_Marks_xor) (defBody s_Marks_xor) (defScope s_Marks_xor) [] (d_Marks_xor.kws K) (MH.mt "Marks" "__xor__" K) fd := T.says.fun_ (d := d_Marks_xor) 19
theorem f_Marks_invert (T : Tx K mg) : ∃ fd, FunD K "__invert__" "Marks.__invert__" (defArgs s_Marks_invert) (defBody s_Marks_invert) (defScope s_Marks_invert) [] (d_Marks_invert.kws K) (MH.mt "Marks" "__invert__" K) fd := T.says.fun_ (d := d_Marks_invert) 20
theorem f_Marks_le (T : Tx K mg) : ∃ fd, FunD K "__le__" "Marks.__le__" (defArgs s_Marks_le) (defBody s_Marks_le) (defScope s_Marks_le) [] (d_Marks_le.kws K) (MH.mt "Marks" "__le__" K) fd := T.says.fun_ (d := d_Marks_le) 21
theorem f_Marks_eq (T : Tx K mg) : ∃ fd, FunD K "__eq__" "Marks.__eq__" (defArgs s_Marks_eq) (defBody s_Marks_eq) (defScope s_Marks_eq) [] (d_Marks_eq.kws K) (MH.mt "Marks" "__eq__" K) fd := T.says.fun_ (d := d_Marks_eq) 22
theorem f__is_limit (T : Tx K mg) : ∃ fd, FunD K "_is_limit" "_is_limit" (defArgs s__is_limit) (defBody s__is_limit) (defScope s__is_limit) [] (d__is_limit.kws K) (MH.gl "_is_limit" K) fd := T.says.fun_ (d := d__is_limit) 23
theorem f_is_fill_step (T : Tx K mg) : ∃ fd, FunD K "is_fill_step" "is_fill_step" (defArgs s_is_fill_step) (defBody s_is_fill_step) (defScope s_is_fill_step) [] (d_is_fill_step.kws K) (MH.gl "is_fill_step" K) fd := T.says.fun_ (d := d_is_fill_step) 24
theorem f_fill_step (T : Tx K mg) : ∃ fd, FunD K "fill_step" "fill_step" (defArgs s_fill_step) (defBody s_fill_step) (defScope s_fill_step) [] (d_fill_step.kws K) (MH.gl "fill_step" K) fd := T.says.fun_ (d := d_fill_step) 25
theorem f__word_behind (T : Tx K mg) : ∃ fd, FunD K "_word_behind" "_word_behind" (defArgs s__word_behind) (defBody s__word_behind) (defScope s__word_behind) [] (d__word_behind.kws K) (MH.gl "_word_behind" K) fd := T.says.fun_ (d := d__word_behind) 26
theorem f_read_fill (T : Tx K mg) : ∃ fd, FunD K "read_fill" "read_fill" (defArgs s_read_fill) (defBody s_read_fill) (defScope s_read_fill) [] (d_read_fill.kws K) (MH.gl "read_fill" K) fd := T.says.fun_ (d := d_read_fill) 27
theorem f_fill_text (T : Tx K mg) : ∃ fd, FunD K "fill_text" "fill_text" (defArgs s_fill_text) (defBody s_fill_text) (defScope s_fill_text) [] (d_fill_text.kws K) (MH.gl "fill_text" K) fd := T.says.fun_ (d := d_fill_text) 28
theorem f_L_pool (T : Tx K mg) : ∃ fd, FunD K "_law_pool" "_law_pool" (defArgs s_L_pool) (defBody s_L_pool) (defScope s_L_pool) [] (d_L_pool.kws K) (MH.gl "_law_pool" K) fd := T.says.fun_ (d := d_L_pool) 29
theorem f_L_draw (T : Tx K mg) : ∃ fd, FunD K "_law_draw" "_law_draw" (defArgs s_L_draw) (defBody s_L_draw) (defScope s_L_draw) [] (d_L_draw.kws K) (MH.gl "_law_draw" K) fd := T.says.fun_ (d := d_L_draw) 30
theorem f_L_pick (T : Tx K mg) : ∃ fd, FunD K "_law_pick" "_law_pick" (defArgs s_L_pick) (defBody s_L_pick) (defScope s_L_pick) [] (d_L_pick.kws K) (MH.gl "_law_pick" K) fd := T.says.fun_ (d := d_L_pick) 31
theorem f_L_letters (T : Tx K mg) : ∃ fd, FunD K "_law_letters" "_law_letters" (defArgs s_L_letters) (defBody s_L_letters) (defScope s_L_letters) [] (d_L_letters.kws K) (MH.gl "_law_letters" K) fd := T.says.fun_ (d := d_L_letters) 32
theorem f_L_whole (T : Tx K mg) : ∃ fd, FunD K "_law_whole" "_law_whole" (defArgs s_L_whole) (defBody s_L_whole) (defScope s_L_whole) [] (d_L_whole.kws K) (MH.gl "_law_whole" K) fd := T.says.fun_ (d := d_L_whole) 33
theorem f_L_set (T : Tx K mg) : ∃ fd, FunD K "_law_set" "_law_set" (defArgs s_L_set) (defBody s_L_set) (defScope s_L_set) [] (d_L_set.kws K) (MH.gl "_law_set" K) fd := T.says.fun_ (d := d_L_set) 34
theorem f_L_valid (T : Tx K mg) : ∃ fd, FunD K "_law_valid" "_law_valid" (defArgs s_L_valid) (defBody s_L_valid) (defScope s_L_valid) [] (d_L_valid.kws K) (MH.gl "_law_valid" K) fd := T.says.fun_ (d := d_L_valid) 35
theorem f_L_is_step (T : Tx K mg) : ∃ fd, FunD K "_law_is_step" "_law_is_step" (defArgs s_L_is_step) (defBody s_L_is_step) (defScope s_L_is_step) [] (d_L_is_step.kws K) (MH.gl "_law_is_step" K) fd := T.says.fun_ (d := d_L_is_step) 36
theorem f_L_made (T : Tx K mg) : ∃ fd, FunD K "_law_made" "_law_made" (defArgs s_L_made) (defBody s_L_made) (defScope s_L_made) [] (d_L_made.kws K) (MH.gl "_law_made" K) fd := T.says.fun_ (d := d_L_made) 37
theorem f_L_short (T : Tx K mg) : ∃ fd, FunD K "_law_short" "_law_short" (defArgs s_L_short) (defBody s_L_short) (defScope s_L_short) [] (d_L_short.kws K) (MH.gl "_law_short" K) fd := T.says.fun_ (d := d_L_short) 38
theorem f_L_text (T : Tx K mg) : ∃ fd, FunD K "_law_text" "_law_text" (defArgs s_L_text) (defBody s_L_text) (defScope s_L_text) [] (d_L_text.kws K) (MH.gl "_law_text" K) fd := T.says.fun_ (d := d_L_text) 39
theorem f_L_reading (T : Tx K mg) : ∃ fd, FunD K "_law_reading" "_law_reading" (defArgs s_L_reading) (defBody s_L_reading) (defScope s_L_reading) [] (d_L_reading.kws K) (MH.gl "_law_reading" K) fd := T.says.fun_ (d := d_L_reading) 40
theorem f_L_reads (T : Tx K mg) : ∃ fd, FunD K "_law_reads" "_law_reads" (defArgs s_L_reads) (defBody s_L_reads) (defScope s_L_reads) [] (d_L_reads.kws K) (MH.gl "_law_reads" K) fd := T.says.fun_ (d := d_L_reads) 41
theorem f_L_odd (T : Tx K mg) : ∃ fd, FunD K "_law_odd" "_law_odd" (defArgs s_L_odd) (defBody s_L_odd) (defScope s_L_odd) [] (d_L_odd.kws K) (MH.gl "_law_odd" K) fd := T.says.fun_ (d := d_L_odd) 42
theorem f_L_spoilt (T : Tx K mg) : ∃ fd, FunD K "_law_spoilt" "_law_spoilt" (defArgs s_L_spoilt) (defBody s_L_spoilt) (defScope s_L_spoilt) [] (d_L_spoilt.kws K) (MH.gl "_law_spoilt" K) fd := T.says.fun_ (d := d_L_spoilt) 43
theorem f_L_limit (T : Tx K mg) : ∃ fd, FunD K "_law_limit" "_law_limit" (defArgs s_L_limit) (defBody s_L_limit) (defScope s_L_limit) [] (d_L_limit.kws K) (MH.gl "_law_limit" K) fd := T.says.fun_ (d := d_L_limit) 44
theorem f_L_stop (T : Tx K mg) : ∃ fd, FunD K "_law_stop" "_law_stop" (defArgs s_L_stop) (defBody s_L_stop) (defScope s_L_stop) [] (d_L_stop.kws K) (MH.gl "_law_stop" K) fd := T.says.fun_ (d := d_L_stop) 45
theorem f_L_good (T : Tx K mg) : ∃ fd, FunD K "_law_good" "_law_good" (defArgs s_L_good) (defBody s_L_good) (defScope s_L_good) [] (d_L_good.kws K) (MH.gl "_law_good" K) fd := T.says.fun_ (d := d_L_good) 46
theorem f_law (T : Tx K mg) : ∃ fd, FunD K "law" "law" (defArgs s_law) (defBody s_law) (defScope s_law) [] (d_law.kws K) (MH.gl "law" K) fd := T.says.fun_ (d := d_law) 47
end Tx
end K19

set_option Elab.async false
set_option linter.all false
set_option maxRecDepth 100000
set_option maxHeartbeats 4000000
namespace K19
open PySem PySem.Spec PyProof.Rows L2 Vm
abbrev P : Program := PySem.Challenge.pw_pagebureau_k19_fill_text_and_refusals
/-! ### the tables -/
abbrev tb (K : PySem.W.Frag) : Vm.Tb := { K := K, cls := atN [MH.gl "BadMarks" K, MH.gl "BadText" K, MH.gl "BadStep" K, MH.gl "Marks" K, MH.gl "BureauError" K], fld := fldN ["at", "given", "letters"], inj := fldN_inj (by decide +kernel) (by decide +kernel) }
def ccL : List ((Nat × Nat) × Bool) := [((0, 3), false), ((0, 4), true), ((0, 1), false), ((0, 2), false), ((1, 3), false), ((1, 4), true), ((1, 1), true), ((1, 2), false), ((2, 3), false), ((2, 4), true), ((2, 1), false), ((2, 2), true)]
def ctL : List ((Nat × String) × Bool) := [((0, "int"), false), ((0, "str"), false), ((0, "bool"), false), ((0, "tuple"), false), ((0, "ValueError"), true), ((1, "int"), false), ((1, "str"), false), ((1, "bool"), false), ((1, "tuple"), false), ((1, "ValueError"), true), ((2, "int"), false), ((2, "str"), false), ((2, "bool"), false), ((2, "tuple"), false), ((2, "ValueError"), true)]
def tcL : List ((String × Nat) × Bool) := []
def kt : Kt := { cc := fun a b => ccL.lookup (a, b), ct := fun a t => ctL.lookup (a, t), tc := fun t b => tcL.lookup (t, b), pl := fun c => false }
def catL_BadStep : List (Nat × Bool) := [(0, false), (1, false), (2, true)]
def cat_BadStep (c : Nat) : Option Bool := catL_BadStep.lookup c
def catL_BadText : List (Nat × Bool) := [(0, false), (1, true), (2, false)]
def cat_BadText (c : Nat) : Option Bool := catL_BadText.lookup c
def askL : List (Nat × List Nat) := [(0, [1]), (1, [0]), (2, [0])]
def ask (c : Nat) : Option (List Nat) := askL.lookup c
/-! ### the defs -/
def m_is_plain_integer : Vm.Tx := (retS (andE (isiE kt (consA (var 0) (consA (cst (.ty "int")) nilA))) (notE (isiE kt (consA (var 0) (consA (cst (.ty "bool")) nilA))))))
def F_is_plain_integer : Fn := Vm.run 1 1 m_is_plain_integer
def m_is_digits : Vm.Tx := (retS (andE (smeth biIsascii (var 0) nilA) (smeth biIsdigit (var 0) nilA)))
def F_is_digits : Fn := Vm.run 1 1 m_is_digits
def m_written : Vm.Tx := (seq (asg 1 (ifx (tstB (cmp .lt (var 0) (cst (.int 0)))) (cst (.str [45])) (cst (.str [])))) (seq (asg 2 (bcall biAbs (consA (var 0) nilA))) (seq (asg 3 (cst (.str []))) (seq (whileS (tstB (cmp .ge (var 2) (cst (.int (10 ^ 60))))) (seq never never)) (retS (joinF [(fmtE (var 1)), (fmtE (var 2)), (fmtE (var 3))] []))))))
def F_written : Fn := Vm.run 1 5 m_written
def m_read_integer : Vm.Tx := (seq (asg 2 (ifx (tst (smeth biStarts (var 0) (consA (cst (.str [45])) nilA))) (slc (var 0) (part (cst (.int 1))) noPart) (var 0))) (seq (ifS (tOr (tNot (tst (call F_is_digits [] [] (consA (var 2) nilA)))) (tstB (cmp .gt (bcall biLen (consA (var 2) nilA)) (var 1)))) (retS (cst .non)) next) (seq (asg 3 (bcall biIntS (consA (var 0) nilA))) (retS (ifx (tstB (cmp .eq (call F_written [] [] (consA (var 3) nilA)) (var 0))) (var 3) (cst .non))))))
def F_read_integer : Fn := Vm.run 2 4 m_read_integer
def m_is_marks_text : Vm.Tx := (seq (ifS (tOr (tNot (tst (isiE kt (consA (var 0) (consA (cst (.ty "str")) nilA))))) (tstB (cmp .eq (var 0) (cst (.str []))))) (retS (cst (.bl false))) next) (retS (orE (cmp .eq (var 0) (cst (.str [45]))) (cmp .eq (var 0) (smeth biJoin (cst (.str [])) (consA (lcE [1] (tgN 1) (itE (cst (.str [97, 98, 99, 100, 101, 102]))) (tstB (cmp .inn (var 1) (var 0))) (var 1)) nilA))))))
def F_is_marks_text : Fn := Vm.run 1 2 m_is_marks_text
def m__is_limit : Vm.Tx := (retS (orE (cmp .is (var 0) (cst .non)) (andE (call F_is_plain_integer [] [] (consA (var 0) nilA)) (chain .le .le (cst (.int 1)) (var 0) (cst (.int 6))))))
def F__is_limit : Fn := Vm.run 1 1 m__is_limit
def m_is_fill_step : Vm.Tx := (seq (ifS (tOr (tNot (tst (isiE kt (consA (var 0) (consA (cst (.ty "tuple")) nilA))))) (tstB (cmp .ne (bcall biLen (consA (var 0) nilA)) (cst (.int 3))))) (retS (cst (.bl false))) next) (seq (pat (tgT (tgCons (tgN 1) (tgCons (tgN 2) (tgCons (tgN 3) tgNil)))) (var 0)) (retS (orE (cmp .eq (var 0) (cst (.tup [(.str [100, 114, 111, 112]), .non, (.str [45])]))) (andE (cmp .inn (var 1) (cst (.tup [(.str [100, 111, 119, 110]), (.str [117, 112]), (.str [110, 101, 97, 114, 95, 97, 98, 111, 118, 101]), (.str [110, 101, 97, 114, 95, 98, 101, 108, 111, 119])]))) (andE (call F__is_limit [] [] (consA (var 2) nilA)) (call F_is_marks_text [] [] (consA (var 3) nilA))))))))
def F_is_fill_step : Fn := Vm.run 1 4 m_is_fill_step
def m_fill_step : Vm.Tx := (seq (asg 3 (tupE (consA (var 0) (consA (var 1) (consA (var 2) nilA))))) (seq (ifS (tNot (tst (call F_is_fill_step [] [] (consA (var 3) nilA)))) (raiseX 2 [0] (consA (cst (.int 0)) nilA)) next) (retS (var 3))))
def F_fill_step : Fn := Vm.run 3 4 m_fill_step
def F_fill_step__1_rows_halt : Fn := adF 3 (fun ds => gAll ds []) F_fill_step
def F_fill_step__1_rows : Fn := adF 2 (fun ds => gEnd ds [.str [45]]) F_fill_step
def F_fill_step__1_halt : Fn := adF 2 (fun ds => gMid ds [.non]) F_fill_step
def F_fill_step__1_halt_rows : Fn := adF 3 (fun ds => gSwap ds []) F_fill_step
def m__word_behind : Vm.Tx := (seq (forS (tgT (tgCons (tgN 2) (tgCons (tgN 3) tgNil))) (itEnum (slc (var 0) noPart (part (neg (cst (.int 1)))))) (ifS (tstB (cmp .eq (var 3) (var 1))) (retS (idx (var 0) (bin .add (var 2) (cst (.int 1))))) next)) (retS (cst .non)))
def F__word_behind : Fn := Vm.run 2 4 m__word_behind
def m_fill_text : Vm.Tx := (seq (pat (tgT (tgCons (tgN 3) (tgCons (tgN 4) (tgCons (tgN 5) tgNil)))) (var 0)) (seq (asg 1 (ifx (tstB (cmp .is (var 4) (cst .non))) (cst (.str [])) (joinF [(cst (.str [32, 114, 111, 119, 115, 32])), (fmtE (var 4))] []))) (seq (asg 2 (ifx (tstB (cmp .eq (var 5) (cst (.str [45])))) (cst (.str [])) (joinF [(cst (.str [32, 104, 97, 108, 116, 32])), (fmtE (var 5))] []))) (retS (joinF [(fmtE (var 3)), (fmtE (var 1)), (fmtE (var 2))] [])))))
def F_fill_text : Fn := Vm.run 1 6 m_fill_text
def m_read_fill : Vm.Tx := (seq (asg 1 (smeth biSplit (var 0) (consA (cst (.str [32])) nilA))) (seq (parX 3 4 (consA (call F__word_behind [] [] (consA (var 1) (consA (cst (.str [114, 111, 119, 115])) nilA))) (consA (call F__word_behind [] [] (consA (var 1) (consA (cst (.str [104, 97, 108, 116])) nilA))) nilA))) (seq (asg 2 (tupE (consA (idx (var 1) (cst (.int 0))) (consA (andE (var 3) (call F_read_integer [] [] (consA (var 3) (consA (cst (.int 1)) nilA)))) (consA (orE (var 4) (cst (.str [45]))) nilA))))) (seq (ifS (tOr (tNot (tst (call F_is_fill_step [] [] (consA (var 2) nilA)))) (tstB (cmp .ne (call F_fill_text [] [] (consA (var 2) nilA)) (var 0)))) (raiseX 1 [0] (consA (cst (.int 0)) nilA)) next) (retS (var 2))))))
def F_read_fill : Fn := Vm.run 1 5 m_read_fill
def m_L_pool : Vm.Tx := (seq (asg 1 (cst (.int 0))) (seq (forS (tgN 2) (itE (var 0)) (asg 1 (bin .mod (bcall biIntS (consA (bin .add (bin .add (bin .mul (var 1) (cst (.int 31))) (var 2)) (cst (.int 1))) nilA)) (cst (.int 1009))))) (retS (lstE (consA (lcE [2] (tgN 2) (itE (var 0)) okT (bcall biAbs (consA (var 2) nilA))) (consA (cst (.int 0)) (consA (cst (.int 0)) (consA (cst (.int 0)) (consA (var 1) nilA)))))))))
def F_L_pool : Fn := Vm.run 1 3 m_L_pool
def m_L_draw : Vm.Tx := (seq (ifS (tAnd (tstB (cmp .eq (idx (var 0) (cst (.int 2))) (cst (.int 0)))) (tstB (cmp .lt (idx (var 0) (cst (.int 1))) (bcall biLen (consA (idx (var 0) (cst (.int 0))) nilA))))) (seq (iset 0 (cst (.int 1)) (bin .add (idx (var 0) (cst (.int 1))) (cst (.int 1)))) (seq (ifS (tstB (cmp .lt (idx (idx (var 0) (cst (.int 0))) (bin .sub (idx (var 0) (cst (.int 1))) (cst (.int 1)))) (bin .pow (cst (.int 10)) (cst (.int 18))))) (retS (bin .mod (bcall biIntS (consA (idx (idx (var 0) (cst (.int 0))) (bin .sub (idx (var 0) (cst (.int 1))) (cst (.int 1)))) nilA)) (var 1))) next) (iset 0 (cst (.int 2)) (idx (idx (var 0) (cst (.int 0))) (bin .sub (idx (var 0) (cst (.int 1))) (cst (.int 1))))))) next) (seq (ifS (tstB (cmp .gt (idx (var 0) (cst (.int 2))) (cst (.int 0)))) (seq (asg 3 (bin .mod (bcall biIntS (consA (idx (var 0) (cst (.int 2))) nilA)) (var 1))) (seq (iset 0 (cst (.int 2)) (bin .fdiv (idx (var 0) (cst (.int 2))) (var 1))) (retS (var 3)))) next) (seq (iset 0 (cst (.int 3)) (bin .add (idx (var 0) (cst (.int 3))) (cst (.int 1)))) (seq (asg 2 (bin .mod (bcall biIntS (consA (bin .mul (idx (var 0) (cst (.int 4))) (bin .add (idx (var 0) (cst (.int 3))) (cst (.int 16)))) nilA)) (cst (.int 1009)))) (retS (bin .mod (bin .mod (bcall biIntS (consA (bin .add (bin .mul (var 2) (var 2)) (bin .mul (idx (var 0) (cst (.int 4))) (idx (var 0) (cst (.int 3))))) nilA)) (cst (.int 997))) (var 1)))))))
def F_L_draw : Fn := Vm.run 2 4 m_L_draw
def m_L_pick : Vm.Tx := (retS (idx (var 1) (call F_L_draw [true, false] [] (consA (var 0) (consA (bcall biLen (consA (var 1) nilA)) nilA)))))
def F_L_pick : Fn := Vm.run 2 2 m_L_pick
def m_L_letters : Vm.Tx := (seq (asg 1 (cst (.str []))) (seq (forS (tgN 2) (itE (cst (.str [97, 98, 99, 100, 101, 102]))) (seq (ifS (tstB (cmp .eq (bin .mod (bcall biIntS (consA (var 0) nilA)) (cst (.int 2))) (cst (.int 1)))) (asg 1 (bin .add (var 1) (var 2))) next) (asg 0 (bin .fdiv (var 0) (cst (.int 2)))))) (seq (ifS (tstB (cmp .eq (var 1) (cst (.str [])))) (retS (cst (.str [45]))) next) (retS (var 1)))))
def F_L_letters : Fn := Vm.run 1 3 m_L_letters
def m_L_whole : Vm.Tx := (retS (andE (isiE kt (consA (var 0) (consA (cst (.ty "int")) nilA))) (notE (isiE kt (consA (var 0) (consA (cst (.ty "bool")) nilA))))))
def F_L_whole : Fn := Vm.run 1 1 m_L_whole
def m_L_set : Vm.Tx := (seq (asg 1 (cst (.str []))) (seq (forS (tgN 2) (itE (var 0)) (seq (ifS (tOr (tstB (cmp .nin (var 2) (cst (.str [97, 98, 99, 100, 101, 102])))) (tstB (cmp .le (var 2) (var 1)))) (retS (cmp .eq (var 0) (cst (.str [45])))) next) (asg 1 (var 2)))) (retS (cmp .ne (var 0) (cst (.str []))))))
def F_L_set : Fn := Vm.run 1 3 m_L_set
def m_L_valid : Vm.Tx := (seq (ifS (tstB (cmp .eq (var 0) (cst (.str [100, 114, 111, 112])))) (retS (andE (cmp .is (var 1) (cst .non)) (cmp .eq (var 2) (cst (.str [45]))))) next) (seq (ifS (tstB (cmp .nin (var 0) (lstE (consA (cst (.str [100, 111, 119, 110])) (consA (cst (.str [117, 112])) (consA (cst (.str [110, 101, 97, 114, 95, 97, 98, 111, 118, 101])) (consA (cst (.str [110, 101, 97, 114, 95, 98, 101, 108, 111, 119])) nilA))))))) (retS (cst (.bl false))) next) (seq (ifS (tAnd (tstB (cmp .isnt (var 1) (cst .non))) (tNot (tAnd (tst (call F_L_whole [] [] (consA (var 1) nilA))) (tstB (chain .le .le (cst (.int 1)) (var 1) (cst (.int 6))))))) (retS (cst (.bl false))) next) (retS (call F_L_set [] [] (consA (var 2) nilA))))))
def F_L_valid : Fn := Vm.run 3 3 m_L_valid
def m_L_is_step : Vm.Tx := (seq (ifS (tOr (tNot (tst (isiE kt (consA (var 0) (consA (cst (.ty "tuple")) nilA))))) (tstB (cmp .ne (bcall biLen (consA (var 0) nilA)) (cst (.int 3))))) (retS (cst (.bl false))) next) (seq (ifS (tOr (tNot (tst (isiE kt (consA (idx (var 0) (cst (.int 0))) (consA (cst (.ty "str")) nilA))))) (tNot (tst (isiE kt (consA (idx (var 0) (cst (.int 2))) (consA (cst (.ty "str")) nilA)))))) (retS (cst (.bl false))) next) (seq (ifS (tAnd (tstB (cmp .isnt (idx (var 0) (cst (.int 1))) (cst .non))) (tNot (tst (call F_L_whole [] [] (consA (idx (var 0) (cst (.int 1))) nilA))))) (retS (cst (.bl false))) next) (retS (cmp .eq (var 0) (var 1))))))
def F_L_is_step : Fn := Vm.run 2 2 m_L_is_step
def m_L_made : Vm.Tx := (seq (asg 3 (call F_L_valid [] [] (consA (var 0) (consA (var 1) (consA (var 2) nilA))))) (seq (tryX 4 cat_BadStep ask (asg 5 (call F_fill_step__1_rows_halt [] [] (consA (var 0) (consA (var 1) (consA (var 2) nilA))))) (seq (asg 6 (andE (isiE kt (consA (var 4) (consA (cst (.cls 4)) nilA))) (isiE kt (consA (var 4) (consA (cst (.ty "ValueError")) nilA))))) (seq (asg 6 (andE (var 6) (notE (isiE kt (consA (var 4) (consA (cst (.cls 1)) nilA)))))) (retS (andE (notE (var 3)) (andE (var 6) (andE (call F_L_whole [] [] (consA (fldX 0 [] (var 4)) nilA)) (cmp .eq (fldX 0 [] (var 4)) (cst (.int 0)))))))))) (retS (andE (var 3) (call F_L_is_step [] [] (consA (var 5) (consA (tupE (consA (var 0) (consA (var 1) (consA (var 2) nilA)))) nilA)))))))
def F_L_made : Fn := Vm.run 3 7 m_L_made
def m_L_short : Vm.Tx := (seq (ifS (tNot (tst (call F_L_valid [] [] (consA (var 0) (consA (var 1) (consA (var 2) nilA)))))) (retS (cst (.bl true))) next) (seq (asg 3 (lstE (consA (call F_fill_step [] [.non, (.str [45])] (consA (var 0) nilA)) (consA (call F_fill_step__1_rows [] [] (consA (var 0) (consA (var 1) nilA))) (consA (call F_fill_step__1_halt [] [] (consA (var 0) (consA (var 2) nilA))) nilA))))) (seq (exprS (append 3 (call F_fill_step__1_halt_rows [] [] (consA (var 0) (consA (var 2) (consA (var 1) nilA)))))) (seq (ifS (tNot (tst (call F_L_is_step [] [] (consA (idx (var 3) (cst (.int 0))) (consA (tupE (consA (var 0) (consA (cst .non) (consA (cst (.str [45])) nilA)))) nilA))))) (retS (cst (.bl false))) next) (seq (ifS (tNot (tst (call F_L_is_step [] [] (consA (idx (var 3) (cst (.int 1))) (consA (tupE (consA (var 0) (consA (var 1) (consA (cst (.str [45])) nilA)))) nilA))))) (retS (cst (.bl false))) next) (seq (ifS (tNot (tst (call F_L_is_step [] [] (consA (idx (var 3) (cst (.int 2))) (consA (tupE (consA (var 0) (consA (cst .non) (consA (var 2) nilA)))) nilA))))) (retS (cst (.bl false))) next) (retS (call F_L_is_step [] [] (consA (idx (var 3) (cst (.int 3))) (consA (tupE (consA (var 0) (consA (var 1) (consA (var 2) nilA)))) nilA))))))))))
def F_L_short : Fn := Vm.run 3 4 m_L_short
def m_L_text : Vm.Tx := (seq (asg 1 (idx (var 0) (cst (.int 0)))) (seq (ifS (tstB (cmp .isnt (idx (var 0) (cst (.int 1))) (cst .non))) (asg 1 (bin .add (bin .add (var 1) (cst (.str [32, 114, 111, 119, 115, 32]))) (bcall biStr (consA (idx (var 0) (cst (.int 1))) nilA)))) next) (seq (ifS (tstB (cmp .ne (idx (var 0) (cst (.int 2))) (cst (.str [45])))) (asg 1 (bin .add (bin .add (var 1) (cst (.str [32, 104, 97, 108, 116, 32]))) (idx (var 0) (cst (.int 2))))) next) (retS (var 1)))))
def F_L_text : Fn := Vm.run 1 2 m_L_text
def m_L_reading : Vm.Tx := (seq (asg 1 (smeth biSplit (var 0) (consA (cst (.str [32])) nilA))) (seq (ifS (tstB (cmp .eq (var 1) (lstE (consA (cst (.str [100, 114, 111, 112])) nilA)))) (retS (tupE (consA (cst (.str [100, 114, 111, 112])) (consA (cst .non) (consA (cst (.str [45])) nilA))))) next) (seq (asg 2 (cst .non)) (seq (asg 3 (cst (.str [45]))) (seq (asg 4 (slc (var 1) (part (cst (.int 1))) noPart)) (seq (ifS (tAnd (tstB (cmp .eq (slc (var 4) noPart (part (cst (.int 1)))) (lstE (consA (cst (.str [114, 111, 119, 115])) nilA)))) (tAnd (tstB (cmp .gt (bcall biLen (consA (var 4) nilA)) (cst (.int 1)))) (tstB (cmp .inn (idx (var 4) (cst (.int 1))) (lstE (consA (cst (.str [49])) (consA (cst (.str [50])) (consA (cst (.str [51])) (consA (cst (.str [52])) (consA (cst (.str [53])) (consA (cst (.str [54])) nilA))))))))))) (seq (asg 2 (bcall biIntS (consA (idx (var 4) (cst (.int 1))) nilA))) (asg 4 (slc (var 4) (part (cst (.int 2))) noPart))) next) (seq (ifS (tAnd (tstB (cmp .eq (slc (var 4) noPart (part (cst (.int 1)))) (lstE (consA (cst (.str [104, 97, 108, 116])) nilA)))) (tAnd (tstB (cmp .gt (bcall biLen (consA (var 4) nilA)) (cst (.int 1)))) (tAnd (tstB (cmp .ne (idx (var 4) (cst (.int 1))) (cst (.str [45])))) (tst (call F_L_set [] [] (consA (idx (var 4) (cst (.int 1))) nilA)))))) (seq (asg 3 (idx (var 4) (cst (.int 1)))) (asg 4 (slc (var 4) (part (cst (.int 2))) noPart))) next) (seq (ifS (tOr (tstB (cmp .ne (var 4) (lstE nilA))) (tstB (cmp .nin (idx (var 1) (cst (.int 0))) (lstE (consA (cst (.str [100, 111, 119, 110])) (consA (cst (.str [117, 112])) (consA (cst (.str [110, 101, 97, 114, 95, 97, 98, 111, 118, 101])) (consA (cst (.str [110, 101, 97, 114, 95, 98, 101, 108, 111, 119])) nilA)))))))) (retS (cst .non)) next) (retS (tupE (consA (idx (var 1) (cst (.int 0))) (consA (var 2) (consA (var 3) nilA)))))))))))))
def F_L_reading : Fn := Vm.run 1 5 m_L_reading
def m_L_reads : Vm.Tx := (seq (asg 1 (call F_L_reading [] [] (consA (var 0) nilA))) (seq (tryX 2 cat_BadText ask (asg 3 (call F_read_fill [] [] (consA (var 0) nilA))) (seq (asg 4 (andE (isiE kt (consA (var 2) (consA (cst (.cls 4)) nilA))) (isiE kt (consA (var 2) (consA (cst (.ty "ValueError")) nilA))))) (seq (asg 4 (andE (var 4) (notE (isiE kt (consA (var 2) (consA (cst (.cls 2)) nilA)))))) (retS (andE (cmp .is (var 1) (cst .non)) (andE (var 4) (andE (call F_L_whole [] [] (consA (fldX 0 [] (var 2)) nilA)) (cmp .eq (fldX 0 [] (var 2)) (cst (.int 0)))))))))) (seq (ifS (tOr (tstB (cmp .is (var 1) (cst .non))) (tNot (tst (call F_L_is_step [] [] (consA (var 3) (consA (var 1) nilA)))))) (retS (cst (.bl false))) next) (retS (andE (isiE kt (consA (call F_fill_text [] [] (consA (var 3) nilA)) (consA (cst (.ty "str")) nilA))) (cmp .eq (call F_fill_text [] [] (consA (var 3) nilA)) (var 0)))))))
def F_L_reads : Fn := Vm.run 1 5 m_L_reads
def m_L_odd : Vm.Tx := (seq (asg 1 (lstE (consA (cst (.str [])) (consA (cst (.str [100, 111, 119, 110, 32, 114, 111, 119, 115, 32, 78, 111, 110, 101])) (consA (cst (.str [100, 111, 119, 110, 32, 104, 97, 108, 116, 32, 45])) (consA (cst (.str [100, 111, 119, 110, 32, 114, 111, 119, 115, 32, 48])) (consA (cst (.str [100, 111, 119, 110, 32, 114, 111, 119, 115, 32, 55])) (consA (cst (.str [100, 111, 119, 110, 32, 114, 111, 119, 115, 32, 48, 49])) (consA (cst (.str [100, 114, 111, 112, 32, 114, 111, 119, 115, 32, 49])) nilA))))))))) (seq (asg 1 (bin .add (var 1) (lstE (consA (cst (.str [100, 114, 111, 112, 32, 104, 97, 108, 116, 32, 97])) (consA (cst (.str [100, 111, 119, 110, 32, 104, 97, 108, 116])) (consA (cst (.str [100, 111, 119, 110, 32, 114, 111, 119, 115])) (consA (cst (.str [114, 111, 119, 115, 32, 51])) (consA (cst (.str [100, 111, 119, 110, 32, 32, 114, 111, 119, 115, 32, 51])) (consA (cst (.str [100, 111, 119, 110, 32, 114, 111, 119, 115, 32, 32, 51])) nilA))))))))) (seq (asg 1 (bin .add (var 1) (lstE (consA (cst (.str [100, 114, 111, 112, 10])) (consA (cst (.str [100, 111, 119, 110, 32, 104, 97, 108, 116, 32, 97, 32, 104, 97, 108, 116, 32, 98])) (consA (cst (.str [117, 112, 32, 114, 111, 119, 115, 32, 50, 32, 114, 111, 119, 115, 32, 51])) (consA (cst (.str [100, 111, 119, 110, 32, 114, 111, 119, 115, 32, 43, 51])) (consA (cst (.str [110, 101, 97, 114, 32, 97, 98, 111, 118, 101])) nilA)))))))) (seq (asg 1 (bin .add (var 1) (lstE (consA (cst (.str [110, 101, 97, 114, 95, 97, 98, 111, 118, 101, 32, 114, 111, 119, 115, 32, 49, 48])) (consA (cst (.str [100, 111, 119, 110, 10, 117, 112])) (consA (cst (.str [104, 97, 108, 116, 32, 97])) (consA (cst (.str [100, 111, 119, 110, 32, 114, 111, 119, 115, 32, 51, 32, 104, 97, 108, 116])) (consA (cst (.str [100, 111, 119, 110, 32, 51])) (consA (cst (.str [117, 112, 32, 97, 98])) nilA))))))))) (retS (call F_L_pick [true, false] [] (consA (var 0) (consA (var 1) nilA))))))))
def F_L_odd : Fn := Vm.run 1 2 m_L_odd
def m_L_spoilt : Vm.Tx := (seq (asg 2 (call F_L_text [] [] (consA (var 1) nilA))) (seq (asg 3 (smeth biSplit (var 2) (consA (cst (.str [32])) nilA))) (seq (asg 4 (call F_L_draw [true, false] [] (consA (var 0) (consA (cst (.int 7)) nilA)))) (seq (asg 5 (call F_L_draw [true, false] [] (consA (var 0) (consA (bcall biLen (consA (var 2) nilA)) nilA)))) (seq (asg 6 (call F_L_pick [true, false] [] (consA (var 0) (consA (cst (.str [97, 98, 99, 100, 101, 102, 103, 32, 48, 49, 50, 51, 52, 53, 54, 55, 56, 57, 114, 111, 119, 115, 104, 108, 116, 110, 117, 112, 95, 45, 68, 10])) nilA)))) (seq (ifS (tstB (cmp .eq (var 4) (cst (.int 0)))) (retS (bin .add (slc (var 2) noPart (part (var 5))) (slc (var 2) (part (bin .add (var 5) (cst (.int 1)))) noPart))) next) (seq (ifS (tstB (cmp .eq (var 4) (cst (.int 1)))) (retS (bin .add (bin .add (slc (var 2) noPart (part (var 5))) (var 6)) (slc (var 2) (part (var 5)) noPart))) next) (seq (ifS (tstB (cmp .eq (var 4) (cst (.int 2)))) (retS (bin .add (bin .add (slc (var 2) noPart (part (var 5))) (var 6)) (slc (var 2) (part (bin .add (var 5) (cst (.int 1)))) noPart))) next) (seq (ifS (tstB (cmp .eq (var 4) (cst (.int 3)))) (retS (smeth biJoin (cst (.str [32])) (consA (bin .add (bin .add (slc (var 3) noPart (part (cst (.int 1)))) (slc (var 3) (part (cst (.int 3))) noPart)) (slc (var 3) (part (cst (.int 1))) (part (cst (.int 3))))) nilA))) next) (seq (ifS (tstB (cmp .eq (var 4) (cst (.int 4)))) (retS (smeth biJoin (cst (.str [32])) (consA (bin .add (slc (var 3) noPart (part (bin .add (cst (.int 1)) (bin .mod (var 5) (cst (.int 5)))))) (slc (var 3) (part (bin .add (cst (.int 2)) (bin .mod (var 5) (cst (.int 5))))) noPart)) nilA))) next) (seq (ifS (tstB (cmp .eq (var 4) (cst (.int 5)))) (retS (smeth biJoin (cst (.str [32])) (consA (bin .add (slc (var 3) noPart (part (bin .add (cst (.int 1)) (bin .mod (var 5) (cst (.int 5)))))) (slc (var 3) (part (bin .mod (var 5) (cst (.int 5)))) noPart)) nilA))) next) (retS (call F_L_odd [true] [] (consA (var 0) nilA))))))))))))))
def F_L_spoilt : Fn := Vm.run 2 7 m_L_spoilt
def m_L_limit : Vm.Tx := (retS (call F_L_pick [true, false] [] (consA (var 0) (consA (lstE (consA (cst (.int 3)) (consA (cst .non) (consA (cst (.int 1)) (consA (cst (.int 2)) (consA (cst (.int 4)) (consA (cst (.int 5)) (consA (cst (.int 6)) (consA (cst .non) (consA (cst (.int 0)) (consA (cst (.int 7)) (consA (neg (cst (.int 1))) (consA (bin .pow (cst (.int 10)) (cst (.int 30))) (consA (cst (.bl true)) (consA (cst (.bl false)) (consA (neg (cst (.int 3))) (consA (cst (.int 60)) nilA))))))))))))))))) nilA))))
def F_L_limit : Fn := Vm.run 1 1 m_L_limit
def m_L_stop : Vm.Tx := (seq (asg 1 (lstE (consA (cst (.str [])) (consA (cst (.str [98, 97])) (consA (cst (.str [97, 97])) (consA (cst (.str [97, 103])) (consA (cst (.str [65])) (consA (cst (.str [97, 45])) (consA (cst (.str [45, 45])) (consA (cst (.str [32])) (consA (cst (.str [97, 32, 98])) (consA (cst (.str [102, 97])) (consA (cst (.str [97, 98, 99, 100, 101, 102, 103])) (consA (cst (.str [97, 10])) nilA)))))))))))))) (seq (ifS (tstB (cmp .eq (call F_L_draw [true, false] [] (consA (var 0) (consA (cst (.int 4)) nilA))) (cst (.int 3)))) (retS (call F_L_pick [true, false] [] (consA (var 0) (consA (var 1) nilA)))) next) (retS (call F_L_letters [] [] (consA (bin .mod (bin .add (call F_L_draw [true, false] [] (consA (var 0) (consA (cst (.int 64)) nilA))) (cst (.int 5))) (cst (.int 64))) nilA)))))
def F_L_stop : Fn := Vm.run 1 2 m_L_stop
def m_L_good : Vm.Tx := (seq (asg 1 (call F_L_pick [true, false] [] (consA (var 0) (consA (lstE (consA (cst (.str [110, 101, 97, 114, 95, 97, 98, 111, 118, 101])) (consA (cst (.str [100, 111, 119, 110])) (consA (cst (.str [117, 112])) (consA (cst (.str [110, 101, 97, 114, 95, 98, 101, 108, 111, 119])) (consA (cst (.str [100, 114, 111, 112])) nilA)))))) nilA)))) (seq (ifS (tstB (cmp .eq (var 1) (cst (.str [100, 114, 111, 112])))) (retS (tupE (consA (cst (.str [100, 114, 111, 112])) (consA (cst .non) (consA (cst (.str [45])) nilA))))) next) (seq (asg 2 (call F_L_pick [true, false] [] (consA (var 0) (consA (lstE (consA (cst (.int 2)) (consA (cst .non) (consA (cst (.int 1)) (consA (cst (.int 3)) (consA (cst (.int 4)) (consA (cst (.int 5)) (consA (cst (.int 6)) nilA)))))))) nilA)))) (retS (tupE (consA (var 1) (consA (var 2) (consA (call F_L_letters [] [] (consA (bin .mod (bin .add (call F_L_draw [true, false] [] (consA (var 0) (consA (cst (.int 64)) nilA))) (cst (.int 6))) (cst (.int 64))) nilA)) nilA))))))))
def F_L_good : Fn := Vm.run 1 3 m_L_good
def m_law : Vm.Tx := (seq (asg 1 (call F_L_pool [] [] (consA (var 0) nilA))) (seq (asg 2 (lstE (consA (cst (.str [100, 111, 119, 110])) (consA (cst (.str [117, 112])) (consA (cst (.str [110, 101, 97, 114, 95, 97, 98, 111, 118, 101])) (consA (cst (.str [110, 101, 97, 114, 95, 98, 101, 108, 111, 119])) (consA (cst (.str [100, 114, 111, 112])) (consA (cst (.str [115, 105, 100, 101])) (consA (cst (.str [110, 101, 97, 114])) (consA (cst (.str [68, 111, 119, 110])) (consA (cst (.str [])) (consA (cst (.str [100, 111, 119, 110, 32, 114, 111, 119, 115, 32, 49])) nilA)))))))))))) (seq (forS (tgN 3) (itRange (cst (.int 3))) (seq (asg 7 (idx (var 2) (bin .mod (bin .add (call F_L_draw [true, false] [] (consA (var 1) (consA (cst (.int 10)) nilA))) (bin .mul (cst (.int 2)) (var 3))) (cst (.int 10))))) (seq (asg 8 (call F_L_limit [true] [] (consA (var 1) nilA))) (seq (asg 9 (call F_L_stop [true] [] (consA (var 1) nilA))) (seq (forS (tgN 10) (itE (lstE (consA (var 8) (consA (cst .non) nilA)))) (ifS (tOr (tNot (tst (call F_L_made [] [] (consA (var 7) (consA (var 10) (consA (var 9) nilA)))))) (tNot (tst (call F_L_made [] [] (consA (var 7) (consA (var 10) (consA (cst (.str [45])) nilA))))))) (retS (cst (.bl false))) next)) (ifS (tNot (tst (call F_L_short [] [] (consA (var 7) (consA (var 8) (consA (var 9) nilA)))))) (retS (cst (.bl false))) next)))))) (seq (asg 4 (call F_L_good [true] [] (consA (var 1) nilA))) (seq (asg 5 (lstE (consA (call F_L_text [] [] (consA (var 4) nilA)) (consA (call F_L_odd [true] [] (consA (var 1) nilA)) nilA)))) (seq (forS (tgN 3) (itRange (cst (.int 3))) (exprS (append 5 (call F_L_spoilt [true, false] [] (consA (var 1) (consA (var 4) nilA)))))) (seq (forS (tgN 6) (itE (var 5)) (ifS (tNot (tst (call F_L_reads [] [] (consA (var 6) nilA)))) (retS (cst (.bl false))) next)) (seq (asg 6 (call F_L_text [] [] (consA (var 4) nilA))) (retS (andE (cmp .eq (call F_fill_text [] [] (consA (var 4) nilA)) (var 6)) (call F_L_is_step [] [] (consA (call F_read_fill [] [] (consA (var 6) nilA)) (consA (var 4) nilA)))))))))))))
def F_law : Fn := Vm.run 1 11 m_law
/-! ### what is known of the names -/
def cstL : List (Str × D) := [("_CHUNK", (.int (10 ^ 60))), ("_WAYS", (.tup [(.str [100, 111, 119, 110]), (.str [117, 112]), (.str [110, 101, 97, 114, 95, 97, 98, 111, 118, 101]), (.str [110, 101, 97, 114, 95, 98, 101, 108, 111, 119])])), ("_DROP", (.tup [(.str [100, 114, 111, 112]), .non, (.str [45])])), ("_MOST_ROWS", (.int 6))]
def freeL : List (Str × Unit) := [("isinstance", ()), ("int", ()), ("bool", ()), ("abs", ()), ("divmod", ()), ("len", ()), ("str", ()), ("tuple", ()), ("enumerate", ()), ("ValueError", ()), ("range", ())]
def fldL : List (Str × (Nat × List Nat)) := [("at", (0, [])), ("given", (1, [])), ("letters", (2, []))]
def clsL : List (Str × Nat) := [("BadMarks", 0), ("BadText", 1), ("BadStep", 2), ("Marks", 3), ("BureauError", 4)]
def clvL : List ((Str × Str) × D) := [(("Marks", "ALL"), (.str [97, 98, 99, 100, 101, 102]))]
def errL : List (Str × (Nat × List Nat × Nat)) := [("BadMarks", (0, [1], 1)), ("BadText", (1, [0], 1)), ("BadStep", (2, [0], 1))]
def exnL : List (Str × (Nat → Option Bool)) := [("BadStep", cat_BadStep), ("BadText", cat_BadText)]
def g0 : Gm := { N := [], sc := defScope s_law, sc0 := defScope s_law, lv := 0, fns := fun _ => none, cstD := fun x => cstL.lookup x, free := fun x => (freeL.lookup x).isSome, flds := fun f => fldL.lookup f, clsN := fun x => clsL.lookup x, kt := kt, clv := fun x f => clvL.lookup (x, f), err := fun x => errL.lookup x, exn := fun x => exnL.lookup x, ask := ask }
section
variable {w : World} {K : PySem.W.Frag} {mg : Str → Option Value} {base : Heap}
theorem er_BadMarks (T : Tx K mg) : FnR P w K mg base (L2N.CX P w) 1 (MH.mt "BadMarks" "__init__" K) (spErrs (MH.gl "BadMarks" K) ["given"]) := by
  obtain ⟨fd, X, kV, doc, pm, an, ct, rfl⟩ := T.xi_BadMarks
  have F := OwnX.fn_xinit (k := 0) (w := w) (mg := mg) (base := base) (sp := spErrs (MH.gl "BadMarks" K) ["given"]) X sc_BadMarks_init (.all fun us hl => match us, hl with | [_, _], _ => rfl) rfl ⟨_, fun env => rfl⟩ rfl rfl (by decide +kernel) ?_ ?_ ?_
  · have R := FnR.from0 (CX := L2N.CX P w) (F.raw (.all fun us hl => match us, hl with | [_, _], _ => rfl) .nil)
    exact R.imp fun vs H Q E h => by rw [List.append_nil]; exact h
  · rintro vs H Q E ⟨a, us, rfl, hl, _⟩
    rw [List.length_cons, hl]
    rfl
  · rintro vs H Q E ⟨a, us, rfl, _, h, _⟩
    exact ⟨a, _, rfl, h⟩
  · rintro A o s H vs Q E ⟨a, us, rfl, hl, h, k⟩
    match us, hl with
    | [v], _ =>
      exact ⟨_, pss_one (ps_ost (pv 0) (pv 1)), _, rfl, _, rfl, a, MH.gl "BadMarks" K, rfl, T.ox_BadMarks, T.na_BadMarks_given, .inl ⟨h, fun d hd hn => k d hd hn⟩⟩
theorem er_BadText (T : Tx K mg) : FnR P w K mg base (L2N.CX P w) 1 (MH.mt "BadText" "__init__" K) (spErrs (MH.gl "BadText" K) ["at"]) := by
  obtain ⟨fd, X, kV, doc, pm, an, ct, rfl⟩ := T.xi_BadText
  have F := OwnX.fn_xinit (k := 0) (w := w) (mg := mg) (base := base) (sp := spErrs (MH.gl "BadText" K) ["at"]) X sc_BadText_init (.all fun us hl => match us, hl with | [_, _], _ => rfl) rfl ⟨_, fun env => rfl⟩ rfl rfl (by decide +kernel) ?_ ?_ ?_
  · have R := FnR.from0 (CX := L2N.CX P w) (F.raw (.all fun us hl => match us, hl with | [_, _], _ => rfl) .nil)
    exact R.imp fun vs H Q E h => by rw [List.append_nil]; exact h
  · rintro vs H Q E ⟨a, us, rfl, hl, _⟩
    rw [List.length_cons, hl]
    rfl
  · rintro vs H Q E ⟨a, us, rfl, _, h, _⟩
    exact ⟨a, _, rfl, h⟩
  · rintro A o s H vs Q E ⟨a, us, rfl, hl, h, k⟩
    match us, hl with
    | [v], _ =>
      exact ⟨_, pss_one (ps_ost (pv 0) (pv 1)), _, rfl, _, rfl, a, MH.gl "BadText" K, rfl, T.ox_BadText, T.na_BadText_at, .inl ⟨h, fun d hd hn => k d hd hn⟩⟩
theorem er_BadStep (T : Tx K mg) : FnR P w K mg base (L2N.CX P w) 1 (MH.mt "BadStep" "__init__" K) (spErrs (MH.gl "BadStep" K) ["at"]) := by
  obtain ⟨fd, X, kV, doc, pm, an, ct, rfl⟩ := T.xi_BadStep
  have F := OwnX.fn_xinit (k := 0) (w := w) (mg := mg) (base := base) (sp := spErrs (MH.gl "BadStep" K) ["at"]) X sc_BadStep_init (.all fun us hl => match us, hl with | [_, _], _ => rfl) rfl ⟨_, fun env => rfl⟩ rfl rfl (by decide +kernel) ?_ ?_ ?_
  · have R := FnR.from0 (CX := L2N.CX P w) (F.raw (.all fun us hl => match us, hl with | [_, _], _ => rfl) .nil)
    exact R.imp fun vs H Q E h => by rw [List.append_nil]; exact h
  · rintro vs H Q E ⟨a, us, rfl, hl, _⟩
    rw [List.length_cons, hl]
    rfl
  · rintro vs H Q E ⟨a, us, rfl, _, h, _⟩
    exact ⟨a, _, rfl, h⟩
  · rintro A o s H vs Q E ⟨a, us, rfl, hl, h, k⟩
    match us, hl with
    | [v], _ =>
      exact ⟨_, pss_one (ps_ost (pv 0) (pv 1)), _, rfl, _, rfl, a, MH.gl "BadStep" K, rfl, T.ox_BadStep, T.na_BadStep_at, .inl ⟨h, fun d hd hn => k d hd hn⟩⟩
theorem ktOk (T : Tx K mg) : KtOk (tb K) kt where
  cc := fun a b v h => AllL.look (P := fun (p : Nat × Nat) v => PySem.W.kitOne K (.ref ((tb K).cls p.1)) (.ref ((tb K).cls p.2)) = some v) (l := ccL) (a := (a, b)) ⟨T.ki_BadMarks_Marks, T.ki_BadMarks_BureauError, T.ki_BadMarks_BadText, T.ki_BadMarks_BadStep, T.ki_BadText_Marks, T.ki_BadText_BureauError, T.ki_BadText_BadText, T.ki_BadText_BadStep, T.ki_BadStep_Marks, T.ki_BadStep_BureauError, T.ki_BadStep_BadText, T.ki_BadStep_BadStep, trivial⟩ h
  ct := fun a t v h => AllL.look (P := fun (p : Nat × String) v => PySem.W.kitOne K (.ref ((tb K).cls p.1)) (.type p.2) = some v) (l := ctL) (a := (a, t)) ⟨T.ki_BadMarks_int, T.ki_BadMarks_str, T.ki_BadMarks_bool, T.ki_BadMarks_tuple, T.ki_BadMarks_ValueError, T.ki_BadText_int, T.ki_BadText_str, T.ki_BadText_bool, T.ki_BadText_tuple, T.ki_BadText_ValueError, T.ki_BadStep_int, T.ki_BadStep_str, T.ki_BadStep_bool, T.ki_BadStep_tuple, T.ki_BadStep_ValueError, trivial⟩ h
  tc := fun t b v h => AllL.look (P := fun (p : String × Nat) v => PySem.W.kitOne K (.type p.1) (.ref ((tb K).cls p.2)) = some v) (l := tcL) (a := (t, b)) trivial h
  pl := fun c h => absurd h Bool.false_ne_true
theorem askOk_ (T : Tx K mg) : AskOk (tb K) ask := fun c fl h => AllL.look (P := fun c (fl : List Nat) => PySem.W.OwnT.Asks K ((tb K).cls c) ∧ ∀ f ∈ fl, NoAttr K ((tb K).cls c) ((tb K).fld f)) (l := askL) ⟨⟨T.as_BadMarks, fun f hf => by rw [List.mem_singleton.mp hf]; exact T.na_BadMarks_given⟩, ⟨T.as_BadText, fun f hf => by rw [List.mem_singleton.mp hf]; exact T.na_BadText_at⟩, ⟨T.as_BadStep, fun f hf => by rw [List.mem_singleton.mp hf]; exact T.na_BadStep_at⟩, trivial⟩ h
theorem gf0 (T : Tx K mg) : GF P w mg base (tb K) g0 where
  fns := fun _ _ h => nomatch h
  cst := fun x d h => AllL.look (P := fun x d => ∃ v u, mg x = some u ∧ RelV v u ∧ ∀ G, Rp (tb K) G d v) (l := cstL) ⟨T.k__CHUNK rfl, T.k__WAYS rfl, T.k__DROP rfl, T.k__MOST_ROWS rfl, trivial⟩ h
  free := fun x h => by
    obtain ⟨u, h⟩ := Option.isSome_iff_exists.mp h
    exact AllL.look (P := fun x _ => mg x = none) (l := freeL) ⟨T.free_isinstance, T.free_int, T.free_bool, T.free_abs, T.free_divmod, T.free_len, T.free_str, T.free_tuple, T.free_enumerate, T.free_ValueError, T.free_range, trivial⟩ h
  flds := fun f i cs h => AllL.look (P := fun f (p : Nat × List Nat) => (tb K).fld p.1 = f ∧ ∀ c, p.2.contains c = true → Cls K ((tb K).cls c) ∧ NoAttr K ((tb K).cls c) f) (l := fldL) ⟨⟨rfl, fun c h => absurd h Bool.false_ne_true⟩, ⟨rfl, fun c h => absurd h Bool.false_ne_true⟩, ⟨rfl, fun c h => absurd h Bool.false_ne_true⟩, trivial⟩ h
  mks := fun _ _ _ h => nomatch h
  mth := fun _ _ _ h => nomatch h
  cms := fun _ _ _ _ h => nomatch h
  clsN := fun x c h => AllL.look (P := fun x c => mg x = some (.ref ((tb K).cls c))) (l := clsL) ⟨T.g_BadMarks, T.g_BadText, T.g_BadStep, T.g_Marks, T.g_BureauError, trivial⟩ h
  kt := ktOk T
  clv := fun x f d h => AllL.look (P := fun (p : Str × Str) d => ∃ c mc v u, mg p.1 = some (.ref ((tb K).cls c)) ∧ ClX.CRead K ((tb K).cls c) mc ∧ ClX.CVal K ((tb K).cls c) mc p.2 v u ∧ ∀ G, Rp (tb K) G d v) (l := clvL) ⟨(let ⟨u, hu⟩ := T.tx_Marks_ALL; ⟨3, _, _, u, T.g_Marks, T.rd_Marks, hu, fun _ => Rp.str [97, 98, 99, 100, 101, 102]⟩), trivial⟩ h
  err := fun x c fs l h => AllL.look (P := fun x (p : Nat × List Nat × Nat) => mg x = some (.ref ((tb K).cls p.1)) ∧ OexC K ((tb K).cls p.1) ∧ ∃ fI, PySem.W.findIn K (.ref ((tb K).cls p.1)) "__init__" = some (some (.ref fI)) ∧ PySem.W.typeIn K (.ref fI) = some (.type "function") ∧ FnR P w K mg base (L2N.CX P w) p.2.2 fI (spErrs ((tb K).cls p.1) (p.2.1.map (tb K).fld))) (l := errL) ⟨⟨T.g_BadMarks, T.ox_BadMarks, _, T.m_BadMarks_init.at_, Z.fn_type T.m_BadMarks_init.fn, er_BadMarks T⟩, ⟨T.g_BadText, T.ox_BadText, _, T.m_BadText_init.at_, Z.fn_type T.m_BadText_init.fn, er_BadText T⟩, ⟨T.g_BadStep, T.ox_BadStep, _, T.m_BadStep_init.at_, Z.fn_type T.m_BadStep_init.fn, er_BadStep T⟩, trivial⟩ h
  exn := fun x cat h => AllL.look (P := fun x (cat : Nat → Option Bool) => ∃ cv, mg x = some cv ∧ ∀ c b, cat c = some b → PySem.W.exmOne K (.ref ((tb K).cls c)) cv = some b) (l := exnL) ⟨⟨_, T.g_BadStep, fun c b h => AllL.look (P := fun c b => PySem.W.exmOne K (.ref ((tb K).cls c)) (.ref (MH.gl "BadStep" K)) = some b) (l := catL_BadStep) ⟨T.em_BadMarks_BadStep, T.em_BadText_BadStep, T.em_BadStep_BadStep, trivial⟩ h⟩, ⟨_, T.g_BadText, fun c b h => AllL.look (P := fun c b => PySem.W.exmOne K (.ref ((tb K).cls c)) (.ref (MH.gl "BadText" K)) = some b) (l := catL_BadText) ⟨T.em_BadMarks_BadText, T.em_BadText_BadText, T.em_BadStep_BadText, trivial⟩ h⟩, trivial⟩ h
  ask := askOk_ T
  kwc := fun _ _ _ _ h => nomatch h
end
end K19

set_option Elab.async false
set_option linter.all false
set_option maxRecDepth 100000
set_option maxHeartbeats 4000000
namespace K19
open PySem PySem.Spec PyProof.Rows L2 Vm
section
variable {w : World} {K : PySem.W.Frag} {mg : Str → Option Value} {base : Heap}
def g_is_plain_integer : Gm := gw g0 ["thing"] (defScope s_is_plain_integer) 0 true [] []
theorem tr_is_plain_integer : trSs g_is_plain_integer 60 (defBody s_is_plain_integer) = some m_is_plain_integer := by kernel_rfl
theorem ok_is_plain_integer (T : Tx K mg) {fd} (D : FunD K "is_plain_integer" "is_plain_integer" (defArgs s_is_plain_integer) (defBody s_is_plain_integer) (defScope s_is_plain_integer) [] [] (MH.gl "is_plain_integer" K) fd) : FnOk P w K mg base (L2N.CX P w) 1 (MH.gl "is_plain_integer" K) fd ["thing"] (spF (tb K) F_is_plain_integer 1) :=
  def_tr (B := tb K) (g := g_is_plain_integer) D sc_is_plain_integer (by decide) rfl rfl rfl rfl ((gf0 T).gw trivial trivial) tr_is_plain_integer
theorem fp_is_plain_integer (T : Tx K mg) : FP P w K mg base (tb K) 1 (MH.gl "is_plain_integer" K) F_is_plain_integer 1 [] := by
  obtain ⟨fd, D⟩ := T.f_is_plain_integer
  exact fp_mk (B := tb K) (ps := ["thing"]) D (ok_is_plain_integer T D) run_len (fun _ _ _ _ _ _ us hl => match us, hl with | [_], _ => rfl)
def g_is_digits : Gm := gw g0 ["text"] (defScope s_is_digits) 0 true [] []
theorem tr_is_digits : trSs g_is_digits 60 (defBody s_is_digits) = some m_is_digits := by kernel_rfl
theorem ok_is_digits (T : Tx K mg) {fd} (D : FunD K "is_digits" "is_digits" (defArgs s_is_digits) (defBody s_is_digits) (defScope s_is_digits) [] [] (MH.gl "is_digits" K) fd) : FnOk P w K mg base (L2N.CX P w) 1 (MH.gl "is_digits" K) fd ["text"] (spF (tb K) F_is_digits 1) :=
  def_tr (B := tb K) (g := g_is_digits) D sc_is_digits (by decide) rfl rfl rfl rfl ((gf0 T).gw trivial trivial) tr_is_digits
theorem fp_is_digits (T : Tx K mg) : FP P w K mg base (tb K) 1 (MH.gl "is_digits" K) F_is_digits 1 [] := by
  obtain ⟨fd, D⟩ := T.f_is_digits
  exact fp_mk (B := tb K) (ps := ["text"]) D (ok_is_digits T D) run_len (fun _ _ _ _ _ _ us hl => match us, hl with | [_], _ => rfl)
def g_written : Gm := gw g0 ["number", "sign", "rest", "digits", "low"] (defScope s_written) 0 true [] []
theorem tr_written : trSs g_written 60 (defBody s_written) = some m_written := by kernel_rfl
theorem ok_written (T : Tx K mg) {fd} (D : FunD K "written" "written" (defArgs s_written) (defBody s_written) (defScope s_written) [] [] (MH.gl "written" K) fd) : FnOk P w K mg base (L2N.CX P w) 1 (MH.gl "written" K) fd ["number"] (spF (tb K) F_written 1) :=
  def_tr (B := tb K) (g := g_written) D sc_written (by decide) rfl rfl rfl rfl ((gf0 T).gw trivial trivial) tr_written
theorem fp_written (T : Tx K mg) : FP P w K mg base (tb K) 1 (MH.gl "written" K) F_written 1 [] := by
  obtain ⟨fd, D⟩ := T.f_written
  exact fp_mk (B := tb K) (ps := ["number"]) D (ok_written T D) run_len (fun _ _ _ _ _ _ us hl => match us, hl with | [_], _ => rfl)
def g_read_integer : Gm := gw g0 ["text", "most", "digits", "number"] (defScope s_read_integer) 1 true [("written", ⟨F_written, [], 1, [], 1, false⟩), ("is_digits", ⟨F_is_digits, [], 1, [], 1, false⟩)] []
theorem tr_read_integer : trSs g_read_integer 60 (defBody s_read_integer) = some m_read_integer := by kernel_rfl
theorem ok_read_integer (T : Tx K mg) {fd} (D : FunD K "read_integer" "read_integer" (defArgs s_read_integer) (defBody s_read_integer) (defScope s_read_integer) [] [] (MH.gl "read_integer" K) fd) : FnOk P w K mg base (L2N.CX P w) 2 (MH.gl "read_integer" K) fd ["text", "most"] (spF (tb K) F_read_integer 2) :=
  def_tr (B := tb K) (g := g_read_integer) D sc_read_integer (by decide) rfl rfl rfl rfl ((gf0 T).gw ⟨⟨_, T.g_written, (Classical.choose_spec T.f_written).kp, fp_written T, fun z => nomatch z⟩, ⟨_, T.g_is_digits, (Classical.choose_spec T.f_is_digits).kp, fp_is_digits T, fun z => nomatch z⟩, trivial⟩ trivial) tr_read_integer
theorem fp_read_integer (T : Tx K mg) : FP P w K mg base (tb K) 2 (MH.gl "read_integer" K) F_read_integer 2 [] := by
  obtain ⟨fd, D⟩ := T.f_read_integer
  exact fp_mk (B := tb K) (ps := ["text", "most"]) D (ok_read_integer T D) run_len (fun _ _ _ _ _ _ us hl => match us, hl with | [_, _], _ => rfl)
def g_is_marks_text : Gm := gw g0 ["thing", "mark"] (defScope s_is_marks_text) 0 true [] []
theorem tr_is_marks_text : trSs g_is_marks_text 60 (defBody s_is_marks_text) = some m_is_marks_text := by kernel_rfl
theorem ok_is_marks_text (T : Tx K mg) {fd} (D : FunD K "is_marks_text" "is_marks_text" (defArgs s_is_marks_text) (defBody s_is_marks_text) (defScope s_is_marks_text) [] [] (MH.gl "is_marks_text" K) fd) : FnOk P w K mg base (L2N.CX P w) 1 (MH.gl "is_marks_text" K) fd ["thing"] (spF (tb K) F_is_marks_text 1) :=
  def_tr (B := tb K) (g := g_is_marks_text) D sc_is_marks_text (by decide) rfl rfl rfl rfl ((gf0 T).gw trivial trivial) tr_is_marks_text
theorem fp_is_marks_text (T : Tx K mg) : FP P w K mg base (tb K) 1 (MH.gl "is_marks_text" K) F_is_marks_text 1 [] := by
  obtain ⟨fd, D⟩ := T.f_is_marks_text
  exact fp_mk (B := tb K) (ps := ["thing"]) D (ok_is_marks_text T D) run_len (fun _ _ _ _ _ _ us hl => match us, hl with | [_], _ => rfl)
def g__is_limit : Gm := gw g0 ["rows"] (defScope s__is_limit) 1 true [("is_plain_integer", ⟨F_is_plain_integer, [], 1, [], 1, false⟩)] []
theorem tr__is_limit : trSs g__is_limit 60 (defBody s__is_limit) = some m__is_limit := by kernel_rfl
theorem ok__is_limit (T : Tx K mg) {fd} (D : FunD K "_is_limit" "_is_limit" (defArgs s__is_limit) (defBody s__is_limit) (defScope s__is_limit) [] [] (MH.gl "_is_limit" K) fd) : FnOk P w K mg base (L2N.CX P w) 2 (MH.gl "_is_limit" K) fd ["rows"] (spF (tb K) F__is_limit 1) :=
  def_tr (B := tb K) (g := g__is_limit) D sc__is_limit (by decide) rfl rfl rfl rfl ((gf0 T).gw ⟨⟨_, T.g_is_plain_integer, (Classical.choose_spec T.f_is_plain_integer).kp, fp_is_plain_integer T, fun z => nomatch z⟩, trivial⟩ trivial) tr__is_limit
theorem fp__is_limit (T : Tx K mg) : FP P w K mg base (tb K) 2 (MH.gl "_is_limit" K) F__is_limit 1 [] := by
  obtain ⟨fd, D⟩ := T.f__is_limit
  exact fp_mk (B := tb K) (ps := ["rows"]) D (ok__is_limit T D) run_len (fun _ _ _ _ _ _ us hl => match us, hl with | [_], _ => rfl)
def g_is_fill_step : Gm := gw g0 ["thing", "way", "rows", "halt"] (defScope s_is_fill_step) 2 true [("_is_limit", ⟨F__is_limit, [], 1, [], 2, false⟩), ("is_marks_text", ⟨F_is_marks_text, [], 1, [], 1, false⟩)] []
theorem tr_is_fill_step : trSs g_is_fill_step 60 (defBody s_is_fill_step) = some m_is_fill_step := by kernel_rfl
theorem ok_is_fill_step (T : Tx K mg) {fd} (D : FunD K "is_fill_step" "is_fill_step" (defArgs s_is_fill_step) (defBody s_is_fill_step) (defScope s_is_fill_step) [] [] (MH.gl "is_fill_step" K) fd) : FnOk P w K mg base (L2N.CX P w) 3 (MH.gl "is_fill_step" K) fd ["thing"] (spF (tb K) F_is_fill_step 1) :=
  def_tr (B := tb K) (g := g_is_fill_step) D sc_is_fill_step (by decide) rfl rfl rfl rfl ((gf0 T).gw ⟨⟨_, T.g__is_limit, (Classical.choose_spec T.f__is_limit).kp, fp__is_limit T, fun z => nomatch z⟩, ⟨_, T.g_is_marks_text, (Classical.choose_spec T.f_is_marks_text).kp, fp_is_marks_text T, fun z => nomatch z⟩, trivial⟩ trivial) tr_is_fill_step
theorem fp_is_fill_step (T : Tx K mg) : FP P w K mg base (tb K) 3 (MH.gl "is_fill_step" K) F_is_fill_step 1 [] := by
  obtain ⟨fd, D⟩ := T.f_is_fill_step
  exact fp_mk (B := tb K) (ps := ["thing"]) D (ok_is_fill_step T D) run_len (fun _ _ _ _ _ _ us hl => match us, hl with | [_], _ => rfl)
def g_fill_step : Gm := gw g0 ["way", "rows", "halt", "step"] (defScope s_fill_step) 3 true [("is_fill_step", ⟨F_is_fill_step, [], 1, [], 3, false⟩)] []
theorem tr_fill_step : trSs g_fill_step 60 (defBody s_fill_step) = some m_fill_step := by kernel_rfl
theorem ok_fill_step (T : Tx K mg) {fd} (D : FunD K "fill_step" "fill_step" (defArgs s_fill_step) (defBody s_fill_step) (defScope s_fill_step) [] (d_fill_step.kws K) (MH.gl "fill_step" K) fd) : FnOk P w K mg base (L2N.CX P w) 4 (MH.gl "fill_step" K) fd ["way", "rows", "halt"] (spF (tb K) F_fill_step 3) :=
  def_tr (B := tb K) (g := g_fill_step) D sc_fill_step (by decide) rfl rfl rfl rfl ((gf0 T).gw ⟨⟨_, T.g_is_fill_step, (Classical.choose_spec T.f_is_fill_step).kp, fp_is_fill_step T, fun z => nomatch z⟩, trivial⟩ trivial) tr_fill_step
theorem fp_fill_step_1 (T : Tx K mg) : FP P w K mg base (tb K) 4 (MH.gl "fill_step" K) F_fill_step 3 [.non, (.str [45])] := by
  obtain ⟨fd, D⟩ := T.f_fill_step
  exact fp_kw0 (B := tb K) (ps := ["way", "rows", "halt"]) D (ok_fill_step T D) run_len 1 (fun z => nomatch z) rfl (fun G => .cons .non (.cons (Rp.str [45]) .nil)) fun E doc pm an cdv ct us ks h1 h2 => match us, ks, h1, h2 with
    | [_], [_, _], _, _ => ⟨_, _, _, _, _, _, rfl, rfl, _, _, _, _, _, _, rfl, rfl, rfl⟩
theorem fpk_fill_step__1_rows_halt (T : Tx K mg) : FPK P w K mg base (tb K) 4 (MH.gl "fill_step" K) 1 ["rows", "halt"] F_fill_step__1_rows_halt 3 := by
  obtain ⟨fd, D⟩ := T.f_fill_step
  exact fpk_mk (B := tb K) (n := 3) (ps := ["way", "rows", "halt"]) D (ok_fill_step T D) run_len 1 ["rows", "halt"] [] [] gAll (fun _ h => nomatch h) (fun _ => .nil) (fun _ r _ _ => r) (fun _ _ _ _ r => r) rfl (fun z => nomatch z) fun E doc pm an cdv ct us ws mv h1 h2 h3 => match us, ws, mv, h1, h2, h3 with
    | [_], [_, _], [], _, _, _ => rfl
theorem fpk_fill_step__1_rows (T : Tx K mg) : FPK P w K mg base (tb K) 4 (MH.gl "fill_step" K) 1 ["rows"] F_fill_step__1_rows 2 := by
  obtain ⟨fd, D⟩ := T.f_fill_step
  exact fpk_mk (B := tb K) (n := 2) (ps := ["way", "rows", "halt"]) D (ok_fill_step T D) run_len 1 ["rows"] [("halt", .str "-")] [.str [45]] gEnd (fun q h => .tail _ h) (fun _ => .cons (Rp.str [45]) .nil) (fun _ r m _ => r.append m) (fun _ _ _ _ r => r.app (.cons (Rp.str [45]) .nil)) rfl (fun z => nomatch z) fun E doc pm an cdv ct us ws mv h1 h2 h3 => match us, ws, mv, h1, h2, h3 with
    | [_], [_], [_], _, _, _ => ⟨_, _, _, _, _, _, rfl, rfl, rfl⟩
theorem fpk_fill_step__1_halt (T : Tx K mg) : FPK P w K mg base (tb K) 4 (MH.gl "fill_step" K) 1 ["halt"] F_fill_step__1_halt 2 := by
  obtain ⟨fd, D⟩ := T.f_fill_step
  exact fpk_mk (B := tb K) (n := 2) (ps := ["way", "rows", "halt"]) D (ok_fill_step T D) run_len 1 ["halt"] [("rows", .non)] [.non] gMid (fun q h => by rw [List.mem_singleton.mp h]; exact .head _) (fun _ => .cons .non .nil)
    (fun {zs mz ws mv} hl r m hm => match zs, mz, ws, mv, hl, r, m, hm with | [_, _], [_], [_, _], [_], _, .cons a (.cons c .nil), .cons b .nil, _ => .cons a (.cons b (.cons c .nil)))
    (fun _ ds vs hl r => match ds, vs, hl, r with | [_, _], [_, _], _, .cons a (.cons c .nil) => .cons a (.cons .non (.cons c .nil))) rfl (fun z => nomatch z) fun E doc pm an cdv ct us ws mv h1 h2 h3 => match us, ws, mv, h1, h2, h3 with
    | [_], [_], [_], _, _, _ => ⟨_, _, _, _, _, _, rfl, rfl, rfl⟩
theorem fpk_fill_step__1_halt_rows (T : Tx K mg) : FPK P w K mg base (tb K) 4 (MH.gl "fill_step" K) 1 ["halt", "rows"] F_fill_step__1_halt_rows 3 := by
  obtain ⟨fd, D⟩ := T.f_fill_step
  exact fpk_mk (B := tb K) (n := 3) (ps := ["way", "rows", "halt"]) D (ok_fill_step T D) run_len 1 ["halt", "rows"] [] [] gSwap (fun _ h => nomatch h) (fun _ => .nil)
    (fun {zs mz ws mv} hl r m hm => match zs, mz, ws, mv, hl, r, m, hm with | [_, _, _], [], [_, _, _], [], _, .cons a (.cons c (.cons b .nil)), .nil, _ => .cons a (.cons b (.cons c .nil)))
    (fun _ ds vs hl r => match ds, vs, hl, r with | [_, _, _], [_, _, _], _, .cons a (.cons c (.cons b .nil)) => .cons a (.cons b (.cons c .nil))) rfl (fun z => nomatch z) fun E doc pm an cdv ct us ws mv h1 h2 h3 => match us, ws, mv, h1, h2, h3 with
    | [_], [_, _], [], _, _, _ => rfl
def g__word_behind : Gm := gw g0 ["words", "name", "at", "word"] (defScope s__word_behind) 0 true [] []
theorem tr__word_behind : trSs g__word_behind 60 (defBody s__word_behind) = some m__word_behind := by kernel_rfl
theorem ok__word_behind (T : Tx K mg) {fd} (D : FunD K "_word_behind" "_word_behind" (defArgs s__word_behind) (defBody s__word_behind) (defScope s__word_behind) [] [] (MH.gl "_word_behind" K) fd) : FnOk P w K mg base (L2N.CX P w) 1 (MH.gl "_word_behind" K) fd ["words", "name"] (spF (tb K) F__word_behind 2) :=
  def_tr (B := tb K) (g := g__word_behind) D sc__word_behind (by decide) rfl rfl rfl rfl ((gf0 T).gw trivial trivial) tr__word_behind
theorem fp__word_behind (T : Tx K mg) : FP P w K mg base (tb K) 1 (MH.gl "_word_behind" K) F__word_behind 2 [] := by
  obtain ⟨fd, D⟩ := T.f__word_behind
  exact fp_mk (B := tb K) (ps := ["words", "name"]) D (ok__word_behind T D) run_len (fun _ _ _ _ _ _ us hl => match us, hl with | [_, _], _ => rfl)
def g_fill_text : Gm := gw g0 ["step", "limit", "border", "way", "rows", "halt"] (defScope s_fill_text) 0 true [] []
theorem tr_fill_text : trSs g_fill_text 60 (defBody s_fill_text) = some m_fill_text := by kernel_rfl
theorem ok_fill_text (T : Tx K mg) {fd} (D : FunD K "fill_text" "fill_text" (defArgs s_fill_text) (defBody s_fill_text) (defScope s_fill_text) [] [] (MH.gl "fill_text" K) fd) : FnOk P w K mg base (L2N.CX P w) 1 (MH.gl "fill_text" K) fd ["step"] (spF (tb K) F_fill_text 1) :=
  def_tr (B := tb K) (g := g_fill_text) D sc_fill_text (by decide) rfl rfl rfl rfl ((gf0 T).gw trivial trivial) tr_fill_text
theorem fp_fill_text (T : Tx K mg) : FP P w K mg base (tb K) 1 (MH.gl "fill_text" K) F_fill_text 1 [] := by
  obtain ⟨fd, D⟩ := T.f_fill_text
  exact fp_mk (B := tb K) (ps := ["step"]) D (ok_fill_text T D) run_len (fun _ _ _ _ _ _ us hl => match us, hl with | [_], _ => rfl)
def g_read_fill : Gm := gw g0 ["text", "words", "step", "rows", "halt"] (defScope s_read_fill) 3 true [("is_fill_step", ⟨F_is_fill_step, [], 1, [], 3, false⟩), ("fill_text", ⟨F_fill_text, [], 1, [], 1, false⟩), ("read_integer", ⟨F_read_integer, [], 2, [], 2, false⟩), ("_word_behind", ⟨F__word_behind, [], 2, [], 1, false⟩)] []
theorem tr_read_fill : trSs g_read_fill 60 (defBody s_read_fill) = some m_read_fill := by kernel_rfl
theorem ok_read_fill (T : Tx K mg) {fd} (D : FunD K "read_fill" "read_fill" (defArgs s_read_fill) (defBody s_read_fill) (defScope s_read_fill) [] [] (MH.gl "read_fill" K) fd) : FnOk P w K mg base (L2N.CX P w) 4 (MH.gl "read_fill" K) fd ["text"] (spF (tb K) F_read_fill 1) :=
  def_tr (B := tb K) (g := g_read_fill) D sc_read_fill (by decide) rfl rfl rfl rfl ((gf0 T).gw ⟨⟨_, T.g_is_fill_step, (Classical.choose_spec T.f_is_fill_step).kp, fp_is_fill_step T, fun z => nomatch z⟩, ⟨_, T.g_fill_text, (Classical.choose_spec T.f_fill_text).kp, fp_fill_text T, fun z => nomatch z⟩, ⟨_, T.g_read_integer, (Classical.choose_spec T.f_read_integer).kp, fp_read_integer T, fun z => nomatch z⟩, ⟨_, T.g__word_behind, (Classical.choose_spec T.f__word_behind).kp, fp__word_behind T, fun z => nomatch z⟩, trivial⟩ trivial) tr_read_fill
theorem fp_read_fill (T : Tx K mg) : FP P w K mg base (tb K) 4 (MH.gl "read_fill" K) F_read_fill 1 [] := by
  obtain ⟨fd, D⟩ := T.f_read_fill
  exact fp_mk (B := tb K) (ps := ["text"]) D (ok_read_fill T D) run_len (fun _ _ _ _ _ _ us hl => match us, hl with | [_], _ => rfl)
def g_L_pool : Gm := gw g0 ["_law_script", "_law_seed", "_law_cell"] (defScope s_L_pool) 0 true [] []
theorem tr_L_pool : trSs g_L_pool 60 (defBody s_L_pool) = some m_L_pool := by kernel_rfl
theorem ok_L_pool (T : Tx K mg) {fd} (D : FunD K "_law_pool" "_law_pool" (defArgs s_L_pool) (defBody s_L_pool) (defScope s_L_pool) [] [] (MH.gl "_law_pool" K) fd) : FnOk P w K mg base (L2N.CX P w) 1 (MH.gl "_law_pool" K) fd ["_law_script"] (spF (tb K) F_L_pool 1) :=
  def_tr (B := tb K) (g := g_L_pool) D sc_L_pool (by decide) rfl rfl rfl rfl ((gf0 T).gw trivial trivial) tr_L_pool
theorem fp_L_pool (T : Tx K mg) : FP P w K mg base (tb K) 1 (MH.gl "_law_pool" K) F_L_pool 1 [] := by
  obtain ⟨fd, D⟩ := T.f_L_pool
  exact fp_mk (B := tb K) (ps := ["_law_script"]) D (ok_L_pool T D) run_len (fun _ _ _ _ _ _ us hl => match us, hl with | [_], _ => rfl)
def g_L_draw : Gm := gw g0 ["_law_pool_here", "_law_limit_here", "_law_mixed", "_law_digit"] (defScope s_L_draw) 0 true [] []
theorem tr_L_draw : trSs g_L_draw 60 (defBody s_L_draw) = some m_L_draw := by kernel_rfl
theorem ok_L_draw (T : Tx K mg) {fd} (D : FunD K "_law_draw" "_law_draw" (defArgs s_L_draw) (defBody s_L_draw) (defScope s_L_draw) [] [] (MH.gl "_law_draw" K) fd) : FnOk P w K mg base (L2N.CX P w) 1 (MH.gl "_law_draw" K) fd ["_law_pool_here", "_law_limit_here"] (spF (tb K) F_L_draw 2) :=
  def_tr (B := tb K) (g := g_L_draw) D sc_L_draw (by decide) rfl rfl rfl rfl ((gf0 T).gw trivial trivial) tr_L_draw
theorem fp_L_draw (T : Tx K mg) : FP P w K mg base (tb K) 1 (MH.gl "_law_draw" K) F_L_draw 2 [] := by
  obtain ⟨fd, D⟩ := T.f_L_draw
  exact fp_mk (B := tb K) (ps := ["_law_pool_here", "_law_limit_here"]) D (ok_L_draw T D) run_len (fun _ _ _ _ _ _ us hl => match us, hl with | [_, _], _ => rfl)
def g_L_pick : Gm := gw g0 ["_law_pool_here", "_law_things"] (defScope s_L_pick) 1 true [("_law_draw", ⟨F_L_draw, [true, false], 2, [], 1, false⟩)] []
theorem tr_L_pick : trSs g_L_pick 60 (defBody s_L_pick) = some m_L_pick := by kernel_rfl
theorem ok_L_pick (T : Tx K mg) {fd} (D : FunD K "_law_pick" "_law_pick" (defArgs s_L_pick) (defBody s_L_pick) (defScope s_L_pick) [] [] (MH.gl "_law_pick" K) fd) : FnOk P w K mg base (L2N.CX P w) 2 (MH.gl "_law_pick" K) fd ["_law_pool_here", "_law_things"] (spF (tb K) F_L_pick 2) :=
  def_tr (B := tb K) (g := g_L_pick) D sc_L_pick (by decide) rfl rfl rfl rfl ((gf0 T).gw ⟨⟨_, T.g_L_draw, (Classical.choose_spec T.f_L_draw).kp, fp_L_draw T, fun z => nomatch z⟩, trivial⟩ trivial) tr_L_pick
theorem fp_L_pick (T : Tx K mg) : FP P w K mg base (tb K) 2 (MH.gl "_law_pick" K) F_L_pick 2 [] := by
  obtain ⟨fd, D⟩ := T.f_L_pick
  exact fp_mk (B := tb K) (ps := ["_law_pool_here", "_law_things"]) D (ok_L_pick T D) run_len (fun _ _ _ _ _ _ us hl => match us, hl with | [_, _], _ => rfl)
def g_L_letters : Gm := gw g0 ["_law_bits", "_law_letters_here", "_law_mark"] (defScope s_L_letters) 0 true [] []
theorem tr_L_letters : trSs g_L_letters 60 (defBody s_L_letters) = some m_L_letters := by kernel_rfl
theorem ok_L_letters (T : Tx K mg) {fd} (D : FunD K "_law_letters" "_law_letters" (defArgs s_L_letters) (defBody s_L_letters) (defScope s_L_letters) [] [] (MH.gl "_law_letters" K) fd) : FnOk P w K mg base (L2N.CX P w) 1 (MH.gl "_law_letters" K) fd ["_law_bits"] (spF (tb K) F_L_letters 1) :=
  def_tr (B := tb K) (g := g_L_letters) D sc_L_letters (by decide) rfl rfl rfl rfl ((gf0 T).gw trivial trivial) tr_L_letters
theorem fp_L_letters (T : Tx K mg) : FP P w K mg base (tb K) 1 (MH.gl "_law_letters" K) F_L_letters 1 [] := by
  obtain ⟨fd, D⟩ := T.f_L_letters
  exact fp_mk (B := tb K) (ps := ["_law_bits"]) D (ok_L_letters T D) run_len (fun _ _ _ _ _ _ us hl => match us, hl with | [_], _ => rfl)
def g_L_whole : Gm := gw g0 ["_law_actual"] (defScope s_L_whole) 0 true [] []
theorem tr_L_whole : trSs g_L_whole 60 (defBody s_L_whole) = some m_L_whole := by kernel_rfl
def gh_L_whole : Gm := gw g0 ["_law_actual"] (defScope s_L_whole) 0 false [] []
theorem trh_L_whole : trSs gh_L_whole 60 (defBody s_L_whole) = some m_L_whole := by kernel_rfl
theorem ok_L_whole (T : Tx K mg) {fd} (D : FunD K "_law_whole" "_law_whole" (defArgs s_L_whole) (defBody s_L_whole) (defScope s_L_whole) [] [] (MH.gl "_law_whole" K) fd) : FnOk P w K mg base (L2N.CX P w) 1 (MH.gl "_law_whole" K) fd ["_law_actual"] (spF (tb K) F_L_whole 1) :=
  def_tr (B := tb K) (g := g_L_whole) D sc_L_whole (by decide) rfl rfl rfl rfl ((gf0 T).gw trivial trivial) tr_L_whole
theorem fp_L_whole (T : Tx K mg) : FP P w K mg base (tb K) 1 (MH.gl "_law_whole" K) F_L_whole 1 [] := by
  obtain ⟨fd, D⟩ := T.f_L_whole
  exact fp_mk (B := tb K) (ps := ["_law_actual"]) D (ok_L_whole T D) run_len (fun _ _ _ _ _ _ us hl => match us, hl with | [_], _ => rfl)
theorem fph_L_whole (T : Tx K mg) : FPH P w K mg base (tb K) 1 (MH.gl "_law_whole" K) F_L_whole 1 := by
  obtain ⟨fd, D⟩ := T.f_L_whole
  exact fph_mk (B := tb K) (ps := ["_law_actual"]) D (def_trH (B := tb K) (g := gh_L_whole) D sc_L_whole (by decide) rfl rfl rfl rfl ((gf0 T).gw trivial trivial) trh_L_whole) run_len (fun _ _ _ _ _ _ us hl => match us, hl with | [_], _ => rfl)
def g_L_set : Gm := gw g0 ["_law_letters_here", "_law_last", "_law_mark"] (defScope s_L_set) 0 true [] []
theorem tr_L_set : trSs g_L_set 60 (defBody s_L_set) = some m_L_set := by kernel_rfl
theorem ok_L_set (T : Tx K mg) {fd} (D : FunD K "_law_set" "_law_set" (defArgs s_L_set) (defBody s_L_set) (defScope s_L_set) [] [] (MH.gl "_law_set" K) fd) : FnOk P w K mg base (L2N.CX P w) 1 (MH.gl "_law_set" K) fd ["_law_letters_here"] (spF (tb K) F_L_set 1) :=
  def_tr (B := tb K) (g := g_L_set) D sc_L_set (by decide) rfl rfl rfl rfl ((gf0 T).gw trivial trivial) tr_L_set
theorem fp_L_set (T : Tx K mg) : FP P w K mg base (tb K) 1 (MH.gl "_law_set" K) F_L_set 1 [] := by
  obtain ⟨fd, D⟩ := T.f_L_set
  exact fp_mk (B := tb K) (ps := ["_law_letters_here"]) D (ok_L_set T D) run_len (fun _ _ _ _ _ _ us hl => match us, hl with | [_], _ => rfl)
def g_L_valid : Gm := gw g0 ["_law_way", "_law_limit_here", "_law_stop_here"] (defScope s_L_valid) 1 true [("_law_set", ⟨F_L_set, [], 1, [], 1, false⟩), ("_law_whole", ⟨F_L_whole, [], 1, [], 1, true⟩)] []
theorem tr_L_valid : trSs g_L_valid 60 (defBody s_L_valid) = some m_L_valid := by kernel_rfl
theorem ok_L_valid (T : Tx K mg) {fd} (D : FunD K "_law_valid" "_law_valid" (defArgs s_L_valid) (defBody s_L_valid) (defScope s_L_valid) [] [] (MH.gl "_law_valid" K) fd) : FnOk P w K mg base (L2N.CX P w) 2 (MH.gl "_law_valid" K) fd ["_law_way", "_law_limit_here", "_law_stop_here"] (spF (tb K) F_L_valid 3) :=
  def_tr (B := tb K) (g := g_L_valid) D sc_L_valid (by decide) rfl rfl rfl rfl ((gf0 T).gw ⟨⟨_, T.g_L_set, (Classical.choose_spec T.f_L_set).kp, fp_L_set T, fun z => nomatch z⟩, ⟨_, T.g_L_whole, (Classical.choose_spec T.f_L_whole).kp, fp_L_whole T, fun _ => fph_L_whole T⟩, trivial⟩ trivial) tr_L_valid
theorem fp_L_valid (T : Tx K mg) : FP P w K mg base (tb K) 2 (MH.gl "_law_valid" K) F_L_valid 3 [] := by
  obtain ⟨fd, D⟩ := T.f_L_valid
  exact fp_mk (B := tb K) (ps := ["_law_way", "_law_limit_here", "_law_stop_here"]) D (ok_L_valid T D) run_len (fun _ _ _ _ _ _ us hl => match us, hl with | [_, _, _], _ => rfl)
def g_L_is_step : Gm := gw g0 ["_law_actual", "_law_due"] (defScope s_L_is_step) 1 true [("_law_whole", ⟨F_L_whole, [], 1, [], 1, true⟩)] []
theorem tr_L_is_step : trSs g_L_is_step 60 (defBody s_L_is_step) = some m_L_is_step := by kernel_rfl
theorem ok_L_is_step (T : Tx K mg) {fd} (D : FunD K "_law_is_step" "_law_is_step" (defArgs s_L_is_step) (defBody s_L_is_step) (defScope s_L_is_step) [] [] (MH.gl "_law_is_step" K) fd) : FnOk P w K mg base (L2N.CX P w) 2 (MH.gl "_law_is_step" K) fd ["_law_actual", "_law_due"] (spF (tb K) F_L_is_step 2) :=
  def_tr (B := tb K) (g := g_L_is_step) D sc_L_is_step (by decide) rfl rfl rfl rfl ((gf0 T).gw ⟨⟨_, T.g_L_whole, (Classical.choose_spec T.f_L_whole).kp, fp_L_whole T, fun _ => fph_L_whole T⟩, trivial⟩ trivial) tr_L_is_step
theorem fp_L_is_step (T : Tx K mg) : FP P w K mg base (tb K) 2 (MH.gl "_law_is_step" K) F_L_is_step 2 [] := by
  obtain ⟨fd, D⟩ := T.f_L_is_step
  exact fp_mk (B := tb K) (ps := ["_law_actual", "_law_due"]) D (ok_L_is_step T D) run_len (fun _ _ _ _ _ _ us hl => match us, hl with | [_, _], _ => rfl)
def g_L_made : Gm := gw g0 ["_law_way", "_law_limit_here", "_law_stop_here", "_law_due", "e", "_law_step", "_law_own"] (defScope s_L_made) 4 true [("_law_is_step", ⟨F_L_is_step, [], 2, [], 2, false⟩), ("_law_whole", ⟨F_L_whole, [], 1, [], 1, true⟩), ("_law_valid", ⟨F_L_valid, [], 3, [], 2, false⟩)] [(("fill_step", 1, [some "rows", some "halt"]), ⟨F_fill_step__1_rows_halt, [], 3, [], 4, false⟩)]
theorem tr_L_made : trSs g_L_made 60 (defBody s_L_made) = some m_L_made := by kernel_rfl
theorem ok_L_made (T : Tx K mg) {fd} (D : FunD K "_law_made" "_law_made" (defArgs s_L_made) (defBody s_L_made) (defScope s_L_made) [] [] (MH.gl "_law_made" K) fd) : FnOk P w K mg base (L2N.CX P w) 5 (MH.gl "_law_made" K) fd ["_law_way", "_law_limit_here", "_law_stop_here"] (spF (tb K) F_L_made 3) :=
  def_tr (B := tb K) (g := g_L_made) D sc_L_made (by decide) rfl rfl rfl rfl ((gf0 T).gw ⟨⟨_, T.g_L_is_step, (Classical.choose_spec T.f_L_is_step).kp, fp_L_is_step T, fun z => nomatch z⟩, ⟨_, T.g_L_whole, (Classical.choose_spec T.f_L_whole).kp, fp_L_whole T, fun _ => fph_L_whole T⟩, ⟨_, T.g_L_valid, (Classical.choose_spec T.f_L_valid).kp, fp_L_valid T, fun z => nomatch z⟩, trivial⟩ ⟨⟨_, T.g_fill_step, (Classical.choose_spec T.f_fill_step).kp, fpk_fill_step__1_rows_halt T⟩, trivial⟩) tr_L_made
theorem fp_L_made (T : Tx K mg) : FP P w K mg base (tb K) 5 (MH.gl "_law_made" K) F_L_made 3 [] := by
  obtain ⟨fd, D⟩ := T.f_L_made
  exact fp_mk (B := tb K) (ps := ["_law_way", "_law_limit_here", "_law_stop_here"]) D (ok_L_made T D) run_len (fun _ _ _ _ _ _ us hl => match us, hl with | [_, _, _], _ => rfl)
def g_L_short : Gm := gw g0 ["_law_way", "_law_limit_here", "_law_stop_here", "_law_steps"] (defScope s_L_short) 4 true [("_law_is_step", ⟨F_L_is_step, [], 2, [], 2, false⟩), ("fill_step", ⟨F_fill_step, [], 3, [.non, (.str [45])], 4, false⟩), ("_law_valid", ⟨F_L_valid, [], 3, [], 2, false⟩)] [(("fill_step", 1, [some "halt", some "rows"]), ⟨F_fill_step__1_halt_rows, [], 3, [], 4, false⟩), (("fill_step", 1, [some "halt"]), ⟨F_fill_step__1_halt, [], 2, [], 4, false⟩), (("fill_step", 1, [some "rows"]), ⟨F_fill_step__1_rows, [], 2, [], 4, false⟩)]
theorem tr_L_short : trSs g_L_short 60 (defBody s_L_short) = some m_L_short := by kernel_rfl
theorem ok_L_short (T : Tx K mg) {fd} (D : FunD K "_law_short" "_law_short" (defArgs s_L_short) (defBody s_L_short) (defScope s_L_short) [] [] (MH.gl "_law_short" K) fd) : FnOk P w K mg base (L2N.CX P w) 5 (MH.gl "_law_short" K) fd ["_law_way", "_law_limit_here", "_law_stop_here"] (spF (tb K) F_L_short 3) :=
  def_tr (B := tb K) (g := g_L_short) D sc_L_short (by decide) rfl rfl rfl rfl ((gf0 T).gw ⟨⟨_, T.g_L_is_step, (Classical.choose_spec T.f_L_is_step).kp, fp_L_is_step T, fun z => nomatch z⟩, ⟨_, T.g_fill_step, (Classical.choose_spec T.f_fill_step).kp, fp_fill_step_1 T, fun z => nomatch z⟩, ⟨_, T.g_L_valid, (Classical.choose_spec T.f_L_valid).kp, fp_L_valid T, fun z => nomatch z⟩, trivial⟩ ⟨⟨_, T.g_fill_step, (Classical.choose_spec T.f_fill_step).kp, fpk_fill_step__1_halt_rows T⟩, ⟨_, T.g_fill_step, (Classical.choose_spec T.f_fill_step).kp, fpk_fill_step__1_halt T⟩, ⟨_, T.g_fill_step, (Classical.choose_spec T.f_fill_step).kp, fpk_fill_step__1_rows T⟩, trivial⟩) tr_L_short
theorem fp_L_short (T : Tx K mg) : FP P w K mg base (tb K) 5 (MH.gl "_law_short" K) F_L_short 3 [] := by
  obtain ⟨fd, D⟩ := T.f_L_short
  exact fp_mk (B := tb K) (ps := ["_law_way", "_law_limit_here", "_law_stop_here"]) D (ok_L_short T D) run_len (fun _ _ _ _ _ _ us hl => match us, hl with | [_, _, _], _ => rfl)
def g_L_text : Gm := gw g0 ["_law_step", "_law_text_here"] (defScope s_L_text) 0 true [] []
theorem tr_L_text : trSs g_L_text 60 (defBody s_L_text) = some m_L_text := by kernel_rfl
theorem ok_L_text (T : Tx K mg) {fd} (D : FunD K "_law_text" "_law_text" (defArgs s_L_text) (defBody s_L_text) (defScope s_L_text) [] [] (MH.gl "_law_text" K) fd) : FnOk P w K mg base (L2N.CX P w) 1 (MH.gl "_law_text" K) fd ["_law_step"] (spF (tb K) F_L_text 1) :=
  def_tr (B := tb K) (g := g_L_text) D sc_L_text (by decide) rfl rfl rfl rfl ((gf0 T).gw trivial trivial) tr_L_text
theorem fp_L_text (T : Tx K mg) : FP P w K mg base (tb K) 1 (MH.gl "_law_text" K) F_L_text 1 [] := by
  obtain ⟨fd, D⟩ := T.f_L_text
  exact fp_mk (B := tb K) (ps := ["_law_step"]) D (ok_L_text T D) run_len (fun _ _ _ _ _ _ us hl => match us, hl with | [_], _ => rfl)
def g_L_reading : Gm := gw g0 ["_law_text_here", "_law_words", "_law_limit_here", "_law_stop_here", "_law_rest"] (defScope s_L_reading) 1 true [("_law_set", ⟨F_L_set, [], 1, [], 1, false⟩)] []
theorem tr_L_reading : trSs g_L_reading 60 (defBody s_L_reading) = some m_L_reading := by kernel_rfl
theorem ok_L_reading (T : Tx K mg) {fd} (D : FunD K "_law_reading" "_law_reading" (defArgs s_L_reading) (defBody s_L_reading) (defScope s_L_reading) [] [] (MH.gl "_law_reading" K) fd) : FnOk P w K mg base (L2N.CX P w) 2 (MH.gl "_law_reading" K) fd ["_law_text_here"] (spF (tb K) F_L_reading 1) :=
  def_tr (B := tb K) (g := g_L_reading) D sc_L_reading (by decide) rfl rfl rfl rfl ((gf0 T).gw ⟨⟨_, T.g_L_set, (Classical.choose_spec T.f_L_set).kp, fp_L_set T, fun z => nomatch z⟩, trivial⟩ trivial) tr_L_reading
theorem fp_L_reading (T : Tx K mg) : FP P w K mg base (tb K) 2 (MH.gl "_law_reading" K) F_L_reading 1 [] := by
  obtain ⟨fd, D⟩ := T.f_L_reading
  exact fp_mk (B := tb K) (ps := ["_law_text_here"]) D (ok_L_reading T D) run_len (fun _ _ _ _ _ _ us hl => match us, hl with | [_], _ => rfl)
def g_L_reads : Gm := gw g0 ["_law_text_here", "_law_due", "e", "_law_step", "_law_own"] (defScope s_L_reads) 4 true [("fill_text", ⟨F_fill_text, [], 1, [], 1, false⟩), ("_law_is_step", ⟨F_L_is_step, [], 2, [], 2, false⟩), ("read_fill", ⟨F_read_fill, [], 1, [], 4, false⟩), ("_law_whole", ⟨F_L_whole, [], 1, [], 1, true⟩), ("_law_reading", ⟨F_L_reading, [], 1, [], 2, false⟩)] []
theorem tr_L_reads : trSs g_L_reads 60 (defBody s_L_reads) = some m_L_reads := by kernel_rfl
theorem ok_L_reads (T : Tx K mg) {fd} (D : FunD K "_law_reads" "_law_reads" (defArgs s_L_reads) (defBody s_L_reads) (defScope s_L_reads) [] [] (MH.gl "_law_reads" K) fd) : FnOk P w K mg base (L2N.CX P w) 5 (MH.gl "_law_reads" K) fd ["_law_text_here"] (spF (tb K) F_L_reads 1) :=
  def_tr (B := tb K) (g := g_L_reads) D sc_L_reads (by decide) rfl rfl rfl rfl ((gf0 T).gw ⟨⟨_, T.g_fill_text, (Classical.choose_spec T.f_fill_text).kp, fp_fill_text T, fun z => nomatch z⟩, ⟨_, T.g_L_is_step, (Classical.choose_spec T.f_L_is_step).kp, fp_L_is_step T, fun z => nomatch z⟩, ⟨_, T.g_read_fill, (Classical.choose_spec T.f_read_fill).kp, fp_read_fill T, fun z => nomatch z⟩, ⟨_, T.g_L_whole, (Classical.choose_spec T.f_L_whole).kp, fp_L_whole T, fun _ => fph_L_whole T⟩, ⟨_, T.g_L_reading, (Classical.choose_spec T.f_L_reading).kp, fp_L_reading T, fun z => nomatch z⟩, trivial⟩ trivial) tr_L_reads
theorem fp_L_reads (T : Tx K mg) : FP P w K mg base (tb K) 5 (MH.gl "_law_reads" K) F_L_reads 1 [] := by
  obtain ⟨fd, D⟩ := T.f_L_reads
  exact fp_mk (B := tb K) (ps := ["_law_text_here"]) D (ok_L_reads T D) run_len (fun _ _ _ _ _ _ us hl => match us, hl with | [_], _ => rfl)
def g_L_odd : Gm := gw g0 ["_law_pool_here", "_law_odd_here"] (defScope s_L_odd) 2 true [("_law_pick", ⟨F_L_pick, [true, false], 2, [], 2, false⟩)] []
theorem tr_L_odd : trSs g_L_odd 60 (defBody s_L_odd) = some m_L_odd := by kernel_rfl
theorem ok_L_odd (T : Tx K mg) {fd} (D : FunD K "_law_odd" "_law_odd" (defArgs s_L_odd) (defBody s_L_odd) (defScope s_L_odd) [] [] (MH.gl "_law_odd" K) fd) : FnOk P w K mg base (L2N.CX P w) 3 (MH.gl "_law_odd" K) fd ["_law_pool_here"] (spF (tb K) F_L_odd 1) :=
  def_tr (B := tb K) (g := g_L_odd) D sc_L_odd (by decide) rfl rfl rfl rfl ((gf0 T).gw ⟨⟨_, T.g_L_pick, (Classical.choose_spec T.f_L_pick).kp, fp_L_pick T, fun z => nomatch z⟩, trivial⟩ trivial) tr_L_odd
theorem fp_L_odd (T : Tx K mg) : FP P w K mg base (tb K) 3 (MH.gl "_law_odd" K) F_L_odd 1 [] := by
  obtain ⟨fd, D⟩ := T.f_L_odd
  exact fp_mk (B := tb K) (ps := ["_law_pool_here"]) D (ok_L_odd T D) run_len (fun _ _ _ _ _ _ us hl => match us, hl with | [_], _ => rfl)
def g_L_spoilt : Gm := gw g0 ["_law_pool_here", "_law_step", "_law_text_here", "_law_words", "_law_kind", "_law_at", "_law_sign"] (defScope s_L_spoilt) 3 true [("_law_odd", ⟨F_L_odd, [true], 1, [], 3, false⟩), ("_law_pick", ⟨F_L_pick, [true, false], 2, [], 2, false⟩), ("_law_draw", ⟨F_L_draw, [true, false], 2, [], 1, false⟩), ("_law_text", ⟨F_L_text, [], 1, [], 1, false⟩)] []
theorem tr_L_spoilt : trSs g_L_spoilt 60 (defBody s_L_spoilt) = some m_L_spoilt := by kernel_rfl
theorem ok_L_spoilt (T : Tx K mg) {fd} (D : FunD K "_law_spoilt" "_law_spoilt" (defArgs s_L_spoilt) (defBody s_L_spoilt) (defScope s_L_spoilt) [] [] (MH.gl "_law_spoilt" K) fd) : FnOk P w K mg base (L2N.CX P w) 4 (MH.gl "_law_spoilt" K) fd ["_law_pool_here", "_law_step"] (spF (tb K) F_L_spoilt 2) :=
  def_tr (B := tb K) (g := g_L_spoilt) D sc_L_spoilt (by decide) rfl rfl rfl rfl ((gf0 T).gw ⟨⟨_, T.g_L_odd, (Classical.choose_spec T.f_L_odd).kp, fp_L_odd T, fun z => nomatch z⟩, ⟨_, T.g_L_pick, (Classical.choose_spec T.f_L_pick).kp, fp_L_pick T, fun z => nomatch z⟩, ⟨_, T.g_L_draw, (Classical.choose_spec T.f_L_draw).kp, fp_L_draw T, fun z => nomatch z⟩, ⟨_, T.g_L_text, (Classical.choose_spec T.f_L_text).kp, fp_L_text T, fun z => nomatch z⟩, trivial⟩ trivial) tr_L_spoilt
theorem fp_L_spoilt (T : Tx K mg) : FP P w K mg base (tb K) 4 (MH.gl "_law_spoilt" K) F_L_spoilt 2 [] := by
  obtain ⟨fd, D⟩ := T.f_L_spoilt
  exact fp_mk (B := tb K) (ps := ["_law_pool_here", "_law_step"]) D (ok_L_spoilt T D) run_len (fun _ _ _ _ _ _ us hl => match us, hl with | [_, _], _ => rfl)
def g_L_limit : Gm := gw g0 ["_law_pool_here"] (defScope s_L_limit) 2 true [("_law_pick", ⟨F_L_pick, [true, false], 2, [], 2, false⟩)] []
theorem tr_L_limit : trSs g_L_limit 60 (defBody s_L_limit) = some m_L_limit := by kernel_rfl
theorem ok_L_limit (T : Tx K mg) {fd} (D : FunD K "_law_limit" "_law_limit" (defArgs s_L_limit) (defBody s_L_limit) (defScope s_L_limit) [] [] (MH.gl "_law_limit" K) fd) : FnOk P w K mg base (L2N.CX P w) 3 (MH.gl "_law_limit" K) fd ["_law_pool_here"] (spF (tb K) F_L_limit 1) :=
  def_tr (B := tb K) (g := g_L_limit) D sc_L_limit (by decide) rfl rfl rfl rfl ((gf0 T).gw ⟨⟨_, T.g_L_pick, (Classical.choose_spec T.f_L_pick).kp, fp_L_pick T, fun z => nomatch z⟩, trivial⟩ trivial) tr_L_limit
theorem fp_L_limit (T : Tx K mg) : FP P w K mg base (tb K) 3 (MH.gl "_law_limit" K) F_L_limit 1 [] := by
  obtain ⟨fd, D⟩ := T.f_L_limit
  exact fp_mk (B := tb K) (ps := ["_law_pool_here"]) D (ok_L_limit T D) run_len (fun _ _ _ _ _ _ us hl => match us, hl with | [_], _ => rfl)
def g_L_stop : Gm := gw g0 ["_law_pool_here", "_law_odd_here"] (defScope s_L_stop) 2 true [("_law_letters", ⟨F_L_letters, [], 1, [], 1, false⟩), ("_law_draw", ⟨F_L_draw, [true, false], 2, [], 1, false⟩), ("_law_pick", ⟨F_L_pick, [true, false], 2, [], 2, false⟩)] []
theorem tr_L_stop : trSs g_L_stop 60 (defBody s_L_stop) = some m_L_stop := by kernel_rfl
theorem ok_L_stop (T : Tx K mg) {fd} (D : FunD K "_law_stop" "_law_stop" (defArgs s_L_stop) (defBody s_L_stop) (defScope s_L_stop) [] [] (MH.gl "_law_stop" K) fd) : FnOk P w K mg base (L2N.CX P w) 3 (MH.gl "_law_stop" K) fd ["_law_pool_here"] (spF (tb K) F_L_stop 1) :=
  def_tr (B := tb K) (g := g_L_stop) D sc_L_stop (by decide) rfl rfl rfl rfl ((gf0 T).gw ⟨⟨_, T.g_L_letters, (Classical.choose_spec T.f_L_letters).kp, fp_L_letters T, fun z => nomatch z⟩, ⟨_, T.g_L_draw, (Classical.choose_spec T.f_L_draw).kp, fp_L_draw T, fun z => nomatch z⟩, ⟨_, T.g_L_pick, (Classical.choose_spec T.f_L_pick).kp, fp_L_pick T, fun z => nomatch z⟩, trivial⟩ trivial) tr_L_stop
theorem fp_L_stop (T : Tx K mg) : FP P w K mg base (tb K) 3 (MH.gl "_law_stop" K) F_L_stop 1 [] := by
  obtain ⟨fd, D⟩ := T.f_L_stop
  exact fp_mk (B := tb K) (ps := ["_law_pool_here"]) D (ok_L_stop T D) run_len (fun _ _ _ _ _ _ us hl => match us, hl with | [_], _ => rfl)
def g_L_good : Gm := gw g0 ["_law_pool_here", "_law_way", "_law_limit_here"] (defScope s_L_good) 2 true [("_law_letters", ⟨F_L_letters, [], 1, [], 1, false⟩), ("_law_draw", ⟨F_L_draw, [true, false], 2, [], 1, false⟩), ("_law_pick", ⟨F_L_pick, [true, false], 2, [], 2, false⟩)] []
theorem tr_L_good : trSs g_L_good 60 (defBody s_L_good) = some m_L_good := by kernel_rfl
theorem ok_L_good (T : Tx K mg) {fd} (D : FunD K "_law_good" "_law_good" (defArgs s_L_good) (defBody s_L_good) (defScope s_L_good) [] [] (MH.gl "_law_good" K) fd) : FnOk P w K mg base (L2N.CX P w) 3 (MH.gl "_law_good" K) fd ["_law_pool_here"] (spF (tb K) F_L_good 1) :=
  def_tr (B := tb K) (g := g_L_good) D sc_L_good (by decide) rfl rfl rfl rfl ((gf0 T).gw ⟨⟨_, T.g_L_letters, (Classical.choose_spec T.f_L_letters).kp, fp_L_letters T, fun z => nomatch z⟩, ⟨_, T.g_L_draw, (Classical.choose_spec T.f_L_draw).kp, fp_L_draw T, fun z => nomatch z⟩, ⟨_, T.g_L_pick, (Classical.choose_spec T.f_L_pick).kp, fp_L_pick T, fun z => nomatch z⟩, trivial⟩ trivial) tr_L_good
theorem fp_L_good (T : Tx K mg) : FP P w K mg base (tb K) 3 (MH.gl "_law_good" K) F_L_good 1 [] := by
  obtain ⟨fd, D⟩ := T.f_L_good
  exact fp_mk (B := tb K) (ps := ["_law_pool_here"]) D (ok_L_good T D) run_len (fun _ _ _ _ _ _ us hl => match us, hl with | [_], _ => rfl)
def g_law : Gm := gw g0 ["_law_script", "_law_pool_here", "_law_ways", "_law_k", "_law_step", "_law_texts", "_law_text_here", "_law_way", "_law_limit_here", "_law_stop_here", "_law_some"] (defScope s_law) 5 true [("fill_text", ⟨F_fill_text, [], 1, [], 1, false⟩), ("_law_is_step", ⟨F_L_is_step, [], 2, [], 2, false⟩), ("read_fill", ⟨F_read_fill, [], 1, [], 4, false⟩), ("_law_text", ⟨F_L_text, [], 1, [], 1, false⟩), ("_law_reads", ⟨F_L_reads, [], 1, [], 5, false⟩), ("_law_spoilt", ⟨F_L_spoilt, [true, false], 2, [], 4, false⟩), ("_law_odd", ⟨F_L_odd, [true], 1, [], 3, false⟩), ("_law_good", ⟨F_L_good, [true], 1, [], 3, false⟩), ("_law_short", ⟨F_L_short, [], 3, [], 5, false⟩), ("_law_made", ⟨F_L_made, [], 3, [], 5, false⟩), ("_law_stop", ⟨F_L_stop, [true], 1, [], 3, false⟩), ("_law_limit", ⟨F_L_limit, [true], 1, [], 3, false⟩), ("_law_draw", ⟨F_L_draw, [true, false], 2, [], 1, false⟩), ("_law_pool", ⟨F_L_pool, [], 1, [], 1, false⟩)] []
theorem tr_law : trSs g_law 60 (defBody s_law) = some m_law := by kernel_rfl
theorem ok_law (T : Tx K mg) {fd} (D : FunD K "law" "law" (defArgs s_law) (defBody s_law) (defScope s_law) [] [] (MH.gl "law" K) fd) : FnOk P w K mg base (L2N.CX P w) 6 (MH.gl "law" K) fd ["_law_script"] (spF (tb K) F_law 1) :=
  def_tr (B := tb K) (g := g_law) D sc_law (by decide) rfl rfl rfl rfl ((gf0 T).gw ⟨⟨_, T.g_fill_text, (Classical.choose_spec T.f_fill_text).kp, fp_fill_text T, fun z => nomatch z⟩, ⟨_, T.g_L_is_step, (Classical.choose_spec T.f_L_is_step).kp, fp_L_is_step T, fun z => nomatch z⟩, ⟨_, T.g_read_fill, (Classical.choose_spec T.f_read_fill).kp, fp_read_fill T, fun z => nomatch z⟩, ⟨_, T.g_L_text, (Classical.choose_spec T.f_L_text).kp, fp_L_text T, fun z => nomatch z⟩, ⟨_, T.g_L_reads, (Classical.choose_spec T.f_L_reads).kp, fp_L_reads T, fun z => nomatch z⟩, ⟨_, T.g_L_spoilt, (Classical.choose_spec T.f_L_spoilt).kp, fp_L_spoilt T, fun z => nomatch z⟩, ⟨_, T.g_L_odd, (Classical.choose_spec T.f_L_odd).kp, fp_L_odd T, fun z => nomatch z⟩, ⟨_, T.g_L_good, (Classical.choose_spec T.f_L_good).kp, fp_L_good T, fun z => nomatch z⟩, ⟨_, T.g_L_short, (Classical.choose_spec T.f_L_short).kp, fp_L_short T, fun z => nomatch z⟩, ⟨_, T.g_L_made, (Classical.choose_spec T.f_L_made).kp, fp_L_made T, fun z => nomatch z⟩, ⟨_, T.g_L_stop, (Classical.choose_spec T.f_L_stop).kp, fp_L_stop T, fun z => nomatch z⟩, ⟨_, T.g_L_limit, (Classical.choose_spec T.f_L_limit).kp, fp_L_limit T, fun z => nomatch z⟩, ⟨_, T.g_L_draw, (Classical.choose_spec T.f_L_draw).kp, fp_L_draw T, fun z => nomatch z⟩, ⟨_, T.g_L_pool, (Classical.choose_spec T.f_L_pool).kp, fp_L_pool T, fun z => nomatch z⟩, trivial⟩ trivial) tr_law
theorem fp_law (T : Tx K mg) : FP P w K mg base (tb K) 6 (MH.gl "law" K) F_law 1 [] := by
  obtain ⟨fd, D⟩ := T.f_law
  exact fp_mk (B := tb K) (ps := ["_law_script"]) D (ok_law T D) run_len (fun _ _ _ _ _ _ us hl => match us, hl with | [_], _ => rfl)
end
end K19

set_option Elab.async false
set_option linter.all false
set_option maxRecDepth 100000
set_option maxHeartbeats 4000000
namespace K19
open PySem Vm
theorem deq_str (a b : List Nat) : deq (.str a) (.str b) = some (decide (a = b)) := rfl
theorem deq_int (a b : Int) : deq (.int a) (.int b) = some (decide (a = b)) := rfl
theorem deq_pl {a b : Vm.D} (ha : D.pl 50 a = true) (hb : D.pl 50 b = true) (h1 : ∀ i, a ≠ .int i) (h2 : ∀ z, a ≠ .str z) : deq a b = some (D.eqv a b) := by
  unfold deq
  split
  · exact absurd rfl (h1 _)
  · exact absurd rfl (h2 _)
  · rw [if_pos (by rw [ha, hb]; rfl)]
/-! ### words -/
def wDown : List Nat := [100, 111, 119, 110]
def wUp : List Nat := [117, 112]
def wNA : List Nat := [110, 101, 97, 114, 95, 97, 98, 111, 118, 101]
def wNB : List Nat := [110, 101, 97, 114, 95, 98, 101, 108, 111, 119]
def wDrop : List Nat := [100, 114, 111, 112]
def wRows : List Nat := [114, 111, 119, 115]
def wHalt : List Nat := [104, 97, 108, 116]
def ways : List (List Nat) := [wDown, wUp, wNA, wNB]
def AL : List Nat := [97, 98, 99, 100, 101, 102]
/-- a text of plain signs -/
def OkZ (z : List Nat) : Prop := z.length ≤ 10000 ∧ ∀ c ∈ z, c < 128
theorem OkZ.pl {z : List Nat} (h : OkZ z) (n : Nat) : D.pl n (.str z) = true := by
  unfold D.pl
  rw [List.all_eq_true]
  exact fun c hc => decide_eq_true (by have := h.2 c hc; omega)
theorem OkZ.len {z : List Nat} (h : OkZ z) : z.length ≤ line := by
  have := h.1
  show _ ≤ 16777216
  omega
/-! ### small defs -/
theorem e_is_digits (z : List Nat) : F_is_digits [.val (.str z)] = .ret (.val (.bl (Txt.isascii (T z) && Txt.isdigit (T z)))) [.non] := by
  unfold F_is_digits m_is_digits
  cases h : Txt.isascii (T z) <;> simp [Vm.run, slotsOf, outsOf, Vm.seq, retS, retN, Vm.next, exprS, Vm.asg, asgV, pat, parX, tgN, tgNil, tgCons, tgT, Vm.var, cst, Vm.bin, bop, Vm.two, Vm.cmp, cop, deq_str, deq_int, Vm.one, Vm.neg, notE, Vm.chain, andE, orE, ifx, ifS, Vm.tst, tstB, tAnd, tOr, tNot, nilA, consA, tupE, lstE, Vm.idx, ixd, Vm.slc, slcd, Vm.part, noPart, Vm.call, callV, hand, back, RV.ev, bcall, biLen, smeth, isiE, fldX, raiseX, R.bind, R.thn, R.of, EV.peek, EV.frz, frzs, peeks, SD.look, D.tru, fmtE, joinF, line, biIsascii, biIsdigit, h]
theorem e_whole (d : Vm.D) (t : String) (h : d.tn = some t) (h2 : bTys.contains t = true) : F_L_whole [.val d] = .ret (.val (.bl (decide (t = "int")))) [.non] := by
  unfold F_L_whole m_L_whole
  cases d <;> (cases h <;> simp [Vm.run, slotsOf, outsOf, Vm.seq, retS, retN, Vm.next, exprS, Vm.asg, asgV, pat, parX, tgN, tgNil, tgCons, tgT, Vm.var, cst, Vm.bin, bop, Vm.two, Vm.cmp, cop, deq_str, deq_int, Vm.one, Vm.neg, notE, Vm.chain, andE, orE, ifx, ifS, Vm.tst, tstB, tAnd, tOr, tNot, nilA, consA, tupE, lstE, Vm.idx, ixd, Vm.slc, slcd, Vm.part, noPart, Vm.call, callV, hand, back, RV.ev, bcall, biLen, smeth, isiE, fldX, raiseX, R.bind, R.thn, R.of, EV.peek, EV.frz, frzs, peeks, SD.look, D.tru, fmtE, joinF, line, isiD, D.tn, isiT, tyB, bTys])
theorem e_ipi (d : Vm.D) (t : String) (h : d.tn = some t) (h2 : bTys.contains t = true) : F_is_plain_integer [.val d] = .ret (.val (.bl (decide (t = "int")))) [.non] := by
  unfold F_is_plain_integer m_is_plain_integer
  cases d <;> (cases h <;> simp [Vm.run, slotsOf, outsOf, Vm.seq, retS, retN, Vm.next, exprS, Vm.asg, asgV, pat, parX, tgN, tgNil, tgCons, tgT, Vm.var, cst, Vm.bin, bop, Vm.two, Vm.cmp, cop, deq_str, deq_int, Vm.one, Vm.neg, notE, Vm.chain, andE, orE, ifx, ifS, Vm.tst, tstB, tAnd, tOr, tNot, nilA, consA, tupE, lstE, Vm.idx, ixd, Vm.slc, slcd, Vm.part, noPart, Vm.call, callV, hand, back, RV.ev, bcall, biLen, smeth, isiE, fldX, raiseX, R.bind, R.thn, R.of, EV.peek, EV.frz, frzs, peeks, SD.look, D.tru, fmtE, joinF, line, isiD, D.tn, isiT, tyB, bTys])
/-! ### comprehensions -/
theorem set_self {α : Type} {l : List α} {i : Nat} {a : α} (h : l[i]? = some a) : l.set i a = l := by
  refine List.ext_getElem? fun j => ?_
  by_cases q : j = i
  · subst q
    rw [List.getElem?_set_self (List.getElem?_eq_some_iff.mp h).1, h]
  · rw [List.getElem?_set_ne (Ne.symm q)]
theorem comp_gen {i : Nat} {c : Tst} {elt : Ex} {p : Vm.D → Bool} {f : Vm.D → Vm.D} {ρ : Vm.Env} (h0 : ρ[i]? = some .un) : ∀ xs : List Vm.D, (∀ x ∈ xs, c (ρ.set i (.sh x)) = .ok (p x) (ρ.set i (.sh x)) ∧ (p x = true → elt (ρ.set i (.sh x)) = .ok (.val (f x)) (ρ.set i (.sh x)))) →
    comp [i] (tgN i) c elt xs ρ = .ok ((xs.filter p).map f) ρ := by
  have hi : i < ρ.length := (List.getElem?_eq_some_iff.mp h0).1
  have back : ∀ x : Vm.D, wipeE (ρ.set i (.sh x)) [i] = ρ := fun x => by
    show (ρ.set i (.sh x)).set i .un = ρ
    rw [List.set_set]
    exact set_self h0
  intro xs
  induction xs with
  | nil => intro _; rfl
  | cons x xs ih =>
    intro h
    obtain ⟨h1, h2⟩ := h x List.mem_cons_self
    have ih := ih fun y hy => h y (List.mem_cons_of_mem _ hy)
    have tg : tgN i x ρ = some (ρ.set i (.sh x)) := by unfold tgN; rw [h0]
    have cal : calmAt [i] (ρ.set i (.sh x)) = true := by
      simp [calmAt, List.getElem?_set_self hi, SD.calm]
    unfold comp
    rw [tg]
    simp only [h1, R.bind]
    cases hp : p x with
    | true =>
      simp only [h2 hp, EV.frz, if_true, cal, back, ih, R.bind]
      rw [List.filter_cons_of_pos hp]
      rfl
    | false =>
      simp only [cal, back, ih, if_true]
      rw [List.filter_cons_of_neg (by rw [hp]; exact Bool.false_ne_true)]
      rfl
theorem lc_gen {i : Nat} {it : Ix} {c : Tst} {elt : Ex} {p : Vm.D → Bool} {f : Vm.D → Vm.D} {ρ : Vm.Env} {xs : List Vm.D} (h0 : ρ[i]? = some .un) (hi : it ρ = .ok (xs, none) ρ) (hl : xs.length < line)
    (h : ∀ x ∈ xs, c (ρ.set i (.sh x)) = .ok (p x) (ρ.set i (.sh x)) ∧ (p x = true → elt (ρ.set i (.sh x)) = .ok (.val (f x)) (ρ.set i (.sh x)))) :
    lcE [i] (tgN i) it c elt ρ = .ok (.fr (.lst ((xs.filter p).map f))) ρ := by
  have hs : ρ.set i .un = ρ := set_self h0
  have cal : calmAt [i] ρ = true := by simp [calmAt, h0, SD.calm]
  unfold lcE
  rw [hi]
  simp only [R.bind, cal, Bool.true_and, decide_eq_true hl, if_true, lock, wipeE, hs, comp_gen h0 xs h, putE, List.getD_eq_getElem?_getD, h0, Option.getD_some]
/-! ### texts of sets -/
def mt (z : List Nat) : Bool := !z.isEmpty && (decide (z = [45]) || decide (z = AL.filter fun c => decide (c ∈ z)))
theorem str_filter (p : Nat → Bool) (l : List Nat) : (l.map fun c => Vm.D.str [c]).filter (fun d => match d with | .str [c] => p c | _ => false) = (l.filter p).map fun c => Vm.D.str [c] := by
  induction l with
  | nil => rfl
  | cons a r ih =>
    rw [List.map_cons]
    cases h : p a with
    | true => rw [List.filter_cons_of_pos (by simpa using h), List.filter_cons_of_pos h, ih]; rfl
    | false => rw [List.filter_cons_of_neg (by simp [h]), List.filter_cons_of_neg (by simp [h]), ih]
theorem join_one (l : List Nat) : biJoin [] [.lst (l.map fun c => Vm.D.str [c])] = if l.length ≤ line then some (.val (.str l)) else none := by
  have h1 : ∀ l : List Nat, strsOf (l.map fun c => Vm.D.str [c]) = some (l.map fun c => [c]) := fun l => by
    induction l with
    | nil => rfl
    | cons a r ih => rw [List.map_cons, strsOf, ih]; rfl
  have h2 : ∀ l : List Nat, TL.joinL [] (l.map fun c => [c]) = l := fun l => by
    induction l with
    | nil => rfl
    | cons a r ih =>
      cases r with
      | nil => rfl
      | cons b r =>
        show [a] ++ ([] ++ TL.joinL [] ((b :: r).map fun c => [c])) = _
        rw [ih]
        rfl
  have h3 : ((l.map fun c => [c]).map List.length).sum = l.length := by
    induction l with
    | nil => rfl
    | cons a r ih => rw [List.map_cons, List.map_cons, List.sum_cons, ih, List.length_cons]; simp; omega
  simp only [biJoin, h1, Option.bind_some, joinD, h2, h3, List.length_nil, Nat.mul_zero, Nat.add_zero]
theorem e_marks_text {z : List Nat} (hz : OkZ z) : F_is_marks_text [.val (.str z)] = .ret (.val (.bl (mt z))) [.non] := by
  unfold F_is_marks_text m_is_marks_text
  have lc := lc_gen (i := 1) (it := itE (cst (.str [97, 98, 99, 100, 101, 102]))) (c := tstB (Vm.cmp .inn (Vm.var 1) (Vm.var 0))) (elt := Vm.var 1) (p := fun d => match d with | .str [c] => decide (c ∈ z) | _ => false) (f := id) (ρ := [.sh (.str z), .un]) (xs := AL.map fun c => Vm.D.str [c]) rfl
    (by simp [itE, cst, R.bind, EV.peek, itemsOf, EV.slot, AL]) (by decide) (fun x hx => by
      obtain ⟨c, _, rfl⟩ := List.mem_map.mp hx
      exact ⟨by simp [Vm.run, slotsOf, outsOf, Vm.seq, retS, retN, Vm.next, exprS, Vm.asg, asgV, pat, parX, tgN, tgNil, tgCons, tgT, Vm.var, cst, Vm.bin, bop, Vm.two, Vm.cmp, cop, deq_str, deq_int, Vm.one, Vm.neg, notE, Vm.chain, andE, orE, ifx, ifS, Vm.tst, tstB, tAnd, tOr, tNot, nilA, consA, tupE, lstE, Vm.idx, ixd, Vm.slc, slcd, Vm.part, noPart, Vm.call, callV, hand, back, RV.ev, bcall, biLen, smeth, isiE, fldX, raiseX, R.bind, R.thn, R.of, EV.peek, EV.frz, frzs, peeks, SD.look, D.tru, fmtE, joinF, line, din], fun _ => by simp [Vm.run, slotsOf, outsOf, Vm.seq, retS, retN, Vm.next, exprS, Vm.asg, asgV, pat, parX, tgN, tgNil, tgCons, tgT, Vm.var, cst, Vm.bin, bop, Vm.two, Vm.cmp, cop, deq_str, deq_int, Vm.one, Vm.neg, notE, Vm.chain, andE, orE, ifx, ifS, Vm.tst, tstB, tAnd, tOr, tNot, nilA, consA, tupE, lstE, Vm.idx, ixd, Vm.slc, slcd, Vm.part, noPart, Vm.call, callV, hand, back, RV.ev, bcall, biLen, smeth, isiE, fldX, raiseX, R.bind, R.thn, R.of, EV.peek, EV.frz, frzs, peeks, SD.look, D.tru, fmtE, joinF, line]⟩)
  rw [str_filter, List.map_id] at lc
  generalize lcE [1] (tgN 1) (itE (cst (.str [97, 98, 99, 100, 101, 102]))) (tstB (Vm.cmp .inn (Vm.var 1) (Vm.var 0))) (Vm.var 1) = L at lc ⊢
  have jl : (AL.filter fun c => decide (c ∈ z)).length ≤ 16777216 := Nat.le_trans (List.length_filter_le _ _) (by decide)
  by_cases h1 : z = []
  · subst h1; simp [Vm.run, slotsOf, outsOf, Vm.seq, retS, retN, Vm.next, exprS, Vm.asg, asgV, pat, parX, tgN, tgNil, tgCons, tgT, Vm.var, cst, Vm.bin, bop, Vm.two, Vm.cmp, cop, deq_str, deq_int, Vm.one, Vm.neg, notE, Vm.chain, andE, orE, ifx, ifS, Vm.tst, tstB, tAnd, tOr, tNot, nilA, consA, tupE, lstE, Vm.idx, ixd, Vm.slc, slcd, Vm.part, noPart, Vm.call, callV, hand, back, RV.ev, bcall, biLen, smeth, isiE, fldX, raiseX, R.bind, R.thn, R.of, EV.peek, EV.frz, frzs, peeks, SD.look, D.tru, fmtE, joinF, line, isiD, D.tn, isiT, tyB, bTys, mt]
  · by_cases h2 : z = [45]
    · subst h2; simp [Vm.run, slotsOf, outsOf, Vm.seq, retS, retN, Vm.next, exprS, Vm.asg, asgV, pat, parX, tgN, tgNil, tgCons, tgT, Vm.var, cst, Vm.bin, bop, Vm.two, Vm.cmp, cop, deq_str, deq_int, Vm.one, Vm.neg, notE, Vm.chain, andE, orE, ifx, ifS, Vm.tst, tstB, tAnd, tOr, tNot, nilA, consA, tupE, lstE, Vm.idx, ixd, Vm.slc, slcd, Vm.part, noPart, Vm.call, callV, hand, back, RV.ev, bcall, biLen, smeth, isiE, fldX, raiseX, R.bind, R.thn, R.of, EV.peek, EV.frz, frzs, peeks, SD.look, D.tru, fmtE, joinF, line, isiD, D.tn, isiT, tyB, bTys, mt]
    · have he : z.isEmpty = false := by simpa using h1
      simp [Vm.run, slotsOf, outsOf, Vm.seq, retS, retN, Vm.next, exprS, Vm.asg, asgV, pat, parX, tgN, tgNil, tgCons, tgT, Vm.var, cst, Vm.bin, bop, Vm.two, Vm.cmp, cop, deq_str, deq_int, Vm.one, Vm.neg, notE, Vm.chain, andE, orE, ifx, ifS, Vm.tst, tstB, tAnd, tOr, tNot, nilA, consA, tupE, lstE, Vm.idx, ixd, Vm.slc, slcd, Vm.part, noPart, Vm.call, callV, hand, back, RV.ev, bcall, biLen, smeth, isiE, fldX, raiseX, R.bind, R.thn, R.of, EV.peek, EV.frz, frzs, peeks, SD.look, D.tru, fmtE, joinF, line, isiD, D.tn, isiT, tyB, bTys, mt, h1, h2, he, lc, join_one, jl]
/-! ### limits -/
def isLim : Vm.D → Bool
  | .non => true
  | .int i => decide (1 ≤ i) && decide (i ≤ 6)
  | _ => false
theorem e_is_limit (d : Vm.D) (t : String) (h : d.tn = some t) (hf : d.flat = true) : F__is_limit [.val d] = .ret (.val (.bl (isLim d))) [.non] := by
  unfold F__is_limit m__is_limit
  have e := e_ipi d t h
  cases d with
  | int i =>
    cases h
    have e := e rfl
    by_cases h1 : 1 ≤ i
    · by_cases h2 : i ≤ 6 <;> simp [Vm.run, slotsOf, outsOf, Vm.seq, retS, retN, Vm.next, exprS, Vm.asg, asgV, pat, parX, tgN, tgNil, tgCons, tgT, Vm.var, cst, Vm.bin, bop, Vm.two, Vm.cmp, cop, deq_str, deq_int, Vm.one, Vm.neg, notE, Vm.chain, andE, orE, ifx, ifS, Vm.tst, tstB, tAnd, tOr, tNot, nilA, consA, tupE, lstE, Vm.idx, ixd, Vm.slc, slcd, Vm.part, noPart, Vm.call, callV, hand, back, RV.ev, bcall, biLen, smeth, isiE, fldX, raiseX, R.bind, R.thn, R.of, EV.peek, EV.frz, frzs, peeks, SD.look, D.tru, fmtE, joinF, line, dis, isLim, e, h1, h2]
    · simp [Vm.run, slotsOf, outsOf, Vm.seq, retS, retN, Vm.next, exprS, Vm.asg, asgV, pat, parX, tgN, tgNil, tgCons, tgT, Vm.var, cst, Vm.bin, bop, Vm.two, Vm.cmp, cop, deq_str, deq_int, Vm.one, Vm.neg, notE, Vm.chain, andE, orE, ifx, ifS, Vm.tst, tstB, tAnd, tOr, tNot, nilA, consA, tupE, lstE, Vm.idx, ixd, Vm.slc, slcd, Vm.part, noPart, Vm.call, callV, hand, back, RV.ev, bcall, biLen, smeth, isiE, fldX, raiseX, R.bind, R.thn, R.of, EV.peek, EV.frz, frzs, peeks, SD.look, D.tru, fmtE, joinF, line, dis, isLim, e, h1]
  | non => cases h; simp [Vm.run, slotsOf, outsOf, Vm.seq, retS, retN, Vm.next, exprS, Vm.asg, asgV, pat, parX, tgN, tgNil, tgCons, tgT, Vm.var, cst, Vm.bin, bop, Vm.two, Vm.cmp, cop, deq_str, deq_int, Vm.one, Vm.neg, notE, Vm.chain, andE, orE, ifx, ifS, Vm.tst, tstB, tAnd, tOr, tNot, nilA, consA, tupE, lstE, Vm.idx, ixd, Vm.slc, slcd, Vm.part, noPart, Vm.call, callV, hand, back, RV.ev, bcall, biLen, smeth, isiE, fldX, raiseX, R.bind, R.thn, R.of, EV.peek, EV.frz, frzs, peeks, SD.look, D.tru, fmtE, joinF, line, dis, isLim]
  | bl b => cases h; simp [Vm.run, slotsOf, outsOf, Vm.seq, retS, retN, Vm.next, exprS, Vm.asg, asgV, pat, parX, tgN, tgNil, tgCons, tgT, Vm.var, cst, Vm.bin, bop, Vm.two, Vm.cmp, cop, deq_str, deq_int, Vm.one, Vm.neg, notE, Vm.chain, andE, orE, ifx, ifS, Vm.tst, tstB, tAnd, tOr, tNot, nilA, consA, tupE, lstE, Vm.idx, ixd, Vm.slc, slcd, Vm.part, noPart, Vm.call, callV, hand, back, RV.ev, bcall, biLen, smeth, isiE, fldX, raiseX, R.bind, R.thn, R.of, EV.peek, EV.frz, frzs, peeks, SD.look, D.tru, fmtE, joinF, line, dis, isLim, e rfl]
  | str z => cases h; simp [Vm.run, slotsOf, outsOf, Vm.seq, retS, retN, Vm.next, exprS, Vm.asg, asgV, pat, parX, tgN, tgNil, tgCons, tgT, Vm.var, cst, Vm.bin, bop, Vm.two, Vm.cmp, cop, deq_str, deq_int, Vm.one, Vm.neg, notE, Vm.chain, andE, orE, ifx, ifS, Vm.tst, tstB, tAnd, tOr, tNot, nilA, consA, tupE, lstE, Vm.idx, ixd, Vm.slc, slcd, Vm.part, noPart, Vm.call, callV, hand, back, RV.ev, bcall, biLen, smeth, isiE, fldX, raiseX, R.bind, R.thn, R.of, EV.peek, EV.frz, frzs, peeks, SD.look, D.tru, fmtE, joinF, line, dis, isLim, e rfl]
  | _ => cases hf
/-! ### fill steps -/
def isStep (w : List Nat) (r : Vm.D) (h : List Nat) : Bool := (decide (w = wDrop) && (D.eqv r .non && decide (h = [45]))) || (decide (w ∈ ways) && (isLim r && mt h))
abbrev S3 (w : List Nat) (r : Vm.D) (h : List Nat) : Vm.D := .tup [.str w, r, .str h]
theorem beq_dec {a b : List Nat} : (a == b) = decide (a = b) := by
  by_cases h : a = b
  · subst h; simp
  · simp [h]
theorem e_is_fill_step {w h : List Nat} {r : Vm.D} {t : String} (hw : OkZ w) (hh : OkZ h) (ht : r.tn = some t) (hf : r.flat = true) (hp : D.pl 48 r = true) : F_is_fill_step [.val (S3 w r h)] = .ret (.val (.bl (isStep w r h))) [.non] := by
  unfold F_is_fill_step m_is_fill_step
  have e1 := e_is_limit r t ht hf
  have e2 := e_marks_text hh
  have hr : D.pl 49 r = true := by cases r <;> first | exact hp | cases hf
  have ok : D.pl 49 (.str w) = true ∧ D.pl 49 (.str h) = true := ⟨hw.pl _, hh.pl _⟩
  have p1 : D.pl 50 (S3 w r h) = true := by
    show (D.pl 49 (.str w) && (D.pl 49 r && (D.pl 49 (.str h) && true))) = true
    rw [ok.1, ok.2, hr]
    rfl
  have q1 : deq (S3 w r h) (.tup [(.str [100, 114, 111, 112]), .non, (.str [45])]) = some (decide (w = wDrop) && (D.eqv r .non && decide (h = [45]))) := by
    rw [deq_pl p1 (by decide) (fun i z => nomatch z) (fun i z => nomatch z)]
    simp only [D.eqv, D.eqvs, beq_dec, Bool.and_true]
    rfl
  have q2 : din (.str w) (.tup [(.str [100, 111, 119, 110]), (.str [117, 112]), (.str [110, 101, 97, 114, 95, 97, 98, 111, 118, 101]), (.str [110, 101, 97, 114, 95, 98, 101, 108, 111, 119])]) = some (decide (w ∈ ways)) := by
    simp [din, D.flat, mem, ways, wDown, wUp, wNA, wNB, D.eqv, beq_dec, eq_comm]
  generalize hA : (decide (w = wDrop) && (D.eqv r .non && decide (h = [45]))) = A at q1
  generalize hB : decide (w ∈ ways) = C at q2
  have fin : isStep w r h = (A || (C && (isLim r && mt h))) := by unfold isStep; rw [hA, hB]
  rw [fin]
  generalize D.tup [(.str [100, 114, 111, 112]), .non, (.str [45])] = d1 at q1 ⊢
  generalize D.tup [(.str [100, 111, 119, 110]), (.str [117, 112]), (.str [110, 101, 97, 114, 95, 97, 98, 111, 118, 101]), (.str [110, 101, 97, 114, 95, 98, 101, 108, 111, 119])] = d2 at q2 ⊢
  cases A
  · cases C
    · simp [Vm.run, slotsOf, outsOf, Vm.seq, retS, retN, Vm.next, exprS, Vm.asg, asgV, pat, parX, tgN, tgNil, tgCons, tgT, Vm.var, cst, Vm.bin, bop, Vm.two, Vm.cmp, cop, deq_str, deq_int, Vm.one, Vm.neg, notE, Vm.chain, andE, orE, ifx, ifS, Vm.tst, tstB, tAnd, tOr, tNot, nilA, consA, tupE, lstE, Vm.idx, ixd, Vm.slc, slcd, Vm.part, noPart, Vm.call, callV, hand, back, RV.ev, bcall, biLen, smeth, isiE, fldX, raiseX, R.bind, R.thn, R.of, EV.peek, EV.frz, frzs, peeks, SD.look, D.tru, fmtE, joinF, line, isiD, D.tn, isiT, tyB, bTys, q1, q2]
    · cases hl : isLim r <;> simp [Vm.run, slotsOf, outsOf, Vm.seq, retS, retN, Vm.next, exprS, Vm.asg, asgV, pat, parX, tgN, tgNil, tgCons, tgT, Vm.var, cst, Vm.bin, bop, Vm.two, Vm.cmp, cop, deq_str, deq_int, Vm.one, Vm.neg, notE, Vm.chain, andE, orE, ifx, ifS, Vm.tst, tstB, tAnd, tOr, tNot, nilA, consA, tupE, lstE, Vm.idx, ixd, Vm.slc, slcd, Vm.part, noPart, Vm.call, callV, hand, back, RV.ev, bcall, biLen, smeth, isiE, fldX, raiseX, R.bind, R.thn, R.of, EV.peek, EV.frz, frzs, peeks, SD.look, D.tru, fmtE, joinF, line, isiD, D.tn, isiT, tyB, bTys, q1, q2, e1, e2, hl]
  · simp [Vm.run, slotsOf, outsOf, Vm.seq, retS, retN, Vm.next, exprS, Vm.asg, asgV, pat, parX, tgN, tgNil, tgCons, tgT, Vm.var, cst, Vm.bin, bop, Vm.two, Vm.cmp, cop, deq_str, deq_int, Vm.one, Vm.neg, notE, Vm.chain, andE, orE, ifx, ifS, Vm.tst, tstB, tAnd, tOr, tNot, nilA, consA, tupE, lstE, Vm.idx, ixd, Vm.slc, slcd, Vm.part, noPart, Vm.call, callV, hand, back, RV.ev, bcall, biLen, smeth, isiE, fldX, raiseX, R.bind, R.thn, R.of, EV.peek, EV.frz, frzs, peeks, SD.look, D.tru, fmtE, joinF, line, isiD, D.tn, isiT, tyB, bTys, q1]
end K19

set_option Elab.async false
set_option linter.all false
set_option maxRecDepth 100000
set_option maxHeartbeats 4000000
namespace K19
open PySem Vm
/-- what may stand for rows -/
structure OkR (r : Vm.D) : Prop where
  ex : ∃ t, r.tn = some t ∧ bTys.contains t = true
  flat : r.flat = true
  pl : ∀ n, D.pl n r = true
theorem OkR.non : OkR .non := ⟨⟨_, rfl, rfl⟩, rfl, fun _ => by unfold D.pl; rfl⟩
theorem OkR.int (i : Int) : OkR (.int i) := ⟨⟨_, rfl, rfl⟩, rfl, fun _ => by unfold D.pl; rfl⟩
theorem OkR.bl (b : Bool) : OkR (.bl b) := ⟨⟨_, rfl, rfl⟩, rfl, fun _ => by unfold D.pl; rfl⟩
theorem OkR.str {z : List Nat} (h : OkZ z) : OkR (.str z) := ⟨⟨_, rfl, rfl⟩, rfl, fun n => h.pl n⟩
theorem e_step {w h : List Nat} {r : Vm.D} (hw : OkZ w) (hh : OkZ h) (hr : OkR r) : F_is_fill_step [.val (S3 w r h)] = .ret (.val (.bl (isStep w r h))) [.non] := by
  obtain ⟨t, h1, _⟩ := hr.ex
  exact e_is_fill_step hw hh h1 hr.flat (hr.pl _)
theorem frz3 (ρ : Vm.Env) (a b c : Vm.D) : frzs ρ [.val a, .val b, .val c] = some ([a, b, c], ρ) := rfl
theorem e_fill_step {w h : List Nat} {r : Vm.D} (hw : OkZ w) (hh : OkZ h) (hr : OkR r) : F_fill_step [.val (.str w), .val r, .val (.str h)] = if isStep w r h = true then .ret (.val (S3 w r h)) [.non, .non, .non] else .exc ⟨2, [(0, .int 0)]⟩ [.non, .non, .non] := by
  unfold F_fill_step m_fill_step
  have e := e_step hw hh hr
  unfold S3 at e ⊢
  cases hs : isStep w r h <;> simp [Vm.run, slotsOf, outsOf, Vm.seq, retS, retN, Vm.next, exprS, Vm.asg, asgV, pat, parX, tgN, tgNil, tgCons, tgT, Vm.var, cst, Vm.bin, bop, Vm.two, Vm.cmp, cop, deq_str, deq_int, Vm.one, Vm.neg, notE, Vm.chain, andE, orE, ifx, ifS, Vm.tst, tstB, tAnd, tOr, tNot, nilA, consA, tupE, lstE, Vm.idx, ixd, Vm.slc, slcd, Vm.part, noPart, Vm.call, callV, hand, back, RV.ev, bcall, biLen, smeth, isiE, fldX, raiseX, R.bind, R.thn, R.of, EV.peek, EV.frz, frzs, peeks, SD.look, D.tru, fmtE, joinF, line, e, hs]
theorem e_fs {w h : List Nat} {r : Vm.D} (hw : OkZ w) (hh : OkZ h) (hr : OkR r) : F_fill_step__1_rows_halt [.val (.str w), .val r, .val (.str h)] = if isStep w r h = true then .ret (.val (S3 w r h)) [.non, .non, .non] else .exc ⟨2, [(0, .int 0)]⟩ [.non, .non, .non] := by
  unfold F_fill_step__1_rows_halt adF
  simp only [valsOf, Option.map_some, List.length_cons, List.length_nil, if_true, gAll, List.map_cons, List.map_nil]
  rw [e_fill_step hw hh hr]
  cases isStep w r h <;> rfl
theorem e_fsr {w : List Nat} {r : Vm.D} (hw : OkZ w) (hr : OkR r) : F_fill_step__1_rows [.val (.str w), .val r] = if isStep w r [45] = true then .ret (.val (S3 w r [45])) [.non, .non] else .exc ⟨2, [(0, .int 0)]⟩ [.non, .non] := by
  unfold F_fill_step__1_rows adF
  simp only [valsOf, Option.map_some, List.length_cons, List.length_nil, if_true, gEnd, List.cons_append, List.nil_append, List.map_cons, List.map_nil]
  rw [e_fill_step hw ⟨by decide, by decide⟩ hr]
  cases isStep w r [45] <;> rfl
theorem e_fsh {w h : List Nat} (hw : OkZ w) (hh : OkZ h) : F_fill_step__1_halt [.val (.str w), .val (.str h)] = if isStep w .non h = true then .ret (.val (S3 w .non h)) [.non, .non] else .exc ⟨2, [(0, .int 0)]⟩ [.non, .non] := by
  unfold F_fill_step__1_halt adF
  simp only [valsOf, Option.map_some, List.length_cons, List.length_nil, if_true, gMid, List.map_cons, List.map_nil]
  rw [e_fill_step hw hh .non]
  cases isStep w .non h <;> rfl
theorem e_fshr {w h : List Nat} {r : Vm.D} (hw : OkZ w) (hh : OkZ h) (hr : OkR r) : F_fill_step__1_halt_rows [.val (.str w), .val (.str h), .val r] = if isStep w r h = true then .ret (.val (S3 w r h)) [.non, .non, .non] else .exc ⟨2, [(0, .int 0)]⟩ [.non, .non, .non] := by
  unfold F_fill_step__1_halt_rows adF
  simp only [valsOf, Option.map_some, List.length_cons, List.length_nil, if_true, gSwap, List.map_cons, List.map_nil]
  rw [e_fill_step hw hh hr]
  cases isStep w r h <;> rfl
/-! ### texts of steps -/
def numT : Vm.D → List Nat
  | .int i => numI i
  | _ => []
def ft (w : List Nat) (r : Vm.D) (h : List Nat) : List Nat := w ++ ((match r with | .non => [] | r => [32, 114, 111, 119, 115, 32] ++ numT r) ++ (if h = [45] then [] else [32, 104, 97, 108, 116, 32] ++ h))
/-- .. rows of a step -/
def OkL (r : Vm.D) : Prop := r = .non ∨ ∃ i : Int, r = .int i ∧ 1 ≤ i ∧ i ≤ 6
theorem numI_one {i : Int} (h1 : 0 ≤ i) (h2 : i ≤ 9) : numI i = [48 + i.toNat] := by
  obtain ⟨n, rfl⟩ : ∃ n : Nat, i = (n : Int) := ⟨i.toNat, by omega⟩
  have : numI (n : Int) = TL.numL n := TL.tl_num n
  rw [this, TL.numL_lt (by omega)]
  rfl
theorem log2_small {i : Int} (h1 : 0 ≤ i) (h2 : i ≤ 9) : i.natAbs.log2 < 1920 := by
  have : i.natAbs < 10 := by omega
  exact Nat.lt_of_le_of_lt (Nat.log2_le_self _) (by omega)
theorem e_fill_text {w h : List Nat} {r : Vm.D} (hw : OkZ w) (hh : OkZ h) (hr : OkL r) : F_fill_text [.val (S3 w r h)] = .ret (.val (.str (ft w r h))) [.non] := by
  unfold F_fill_text m_fill_text S3
  have lw : w.length ≤ 10000 := hw.1
  have lh : h.length ≤ 10000 := hh.1
  rcases hr with rfl | ⟨i, rfl, h1, h2⟩
  · by_cases q : h = [45]
    · have b4 : w.length ≤ 16777216 := by omega
      subst q
      simp [Vm.run, slotsOf, outsOf, Vm.seq, retS, retN, Vm.next, exprS, Vm.asg, asgV, pat, parX, tgN, tgNil, tgCons, tgT, Vm.var, cst, Vm.bin, bop, Vm.two, Vm.cmp, cop, deq_str, deq_int, Vm.one, Vm.neg, notE, Vm.chain, andE, orE, ifx, ifS, Vm.tst, tstB, tAnd, tOr, tNot, nilA, consA, tupE, lstE, Vm.idx, ixd, Vm.slc, slcd, Vm.part, noPart, Vm.call, callV, hand, back, RV.ev, bcall, biLen, smeth, isiE, fldX, raiseX, R.bind, R.thn, R.of, EV.peek, EV.frz, frzs, peeks, SD.look, D.tru, fmtE, joinF, line, dis, ft, b4]
    · have b1 : h.length ≤ 16777216 := by omega
      have b2 : 6 + h.length ≤ 16777216 := by omega
      have b3 : h.length + 6 ≤ 16777216 := by omega
      have b4 : w.length ≤ 16777216 := by omega
      have b5 : w.length + (h.length + 6) ≤ 16777216 := by omega
      simp [Vm.run, slotsOf, outsOf, Vm.seq, retS, retN, Vm.next, exprS, Vm.asg, asgV, pat, parX, tgN, tgNil, tgCons, tgT, Vm.var, cst, Vm.bin, bop, Vm.two, Vm.cmp, cop, deq_str, deq_int, Vm.one, Vm.neg, notE, Vm.chain, andE, orE, ifx, ifS, Vm.tst, tstB, tAnd, tOr, tNot, nilA, consA, tupE, lstE, Vm.idx, ixd, Vm.slc, slcd, Vm.part, noPart, Vm.call, callV, hand, back, RV.ev, bcall, biLen, smeth, isiE, fldX, raiseX, R.bind, R.thn, R.of, EV.peek, EV.frz, frzs, peeks, SD.look, D.tru, fmtE, joinF, line, dis, ft, q, b1, b2, b3, b4, b5]
  · have n1 := numI_one (i := i) (by omega) (by omega)
    have n2 := log2_small (i := i) (by omega) (by omega)
    by_cases q : h = [45]
    · subst q
      have b4 : w.length ≤ 16777216 := by omega
      have b5 : w.length + 7 ≤ 16777216 := by omega
      simp [Vm.run, slotsOf, outsOf, Vm.seq, retS, retN, Vm.next, exprS, Vm.asg, asgV, pat, parX, tgN, tgNil, tgCons, tgT, Vm.var, cst, Vm.bin, bop, Vm.two, Vm.cmp, cop, deq_str, deq_int, Vm.one, Vm.neg, notE, Vm.chain, andE, orE, ifx, ifS, Vm.tst, tstB, tAnd, tOr, tNot, nilA, consA, tupE, lstE, Vm.idx, ixd, Vm.slc, slcd, Vm.part, noPart, Vm.call, callV, hand, back, RV.ev, bcall, biLen, smeth, isiE, fldX, raiseX, R.bind, R.thn, R.of, EV.peek, EV.frz, frzs, peeks, SD.look, D.tru, fmtE, joinF, line, dis, ft, n1, n2, numT, b4, b5]
    · have b1 : h.length ≤ 16777216 := by omega
      have b2 : 6 + h.length ≤ 16777216 := by omega
      have b3 : h.length + 6 ≤ 16777216 := by omega
      have b4 : w.length ≤ 16777216 := by omega
      have b5 : w.length + 7 ≤ 16777216 := by omega
      have b6 : w.length + 7 + (h.length + 6) ≤ 16777216 := by omega
      simp [Vm.run, slotsOf, outsOf, Vm.seq, retS, retN, Vm.next, exprS, Vm.asg, asgV, pat, parX, tgN, tgNil, tgCons, tgT, Vm.var, cst, Vm.bin, bop, Vm.two, Vm.cmp, cop, deq_str, deq_int, Vm.one, Vm.neg, notE, Vm.chain, andE, orE, ifx, ifS, Vm.tst, tstB, tAnd, tOr, tNot, nilA, consA, tupE, lstE, Vm.idx, ixd, Vm.slc, slcd, Vm.part, noPart, Vm.call, callV, hand, back, RV.ev, bcall, biLen, smeth, isiE, fldX, raiseX, R.bind, R.thn, R.of, EV.peek, EV.frz, frzs, peeks, SD.look, D.tru, fmtE, joinF, line, dis, ft, q, n1, n2, numT, b1, b2, b3, b4, b5, b6]
theorem e_L_text {w h : List Nat} {r : Vm.D} (hw : OkZ w) (hh : OkZ h) (hr : OkL r) : F_L_text [.val (S3 w r h)] = .ret (.val (.str (ft w r h))) [.non] := by
  unfold F_L_text m_L_text S3
  have lw : w.length ≤ 10000 := hw.1
  have lh : h.length ≤ 10000 := hh.1
  rcases hr with rfl | ⟨i, rfl, h1, h2⟩
  · by_cases q : h = [45]
    · subst q
      simp [Vm.run, slotsOf, outsOf, Vm.seq, retS, retN, Vm.next, exprS, Vm.asg, asgV, pat, parX, tgN, tgNil, tgCons, tgT, Vm.var, cst, Vm.bin, bop, Vm.two, Vm.cmp, cop, deq_str, deq_int, Vm.one, Vm.neg, notE, Vm.chain, andE, orE, ifx, ifS, Vm.tst, tstB, tAnd, tOr, tNot, nilA, consA, tupE, lstE, Vm.idx, ixd, Vm.slc, slcd, Vm.part, noPart, Vm.call, callV, hand, back, RV.ev, bcall, biLen, smeth, isiE, fldX, raiseX, R.bind, R.thn, R.of, EV.peek, EV.frz, frzs, peeks, SD.look, D.tru, fmtE, joinF, line, dis, ft, atI, ixN]
    · have b5 : w.length + 6 ≤ 16777216 := by omega
      have b6 : w.length + 6 + h.length ≤ 16777216 := by omega
      simp [Vm.run, slotsOf, outsOf, Vm.seq, retS, retN, Vm.next, exprS, Vm.asg, asgV, pat, parX, tgN, tgNil, tgCons, tgT, Vm.var, cst, Vm.bin, bop, Vm.two, Vm.cmp, cop, deq_str, deq_int, Vm.one, Vm.neg, notE, Vm.chain, andE, orE, ifx, ifS, Vm.tst, tstB, tAnd, tOr, tNot, nilA, consA, tupE, lstE, Vm.idx, ixd, Vm.slc, slcd, Vm.part, noPart, Vm.call, callV, hand, back, RV.ev, bcall, biLen, smeth, isiE, fldX, raiseX, R.bind, R.thn, R.of, EV.peek, EV.frz, frzs, peeks, SD.look, D.tru, fmtE, joinF, line, dis, ft, q, atI, ixN, b5, b6]
  · have n1 := numI_one (i := i) (by omega) (by omega)
    have n2 := log2_small (i := i) (by omega) (by omega)
    have b4 : w.length + 6 ≤ 16777216 := by omega
    have b5 : w.length + 7 ≤ 16777216 := by omega
    have b7 : w.length + 6 + 1 ≤ 16777216 := by omega
    have b8 : w.length + 6 + 1 + 6 ≤ 16777216 := by omega
    have b9 : w.length + 6 + 1 + 6 + h.length ≤ 16777216 := by omega
    by_cases q : h = [45]
    · subst q
      simp [Vm.run, slotsOf, outsOf, Vm.seq, retS, retN, Vm.next, exprS, Vm.asg, asgV, pat, parX, tgN, tgNil, tgCons, tgT, Vm.var, cst, Vm.bin, bop, Vm.two, Vm.cmp, cop, deq_str, deq_int, Vm.one, Vm.neg, notE, Vm.chain, andE, orE, ifx, ifS, Vm.tst, tstB, tAnd, tOr, tNot, nilA, consA, tupE, lstE, Vm.idx, ixd, Vm.slc, slcd, Vm.part, noPart, Vm.call, callV, hand, back, RV.ev, bcall, biLen, smeth, isiE, fldX, raiseX, R.bind, R.thn, R.of, EV.peek, EV.frz, frzs, peeks, SD.look, D.tru, fmtE, joinF, line, dis, ft, n1, n2, numT, atI, ixN, biStr, b4, b5, b7]
    · simp [Vm.run, slotsOf, outsOf, Vm.seq, retS, retN, Vm.next, exprS, Vm.asg, asgV, pat, parX, tgN, tgNil, tgCons, tgT, Vm.var, cst, Vm.bin, bop, Vm.two, Vm.cmp, cop, deq_str, deq_int, Vm.one, Vm.neg, notE, Vm.chain, andE, orE, ifx, ifS, Vm.tst, tstB, tAnd, tOr, tNot, nilA, consA, tupE, lstE, Vm.idx, ixd, Vm.slc, slcd, Vm.part, noPart, Vm.call, callV, hand, back, RV.ev, bcall, biLen, smeth, isiE, fldX, raiseX, R.bind, R.thn, R.of, EV.peek, EV.frz, frzs, peeks, SD.look, D.tru, fmtE, joinF, line, dis, ft, q, n1, n2, numT, atI, ixN, biStr, b4, b5, b7, b8, b9]
end K19

set_option Elab.async false
set_option linter.all false
set_option maxRecDepth 100000
set_option maxHeartbeats 4000000
namespace K19
open PySem Vm
theorem starts1 (c : Nat) : ∀ z : List Nat, Txt.startswith (T z) (T [c]) = decide (z.head? = some c)
  | [] => by simp [Txt.startswith, Str.length]
  | a :: r => by
    simp only [Txt.startswith, Builtin.Str.subAt, Str.length]
    have e : (a :: r).toArray.extract 0 (0 + [c].toArray.size) = [a].toArray := by
      apply Array.ext'
      simp
    rw [e]
    by_cases h : a = c
    · subst h; simp
    · have : ([a].toArray == [c].toArray) = false := by
        rw [beq_eq_false_iff_ne]
        intro q
        have := congrArg Array.toList q
        simp at this
        exact h this
      simp [this, h]
/-- what a word behind rows is read as -/
def rI : List Nat → Vm.D
  | [d] => if 48 ≤ d ∧ d ≤ 57 then .int ((d : Int) - 48) else .non
  | [s, d] => if s = 45 ∧ 49 ≤ d ∧ d ≤ 57 then .int (48 - (d : Int)) else .non
  | _ => .non
def isD (z : List Nat) : Bool := Txt.isascii (T z) && Txt.isdigit (T z)
theorem isD_one : ∀ d : Nat, d < 128 → isD [d] = decide (48 ≤ d ∧ d ≤ 57) := by
  have : (List.range 128).all (fun d => isD [d] == decide (48 ≤ d ∧ d ≤ 57)) = true := by decide +kernel
  intro d hd
  have := List.all_eq_true.mp this d (List.mem_range.mpr hd)
  exact eq_of_beq this
theorem isD_nil : isD [] = false := by decide +kernel
theorem cut_drop {α : Type} (xs : List α) (k : Nat) : cut xs (some (k : Int)) none = xs.drop k := by
  have h1 : sIx xs.length 0 (some (k : Int)) = min k xs.length := by
    show (if (k : Int) < 0 then ((k : Int) + (xs.length : Int)).toNat else min (k : Int).toNat xs.length) = _
    rw [if_neg (by omega)]
    simp
  show (xs.drop (sIx xs.length 0 (some (k : Int)))).take (xs.length - sIx xs.length 0 (some (k : Int))) = _
  rw [h1]
  rw [show xs.length - min k xs.length = (xs.drop (min k xs.length)).length by rw [List.length_drop], List.take_length]
  by_cases q : k ≤ xs.length
  · rw [Nat.min_eq_left q]
  · rw [Nat.min_eq_right (by omega), List.drop_of_length_le (Nat.le_refl _), List.drop_of_length_le (by omega)]
theorem cut_take {α : Type} (xs : List α) (k : Nat) : cut xs none (some (k : Int)) = xs.take k := by
  have h1 : sIx xs.length xs.length (some (k : Int)) = min k xs.length := by
    show (if (k : Int) < 0 then ((k : Int) + (xs.length : Int)).toNat else min (k : Int).toNat xs.length) = _
    rw [if_neg (by omega)]
    simp
  show (xs.drop 0).take (sIx xs.length xs.length (some (k : Int)) - 0) = _
  rw [h1, List.drop_zero, Nat.sub_zero]
  by_cases q : k ≤ xs.length
  · rw [Nat.min_eq_left q]
  · rw [Nat.min_eq_right (by omega), List.take_length, List.take_of_length_le (by omega)]
theorem cut_mid {α : Type} (xs : List α) (a b : Nat) : cut xs (some (a : Int)) (some (b : Int)) = (xs.drop a).take (b - a) := by
  have h1 : sIx xs.length 0 (some (a : Int)) = min a xs.length := by
    show (if (a : Int) < 0 then ((a : Int) + (xs.length : Int)).toNat else min (a : Int).toNat xs.length) = _
    rw [if_neg (by omega)]
    simp
  have h2 : sIx xs.length xs.length (some (b : Int)) = min b xs.length := by
    show (if (b : Int) < 0 then ((b : Int) + (xs.length : Int)).toNat else min (b : Int).toNat xs.length) = _
    rw [if_neg (by omega)]
    simp
  show (xs.drop (sIx xs.length 0 (some (a : Int)))).take (sIx xs.length xs.length (some (b : Int)) - sIx xs.length 0 (some (a : Int))) = _
  rw [h1, h2]
  by_cases q : a ≤ xs.length
  · rw [Nat.min_eq_left q]
    by_cases p : b ≤ xs.length
    · rw [Nat.min_eq_left p]
    · rw [Nat.min_eq_right (by omega), List.take_of_length_le (by rw [List.length_drop]; omega), List.take_of_length_le (by rw [List.length_drop]; omega)]
  · rw [Nat.min_eq_right (by omega : xs.length ≤ a), List.drop_of_length_le (Nat.le_refl _), List.drop_of_length_le (by omega), List.take_nil, List.take_nil]
theorem cut_init {α : Type} (xs : List α) : cut xs none (some (-1)) = xs.dropLast := by
  show (xs.drop 0).take ((-1 + (xs.length : Int)).toNat - 0) = _
  rw [List.drop_zero, List.dropLast_eq_take, show (-1 + (xs.length : Int)).toNat - 0 = xs.length - 1 by omega]
theorem ri_rest {z ds : List Nat} (hz : OkZ z) (h : (if z.head? = some 45 then z.drop 1 else z) = ds) (h2 : isD ds = false ∨ 1 < ds.length) : F_read_integer [.val (.str z), .val (.int 1)] = .ret (.val .non) [.non, .non] := by
  unfold F_read_integer m_read_integer
  have e : F_is_digits [.val (.str ds)] = .ret (.val (.bl (isD ds))) [.non] := e_is_digits ds
  have l1 : z.length ≤ 16777216 := hz.len
  have l2 : ds.length ≤ 16777216 := by
    rw [← h]
    split
    · rw [List.length_drop]; omega
    · exact l1
  have s1 := starts1 45 z
  have c1 : cut z (some 1) none = z.drop 1 := cut_drop z 1
  have h3 : 1 < ds.length → (1 : Int) < (ds.length : Int) := fun h => by omega
  by_cases q : z.head? = some 45
  · rw [if_pos q] at h
    rw [h] at c1
    clear h
    rcases h2 with h2 | h2
    · simp [Vm.run, slotsOf, outsOf, Vm.seq, retS, retN, Vm.next, exprS, Vm.asg, asgV, pat, parX, tgN, tgNil, tgCons, tgT, Vm.var, cst, Vm.bin, bop, Vm.two, Vm.cmp, cop, deq_str, deq_int, Vm.one, Vm.neg, notE, Vm.chain, andE, orE, ifx, ifS, Vm.tst, tstB, tAnd, tOr, tNot, nilA, consA, tupE, lstE, Vm.idx, ixd, Vm.slc, slcd, Vm.part, noPart, Vm.call, callV, hand, back, RV.ev, bcall, biLen, smeth, isiE, fldX, raiseX, R.bind, R.thn, R.of, EV.peek, EV.frz, frzs, peeks, SD.look, D.tru, fmtE, joinF, line, biStarts, s1, q, l1, l2, c1, e, h2]
    · have h3 := h3 h2
      cases b : isD ds <;> simp [Vm.run, slotsOf, outsOf, Vm.seq, retS, retN, Vm.next, exprS, Vm.asg, asgV, pat, parX, tgN, tgNil, tgCons, tgT, Vm.var, cst, Vm.bin, bop, Vm.two, Vm.cmp, cop, deq_str, deq_int, Vm.one, Vm.neg, notE, Vm.chain, andE, orE, ifx, ifS, Vm.tst, tstB, tAnd, tOr, tNot, nilA, consA, tupE, lstE, Vm.idx, ixd, Vm.slc, slcd, Vm.part, noPart, Vm.call, callV, hand, back, RV.ev, bcall, biLen, smeth, isiE, fldX, raiseX, R.bind, R.thn, R.of, EV.peek, EV.frz, frzs, peeks, SD.look, D.tru, fmtE, joinF, line, biStarts, s1, q, l1, l2, c1, e, b, h3]
  · rw [if_neg q] at h
    subst h
    rcases h2 with h2 | h2
    · simp [Vm.run, slotsOf, outsOf, Vm.seq, retS, retN, Vm.next, exprS, Vm.asg, asgV, pat, parX, tgN, tgNil, tgCons, tgT, Vm.var, cst, Vm.bin, bop, Vm.two, Vm.cmp, cop, deq_str, deq_int, Vm.one, Vm.neg, notE, Vm.chain, andE, orE, ifx, ifS, Vm.tst, tstB, tAnd, tOr, tNot, nilA, consA, tupE, lstE, Vm.idx, ixd, Vm.slc, slcd, Vm.part, noPart, Vm.call, callV, hand, back, RV.ev, bcall, biLen, smeth, isiE, fldX, raiseX, R.bind, R.thn, R.of, EV.peek, EV.frz, frzs, peeks, SD.look, D.tru, fmtE, joinF, line, biStarts, s1, q, l1, l2, c1, e, h2]
    · have h3 := h3 h2
      cases b : isD z <;> simp [Vm.run, slotsOf, outsOf, Vm.seq, retS, retN, Vm.next, exprS, Vm.asg, asgV, pat, parX, tgN, tgNil, tgCons, tgT, Vm.var, cst, Vm.bin, bop, Vm.two, Vm.cmp, cop, deq_str, deq_int, Vm.one, Vm.neg, notE, Vm.chain, andE, orE, ifx, ifS, Vm.tst, tstB, tAnd, tOr, tNot, nilA, consA, tupE, lstE, Vm.idx, ixd, Vm.slc, slcd, Vm.part, noPart, Vm.call, callV, hand, back, RV.ev, bcall, biLen, smeth, isiE, fldX, raiseX, R.bind, R.thn, R.of, EV.peek, EV.frz, frzs, peeks, SD.look, D.tru, fmtE, joinF, line, biStarts, s1, q, l1, l2, c1, e, b, h3]
def eqFR : FR → Vm.D → Bool
  | .ret (.val (.int i)) [.non, .non], .int j => decide (i = j)
  | .ret (.val .non) [.non, .non], .non => true
  | _, _ => false
theorem eqFR_ok {a : FR} {d : Vm.D} (h : eqFR a d = true) : a = .ret (.val d) [.non, .non] := by
  unfold eqFR at h
  split at h
  · rw [of_decide_eq_true h]
  · rfl
  · cases h
theorem ri_all : ([48, 49, 50, 51, 52, 53, 54, 55, 56, 57].all fun d => eqFR (F_read_integer [.val (.str [d]), .val (.int 1)]) (rI [d]) && eqFR (F_read_integer [.val (.str [45, d]), .val (.int 1)]) (rI [45, d])) = true := by decide +kernel
theorem e_read_integer {z : List Nat} (hz : OkZ z) : F_read_integer [.val (.str z), .val (.int 1)] = .ret (.val (rI z)) [.non, .non] := by
  have dg : ∀ d, 48 ≤ d ∧ d ≤ 57 → d ∈ [48, 49, 50, 51, 52, 53, 54, 55, 56, 57] := fun d h => by simp; omega
  match z, hz with
  | [], hz => exact ri_rest hz rfl (.inl isD_nil)
  | [d], hz =>
    have hd := hz.2 d List.mem_cons_self
    by_cases q : 48 ≤ d ∧ d ≤ 57
    · have := List.all_eq_true.mp ri_all d (dg d q)
      exact eqFR_ok (Bool.and_eq_true_iff.mp this).1
    · have e : rI [d] = .non := if_neg q
      rw [e]
      by_cases m : d = 45
      · subst m; exact ri_rest hz rfl (.inl isD_nil)
      · refine ri_rest hz (ds := [d]) (by simp [m]) (.inl ?_)
        rw [isD_one d hd]
        exact decide_eq_false q
  | [s, d], hz =>
    have hd := hz.2 d (by simp)
    by_cases m : s = 45
    · subst m
      by_cases q : 48 ≤ d ∧ d ≤ 57
      · have := List.all_eq_true.mp ri_all d (dg d q)
        exact eqFR_ok (Bool.and_eq_true_iff.mp this).2
      · have e : rI [45, d] = .non := if_neg (by omega)
        rw [e]
        refine ri_rest hz (ds := [d]) rfl (.inl ?_)
        rw [isD_one d hd]
        exact decide_eq_false q
    · have e : rI [s, d] = .non := if_neg (by omega)
      rw [e]
      exact ri_rest hz (ds := [s, d]) (by simp [m]) (.inr (by simp))
  | a :: b :: c :: r, hz =>
    show _ = FR.ret (.val .non) _
    by_cases m : a = 45
    · subst m
      exact ri_rest hz (ds := b :: c :: r) rfl (.inr (by simp))
    · exact ri_rest hz (ds := a :: b :: c :: r) (by simp [m]) (.inr (by simp))
end K19

set_option Elab.async false
set_option linter.all false
set_option maxRecDepth 100000
set_option maxHeartbeats 4000000
namespace K19
open PySem Vm
/-! ### the word behind a word -/
def wb : List (List Nat) → List Nat → Option (List Nat)
  | a :: b :: r, n => if a = n then some b else wb (b :: r) n
  | _, _ => none
def oD : Option (List Nat) → Vm.D
  | none => .non
  | some z => .str z
def wbBody : Vm.Tx := ifS (tstB (cmp .eq (var 3) (var 1))) (retS (idx (var 0) (bin .add (var 2) (cst (.int 1))))) next
theorem wb_loop (n : List Nat) : ∀ (suf pre : List (List Nat)) (s2 s3 : SD), s2.calm = true → s3.calm = true →
    ∃ a b, loop (tgT (tgCons (tgN 2) (tgCons (tgN 3) tgNil))) wbBody (nums (pre.length : Int) (suf.dropLast.map .str)) [.sh (.lst ((pre ++ suf).map .str)), .sh (.str n), s2, s3] = (match wb suf n with
      | some z => S.rt (.val (.str z)) [.sh (.lst ((pre ++ suf).map .str)), .sh (.str n), a, b]
      | none => S.nx [.sh (.lst ((pre ++ suf).map .str)), .sh (.str n), a, b])
  | [], pre, s2, s3, _, _ => ⟨s2, s3, rfl⟩
  | [a], pre, s2, s3, _, _ => ⟨s2, s3, rfl⟩
  | a :: b :: r, pre, s2, s3, h2, h3 => by
    have ih := wb_loop n (b :: r) (pre ++ [a]) (.sh (.int pre.length)) (.sh (.str a)) rfl rfl
    have e0 : pre ++ [a] ++ (b :: r) = pre ++ (a :: b :: r) := by rw [List.append_assoc]; rfl
    rw [e0] at ih
    have tg : tgT (tgCons (tgN 2) (tgCons (tgN 3) tgNil)) (.tup [.int pre.length, .str a]) [.sh (.lst ((pre ++ (a :: b :: r)).map .str)), .sh (.str n), s2, s3] = some [.sh (.lst ((pre ++ (a :: b :: r)).map .str)), .sh (.str n), .sh (.int pre.length), .sh (.str a)] := by
      revert h2 h3
      cases s2 <;> cases s3 <;> intro h2 h3 <;> first | exact Bool.noConfusion h2 | exact Bool.noConfusion h3 | rfl
    have at1 : atI ((pre ++ (a :: b :: r)).map Vm.D.str) ((pre.length : Int) + 1) = some (.str b) := by
      have l : ((pre ++ (a :: b :: r)).map Vm.D.str).length = pre.length + (r.length + 2) := by simp
      unfold atI ixN
      rw [l, if_pos (by omega), if_pos (by omega)]
      rw [show ((pre.length : Int) + 1).toNat = pre.length + 1 by omega]
      show ((pre ++ (a :: b :: r)).map Vm.D.str)[pre.length + 1]? = _
      rw [List.getElem?_map, List.getElem?_append_right (by omega), show pre.length + 1 - pre.length = 1 by omega]
      rfl
    have L : nums (pre.length : Int) ((a :: b :: r).dropLast.map .str) = .tup [.int pre.length, .str a] :: nums ((pre.length : Int) + 1) ((b :: r).dropLast.map .str) := rfl
    rw [L]
    unfold loop
    rw [tg]
    generalize (pre ++ (a :: b :: r)).map Vm.D.str = X at ih at1 ⊢
    by_cases q : a = n
    · subst q
      refine ⟨.sh (.int pre.length), .sh (.str a), ?_⟩
      have w : wb (a :: b :: r) a = some b := if_pos rfl
      rw [w]
      unfold wbBody
      simp [Vm.run, slotsOf, outsOf, Vm.seq, retS, retN, Vm.next, exprS, Vm.asg, asgV, pat, parX, tgN, tgNil, tgCons, tgT, Vm.var, cst, Vm.bin, bop, Vm.two, Vm.cmp, cop, deq_str, deq_int, Vm.one, Vm.neg, notE, Vm.chain, andE, orE, ifx, ifS, Vm.tst, tstB, tAnd, tOr, tNot, nilA, consA, tupE, lstE, Vm.idx, ixd, Vm.slc, slcd, Vm.part, noPart, Vm.call, callV, hand, back, RV.ev, bcall, biLen, smeth, isiE, fldX, raiseX, R.bind, R.thn, R.of, EV.peek, EV.frz, frzs, peeks, SD.look, D.tru, fmtE, joinF, line, at1]
    · obtain ⟨x, y, ih⟩ := ih
      refine ⟨x, y, ?_⟩
      have w : wb (a :: b :: r) n = wb (b :: r) n := if_neg q
      rw [w]
      have bd : wbBody [.sh (.lst X), .sh (.str n), .sh (.int pre.length), .sh (.str a)] = .nx [.sh (.lst X), .sh (.str n), .sh (.int pre.length), .sh (.str a)] := by
        unfold wbBody
        simp [Vm.run, slotsOf, outsOf, Vm.seq, retS, retN, Vm.next, exprS, Vm.asg, asgV, pat, parX, tgN, tgNil, tgCons, tgT, Vm.var, cst, Vm.bin, bop, Vm.two, Vm.cmp, cop, deq_str, deq_int, Vm.one, Vm.neg, notE, Vm.chain, andE, orE, ifx, ifS, Vm.tst, tstB, tAnd, tOr, tNot, nilA, consA, tupE, lstE, Vm.idx, ixd, Vm.slc, slcd, Vm.part, noPart, Vm.call, callV, hand, back, RV.ev, bcall, biLen, smeth, isiE, fldX, raiseX, R.bind, R.thn, R.of, EV.peek, EV.frz, frzs, peeks, SD.look, D.tru, fmtE, joinF, line, q]
      simp only [bd]
      rw [List.length_append, List.length_singleton] at ih
      exact ih
theorem e_word_behind (ws : List (List Nat)) (n : List Nat) : F__word_behind [.val (.lst (ws.map .str)), .val (.str n)] = .ret (.val (oD (wb ws n))) [.non, .non] := by
  unfold F__word_behind m__word_behind
  obtain ⟨a, b, h⟩ := wb_loop n ws [] .un .un rfl rfl
  simp only [List.nil_append, List.length_nil, Int.ofNat_zero, Int.natCast_zero] at h
  have c1 : cut (ws.map Vm.D.str) none (some (-1)) = ws.dropLast.map .str := by rw [cut_init, List.map_dropLast]
  have f : forS (tgT (tgCons (tgN 2) (tgCons (tgN 3) tgNil))) (itEnum (slc (var 0) noPart (part (neg (cst (.int 1)))))) wbBody [.sh (.lst (ws.map .str)), .sh (.str n), .un, .un] = loop (tgT (tgCons (tgN 2) (tgCons (tgN 3) tgNil))) wbBody (nums 0 (ws.dropLast.map .str)) [.sh (.lst (ws.map .str)), .sh (.str n), .un, .un] := by
    have i1 : itEnum (slc (var 0) noPart (part (neg (cst (.int 1))))) [.sh (.lst (ws.map .str)), .sh (.str n), .un, .un] = .ok (nums 0 (ws.dropLast.map .str), none) [.sh (.lst (ws.map .str)), .sh (.str n), .un, .un] := by
      unfold itEnum
      simp [Vm.run, slotsOf, outsOf, Vm.seq, retS, retN, Vm.next, exprS, Vm.asg, asgV, pat, parX, tgN, tgNil, tgCons, tgT, Vm.var, cst, Vm.bin, bop, Vm.two, Vm.cmp, cop, deq_str, deq_int, Vm.one, Vm.neg, notE, Vm.chain, andE, orE, ifx, ifS, Vm.tst, tstB, tAnd, tOr, tNot, nilA, consA, tupE, lstE, Vm.idx, ixd, Vm.slc, slcd, Vm.part, noPart, Vm.call, callV, hand, back, RV.ev, bcall, biLen, smeth, isiE, fldX, raiseX, R.bind, R.thn, R.of, EV.peek, EV.frz, frzs, peeks, SD.look, D.tru, fmtE, joinF, line, c1, EV.slot]
    unfold forS
    rw [i1]
    simp only [R.thn, lock, locked]
    cases loop (tgT (tgCons (tgN 2) (tgCons (tgN 3) tgNil))) wbBody (nums 0 (ws.dropLast.map .str)) [.sh (.lst (ws.map .str)), .sh (.str n), .un, .un] <;> rfl
  rw [h] at f
  show Vm.run 2 4 (seq (forS _ _ wbBody) _) _ = _
  generalize forS (tgT (tgCons (tgN 2) (tgCons (tgN 3) tgNil))) (itEnum (slc (var 0) noPart (part (neg (cst (.int 1)))))) wbBody = FS at f ⊢
  cases w : wb ws n with
  | none => rw [w] at f; simp only at f; simp [Vm.run, slotsOf, outsOf, Vm.seq, retS, retN, Vm.next, exprS, Vm.asg, asgV, pat, parX, tgN, tgNil, tgCons, tgT, Vm.var, cst, Vm.bin, bop, Vm.two, Vm.cmp, cop, deq_str, deq_int, Vm.one, Vm.neg, notE, Vm.chain, andE, orE, ifx, ifS, Vm.tst, tstB, tAnd, tOr, tNot, nilA, consA, tupE, lstE, Vm.idx, ixd, Vm.slc, slcd, Vm.part, noPart, Vm.call, callV, hand, back, RV.ev, bcall, biLen, smeth, isiE, fldX, raiseX, R.bind, R.thn, R.of, EV.peek, EV.frz, frzs, peeks, SD.look, D.tru, fmtE, joinF, line, f, oD]
  | some z => rw [w] at f; simp only at f; simp [Vm.run, slotsOf, outsOf, Vm.seq, retS, retN, Vm.next, exprS, Vm.asg, asgV, pat, parX, tgN, tgNil, tgCons, tgT, Vm.var, cst, Vm.bin, bop, Vm.two, Vm.cmp, cop, deq_str, deq_int, Vm.one, Vm.neg, notE, Vm.chain, andE, orE, ifx, ifS, Vm.tst, tstB, tAnd, tOr, tNot, nilA, consA, tupE, lstE, Vm.idx, ixd, Vm.slc, slcd, Vm.part, noPart, Vm.call, callV, hand, back, RV.ev, bcall, biLen, smeth, isiE, fldX, raiseX, R.bind, R.thn, R.of, EV.peek, EV.frz, frzs, peeks, SD.look, D.tru, fmtE, joinF, line, f, oD]
/-! ### sets -/
def asc : List Nat → List Nat → Bool
  | [], _ => true
  | c :: r, l => (decide (c ∈ AL) && decide (l < [c])) && asc r [c]
def lset (z : List Nat) : Bool := if asc z [] then !z.isEmpty else decide (z = [45])
def setBody : Vm.Tx := (seq (ifS (tOr (tstB (cmp .nin (var 2) (cst (.str [97, 98, 99, 100, 101, 102])))) (tstB (cmp .le (var 2) (var 1)))) (retS (cmp .eq (var 0) (cst (.str [45])))) next) (asg 1 (var 2)))
theorem set_loop (z : List Nat) : ∀ (suf l : List Nat) (s : SD), s.calm = true →
    ∃ a b, loop (tgN 2) setBody (suf.map fun c => .str [c]) [.sh (.str z), .sh (.str l), s] = (if asc suf l then S.nx [.sh (.str z), .sh (.str a), b] else S.rt (.val (.bl (decide (z = [45])))) [.sh (.str z), .sh (.str a), b])
  | [], l, s, _ => ⟨l, s, rfl⟩
  | c :: r, l, s, hs => by
    obtain ⟨a, b, ih⟩ := set_loop z r [c] (.sh (.str [c])) rfl
    have tg : tgN 2 (.str [c]) [.sh (.str z), .sh (.str l), s] = some [.sh (.str z), .sh (.str l), .sh (.str [c])] := by
      revert hs
      cases s <;> intro hs <;> first | exact Bool.noConfusion hs | rfl
    rw [List.map_cons]
    unfold loop
    rw [tg]
    unfold asc
    by_cases q : c ∈ AL
    · by_cases p : l < [c]
      · refine ⟨a, b, ?_⟩
        have bd : setBody [.sh (.str z), .sh (.str l), .sh (.str [c])] = .nx [.sh (.str z), .sh (.str [c]), .sh (.str [c])] := by
          unfold setBody
          have q : c ∈ [97, 98, 99, 100, 101, 102] := q
          simp only [List.mem_cons, List.not_mem_nil, or_false] at q
          simp [Vm.run, slotsOf, outsOf, Vm.seq, retS, retN, Vm.next, exprS, Vm.asg, asgV, pat, parX, tgN, tgNil, tgCons, tgT, Vm.var, cst, Vm.bin, bop, Vm.two, Vm.cmp, cop, deq_str, deq_int, Vm.one, Vm.neg, notE, Vm.chain, andE, orE, ifx, ifS, Vm.tst, tstB, tAnd, tOr, tNot, nilA, consA, tupE, lstE, Vm.idx, ixd, Vm.slc, slcd, Vm.part, noPart, Vm.call, callV, hand, back, RV.ev, bcall, biLen, smeth, isiE, fldX, raiseX, R.bind, R.thn, R.of, EV.peek, EV.frz, frzs, peeks, SD.look, D.tru, fmtE, joinF, line, din, q, p]
        simp only [bd, q, p, decide_true, Bool.true_and]
        exact ih
      · refine ⟨l, .sh (.str [c]), ?_⟩
        have bd : setBody [.sh (.str z), .sh (.str l), .sh (.str [c])] = .rt (.val (.bl (decide (z = [45])))) [.sh (.str z), .sh (.str l), .sh (.str [c])] := by
          unfold setBody
          have q : c ∈ [97, 98, 99, 100, 101, 102] := q
          simp only [List.mem_cons, List.not_mem_nil, or_false] at q
          simp [Vm.run, slotsOf, outsOf, Vm.seq, retS, retN, Vm.next, exprS, Vm.asg, asgV, pat, parX, tgN, tgNil, tgCons, tgT, Vm.var, cst, Vm.bin, bop, Vm.two, Vm.cmp, cop, deq_str, deq_int, Vm.one, Vm.neg, notE, Vm.chain, andE, orE, ifx, ifS, Vm.tst, tstB, tAnd, tOr, tNot, nilA, consA, tupE, lstE, Vm.idx, ixd, Vm.slc, slcd, Vm.part, noPart, Vm.call, callV, hand, back, RV.ev, bcall, biLen, smeth, isiE, fldX, raiseX, R.bind, R.thn, R.of, EV.peek, EV.frz, frzs, peeks, SD.look, D.tru, fmtE, joinF, line, din, q, p]
        simp only [bd, q, p, decide_true, decide_false, Bool.true_and, Bool.false_and]
        rfl
    · refine ⟨l, .sh (.str [c]), ?_⟩
      have bd : setBody [.sh (.str z), .sh (.str l), .sh (.str [c])] = .rt (.val (.bl (decide (z = [45])))) [.sh (.str z), .sh (.str l), .sh (.str [c])] := by
        unfold setBody
        have q : ¬ c ∈ [97, 98, 99, 100, 101, 102] := q
        simp only [List.mem_cons, List.not_mem_nil, or_false] at q
        simp [Vm.run, slotsOf, outsOf, Vm.seq, retS, retN, Vm.next, exprS, Vm.asg, asgV, pat, parX, tgN, tgNil, tgCons, tgT, Vm.var, cst, Vm.bin, bop, Vm.two, Vm.cmp, cop, deq_str, deq_int, Vm.one, Vm.neg, notE, Vm.chain, andE, orE, ifx, ifS, Vm.tst, tstB, tAnd, tOr, tNot, nilA, consA, tupE, lstE, Vm.idx, ixd, Vm.slc, slcd, Vm.part, noPart, Vm.call, callV, hand, back, RV.ev, bcall, biLen, smeth, isiE, fldX, raiseX, R.bind, R.thn, R.of, EV.peek, EV.frz, frzs, peeks, SD.look, D.tru, fmtE, joinF, line, din, q]
      simp only [bd, q, decide_false, Bool.false_and]
      rfl
theorem e_L_set (z : List Nat) : F_L_set [.val (.str z)] = .ret (.val (.bl (lset z))) [.non] := by
  unfold F_L_set m_L_set
  obtain ⟨a, b, h⟩ := set_loop z z [] .un rfl
  have f : forS (tgN 2) (itE (var 0)) setBody [.sh (.str z), .sh (.str []), .un] = loop (tgN 2) setBody (z.map fun c => .str [c]) [.sh (.str z), .sh (.str []), .un] := by
    have i1 : itE (var 0) [.sh (.str z), .sh (.str []), .un] = .ok (z.map fun c => .str [c], none) [.sh (.str z), .sh (.str []), .un] := by
      unfold itE
      simp [Vm.run, slotsOf, outsOf, Vm.seq, retS, retN, Vm.next, exprS, Vm.asg, asgV, pat, parX, tgN, tgNil, tgCons, tgT, Vm.var, cst, Vm.bin, bop, Vm.two, Vm.cmp, cop, deq_str, deq_int, Vm.one, Vm.neg, notE, Vm.chain, andE, orE, ifx, ifS, Vm.tst, tstB, tAnd, tOr, tNot, nilA, consA, tupE, lstE, Vm.idx, ixd, Vm.slc, slcd, Vm.part, noPart, Vm.call, callV, hand, back, RV.ev, bcall, biLen, smeth, isiE, fldX, raiseX, R.bind, R.thn, R.of, EV.peek, EV.frz, frzs, peeks, SD.look, D.tru, fmtE, joinF, line, itemsOf, EV.slot]
    unfold forS
    rw [i1]
    simp only [R.thn, lock, locked]
    cases loop (tgN 2) setBody (z.map fun c => .str [c]) [.sh (.str z), .sh (.str []), .un] <;> rfl
  rw [h] at f
  show Vm.run 1 3 (seq _ (seq (forS _ _ setBody) _)) _ = _
  generalize forS (tgN 2) (itE (var 0)) setBody = FS at f ⊢
  unfold lset
  cases w : asc z [] with
  | true =>
    rw [w, if_pos rfl] at f
    cases z <;> simp [Vm.run, slotsOf, outsOf, Vm.seq, retS, retN, Vm.next, exprS, Vm.asg, asgV, pat, parX, tgN, tgNil, tgCons, tgT, Vm.var, cst, Vm.bin, bop, Vm.two, Vm.cmp, cop, deq_str, deq_int, Vm.one, Vm.neg, notE, Vm.chain, andE, orE, ifx, ifS, Vm.tst, tstB, tAnd, tOr, tNot, nilA, consA, tupE, lstE, Vm.idx, ixd, Vm.slc, slcd, Vm.part, noPart, Vm.call, callV, hand, back, RV.ev, bcall, biLen, smeth, isiE, fldX, raiseX, R.bind, R.thn, R.of, EV.peek, EV.frz, frzs, peeks, SD.look, D.tru, fmtE, joinF, line, f]
  | false =>
    rw [w] at f
    simp only [Bool.false_eq_true, if_false] at f
    simp [Vm.run, slotsOf, outsOf, Vm.seq, retS, retN, Vm.next, exprS, Vm.asg, asgV, pat, parX, tgN, tgNil, tgCons, tgT, Vm.var, cst, Vm.bin, bop, Vm.two, Vm.cmp, cop, deq_str, deq_int, Vm.one, Vm.neg, notE, Vm.chain, andE, orE, ifx, ifS, Vm.tst, tstB, tAnd, tOr, tNot, nilA, consA, tupE, lstE, Vm.idx, ixd, Vm.slc, slcd, Vm.part, noPart, Vm.call, callV, hand, back, RV.ev, bcall, biLen, smeth, isiE, fldX, raiseX, R.bind, R.thn, R.of, EV.peek, EV.frz, frzs, peeks, SD.look, D.tru, fmtE, joinF, line, f]
end K19

set_option Elab.async false
set_option linter.all false
set_option maxRecDepth 100000
set_option maxHeartbeats 4000000
namespace K19
open PySem Vm
def subl : List Nat → List (List Nat)
  | [] => [[]]
  | c :: r => subl r ++ (subl r).map (c :: ·)
theorem sub_mono {a : Nat} {A r : List Nat} (h : r ∈ subl A) : r ∈ subl (a :: A) := List.mem_append_left _ h
theorem sub_cons {a : Nat} {A r : List Nat} (h : r ∈ subl A) : a :: r ∈ subl (a :: A) := List.mem_append_right _ (List.mem_map.mpr ⟨r, h, rfl⟩)
theorem sub_nil : ∀ A : List Nat, [] ∈ subl A
  | [] => List.mem_singleton.mpr rfl
  | a :: A => sub_mono (sub_nil A)
theorem up {l A : List Nat} (h : ∀ c ∈ AL, l < [c] → c ∈ A) (hs : ∀ c ∈ A, ∀ r, asc r [c] = true → c :: r ∈ subl A) : ∀ z, asc z l = true → z ∈ subl A
  | [], _ => sub_nil A
  | c :: r, q => by
    unfold asc at q
    obtain ⟨q1, q2⟩ := Bool.and_eq_true_iff.mp q
    obtain ⟨q3, q4⟩ := Bool.and_eq_true_iff.mp q1
    exact hs c (h c (of_decide_eq_true q3) (of_decide_eq_true q4)) r q2
theorem u102 : ∀ z, asc z [102] = true → z ∈ subl [] := up (by decide) (fun c hc => nomatch hc)
theorem u101 : ∀ z, asc z [101] = true → z ∈ subl [102] := up (by decide) (fun c hc r h => by
  simp at hc
  subst hc
  exact sub_cons (u102 r h))
theorem u100 : ∀ z, asc z [100] = true → z ∈ subl [101, 102] := up (by decide) (fun c hc r h => by
  simp at hc
  rcases hc with rfl | rfl
  · exact sub_cons (u101 r h)
  · exact sub_mono (sub_cons (u102 r h)))
theorem u99 : ∀ z, asc z [99] = true → z ∈ subl [100, 101, 102] := up (by decide) (fun c hc r h => by
  simp at hc
  rcases hc with rfl | rfl | rfl
  · exact sub_cons (u100 r h)
  · exact sub_mono (sub_cons (u101 r h))
  · exact sub_mono (sub_mono (sub_cons (u102 r h))))
theorem u98 : ∀ z, asc z [98] = true → z ∈ subl [99, 100, 101, 102] := up (by decide) (fun c hc r h => by
  simp at hc
  rcases hc with rfl | rfl | rfl | rfl
  · exact sub_cons (u99 r h)
  · exact sub_mono (sub_cons (u100 r h))
  · exact sub_mono (sub_mono (sub_cons (u101 r h)))
  · exact sub_mono (sub_mono (sub_mono (sub_cons (u102 r h)))))
theorem u97 : ∀ z, asc z [97] = true → z ∈ subl [98, 99, 100, 101, 102] := up (by decide) (fun c hc r h => by
  simp at hc
  rcases hc with rfl | rfl | rfl | rfl | rfl
  · exact sub_cons (u98 r h)
  · exact sub_mono (sub_cons (u99 r h))
  · exact sub_mono (sub_mono (sub_cons (u100 r h)))
  · exact sub_mono (sub_mono (sub_mono (sub_cons (u101 r h))))
  · exact sub_mono (sub_mono (sub_mono (sub_mono (sub_cons (u102 r h))))))
theorem u0 : ∀ z, asc z [] = true → z ∈ subl AL := up (by decide) (fun c hc r h => by
  simp [AL] at hc
  rcases hc with rfl | rfl | rfl | rfl | rfl | rfl
  · exact sub_cons (u97 r h)
  · exact sub_mono (sub_cons (u98 r h))
  · exact sub_mono (sub_mono (sub_cons (u99 r h)))
  · exact sub_mono (sub_mono (sub_mono (sub_cons (u100 r h))))
  · exact sub_mono (sub_mono (sub_mono (sub_mono (sub_cons (u101 r h)))))
  · exact sub_mono (sub_mono (sub_mono (sub_mono (sub_mono (sub_cons (u102 r h)))))))
theorem subs_ok : ((subl AL).all fun z => decide (z = AL.filter fun c => decide (c ∈ z))) = true := by decide +kernel
theorem asc_filter (p : Nat → Bool) : asc (AL.filter p) [] = true := by
  unfold AL
  cases h1 : p 97 <;> cases h2 : p 98 <;> cases h3 : p 99 <;> cases h4 : p 100 <;> cases h5 : p 101 <;> cases h6 : p 102 <;> simp only [List.filter, h1, h2, h3, h4, h5, h6] <;> decide
theorem asc_iff (z : List Nat) : asc z [] = decide (z = AL.filter fun c => decide (c ∈ z)) := by
  by_cases h : z = AL.filter fun c => decide (c ∈ z)
  · rw [decide_eq_true h]
    rw [h]
    exact asc_filter _
  · rw [decide_eq_false h]
    cases q : asc z [] with
    | false => rfl
    | true => exact absurd (of_decide_eq_true (List.all_eq_true.mp subs_ok z (u0 z q))) h
theorem mt_lset (z : List Nat) : mt z = lset z := by
  unfold mt lset
  rw [asc_iff]
  by_cases h0 : z = []
  · subst h0; decide
  · have he : z.isEmpty = false := by simpa using h0
    by_cases h : z = AL.filter fun c => decide (c ∈ z)
    · simp [he, ← h]
    · simp [he, h]
def stops : List (List Nat) := [45] :: (subl AL).filter fun z => !z.isEmpty
theorem mt_stops {z : List Nat} (h : mt z = true) : z ∈ stops := by
  rw [mt_lset] at h
  unfold lset at h
  unfold stops
  cases q : asc z [] with
  | true => rw [q] at h; exact List.mem_cons_of_mem _ (List.mem_filter.mpr ⟨u0 z q, h⟩)
  | false =>
    rw [q] at h
    have h : z = [45] := of_decide_eq_true h
    rw [h]
    exact List.mem_cons_self
/-! ### a step's limits -/
def rowsL : List Vm.D := [.non, .int 1, .int 2, .int 3, .int 4, .int 5, .int 6]
theorem lim_rows {r : Vm.D} (h : isLim r = true) : r ∈ rowsL := by
  cases r with
  | non => exact List.mem_cons_self
  | int i =>
    unfold isLim at h
    obtain ⟨h1, h2⟩ := Bool.and_eq_true_iff.mp h
    have h1 := of_decide_eq_true h1
    have h2 := of_decide_eq_true h2
    have : i = 1 ∨ i = 2 ∨ i = 3 ∨ i = 4 ∨ i = 5 ∨ i = 6 := by omega
    unfold rowsL
    rcases this with rfl | rfl | rfl | rfl | rfl | rfl <;> simp
  | _ => exact absurd h (by unfold isLim; exact Bool.false_ne_true)
theorem lim_OkL {r : Vm.D} (h : isLim r = true) : OkL r := by
  cases r with
  | non => exact .inl rfl
  | int i =>
    unfold isLim at h
    obtain ⟨h1, h2⟩ := Bool.and_eq_true_iff.mp h
    exact .inr ⟨i, rfl, of_decide_eq_true h1, of_decide_eq_true h2⟩
  | _ => exact absurd h (by unfold isLim; exact Bool.false_ne_true)
theorem eqv_non {r : Vm.D} : D.eqv r .non = true → r = .non := by
  cases r <;> intro h <;> first | rfl | (unfold D.eqv at h; exact Bool.noConfusion h)
/-- what holds of all steps -/
theorem step_cases {P : List Nat → Vm.D → List Nat → Prop} (h0 : P wDrop .non [45]) (h1 : ∀ w ∈ ways, ∀ r ∈ rowsL, ∀ h ∈ stops, P w r h) {w : List Nat} {r : Vm.D} {h : List Nat} (q : isStep w r h = true) : P w r h := by
  unfold isStep at q
  rcases Bool.or_eq_true_iff.mp q with q | q
  · obtain ⟨q1, q2⟩ := Bool.and_eq_true_iff.mp q
    obtain ⟨q2, q3⟩ := Bool.and_eq_true_iff.mp q2
    have e1 := of_decide_eq_true q1
    have e2 := eqv_non q2
    have e3 := of_decide_eq_true q3
    subst e1 e2 e3
    exact h0
  · obtain ⟨q1, q2⟩ := Bool.and_eq_true_iff.mp q
    obtain ⟨q2, q3⟩ := Bool.and_eq_true_iff.mp q2
    exact h1 w (of_decide_eq_true q1) r (lim_rows q2) h (mt_stops q3)
theorem step_lim {w h : List Nat} {r : Vm.D} (q : isStep w r h = true) : isLim r = true := by
  refine step_cases (P := fun _ r _ => isLim r = true) rfl (fun w _ r hr h _ => ?_) q
  simp only [rowsL, List.mem_cons, List.not_mem_nil, or_false] at hr
  rcases hr with rfl | rfl | rfl | rfl | rfl | rfl | rfl <;> rfl
/-! ### validity by the law's own words -/
theorem e_L_valid {w h : List Nat} {r : Vm.D} (hr : OkR r) : F_L_valid [.val (.str w), .val r, .val (.str h)] = .ret (.val (.bl (isStep w r h))) [.non, .non, .non] := by
  unfold F_L_valid m_L_valid
  obtain ⟨t, h1, h2⟩ := hr.ex
  have e1 := e_whole r t h1 h2
  have e2 := e_L_set h
  have fl := hr.flat
  have q2 : din (.str w) (.lst [(.str [100, 111, 119, 110]), (.str [117, 112]), (.str [110, 101, 97, 114, 95, 97, 98, 111, 118, 101]), (.str [110, 101, 97, 114, 95, 98, 101, 108, 111, 119])]) = some (decide (w ∈ ways)) := by
    simp [din, D.flat, mem, ways, wDown, wUp, wNA, wNB, D.eqv, beq_dec, eq_comm]
  have nd : wDrop ∉ ways := by decide
  by_cases w1 : w = [100, 114, 111, 112]
  · subst w1
    have i : isStep [100, 114, 111, 112] r h = (D.eqv r .non && decide (h = [45])) := by
      unfold isStep
      rw [show decide ([100, 114, 111, 112] ∈ ways) = false from decide_eq_false nd, Bool.false_and, Bool.or_false, show decide ([100, 114, 111, 112] = wDrop) = true from rfl, Bool.true_and]
    rw [i]
    cases r with
    | non => simp [Vm.run, slotsOf, outsOf, Vm.seq, retS, retN, Vm.next, exprS, Vm.asg, asgV, pat, parX, tgN, tgNil, tgCons, tgT, Vm.var, cst, Vm.bin, bop, Vm.two, Vm.cmp, cop, deq_str, deq_int, Vm.one, Vm.neg, notE, Vm.chain, andE, orE, ifx, ifS, Vm.tst, tstB, tAnd, tOr, tNot, nilA, consA, tupE, lstE, Vm.idx, ixd, Vm.slc, slcd, Vm.part, noPart, Vm.call, callV, hand, back, RV.ev, bcall, biLen, smeth, isiE, fldX, raiseX, R.bind, R.thn, R.of, EV.peek, EV.frz, frzs, peeks, SD.look, D.tru, fmtE, joinF, line, dis, D.eqv]
    | int j => simp [Vm.run, slotsOf, outsOf, Vm.seq, retS, retN, Vm.next, exprS, Vm.asg, asgV, pat, parX, tgN, tgNil, tgCons, tgT, Vm.var, cst, Vm.bin, bop, Vm.two, Vm.cmp, cop, deq_str, deq_int, Vm.one, Vm.neg, notE, Vm.chain, andE, orE, ifx, ifS, Vm.tst, tstB, tAnd, tOr, tNot, nilA, consA, tupE, lstE, Vm.idx, ixd, Vm.slc, slcd, Vm.part, noPart, Vm.call, callV, hand, back, RV.ev, bcall, biLen, smeth, isiE, fldX, raiseX, R.bind, R.thn, R.of, EV.peek, EV.frz, frzs, peeks, SD.look, D.tru, fmtE, joinF, line, dis, D.eqv]
    | bl j => simp [Vm.run, slotsOf, outsOf, Vm.seq, retS, retN, Vm.next, exprS, Vm.asg, asgV, pat, parX, tgN, tgNil, tgCons, tgT, Vm.var, cst, Vm.bin, bop, Vm.two, Vm.cmp, cop, deq_str, deq_int, Vm.one, Vm.neg, notE, Vm.chain, andE, orE, ifx, ifS, Vm.tst, tstB, tAnd, tOr, tNot, nilA, consA, tupE, lstE, Vm.idx, ixd, Vm.slc, slcd, Vm.part, noPart, Vm.call, callV, hand, back, RV.ev, bcall, biLen, smeth, isiE, fldX, raiseX, R.bind, R.thn, R.of, EV.peek, EV.frz, frzs, peeks, SD.look, D.tru, fmtE, joinF, line, dis, D.eqv]
    | str j => simp [Vm.run, slotsOf, outsOf, Vm.seq, retS, retN, Vm.next, exprS, Vm.asg, asgV, pat, parX, tgN, tgNil, tgCons, tgT, Vm.var, cst, Vm.bin, bop, Vm.two, Vm.cmp, cop, deq_str, deq_int, Vm.one, Vm.neg, notE, Vm.chain, andE, orE, ifx, ifS, Vm.tst, tstB, tAnd, tOr, tNot, nilA, consA, tupE, lstE, Vm.idx, ixd, Vm.slc, slcd, Vm.part, noPart, Vm.call, callV, hand, back, RV.ev, bcall, biLen, smeth, isiE, fldX, raiseX, R.bind, R.thn, R.of, EV.peek, EV.frz, frzs, peeks, SD.look, D.tru, fmtE, joinF, line, dis, D.eqv]
    | _ => cases fl
  · have i : isStep w r h = (decide (w ∈ ways) && (isLim r && lset h)) := by
      unfold isStep
      rw [show decide (w = wDrop) = false from decide_eq_false w1, Bool.false_and, Bool.false_or, mt_lset]
    rw [i]
    generalize decide (w ∈ ways) = C at q2
    generalize hd2 : D.lst [(.str [100, 111, 119, 110]), (.str [117, 112]), (.str [110, 101, 97, 114, 95, 97, 98, 111, 118, 101]), (.str [110, 101, 97, 114, 95, 98, 101, 108, 111, 119])] = d2 at q2 ⊢
    cases C
    · simp [Vm.run, slotsOf, outsOf, Vm.seq, retS, retN, Vm.next, exprS, Vm.asg, asgV, pat, parX, tgN, tgNil, tgCons, tgT, Vm.var, cst, Vm.bin, bop, Vm.two, Vm.cmp, cop, deq_str, deq_int, Vm.one, Vm.neg, notE, Vm.chain, andE, orE, ifx, ifS, Vm.tst, tstB, tAnd, tOr, tNot, nilA, consA, tupE, lstE, Vm.idx, ixd, Vm.slc, slcd, Vm.part, noPart, Vm.call, callV, hand, back, RV.ev, bcall, biLen, smeth, isiE, fldX, raiseX, R.bind, R.thn, R.of, EV.peek, EV.frz, frzs, peeks, SD.look, D.tru, fmtE, joinF, line, w1, q2, hd2]
    · cases r with
      | non => simp [Vm.run, slotsOf, outsOf, Vm.seq, retS, retN, Vm.next, exprS, Vm.asg, asgV, pat, parX, tgN, tgNil, tgCons, tgT, Vm.var, cst, Vm.bin, bop, Vm.two, Vm.cmp, cop, deq_str, deq_int, Vm.one, Vm.neg, notE, Vm.chain, andE, orE, ifx, ifS, Vm.tst, tstB, tAnd, tOr, tNot, nilA, consA, tupE, lstE, Vm.idx, ixd, Vm.slc, slcd, Vm.part, noPart, Vm.call, callV, hand, back, RV.ev, bcall, biLen, smeth, isiE, fldX, raiseX, R.bind, R.thn, R.of, EV.peek, EV.frz, frzs, peeks, SD.look, D.tru, fmtE, joinF, line, w1, q2, hd2, dis, e2, isLim]
      | bl j => cases h1; simp [Vm.run, slotsOf, outsOf, Vm.seq, retS, retN, Vm.next, exprS, Vm.asg, asgV, pat, parX, tgN, tgNil, tgCons, tgT, Vm.var, cst, Vm.bin, bop, Vm.two, Vm.cmp, cop, deq_str, deq_int, Vm.one, Vm.neg, notE, Vm.chain, andE, orE, ifx, ifS, Vm.tst, tstB, tAnd, tOr, tNot, nilA, consA, tupE, lstE, Vm.idx, ixd, Vm.slc, slcd, Vm.part, noPart, Vm.call, callV, hand, back, RV.ev, bcall, biLen, smeth, isiE, fldX, raiseX, R.bind, R.thn, R.of, EV.peek, EV.frz, frzs, peeks, SD.look, D.tru, fmtE, joinF, line, w1, q2, hd2, dis, e2, e1, isLim]
      | str j => cases h1; simp [Vm.run, slotsOf, outsOf, Vm.seq, retS, retN, Vm.next, exprS, Vm.asg, asgV, pat, parX, tgN, tgNil, tgCons, tgT, Vm.var, cst, Vm.bin, bop, Vm.two, Vm.cmp, cop, deq_str, deq_int, Vm.one, Vm.neg, notE, Vm.chain, andE, orE, ifx, ifS, Vm.tst, tstB, tAnd, tOr, tNot, nilA, consA, tupE, lstE, Vm.idx, ixd, Vm.slc, slcd, Vm.part, noPart, Vm.call, callV, hand, back, RV.ev, bcall, biLen, smeth, isiE, fldX, raiseX, R.bind, R.thn, R.of, EV.peek, EV.frz, frzs, peeks, SD.look, D.tru, fmtE, joinF, line, w1, q2, hd2, dis, e2, e1, isLim]
      | int j =>
        cases h1
        by_cases h1 : 1 ≤ j
        · by_cases h2 : j ≤ 6 <;> simp [Vm.run, slotsOf, outsOf, Vm.seq, retS, retN, Vm.next, exprS, Vm.asg, asgV, pat, parX, tgN, tgNil, tgCons, tgT, Vm.var, cst, Vm.bin, bop, Vm.two, Vm.cmp, cop, deq_str, deq_int, Vm.one, Vm.neg, notE, Vm.chain, andE, orE, ifx, ifS, Vm.tst, tstB, tAnd, tOr, tNot, nilA, consA, tupE, lstE, Vm.idx, ixd, Vm.slc, slcd, Vm.part, noPart, Vm.call, callV, hand, back, RV.ev, bcall, biLen, smeth, isiE, fldX, raiseX, R.bind, R.thn, R.of, EV.peek, EV.frz, frzs, peeks, SD.look, D.tru, fmtE, joinF, line, w1, q2, hd2, dis, e2, e1, isLim, h1, h2]
        · simp [Vm.run, slotsOf, outsOf, Vm.seq, retS, retN, Vm.next, exprS, Vm.asg, asgV, pat, parX, tgN, tgNil, tgCons, tgT, Vm.var, cst, Vm.bin, bop, Vm.two, Vm.cmp, cop, deq_str, deq_int, Vm.one, Vm.neg, notE, Vm.chain, andE, orE, ifx, ifS, Vm.tst, tstB, tAnd, tOr, tNot, nilA, consA, tupE, lstE, Vm.idx, ixd, Vm.slc, slcd, Vm.part, noPart, Vm.call, callV, hand, back, RV.ev, bcall, biLen, smeth, isiE, fldX, raiseX, R.bind, R.thn, R.of, EV.peek, EV.frz, frzs, peeks, SD.look, D.tru, fmtE, joinF, line, w1, q2, hd2, dis, e2, e1, isLim, h1]
      | _ => cases fl
theorem e_L_is_step {w h w2 h2 : List Nat} {r r2 : Vm.D} (hw : OkZ w) (hh : OkZ h) (hl : OkL r) (e : w = w2 ∧ r = r2 ∧ h = h2) : F_L_is_step [.val (S3 w r h), .val (S3 w2 r2 h2)] = .ret (.val (.bl true)) [.non, .non] := by
  obtain ⟨rfl, rfl, rfl⟩ := e
  unfold F_L_is_step m_L_is_step
  have pr : OkR r := by
    rcases hl with rfl | ⟨i, rfl, _⟩
    · exact .non
    · exact .int i
  have p1 : D.pl 50 (S3 w r h) = true := by
    show (D.pl 49 (.str w) && (D.pl 49 r && (D.pl 49 (.str h) && true))) = true
    rw [hw.pl, hh.pl, pr.pl]
    rfl
  have ev : D.eqv (S3 w r h) (S3 w r h) = true := by
    rcases hl with rfl | ⟨i, rfl, _⟩ <;> simp [D.eqv, D.eqvs]
  have q1 : deq (S3 w r h) (S3 w r h) = some true := by
    rw [deq_pl p1 p1 (fun i z => nomatch z) (fun i z => nomatch z), ev]
  rcases hl with rfl | ⟨i, rfl, _⟩
  · simp [Vm.run, slotsOf, outsOf, Vm.seq, retS, retN, Vm.next, exprS, Vm.asg, asgV, pat, parX, tgN, tgNil, tgCons, tgT, Vm.var, cst, Vm.bin, bop, Vm.two, Vm.cmp, cop, deq_str, deq_int, Vm.one, Vm.neg, notE, Vm.chain, andE, orE, ifx, ifS, Vm.tst, tstB, tAnd, tOr, tNot, nilA, consA, tupE, lstE, Vm.idx, ixd, Vm.slc, slcd, Vm.part, noPart, Vm.call, callV, hand, back, RV.ev, bcall, biLen, smeth, isiE, fldX, raiseX, R.bind, R.thn, R.of, EV.peek, EV.frz, frzs, peeks, SD.look, D.tru, fmtE, joinF, line, isiD, D.tn, isiT, tyB, bTys, atI, ixN, dis, q1]
  · have e1 := e_whole (.int i) _ rfl rfl
    simp [Vm.run, slotsOf, outsOf, Vm.seq, retS, retN, Vm.next, exprS, Vm.asg, asgV, pat, parX, tgN, tgNil, tgCons, tgT, Vm.var, cst, Vm.bin, bop, Vm.two, Vm.cmp, cop, deq_str, deq_int, Vm.one, Vm.neg, notE, Vm.chain, andE, orE, ifx, ifS, Vm.tst, tstB, tAnd, tOr, tNot, nilA, consA, tupE, lstE, Vm.idx, ixd, Vm.slc, slcd, Vm.part, noPart, Vm.call, callV, hand, back, RV.ev, bcall, biLen, smeth, isiE, fldX, raiseX, R.bind, R.thn, R.of, EV.peek, EV.frz, frzs, peeks, SD.look, D.tru, fmtE, joinF, line, isiD, D.tn, isiT, tyB, bTys, atI, ixN, dis, q1, e1]
/-! ### making steps -/
theorem e_L_made {w h : List Nat} {r : Vm.D} (hw : OkZ w) (hh : OkZ h) (hr : OkR r) : F_L_made [.val (.str w), .val r, .val (.str h)] = .ret (.val (.bl true)) [.non, .non, .non] := by
  unfold F_L_made m_L_made
  have e1 := e_L_valid (w := w) (h := h) hr
  have e2 := e_fs hw hh hr
  cases s : isStep w r h with
  | true =>
    rw [s] at e1 e2
    rw [if_pos rfl] at e2
    have e3 := e_L_is_step hw hh (lim_OkL (step_lim s)) ⟨rfl, rfl, rfl⟩
    simp [Vm.run, slotsOf, outsOf, Vm.seq, retS, retN, Vm.next, exprS, Vm.asg, asgV, pat, parX, tgN, tgNil, tgCons, tgT, Vm.var, cst, Vm.bin, bop, Vm.two, Vm.cmp, cop, deq_str, deq_int, Vm.one, Vm.neg, notE, Vm.chain, andE, orE, ifx, ifS, Vm.tst, tstB, tAnd, tOr, tNot, nilA, consA, tupE, lstE, Vm.idx, ixd, Vm.slc, slcd, Vm.part, noPart, Vm.call, callV, hand, back, RV.ev, bcall, biLen, smeth, isiE, fldX, raiseX, R.bind, R.thn, R.of, EV.peek, EV.frz, frzs, peeks, SD.look, D.tru, fmtE, joinF, line, tryX, e1, e2, e3]
  | false =>
    rw [s] at e1 e2
    rw [if_neg Bool.false_ne_true] at e2
    have e3 := e_whole (.int 0) _ rfl rfl
    have k1 : cat_BadStep 2 = some true := rfl
    have k2 : isiC kt 2 (.cls 4) = some true := rfl
    have k3 : isiC kt 2 (.ty "ValueError") = some true := by decide +kernel
    have k4 : isiC kt 2 (.cls 1) = some false := rfl
    have k5 : askOk ask ⟨2, [(0, .int 0)]⟩ = true := by decide +kernel
    simp [Vm.run, slotsOf, outsOf, Vm.seq, retS, retN, Vm.next, exprS, Vm.asg, asgV, pat, parX, tgN, tgNil, tgCons, tgT, Vm.var, cst, Vm.bin, bop, Vm.two, Vm.cmp, cop, deq_str, deq_int, Vm.one, Vm.neg, notE, Vm.chain, andE, orE, ifx, ifS, Vm.tst, tstB, tAnd, tOr, tNot, nilA, consA, tupE, lstE, Vm.idx, ixd, Vm.slc, slcd, Vm.part, noPart, Vm.call, callV, hand, back, RV.ev, bcall, biLen, smeth, isiE, fldX, raiseX, R.bind, R.thn, R.of, EV.peek, EV.frz, frzs, peeks, SD.look, D.tru, fmtE, joinF, line, tryX, e1, e2, e3, k1, k2, k3, k4, k5, noO, noX, endX, dropX, S.map, List.lookup]
theorem drop_only {w h : List Nat} {r : Vm.D} (q : isStep w r h = true) : isStep w .non [45] = true ∧ isStep w r [45] = true ∧ isStep w .non h = true := by
  unfold isStep at q ⊢
  rcases Bool.or_eq_true_iff.mp q with q | q
  · obtain ⟨q1, q2⟩ := Bool.and_eq_true_iff.mp q
    obtain ⟨q2, q3⟩ := Bool.and_eq_true_iff.mp q2
    have e1 := of_decide_eq_true q1
    have e2 := eqv_non q2
    have e3 := of_decide_eq_true q3
    subst e1 e2 e3
    decide
  · obtain ⟨q1, q2⟩ := Bool.and_eq_true_iff.mp q
    obtain ⟨q2, q3⟩ := Bool.and_eq_true_iff.mp q2
    have m : mt [45] = true := by decide
    have l : isLim .non = true := rfl
    rw [q1, q2, q3, m, l]
    simp
theorem e_L_short {w h : List Nat} {r : Vm.D} (hw : OkZ w) (hh : OkZ h) (hr : OkR r) : F_L_short [.val (.str w), .val r, .val (.str h)] = .ret (.val (.bl true)) [.non, .non, .non] := by
  unfold F_L_short m_L_short
  have e1 := e_L_valid (w := w) (h := h) hr
  have h0 : OkZ [45] := ⟨by decide, by decide⟩
  cases s : isStep w r h with
  | false =>
    rw [s] at e1
    simp [Vm.run, slotsOf, outsOf, Vm.seq, retS, retN, Vm.next, exprS, Vm.asg, asgV, pat, parX, tgN, tgNil, tgCons, tgT, Vm.var, cst, Vm.bin, bop, Vm.two, Vm.cmp, cop, deq_str, deq_int, Vm.one, Vm.neg, notE, Vm.chain, andE, orE, ifx, ifS, Vm.tst, tstB, tAnd, tOr, tNot, nilA, consA, tupE, lstE, Vm.idx, ixd, Vm.slc, slcd, Vm.part, noPart, Vm.call, callV, hand, back, RV.ev, bcall, biLen, smeth, isiE, fldX, raiseX, R.bind, R.thn, R.of, EV.peek, EV.frz, frzs, peeks, SD.look, D.tru, fmtE, joinF, line, e1]
  | true =>
    rw [s] at e1
    obtain ⟨s1, s2, s3⟩ := drop_only s
    have a1 := e_fill_step hw h0 .non
    rw [s1, if_pos rfl] at a1
    have a2 := e_fsr hw hr
    rw [s2, if_pos rfl] at a2
    have a3 := e_fsh hw hh
    rw [s3, if_pos rfl] at a3
    have a4 := e_fshr hw hh hr
    rw [s, if_pos rfl] at a4
    have b1 := e_L_is_step hw h0 (.inl rfl) ⟨rfl, rfl, rfl⟩
    have b2 := e_L_is_step hw h0 (lim_OkL (step_lim s)) ⟨rfl, rfl, rfl⟩
    have b3 := e_L_is_step hw hh (.inl rfl) ⟨rfl, rfl, rfl⟩
    have b4 := e_L_is_step hw hh (lim_OkL (step_lim s)) ⟨rfl, rfl, rfl⟩
    simp [Vm.run, slotsOf, outsOf, Vm.seq, retS, retN, Vm.next, exprS, Vm.asg, asgV, pat, parX, tgN, tgNil, tgCons, tgT, Vm.var, cst, Vm.bin, bop, Vm.two, Vm.cmp, cop, deq_str, deq_int, Vm.one, Vm.neg, notE, Vm.chain, andE, orE, ifx, ifS, Vm.tst, tstB, tAnd, tOr, tNot, nilA, consA, tupE, lstE, Vm.idx, ixd, Vm.slc, slcd, Vm.part, noPart, Vm.call, callV, hand, back, RV.ev, bcall, biLen, smeth, isiE, fldX, raiseX, R.bind, R.thn, R.of, EV.peek, EV.frz, frzs, peeks, SD.look, D.tru, fmtE, joinF, line, e1, a1, a2, a3, a4, b1, b2, b3, b4, append, ownL, atI, ixN]
end K19

set_option Elab.async false
set_option linter.all false
set_option maxRecDepth 100000
set_option maxHeartbeats 4000000
namespace K19
open PySem Vm
/-! ### splitting -/
theorem OkZ.app {a b : List Nat} (h : OkZ (a ++ b)) : OkZ a ∧ OkZ b := by
  obtain ⟨h1, h2⟩ := h
  rw [List.length_append] at h1
  exact ⟨⟨by omega, fun c hc => h2 c (List.mem_append_left _ hc)⟩, ⟨by omega, fun c hc => h2 c (List.mem_append_right _ hc)⟩⟩
theorem pre32 (c : Nat) (r : List Nat) : TL.pre [32] (c :: r) = decide (c = 32) := by
  show (List.take 1 (c :: r) == [32]) = _
  rw [List.take_succ_cons, List.take_zero]
  by_cases h : c = 32
  · subst h; rfl
  · rw [decide_eq_false h, beq_eq_false_iff_ne]
    intro q
    exact h (List.cons.inj q).1
theorem spl_join : ∀ (l acc : List Nat), TL.spl [32] 0 acc l ≠ [] ∧ TL.joinL [32] (TL.spl [32] 0 acc l) = acc ++ l
  | [], acc => ⟨by rw [TL.spl_nil]; simp, by rw [TL.spl_nil]; simp [TL.joinL]⟩
  | c :: r, acc => by
    by_cases h : c = 32
    · subst h
      rw [TL.spl_hit (by rw [pre32]; rfl)]
      refine ⟨by simp, ?_⟩
      obtain ⟨h1, h2⟩ := spl_join r []
      show TL.joinL [32] (acc :: TL.spl [32] 0 [] r) = _
      generalize TL.spl [32] 0 [] r = X at h1 h2
      cases X with
      | nil => exact absurd rfl h1
      | cons x xs =>
        show acc ++ ([32] ++ TL.joinL [32] (x :: xs)) = _
        rw [h2]
        rfl
    · rw [TL.spl_miss (by rw [pre32]; exact decide_eq_false h)]
      obtain ⟨h1, h2⟩ := spl_join r (acc ++ [c])
      exact ⟨h1, by rw [h2, List.append_assoc]; rfl⟩
theorem spl_ok : ∀ (l acc : List Nat), OkZ (acc ++ l) → ∀ w ∈ TL.spl [32] 0 acc l, OkZ w
  | [], acc, h, w, hw => by
    rw [TL.spl_nil] at hw
    rw [List.mem_singleton.mp hw]
    exact h.app.1
  | c :: r, acc, h, w, hw => by
    by_cases q : c = 32
    · subst q
      rw [TL.spl_hit (by rw [pre32]; rfl)] at hw
      rcases List.mem_cons.mp hw with rfl | hw
      · exact h.app.1
      · have : OkZ (([32] : List Nat) ++ r) := h.app.2
        exact spl_ok r [] this.app.2 w hw
    · rw [TL.spl_miss (by rw [pre32]; exact decide_eq_false q)] at hw
      exact spl_ok r (acc ++ [c]) (by rw [List.append_assoc]; exact h) w hw
abbrev wds (t : List Nat) : List (List Nat) := TL.spl [32] 0 [] t
theorem wds_cons (t : List Nat) : ∃ w r, wds t = w :: r := by
  have := (spl_join t []).1
  cases h : wds t with
  | nil => exact absurd h this
  | cons w r => exact ⟨w, r, rfl⟩
theorem e_split {t : List Nat} (h : OkZ t) : biSplit t [.str [32]] = some (.fr (.lst ((wds t).map .str))) := by
  have := h.1
  exact if_pos (by simp [line]; omega)
/-! ### the program's reading -/
def rowsP (ws : List (List Nat)) : Vm.D := match wb ws wRows with
  | none => .non
  | some [] => .str []
  | some (c :: r) => rI (c :: r)
def haltP (ws : List (List Nat)) : List Nat := match wb ws wHalt with
  | none => [45]
  | some [] => [45]
  | some (c :: r) => c :: r
theorem wb_mem {n z : List Nat} : ∀ {ws : List (List Nat)}, wb ws n = some z → z ∈ ws
  | a :: b :: r, h => by
    unfold wb at h
    by_cases q : a = n
    · rw [if_pos q] at h
      cases h
      simp
    · rw [if_neg q] at h
      exact List.mem_cons_of_mem _ (wb_mem h)
  | [], h => nomatch h
  | [_], h => nomatch h
theorem OkR.rI (z : List Nat) : OkR (K19.rI z) := by
  unfold K19.rI
  split
  · split
    · exact .int _
    · exact .non
  · split
    · exact .int _
    · exact .non
  · exact .non
theorem rowsP_ok {ws : List (List Nat)} : OkR (rowsP ws) := by
  unfold rowsP
  split
  · exact .non
  · exact .str ⟨by decide, by decide⟩
  · exact .rI _
theorem haltP_ok {ws : List (List Nat)} (h : ∀ w ∈ ws, OkZ w) : OkZ (haltP ws) := by
  unfold haltP
  split
  · exact ⟨by decide, by decide⟩
  · exact ⟨by decide, by decide⟩
  · exact h _ (wb_mem (by assumption))
def acc (t : List Nat) : Bool := isStep ((wds t).headD []) (rowsP (wds t)) (haltP (wds t)) && decide (ft ((wds t).headD []) (rowsP (wds t)) (haltP (wds t)) = t)
theorem e_read_fill {t : List Nat} (ht : OkZ t) : F_read_fill [.val (.str t)] = if acc t = true then .ret (.val (S3 ((wds t).headD []) (rowsP (wds t)) (haltP (wds t)))) [.non] else .exc ⟨1, [(0, .int 0)]⟩ [.non] := by
  unfold F_read_fill m_read_fill
  have hs := e_split ht
  obtain ⟨w, rs, hw⟩ := wds_cons t
  have ok : ∀ x ∈ wds t, OkZ x := spl_ok t [] ht
  have b1 := e_word_behind (wds t) [114, 111, 119, 115]
  have b2 := e_word_behind (wds t) [104, 97, 108, 116]
  have o1 : OkZ w := ok w (by rw [hw]; simp)
  have o2 : OkR (rowsP (wds t)) := rowsP_ok
  have o3 : OkZ (haltP (wds t)) := haltP_ok ok
  have hd : (wds t).headD [] = w := by rw [hw]; rfl
  have at0 : atI ((wds t).map Vm.D.str) 0 = some (.str w) := by
    rw [hw]
    unfold atI ixN
    simp
  have st := e_step o1 o3 o2
  unfold acc
  rw [hd]
  have rd : ∀ z, wb (wds t) [114, 111, 119, 115] = some z → F_read_integer [.val (.str z), .val (.int 1)] = .ret (.val (rI z)) [.non, .non] := fun z h => e_read_integer (ok z (wb_mem h))
  have hl : ∀ z, wb (wds t) [104, 97, 108, 116] = some z → z.length ≤ 16777216 := fun z h => (ok z (wb_mem h)).len
  have rl : ∀ z, wb (wds t) [114, 111, 119, 115] = some z → z.length ≤ 16777216 := fun z h => (ok z (wb_mem h)).len
  have tx : isStep w (rowsP (wds t)) (haltP (wds t)) = true → F_fill_text [.val (S3 w (rowsP (wds t)) (haltP (wds t)))] = .ret (.val (.str (ft w (rowsP (wds t)) (haltP (wds t))))) [.non] := fun h => e_fill_text o1 o3 (lim_OkL (step_lim h))
  clear o2 o3 hw
  revert st tx
  unfold rowsP haltP wRows wHalt
  generalize wds t = ws at *
  cases p1 : wb ws [114, 111, 119, 115] with
  | none =>
    cases p2 : wb ws [104, 97, 108, 116] with
    | none =>
      intro st tx
      rw [p1] at b1; rw [p2] at b2
      simp only at st tx ⊢
      cases q : isStep w .non [45] with
      | false => rw [q] at st; simp [Vm.run, slotsOf, outsOf, Vm.seq, retS, retN, Vm.next, exprS, Vm.asg, asgV, pat, parX, tgN, tgNil, tgCons, tgT, Vm.var, cst, Vm.bin, bop, Vm.two, Vm.cmp, cop, deq_str, deq_int, Vm.one, Vm.neg, notE, Vm.chain, andE, orE, ifx, ifS, Vm.tst, tstB, tAnd, tOr, tNot, nilA, consA, tupE, lstE, Vm.idx, ixd, Vm.slc, slcd, Vm.part, noPart, Vm.call, callV, hand, back, RV.ev, bcall, biLen, smeth, isiE, fldX, raiseX, R.bind, R.thn, R.of, EV.peek, EV.frz, frzs, peeks, SD.look, D.tru, fmtE, joinF, line, hs, b1, b2, oD, at0, st, parX, tgN]
      | true => rw [q] at st; have tx := tx q; by_cases e : ft w .non [45] = t <;> simp [Vm.run, slotsOf, outsOf, Vm.seq, retS, retN, Vm.next, exprS, Vm.asg, asgV, pat, parX, tgN, tgNil, tgCons, tgT, Vm.var, cst, Vm.bin, bop, Vm.two, Vm.cmp, cop, deq_str, deq_int, Vm.one, Vm.neg, notE, Vm.chain, andE, orE, ifx, ifS, Vm.tst, tstB, tAnd, tOr, tNot, nilA, consA, tupE, lstE, Vm.idx, ixd, Vm.slc, slcd, Vm.part, noPart, Vm.call, callV, hand, back, RV.ev, bcall, biLen, smeth, isiE, fldX, raiseX, R.bind, R.thn, R.of, EV.peek, EV.frz, frzs, peeks, SD.look, D.tru, fmtE, joinF, line, hs, b1, b2, oD, at0, st, parX, tgN, tx, e]
    | some z2 =>
      have l2 := hl z2 p2
      cases z2 with
      | nil =>
        intro st tx
        rw [p1] at b1; rw [p2] at b2
        simp only at st tx ⊢
        cases q : isStep w .non [45] with
        | false => rw [q] at st; simp [Vm.run, slotsOf, outsOf, Vm.seq, retS, retN, Vm.next, exprS, Vm.asg, asgV, pat, parX, tgN, tgNil, tgCons, tgT, Vm.var, cst, Vm.bin, bop, Vm.two, Vm.cmp, cop, deq_str, deq_int, Vm.one, Vm.neg, notE, Vm.chain, andE, orE, ifx, ifS, Vm.tst, tstB, tAnd, tOr, tNot, nilA, consA, tupE, lstE, Vm.idx, ixd, Vm.slc, slcd, Vm.part, noPart, Vm.call, callV, hand, back, RV.ev, bcall, biLen, smeth, isiE, fldX, raiseX, R.bind, R.thn, R.of, EV.peek, EV.frz, frzs, peeks, SD.look, D.tru, fmtE, joinF, line, hs, b1, b2, oD, at0, st, parX, tgN]
        | true => rw [q] at st; have tx := tx q; by_cases e : ft w .non [45] = t <;> simp [Vm.run, slotsOf, outsOf, Vm.seq, retS, retN, Vm.next, exprS, Vm.asg, asgV, pat, parX, tgN, tgNil, tgCons, tgT, Vm.var, cst, Vm.bin, bop, Vm.two, Vm.cmp, cop, deq_str, deq_int, Vm.one, Vm.neg, notE, Vm.chain, andE, orE, ifx, ifS, Vm.tst, tstB, tAnd, tOr, tNot, nilA, consA, tupE, lstE, Vm.idx, ixd, Vm.slc, slcd, Vm.part, noPart, Vm.call, callV, hand, back, RV.ev, bcall, biLen, smeth, isiE, fldX, raiseX, R.bind, R.thn, R.of, EV.peek, EV.frz, frzs, peeks, SD.look, D.tru, fmtE, joinF, line, hs, b1, b2, oD, at0, st, parX, tgN, tx, e]
      | cons d s =>
        have l2 : s.length + 1 ≤ 16777216 := l2
        intro st tx
        rw [p1] at b1; rw [p2] at b2
        simp only at st tx ⊢
        cases q : isStep w .non (d :: s) with
        | false => rw [q] at st; simp [Vm.run, slotsOf, outsOf, Vm.seq, retS, retN, Vm.next, exprS, Vm.asg, asgV, pat, parX, tgN, tgNil, tgCons, tgT, Vm.var, cst, Vm.bin, bop, Vm.two, Vm.cmp, cop, deq_str, deq_int, Vm.one, Vm.neg, notE, Vm.chain, andE, orE, ifx, ifS, Vm.tst, tstB, tAnd, tOr, tNot, nilA, consA, tupE, lstE, Vm.idx, ixd, Vm.slc, slcd, Vm.part, noPart, Vm.call, callV, hand, back, RV.ev, bcall, biLen, smeth, isiE, fldX, raiseX, R.bind, R.thn, R.of, EV.peek, EV.frz, frzs, peeks, SD.look, D.tru, fmtE, joinF, line, hs, b1, b2, oD, at0, st, parX, tgN, l2]
        | true => rw [q] at st; have tx := tx q; by_cases e : ft w .non (d :: s) = t <;> simp [Vm.run, slotsOf, outsOf, Vm.seq, retS, retN, Vm.next, exprS, Vm.asg, asgV, pat, parX, tgN, tgNil, tgCons, tgT, Vm.var, cst, Vm.bin, bop, Vm.two, Vm.cmp, cop, deq_str, deq_int, Vm.one, Vm.neg, notE, Vm.chain, andE, orE, ifx, ifS, Vm.tst, tstB, tAnd, tOr, tNot, nilA, consA, tupE, lstE, Vm.idx, ixd, Vm.slc, slcd, Vm.part, noPart, Vm.call, callV, hand, back, RV.ev, bcall, biLen, smeth, isiE, fldX, raiseX, R.bind, R.thn, R.of, EV.peek, EV.frz, frzs, peeks, SD.look, D.tru, fmtE, joinF, line, hs, b1, b2, oD, at0, st, parX, tgN, tx, e, l2]
  | some z1 =>
    have r1 := rd z1 p1
    have l1 := rl z1 p1
    cases z1 with
    | nil =>
      cases p2 : wb ws [104, 97, 108, 116] with
      | none =>
        intro st tx
        rw [p1] at b1; rw [p2] at b2
        simp only at st tx ⊢
        cases q : isStep w (.str []) [45] with
        | false => rw [q] at st; simp [Vm.run, slotsOf, outsOf, Vm.seq, retS, retN, Vm.next, exprS, Vm.asg, asgV, pat, parX, tgN, tgNil, tgCons, tgT, Vm.var, cst, Vm.bin, bop, Vm.two, Vm.cmp, cop, deq_str, deq_int, Vm.one, Vm.neg, notE, Vm.chain, andE, orE, ifx, ifS, Vm.tst, tstB, tAnd, tOr, tNot, nilA, consA, tupE, lstE, Vm.idx, ixd, Vm.slc, slcd, Vm.part, noPart, Vm.call, callV, hand, back, RV.ev, bcall, biLen, smeth, isiE, fldX, raiseX, R.bind, R.thn, R.of, EV.peek, EV.frz, frzs, peeks, SD.look, D.tru, fmtE, joinF, line, hs, b1, b2, oD, at0, st, parX, tgN]
        | true => rw [q] at st; have tx := tx q; by_cases e : ft w (.str []) [45] = t <;> simp [Vm.run, slotsOf, outsOf, Vm.seq, retS, retN, Vm.next, exprS, Vm.asg, asgV, pat, parX, tgN, tgNil, tgCons, tgT, Vm.var, cst, Vm.bin, bop, Vm.two, Vm.cmp, cop, deq_str, deq_int, Vm.one, Vm.neg, notE, Vm.chain, andE, orE, ifx, ifS, Vm.tst, tstB, tAnd, tOr, tNot, nilA, consA, tupE, lstE, Vm.idx, ixd, Vm.slc, slcd, Vm.part, noPart, Vm.call, callV, hand, back, RV.ev, bcall, biLen, smeth, isiE, fldX, raiseX, R.bind, R.thn, R.of, EV.peek, EV.frz, frzs, peeks, SD.look, D.tru, fmtE, joinF, line, hs, b1, b2, oD, at0, st, parX, tgN, tx, e]
      | some z2 =>
        have l2 := hl z2 p2
        cases z2 with
        | nil =>
          intro st tx
          rw [p1] at b1; rw [p2] at b2
          simp only at st tx ⊢
          cases q : isStep w (.str []) [45] with
          | false => rw [q] at st; simp [Vm.run, slotsOf, outsOf, Vm.seq, retS, retN, Vm.next, exprS, Vm.asg, asgV, pat, parX, tgN, tgNil, tgCons, tgT, Vm.var, cst, Vm.bin, bop, Vm.two, Vm.cmp, cop, deq_str, deq_int, Vm.one, Vm.neg, notE, Vm.chain, andE, orE, ifx, ifS, Vm.tst, tstB, tAnd, tOr, tNot, nilA, consA, tupE, lstE, Vm.idx, ixd, Vm.slc, slcd, Vm.part, noPart, Vm.call, callV, hand, back, RV.ev, bcall, biLen, smeth, isiE, fldX, raiseX, R.bind, R.thn, R.of, EV.peek, EV.frz, frzs, peeks, SD.look, D.tru, fmtE, joinF, line, hs, b1, b2, oD, at0, st, parX, tgN]
          | true => rw [q] at st; have tx := tx q; by_cases e : ft w (.str []) [45] = t <;> simp [Vm.run, slotsOf, outsOf, Vm.seq, retS, retN, Vm.next, exprS, Vm.asg, asgV, pat, parX, tgN, tgNil, tgCons, tgT, Vm.var, cst, Vm.bin, bop, Vm.two, Vm.cmp, cop, deq_str, deq_int, Vm.one, Vm.neg, notE, Vm.chain, andE, orE, ifx, ifS, Vm.tst, tstB, tAnd, tOr, tNot, nilA, consA, tupE, lstE, Vm.idx, ixd, Vm.slc, slcd, Vm.part, noPart, Vm.call, callV, hand, back, RV.ev, bcall, biLen, smeth, isiE, fldX, raiseX, R.bind, R.thn, R.of, EV.peek, EV.frz, frzs, peeks, SD.look, D.tru, fmtE, joinF, line, hs, b1, b2, oD, at0, st, parX, tgN, tx, e]
        | cons d s =>
          have l2 : s.length + 1 ≤ 16777216 := l2
          intro st tx
          rw [p1] at b1; rw [p2] at b2
          simp only at st tx ⊢
          cases q : isStep w (.str []) (d :: s) with
          | false => rw [q] at st; simp [Vm.run, slotsOf, outsOf, Vm.seq, retS, retN, Vm.next, exprS, Vm.asg, asgV, pat, parX, tgN, tgNil, tgCons, tgT, Vm.var, cst, Vm.bin, bop, Vm.two, Vm.cmp, cop, deq_str, deq_int, Vm.one, Vm.neg, notE, Vm.chain, andE, orE, ifx, ifS, Vm.tst, tstB, tAnd, tOr, tNot, nilA, consA, tupE, lstE, Vm.idx, ixd, Vm.slc, slcd, Vm.part, noPart, Vm.call, callV, hand, back, RV.ev, bcall, biLen, smeth, isiE, fldX, raiseX, R.bind, R.thn, R.of, EV.peek, EV.frz, frzs, peeks, SD.look, D.tru, fmtE, joinF, line, hs, b1, b2, oD, at0, st, parX, tgN, l2]
          | true => rw [q] at st; have tx := tx q; by_cases e : ft w (.str []) (d :: s) = t <;> simp [Vm.run, slotsOf, outsOf, Vm.seq, retS, retN, Vm.next, exprS, Vm.asg, asgV, pat, parX, tgN, tgNil, tgCons, tgT, Vm.var, cst, Vm.bin, bop, Vm.two, Vm.cmp, cop, deq_str, deq_int, Vm.one, Vm.neg, notE, Vm.chain, andE, orE, ifx, ifS, Vm.tst, tstB, tAnd, tOr, tNot, nilA, consA, tupE, lstE, Vm.idx, ixd, Vm.slc, slcd, Vm.part, noPart, Vm.call, callV, hand, back, RV.ev, bcall, biLen, smeth, isiE, fldX, raiseX, R.bind, R.thn, R.of, EV.peek, EV.frz, frzs, peeks, SD.look, D.tru, fmtE, joinF, line, hs, b1, b2, oD, at0, st, parX, tgN, tx, e, l2]
    | cons c r =>
      have l1 : r.length + 1 ≤ 16777216 := l1
      cases p2 : wb ws [104, 97, 108, 116] with
      | none =>
        intro st tx
        rw [p1] at b1; rw [p2] at b2
        simp only at st tx ⊢
        cases q : isStep w (rI (c :: r)) [45] with
        | false => rw [q] at st; simp [Vm.run, slotsOf, outsOf, Vm.seq, retS, retN, Vm.next, exprS, Vm.asg, asgV, pat, parX, tgN, tgNil, tgCons, tgT, Vm.var, cst, Vm.bin, bop, Vm.two, Vm.cmp, cop, deq_str, deq_int, Vm.one, Vm.neg, notE, Vm.chain, andE, orE, ifx, ifS, Vm.tst, tstB, tAnd, tOr, tNot, nilA, consA, tupE, lstE, Vm.idx, ixd, Vm.slc, slcd, Vm.part, noPart, Vm.call, callV, hand, back, RV.ev, bcall, biLen, smeth, isiE, fldX, raiseX, R.bind, R.thn, R.of, EV.peek, EV.frz, frzs, peeks, SD.look, D.tru, fmtE, joinF, line, hs, b1, b2, oD, at0, st, parX, tgN, l1, r1]
        | true => rw [q] at st; have tx := tx q; by_cases e : ft w (rI (c :: r)) [45] = t <;> simp [Vm.run, slotsOf, outsOf, Vm.seq, retS, retN, Vm.next, exprS, Vm.asg, asgV, pat, parX, tgN, tgNil, tgCons, tgT, Vm.var, cst, Vm.bin, bop, Vm.two, Vm.cmp, cop, deq_str, deq_int, Vm.one, Vm.neg, notE, Vm.chain, andE, orE, ifx, ifS, Vm.tst, tstB, tAnd, tOr, tNot, nilA, consA, tupE, lstE, Vm.idx, ixd, Vm.slc, slcd, Vm.part, noPart, Vm.call, callV, hand, back, RV.ev, bcall, biLen, smeth, isiE, fldX, raiseX, R.bind, R.thn, R.of, EV.peek, EV.frz, frzs, peeks, SD.look, D.tru, fmtE, joinF, line, hs, b1, b2, oD, at0, st, parX, tgN, tx, e, l1, r1]
      | some z2 =>
        have l2 := hl z2 p2
        cases z2 with
        | nil =>
          intro st tx
          rw [p1] at b1; rw [p2] at b2
          simp only at st tx ⊢
          cases q : isStep w (rI (c :: r)) [45] with
          | false => rw [q] at st; simp [Vm.run, slotsOf, outsOf, Vm.seq, retS, retN, Vm.next, exprS, Vm.asg, asgV, pat, parX, tgN, tgNil, tgCons, tgT, Vm.var, cst, Vm.bin, bop, Vm.two, Vm.cmp, cop, deq_str, deq_int, Vm.one, Vm.neg, notE, Vm.chain, andE, orE, ifx, ifS, Vm.tst, tstB, tAnd, tOr, tNot, nilA, consA, tupE, lstE, Vm.idx, ixd, Vm.slc, slcd, Vm.part, noPart, Vm.call, callV, hand, back, RV.ev, bcall, biLen, smeth, isiE, fldX, raiseX, R.bind, R.thn, R.of, EV.peek, EV.frz, frzs, peeks, SD.look, D.tru, fmtE, joinF, line, hs, b1, b2, oD, at0, st, parX, tgN, l1, r1]
          | true => rw [q] at st; have tx := tx q; by_cases e : ft w (rI (c :: r)) [45] = t <;> simp [Vm.run, slotsOf, outsOf, Vm.seq, retS, retN, Vm.next, exprS, Vm.asg, asgV, pat, parX, tgN, tgNil, tgCons, tgT, Vm.var, cst, Vm.bin, bop, Vm.two, Vm.cmp, cop, deq_str, deq_int, Vm.one, Vm.neg, notE, Vm.chain, andE, orE, ifx, ifS, Vm.tst, tstB, tAnd, tOr, tNot, nilA, consA, tupE, lstE, Vm.idx, ixd, Vm.slc, slcd, Vm.part, noPart, Vm.call, callV, hand, back, RV.ev, bcall, biLen, smeth, isiE, fldX, raiseX, R.bind, R.thn, R.of, EV.peek, EV.frz, frzs, peeks, SD.look, D.tru, fmtE, joinF, line, hs, b1, b2, oD, at0, st, parX, tgN, tx, e, l1, r1]
        | cons d s =>
          have l2 : s.length + 1 ≤ 16777216 := l2
          intro st tx
          rw [p1] at b1; rw [p2] at b2
          simp only at st tx ⊢
          cases q : isStep w (rI (c :: r)) (d :: s) with
          | false => rw [q] at st; simp [Vm.run, slotsOf, outsOf, Vm.seq, retS, retN, Vm.next, exprS, Vm.asg, asgV, pat, parX, tgN, tgNil, tgCons, tgT, Vm.var, cst, Vm.bin, bop, Vm.two, Vm.cmp, cop, deq_str, deq_int, Vm.one, Vm.neg, notE, Vm.chain, andE, orE, ifx, ifS, Vm.tst, tstB, tAnd, tOr, tNot, nilA, consA, tupE, lstE, Vm.idx, ixd, Vm.slc, slcd, Vm.part, noPart, Vm.call, callV, hand, back, RV.ev, bcall, biLen, smeth, isiE, fldX, raiseX, R.bind, R.thn, R.of, EV.peek, EV.frz, frzs, peeks, SD.look, D.tru, fmtE, joinF, line, hs, b1, b2, oD, at0, st, parX, tgN, l1, r1, l2]
          | true => rw [q] at st; have tx := tx q; by_cases e : ft w (rI (c :: r)) (d :: s) = t <;> simp [Vm.run, slotsOf, outsOf, Vm.seq, retS, retN, Vm.next, exprS, Vm.asg, asgV, pat, parX, tgN, tgNil, tgCons, tgT, Vm.var, cst, Vm.bin, bop, Vm.two, Vm.cmp, cop, deq_str, deq_int, Vm.one, Vm.neg, notE, Vm.chain, andE, orE, ifx, ifS, Vm.tst, tstB, tAnd, tOr, tNot, nilA, consA, tupE, lstE, Vm.idx, ixd, Vm.slc, slcd, Vm.part, noPart, Vm.call, callV, hand, back, RV.ev, bcall, biLen, smeth, isiE, fldX, raiseX, R.bind, R.thn, R.of, EV.peek, EV.frz, frzs, peeks, SD.look, D.tru, fmtE, joinF, line, hs, b1, b2, oD, at0, st, parX, tgN, tx, e, l1, r1, l2]
end K19

set_option Elab.async false
set_option linter.all false
set_option maxRecDepth 100000
set_option maxHeartbeats 4000000
namespace K19
open PySem Vm
def digs : List (List Nat) := [[49], [50], [51], [52], [53], [54]]
def st1 : List (List Nat) → Nat × List (List Nat)
  | a :: b :: r => if a = wRows ∧ b ∈ digs then (b.headD 0 - 48, r) else (0, a :: b :: r)
  | l => (0, l)
def st2 : List (List Nat) → List Nat × List (List Nat)
  | a :: b :: r => if a = wHalt ∧ (b ≠ [45] ∧ lset b = true) then (b, r) else ([45], a :: b :: r)
  | l => ([45], l)
def toD : Nat → Vm.D
  | 0 => .non
  | n + 1 => .int ((n : Int) + 1)
def rd (ws : List (List Nat)) : Option (List Nat × Nat × List Nat) :=
  if ws = [wDrop] then some (wDrop, 0, [45])
  else if (st2 (st1 (ws.drop 1)).2).2 ≠ [] ∨ ws.headD [] ∉ ways then none
  else some (ws.headD [], (st1 (ws.drop 1)).1, (st2 (st1 (ws.drop 1)).2).1)
def rdD : Option (List Nat × Nat × List Nat) → Vm.D
  | none => .non
  | some (w, n, h) => S3 w (toD n) h
/-! ### lists of texts -/
theorem pls_str : ∀ {xs : List (List Nat)} (n : Nat), (∀ x ∈ xs, OkZ x) → D.pls n (xs.map .str) = true
  | [], n, _ => by unfold D.pls; rfl
  | x :: xs, n, h => by
    rw [List.map_cons]
    unfold D.pls
    rw [(h x List.mem_cons_self).pl, pls_str n fun y hy => h y (List.mem_cons_of_mem _ hy)]
    rfl
theorem eqvs_str : ∀ xs ys : List (List Nat), D.eqvs (xs.map .str) (ys.map .str) = decide (xs = ys)
  | [], [] => by simp [D.eqvs]
  | [], y :: ys => by simp [D.eqvs]
  | x :: xs, [] => by simp [D.eqvs]
  | x :: xs, y :: ys => by
    rw [List.map_cons, List.map_cons]
    simp only [D.eqvs, D.eqv, eqvs_str xs ys, beq_dec]
    simp
theorem deq_lst {xs ys : List (List Nat)} (hx : ∀ x ∈ xs, OkZ x) (hy : ∀ y ∈ ys, OkZ y) : deq (.lst (xs.map .str)) (.lst (ys.map .str)) = some (decide (xs = ys)) := by
  have p1 : D.pl 50 (.lst (xs.map .str)) = true := pls_str 49 hx
  have p2 : D.pl 50 (.lst (ys.map .str)) = true := pls_str 49 hy
  rw [deq_pl p1 p2 (fun i z => nomatch z) (fun i z => nomatch z)]
  show some (D.eqvs _ _) = _
  rw [eqvs_str]
def IF1 : Vm.Tx := (ifS (tAnd (tstB (cmp .eq (slc (var 4) noPart (part (cst (.int 1)))) (lstE (consA (cst (.str [114, 111, 119, 115])) nilA)))) (tAnd (tstB (cmp .gt (bcall biLen (consA (var 4) nilA)) (cst (.int 1)))) (tstB (cmp .inn (idx (var 4) (cst (.int 1))) (lstE (consA (cst (.str [49])) (consA (cst (.str [50])) (consA (cst (.str [51])) (consA (cst (.str [52])) (consA (cst (.str [53])) (consA (cst (.str [54])) nilA))))))))))) (seq (asg 2 (bcall biIntS (consA (idx (var 4) (cst (.int 1))) nilA))) (asg 4 (slc (var 4) (part (cst (.int 2))) noPart))) next)
def IF2 : Vm.Tx := (ifS (tAnd (tstB (cmp .eq (slc (var 4) noPart (part (cst (.int 1)))) (lstE (consA (cst (.str [104, 97, 108, 116])) nilA)))) (tAnd (tstB (cmp .gt (bcall biLen (consA (var 4) nilA)) (cst (.int 1)))) (tAnd (tstB (cmp .ne (idx (var 4) (cst (.int 1))) (cst (.str [45])))) (tst (call F_L_set [] [] (consA (idx (var 4) (cst (.int 1))) nilA)))))) (seq (asg 3 (idx (var 4) (cst (.int 1)))) (asg 4 (slc (var 4) (part (cst (.int 2))) noPart))) next)
theorem d_digs (b : List Nat) : din (.str b) (.lst [(.str [49]), (.str [50]), (.str [51]), (.str [52]), (.str [53]), (.str [54])]) = some (decide (b ∈ digs)) := by
  simp [din, D.flat, mem, digs, D.eqv, beq_dec, eq_comm]
def eqEV : Option EV → Vm.D → Bool
  | some (.val (.int i)), .int j => decide (i = j)
  | _, _ => false
theorem eqEV_ok {a : Option EV} {d : Vm.D} (h : eqEV a d = true) : a = some (.val d) := by
  unfold eqEV at h
  split at h
  · rw [of_decide_eq_true h]
  · cases h
theorem int_digs {b : List Nat} (h : b ∈ digs) : biIntS [.str b] = some (.val (toD (b.headD 0 - 48))) := by
  have : (digs.all fun b => eqEV (biIntS [.str b]) (toD (b.headD 0 - 48))) = true := by decide +kernel
  exact eqEV_ok (List.all_eq_true.mp this b h)
theorem ok1 {x : List Nat} (h : OkZ x) : ∀ y ∈ [x], OkZ y := fun y hy => by rw [List.mem_singleton.mp hy]; exact h
theorem e_IF1 {ws : List (List Nat)} (h : ∀ w ∈ ws, OkZ w) (s0 s1 : SD) (s3 : Vm.D) :
    IF1 [s0, s1, .sh .non, .sh s3, .ow false false (.lst (ws.map .str))] = .nx [s0, s1, .sh (toD (st1 ws).1), .sh s3, .ow false false (.lst ((st1 ws).2.map .str))] := by
  have k : ∀ y ∈ [wRows], OkZ y := ok1 ⟨by decide, by decide⟩
  unfold IF1
  match ws, h with
  | [], h =>
    have d1 : deq (.lst []) (.lst [.str [114, 111, 119, 115]]) = some false := deq_lst (xs := []) (ys := [wRows]) (fun x hx => nomatch hx) k
    have c1 : cut ([] : List Vm.D) none (some 1) = [] := rfl
    simp [Vm.run, slotsOf, outsOf, Vm.seq, retS, retN, Vm.next, exprS, Vm.asg, asgV, pat, parX, tgN, tgNil, tgCons, tgT, Vm.var, cst, Vm.bin, bop, Vm.two, Vm.cmp, cop, deq_str, deq_int, Vm.one, Vm.neg, notE, Vm.chain, andE, orE, ifx, ifS, Vm.tst, tstB, tAnd, tOr, tNot, nilA, consA, tupE, lstE, Vm.idx, ixd, Vm.slc, slcd, Vm.part, noPart, Vm.call, callV, hand, back, RV.ev, bcall, biLen, smeth, isiE, fldX, raiseX, R.bind, R.thn, R.of, EV.peek, EV.frz, frzs, peeks, SD.look, D.tru, fmtE, joinF, line, c1, d1, st1, toD]
  | [a], h =>
    have d1 := deq_lst (xs := [a]) (ys := [wRows]) (ok1 (h a (by simp))) k
    have c1 : cut [Vm.D.str a] none (some 1) = [.str a] := rfl
    simp only [List.map_cons, List.map_nil, wRows] at d1
    have d1 : deq (.lst [.str a]) (.lst [.str [114, 111, 119, 115]]) = some (decide (a = [114, 111, 119, 115])) := by rw [d1]; simp
    cases q : decide (a = [114, 111, 119, 115]) <;> (rw [q] at d1; simp [Vm.run, slotsOf, outsOf, Vm.seq, retS, retN, Vm.next, exprS, Vm.asg, asgV, pat, parX, tgN, tgNil, tgCons, tgT, Vm.var, cst, Vm.bin, bop, Vm.two, Vm.cmp, cop, deq_str, deq_int, Vm.one, Vm.neg, notE, Vm.chain, andE, orE, ifx, ifS, Vm.tst, tstB, tAnd, tOr, tNot, nilA, consA, tupE, lstE, Vm.idx, ixd, Vm.slc, slcd, Vm.part, noPart, Vm.call, callV, hand, back, RV.ev, bcall, biLen, smeth, isiE, fldX, raiseX, R.bind, R.thn, R.of, EV.peek, EV.frz, frzs, peeks, SD.look, D.tru, fmtE, joinF, line, c1, d1, st1, toD])
  | a :: b :: r, h =>
    have d1 := deq_lst (xs := [a]) (ys := [wRows]) (ok1 (h a (by simp))) k
    simp only [List.map_cons, List.map_nil, wRows] at d1
    have c1 : cut (Vm.D.str a :: .str b :: r.map .str) none (some 1) = [.str a] := cut_take _ 1
    have c2 : cut (Vm.D.str a :: .str b :: r.map .str) (some 2) none = r.map .str := cut_drop _ 2
    have g1 : (1 : Int) < (r.length : Int) + 1 + 1 := by omega
    have at1 : atI (Vm.D.str a :: .str b :: r.map .str) 1 = some (.str b) := by
      unfold atI ixN
      rw [if_pos (by omega), if_pos (by simp only [List.length_cons]; omega)]
      rfl
    have d0 : deq (.lst [.str a]) (.lst [.str [114, 111, 119, 115]]) = some (decide (a = [114, 111, 119, 115])) := by rw [d1]; simp
    clear d1
    by_cases q : a = [114, 111, 119, 115]
    · have d1 := d0.trans (congrArg some (decide_eq_true q))
      by_cases p : b ∈ digs
      · have i1 := int_digs p
        have e : st1 (a :: b :: r) = (b.headD 0 - 48, r) := if_pos ⟨q, p⟩
        simp [Vm.run, slotsOf, outsOf, Vm.seq, retS, retN, Vm.next, exprS, Vm.asg, asgV, pat, parX, tgN, tgNil, tgCons, tgT, Vm.var, cst, Vm.bin, bop, Vm.two, Vm.cmp, cop, deq_str, deq_int, Vm.one, Vm.neg, notE, Vm.chain, andE, orE, ifx, ifS, Vm.tst, tstB, tAnd, tOr, tNot, nilA, consA, tupE, lstE, Vm.idx, ixd, Vm.slc, slcd, Vm.part, noPart, Vm.call, callV, hand, back, RV.ev, bcall, biLen, smeth, isiE, fldX, raiseX, R.bind, R.thn, R.of, EV.peek, EV.frz, frzs, peeks, SD.look, D.tru, fmtE, joinF, line, c1, c2, d1, at1, d_digs, p, g1, i1, e]
      · have e : st1 (a :: b :: r) = (0, a :: b :: r) := if_neg fun h => p h.2
        simp [Vm.run, slotsOf, outsOf, Vm.seq, retS, retN, Vm.next, exprS, Vm.asg, asgV, pat, parX, tgN, tgNil, tgCons, tgT, Vm.var, cst, Vm.bin, bop, Vm.two, Vm.cmp, cop, deq_str, deq_int, Vm.one, Vm.neg, notE, Vm.chain, andE, orE, ifx, ifS, Vm.tst, tstB, tAnd, tOr, tNot, nilA, consA, tupE, lstE, Vm.idx, ixd, Vm.slc, slcd, Vm.part, noPart, Vm.call, callV, hand, back, RV.ev, bcall, biLen, smeth, isiE, fldX, raiseX, R.bind, R.thn, R.of, EV.peek, EV.frz, frzs, peeks, SD.look, D.tru, fmtE, joinF, line, c1, c2, d1, at1, d_digs, p, g1, e, toD]
    · have d1 := d0.trans (congrArg some (decide_eq_false q))
      have e : st1 (a :: b :: r) = (0, a :: b :: r) := if_neg fun h => q h.1
      simp [Vm.run, slotsOf, outsOf, Vm.seq, retS, retN, Vm.next, exprS, Vm.asg, asgV, pat, parX, tgN, tgNil, tgCons, tgT, Vm.var, cst, Vm.bin, bop, Vm.two, Vm.cmp, cop, deq_str, deq_int, Vm.one, Vm.neg, notE, Vm.chain, andE, orE, ifx, ifS, Vm.tst, tstB, tAnd, tOr, tNot, nilA, consA, tupE, lstE, Vm.idx, ixd, Vm.slc, slcd, Vm.part, noPart, Vm.call, callV, hand, back, RV.ev, bcall, biLen, smeth, isiE, fldX, raiseX, R.bind, R.thn, R.of, EV.peek, EV.frz, frzs, peeks, SD.look, D.tru, fmtE, joinF, line, c1, c2, d1, at1, e, toD]
theorem e_IF2 {ws : List (List Nat)} (h : ∀ w ∈ ws, OkZ w) (s0 s1 : SD) (s2 : Vm.D) :
    IF2 [s0, s1, .sh s2, .sh (.str [45]), .ow false false (.lst (ws.map .str))] = .nx [s0, s1, .sh s2, .sh (.str (st2 ws).1), .ow false false (.lst ((st2 ws).2.map .str))] := by
  have k : ∀ y ∈ [wHalt], OkZ y := ok1 ⟨by decide, by decide⟩
  unfold IF2
  match ws, h with
  | [], h =>
    have d1 : deq (.lst []) (.lst [.str [104, 97, 108, 116]]) = some false := deq_lst (xs := []) (ys := [wHalt]) (fun x hx => nomatch hx) k
    have c1 : cut ([] : List Vm.D) none (some 1) = [] := rfl
    simp [Vm.run, slotsOf, outsOf, Vm.seq, retS, retN, Vm.next, exprS, Vm.asg, asgV, pat, parX, tgN, tgNil, tgCons, tgT, Vm.var, cst, Vm.bin, bop, Vm.two, Vm.cmp, cop, deq_str, deq_int, Vm.one, Vm.neg, notE, Vm.chain, andE, orE, ifx, ifS, Vm.tst, tstB, tAnd, tOr, tNot, nilA, consA, tupE, lstE, Vm.idx, ixd, Vm.slc, slcd, Vm.part, noPart, Vm.call, callV, hand, back, RV.ev, bcall, biLen, smeth, isiE, fldX, raiseX, R.bind, R.thn, R.of, EV.peek, EV.frz, frzs, peeks, SD.look, D.tru, fmtE, joinF, line, c1, d1, st2]
  | [a], h =>
    have d1 := deq_lst (xs := [a]) (ys := [wHalt]) (ok1 (h a (by simp))) k
    have c1 : cut [Vm.D.str a] none (some 1) = [.str a] := rfl
    simp only [List.map_cons, List.map_nil, wHalt] at d1
    have d1 : deq (.lst [.str a]) (.lst [.str [104, 97, 108, 116]]) = some (decide (a = [104, 97, 108, 116])) := by rw [d1]; simp
    cases q : decide (a = [104, 97, 108, 116]) <;> (rw [q] at d1; simp [Vm.run, slotsOf, outsOf, Vm.seq, retS, retN, Vm.next, exprS, Vm.asg, asgV, pat, parX, tgN, tgNil, tgCons, tgT, Vm.var, cst, Vm.bin, bop, Vm.two, Vm.cmp, cop, deq_str, deq_int, Vm.one, Vm.neg, notE, Vm.chain, andE, orE, ifx, ifS, Vm.tst, tstB, tAnd, tOr, tNot, nilA, consA, tupE, lstE, Vm.idx, ixd, Vm.slc, slcd, Vm.part, noPart, Vm.call, callV, hand, back, RV.ev, bcall, biLen, smeth, isiE, fldX, raiseX, R.bind, R.thn, R.of, EV.peek, EV.frz, frzs, peeks, SD.look, D.tru, fmtE, joinF, line, c1, d1, st2])
  | a :: b :: r, h =>
    have d1 := deq_lst (xs := [a]) (ys := [wHalt]) (ok1 (h a (by simp))) k
    simp only [List.map_cons, List.map_nil, wHalt] at d1
    have c1 : cut (Vm.D.str a :: .str b :: r.map .str) none (some 1) = [.str a] := cut_take _ 1
    have c2 : cut (Vm.D.str a :: .str b :: r.map .str) (some 2) none = r.map .str := cut_drop _ 2
    have g1 : (1 : Int) < (r.length : Int) + 1 + 1 := by omega
    have at1 : atI (Vm.D.str a :: .str b :: r.map .str) 1 = some (.str b) := by
      unfold atI ixN
      rw [if_pos (by omega), if_pos (by simp only [List.length_cons]; omega)]
      rfl
    have ls := e_L_set b
    have d0 : deq (.lst [.str a]) (.lst [.str [104, 97, 108, 116]]) = some (decide (a = [104, 97, 108, 116])) := by rw [d1]; simp
    clear d1
    by_cases q : a = [104, 97, 108, 116]
    · have d1 := d0.trans (congrArg some (decide_eq_true q))
      by_cases p : b = [45]
      · have e : st2 (a :: b :: r) = ([45], a :: b :: r) := if_neg fun h => h.2.1 p
        subst p
        simp [Vm.run, slotsOf, outsOf, Vm.seq, retS, retN, Vm.next, exprS, Vm.asg, asgV, pat, parX, tgN, tgNil, tgCons, tgT, Vm.var, cst, Vm.bin, bop, Vm.two, Vm.cmp, cop, deq_str, deq_int, Vm.one, Vm.neg, notE, Vm.chain, andE, orE, ifx, ifS, Vm.tst, tstB, tAnd, tOr, tNot, nilA, consA, tupE, lstE, Vm.idx, ixd, Vm.slc, slcd, Vm.part, noPart, Vm.call, callV, hand, back, RV.ev, bcall, biLen, smeth, isiE, fldX, raiseX, R.bind, R.thn, R.of, EV.peek, EV.frz, frzs, peeks, SD.look, D.tru, fmtE, joinF, line, c1, c2, d1, at1, g1, e]
      · cases l : lset b with
        | true =>
          have e : st2 (a :: b :: r) = (b, r) := if_pos ⟨q, p, l⟩
          simp [Vm.run, slotsOf, outsOf, Vm.seq, retS, retN, Vm.next, exprS, Vm.asg, asgV, pat, parX, tgN, tgNil, tgCons, tgT, Vm.var, cst, Vm.bin, bop, Vm.two, Vm.cmp, cop, deq_str, deq_int, Vm.one, Vm.neg, notE, Vm.chain, andE, orE, ifx, ifS, Vm.tst, tstB, tAnd, tOr, tNot, nilA, consA, tupE, lstE, Vm.idx, ixd, Vm.slc, slcd, Vm.part, noPart, Vm.call, callV, hand, back, RV.ev, bcall, biLen, smeth, isiE, fldX, raiseX, R.bind, R.thn, R.of, EV.peek, EV.frz, frzs, peeks, SD.look, D.tru, fmtE, joinF, line, c1, c2, d1, at1, p, g1, e, ls, l]
        | false =>
          have e : st2 (a :: b :: r) = ([45], a :: b :: r) := if_neg fun h => by rw [l] at h; exact Bool.false_ne_true h.2.2
          simp [Vm.run, slotsOf, outsOf, Vm.seq, retS, retN, Vm.next, exprS, Vm.asg, asgV, pat, parX, tgN, tgNil, tgCons, tgT, Vm.var, cst, Vm.bin, bop, Vm.two, Vm.cmp, cop, deq_str, deq_int, Vm.one, Vm.neg, notE, Vm.chain, andE, orE, ifx, ifS, Vm.tst, tstB, tAnd, tOr, tNot, nilA, consA, tupE, lstE, Vm.idx, ixd, Vm.slc, slcd, Vm.part, noPart, Vm.call, callV, hand, back, RV.ev, bcall, biLen, smeth, isiE, fldX, raiseX, R.bind, R.thn, R.of, EV.peek, EV.frz, frzs, peeks, SD.look, D.tru, fmtE, joinF, line, c1, c2, d1, at1, p, g1, e, ls, l]
    · have d1 := d0.trans (congrArg some (decide_eq_false q))
      have e : st2 (a :: b :: r) = ([45], a :: b :: r) := if_neg fun h => q h.1
      simp [Vm.run, slotsOf, outsOf, Vm.seq, retS, retN, Vm.next, exprS, Vm.asg, asgV, pat, parX, tgN, tgNil, tgCons, tgT, Vm.var, cst, Vm.bin, bop, Vm.two, Vm.cmp, cop, deq_str, deq_int, Vm.one, Vm.neg, notE, Vm.chain, andE, orE, ifx, ifS, Vm.tst, tstB, tAnd, tOr, tNot, nilA, consA, tupE, lstE, Vm.idx, ixd, Vm.slc, slcd, Vm.part, noPart, Vm.call, callV, hand, back, RV.ev, bcall, biLen, smeth, isiE, fldX, raiseX, R.bind, R.thn, R.of, EV.peek, EV.frz, frzs, peeks, SD.look, D.tru, fmtE, joinF, line, c1, c2, d1, at1, e]
theorem st1_sub {ws : List (List Nat)} : ∀ w ∈ (st1 ws).2, w ∈ ws := by
  unfold st1
  split
  · split
    · exact fun w h => List.mem_cons_of_mem _ (List.mem_cons_of_mem _ h)
    · exact fun w h => h
  · exact fun w h => h
theorem st2_sub {ws : List (List Nat)} : ∀ w ∈ (st2 ws).2, w ∈ ws := by
  unfold st2
  split
  · split
    · exact fun w h => List.mem_cons_of_mem _ (List.mem_cons_of_mem _ h)
    · exact fun w h => h
  · exact fun w h => h
theorem e_L_reading {t : List Nat} (ht : OkZ t) : F_L_reading [.val (.str t)] = .ret (.val (rdD (rd (wds t)))) [.non] := by
  unfold F_L_reading m_L_reading
  show Vm.run 1 5 (seq _ (seq _ (seq _ (seq _ (seq _ (seq IF1 (seq IF2 _))))))) _ = _
  have hs := e_split ht
  obtain ⟨w, rs, hw⟩ := wds_cons t
  have ok : ∀ x ∈ wds t, OkZ x := spl_ok t [] ht
  have at0 : atI ((wds t).map Vm.D.str) 0 = some (.str w) := by
    rw [hw]
    unfold atI ixN
    simp
  have hd : (wds t).headD [] = w := by rw [hw]; rfl
  have d1 := deq_lst (ys := [wDrop]) ok (ok1 ⟨by decide, by decide⟩)
  have c1 : cut ((wds t).map Vm.D.str) (some 1) none = ((wds t).drop 1).map .str := by
    rw [List.map_drop]
    exact cut_drop _ 1
  have okd : ∀ x ∈ (wds t).drop 1, OkZ x := fun x hx => ok x (List.mem_of_mem_drop hx)
  have f1 := e_IF1 okd
  have f2 := e_IF2 (ws := (st1 ((wds t).drop 1)).2) fun x hx => okd x (st1_sub x hx)
  have d2 := deq_lst (xs := (st2 (st1 ((wds t).drop 1)).2).2) (ys := []) (fun x hx => okd x (st1_sub x (st2_sub x hx))) (fun x hx => nomatch hx)
  have q2 : din (.str w) (.lst [(.str [100, 111, 119, 110]), (.str [117, 112]), (.str [110, 101, 97, 114, 95, 97, 98, 111, 118, 101]), (.str [110, 101, 97, 114, 95, 98, 101, 108, 111, 119])]) = some (decide (w ∈ ways)) := by
    simp [din, D.flat, mem, ways, wDown, wUp, wNA, wNB, D.eqv, beq_dec, eq_comm]
  simp only [List.map_nil] at d2
  simp only [List.map_cons, List.map_nil] at d1
  unfold rd
  rw [hd]
  generalize hd2 : D.lst [(.str [100, 111, 119, 110]), (.str [117, 112]), (.str [110, 101, 97, 114, 95, 97, 98, 111, 118, 101]), (.str [110, 101, 97, 114, 95, 98, 101, 108, 111, 119])] = dW at q2 ⊢
  generalize wds t = ws at *
  by_cases p : ws = [wDrop]
  · have d1 : deq (.lst (ws.map .str)) (.lst [.str [100, 114, 111, 112]]) = some true := by rw [← show decide (ws = [wDrop]) = true from decide_eq_true p]; exact d1
    rw [if_pos p]
    simp [Vm.run, slotsOf, outsOf, Vm.seq, retS, retN, Vm.next, exprS, Vm.asg, asgV, pat, parX, tgN, tgNil, tgCons, tgT, Vm.var, cst, Vm.bin, bop, Vm.two, Vm.cmp, cop, deq_str, deq_int, Vm.one, Vm.neg, notE, Vm.chain, andE, orE, ifx, ifS, Vm.tst, tstB, tAnd, tOr, tNot, nilA, consA, tupE, lstE, Vm.idx, ixd, Vm.slc, slcd, Vm.part, noPart, Vm.call, callV, hand, back, RV.ev, bcall, biLen, smeth, isiE, fldX, raiseX, R.bind, R.thn, R.of, EV.peek, EV.frz, frzs, peeks, SD.look, D.tru, fmtE, joinF, line, hs, d1, rdD, toD, wDrop]
  · have d1 : deq (.lst (ws.map .str)) (.lst [.str [100, 114, 111, 112]]) = some false := by rw [← show decide (ws = [wDrop]) = false from decide_eq_false p]; exact d1
    rw [if_neg p]
    generalize ws.drop 1 = rest at *
    generalize st1 rest = p1 at *
    obtain ⟨n, rest1⟩ := p1
    simp only at f1 f2 d2 ⊢
    generalize st2 rest1 = p2 at *
    obtain ⟨h, rest2⟩ := p2
    simp only at f2 d2 ⊢
    generalize IF1 = X1 at *
    generalize IF2 = X2 at *
    by_cases e : rest2 = []
    · have d2 := d2.trans (congrArg some (decide_eq_true e))
      by_cases e2 : w ∈ ways
      · rw [if_neg (by simp [e, e2])]
        simp [Vm.run, slotsOf, outsOf, Vm.seq, retS, retN, Vm.next, exprS, Vm.asg, asgV, pat, parX, tgN, tgNil, tgCons, tgT, Vm.var, cst, Vm.bin, bop, Vm.two, Vm.cmp, cop, deq_str, deq_int, Vm.one, Vm.neg, notE, Vm.chain, andE, orE, ifx, ifS, Vm.tst, tstB, tAnd, tOr, tNot, nilA, consA, tupE, lstE, Vm.idx, ixd, Vm.slc, slcd, Vm.part, noPart, Vm.call, callV, hand, back, RV.ev, bcall, biLen, smeth, isiE, fldX, raiseX, R.bind, R.thn, R.of, EV.peek, EV.frz, frzs, peeks, SD.look, D.tru, fmtE, joinF, line, hs, d1, rdD, c1, f1, f2, d2, q2, at0, e2, hd2]
      · rw [if_pos (by simp [e, e2])]
        simp [Vm.run, slotsOf, outsOf, Vm.seq, retS, retN, Vm.next, exprS, Vm.asg, asgV, pat, parX, tgN, tgNil, tgCons, tgT, Vm.var, cst, Vm.bin, bop, Vm.two, Vm.cmp, cop, deq_str, deq_int, Vm.one, Vm.neg, notE, Vm.chain, andE, orE, ifx, ifS, Vm.tst, tstB, tAnd, tOr, tNot, nilA, consA, tupE, lstE, Vm.idx, ixd, Vm.slc, slcd, Vm.part, noPart, Vm.call, callV, hand, back, RV.ev, bcall, biLen, smeth, isiE, fldX, raiseX, R.bind, R.thn, R.of, EV.peek, EV.frz, frzs, peeks, SD.look, D.tru, fmtE, joinF, line, hs, d1, rdD, c1, f1, f2, d2, q2, at0, e2, hd2]
    · rw [if_pos (by simp [e])]
      simp [Vm.run, slotsOf, outsOf, Vm.seq, retS, retN, Vm.next, exprS, Vm.asg, asgV, pat, parX, tgN, tgNil, tgCons, tgT, Vm.var, cst, Vm.bin, bop, Vm.two, Vm.cmp, cop, deq_str, deq_int, Vm.one, Vm.neg, notE, Vm.chain, andE, orE, ifx, ifS, Vm.tst, tstB, tAnd, tOr, tNot, nilA, consA, tupE, lstE, Vm.idx, ixd, Vm.slc, slcd, Vm.part, noPart, Vm.call, callV, hand, back, RV.ev, bcall, biLen, smeth, isiE, fldX, raiseX, R.bind, R.thn, R.of, EV.peek, EV.frz, frzs, peeks, SD.look, D.tru, fmtE, joinF, line, hs, d1, rdD, c1, f1, f2, d2, e]
end K19

set_option Elab.async false
set_option linter.all false
set_option maxRecDepth 100000
set_option maxHeartbeats 4000000
namespace K19
open PySem Vm
def rowT : Nat → List Nat
  | 0 => []
  | n + 1 => [32, 114, 111, 119, 115, 32, 49 + n]
def ft2 (w : List Nat) (n : Nat) (h : List Nat) : List Nat := w ++ (rowT n ++ (if h = [45] then [] else [32, 104, 97, 108, 116, 32] ++ h))
theorem ft_ft2 {w h : List Nat} {n : Nat} (hn : n ≤ 6) : ft w (toD n) h = ft2 w n h := by
  cases n with
  | zero => rfl
  | succ n =>
    have e := numI_one (i := (n : Int) + 1) (by omega) (by omega)
    show w ++ (([32, 114, 111, 119, 115, 32] ++ numI ((n : Int) + 1)) ++ _) = _
    rw [e, show ((n : Int) + 1).toNat = n + 1 by omega, show 48 + (n + 1) = 49 + n by omega]
    rfl
def rowsB : Vm.D → Nat → Bool
  | .non, 0 => true
  | .int i, n + 1 => decide (i = (n : Int) + 1)
  | _, _ => false
theorem rowsB_ok {d : Vm.D} {n : Nat} (h : rowsB d n = true) : d = toD n := by
  unfold rowsB at h
  split at h
  · rfl
  · rw [of_decide_eq_true h]; rfl
  · cases h
theorem step_num {P : List Nat → Nat → List Nat → Prop} (h0 : P wDrop 0 [45]) (h1 : ∀ w ∈ ways, ∀ n ∈ List.range 7, ∀ h ∈ stops, P w n h) {w h : List Nat} {r : Vm.D} (q : isStep w r h = true) : ∃ n, n ≤ 6 ∧ r = toD n ∧ P w n h := by
  refine step_cases (P := fun w r h => ∃ n, n ≤ 6 ∧ r = toD n ∧ P w n h) ⟨0, by decide, rfl, h0⟩ (fun w hw r hr h hh => ?_) q
  have : ∀ r ∈ rowsL, ∃ n, n ≤ 6 ∧ r = toD n := by
    intro r hr
    simp only [rowsL, List.mem_cons, List.not_mem_nil, or_false] at hr
    rcases hr with rfl | rfl | rfl | rfl | rfl | rfl | rfl
    · exact ⟨0, by decide, rfl⟩
    · exact ⟨1, by decide, rfl⟩
    · exact ⟨2, by decide, rfl⟩
    · exact ⟨3, by decide, rfl⟩
    · exact ⟨4, by decide, rfl⟩
    · exact ⟨5, by decide, rfl⟩
    · exact ⟨6, by decide, rfl⟩
  obtain ⟨n, hn, rfl⟩ := this r hr
  exact ⟨n, hn, rfl, h1 w hw n (List.mem_range.mpr (by omega)) h hh⟩
def chk (w : List Nat) (n : Nat) (h : List Nat) : Bool := decide (rd (wds (ft2 w n h)) = some (w, n, h)) && (decide ((wds (ft2 w n h)).headD [] = w) && (decide (haltP (wds (ft2 w n h)) = h) && rowsB (rowsP (wds (ft2 w n h))) n))
theorem chk_drop : chk wDrop 0 [45] = true := by decide +kernel
theorem chk_all : (ways.all fun w => (List.range 7).all fun n => stops.all fun h => chk w n h) = true := by decide +kernel
theorem chk_step {w h : List Nat} {r : Vm.D} (q : isStep w r h = true) : ∃ n, n ≤ 6 ∧ r = toD n ∧ chk w n h = true :=
  step_num (P := fun w n h => chk w n h = true) chk_drop (fun w hw n hn h hh => List.all_eq_true.mp (List.all_eq_true.mp (List.all_eq_true.mp chk_all w hw) n hn) h hh) q
theorem st1_is {rest r1 : List (List Nat)} {n : Nat} (h : st1 rest = (n, r1)) : (n = 0 ∧ rest = r1) ∨ (1 ≤ n ∧ n ≤ 6 ∧ rest = wRows :: [48 + n] :: r1) := by
  unfold st1 at h
  split at h
  · rename_i a b r
    split at h
    · rename_i q
      obtain ⟨rfl, hb⟩ := q
      cases h
      refine .inr ?_
      simp only [digs, List.mem_cons, List.not_mem_nil, or_false] at hb
      rcases hb with rfl | rfl | rfl | rfl | rfl | rfl <;> exact ⟨by decide, by decide, rfl⟩
    · cases h
      exact .inl ⟨rfl, rfl⟩
  · cases h
    exact .inl ⟨rfl, rfl⟩
theorem st2_is {r1 : List (List Nat)} {h : List Nat} (e : st2 r1 = (h, [])) : (h = [45] ∧ r1 = []) ∨ (h ≠ [45] ∧ lset h = true ∧ r1 = [wHalt, h]) := by
  unfold st2 at e
  split at e
  · rename_i a b r
    split at e
    · rename_i q
      obtain ⟨rfl, h1, h2⟩ := q
      cases e
      exact .inr ⟨h1, h2, rfl⟩
    · cases e
  · cases e
    exact .inl ⟨rfl, rfl⟩
theorem rd_some {ws : List (List Nat)} {w h : List Nat} {n : Nat} (hne : ws ≠ []) (q : rd ws = some (w, n, h)) : n ≤ 6 ∧ isStep w (toD n) h = true ∧ TL.joinL [32] ws = ft2 w n h := by
  unfold rd at q
  by_cases p : ws = [wDrop]
  · rw [if_pos p] at q
    cases q
    subst p
    exact ⟨by decide, by decide, by decide⟩
  · rw [if_neg p] at q
    match ws, hne with
    | w0 :: rest, _ =>
      simp only [List.drop_succ_cons, List.drop_zero, List.headD_cons] at q
      cases h1 : st1 rest with
      | mk n1 r1 =>
        rw [h1] at q
        simp only at q
        cases h2 : st2 r1 with
        | mk h3 r2 =>
          rw [h2] at q
          simp only at q
          by_cases e : r2 ≠ [] ∨ w0 ∉ ways
          · rw [if_pos e] at q; cases q
          · rw [if_neg e] at q
            cases q
            have e1 : r2 = [] := Decidable.byContradiction fun z => e (.inl z)
            have e2 : w ∈ ways := Decidable.byContradiction fun z => e (.inr z)
            subst e1
            have s1 := st1_is h1
            have s2 := st2_is h2
            have lm : n ≤ 6 ∧ isLim (toD n) = true := by
              rcases s1 with ⟨rfl, _⟩ | ⟨a, b, _⟩
              · exact ⟨by decide, rfl⟩
              · refine ⟨b, ?_⟩
                cases n with
                | zero => rfl
                | succ n =>
                  show (decide (1 ≤ (n : Int) + 1) && decide ((n : Int) + 1 ≤ 6)) = true
                  rw [decide_eq_true (by omega), decide_eq_true (by omega)]
                  rfl
            have mm : mt h = true := by
              rcases s2 with ⟨rfl, _⟩ | ⟨_, b, _⟩
              · decide
              · rw [mt_lset]; exact b
            refine ⟨lm.1, ?_, ?_⟩
            · unfold isStep
              rw [decide_eq_true e2, lm.2, mm]
              simp
            · rcases s1 with ⟨rfl, rfl⟩ | ⟨a, b, rfl⟩
              · rcases s2 with ⟨rfl, rfl⟩ | ⟨c, d, rfl⟩
                · simp [TL.joinL, ft2, rowT]
                · simp [TL.joinL, ft2, rowT, c, wHalt]
              · obtain ⟨m, rfl⟩ : ∃ m, n = m + 1 := ⟨n - 1, by omega⟩
                rcases s2 with ⟨rfl, rfl⟩ | ⟨c, d, rfl⟩
                · simp [TL.joinL, ft2, rowT, wRows]
                  omega
                · simp [TL.joinL, ft2, rowT, wRows, c, wHalt]
                  omega
theorem toD_inj : ∀ {m n : Nat}, toD n = toD m → m = n
  | 0, 0, _ => rfl
  | 0, n + 1, e => by unfold toD at e; cases e
  | m + 1, 0, e => by unfold toD at e; cases e
  | m + 1, n + 1, e => by
    have : Vm.D.int ((n : Int) + 1) = .int ((m : Int) + 1) := e
    injection this with this
    omega
theorem acc_true {t : List Nat} (h : acc t = true) : ∃ n, n ≤ 6 ∧ rowsP (wds t) = toD n ∧ rd (wds t) = some ((wds t).headD [], n, haltP (wds t)) := by
  unfold acc at h
  obtain ⟨h1, h2⟩ := Bool.and_eq_true_iff.mp h
  have h2 := of_decide_eq_true h2
  obtain ⟨n, hn, e, c⟩ := chk_step h1
  refine ⟨n, hn, e, ?_⟩
  rw [e, ft_ft2 hn] at h2
  unfold chk at c
  rw [h2] at c
  exact of_decide_eq_true (Bool.and_eq_true_iff.mp c).1
theorem acc_false {t : List Nat} (h : acc t = false) : rd (wds t) = none := by
  cases q : rd (wds t) with
  | none => rfl
  | some p =>
    obtain ⟨w, n, z⟩ := p
    obtain ⟨hn, s, j⟩ := rd_some (spl_join t []).1 q
    rw [(spl_join t []).2, List.nil_append] at j
    obtain ⟨m, hm, e, c⟩ := chk_step s
    have := toD_inj e
    subst this
    unfold chk at c
    rw [← j] at c
    obtain ⟨c1, c2⟩ := Bool.and_eq_true_iff.mp c
    obtain ⟨c2, c3⟩ := Bool.and_eq_true_iff.mp c2
    obtain ⟨c3, c4⟩ := Bool.and_eq_true_iff.mp c3
    unfold acc at h
    rw [of_decide_eq_true c2, of_decide_eq_true c3, rowsB_ok c4, s, ft_ft2 hn, ← j] at h
    simp at h
theorem e_L_reads {t : List Nat} (ht : OkZ t) : F_L_reads [.val (.str t)] = .ret (.val (.bl true)) [.non] := by
  unfold F_L_reads m_L_reads
  have e1 := e_L_reading ht
  have e2 := e_read_fill ht
  have ok : ∀ x ∈ wds t, OkZ x := spl_ok t [] ht
  cases a : acc t with
  | true =>
    obtain ⟨n, hn, er, r⟩ := acc_true a
    have s : isStep ((wds t).headD []) (rowsP (wds t)) (haltP (wds t)) = true := by
      unfold acc at a
      exact (Bool.and_eq_true_iff.mp a).1
    have f : ft ((wds t).headD []) (rowsP (wds t)) (haltP (wds t)) = t := by
      unfold acc at a
      exact of_decide_eq_true (Bool.and_eq_true_iff.mp a).2
    rw [a, if_pos rfl] at e2
    rw [r] at e1
    have o1 : OkZ ((wds t).headD []) := by
      obtain ⟨w, rs, hw⟩ := wds_cons t
      rw [hw]
      exact ok w (by rw [hw]; simp)
    have o3 : OkZ (haltP (wds t)) := haltP_ok ok
    have l := lim_OkL (step_lim s)
    have e3 := e_fill_text o1 o3 l
    have e4 := e_L_is_step o1 o3 l ⟨rfl, rfl, rfl⟩
    rw [f] at e3
    rw [rdD, ← er] at e1
    generalize (wds t).headD [] = w at *
    generalize rowsP (wds t) = r at *
    generalize haltP (wds t) = h at *
    simp [Vm.run, slotsOf, outsOf, Vm.seq, retS, retN, Vm.next, exprS, Vm.asg, asgV, pat, parX, tgN, tgNil, tgCons, tgT, Vm.var, cst, Vm.bin, bop, Vm.two, Vm.cmp, cop, deq_str, deq_int, Vm.one, Vm.neg, notE, Vm.chain, andE, orE, ifx, ifS, Vm.tst, tstB, tAnd, tOr, tNot, nilA, consA, tupE, lstE, Vm.idx, ixd, Vm.slc, slcd, Vm.part, noPart, Vm.call, callV, hand, back, RV.ev, bcall, biLen, smeth, isiE, fldX, raiseX, R.bind, R.thn, R.of, EV.peek, EV.frz, frzs, peeks, SD.look, D.tru, fmtE, joinF, line, tryX, e1, e2, e3, e4, dis, isiD, D.tn, isiT, tyB, bTys]
  | false =>
    rw [a] at e2
    rw [acc_false a, rdD] at e1
    simp only [Bool.false_eq_true, if_false] at e2
    have e3 := e_whole (.int 0) _ rfl rfl
    have k1 : cat_BadText 1 = some true := rfl
    have k2 : isiC kt 1 (.cls 4) = some true := rfl
    have k3 : isiC kt 1 (.ty "ValueError") = some true := by decide +kernel
    have k4 : isiC kt 1 (.cls 2) = some false := rfl
    have k5 : askOk ask ⟨1, [(0, .int 0)]⟩ = true := by decide +kernel
    simp [Vm.run, slotsOf, outsOf, Vm.seq, retS, retN, Vm.next, exprS, Vm.asg, asgV, pat, parX, tgN, tgNil, tgCons, tgT, Vm.var, cst, Vm.bin, bop, Vm.two, Vm.cmp, cop, deq_str, deq_int, Vm.one, Vm.neg, notE, Vm.chain, andE, orE, ifx, ifS, Vm.tst, tstB, tAnd, tOr, tNot, nilA, consA, tupE, lstE, Vm.idx, ixd, Vm.slc, slcd, Vm.part, noPart, Vm.call, callV, hand, back, RV.ev, bcall, biLen, smeth, isiE, fldX, raiseX, R.bind, R.thn, R.of, EV.peek, EV.frz, frzs, peeks, SD.look, D.tru, fmtE, joinF, line, tryX, e1, e2, e3, k1, k2, k3, k4, k5, noO, noX, endX, dropX, S.map, List.lookup, dis]
end K19

set_option Elab.async false
set_option linter.all false
set_option maxRecDepth 100000
set_option maxHeartbeats 4000000
namespace K19
open PySem Vm
abbrev P5 (X : List Vm.D) (at_ rest cnt seed : Int) : Vm.D := .lst [.lst X, .int at_, .int rest, .int cnt, .int seed]
structure PK (k : Nat) (X : List Vm.D) (at_ rest cnt seed : Int) : Prop where
  cells : ∀ d ∈ X, ∃ n : Nat, d = .int n
  a0 : 0 ≤ at_
  r0 : 0 ≤ rest
  c0 : 0 ≤ cnt
  c1 : cnt ≤ k
  s0 : 0 ≤ seed
  s1 : seed < 1009
def Pool (k : Nat) (p : Vm.D) : Prop := ∃ X a r c s, p = P5 X a r c s ∧ PK k X a r c s
theorem log2_lt {i : Int} {b : Nat} (h1 : 0 ≤ i) (h2 : i ≤ b) : i.natAbs.log2 ≤ b := Nat.le_trans (Nat.log2_le_self _) (by omega)
section
variable {α : Type} (x0 x1 x2 x3 x4 : α)
theorem a50 : atI [x0, x1, x2, x3, x4] 0 = some x0 := rfl
theorem a51 : atI [x0, x1, x2, x3, x4] 1 = some x1 := rfl
theorem a52 : atI [x0, x1, x2, x3, x4] 2 = some x2 := rfl
theorem a53 : atI [x0, x1, x2, x3, x4] 3 = some x3 := rfl
theorem a54 : atI [x0, x1, x2, x3, x4] 4 = some x4 := rfl
end
theorem i51 : ixN 5 1 = some 1 := rfl
theorem i52 : ixN 5 2 = some 2 := rfl
theorem i53 : ixN 5 3 = some 3 := rfl
theorem e_draw {k : Nat} {p : Vm.D} (hp : Pool k p) (hk : k ≤ 100000) {L : Int} (l1 : 0 < L) (l2 : L ≤ 8000) :
    ∃ v p', F_L_draw [.io p, .val (.int L)] = .ret (.val (.int v)) [p', .non] ∧ (0 ≤ v ∧ v < L) ∧ Pool (k + 1) p' := by
  obtain ⟨X, a, r, c, s, rfl, h⟩ := hp
  have nL : L ≠ 0 := by omega
  have md : ∀ x : Int, 0 ≤ x % L ∧ x % L < L := fun x => ⟨Int.emod_nonneg _ nL, Int.emod_lt_of_pos _ l1⟩
  have lL : L.natAbs.log2 < 9000 := Nat.lt_of_le_of_lt (log2_lt (b := 8000) (by omega) (by omega)) (by decide)
  have h3 := h.r0
  have h4 := h.a0
  have h5 := h.c0
  have h6 := h.c1
  have h7 := h.s0
  have h8 := h.s1
  unfold F_L_draw m_L_draw
  have rest : ∀ r : Int, 0 < r → 0 ≤ r / L := fun r hr => Int.ediv_nonneg (by omega) (by omega)
  by_cases h1 : r = 0
  · subst h1
    by_cases h2 : a < (X.length : Int)
    · obtain ⟨n, hn⟩ : ∃ n : Nat, atI X a = some (.int n) := by
        have q : a.toNat < X.length := by omega
        obtain ⟨n, hn⟩ := h.cells _ (List.getElem_mem q)
        refine ⟨n, ?_⟩
        unfold atI ixN
        rw [if_pos h.a0, if_pos h2]
        show X[a.toNat]? = _
        rw [List.getElem?_eq_getElem q, hn]
      by_cases h9 : (n : Int) < 1000000000000000000
      · refine ⟨(n : Int) % L, P5 X (a + 1) 0 c s, ?_, md _, X, _, _, _, _, rfl, ⟨h.cells, by omega, by omega, by omega, by omega, by omega, by omega⟩⟩
        simp [Vm.run, slotsOf, outsOf, Vm.seq, retS, retN, Vm.next, exprS, Vm.asg, asgV, pat, parX, tgN, tgNil, tgCons, tgT, Vm.var, cst, Vm.bin, bop, Vm.two, Vm.cmp, cop, deq_str, deq_int, Vm.one, Vm.neg, notE, Vm.chain, andE, orE, ifx, ifS, Vm.tst, tstB, tAnd, tOr, tNot, nilA, consA, tupE, lstE, Vm.idx, ixd, Vm.slc, slcd, Vm.part, noPart, Vm.call, callV, hand, back, RV.ev, bcall, biLen, smeth, isiE, fldX, raiseX, R.bind, R.thn, R.of, EV.peek, EV.frz, frzs, peeks, SD.look, D.tru, fmtE, joinF, line, a50, a51, a52, a53, a54, i51, i52, i53, iset, ownL, biIntS, h2, hn, h9, l1]
      · refine ⟨(n : Int) % L, P5 X (a + 1) ((n : Int) / L) c s, ?_, md _, X, _, _, _, _, rfl, ⟨h.cells, by omega, rest n (by omega), by omega, by omega, by omega, by omega⟩⟩
        have n0 : 0 < n := by omega
        simp [Vm.run, slotsOf, outsOf, Vm.seq, retS, retN, Vm.next, exprS, Vm.asg, asgV, pat, parX, tgN, tgNil, tgCons, tgT, Vm.var, cst, Vm.bin, bop, Vm.two, Vm.cmp, cop, deq_str, deq_int, Vm.one, Vm.neg, notE, Vm.chain, andE, orE, ifx, ifS, Vm.tst, tstB, tAnd, tOr, tNot, nilA, consA, tupE, lstE, Vm.idx, ixd, Vm.slc, slcd, Vm.part, noPart, Vm.call, callV, hand, back, RV.ev, bcall, biLen, smeth, isiE, fldX, raiseX, R.bind, R.thn, R.of, EV.peek, EV.frz, frzs, peeks, SD.look, D.tru, fmtE, joinF, line, a50, a51, a52, a53, a54, i51, i52, i53, iset, ownL, biIntS, h2, hn, h9, l1, n0, lL]
    · refine ⟨_, P5 X a 0 (c + 1) s, ?_, md ((((s * (c + 1 + 16)) % 1009) * ((s * (c + 1 + 16)) % 1009) + s * (c + 1)) % 997), X, _, _, _, _, rfl, ⟨h.cells, by omega, by omega, by omega, by omega, by omega, by omega⟩⟩
      have m1 : s.natAbs.log2 + (c + 1 + 16).natAbs.log2 < 1000000 := by
        have := log2_lt (i := s) (b := 1009) (by omega) (by omega)
        have := log2_lt (i := c + 1 + 16) (b := 100017) (by omega) (by omega)
        omega
      have m2 : s.natAbs.log2 + (c + 1).natAbs.log2 < 1000000 := by
        have := log2_lt (i := s) (b := 1009) (by omega) (by omega)
        have := log2_lt (i := c + 1) (b := 100017) (by omega) (by omega)
        omega
      have m3 : ((s * (c + 1 + 16)) % 1009).natAbs.log2 + ((s * (c + 1 + 16)) % 1009).natAbs.log2 < 1000000 := by
        have := Int.emod_nonneg (s * (c + 1 + 16)) (by decide : (1009 : Int) ≠ 0)
        have := Int.emod_lt_of_pos (s * (c + 1 + 16)) (by decide : (0 : Int) < 1009)
        have := log2_lt (i := (s * (c + 1 + 16)) % 1009) (b := 1009) (by omega) (by omega)
        omega
      simp [Vm.run, slotsOf, outsOf, Vm.seq, retS, retN, Vm.next, exprS, Vm.asg, asgV, pat, parX, tgN, tgNil, tgCons, tgT, Vm.var, cst, Vm.bin, bop, Vm.two, Vm.cmp, cop, deq_str, deq_int, Vm.one, Vm.neg, notE, Vm.chain, andE, orE, ifx, ifS, Vm.tst, tstB, tAnd, tOr, tNot, nilA, consA, tupE, lstE, Vm.idx, ixd, Vm.slc, slcd, Vm.part, noPart, Vm.call, callV, hand, back, RV.ev, bcall, biLen, smeth, isiE, fldX, raiseX, R.bind, R.thn, R.of, EV.peek, EV.frz, frzs, peeks, SD.look, D.tru, fmtE, joinF, line, a50, a51, a52, a53, a54, i51, i52, i53, iset, ownL, biIntS, h2, l1, m1, m2, m3]
  · have r0 : 0 < r := by omega
    refine ⟨r % L, P5 X a (r / L) c s, ?_, md _, X, _, _, _, _, rfl, ⟨h.cells, by omega, rest r r0, by omega, by omega, by omega, by omega⟩⟩
    simp [Vm.run, slotsOf, outsOf, Vm.seq, retS, retN, Vm.next, exprS, Vm.asg, asgV, pat, parX, tgN, tgNil, tgCons, tgT, Vm.var, cst, Vm.bin, bop, Vm.two, Vm.cmp, cop, deq_str, deq_int, Vm.one, Vm.neg, notE, Vm.chain, andE, orE, ifx, ifS, Vm.tst, tstB, tAnd, tOr, tNot, nilA, consA, tupE, lstE, Vm.idx, ixd, Vm.slc, slcd, Vm.part, noPart, Vm.call, callV, hand, back, RV.ev, bcall, biLen, smeth, isiE, fldX, raiseX, R.bind, R.thn, R.of, EV.peek, EV.frz, frzs, peeks, SD.look, D.tru, fmtE, joinF, line, a50, a51, a52, a53, a54, i51, i52, i53, iset, ownL, biIntS, h1, r0, l1, lL]
theorem atI_mem {α : Type} {xs : List α} {i : Int} (h1 : 0 ≤ i) (h2 : i < xs.length) : ∃ x ∈ xs, atI xs i = some x := by
  have q : i.toNat < xs.length := by omega
  refine ⟨xs[i.toNat], List.getElem_mem q, ?_⟩
  unfold atI ixN
  rw [if_pos h1, if_pos h2]
  show xs[i.toNat]? = _
  rw [List.getElem?_eq_getElem q]
theorem e_pick {k : Nat} {p : Vm.D} (hp : Pool k p) (hk : k ≤ 100000) {xs : List Vm.D} (h0 : xs ≠ []) (h1 : xs.length ≤ 8000) :
    ∃ d ∈ xs, ∃ p', F_L_pick [.io p, .val (.lst xs)] = .ret (.val d) [p', .non] ∧ Pool (k + 1) p' := by
  have hl : 0 < xs.length := List.length_pos_iff.mpr h0
  obtain ⟨v, p', e, ⟨v1, v2⟩, q⟩ := e_draw hp hk (L := (xs.length : Int)) (by omega) (by omega)
  obtain ⟨d, hd, a⟩ := atI_mem (xs := xs) v1 v2
  refine ⟨d, hd, p', ?_, q⟩
  unfold F_L_pick m_L_pick
  simp [Vm.run, slotsOf, outsOf, Vm.seq, retS, retN, Vm.next, exprS, Vm.asg, asgV, pat, parX, tgN, tgNil, tgCons, tgT, Vm.var, cst, Vm.bin, bop, Vm.two, Vm.cmp, cop, deq_str, deq_int, Vm.one, Vm.neg, notE, Vm.chain, andE, orE, ifx, ifS, Vm.tst, tstB, tAnd, tOr, tNot, nilA, consA, tupE, lstE, Vm.idx, ixd, Vm.slc, slcd, Vm.part, noPart, Vm.call, callV, hand, back, RV.ev, bcall, biLen, smeth, isiE, fldX, raiseX, R.bind, R.thn, R.of, EV.peek, EV.frz, frzs, peeks, SD.look, D.tru, fmtE, joinF, line, e, a]
theorem e_pickS {k : Nat} {p : Vm.D} (hp : Pool k p) (hk : k ≤ 100000) {z : List Nat} (h0 : z ≠ []) (h1 : z.length ≤ 8000) :
    ∃ c ∈ z, ∃ p', F_L_pick [.io p, .val (.str z)] = .ret (.val (.str [c])) [p', .non] ∧ Pool (k + 1) p' := by
  have hl : 0 < z.length := List.length_pos_iff.mpr h0
  obtain ⟨v, p', e, ⟨v1, v2⟩, q⟩ := e_draw hp hk (L := (z.length : Int)) (by omega) (by omega)
  obtain ⟨d, hd, a⟩ := atI_mem (xs := z) v1 v2
  refine ⟨d, hd, p', ?_, q⟩
  unfold F_L_pick m_L_pick
  have l : z.length ≤ 16777216 := by omega
  simp [Vm.run, slotsOf, outsOf, Vm.seq, retS, retN, Vm.next, exprS, Vm.asg, asgV, pat, parX, tgN, tgNil, tgCons, tgT, Vm.var, cst, Vm.bin, bop, Vm.two, Vm.cmp, cop, deq_str, deq_int, Vm.one, Vm.neg, notE, Vm.chain, andE, orE, ifx, ifS, Vm.tst, tstB, tAnd, tOr, tNot, nilA, consA, tupE, lstE, Vm.idx, ixd, Vm.slc, slcd, Vm.part, noPart, Vm.call, callV, hand, back, RV.ev, bcall, biLen, smeth, isiE, fldX, raiseX, R.bind, R.thn, R.of, EV.peek, EV.frz, frzs, peeks, SD.look, D.tru, fmtE, joinF, line, e, a, l]
/-! ### things drawn -/
def chkZ (z : List Nat) : Bool := decide (z.length ≤ 10000) && z.all fun c => decide (c < 128)
theorem chkZ_ok {z : List Nat} (h : chkZ z = true) : OkZ z := by
  unfold chkZ at h
  obtain ⟨h1, h2⟩ := Bool.and_eq_true_iff.mp h
  exact ⟨of_decide_eq_true h1, fun c hc => of_decide_eq_true (List.all_eq_true.mp h2 c hc)⟩
def limL : List Vm.D := [.int 3, .non, .int 1, .int 2, .int 4, .int 5, .int 6, .non, .int 0, .int 7, .int (-1), .int 1000000000000000000000000000000, .bl true, .bl false, .int (-3), .int 60]
theorem e_limit {k : Nat} {p : Vm.D} (hp : Pool k p) (hk : k ≤ 100000) : ∃ r p', F_L_limit [.io p] = .ret (.val r) [p'] ∧ OkR r ∧ Pool (k + 1) p' := by
  obtain ⟨d, hd, p', e, q⟩ := e_pick hp hk (xs := limL) (by decide) (by decide)
  refine ⟨d, p', ?_, ?_, q⟩
  · unfold F_L_limit m_L_limit
    unfold limL at e
    simp [Vm.run, slotsOf, outsOf, Vm.seq, retS, retN, Vm.next, exprS, Vm.asg, asgV, pat, parX, tgN, tgNil, tgCons, tgT, Vm.var, cst, Vm.bin, bop, Vm.two, Vm.cmp, cop, deq_str, deq_int, Vm.one, Vm.neg, notE, Vm.chain, andE, orE, ifx, ifS, Vm.tst, tstB, tAnd, tOr, tNot, nilA, consA, tupE, lstE, Vm.idx, ixd, Vm.slc, slcd, Vm.part, noPart, Vm.call, callV, hand, back, RV.ev, bcall, biLen, smeth, isiE, fldX, raiseX, R.bind, R.thn, R.of, EV.peek, EV.frz, frzs, peeks, SD.look, D.tru, fmtE, joinF, line, e]
  · simp only [limL, List.mem_cons, List.not_mem_nil, or_false] at hd
    rcases hd with rfl | rfl | rfl | rfl | rfl | rfl | rfl | rfl | rfl | rfl | rfl | rfl | rfl | rfl | rfl | rfl <;> first | exact .int _ | exact .non | exact .bl _
def chkL (n : Nat) : Bool := match F_L_letters [.val (.int n)] with
  | .ret (.val (.str z)) [.non] => mt z && chkZ z
  | _ => false
theorem e_letters {i : Int} (h1 : 0 ≤ i) (h2 : i < 64) : ∃ z, F_L_letters [.val (.int i)] = .ret (.val (.str z)) [.non] ∧ mt z = true ∧ OkZ z := by
  have all : ((List.range 64).all chkL) = true := by decide +kernel
  obtain ⟨n, rfl⟩ : ∃ n : Nat, i = n := ⟨i.toNat, by omega⟩
  have := List.all_eq_true.mp all n (List.mem_range.mpr (by omega))
  unfold chkL at this
  split at this
  · rename_i z e
    obtain ⟨a, b⟩ := Bool.and_eq_true_iff.mp this
    exact ⟨z, e, a, chkZ_ok b⟩
  · cases this
def stopL : List Vm.D := [.str [], .str [98, 97], .str [97, 97], .str [97, 103], .str [65], .str [97, 45], .str [45, 45], .str [32], .str [97, 32, 98], .str [102, 97], .str [97, 98, 99, 100, 101, 102, 103], .str [97, 10]]
theorem e_stop {k : Nat} {p : Vm.D} (hp : Pool k p) (hk : k ≤ 90000) : ∃ z p', F_L_stop [.io p] = .ret (.val (.str z)) [p'] ∧ OkZ z ∧ Pool (k + 2) p' := by
  obtain ⟨v, p1, e, ⟨v1, v2⟩, q⟩ := e_draw hp (by omega) (L := 4) (by omega) (by omega)
  by_cases h : v = 3
  · subst h
    obtain ⟨d, hd, p', e2, q⟩ := e_pick q (by omega) (xs := stopL) (by decide) (by decide)
    have : ∃ z, d = .str z ∧ OkZ z := by
      simp only [stopL, List.mem_cons, List.not_mem_nil, or_false] at hd
      rcases hd with rfl | rfl | rfl | rfl | rfl | rfl | rfl | rfl | rfl | rfl | rfl | rfl <;> exact ⟨_, rfl, chkZ_ok (by decide)⟩
    obtain ⟨z, rfl, hz⟩ := this
    refine ⟨z, p', ?_, hz, q⟩
    unfold F_L_stop m_L_stop
    unfold stopL at e2
    simp [Vm.run, slotsOf, outsOf, Vm.seq, retS, retN, Vm.next, exprS, Vm.asg, asgV, pat, parX, tgN, tgNil, tgCons, tgT, Vm.var, cst, Vm.bin, bop, Vm.two, Vm.cmp, cop, deq_str, deq_int, Vm.one, Vm.neg, notE, Vm.chain, andE, orE, ifx, ifS, Vm.tst, tstB, tAnd, tOr, tNot, nilA, consA, tupE, lstE, Vm.idx, ixd, Vm.slc, slcd, Vm.part, noPart, Vm.call, callV, hand, back, RV.ev, bcall, biLen, smeth, isiE, fldX, raiseX, R.bind, R.thn, R.of, EV.peek, EV.frz, frzs, peeks, SD.look, D.tru, fmtE, joinF, line, e, e2]
  · obtain ⟨u, p2, e2, ⟨u1, u2⟩, q⟩ := e_draw q (by omega) (L := 64) (by omega) (by omega)
    obtain ⟨z, e3, _, hz⟩ := e_letters (i := (u + 5) % 64) (by omega) (by omega)
    refine ⟨z, p2, ?_, hz, q⟩
    unfold F_L_stop m_L_stop
    simp [Vm.run, slotsOf, outsOf, Vm.seq, retS, retN, Vm.next, exprS, Vm.asg, asgV, pat, parX, tgN, tgNil, tgCons, tgT, Vm.var, cst, Vm.bin, bop, Vm.two, Vm.cmp, cop, deq_str, deq_int, Vm.one, Vm.neg, notE, Vm.chain, andE, orE, ifx, ifS, Vm.tst, tstB, tAnd, tOr, tNot, nilA, consA, tupE, lstE, Vm.idx, ixd, Vm.slc, slcd, Vm.part, noPart, Vm.call, callV, hand, back, RV.ev, bcall, biLen, smeth, isiE, fldX, raiseX, R.bind, R.thn, R.of, EV.peek, EV.frz, frzs, peeks, SD.look, D.tru, fmtE, joinF, line, e, e2, e3, h]
def wayL : List Vm.D := [.str [110, 101, 97, 114, 95, 97, 98, 111, 118, 101], .str [100, 111, 119, 110], .str [117, 112], .str [110, 101, 97, 114, 95, 98, 101, 108, 111, 119], .str [100, 114, 111, 112]]
def rowL : List Vm.D := [.int 2, .non, .int 1, .int 3, .int 4, .int 5, .int 6]
theorem e_good {k : Nat} {p : Vm.D} (hp : Pool k p) (hk : k ≤ 90000) : ∃ w r h p', F_L_good [.io p] = .ret (.val (S3 w r h)) [p'] ∧ isStep w r h = true ∧ Pool (k + 3) p' := by
  obtain ⟨d, hd, p1, e1, q⟩ := e_pick hp (by omega) (xs := wayL) (by decide) (by decide)
  have : ∃ w, d = .str w ∧ (w = wDrop ∨ w ∈ ways ∧ w ≠ [100, 114, 111, 112]) := by
    simp only [wayL, List.mem_cons, List.not_mem_nil, or_false] at hd
    rcases hd with rfl | rfl | rfl | rfl | rfl
    · exact ⟨_, rfl, .inr (by decide)⟩
    · exact ⟨_, rfl, .inr (by decide)⟩
    · exact ⟨_, rfl, .inr (by decide)⟩
    · exact ⟨_, rfl, .inr (by decide)⟩
    · exact ⟨_, rfl, .inl rfl⟩
  obtain ⟨w, rfl, hw⟩ := this
  unfold wayL at e1
  rcases hw with rfl | ⟨hw, nd⟩
  · refine ⟨wDrop, .non, [45], p1, ?_, by decide, ?_⟩
    · unfold F_L_good m_L_good
      unfold wDrop at *
      simp [Vm.run, slotsOf, outsOf, Vm.seq, retS, retN, Vm.next, exprS, Vm.asg, asgV, pat, parX, tgN, tgNil, tgCons, tgT, Vm.var, cst, Vm.bin, bop, Vm.two, Vm.cmp, cop, deq_str, deq_int, Vm.one, Vm.neg, notE, Vm.chain, andE, orE, ifx, ifS, Vm.tst, tstB, tAnd, tOr, tNot, nilA, consA, tupE, lstE, Vm.idx, ixd, Vm.slc, slcd, Vm.part, noPart, Vm.call, callV, hand, back, RV.ev, bcall, biLen, smeth, isiE, fldX, raiseX, R.bind, R.thn, R.of, EV.peek, EV.frz, frzs, peeks, SD.look, D.tru, fmtE, joinF, line, e1]
    · obtain ⟨X, a, r, c, s, rfl, h⟩ := q
      exact ⟨X, a, r, c, s, rfl, ⟨h.cells, h.a0, h.r0, h.c0, by have := h.c1; omega, h.s0, h.s1⟩⟩
  · obtain ⟨r, hr, p2, e2, q⟩ := e_pick q (by omega) (xs := rowL) (by decide) (by decide)
    have lr : isLim r = true := by
      simp only [rowL, List.mem_cons, List.not_mem_nil, or_false] at hr
      rcases hr with rfl | rfl | rfl | rfl | rfl | rfl | rfl <;> rfl
    obtain ⟨u, p3, e3, ⟨u1, u2⟩, q⟩ := e_draw q (by omega) (L := 64) (by omega) (by omega)
    obtain ⟨z, e4, mz, hz⟩ := e_letters (i := (u + 6) % 64) (by omega) (by omega)
    refine ⟨w, r, z, p3, ?_, ?_, q⟩
    · unfold F_L_good m_L_good
      unfold rowL at e2
      simp [Vm.run, slotsOf, outsOf, Vm.seq, retS, retN, Vm.next, exprS, Vm.asg, asgV, pat, parX, tgN, tgNil, tgCons, tgT, Vm.var, cst, Vm.bin, bop, Vm.two, Vm.cmp, cop, deq_str, deq_int, Vm.one, Vm.neg, notE, Vm.chain, andE, orE, ifx, ifS, Vm.tst, tstB, tAnd, tOr, tNot, nilA, consA, tupE, lstE, Vm.idx, ixd, Vm.slc, slcd, Vm.part, noPart, Vm.call, callV, hand, back, RV.ev, bcall, biLen, smeth, isiE, fldX, raiseX, R.bind, R.thn, R.of, EV.peek, EV.frz, frzs, peeks, SD.look, D.tru, fmtE, joinF, line, e1, e2, e3, e4, nd]
    · unfold isStep
      rw [decide_eq_true hw, lr, mz]
      simp
end K19

set_option Elab.async false
set_option linter.all false
set_option maxRecDepth 100000
set_option maxHeartbeats 4000000
namespace K19
open PySem Vm
def oddL : List (List Nat) := [[], [100, 111, 119, 110, 32, 114, 111, 119, 115, 32, 78, 111, 110, 101], [100, 111, 119, 110, 32, 104, 97, 108, 116, 32, 45], [100, 111, 119, 110, 32, 114, 111, 119, 115, 32, 48], [100, 111, 119, 110, 32, 114, 111, 119, 115, 32, 55], [100, 111, 119, 110, 32, 114, 111, 119, 115, 32, 48, 49], [100, 114, 111, 112, 32, 114, 111, 119, 115, 32, 49],
  [100, 114, 111, 112, 32, 104, 97, 108, 116, 32, 97], [100, 111, 119, 110, 32, 104, 97, 108, 116], [100, 111, 119, 110, 32, 114, 111, 119, 115], [114, 111, 119, 115, 32, 51], [100, 111, 119, 110, 32, 32, 114, 111, 119, 115, 32, 51], [100, 111, 119, 110, 32, 114, 111, 119, 115, 32, 32, 51],
  [100, 114, 111, 112, 10], [100, 111, 119, 110, 32, 104, 97, 108, 116, 32, 97, 32, 104, 97, 108, 116, 32, 98], [117, 112, 32, 114, 111, 119, 115, 32, 50, 32, 114, 111, 119, 115, 32, 51], [100, 111, 119, 110, 32, 114, 111, 119, 115, 32, 43, 51], [110, 101, 97, 114, 32, 97, 98, 111, 118, 101],
  [110, 101, 97, 114, 95, 97, 98, 111, 118, 101, 32, 114, 111, 119, 115, 32, 49, 48], [100, 111, 119, 110, 10, 117, 112], [104, 97, 108, 116, 32, 97], [100, 111, 119, 110, 32, 114, 111, 119, 115, 32, 51, 32, 104, 97, 108, 116], [100, 111, 119, 110, 32, 51], [117, 112, 32, 97, 98]]
theorem e_odd {k : Nat} {p : Vm.D} (hp : Pool k p) (hk : k ≤ 100000) : ∃ z p', F_L_odd [.io p] = .ret (.val (.str z)) [p'] ∧ OkZ z ∧ Pool (k + 1) p' := by
  obtain ⟨d, hd, p', e, q⟩ := e_pick hp hk (xs := oddL.map .str) (by decide) (by decide)
  obtain ⟨z, hz, rfl⟩ := List.mem_map.mp hd
  have all : (oddL.all chkZ) = true := by decide
  refine ⟨z, p', ?_, chkZ_ok (List.all_eq_true.mp all z hz), q⟩
  unfold F_L_odd m_L_odd
  simp only [oddL, List.map_cons, List.map_nil] at e
  simp [Vm.run, slotsOf, outsOf, Vm.seq, retS, retN, Vm.next, exprS, Vm.asg, asgV, pat, parX, tgN, tgNil, tgCons, tgT, Vm.var, cst, Vm.bin, bop, Vm.two, Vm.cmp, cop, deq_str, deq_int, Vm.one, Vm.neg, notE, Vm.chain, andE, orE, ifx, ifS, Vm.tst, tstB, tAnd, tOr, tNot, nilA, consA, tupE, lstE, Vm.idx, ixd, Vm.slc, slcd, Vm.part, noPart, Vm.call, callV, hand, back, RV.ev, bcall, biLen, smeth, isiE, fldX, raiseX, R.bind, R.thn, R.of, EV.peek, EV.frz, frzs, peeks, SD.look, D.tru, fmtE, joinF, line, e]
/-! ### cuts -/
theorem cutA {α : Type} (xs : List α) (lo hi : Option Int) : ∃ A, cut xs lo hi = A ∧ A.length ≤ xs.length ∧ ∀ x ∈ A, x ∈ xs :=
  ⟨_, rfl, by unfold cut; rw [List.length_take, List.length_drop]; omega, fun x h => List.mem_of_mem_drop (List.mem_of_mem_take h)⟩
theorem cutM (xs : List (List Nat)) (lo hi : Option Int) : ∃ A : List (List Nat), cut (xs.map Vm.D.str) lo hi = A.map .str ∧ A.length ≤ xs.length ∧ ∀ x ∈ A, x ∈ xs := by
  obtain ⟨A, rfl, h2, h3⟩ := cutA xs lo hi
  refine ⟨_, ?_, h2, h3⟩
  unfold cut
  rw [List.length_map, List.map_take, List.map_drop]
theorem OkZ.of {a b : List Nat} (ha : a.length ≤ 2000) (hb : b.length ≤ 2000) (h1 : ∀ c ∈ a, c < 128) (h2 : ∀ c ∈ b, c < 128) : OkZ (a ++ b) :=
  ⟨by rw [List.length_append]; omega, fun c hc => (List.mem_append.mp hc).elim (h1 c) (h2 c)⟩
theorem strs_map : ∀ ys : List (List Nat), strsOf (ys.map .str) = some ys
  | [] => rfl
  | y :: ys => by rw [List.map_cons, strsOf, strs_map ys]; rfl
theorem sum_le {b : Nat} : ∀ ys : List (List Nat), (∀ y ∈ ys, y.length ≤ b) → (ys.map List.length).sum ≤ ys.length * b
  | [], _ => by simp
  | y :: ys, h => by
    have h1 := h y List.mem_cons_self
    have h2 := sum_le ys fun z hz => h z (List.mem_cons_of_mem _ hz)
    rw [List.map_cons, List.sum_cons, List.length_cons, Nat.succ_mul]
    omega
theorem join_le {b : Nat} : ∀ ys : List (List Nat), (∀ y ∈ ys, y.length ≤ b) → (TL.joinL [32] ys).length ≤ ys.length * (b + 1)
  | [], _ => by simp [TL.joinL]
  | [y], h => by
    have h1 := h y List.mem_cons_self
    simp only [TL.joinL, List.length_singleton]
    omega
  | y :: z :: ys, h => by
    have h1 := h y List.mem_cons_self
    have h2 := join_le (z :: ys) fun z hz => h z (List.mem_cons_of_mem _ hz)
    simp only [TL.joinL, List.length_append, List.length_cons, List.length_nil] at h2 ⊢
    rw [Nat.succ_mul (ys.length + 1)]
    omega
theorem join_mem {c : Nat} : ∀ ys : List (List Nat), c ∈ TL.joinL [32] ys → c = 32 ∨ ∃ y ∈ ys, c ∈ y
  | [], h => nomatch h
  | [y], h => .inr ⟨y, List.mem_cons_self, h⟩
  | y :: z :: ys, h => by
    simp only [TL.joinL] at h
    rcases List.mem_append.mp h with h | h
    · exact .inr ⟨y, List.mem_cons_self, h⟩
    · rcases List.mem_append.mp h with h | h
      · exact .inl (List.mem_singleton.mp h)
      · rcases join_mem (z :: ys) h with h | ⟨w, hw, h⟩
        · exact .inl h
        · exact .inr ⟨w, List.mem_cons_of_mem _ hw, h⟩
/-- a word of a step's text -/
def Wd (z : List Nat) : Prop := z.length ≤ 60 ∧ ∀ c ∈ z, c < 128
theorem join_ok {ys : List (List Nat)} (h1 : ys.length ≤ 30) (h : ∀ y ∈ ys, Wd y) : ∃ z, biJoin [32] [.lst (ys.map .str)] = some (.val (.str z)) ∧ OkZ z := by
  have h2 := sum_le ys fun y hy => (h y hy).1
  have h3 := join_le ys fun y hy => (h y hy).1
  refine ⟨TL.joinL [32] ys, ?_, by omega, fun c hc => ?_⟩
  · show (strsOf (ys.map .str)).bind (joinD [32]) = _
    rw [strs_map]
    exact if_pos (by show _ ≤ 16777216; simp only [List.length_cons, List.length_nil]; omega)
  · rcases join_mem ys hc with rfl | ⟨y, hy, hc⟩
    · decide
    · exact (h y hy).2 c hc
/-! ### a spoilt text -/
def chkW (w : List Nat) (n : Nat) (h : List Nat) : Bool := decide ((ft2 w n h).length ≤ 60) && (decide (0 < (ft2 w n h).length) && ((ft2 w n h).all (fun c => decide (c < 128)) && (decide ((wds (ft2 w n h)).length ≤ 8) && ((wds (ft2 w n h)).all (fun z => decide (z.length ≤ 60)) && (chkZ w && chkZ h)))))
theorem chkW_all : (ways.all fun w => (List.range 7).all fun n => stops.all fun h => chkW w n h) = true := by decide +kernel
structure StepF (w : List Nat) (r : Vm.D) (h : List Nat) : Prop where
  wd : Wd (ft w r h)
  pos : 0 < (ft w r h).length
  few : (wds (ft w r h)).length ≤ 8
  ws : ∀ z ∈ wds (ft w r h), Wd z
  w : OkZ w
  h : OkZ h
theorem Wd.ok {z : List Nat} (h : Wd z) : OkZ z := ⟨by have := h.1; omega, h.2⟩
theorem stepF {w h : List Nat} {r : Vm.D} (q : isStep w r h = true) : StepF w r h := by
  obtain ⟨n, hn, rfl, c⟩ := step_num (P := fun w n h => chkW w n h = true) (by decide +kernel) (fun w hw n hn h hh => List.all_eq_true.mp (List.all_eq_true.mp (List.all_eq_true.mp chkW_all w hw) n hn) h hh) q
  unfold chkW at c
  obtain ⟨c1, c⟩ := Bool.and_eq_true_iff.mp c
  obtain ⟨c2, c⟩ := Bool.and_eq_true_iff.mp c
  obtain ⟨c3, c⟩ := Bool.and_eq_true_iff.mp c
  obtain ⟨c4, c⟩ := Bool.and_eq_true_iff.mp c
  obtain ⟨c5, c⟩ := Bool.and_eq_true_iff.mp c
  obtain ⟨c6, c7⟩ := Bool.and_eq_true_iff.mp c
  have a : Wd (ft2 w n h) := ⟨of_decide_eq_true c1, fun c hc => of_decide_eq_true (List.all_eq_true.mp c3 c hc)⟩
  rw [← ft_ft2 hn] at *
  exact ⟨a, of_decide_eq_true c2, of_decide_eq_true c4, fun z hz => ⟨of_decide_eq_true (List.all_eq_true.mp c5 z hz), (spl_ok _ [] a.ok z hz).2⟩, chkZ_ok c6, chkZ_ok c7⟩
def signs : List Nat := [97, 98, 99, 100, 101, 102, 103, 32, 48, 49, 50, 51, 52, 53, 54, 55, 56, 57, 114, 111, 119, 115, 104, 108, 116, 110, 117, 112, 95, 45, 68, 10]
theorem Pool.up {k m : Nat} {p : Vm.D} (h : Pool k p) (hm : k ≤ m) : Pool m p := by
  obtain ⟨X, a, r, c, s, rfl, h⟩ := h
  exact ⟨X, a, r, c, s, rfl, ⟨h.cells, h.a0, h.r0, h.c0, by have := h.c1; omega, h.s0, h.s1⟩⟩
theorem e_spoilt {k : Nat} {p : Vm.D} (hp : Pool k p) (hk : k ≤ 90000) {w h : List Nat} {r : Vm.D} (q : isStep w r h = true) : ∃ z p', F_L_spoilt [.io p, .val (S3 w r h)] = .ret (.val (.str z)) [p', .non] ∧ OkZ z ∧ Pool (k + 4) p' := by
  have sf := stepF q
  have e0 := e_L_text sf.w sf.h (lim_OkL (step_lim q))
  have e1 := e_split sf.wd.ok
  have t0 := sf.wd
  have t1 := sf.pos
  have t2 := sf.few
  have t3 := sf.ws
  generalize S3 w r h = S at e0 ⊢
  generalize ft w r h = t at *
  generalize wds t = ws at *
  have l60 := t0.1
  have lt : t.length ≤ 16777216 := by omega
  obtain ⟨kd, p1, e2, ⟨k1, k2⟩, hq⟩ := e_draw hp (by omega) (L := 7) (by omega) (by omega)
  obtain ⟨u, p2, e3, ⟨u1, u2⟩, hq⟩ := e_draw hq (by omega) (L := (t.length : Int)) (by omega) (by omega)
  obtain ⟨c, hc, p3, e4, hq⟩ := e_pickS hq (by omega) (z := signs) (by decide) (by decide)
  have c128 : c < 128 := by
    have : (signs.all fun c => decide (c < 128)) = true := by decide
    exact of_decide_eq_true (List.all_eq_true.mp this c hc)
  unfold signs at e4
  obtain ⟨A, hA, lA, mA⟩ := cutA t none (some u)
  obtain ⟨B, hB, lB, mB⟩ := cutA t (some (u + 1)) none
  obtain ⟨B', hB', lB', mB'⟩ := cutA t (some u) none
  have bA : A.length ≤ 60 := by omega
  have bB : B.length ≤ 60 := by omega
  have bB' : B'.length ≤ 60 := by omega
  have g1 : A.length + B.length ≤ 16777216 := by omega
  have g2 : A.length + 1 ≤ 16777216 := by omega
  have g3 : A.length + 1 + B'.length ≤ 16777216 := by omega
  have g4 : A.length + 1 + B.length ≤ 16777216 := by omega
  unfold F_L_spoilt m_L_spoilt
  have kk : kd = 0 ∨ kd = 1 ∨ kd = 2 ∨ kd = 3 ∨ kd = 4 ∨ kd = 5 ∨ kd = 6 := by omega
  rcases kk with rfl | rfl | rfl | rfl | rfl | rfl | rfl
  · refine ⟨A ++ B, p3, ?_, OkZ.of (by omega) (by omega) (fun c h => t0.2 c (mA c h)) (fun c h => t0.2 c (mB c h)), hq.up (by omega)⟩
    simp [Vm.run, slotsOf, outsOf, Vm.seq, retS, retN, Vm.next, exprS, Vm.asg, asgV, pat, parX, tgN, tgNil, tgCons, tgT, Vm.var, cst, Vm.bin, bop, Vm.two, Vm.cmp, cop, deq_str, deq_int, Vm.one, Vm.neg, notE, Vm.chain, andE, orE, ifx, ifS, Vm.tst, tstB, tAnd, tOr, tNot, nilA, consA, tupE, lstE, Vm.idx, ixd, Vm.slc, slcd, Vm.part, noPart, Vm.call, callV, hand, back, RV.ev, bcall, biLen, smeth, isiE, fldX, raiseX, R.bind, R.thn, R.of, EV.peek, EV.frz, frzs, peeks, SD.look, D.tru, fmtE, joinF, line, e0, e1, e2, e3, e4, lt, hA, hB, g1]
  · refine ⟨A ++ c :: B', p3, ?_, OkZ.of (by omega) (by rw [List.length_cons]; omega) (fun c h => t0.2 c (mA c h)) (fun x h => (List.mem_cons.mp h).elim (fun e => e ▸ c128) fun h => t0.2 x (mB' x h)), hq.up (by omega)⟩
    simp [Vm.run, slotsOf, outsOf, Vm.seq, retS, retN, Vm.next, exprS, Vm.asg, asgV, pat, parX, tgN, tgNil, tgCons, tgT, Vm.var, cst, Vm.bin, bop, Vm.two, Vm.cmp, cop, deq_str, deq_int, Vm.one, Vm.neg, notE, Vm.chain, andE, orE, ifx, ifS, Vm.tst, tstB, tAnd, tOr, tNot, nilA, consA, tupE, lstE, Vm.idx, ixd, Vm.slc, slcd, Vm.part, noPart, Vm.call, callV, hand, back, RV.ev, bcall, biLen, smeth, isiE, fldX, raiseX, R.bind, R.thn, R.of, EV.peek, EV.frz, frzs, peeks, SD.look, D.tru, fmtE, joinF, line, e0, e1, e2, e3, e4, lt, hA, hB', g2, g3]
  · refine ⟨A ++ c :: B, p3, ?_, OkZ.of (by omega) (by rw [List.length_cons]; omega) (fun c h => t0.2 c (mA c h)) (fun x h => (List.mem_cons.mp h).elim (fun e => e ▸ c128) fun h => t0.2 x (mB x h)), hq.up (by omega)⟩
    simp [Vm.run, slotsOf, outsOf, Vm.seq, retS, retN, Vm.next, exprS, Vm.asg, asgV, pat, parX, tgN, tgNil, tgCons, tgT, Vm.var, cst, Vm.bin, bop, Vm.two, Vm.cmp, cop, deq_str, deq_int, Vm.one, Vm.neg, notE, Vm.chain, andE, orE, ifx, ifS, Vm.tst, tstB, tAnd, tOr, tNot, nilA, consA, tupE, lstE, Vm.idx, ixd, Vm.slc, slcd, Vm.part, noPart, Vm.call, callV, hand, back, RV.ev, bcall, biLen, smeth, isiE, fldX, raiseX, R.bind, R.thn, R.of, EV.peek, EV.frz, frzs, peeks, SD.look, D.tru, fmtE, joinF, line, e0, e1, e2, e3, e4, lt, hA, hB, g2, g4]
  · obtain ⟨W1, h1, l1, m1⟩ := cutM ws none (some 1)
    obtain ⟨W2, h2, l2, m2⟩ := cutM ws (some 3) none
    obtain ⟨W3, h3, l3, m3⟩ := cutM ws (some 1) (some 3)
    obtain ⟨z, hz, oz⟩ := join_ok (ys := W1 ++ (W2 ++ W3)) (by rw [List.length_append, List.length_append]; omega) (fun y hy => (List.mem_append.mp hy).elim (fun h => t3 y (m1 y h)) fun h => (List.mem_append.mp h).elim (fun h => t3 y (m2 y h)) fun h => t3 y (m3 y h))
    simp only [List.map_append] at hz
    have f1 : W1.length + W2.length ≤ 16777216 := by omega
    have f2 : W1.length + W2.length + W3.length ≤ 16777216 := by omega
    refine ⟨z, p3, ?_, oz, hq.up (by omega)⟩
    simp [Vm.run, slotsOf, outsOf, Vm.seq, retS, retN, Vm.next, exprS, Vm.asg, asgV, pat, parX, tgN, tgNil, tgCons, tgT, Vm.var, cst, Vm.bin, bop, Vm.two, Vm.cmp, cop, deq_str, deq_int, Vm.one, Vm.neg, notE, Vm.chain, andE, orE, ifx, ifS, Vm.tst, tstB, tAnd, tOr, tNot, nilA, consA, tupE, lstE, Vm.idx, ixd, Vm.slc, slcd, Vm.part, noPart, Vm.call, callV, hand, back, RV.ev, bcall, biLen, smeth, isiE, fldX, raiseX, R.bind, R.thn, R.of, EV.peek, EV.frz, frzs, peeks, SD.look, D.tru, fmtE, joinF, line, e0, e1, e2, e3, e4, lt, h1, h2, h3, hz, f1, f2]
  · obtain ⟨W1, h1, l1, m1⟩ := cutM ws none (some (1 + u % 5))
    obtain ⟨W2, h2, l2, m2⟩ := cutM ws (some (2 + u % 5)) none
    obtain ⟨z, hz, oz⟩ := join_ok (ys := W1 ++ W2) (by rw [List.length_append]; omega) (fun y hy => (List.mem_append.mp hy).elim (fun h => t3 y (m1 y h)) fun h => t3 y (m2 y h))
    simp only [List.map_append] at hz
    have f1 : W1.length + W2.length ≤ 16777216 := by omega
    refine ⟨z, p3, ?_, oz, hq.up (by omega)⟩
    simp [Vm.run, slotsOf, outsOf, Vm.seq, retS, retN, Vm.next, exprS, Vm.asg, asgV, pat, parX, tgN, tgNil, tgCons, tgT, Vm.var, cst, Vm.bin, bop, Vm.two, Vm.cmp, cop, deq_str, deq_int, Vm.one, Vm.neg, notE, Vm.chain, andE, orE, ifx, ifS, Vm.tst, tstB, tAnd, tOr, tNot, nilA, consA, tupE, lstE, Vm.idx, ixd, Vm.slc, slcd, Vm.part, noPart, Vm.call, callV, hand, back, RV.ev, bcall, biLen, smeth, isiE, fldX, raiseX, R.bind, R.thn, R.of, EV.peek, EV.frz, frzs, peeks, SD.look, D.tru, fmtE, joinF, line, e0, e1, e2, e3, e4, lt, h1, h2, hz, f1]
  · obtain ⟨W1, h1, l1, m1⟩ := cutM ws none (some (1 + u % 5))
    obtain ⟨W2, h2, l2, m2⟩ := cutM ws (some (u % 5)) none
    obtain ⟨z, hz, oz⟩ := join_ok (ys := W1 ++ W2) (by rw [List.length_append]; omega) (fun y hy => (List.mem_append.mp hy).elim (fun h => t3 y (m1 y h)) fun h => t3 y (m2 y h))
    simp only [List.map_append] at hz
    have f1 : W1.length + W2.length ≤ 16777216 := by omega
    refine ⟨z, p3, ?_, oz, hq.up (by omega)⟩
    simp [Vm.run, slotsOf, outsOf, Vm.seq, retS, retN, Vm.next, exprS, Vm.asg, asgV, pat, parX, tgN, tgNil, tgCons, tgT, Vm.var, cst, Vm.bin, bop, Vm.two, Vm.cmp, cop, deq_str, deq_int, Vm.one, Vm.neg, notE, Vm.chain, andE, orE, ifx, ifS, Vm.tst, tstB, tAnd, tOr, tNot, nilA, consA, tupE, lstE, Vm.idx, ixd, Vm.slc, slcd, Vm.part, noPart, Vm.call, callV, hand, back, RV.ev, bcall, biLen, smeth, isiE, fldX, raiseX, R.bind, R.thn, R.of, EV.peek, EV.frz, frzs, peeks, SD.look, D.tru, fmtE, joinF, line, e0, e1, e2, e3, e4, lt, h1, h2, hz, f1]
  · obtain ⟨z, p4, e5, oz, hq⟩ := e_odd hq (by omega)
    refine ⟨z, p4, ?_, oz, hq.up (by omega)⟩
    simp [Vm.run, slotsOf, outsOf, Vm.seq, retS, retN, Vm.next, exprS, Vm.asg, asgV, pat, parX, tgN, tgNil, tgCons, tgT, Vm.var, cst, Vm.bin, bop, Vm.two, Vm.cmp, cop, deq_str, deq_int, Vm.one, Vm.neg, notE, Vm.chain, andE, orE, ifx, ifS, Vm.tst, tstB, tAnd, tOr, tNot, nilA, consA, tupE, lstE, Vm.idx, ixd, Vm.slc, slcd, Vm.part, noPart, Vm.call, callV, hand, back, RV.ev, bcall, biLen, smeth, isiE, fldX, raiseX, R.bind, R.thn, R.of, EV.peek, EV.frz, frzs, peeks, SD.look, D.tru, fmtE, joinF, line, e0, e1, e2, e3, e4, e5, lt]
end K19

set_option Elab.async false
set_option linter.all false
set_option maxRecDepth 100000
set_option maxHeartbeats 4000000
namespace K19
open PySem Vm
/-! ### the pool -/
def poolB : Vm.Tx := asg 1 (bin .mod (bcall biIntS (consA (bin .add (bin .add (bin .mul (var 1) (cst (.int 31))) (var 2)) (cst (.int 1))) nilA)) (cst (.int 1009)))
theorem pool_loop (S : Vm.D) : ∀ (ns : List Int) (seed : Int) (s : SD), 0 ≤ seed → seed < 1009 → s.calm = true →
    ∃ e t, loop (tgN 2) poolB (ns.map .int) [.sh S, .sh (.int seed), s] = .nx [.sh S, .sh (.int e), t] ∧ 0 ≤ e ∧ e < 1009 ∧ t.calm = true
  | [], seed, s, h1, h2, h3 => ⟨seed, s, rfl, h1, h2, h3⟩
  | n :: ns, seed, s, h1, h2, h3 => by
    have g1 := Int.emod_nonneg (seed * 31 + n + 1) (by decide : (1009 : Int) ≠ 0)
    have g2 := Int.emod_lt_of_pos (seed * 31 + n + 1) (by decide : (0 : Int) < 1009)
    obtain ⟨e, t, ih, q⟩ := pool_loop S ns ((seed * 31 + n + 1) % 1009) (.sh (.int n)) g1 g2 rfl
    refine ⟨e, t, ?_, q⟩
    have tg : tgN 2 (.int n) [.sh S, .sh (.int seed), s] = some [.sh S, .sh (.int seed), .sh (.int n)] := by
      revert h3
      cases s <;> intro h3 <;> first | exact Bool.noConfusion h3 | rfl
    have m1 : seed.natAbs.log2 + (31 : Int).natAbs.log2 < 1000000 := by
      have := log2_lt (i := seed) (b := 1009) h1 (by omega)
      have := log2_lt (i := 31) (b := 31) (by decide) (by decide)
      omega
    have bd : poolB [.sh S, .sh (.int seed), .sh (.int n)] = .nx [.sh S, .sh (.int ((seed * 31 + n + 1) % 1009)), .sh (.int n)] := by
      unfold poolB
      have m1 : seed.natAbs.log2 + Nat.log2 31 < 1000000 := m1
      simp [Vm.run, slotsOf, outsOf, Vm.seq, retS, retN, Vm.next, exprS, Vm.asg, asgV, pat, parX, tgN, tgNil, tgCons, tgT, Vm.var, cst, Vm.bin, bop, Vm.two, Vm.cmp, cop, deq_str, deq_int, Vm.one, Vm.neg, notE, Vm.chain, andE, orE, ifx, ifS, Vm.tst, tstB, tAnd, tOr, tNot, nilA, consA, tupE, lstE, Vm.idx, ixd, Vm.slc, slcd, Vm.part, noPart, Vm.call, callV, hand, back, RV.ev, bcall, biLen, smeth, isiE, fldX, raiseX, R.bind, R.thn, R.of, EV.peek, EV.frz, frzs, peeks, SD.look, D.tru, fmtE, joinF, line, biIntS, m1]
    rw [List.map_cons]
    unfold loop
    rw [tg]
    simp only [bd]
    exact ih
theorem e_pool (ns : List Int) (hl : ns.length ≤ 100000) : ∃ p, F_L_pool [.val (.lst (ns.map .int))] = .ret (.fr p) [.non] ∧ Pool 0 p := by
  obtain ⟨e, t, hL, e1, e2, tc⟩ := pool_loop (.lst (ns.map .int)) ns 0 .un (by decide) (by decide) rfl
  refine ⟨P5 ((ns.map Vm.D.int).map fun d => match d with | .int i => .int i.natAbs | d => d) 0 0 0 e, ?_, _, _, _, _, _, rfl, ⟨?_, by decide, by decide, by decide, by decide, e1, e2⟩⟩
  · unfold F_L_pool m_L_pool
    have f : forS (tgN 2) (itE (var 0)) poolB [.sh (.lst (ns.map .int)), .sh (.int 0), .un] = .nx [.sh (.lst (ns.map .int)), .sh (.int e), t] := by
      have i1 : itE (var 0) [.sh (.lst (ns.map .int)), .sh (.int 0), .un] = .ok (ns.map .int, none) [.sh (.lst (ns.map .int)), .sh (.int 0), .un] := by
        unfold itE
        simp [Vm.run, slotsOf, outsOf, Vm.seq, retS, retN, Vm.next, exprS, Vm.asg, asgV, pat, parX, tgN, tgNil, tgCons, tgT, Vm.var, cst, Vm.bin, bop, Vm.two, Vm.cmp, cop, deq_str, deq_int, Vm.one, Vm.neg, notE, Vm.chain, andE, orE, ifx, ifS, Vm.tst, tstB, tAnd, tOr, tNot, nilA, consA, tupE, lstE, Vm.idx, ixd, Vm.slc, slcd, Vm.part, noPart, Vm.call, callV, hand, back, RV.ev, bcall, biLen, smeth, isiE, fldX, raiseX, R.bind, R.thn, R.of, EV.peek, EV.frz, frzs, peeks, SD.look, D.tru, fmtE, joinF, line, itemsOf, EV.slot]
      unfold forS
      rw [i1]
      simp only [R.thn, lock, locked, hL, S.map]
    have lc : lcE [2] (tgN 2) (itE (var 0)) okT (bcall biAbs (consA (var 2) nilA)) [.sh (.lst (ns.map .int)), .sh (.int e), t] = .ok (.fr (.lst ((ns.map Vm.D.int).map fun d => match d with | .int i => .int i.natAbs | d => d))) [.sh (.lst (ns.map .int)), .sh (.int e), t] := by
      have i1 : itE (var 0) [.sh (.lst (ns.map .int)), .sh (.int e), t] = .ok (ns.map .int, none) [.sh (.lst (ns.map .int)), .sh (.int e), t] := by
        unfold itE
        simp [Vm.run, slotsOf, outsOf, Vm.seq, retS, retN, Vm.next, exprS, Vm.asg, asgV, pat, parX, tgN, tgNil, tgCons, tgT, Vm.var, cst, Vm.bin, bop, Vm.two, Vm.cmp, cop, deq_str, deq_int, Vm.one, Vm.neg, notE, Vm.chain, andE, orE, ifx, ifS, Vm.tst, tstB, tAnd, tOr, tNot, nilA, consA, tupE, lstE, Vm.idx, ixd, Vm.slc, slcd, Vm.part, noPart, Vm.call, callV, hand, back, RV.ev, bcall, biLen, smeth, isiE, fldX, raiseX, R.bind, R.thn, R.of, EV.peek, EV.frz, frzs, peeks, SD.look, D.tru, fmtE, joinF, line, itemsOf, EV.slot]
      have cg := comp_gen (i := 2) (c := okT) (elt := bcall biAbs (consA (var 2) nilA)) (p := fun _ => true) (f := fun d => match d with | .int i => .int i.natAbs | d => d) (ρ := [.sh (.lst (ns.map .int)), .sh (.int e), .un]) rfl (ns.map .int) (fun x hx => by
        obtain ⟨i, _, rfl⟩ := List.mem_map.mp hx
        exact ⟨rfl, fun _ => by simp [Vm.run, slotsOf, outsOf, Vm.seq, retS, retN, Vm.next, exprS, Vm.asg, asgV, pat, parX, tgN, tgNil, tgCons, tgT, Vm.var, cst, Vm.bin, bop, Vm.two, Vm.cmp, cop, deq_str, deq_int, Vm.one, Vm.neg, notE, Vm.chain, andE, orE, ifx, ifS, Vm.tst, tstB, tAnd, tOr, tNot, nilA, consA, tupE, lstE, Vm.idx, ixd, Vm.slc, slcd, Vm.part, noPart, Vm.call, callV, hand, back, RV.ev, bcall, biLen, smeth, isiE, fldX, raiseX, R.bind, R.thn, R.of, EV.peek, EV.frz, frzs, peeks, SD.look, D.tru, fmtE, joinF, line, biAbs]⟩)
      rw [List.filter_eq_self.mpr fun _ _ => rfl] at cg
      have cl : calmAt [2] [.sh (.lst (ns.map .int)), .sh (.int e), t] = true := by
        show (t.calm && true) = true
        rw [tc]
        rfl
      have ln : decide ((ns.map Vm.D.int).length < line) = true := decide_eq_true (by rw [List.length_map]; show _ < 16777216; omega)
      unfold lcE
      rw [i1]
      simp only [R.bind, cl, ln, Bool.true_and, if_true, lock, locked]
      show (match comp [2] (tgN 2) okT (bcall biAbs (consA (var 2) nilA)) (ns.map .int) [.sh (.lst (ns.map .int)), .sh (.int e), .un] with
        | .ok ds ρ2 => R.ok (EV.fr (.lst ds)) (putE [.sh (.lst (ns.map .int)), .sh (.int e), t] ρ2 [2])
        | _ => .bad) = _
      rw [cg]
      rfl
    show Vm.run 1 3 (seq _ (seq (forS _ _ poolB) _)) _ = _
    generalize forS (tgN 2) (itE (var 0)) poolB = FS at f ⊢
    generalize lcE [2] (tgN 2) (itE (var 0)) okT (bcall biAbs (consA (var 2) nilA)) = LC at lc ⊢
    simp [Vm.run, slotsOf, outsOf, Vm.seq, retS, retN, Vm.next, exprS, Vm.asg, asgV, pat, parX, tgN, tgNil, tgCons, tgT, Vm.var, cst, Vm.bin, bop, Vm.two, Vm.cmp, cop, deq_str, deq_int, Vm.one, Vm.neg, notE, Vm.chain, andE, orE, ifx, ifS, Vm.tst, tstB, tAnd, tOr, tNot, nilA, consA, tupE, lstE, Vm.idx, ixd, Vm.slc, slcd, Vm.part, noPart, Vm.call, callV, hand, back, RV.ev, bcall, biLen, smeth, isiE, fldX, raiseX, R.bind, R.thn, R.of, EV.peek, EV.frz, frzs, peeks, SD.look, D.tru, fmtE, joinF, line, f, lc]
  · intro d hd
    rw [List.map_map] at hd
    obtain ⟨i, _, rfl⟩ := List.mem_map.mp hd
    exact ⟨_, rfl⟩
/-! ### the law's own loops -/
def wayN : List (List Nat) := [[100, 111, 119, 110], [117, 112], [110, 101, 97, 114, 95, 97, 98, 111, 118, 101], [110, 101, 97, 114, 95, 98, 101, 108, 111, 119], [100, 114, 111, 112], [115, 105, 100, 101], [110, 101, 97, 114], [68, 111, 119, 110], [], [100, 111, 119, 110, 32, 114, 111, 119, 115, 32, 49]]
abbrev wayV : SD := .ow false false (.lst (wayN.map .str))
def body1 : Vm.Tx := (seq (asg 7 (idx (var 2) (bin .mod (bin .add (call F_L_draw [true, false] [] (consA (var 1) (consA (cst (.int 10)) nilA))) (bin .mul (cst (.int 2)) (var 3))) (cst (.int 10))))) (seq (asg 8 (call F_L_limit [true] [] (consA (var 1) nilA))) (seq (asg 9 (call F_L_stop [true] [] (consA (var 1) nilA))) (seq (forS (tgN 10) (itE (lstE (consA (var 8) (consA (cst .non) nilA)))) (ifS (tOr (tNot (tst (call F_L_made [] [] (consA (var 7) (consA (var 10) (consA (var 9) nilA)))))) (tNot (tst (call F_L_made [] [] (consA (var 7) (consA (var 10) (consA (cst (.str [45])) nilA))))))) (retS (cst (.bl false))) next)) (ifS (tNot (tst (call F_L_short [] [] (consA (var 7) (consA (var 8) (consA (var 9) nilA)))))) (retS (cst (.bl false))) next)))))
theorem e_body1 {k : Nat} {p : Vm.D} (hp : Pool k p) (hk : k ≤ 80000) (S : Vm.D) (i : Int) (i0 : 0 ≤ i) (i1 : i ≤ 3) {s7 s8 s9 s10 : SD} (hs : (s7 = .un ∧ s8 = .un ∧ s9 = .un ∧ s10 = .un) ∨ ∃ a b c d, s7 = .sh a ∧ s8 = .sh b ∧ s9 = .sh c ∧ s10 = .sh d) :
    ∃ p' a b c d, body1 [.sh S, .ow false false p, wayV, .sh (.int i), .un, .un, .un, s7, s8, s9, s10] = .nx [.sh S, .ow false false p', wayV, .sh (.int i), .un, .un, .un, .sh a, .sh b, .sh c, .sh d] ∧ Pool (k + 4) p' := by
  obtain ⟨v, p1, e1, ⟨v1, v2⟩, q⟩ := e_draw hp (by omega) (L := 10) (by omega) (by omega)
  obtain ⟨r, p2, e2, hr, q⟩ := e_limit q (by omega)
  obtain ⟨h, p3, e3, hh, q⟩ := e_stop q (by omega)
  have wl : (wayN.map Vm.D.str).length = 10 := rfl
  obtain ⟨d, hd, at1⟩ := atI_mem (xs := wayN.map Vm.D.str) (i := (v + 2 * i) % 10) (by omega) (by rw [wl]; omega)
  obtain ⟨w, hw, rfl⟩ := List.mem_map.mp hd
  have ow : OkZ w := chkZ_ok (List.all_eq_true.mp (show (wayN.all chkZ) = true by decide) w hw)
  have h0 : OkZ [45] := ⟨by decide, by decide⟩
  have m1 := e_L_made ow hh hr
  have m2 := e_L_made ow h0 hr
  have m3 := e_L_made ow hh .non
  have m4 := e_L_made ow h0 .non
  have m5 := e_L_short ow hh hr
  have b1 : Nat.log2 2 + i.natAbs.log2 < 1000000 := by
    have := log2_lt (i := i) (b := 3) i0 i1
    have : Nat.log2 2 ≤ 2 := Nat.log2_le_self 2
    omega
  refine ⟨p3, .str w, r, .str h, .non, ?_, q⟩
  unfold body1 wayV
  generalize wayN.map Vm.D.str = WN at *
  rcases hs with ⟨rfl, rfl, rfl, rfl⟩ | ⟨a, b, c, d, rfl, rfl, rfl, rfl⟩
  · simp [Vm.run, slotsOf, outsOf, Vm.seq, retS, retN, Vm.next, exprS, Vm.asg, asgV, pat, parX, tgN, tgNil, tgCons, tgT, Vm.var, cst, Vm.bin, bop, Vm.two, Vm.cmp, cop, deq_str, deq_int, Vm.one, Vm.neg, notE, Vm.chain, andE, orE, ifx, ifS, Vm.tst, tstB, tAnd, tOr, tNot, nilA, consA, tupE, lstE, Vm.idx, ixd, Vm.slc, slcd, Vm.part, noPart, Vm.call, callV, hand, back, RV.ev, bcall, biLen, smeth, isiE, fldX, raiseX, R.bind, R.thn, R.of, EV.peek, EV.frz, frzs, peeks, SD.look, D.tru, fmtE, joinF, line, e1, e2, e3, at1, m1, m2, m3, m4, m5, b1, forS, itE, itemsOf, EV.slot, loop, lock, locked, Vm.S.map, R.thn]
  · simp [Vm.run, slotsOf, outsOf, Vm.seq, retS, retN, Vm.next, exprS, Vm.asg, asgV, pat, parX, tgN, tgNil, tgCons, tgT, Vm.var, cst, Vm.bin, bop, Vm.two, Vm.cmp, cop, deq_str, deq_int, Vm.one, Vm.neg, notE, Vm.chain, andE, orE, ifx, ifS, Vm.tst, tstB, tAnd, tOr, tNot, nilA, consA, tupE, lstE, Vm.idx, ixd, Vm.slc, slcd, Vm.part, noPart, Vm.call, callV, hand, back, RV.ev, bcall, biLen, smeth, isiE, fldX, raiseX, R.bind, R.thn, R.of, EV.peek, EV.frz, frzs, peeks, SD.look, D.tru, fmtE, joinF, line, e1, e2, e3, at1, m1, m2, m3, m4, m5, b1, forS, itE, itemsOf, EV.slot, loop, lock, locked, Vm.S.map, R.thn]
def body2 : Vm.Tx := (exprS (append 5 (call F_L_spoilt [true, false] [] (consA (var 1) (consA (var 4) nilA)))))
theorem e_body2 {k : Nat} {p : Vm.D} (hp : Pool k p) (hk : k ≤ 80000) (S : Vm.D) (s3 s6 s7 s8 s9 s10 : SD) {w h : List Nat} {r : Vm.D} (q : isStep w r h = true) (zs : List Vm.D) (hz : zs.length ≤ 100) :
    ∃ p' z, body2 [.sh S, .ow false false p, wayV, s3, .sh (S3 w r h), .ow false false (.lst zs), s6, s7, s8, s9, s10] = .nx [.sh S, .ow false false p', wayV, s3, .sh (S3 w r h), .ow false false (.lst (zs ++ [.str z])), s6, s7, s8, s9, s10] ∧ OkZ z ∧ Pool (k + 4) p' := by
  obtain ⟨z, p', e, oz, hq⟩ := e_spoilt hp (by omega) q
  refine ⟨p', z, ?_, oz, hq⟩
  unfold body2
  have l : zs.length < 16777216 := by omega
  generalize S3 w r h = X at *
  simp [Vm.run, slotsOf, outsOf, Vm.seq, retS, retN, Vm.next, exprS, Vm.asg, asgV, pat, parX, tgN, tgNil, tgCons, tgT, Vm.var, cst, Vm.bin, bop, Vm.two, Vm.cmp, cop, deq_str, deq_int, Vm.one, Vm.neg, notE, Vm.chain, andE, orE, ifx, ifS, Vm.tst, tstB, tAnd, tOr, tNot, nilA, consA, tupE, lstE, Vm.idx, ixd, Vm.slc, slcd, Vm.part, noPart, Vm.call, callV, hand, back, RV.ev, bcall, biLen, smeth, isiE, fldX, raiseX, R.bind, R.thn, R.of, EV.peek, EV.frz, frzs, peeks, SD.look, D.tru, fmtE, joinF, line, e, append, ownL, l]
def body3 : Vm.Tx := (ifS (tNot (tst (call F_L_reads [] [] (consA (var 6) nilA)))) (retS (cst (.bl false))) next)
theorem e_body3 {z : List Nat} (hz : OkZ z) (s0 s1 s2 s3 s4 s5 s7 s8 s9 s10 : SD) : body3 [s0, s1, s2, s3, s4, s5, .sh (.str z), s7, s8, s9, s10] = .nx [s0, s1, s2, s3, s4, s5, .sh (.str z), s7, s8, s9, s10] := by
  have e := e_L_reads hz
  unfold body3
  simp [Vm.run, slotsOf, outsOf, Vm.seq, retS, retN, Vm.next, exprS, Vm.asg, asgV, pat, parX, tgN, tgNil, tgCons, tgT, Vm.var, cst, Vm.bin, bop, Vm.two, Vm.cmp, cop, deq_str, deq_int, Vm.one, Vm.neg, notE, Vm.chain, andE, orE, ifx, ifS, Vm.tst, tstB, tAnd, tOr, tNot, nilA, consA, tupE, lstE, Vm.idx, ixd, Vm.slc, slcd, Vm.part, noPart, Vm.call, callV, hand, back, RV.ev, bcall, biLen, smeth, isiE, fldX, raiseX, R.bind, R.thn, R.of, EV.peek, EV.frz, frzs, peeks, SD.look, D.tru, fmtE, joinF, line, e]
theorem good_read {w h : List Nat} {r : Vm.D} (q : isStep w r h = true) : F_read_fill [.val (.str (ft w r h))] = .ret (.val (S3 w r h)) [.non] := by
  have sf := stepF q
  rw [e_read_fill sf.wd.ok]
  obtain ⟨n, hn, rfl, c⟩ := chk_step q
  unfold chk at c
  rw [← ft_ft2 hn] at c
  obtain ⟨_, c2⟩ := Bool.and_eq_true_iff.mp c
  obtain ⟨c2, c3⟩ := Bool.and_eq_true_iff.mp c2
  obtain ⟨c3, c4⟩ := Bool.and_eq_true_iff.mp c3
  have a : acc (ft w (toD n) h) = true := by
    unfold acc
    rw [of_decide_eq_true c2, of_decide_eq_true c3, rowsB_ok c4, q]
    simp
  rw [if_pos a, of_decide_eq_true c2, of_decide_eq_true c3, rowsB_ok c4]
theorem range3 (ρ : Vm.Env) : itRange (cst (.int 3)) ρ = .ok ([.int 0, .int 1, .int 2], none) ρ := by
  unfold itRange
  simp [Vm.run, slotsOf, outsOf, Vm.seq, retS, retN, Vm.next, exprS, Vm.asg, asgV, pat, parX, tgN, tgNil, tgCons, tgT, Vm.var, cst, Vm.bin, bop, Vm.two, Vm.cmp, cop, deq_str, deq_int, Vm.one, Vm.neg, notE, Vm.chain, andE, orE, ifx, ifS, Vm.tst, tstB, tAnd, tOr, tNot, nilA, consA, tupE, lstE, Vm.idx, ixd, Vm.slc, slcd, Vm.part, noPart, Vm.call, callV, hand, back, RV.ev, bcall, biLen, smeth, isiE, fldX, raiseX, R.bind, R.thn, R.of, EV.peek, EV.frz, frzs, peeks, SD.look, D.tru, fmtE, joinF, line, upto]
theorem e_loop1 {p : Vm.D} (hp : Pool 0 p) (S : Vm.D) : ∃ p' a b c d, forS (tgN 3) (itRange (cst (.int 3))) body1 [.sh S, .ow false false p, wayV, .un, .un, .un, .un, .un, .un, .un, .un] = .nx [.sh S, .ow false false p', wayV, .sh (.int 2), .un, .un, .un, .sh a, .sh b, .sh c, .sh d] ∧ Pool 12 p' := by
  obtain ⟨p1, a, b, c, d, e1, hp⟩ := e_body1 hp (by decide) S 0 (by decide) (by decide) (.inl ⟨rfl, rfl, rfl, rfl⟩)
  obtain ⟨p2, a, b, c, d, e2, hp⟩ := e_body1 hp (by decide) S 1 (by decide) (by decide) (.inr ⟨a, b, c, d, rfl, rfl, rfl, rfl⟩)
  obtain ⟨p3, a, b, c, d, e3, hp⟩ := e_body1 hp (by decide) S 2 (by decide) (by decide) (.inr ⟨a, b, c, d, rfl, rfl, rfl, rfl⟩)
  refine ⟨p3, a, b, c, d, ?_, hp⟩
  unfold forS
  rw [range3]
  generalize body1 = B at *
  unfold wayV at *
  simp [R.thn, lock, locked, Vm.S.map, loop, tgN, e1, e2, e3]
theorem e_loop2 {p : Vm.D} (hp : Pool 20 p) (S : Vm.D) {w h : List Nat} {r : Vm.D} (q : isStep w r h = true) (x y : Vm.D) (s6 s7 s8 s9 s10 : SD) : ∃ p' z1 z2 z3, forS (tgN 3) (itRange (cst (.int 3))) body2 [.sh S, .ow false false p, wayV, .sh (.int 2), .sh (S3 w r h), .ow false false (.lst [x, y]), s6, s7, s8, s9, s10] = .nx [.sh S, .ow false false p', wayV, .sh (.int 2), .sh (S3 w r h), .ow false false (.lst [x, y, .str z1, .str z2, .str z3]), s6, s7, s8, s9, s10] ∧ OkZ z1 ∧ OkZ z2 ∧ OkZ z3 := by
  obtain ⟨p1, z1, e1, o1, hp⟩ := e_body2 hp (by decide) S (.sh (.int 0)) s6 s7 s8 s9 s10 q [x, y] (by simp only [List.length_cons, List.length_nil]; decide)
  obtain ⟨p2, z2, e2, o2, hp⟩ := e_body2 hp (by decide) S (.sh (.int 1)) s6 s7 s8 s9 s10 q [x, y, .str z1] (by simp only [List.length_cons, List.length_nil]; decide)
  obtain ⟨p3, z3, e3, o3, hp⟩ := e_body2 hp (by decide) S (.sh (.int 2)) s6 s7 s8 s9 s10 q [x, y, .str z1, .str z2] (by simp only [List.length_cons, List.length_nil]; decide)
  refine ⟨p3, z1, z2, z3, ?_, o1, o2, o3⟩
  unfold forS
  rw [range3]
  generalize body2 = B at *
  generalize S3 w r h = X at *
  unfold wayV at *
  simp only [List.cons_append, List.nil_append] at e1 e2 e3
  simp [R.thn, lock, locked, Vm.S.map, loop, tgN, e1, e2, e3]
theorem e_loop3 {z1 z2 z3 z4 z5 : List Nat} (o1 : OkZ z1) (o2 : OkZ z2) (o3 : OkZ z3) (o4 : OkZ z4) (o5 : OkZ z5) (s0 s1 s2 s3 s4 s7 s8 s9 s10 : SD) :
    forS (tgN 6) (itE (var 5)) body3 [s0, s1, s2, s3, s4, .ow false false (.lst [.str z1, .str z2, .str z3, .str z4, .str z5]), .un, s7, s8, s9, s10] = .nx [s0, s1, s2, s3, s4, .ow false false (.lst [.str z1, .str z2, .str z3, .str z4, .str z5]), .sh (.str z5), s7, s8, s9, s10] := by
  have e1 := e_body3 o1
  have e2 := e_body3 o2
  have e3 := e_body3 o3
  have e4 := e_body3 o4
  have e5 := e_body3 o5
  unfold forS
  generalize body3 = B at *
  simp [itE, var, R.bind, EV.peek, itemsOf, EV.slot, SD.look, R.thn, lock, locked, Vm.S.map, loop, tgN, e1, e2, e3, e4, e5]
theorem e_law (ns : List Int) (hl : ns.length ≤ 100000) : F_law [.val (.lst (ns.map .int))] = .ret (.val (.bl true)) [.non] := by
  obtain ⟨p, e0, hp⟩ := e_pool ns hl
  obtain ⟨p1, a, b, c, d, e1, hp⟩ := e_loop1 hp (.lst (ns.map .int))
  obtain ⟨w, r, h, p2, e2, q, hp⟩ := e_good hp (by decide)
  obtain ⟨z, p3, e3, oz, hp⟩ := e_odd hp (by decide)
  have sf := stepF q
  have hL := lim_OkL (step_lim q)
  have e4 := e_L_text sf.w sf.h hL
  obtain ⟨p4, z1, z2, z3, e5, o1, o2, o3⟩ := e_loop2 (hp.up (by decide)) (.lst (ns.map .int)) q (.str (ft w r h)) (.str z) .un (.sh a) (.sh b) (.sh c) (.sh d)
  have e6 := e_loop3 sf.wd.ok oz o1 o2 o3 (.sh (.lst (ns.map .int))) (.ow false false p4) wayV (.sh (.int 2)) (.sh (S3 w r h)) (.sh a) (.sh b) (.sh c) (.sh d)
  have e7 := e_fill_text sf.w sf.h hL
  have e8 := good_read q
  have e9 := e_L_is_step sf.w sf.h hL ⟨rfl, rfl, rfl⟩
  unfold F_law m_law
  show Vm.run 1 11 (seq _ (seq _ (seq (forS _ _ body1) (seq _ (seq _ (seq (forS _ _ body2) (seq (forS _ _ body3) (seq _ _)))))))) _ = _
  generalize forS (tgN 3) (itRange (cst (.int 3))) body1 = FS1 at *
  generalize forS (tgN 3) (itRange (cst (.int 3))) body2 = FS2 at *
  generalize forS (tgN 6) (itE (var 5)) body3 = FS3 at *
  generalize S3 w r h = X at *
  generalize ft w r h = t at *
  unfold wayV wayN at *
  simp only [List.map_cons, List.map_nil] at e1 e5 e6
  generalize ns.map Vm.D.int = N at *
  simp [Vm.run, slotsOf, outsOf, Vm.seq, retS, retN, Vm.next, exprS, Vm.asg, asgV, pat, parX, tgN, tgNil, tgCons, tgT, Vm.var, cst, Vm.bin, bop, Vm.two, Vm.cmp, cop, deq_str, deq_int, Vm.one, Vm.neg, notE, Vm.chain, andE, orE, ifx, ifS, Vm.tst, tstB, tAnd, tOr, tNot, nilA, consA, tupE, lstE, Vm.idx, ixd, Vm.slc, slcd, Vm.part, noPart, Vm.call, callV, hand, back, RV.ev, bcall, biLen, smeth, isiE, fldX, raiseX, R.bind, R.thn, R.of, EV.peek, EV.frz, frzs, peeks, SD.look, D.tru, fmtE, joinF, line, e0, e1, e2, e3, e4, e5, e6, e7, e8, e9]
end K19

set_option Elab.async false
set_option linter.all false
set_option maxRecDepth 100000
set_option maxHeartbeats 4000000
namespace K19
open PySem PySem.Spec PyProof.Rows L2 Vm
def spLaw (K : PySem.W.Frag) : Sp := fun vs H Q _ => spF (tb K) F_law 1 vs H Q fun _ _ _ => False
theorem facts {w : World} {K : PySem.W.Frag} {h : Heap} {mg : Str → Option Value} {f : Addr} (X : K.In h) (G : h.Ns mainGlobals mg) (hfa : mg ("law" : Str) = some (.ref f)) (c : MH.Says ex fn K) :
    ∃ fd : FuncData, (∀ (s : Shared) (v : Value), BindsTo s fd ⟨[v], []⟩ [("_law_script", v)]) ∧ ∀ base : Heap, K.In base → base.Ns mainGlobals mg → FnOk P w K mg base CX0 6 f fd ["_law_script"] (spLaw K) := by
  have T : Tx K mg := ⟨c, h, X, G⟩
  have e := hfa.symm.trans T.g_law
  cases e
  obtain ⟨fd, D⟩ := T.f_law
  refine ⟨fd, fun s v => ?_, fun base _ _ => ok0 (ok_law T D)⟩
  exact FunD.bindsA (ps := ["_law_script"]) D (fun _ _ _ _ _ _ us hl => match us, hl with | [_], _ => rfl) s [v] rfl
end K19
open PySem PySem.W PySem.Calls PyProof.Rows
set_option maxHeartbeats 0 in
theorem PySem.Challenge.cw_pagebureau_k19_fill_text_and_refusals_holds : PySem.Challenge.rw_pagebureau_k19_fill_text_and_refusals.Holds := by
  w_on; o_law
  refine HandSHeadRun.head_any (r := OpenLaw.row PySem.Challenge.rw_pagebureau_k19_fill_text_and_refusals) (q := view (OpenLaw.row PySem.Challenge.rw_pagebureau_k19_fill_text_and_refusals).prog [44]) (H := K19.hk) (ob := K19.ob) (M := 20000) (loose := K19.names) (d := HandSHeadRun.topDef (OpenLaw.row PySem.Challenge.rw_pagebureau_k19_fill_text_and_refusals).prog 44) (kwd := []) (fun s => MH.obs_eq)
    (by kernel_rfl) (fun s => by kernel_rfl) K19.run (by kernel_rfl) (by kernel_rfl) (by kernel_rfl) (by rfl) (by first | assumption | decide +kernel) (by decide +kernel) ⟨rfl, rfl, rfl, rfl, rfl, by decide +kernel⟩ ?hw ?hc
  case hw => w_witness2
  case hc =>
    refine L2.walk_ofE (l := PySem.Challenge.rw_pagebureau_k19_fill_text_and_refusals) (n := 63) (k := 6) (x := "_law_script") (CX := L2.CX0) rfl (by decide) (by kernel_rfl) ⟨rfl, by decide, by decide⟩ ?F (fun _ _ _ _ z => z)
    intro w mg fa h Y G hmg0
    obtain ⟨K, KX, c⟩ := Y
    have hmg : mg ("law" : PySem.Str) = some (.ref fa) := by
      have e : (HandSHeadRun.topDef (OpenLaw.row PySem.Challenge.rw_pagebureau_k19_fill_text_and_refusals).prog 44).name = ("law" : PySem.Str) := by kernel_rfl
      rw [← e]
      exact hmg0
    obtain ⟨fd, hb, hF⟩ := K19.facts (w := w) KX G hmg c
    exact ⟨K, fd, K19.spLaw K, KX, hb, fun H a ns hl _ hS => Vm.law_sp (K19.e_law ns (by omega)) hS, hF⟩

