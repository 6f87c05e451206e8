import PyProof.Rows.All
import Wide.All
import OpenK.AllK
import Wide.FinOn
import Lean
import PyProof.EqAt
import PyProof.EqKinds
import PyProof.TupleCall
import PyProof.Rows.SortShellK
import PyProof.Rows.SortStr
import PyProof.Rows.SortWalk
import PyProof.StrBlockH
import PyProof.StrLawsIn
import PySem.Challenge.RW_allparts_k49_books_written
section
/-! Value semantics: what the defs of a text do, told as functions over plain trees. -/
namespace VS
abbrev Tx := List Nat
inductive T where
  | non | bl (b : Bool) | int (i : Int) | str (s : Tx) | scr (ns : List Int)
  | tup (l : List T) | lst (l : List T) | dct (kd : Nat) (l : List (T × T)) | obj (c : Nat) (fs : List (Nat × T))
  deriving Inhabited
/-- at most so many items, signs -/
def LINE : Nat := 16777216

mutual
@[simp] def imm : T → Bool
  | .lst _ => false
  | .dct _ _ => false
  | .obj _ _ => false
  | .tup l => imms l
  | _ => true
@[simp] def imms : List T → Bool
  | [] => true
  | t :: r => imm t && imms r
end
mutual
@[simp] def eqT : T → T → Bool
  | .non, .non => true
  | .bl a, .bl b => a == b
  | .bl a, .int i => (if a then 1 else 0) == i
  | .int i, .bl a => i == (if a then 1 else 0)
  | .int i, .int j => i == j
  | .str s, .str t => s == t
  | .tup a, .tup b => eqTs a b
  | .lst a, .lst b => eqTs a b
  | _, _ => false
@[simp] def eqTs : List T → List T → Bool
  | [], [] => true
  | a :: as, b :: bs => eqT a b && eqTs as bs
  | _, _ => false
end
/-- what == is known of: no dicts, no objects, not too deep -/
@[simp] def eqD : Nat → T → Bool
  | _, .non => true
  | _, .bl _ => true
  | _, .int _ => true
  | _, .str _ => true
  | n + 1, .tup l => l.all (eqD n)
  | n + 1, .lst l => l.all (eqD n)
  | _, _ => false
inductive Md where | fr | pu | bo
  deriving DecidableEq, Inhabited
@[simp] def Md.join : Md → Md → Md
  | .bo, _ => .bo
  | _, .bo => .bo
  | .pu, _ => .pu
  | _, .pu => .pu
  | .fr, .fr => .fr
inductive Cell where | pu (t : T) | ow (t : T)
  deriving Inhabited
abbrev Env := List (Option Cell)
abbrev Val := Md × T
abbrev Ex := Env → Option Val
abbrev Exs := Env → Option (List Val)
/-- an immutable thing is as good as a new one -/
@[simp] def up (m : Md) (t : T) : Val := (if imm t then .fr else m, t)
@[simp] def isMut : T → Bool
  | .lst _ => true
  | .dct _ _ => true
  | .obj _ _ => true
  | _ => false
@[simp] def cellOf : Val → Option Cell
  | (.fr, t) => some (if isMut t then .ow t else .pu t)
  | (.pu, t) => some (.pu t)
  | (.bo, _) => none
inductive Out where | nx (η : Env) | rt (v : Val) (η : Env) | bk (η : Env) | ct (η : Env)
abbrev Sx := Env → Option Out

/-! ### expressions -/
@[simp] def eC (t : T) (_ : Env) : Option Val := some (.fr, t)
@[simp] def eVar (i : Nat) (η : Env) : Option Val := match η[i]? with
  | some (some (.pu t)) => some (up .pu t)
  | some (some (.ow t)) => some (.bo, t)
  | _ => none
@[simp] def e1 (f : Val → Option Val) (a : Ex) (η : Env) : Option Val := (a η).bind f
@[simp] def e2 (f : Val → Val → Option Val) (a b : Ex) (η : Env) : Option Val := (a η).bind fun x => (b η).bind fun y => f x y
@[simp] def xNil (_ : Env) : Option (List Val) := some []
@[simp] def xCons (a : Ex) (r : Exs) (η : Env) : Option (List Val) := (a η).bind fun x => (r η).bind fun xs => some (x :: xs)
@[simp] def eN (f : List Val → Option Val) (as : Exs) (η : Env) : Option Val := (as η).bind f
@[simp] def joins : List Val → Md
  | [] => .fr
  | v :: r => v.1.join (joins r)
@[simp] def trees (l : List Val) : List T := l.map (·.2)
def mkL (m : Md) (l : List T) : Option Val := if l.length ≤ LINE then some (if imms l then .fr else m, .lst l) else none
@[simp] def eLst (as : Exs) (η : Env) : Option Val := (as η).bind fun l => mkL (joins l) (trees l)
def tupOf (l : List Val) : Option Val := if l.length ≤ LINE then some (up (joins l) (.tup (trees l))) else none
@[simp] def eTup (as : Exs) (η : Env) : Option Val := (as η).bind tupOf
def dput (l : List (T × T)) (k v : T) : List (T × T) := if l.any (fun p => eqT p.1 k) then l.map (fun p => if eqT p.1 k then (p.1, v) else p) else l ++ [(k, v)]
/-- a key of a dict: kind 0 ints and texts; 1 tuples of these -/
def keyB : T → Bool
  | .int _ => true
  | .str _ => true
  | _ => false
@[simp] def tru : T → Option Bool
  | .bl b => some b
  | .int i => some (i != 0)
  | .str s => some (!s.isEmpty)
  | .lst l => some (!l.isEmpty)
  | .tup l => some (!l.isEmpty)
  | .dct 0 l => some (!l.isEmpty)
  | .non => some false
  | _ => none
@[simp] def eAnd (a b : Ex) (η : Env) : Option Val := (a η).bind fun x => match x.2 with
  | .bl true => b η
  | .bl false => some (.fr, .bl false)
  | _ => none
@[simp] def eOr (a b : Ex) (η : Env) : Option Val := (a η).bind fun x => match x.2 with
  | .bl true => some (.fr, .bl true)
  | .bl false => b η
  | _ => none
@[simp] def eNot (a : Ex) (η : Env) : Option Val := (a η).bind fun x => match x.2 with
  | .bl b => some (.fr, .bl (!b))
  | _ => none
@[simp] def eIf (c a b : Ex) (η : Env) : Option Val := (c η).bind fun x => (tru x.2).bind fun t => if t then a η else b η
@[simp] def isN : T → Bool
  | .non => true
  | _ => false
@[simp] def eIsN (a : Ex) (η : Env) : Option Val := (a η).bind fun x => some (.fr, .bl (isN x.2))
@[simp] def eNotN (a : Ex) (η : Env) : Option Val := (a η).bind fun x => some (.fr, .bl (!isN x.2))
/-- a op b op c -/
@[simp] def eChain (f g : Val → Val → Option Val) (a b c : Ex) (η : Env) : Option Val := (a η).bind fun x => (b η).bind fun y => (f x y).bind fun r => match r.2 with
  | .bl true => (c η).bind fun z => g y z
  | .bl false => some (.fr, .bl false)
  | _ => none
@[simp] def int? : T → Option Int
  | .int i => some i
  | _ => none
def oAdd : Val → Val → Option Val
  | (_, .int i), (_, .int j) => some (.fr, .int (i + j))
  | (_, .str s), (_, .str t) => if s.length + t.length ≤ LINE then some (.fr, .str (s ++ t)) else none
  | (m, .lst s), (n, .lst t) => mkL (m.join n) (s ++ t)
  | _, _ => none
@[simp] def oSub : Val → Val → Option Val
  | (_, .int i), (_, .int j) => some (.fr, .int (i - j))
  | _, _ => none
def B62 : Int := 4611686018427387904
def B64 : Int := 18446744073709551616
def oMul : Val → Val → Option Val
  | (_, .int i), (_, .int j) => if (-B64 < i ∧ i < B64) ∨ (-B64 < j ∧ j < B64) then some (.fr, .int (i * j)) else none
  | _, _ => none
def oFdiv : Val → Val → Option Val
  | (_, .int i), (_, .int j) => if 0 < j ∧ j < 1073741824 then some (.fr, .int (i / j)) else none
  | _, _ => none
def oMod : Val → Val → Option Val
  | (_, .int i), (_, .int j) => if 0 < j then some (.fr, .int (i % j)) else none
  | _, _ => none
/-- of two texts: the first is ahead -/
def ltx : Tx → Tx → Bool
  | [], [] => false
  | [], _ :: _ => true
  | _ :: _, [] => false
  | a :: as, b :: bs => if a < b then true else if b < a then false else ltx as bs
@[simp] def oLt : Val → Val → Option Val
  | (_, .int i), (_, .int j) => some (.fr, .bl (decide (i < j)))
  | (_, .str s), (_, .str t) => some (.fr, .bl (ltx s t))
  | _, _ => none
@[simp] def oLe : Val → Val → Option Val
  | (_, .int i), (_, .int j) => some (.fr, .bl (decide (i ≤ j)))
  | (_, .str s), (_, .str t) => some (.fr, .bl (!ltx t s))
  | _, _ => none
@[simp] def oGt (a b : Val) : Option Val := oLt b a
@[simp] def oGe (a b : Val) : Option Val := oLe b a
@[simp] def oEq (a b : Val) : Option Val := if eqD 60 a.2 ∧ eqD 60 b.2 then some (.fr, .bl (eqT a.2 b.2)) else none
@[simp] def oNe (a b : Val) : Option Val := if eqD 60 a.2 ∧ eqD 60 b.2 then some (.fr, .bl (!eqT a.2 b.2)) else none
def dget (l : List (T × T)) (k : T) : Option T := (l.find? fun p => eqT p.1 k).map (·.2)
/-- the place that an index names -/
def ixP (n : Nat) (i : Int) : Option Nat := if 0 ≤ i then (if i < n then some i.toNat else none) else (if 0 ≤ i + n then some (i + n).toNat else none)
/-- what is borrowed and immutable is free -/
@[simp] def sub (m : Md) (t : T) : Val := up m t
@[simp] def oIdx : Val → Val → Option Val
  | (m, .lst l), (_, .int i) => (ixP l.length i).bind fun k => (l[k]?).map (sub m)
  | (m, .tup l), (_, .int i) => (ixP l.length i).bind fun k => (l[k]?).map (sub m)
  | (_, .scr l), (_, .int i) => (ixP l.length i).bind fun k => (l[k]?).map fun n => (.fr, .int n)
  | (_, .str l), (_, .int i) => (ixP l.length i).bind fun k => (l[k]?).map fun n => (.fr, .str [n])
  | _, _ => none
/-- a slice's bound, put into 0 .. n -/
def clip (n : Nat) (i : Int) : Nat := if i < 0 then (i + n).toNat else min i.toNat n
def cut {α : Type} (l : List α) (a b : Option Int) : List α :=
  let lo := match a with | none => 0 | some i => clip l.length i
  let hi := match b with | none => l.length | some i => clip l.length i
  (l.drop lo).take (hi - lo)
@[simp] def oSl (v : Val) (a b : Option Int) : Option Val := match v with
  | (_, .str s) => some (.fr, .str (cut s a b))
  | (m, .lst l) => mkL m (cut l a b)
  | _ => none
/-- a bound of a slice: left out, or an int -/
@[simp] def partI (c : Option Ex) (η : Env) : Option (Option Int) := match c with
  | none => some none
  | some e => (e η).bind fun y => (int? y.2).map some
@[simp] def eSl (a : Ex) (lo hi : Option Ex) (η : Env) : Option Val := (a η).bind fun x => (partI lo η).bind fun l => (partI hi η).bind fun h => oSl x l h

/-! ### built-in functions -/
@[simp] def lenT : T → Option Nat
  | .lst l => some l.length
  | .tup l => some l.length
  | .str l => some l.length
  | .scr l => some l.length
  | .dct 0 l => some l.length
  | _ => none
@[simp] def bLen : List Val → Option Val
  | [x] => (lenT x.2).map fun n => (.fr, .int n)
  | _ => none
@[simp] def bMin2 : List Val → Option Val
  | [(_, .int i), (_, .int j)] => some (.fr, .int (if j < i then j else i))
  | _ => none
@[simp] def bMax2 : List Val → Option Val
  | [(_, .int i), (_, .int j)] => some (.fr, .int (if j > i then j else i))
  | _ => none
def ints? : List T → Option (List Int)
  | [] => some []
  | .int i :: r => (ints? r).map (i :: ·)
  | _ => none
def strs? : List T → Option (List Tx)
  | [] => some []
  | .str i :: r => (strs? r).map (i :: ·)
  | _ => none
def bools? : List T → Option (List Bool)
  | [] => some []
  | .bl i :: r => (bools? r).map (i :: ·)
  | _ => none
def bSum : List Val → Option Val
  | [(_, .lst l)] => (ints? l).bind fun is => some (.fr, .int is.sum)
  | _ => none
def bAll : List Val → Option Val
  | [(_, .lst l)] => (bools? l).bind fun bs => some (.fr, .bl (bs.all id))
  | _ => none
/-- the members that a walk of it meets -/
@[simp] def membs : T → Option (List T)
  | .lst l => some l
  | .tup l => some l
  | .scr l => some (l.map T.int)
  | .str l => some (l.map fun c => T.str [c])
  | .dct _ l => some (l.map (·.1))
  | _ => none
@[simp] def bList : List Val → Option Val
  | [(m, .lst l)] => mkL m l
  | [(m, .tup l)] => mkL m l
  | _ => none
inductive Ty where | int | str | bool | list | tuple | dict
@[simp] def isTy : Ty → T → Bool
  | .int, .int _ => true
  | .int, .bl _ => true
  | .bool, .bl _ => true
  | .str, .str _ => true
  | .list, .lst _ => true
  | .tuple, .tup _ => true
  | .dict, .dct _ _ => true
  | _, _ => false
@[simp] def knownTy : T → Bool
  | .obj _ _ => false
  | .scr _ => false
  | _ => true
@[simp] def eIs (t : Ty) (a : Ex) (η : Env) : Option Val := (a η).bind fun x => if knownTy x.2 then some (.fr, .bl (isTy t x.2)) else none

/-! ### methods that change nothing -/
def total : List Tx → Nat
  | [] => 0
  | x :: r => x.length + total r
def joinTx (sep : Tx) : List Tx → Tx
  | [] => []
  | [x] => x
  | x :: r => x ++ sep ++ joinTx sep r
def mJoin : Val → List Val → Option Val
  | (_, .str sep), [(_, .lst l)] => (strs? l).bind fun ss => if total ss + ss.length * sep.length ≤ LINE then some (.fr, .str (joinTx sep ss)) else none
  | _, _ => none
@[simp] def eM (f : Val → List Val → Option Val) (o : Ex) (as : Exs) (η : Env) : Option Val := (o η).bind fun x => (as η).bind fun xs => f x xs

/-! ### calls of the text's own defs -/
abbrev Fn := List T → Option Val
@[simp] def eCall (g : Fn) (as : Exs) (η : Env) : Option Val := (as η).bind fun xs => (g (trees xs)).bind fun r => match r with
  | (.fr, t) => some (.fr, t)
  | (_, t) => some ((Md.pu).join (joins xs), t)

/-! ### what is walked -/
abbrev Its := Env → Option (Md × List T)
@[simp] def seqI : Val → Option (Md × List T)
  | (m, .lst l) => some (m, l)
  | (m, .tup l) => some (m, l)
  | (_, .str l) => some (.fr, l.map fun c => .str [c])
  | _ => none
@[simp] def iVal (a : Ex) (η : Env) : Option (Md × List T) := (a η).bind seqI
def rng (lo : Int) (n : Nat) : List T := (List.range n).map fun (k : Nat) => T.int (lo + k)
def iRange1 (a : Ex) (η : Env) : Option (Md × List T) := (a η).bind fun x => (int? x.2).bind fun j => if -B62 ≤ j ∧ j < B62 then some (.fr, rng 0 j.toNat) else none
def enumT (k : Nat) : List T → List T
  | [] => []
  | t :: r => .tup [.int k, t] :: enumT (k + 1) r
@[simp] def enumI : Val → Option (Md × List T)
  | (m, .lst l) => some (m, enumT 0 l)
  | _ => none
@[simp] def iEnum (a : Ex) (η : Env) : Option (Md × List T) := (a η).bind enumI
abbrev Tg := T → Env → Option Env
@[simp] def gVar (i : Nat) (t : T) (η : Env) : Option Env := if i < η.length then some (η.set i (some (.pu t))) else none
@[simp] def gAll : List Tg → List T → Env → Option Env
  | [], [], η => some η
  | g :: gs, t :: ts, η => (g t η).bind fun η' => gAll gs ts η'
  | _, _, _ => none
@[simp] def gTup (gs : List Tg) (t : T) (η : Env) : Option Env := match t with
  | .tup l => gAll gs l η
  | _ => none
/-- what a walk may hand out -/
@[simp] def okI (m : Md) (l : List T) : Bool := match m with
  | .bo => imms l
  | _ => true
def compL (tg : Tg) (cond : Option Ex) (elt : Ex) (η : Env) : List T → Option (List Val)
  | [] => some []
  | t :: r => (tg t η).bind fun η' => (match cond with | none => some true | some c => (c η').bind fun x => tru x.2).bind fun b =>
    if b then (elt η').bind fun v => (compL tg cond elt η r).map (v :: ·) else compL tg cond elt η r
/-- [elt for tg in it if cond]: k names of its own ahead of the def's -/
def eComp (k : Nat) (tg : Tg) (it : Its) (cond : Option Ex) (elt : Ex) (η : Env) : Option Val := (it η).bind fun (m, l) => if okI m l then
  (compL tg cond elt (List.replicate k none ++ η) l).bind fun vs => mkL (joins vs) (trees vs) else none

/-! ### statements -/
@[simp] def sNil (η : Env) : Option Out := some (.nx η)
@[simp] def sCons (a b : Sx) (η : Env) : Option Out := (a η).bind fun o => match o with
  | .nx η' => b η'
  | o => some o
@[simp] def sSet (i : Nat) (e : Ex) (η : Env) : Option Out := (e η).bind fun v => (cellOf v).bind fun c => if i < η.length then some (.nx (η.set i (some c))) else none
/-- a name whose thing the def never changes -/
@[simp] def sSetP (i : Nat) (e : Ex) (η : Env) : Option Out := (e η).bind fun v => match v.1 with
  | .bo => none
  | _ => if i < η.length then some (.nx (η.set i (some (.pu v.2)))) else none
@[simp] def sRet (e : Ex) (η : Env) : Option Out := (e η).bind fun v => some (.rt (match v.1 with | .bo => .pu | m => m, v.2) η)
/-- return x, x a list of the def's own -/
@[simp] def sRetV (i : Nat) (η : Env) : Option Out := match η[i]? with
  | some (some (.ow t)) => some (.rt (.fr, t) (η.set i none))
  | some (some (.pu t)) => some (.rt (up .pu t) η)
  | _ => none
@[simp] def sRetN (η : Env) : Option Out := some (.rt (.fr, .non) η)
@[simp] def sBrk (η : Env) : Option Out := some (.bk η)
@[simp] def sCont (η : Env) : Option Out := some (.ct η)
@[simp] def sIf (c : Ex) (a b : Sx) (η : Env) : Option Out := (c η).bind fun x => (tru x.2).bind fun t => if t then a η else b η
def forL (tg : Tg) (body : Sx) : List T → Env → Option Out
  | [], η => some (.nx η)
  | t :: r, η => (tg t η).bind fun η1 => (body η1).bind fun o => match o with
    | .nx η2 => forL tg body r η2
    | .ct η2 => forL tg body r η2
    | .bk η2 => some (.nx η2)
    | .rt v η2 => some (.rt v η2)
@[simp] def okF : Md → Bool
  | .bo => false
  | _ => true
@[simp] def sFor (tg : Tg) (it : Its) (body : Sx) (η : Env) : Option Out := (it η).bind fun (m, l) => if okF m then forL tg body l η else none
/-- a list of the def's own is changed no more -/
@[simp] def sFrz (i : Nat) (η : Env) : Option Out := match η[i]? with
  | some (some (.ow t)) => some (.nx (η.set i (some (.pu t))))
  | some (some (.pu _)) => some (.nx η)
  | _ => none

/-! ### changes -/
inductive Stp where | fld (k : Nat) | ix (e : Ex)
inductive Ky where | fld (k : Nat) | at (t : T)
@[simp] def keys : List Stp → Env → Option (List Ky)
  | [], _ => some []
  | .fld k :: r, η => (keys r η).map (.fld k :: ·)
  | .ix e :: r, η => (e η).bind fun x => (keys r η).map (.at x.2 :: ·)
def fget (fs : List (Nat × T)) (k : Nat) : Option T := fs.lookup k
def fput (fs : List (Nat × T)) (k : Nat) (v : T) : List (Nat × T) := if fs.any (fun p => p.1 == k) then fs.map (fun p => if p.1 == k then (p.1, v) else p) else fs ++ [(k, v)]
/-- at the end of a way into a tree -/
@[simp] def pmod {α : Type} (f : T → Option (T × α)) : List Ky → T → Option (T × α)
  | [], t => f t
  | .fld k :: r, .obj c fs => (fget fs k).bind fun x => (pmod f r x).map fun (y, a) => (.obj c (fput fs k y), a)
  | .at (.int i) :: r, .lst l => (ixP l.length i).bind fun j => (l[j]?).bind fun x => (pmod f r x).map fun (y, a) => (.lst (l.set j y), a)
  | .at k :: r, .dct d l => (dget l k).bind fun x => (pmod f r x).map fun (y, a) => (.dct d (dput l k y), a)
  | _, _ => none
abbrev Xx := Env → Option (Val × Env)
@[simp] def xP (e : Ex) (η : Env) : Option (Val × Env) := (e η).map fun v => (v, η)
/-- i.way.m(args) -/
@[simp] def xMut (i : Nat) (way : List Stp) (f : T → List Val → Option (T × Val)) (as : Exs) (η : Env) : Option (Val × Env) := match η[i]? with
  | some (some (.ow t)) => (keys way η).bind fun ks => (as η).bind fun xs => (pmod (fun x => f x xs) ks t).map fun (t', v) => (v, η.set i (some (.ow t')))
  | _ => none
@[simp] def fit (v : Val) : Option T := match v.1 with
  | .fr => some v.2
  | _ => none
def mAppend : T → List Val → Option (T × Val)
  | .lst l, [v] => (fit v).bind fun t => if l.length < LINE then some (.lst (l ++ [t]), (.fr, .non)) else none
  | _, _ => none
@[simp] def sX (x : Xx) (η : Env) : Option Out := (x η).map fun r => .nx r.2
@[simp] def sSetX (i : Nat) (x : Xx) (η : Env) : Option Out := (x η).bind fun (v, η') => (cellOf v).bind fun c => if i < η'.length then some (.nx (η'.set i (some c))) else none
@[simp] def sRetX (x : Xx) (η : Env) : Option Out := (x η).bind fun (v, η') => some (.rt (match v.1 with | .bo => .pu | m => m, v.2) η')
/-- a def: the parameters' values, then room for the other names -/
@[simp] def fn (np nn : Nat) (body : Sx) : Fn := fun ts => if ts.length = np then
  (body (ts.map (fun t => some (.pu t)) ++ List.replicate (nn - np) none)).bind fun o => match o with
    | .rt v _ => some v
    | .nx _ => some (.fr, .non)
    | _ => none else none

/-! ### reckoning -/
@[simp] theorem oAdd_int {m n : Md} {i j : Int} : oAdd (m, .int i) (n, .int j) = some (.fr, .int (i + j)) := rfl
theorem oAdd_str {m n : Md} {s t : Tx} (h : s.length + t.length ≤ 16777216) : oAdd (m, .str s) (n, .str t) = some (.fr, .str (s ++ t)) := if_pos h
theorem oMul_l {m n : Md} {i j : Int} (h : -18446744073709551616 < i ∧ i < 18446744073709551616) : oMul (m, .int i) (n, .int j) = some (.fr, .int (i * j)) := if_pos (.inl h)
theorem oFdiv_ok {m n : Md} {i j : Int} (h : 0 < j ∧ j < 1073741824) : oFdiv (m, .int i) (n, .int j) = some (.fr, .int (i / j)) := if_pos h
theorem oMod_ok {m n : Md} {i j : Int} (h : 0 < j) : oMod (m, .int i) (n, .int j) = some (.fr, .int (i % j)) := if_pos h
theorem mAppend_ok {l : List T} {t : T} (h : l.length < 16777216) : mAppend (.lst l) [(.fr, t)] = some (.lst (l ++ [t]), (.fr, .non)) := by
  simp only [mAppend, fit, Option.bind_some]
  exact if_pos h
theorem iRange1_ok {a : Ex} {η : Env} {m : Md} {j : Int} (e : a η = some (m, .int j)) (h : -4611686018427387904 ≤ j ∧ j < 4611686018427387904) : iRange1 a η = some (.fr, rng 0 j.toNat) := by
  simp only [iRange1, e, Option.bind_some, int?]
  exact if_pos h
theorem mkL_ok {m : Md} {l : List T} (h : l.length ≤ 16777216) : mkL m l = some (if imms l then .fr else m, .lst l) := if_pos h
theorem forL_nx {tg : Tg} {body : Sx} {t : T} {r : List T} {η η1 η2 : Env} (h1 : tg t η = some η1) (h2 : body η1 = some (.nx η2)) : forL tg body (t :: r) η = forL tg body r η2 := by
  simp [forL, h1, h2]
theorem strs_map {α : Type} (f : α → Tx) : ∀ l : List α, strs? (l.map fun x => T.str (f x)) = some (l.map f)
  | [] => rfl
  | a :: r => by simp [strs?, strs_map f r]
theorem ints_map {α : Type} (f : α → Int) : ∀ l : List α, ints? (l.map fun x => T.int (f x)) = some (l.map f)
  | [] => rfl
  | a :: r => by simp [ints?, ints_map f r]
theorem bools_map {α : Type} (f : α → Bool) : ∀ l : List α, bools? (l.map fun x => T.bl (f x)) = some (l.map f)
  | [] => rfl
  | a :: r => by simp [bools?, bools_map f r]
theorem joinTx_nil : ∀ ss : List Tx, joinTx [] ss = ss.flatten
  | [] => rfl
  | [x] => by simp [joinTx]
  | x :: y :: r => by
    have := joinTx_nil (y :: r)
    simp [joinTx] at this ⊢
    exact this
theorem total_flat : ∀ ss : List Tx, total ss = ss.flatten.length
  | [] => rfl
  | x :: r => by simp [total, total_flat r]
theorem mJoin_nil {m n : Md} {l : List T} {ss : List Tx} (e : strs? l = some ss) (h1 : ss.flatten.length ≤ 16777216) : mJoin (m, .str []) [(n, .lst l)] = some (.fr, .str ss.flatten) := by
  simp only [mJoin, Option.bind_some, e, joinTx_nil]
  refine if_pos ?_
  rw [total_flat]
  show _ ≤ 16777216
  simpa using h1
theorem flat_singles {α : Type} (l : List α) : (l.map fun x => [x]).flatten = l := by
  induction l with
  | nil => rfl
  | cons a r ih => rw [List.map_cons, List.flatten_cons, ih]; rfl
theorem rng_zero (n : Nat) : rng 0 n = (List.range n).map fun (k : Nat) => T.int (k : Int) := by
  unfold rng
  simp
theorem imms_map {α : Type} (f : α → T) (h : ∀ x, imm (f x) = true) : ∀ l : List α, imms (l.map f) = true
  | [] => rfl
  | a :: r => by simp [h, imms_map f h r]
theorem compL_map {α : Type} {tg : Tg} {elt : Ex} {η : Env} (g : α → T) (f : α → Val) : ∀ l : List α, (∀ a ∈ l, ∃ η', tg (g a) η = some η' ∧ elt η' = some (f a)) → compL tg none elt η (l.map g) = some (l.map f)
  | [], _ => rfl
  | a :: r, h => by
    obtain ⟨η', h1, h2⟩ := h a List.mem_cons_self
    simp [compL, h1, h2, compL_map g f r fun b hb => h b (List.mem_cons_of_mem _ hb)]
theorem joins_fr {α : Type} (f : α → T) : ∀ l : List α, joins (l.map fun a => (Md.fr, f a)) = .fr
  | [] => rfl
  | a :: r => by simp [joins_fr f r]
theorem trees_map {α : Type} (f : α → Val) (l : List α) : trees (l.map f) = l.map fun a => (f a).2 := by simp
/-- [elt for tg in it] of new or immutable things -/
theorem eComp_map {α : Type} {k : Nat} {tg : Tg} {it : Its} {elt : Ex} {η : Env} {m : Md} (g : α → T) (f : α → T) (l : List α) (hi : it η = some (m, l.map g)) (hk : okI m (l.map g) = true) (hl : l.length ≤ 16777216)
    (h : ∀ a ∈ l, ∃ η', tg (g a) (List.replicate k none ++ η) = some η' ∧ elt η' = some (.fr, f a)) : eComp k tg it none elt η = some (.fr, .lst (l.map f)) := by
  simp only [eComp, hi, Option.bind_some]
  rw [if_pos hk, compL_map g (fun a => (Md.fr, f a)) l h]
  simp only [Option.bind_some, joins_fr, trees_map]
  rw [mkL_ok (by rw [List.length_map]; exact hl)]
  simp
theorem idx_at {α : Type} {m n : Md} (f : α → T) (l : List α) (i : Int) (d : α) (h0 : 0 ≤ i) (h1 : i < l.length) (hi : imm (f (l.getD i.toNat d)) = true) : oIdx (m, .lst (l.map f)) (n, .int i) = some (.fr, f (l.getD i.toNat d)) := by
  have b2 : i.toNat < l.length := by omega
  simp only [List.getD_eq_getElem?_getD, List.getElem?_eq_getElem b2, Option.getD_some] at hi ⊢
  simp [ixP, h0, h1, b2, hi]
end VS

end
section
set_option linter.all false
/-! Reckoning with the functions: loops, lists. -/
namespace VS
/-- a loop whose turns all go on, by what holds behind each -/
theorem forL_by {tg : Tg} {body : Sx} (P : Nat → Env → Prop) : ∀ (l : List T) (k : Nat) (η : Env), (∀ i t η, l[i]? = some t → P (k + i) η → ∃ η1 η2, tg t η = some η1 ∧ (body η1 = some (.nx η2) ∨ body η1 = some (.ct η2)) ∧ P (k + i + 1) η2) → P k η →
    ∃ η', forL tg body l η = some (.nx η') ∧ P (k + l.length) η'
  | [], k, η, _, h => ⟨η, rfl, h⟩
  | t :: r, k, η, st, h => by
    obtain ⟨η1, η2, h1, h2, h3⟩ := st 0 t η rfl h
    obtain ⟨η', e, q⟩ := forL_by P r (k + 1) η2 (fun i t η hi hp => by
      have := st (i + 1) t η (by simpa using hi) (by rw [show k + (i + 1) = k + 1 + i by omega]; exact hp)
      rw [show k + (i + 1) = k + 1 + i by omega] at this
      exact this) h3
    refine ⟨η', ?_, by rw [List.length_cons, show k + (r.length + 1) = k + 1 + r.length by omega]; exact q⟩
    rcases h2 with h2 | h2 <;> simp [forL, h1, h2, e]
theorem rng_get (lo : Int) (n i : Nat) : (rng lo n)[i]? = if i < n then some (T.int (lo + i)) else none := by
  unfold rng
  by_cases h : i < n
  · simp [h]
  · simp [h]
theorem ixP_nat {n k : Nat} (h : k < n) : ixP n (k : Int) = some k := by
  unfold ixP
  rw [if_pos (by omega), if_pos (by omega), Int.toNat_natCast]
theorem rng_len (lo : Int) (n : Nat) : (rng lo n).length = n := by simp [rng]
mutual
theorem eqT_self : ∀ (n : Nat) (t : T), eqD n t = true → eqT t t = true
  | n, .non, _ => by simp
  | n, .bl _, _ => by simp
  | n, .int _, _ => by simp
  | n, .str _, _ => by simp
  | n + 1, .tup l, h => by
    simp only [eqD, List.all_eq_true] at h
    simp only [eqT]
    exact eqTs_self n l h
  | n + 1, .lst l, h => by
    simp only [eqD, List.all_eq_true] at h
    simp only [eqT]
    exact eqTs_self n l h
  | 0, .tup _, h => by simp at h
  | 0, .lst _, h => by simp at h
  | _, .scr _, h => by simp at h
  | _, .dct _ _, h => by simp at h
  | _, .obj _ _, h => by simp at h
theorem eqTs_self : ∀ (n : Nat) (l : List T), (∀ t ∈ l, eqD n t = true) → eqTs l l = true
  | _, [], _ => rfl
  | n, t :: r, h => by
    simp only [eqTs, Bool.and_eq_true]
    exact ⟨eqT_self n t (h t List.mem_cons_self), eqTs_self n r fun u hu => h u (List.mem_cons_of_mem _ hu)⟩
end
theorem oNe_self {m n : Md} {t : T} (h : eqD 60 t = true) : oNe (m, t) (n, t) = some (.fr, .bl false) := by
  show (if eqD 60 t ∧ eqD 60 t then some (Md.fr, T.bl (!eqT t t)) else none) = _
  rw [if_pos ⟨h, h⟩, eqT_self 60 t h]
  rfl
theorem cut_to {α : Type} (l : List α) (k : Nat) : cut l none (some (k : Int)) = l.take k := by
  have h : ¬ ((k : Int) < 0) := by omega
  by_cases h2 : k ≤ l.length
  · simp [cut, clip, h, Nat.min_eq_left h2]
  · rw [List.take_of_length_le (by omega)]
    simp [cut, clip, h, Nat.min_eq_right (Nat.le_of_not_le h2)]
theorem cut_map {α β : Type} (f : α → β) (l : List α) (a b : Option Int) : cut (l.map f) a b = (cut l a b).map f := by
  unfold cut
  simp only [List.length_map, List.map_take, List.map_drop]
theorem sFor_ok {tg : Tg} {it : Its} {body : Sx} {η : Env} {m : Md} {l : List T} (e : it η = some (m, l)) (h : okF m = true) : sFor tg it body η = forL tg body l η := by
  unfold sFor
  rw [e]
  exact if_pos h
/-- a call, by what the def answers -/
theorem eCall_fr {g : Fn} {as : Exs} {η : Env} {xs : List Val} {t : T} (h : as η = some xs) (h2 : g (trees xs) = some (.fr, t)) : eCall g as η = some (.fr, t) := by
  simp only [eCall, h, Option.bind_some, h2]
theorem sSetP_ok {i : Nat} {e : Ex} {η : Env} {m : Md} {t : T} (h : e η = some (m, t)) (hm : m ≠ .bo) (hi : i < η.length) : sSetP i e η = some (.nx (η.set i (some (.pu t)))) := by
  simp only [sSetP, h, Option.bind_some]
  cases m with
  | bo => exact absurd rfl hm
  | _ => simp [hi]
theorem sSet_ow {i : Nat} {e : Ex} {η : Env} {t : T} (h : e η = some (.fr, t)) (hm : isMut t = true) (hi : i < η.length) : sSet i e η = some (.nx (η.set i (some (.ow t)))) := by
  simp only [sSet, h, Option.bind_some, cellOf, hm, if_true, if_pos hi]
theorem oAdd_lst {m n : Md} {s t : List T} : oAdd (m, .lst s) (n, .lst t) = mkL (m.join n) (s ++ t) := rfl
theorem sCons_nx {a b : Sx} {η η' : Env} (h : a η = some (.nx η')) : sCons a b η = b η' := by simp only [sCons, h, Option.bind_some]
theorem sCons_rt {a b : Sx} {η η' : Env} {v : Val} (h : a η = some (.rt v η')) : sCons a b η = some (.rt v η') := by simp only [sCons, h, Option.bind_some]
theorem sFor_run {tg : Tg} {it : Its} {body : Sx} {η : Env} {m : Md} {l : List T} {o : Out} (e : it η = some (m, l)) (h : okF m = true) (h2 : forL tg body l η = some o) : sFor tg it body η = some o := (sFor_ok e h).trans h2
/-- a def's answer -/
theorem fn_ok {np nn : Nat} {body : Sx} {ts : List T} {v : Val} (η : Env) {η' : Env} (hl : ts.length = np) (he : ts.map (fun t => some (Cell.pu t)) ++ List.replicate (nn - np) none = η) (h : body η = some (.rt v η')) : fn np nn body ts = some v := by
  unfold fn
  rw [if_pos hl, he, h]
  rfl
end VS

end
section
-- CHANGE: your row's module here, as the last of these rows
set_option Elab.async false
set_option linter.all false
set_option maxRecDepth 100000
/-! THE HAND LAYER, for ints, bools, texts, own classes, LISTS and tuples (index, slices, in, append, pop ..), calls, loops. Paste it whole ahead of your own text; what your proof does not reach may be deleted. -/
namespace L2
open PySem PySem.Spec PyProof.Rows

/-- a key: an int or a str -/
abbrev Key := Sum Int Str
def keyIs : Key → Value → Bool
  | .inl k, v => Value.isInt k v
  | .inr x, v => Value.isStrOf x v
def keyH (w : World) : Key → Int
  | .inl k => hashInt k
  | .inr x => hashStr w x
theorem keyIs_shape : ∀ {k : Key} {v : Value}, keyIs k v = true → (∃ i t, k = Sum.inl i ∧ v = Value.int i t) ∨ (∃ x t, k = Sum.inr x ∧ v = Value.str x t)
  | .inl i, v, h => by
    obtain ⟨t, e⟩ := Value.isInt_shape (k := i) (v := v) h
    exact .inl ⟨i, t, rfl, e⟩
  | .inr x, v, h => by
    obtain ⟨t, e⟩ := Value.isStrOf_shape (x := x) (v := v) h
    exact .inr ⟨x, t, rfl, e⟩
theorem key_ll (a b : Int) : decide ((Sum.inl a : Key) = Sum.inl b) = (a == b) := by
  by_cases e : a = b
  · subst e; simp
  · have h : ¬ (Sum.inl a : Key) = Sum.inl b := fun q => e (Sum.inl.inj q)
    rw [decide_eq_false h]
    exact (beq_eq_false_iff_ne.mpr e).symm
theorem key_rr (a b : Str) : decide ((Sum.inr a : Key) = Sum.inr b) = decide (a = b) := by
  by_cases e : a = b
  · subst e; simp
  · have h : ¬ (Sum.inr a : Key) = Sum.inr b := fun q => e (Sum.inr.inj q)
    rw [decide_eq_false h, decide_eq_false e]
theorem key_lr (a : Int) (b : Str) : decide ((Sum.inl a : Key) = Sum.inr b) = false := decide_eq_false (fun q => nomatch q)
theorem key_rl (a : Str) (b : Int) : decide ((Sum.inr a : Key) = Sum.inl b) = false := decide_eq_false (fun q => nomatch q)

def mixKind (prog : Program) (w : World) : PySem.KeyKind prog w Key where
  is := keyIs
  hash := keyH w
  inj := fun v a b ha hb => by
    rcases keyIs_shape ha with ⟨i, t, rfl, rfl⟩ | ⟨x, t, rfl, rfl⟩
    · rcases keyIs_shape hb with ⟨j, u, rfl, e⟩ | ⟨y, u, rfl, e⟩
      · injection e with e1 _; rw [e1]
      · exact nomatch e
    · rcases keyIs_shape hb with ⟨j, u, rfl, e⟩ | ⟨y, u, rfl, e⟩
      · exact nomatch e
      · injection e with e1 _; rw [e1]
  byValue := fun k v h => by
    rcases keyIs_shape h with ⟨i, t, rfl, rfl⟩ | ⟨x, t, rfl, rfl⟩ <;> rfl
  pyHash := fun hv h => by
    rcases keyIs_shape hv with ⟨i, t, rfl, rfl⟩ | ⟨x, t, rfl, rfl⟩
    · exact wpAny_pyHash_int h
    · exact wpAny_pyHash_str h
  eqBool := fun hu hv h => by
    rcases keyIs_shape hu with ⟨i, t, rfl, rfl⟩ | ⟨x, t, rfl, rfl⟩
    · rcases keyIs_shape hv with ⟨j, u, rfl, rfl⟩ | ⟨y, u, rfl, rfl⟩
      · rw [key_ll] at h; exact wpAny_eqBool_int h
      · rw [key_lr] at h; exact SeqAt.EqAt.int_str i t y u _ _ _ _ h
    · rcases keyIs_shape hv with ⟨j, u, rfl, rfl⟩ | ⟨y, u, rfl, rfl⟩
      · rw [key_rl] at h; exact SeqAt.EqAt.str_int x t j u _ _ _ _ h
      · rw [key_rr] at h; exact wpAny_eqBool_str h
  «strs» := fun k x t v h => by
    rcases keyIs_shape h with ⟨i, u, rfl, e⟩ | ⟨y, u, rfl, e⟩
    · exact nomatch e
    · injection e with e1 _
      subst e1
      cases v <;> rfl

end L2

namespace L2
open PySem PySem.Spec PyProof.Rows

/-- a value, without the heap -/
inductive V where
  | non | bl (b : Bool) | int (i : Int) | str (x : Str) | byt (b : Array UInt8) | flt (b : UInt64) | ref (a : Addr) | ty (n : String)
  deriving DecidableEq

def RelV : V → Value → Prop
  | .non, u => u = Value.none
  | .bl b, u => u = Value.bool b
  | .int i, u => ∃ t, u = Value.int i t
  | .str x, u => ∃ t, u = Value.str x t
  | .byt b, u => ∃ t, u = Value.bytes b t
  | .flt b, u => ∃ t, u = Value.float b t
  | .ref a, u => u = Value.ref a
  | .ty n, u => u = Value.type n

abbrev Vals : List V → List Value → Prop := Paired RelV
theorem Vals.length {xs : List V} {us : List Value} (r : Vals xs us) : xs.length = us.length := Paired.length r
theorem Vals.get : ∀ {xs : List V} {us : List Value} {i : Nat} {x : V}, Vals xs us → xs[i]? = some x → ∃ u, us[i]? = some u ∧ RelV x u
  | _, _, _, _, .nil, e => by simp at e
  | _, _, 0, _, .cons r _, e => by simp at e; subst e; exact ⟨_, rfl, r⟩
  | _, _, i + 1, x, .cons _ t, e => by
    obtain ⟨u, h1, h2⟩ := Vals.get (i := i) (x := x) t (by simpa using e)
    exact ⟨u, by simpa using h1, h2⟩
theorem Vals.set {x : V} {u : Value} (r : RelV x u) : ∀ {xs : List V} {us : List Value} (i : Nat), Vals xs us → Vals (xs.set i x) (us.set i u)
  | _, _, _, .nil => .nil
  | _, _, 0, .cons _ t => .cons r t
  | _, _, i + 1, .cons q t => .cons q (Vals.set r i t)
theorem Vals.append : ∀ {xs ys : List V} {us ws : List Value}, Vals xs us → Vals ys ws → Vals (xs ++ ys) (us ++ ws)
  | _, _, _, _, .nil, s => s
  | _, _, _, _, .cons r t, s => .cons r (Vals.append t s)
theorem Vals.take : ∀ {xs : List V} {us : List Value} (n : Nat), Vals xs us → Vals (xs.take n) (us.take n)
  | _, _, 0, _ => .nil
  | _, _, _ + 1, .nil => .nil
  | _, _, n + 1, .cons r t => .cons r (Vals.take n t)
theorem Vals.drop : ∀ {xs : List V} {us : List Value} (n : Nat), Vals xs us → Vals (xs.drop n) (us.drop n)
  | _, _, 0, r => r
  | _, _, _ + 1, .nil => .nil
  | _, _, n + 1, .cons _ t => Vals.drop n t
theorem Vals.none_of : ∀ {xs : List V} {us : List Value} {i : Nat}, Vals xs us → xs[i]? = none → us[i]? = none := fun {xs us i} r e => by
  have h1 := r.length
  have h2 : xs.length ≤ i := List.getElem?_eq_none_iff.mp e
  exact List.getElem?_eq_none_iff.mpr (by omega)

def RelO : Option V → Option Value → Prop
  | some v, some u => RelV v u
  | none, none => True
  | _, _ => False
def KV {κ : Type} : List (κ × V) → List (κ × Value) → Prop := Paired fun (p : κ × V) (q : κ × Value) => p.1 = q.1 ∧ RelV p.2 q.2

/-- a key of a dict (00_mix): an int or a text -/
def kV : Key → V
  | .inl i => .int i
  | .inr x => .str x

/-- what stands at a tracked address -/
inductive HO where
  /-- a list -/
  | lst (xs : List V)
  /-- a tuple (never changes) -/
  | tup (xs : List V)
  /-- a dict whose keys are ints and texts; one whose keys are tuples of ints and texts (the empty one is both) -/
  | dK (kvs : List (Key × V)) | dT (kvs : List (List Key × V))
  /-- a set of ints: its members, its size -/
  | set (S : Int → Bool) (n : Nat)
  /-- an instance of the class at C, its dict at dx, its attributes -/
  | ins (C dx : Addr) (fs : List (Str × V))
  /-- the dict of the instance at x -/
  | own (x : Addr)
  /-- the dict of an exception -/
  | xd (fs : List (Str × V))
  /-- a bound method, f of x -/
  | met (f x : Addr)
  /-- a range object lo, lo + 1, .. below hi -/
  | rng (lo hi : Int)
  /-- a thing that is known to the object (the script; a dict while a loop walks it): read, never written while it is so -/
  | frz (o : Obj) (u : HO)
  /-- a code object's table -/
  | tbl (ps : Array Value)
  /-- any other thing, by what is true of its one object (a def of one's own: SetO a S n := HO.ext fun h => ..) -/
  | ext (φ : Heap → Prop)

abbrev Hp := Addr → Option HO
def upd (H : Hp) (a : Addr) (o : HO) : Hp := fun b => if b = a then some o else H b
theorem upd_same {H : Hp} {a : Addr} {o : HO} : upd H a o a = some o := by unfold upd; rw [if_pos rfl]
theorem upd_ne {H : Hp} {a b : Addr} {o : HO} (h : b ≠ a) : upd H a o b = H b := by unfold upd; rw [if_neg h]
theorem ne_of_none {H : Hp} {a b : Addr} {o : HO} (h : H a = some o) (h' : H b = none) : a ≠ b := by
  intro e; subst e; rw [h] at h'; cases h'

section
variable (P : Program) (w : World)
def ObjOk (H : Hp) (h : Heap) (a : Addr) : HO → Prop
  | .lst xs => xs.length ≤ sizeLine ∧ ∃ (its : List Value) (n : Nat), Vals xs its ∧ h.get? a = some { cls := .type "list", data := .seq its.toArray n }
  | .tup xs => xs.length ≤ sizeLine ∧ ∃ its : List Value, Vals xs its ∧ IsTup h a its.toArray
  | .dK kvs => kvs.length ≤ sizeLine ∧ (a == sysModules) = false ∧ ∃ vs, KV kvs vs ∧ h.DictOf (mixKind P w) a vs
  | .dT kvs => kvs.length ≤ sizeLine ∧ (a == sysModules) = false ∧ ∃ xs : List (List Key × Addr × Value),
      Paired (fun (p : List Key × V) (q : List Key × Addr × Value) => p.1 = q.1 ∧ H q.2.1 = some (.tup (p.1.map kV)) ∧ RelV p.2 q.2.2) kvs xs ∧
      ∃ o es ep, h.get? a = some o ∧ o.ExactDict ∧ o.data = .dict es ep ∧ es.toList = xs.map (entryOfKey (tupleKind (mixKind P w))) ∧ (xs.map (·.1)).Nodup
  | .set S n => h.SetOf (intKind P w) a S n
  | .ins C dx fs => H dx = some (.own a) ∧ fs.length ≤ 1000 ∧ dx ≠ a ∧ h.get? a = some (PySem.W.instObj C dx) ∧
      ∃ mA, h.Ns1 dx mA ∧ (∀ f, RelO (fs.lookup f) (mA f)) ∧ PySem.Within mA (fs.map (·.1))
  | .own _ => ∃ o, h.get? a = some o
  | .xd fs => ∃ mA, h.Ns1 a mA ∧ ∀ f, RelO (fs.lookup f) (mA f)
  | .rng lo hi => ∃ t u v, h.get? a = some { cls := .type "range", data := .fields #[.int lo t, .int hi u, .int 1 v] }
  | .frz o u => h.get? a = some o ∧ ObjOk H h a u
  | .tbl ps => h.get? a = some { cls := .none, data := .fields ps }
  | .met f x => h.get? a = some (PySem.W.methodObj (.ref f) (.ref x))
  | .ext φ => φ h ∧ (∃ o, h.get? a = some o) ∧ ∀ h1 h2 : Heap, φ h1 → (∀ o, h1.get? a = some o → h2.get? a = some o) → φ h2
/-- the abstract heap is held -/
def HOk (H : Hp) (h : Heap) : Prop := ∀ a o, H a = some o → ObjOk P w H h a o
end

section
variable {P : Program} {w : World} {H H' : Hp} {h h' : Heap} {a : Addr} {o : HO}
theorem ObjOk.lt (x : ObjOk P w H h a o) : a < h.objs.size := by
  cases o with
  | lst xs => obtain ⟨_, _, _, _, e⟩ := x; exact Heap.lt_size e
  | tup xs => obtain ⟨_, _, _, p⟩ := x; exact p.lt
  | dK kvs => obtain ⟨_, _, _, _, o, _, _, e, _⟩ := x; exact Heap.lt_size e
  | dT kvs => obtain ⟨_, _, _, _, o, _, _, e, _⟩ := x; exact Heap.lt_size e
  | set S n => obtain ⟨o, _, _, _, e, _⟩ := x; exact Heap.lt_size e
  | ins C dx fs => obtain ⟨_, _, _, e, _⟩ := x; exact Heap.lt_size e
  | own y => obtain ⟨_, e⟩ := x; exact Heap.lt_size e
  | xd fs => obtain ⟨_, ⟨_, _, _, e, _⟩, _⟩ := x; exact Heap.lt_size e
  | rng lo hi => obtain ⟨_, _, _, e⟩ := x; exact Heap.lt_size e
  | frz ob u => obtain ⟨e, _⟩ := x; exact Heap.lt_size e
  | tbl ps => exact Heap.lt_size (show h.get? a = some _ from x)
  | met f y => exact Heap.lt_size (show h.get? a = some _ from x)
  | ext φ => obtain ⟨_, ⟨_, e⟩, _⟩ := x; exact Heap.lt_size e
theorem Paired.mapP {α β : Type} {F G : α → β → Prop} : ∀ {l₁ : List α} {l₂ : List β}, Paired F l₁ l₂ → (∀ a b, F a b → G a b) → Paired G l₁ l₂
  | _, _, .nil, _ => .nil
  | _, _, .cons r t, f => .cons (f _ _ r) (Paired.mapP t f)
/-- what an object's description leans on: its own object, its own dict, the tuples -/
theorem ObjOk.stay (x : ObjOk P w H h a o) (k : ∀ b u, (b = a ∨ H b = some (.own a)) → h.get? b = some u → h'.get? b = some u)
    (ho : ∀ b, H b = some (.own a) → H' b = some (.own a)) (ht : ∀ b xs, H b = some (.tup xs) → H' b = some (.tup xs)) : ObjOk P w H' h' a o := by
  induction o with
  | lst xs => obtain ⟨z, its, n, r, e⟩ := x; exact ⟨z, its, n, r, k _ _ (.inl rfl) e⟩
  | tup xs => obtain ⟨z, its, r, ob, e, c⟩ := x; exact ⟨z, its, r, ob, k _ _ (.inl rfl) e, c⟩
  | dK kvs => obtain ⟨z, y, vs, r, ob, es, ep, e, c⟩ := x; exact ⟨z, y, vs, r, ob, es, ep, k _ _ (.inl rfl) e, c⟩
  | dT kvs =>
    obtain ⟨z, y, xs, r, ob, es, ep, e, c⟩ := x
    exact ⟨z, y, xs, Paired.mapP r fun p q z => ⟨z.1, ht _ _ z.2.1, z.2.2⟩, ob, es, ep, k _ _ (.inl rfl) e, c⟩
  | set S n => obtain ⟨ob, es, ep, t, e, c⟩ := x; exact ⟨ob, es, ep, t, k _ _ (.inl rfl) e, c⟩
  | ins C dx fs =>
    obtain ⟨d, z, ne, e, mA, ⟨od, es, ep, e2, c⟩, r⟩ := x
    exact ⟨ho _ d, z, ne, k _ _ (.inl rfl) e, mA, ⟨od, es, ep, k _ _ (.inr d) e2, c⟩, r⟩
  | own y => obtain ⟨ob, e⟩ := x; exact ⟨ob, k _ _ (.inl rfl) e⟩
  | xd fs => obtain ⟨mA, ⟨od, es, ep, e, c⟩, r⟩ := x; exact ⟨mA, ⟨od, es, ep, k _ _ (.inl rfl) e, c⟩, r⟩
  | rng lo hi => obtain ⟨t, u, v, e⟩ := x; exact ⟨t, u, v, k _ _ (.inl rfl) e⟩
  | frz ob u ih => obtain ⟨e, q⟩ := x; exact ⟨k _ _ (.inl rfl) e, ih q⟩
  | tbl ps =>
    have e : h.get? a = some { cls := .none, data := .fields ps } := x
    show h'.get? a = some { cls := .none, data := .fields ps }
    exact k a _ (.inl rfl) e
  | met f y =>
    have e : h.get? a = some (PySem.W.methodObj (.ref f) (.ref y)) := x
    show h'.get? a = some (PySem.W.methodObj (.ref f) (.ref y))
    exact k a _ (.inl rfl) e
  | ext φ => obtain ⟨p, ⟨o, e⟩, st⟩ := x; exact ⟨st _ _ p fun o q => k _ _ (.inl rfl) q, ⟨o, k _ _ (.inl rfl) e⟩, st⟩
theorem HOk.lt (x : HOk P w H h) (e : H a = some o) : a < h.objs.size := (x a o e).lt
theorem HOk.fresh (x : HOk P w H h) (e : h.objs.size ≤ a) : H a = none := by
  cases q : H a with
  | none => rfl
  | some u => exact absurd (Nat.lt_of_lt_of_le (x.lt q) e) (Nat.lt_irrefl _)
/-- every object of the heap is kept -/
theorem HOk.kept (x : HOk P w H h) (k : ∀ b u, h.get? b = some u → h'.get? b = some u) : HOk P w H h' := fun a o e =>
  (x a o e).stay (fun b u _ q => k b u q) (fun _ q => q) fun _ _ q => q
/-- a new object is laid and tracked -/
theorem HOk.laid (x : HOk P w H h) (k : ∀ b u, h.get? b = some u → h'.get? b = some u) (hp : h.objs.size ≤ a) (new : ObjOk P w (upd H a o) h' a o) : HOk P w (upd H a o) h' := fun b u e => by
  have hn := x.fresh hp
  by_cases hb : b = a
  · subst hb; rw [upd_same] at e; cases e; exact new
  · rw [upd_ne hb] at e
    exact (x b u e).stay (fun c v _ q => k c v q) (fun c q => by rw [upd_ne (ne_of_none q hn)]; exact q) fun c xs q => by rw [upd_ne (ne_of_none q hn)]; exact q
end

/-- what may be read as u: it is u, or a known u -/
def Rd (H : Hp) (a : Addr) (u : HO) : Prop := H a = some u ∨ ∃ o, H a = some (.frz o u)
theorem Rd.of {H : Hp} {a : Addr} {u : HO} (h : H a = some u) : Rd H a u := .inl h
theorem Rd.ok {P : Program} {w : World} {H : Hp} {h : Heap} {a : Addr} {u : HO} (r : Rd H a u) (x : HOk P w H h) : ObjOk P w H h a u := by
  rcases r with r | ⟨o, r⟩
  · exact x a u r
  · obtain ⟨_, q⟩ := x a _ r
    exact q
/-- what may be written -/
def Mut : Option HO → Prop
  | some (.lst _) => True
  | some (.dK _) => True
  | some (.dT _) => True
  | some (.set _ _) => True
  | some (.ins _ _ _) => True
  | some (.ext _) => True
  | _ => False
section
variable {P : Program} {w : World} {H : Hp} {h h' : Heap} {x e : Addr} {o' : HO}
/-- the object at e is changed: x itself, or the dict of the instance x -/
theorem HOk.write (ok : HOk P w H h) (mu : Mut (H x)) (he : e = x ∨ H e = some (.own x)) (k : ∀ b u, b ≠ e → h.get? b = some u → h'.get? b = some u) (heo : ∃ u, h'.get? e = some u)
    (new : ObjOk P w (upd H x o') h' x o') : HOk P w (upd H x o') h' := fun b u q => by
  have nown : ∀ c y, H c = some (.own y) → c ≠ x := fun c y r z => by subst z; rw [r] at mu; exact mu
  have ntup : ∀ c xs, H c = some (.tup xs) → c ≠ x := fun c xs r z => by subst z; rw [r] at mu; exact mu
  by_cases hb : b = x
  · subst hb; rw [upd_same] at q; cases q; exact new
  · rw [upd_ne hb] at q
    by_cases hbe : b = e
    · have q' : H b = some (.own x) := by
        rcases he with z | z
        · exact absurd (hbe.trans z) hb
        · rw [hbe]; exact z
      rw [q] at q'; cases q'
      obtain ⟨v, hv⟩ := heo
      exact ⟨v, by rw [hbe]; exact hv⟩
    · refine (ok b u q).stay (fun c v hc r => k c v ?_ r) (fun c r => by rw [upd_ne (nown c b r)]; exact r) fun c xs r => by rw [upd_ne (ntup c xs r)]; exact r
      rcases hc with rfl | hc
      · exact hbe
      · rintro rfl
        rcases he with z | z
        · exact nown c b hc z
        · rw [hc] at z; cases z; exact hb rfl
end

/-! ### kept unless tracked; of the frames at fs (the callers') the slots may change (an exception that passes writes there); of the records at ex (iterators) nothing is said -/
structure Un (fs ex : List Addr) (H H' : Hp) (h h' : Heap) : Prop where
  keep : ∀ b o, h.get? b = some o → H b = none → b ∉ fs → b ∉ ex → h'.get? b = some o
  slot : ∀ b o, h.get? b = some o → H b = none → b ∈ fs → b ∉ ex → ∃ sl, h'.get? b = some { o with slots := sl }
  free : ∀ b o, h.get? b = some o → H b = none → b ∉ ex → H' b = none
  there : ∀ b o, h.get? b = some o → b ∉ ex → ∃ o', h'.get? b = some o'
  tups : ∀ b xs, H b = some (.tup xs) → H' b = some (.tup xs)
  frzs : ∀ b o u, H b = some (.frz o u) → H' b = some (.frz o u)
  tbls : ∀ b ps, H b = some (.tbl ps) → ∃ more, H' b = some (.tbl (ps ++ more))
section
variable {fs fs' ex ex' : List Addr} {H H1 H2 : Hp} {h h1 h2 h' : Heap} {a x e : Addr} {o : HO}
theorem Un.any (u : Un fs ex H H1 h h1) {b : Addr} {ob : Obj} (q : h.get? b = some ob) (n : H b = none) (hx : b ∉ ex) : ∃ sl, h1.get? b = some { ob with slots := sl } := by
  by_cases hb : b ∈ fs
  · exact u.slot b ob q n hb hx
  · exact ⟨ob.slots, u.keep b ob q n hb hx⟩
theorem Un.trans (a : Un fs ex H H1 h h1) (b : Un fs ex H1 H2 h1 h2) : Un fs ex H H2 h h2 where
  keep := fun c ob q n hc hx => b.keep c ob (a.keep c ob q n hc hx) (a.free c ob q n hx) hc hx
  slot := fun c ob q n hc hx => by
    obtain ⟨sl, e1⟩ := a.slot c ob q n hc hx
    obtain ⟨sl', e2⟩ := b.slot c _ e1 (a.free c ob q n hx) hc hx
    exact ⟨sl', e2⟩
  free := fun c ob q n hx => by
    obtain ⟨o', e1⟩ := a.there c ob q hx
    exact b.free c o' e1 (a.free c ob q n hx) hx
  there := fun c ob q hx => by
    obtain ⟨o', e1⟩ := a.there c ob q hx
    exact b.there c o' e1 hx
  tups := fun c xs q => b.tups c xs (a.tups c xs q)
  frzs := fun c ob xs q => b.frzs c ob xs (a.frzs c ob xs q)
  tbls := fun c ps q => by
    obtain ⟨m1, e1⟩ := a.tbls c ps q
    obtain ⟨m2, e2⟩ := b.tbls c _ e1
    exact ⟨m1 ++ m2, by rw [e2, Array.append_assoc]⟩
theorem Un.kept (k : ∀ b u, h.get? b = some u → h'.get? b = some u) : Un fs ex H H h h' :=
  ⟨fun b ob q _ _ _ => k b ob q, fun b ob q _ _ _ => ⟨ob.slots, k b ob q⟩, fun _ _ _ n _ => n, fun b ob q _ => ⟨ob, k b ob q⟩, fun _ _ q => q, fun _ _ _ q => q, fun _ ps q => ⟨#[], by rw [q]; simp⟩⟩
theorem Un.refl : Un fs ex H H h h := Un.kept fun _ _ q => q
theorem Un.laid (k : ∀ b u, h.get? b = some u → h'.get? b = some u) (hp : h.objs.size ≤ a) (hn : H a = none) : Un fs ex H (upd H a o) h h' where
  keep := fun b u q _ _ _ => k b u q
  slot := fun b u q _ _ _ => ⟨u.slots, k b u q⟩
  free := fun b u q n _ => by rw [upd_ne (Nat.ne_of_lt (Nat.lt_of_lt_of_le (Heap.lt_size q) hp))]; exact n
  there := fun b u q _ => ⟨u, k b u q⟩
  tups := fun b xs q => by rw [upd_ne (ne_of_none q hn)]; exact q
  frzs := fun b u xs q => by rw [upd_ne (ne_of_none q hn)]; exact q
  tbls := fun b ps q => ⟨#[], by rw [upd_ne (ne_of_none q hn), q]; simp⟩
theorem Un.write (mu : Mut (H x)) (he : e = x ∨ H e = some (.own x)) (k : ∀ b u, b ≠ e → h.get? b = some u → h'.get? b = some u) (heo : ∃ u, h'.get? e = some u) : Un fs ex H (upd H x o) h h' := by
  have hx : ∀ b, H b = none → b ≠ x := fun b n z => by subst z; rw [n] at mu; exact mu
  have hb : ∀ b, H b = none → b ≠ e := fun b n z => by
    subst z
    rcases he with r | r
    · exact hx b n r
    · rw [n] at r; cases r
  have hm : ∀ b u, H b = some u → ¬ Mut (some u) → b ≠ x := fun b u q nm z => by subst z; rw [q] at mu; exact nm mu
  refine ⟨fun b u q n _ _ => k b u (hb b n) q, fun b u q n _ _ => ⟨u.slots, k b u (hb b n) q⟩, fun b u q n _ => by rw [upd_ne (hx b n)]; exact n, fun b u q _ => ?_,
    fun b xs q => by rw [upd_ne (hm b _ q fun z => z)]; exact q, fun b u xs q => by rw [upd_ne (hm b _ q fun z => z)]; exact q, fun b ps q => ⟨#[], by rw [upd_ne (hm b _ q fun z => z), q]; simp⟩⟩
  by_cases hbe : b = e
  · subst hbe; exact heo
  · exact ⟨u, k b u hbe q⟩
theorem Un.mono (u : Un fs ex H H1 h h1) (hs : ∀ b ∈ fs, b ∈ fs') (hx : ∀ b ∈ ex, b ∈ ex') : Un fs' ex' H H1 h h1 :=
  ⟨fun b ob q n hb he => u.keep b ob q n (fun z => hb (hs b z)) fun z => he (hx b z), fun _ _ q n _ he => u.any q n fun z => he (hx _ z), fun b ob q n he => u.free b ob q n fun z => he (hx b z), fun b ob q he => u.there b ob q fun z => he (hx b z), u.tups, u.frzs, u.tbls⟩
end

/-! ### the heap without what is tracked -/
def trk (h : Heap) (H : Hp) : List Addr := (List.range h.objs.size).filter fun a => (H a).isSome
def hidT (h : Heap) (H : Hp) : Heap := PySem.W.hideAll h (trk h H)
theorem hidT_size (h : Heap) (H : Hp) : (hidT h H).objs.size = h.objs.size := PySem.W.hideAll_size _ _
theorem hidT_get {h : Heap} {H : Hp} {b : Addr} {o : Obj} (e : h.get? b = some o) (n : H b = none) : (hidT h H).get? b = some o :=
  PySem.W.hideAll_get _ e fun hm => by
    have q : (H b).isSome = true := (List.mem_filter.mp hm).2
    rw [n] at q; simp at q
theorem of_hidT {h : Heap} {H : Hp} {b : Addr} {o : Obj} (e : (hidT h H).get? b = some o) : h.get? b = some o ∧ H b = none := by
  have e' : h.get? b = some o := PySem.W.of_hideAll (trk h H) e
  refine ⟨e', ?_⟩
  cases q : H b with
  | none => rfl
  | some x =>
    have hm : b ∈ trk h H := List.mem_filter.mpr ⟨List.mem_range.mpr (Heap.lt_size e'), by simp [q]⟩
    have z : (hidT h H).get? b = none := PySem.W.hideAll_none (trk h H) hm
    rw [z] at e; cases e

/-! ### OpenK's ledger, filled with every new object but one -/
def allNews (g h : Heap) (L : Addr) : List (Addr × Obj) := (List.range h.objs.size).filterMap fun a => if a = L ∨ (g.get? a).isSome = true then none else (h.get? a).map fun o => (a, o)
def rest (g h : Heap) (L d : Addr) : List (Addr × Obj) := (allNews g h L).filter fun p => decide (p.1 ≠ d)
end L2

namespace L2
open PySem PySem.Spec PyProof.Rows

/-- the module's facts, over the base: the heap at the law's entry without what is tracked there -/
structure Mod (K : PySem.W.Frag) (mg : Str → Option Value) (base : Heap) : Prop where
  kin : K.In base
  glob : base.Ns mainGlobals mg
  blt : ∃ mb, base.Ns builtinsNs mb ∧ ∀ x : Str, x ≠ "__name__" → mb x = bootBuiltins x
  nolimit : base.NoLimit

/-- the context: a def's body (or a comprehension's block) running. base: fixed through the whole law; s₀, H₀: the entry; outer: the frames whose slots others may change (a def's callers); stack: all frames that run;
   ex: iterators that were made ahead of the entry and are walked here (a comprehension's); fn: the names whose cells were made at the entry (a def: all; a comprehension's block: its own); calm: not within an except suite; pn: pins that every state bears; xe: what is wanted of an exception that leaves the code -/
structure Cx where
  prog : Program
  w : World
  K : PySem.W.Frag
  mg : Str → Option Value
  base : Heap
  A : Around
  N : List Str
  s₀ : Shared
  H₀ : Hp
  env : Env
  outer : List Env
  stack : List Env
  ex : List Addr
  fn : Str → Bool
  calm : Bool
  pn : List (Addr × Obj)
  xe : Value → Shared → Prop
/-- the callers' frames -/
def frs (l : List Env) : List Addr := l.filterMap (·.frame)
abbrev Cx.fs (X : Cx) : List Addr := frs X.outer

def Vis (sc : Scope) (x : Str) : Prop := sc.names.lookup x = some .local ∨ sc.names.lookup x = some .cell ∨ sc.names.lookup x = some .free
def Loc (sc : Scope) (x : Str) : Prop := sc.names.lookup x = some .local ∨ sc.names.lookup x = some .cell
def Look (env : Env) (h : Heap) (m : Str → Option Value) (x : Str) (u : Value) : Prop :=
  (env.kindOf x = some .local ∧ m x = some u) ∨ ((env.kindOf x = some .cell ∨ env.kindOf x = some .free) ∧ ∃ c, env.cells.lookup x = some c ∧ h.IsCell c (some u))

structure Cx.Ok (X : Cx) : Prop where
  mod : Mod X.K X.mg X.base
  kind : X.env.scope.kind = .function
  glob : X.env.globals = mainGlobals
  blt : X.env.builtins = builtinsNs
  above : X.s₀.heap.objs.size ≤ X.env.locals
  inj : ∀ x y c, X.env.cells.lookup x = some c → X.env.cells.lookup y = some c → x = y
  has : ∀ x, (X.env.kindOf x = some .cell ∨ X.env.kindOf x = some .free) → ∃ c, X.env.cells.lookup x = some c
  cab : ∀ x c, X.fn x = true → X.env.cells.lookup x = some c → X.s₀.heap.objs.size ≤ c
  hd : X.calm = true → X.A.handled = none
  frames : X.A.frames = some X.stack
  stk : X.stack = X.outer ∨ (X.stack = X.env :: X.outer ∧ X.env.frame = some X.env.locals)
  exf : ∀ b ∈ X.ex, b ≠ X.env.locals ∧ ∀ x c, X.env.cells.lookup x = some c → c ≠ b
  bs : ∀ b o, X.base.get? b = some o → X.s₀.heap.get? b = some o ∧ X.H₀ b = none
  bsz : X.base.objs.size ≤ X.s₀.heap.objs.size
  noex : ∀ b o, X.base.get? b = some o → b ∉ X.ex
  exfs : ∀ b ∈ X.ex, b ∉ X.fs
  funs : X.s₀.heap.FunFrames X.base X.outer
  frf : ∀ b ∈ X.fs, X.H₀ b = none

structure Inv (X : Cx) (pins : List (Addr × Obj)) (σ : List (Option V)) (H : Hp) (s : Shared) : Prop where
  ok : X.Ok
  os : s.os = X.s₀.os
  bare : AllBare s.gens
  base : Un X.fs X.ex X.H₀ H X.s₀.heap s.heap
  loc : ∃ m, s.heap.Ns X.env.locals m ∧ ∀ (i : Nat) (x : Str) (v : V), X.N[i]? = some x → σ[i]? = some (some v) → Vis X.env.scope x → ∃ u, RelV v u ∧ Look X.env s.heap m x u
  cell : ∀ x c, X.env.cells.lookup x = some c → ∃ v, s.heap.IsCell c v
  free : H X.env.locals = none
  freeC : ∀ x c, X.env.cells.lookup x = some c → H c = none
  pin : ∀ p ∈ X.pn ++ pins, s.heap.get? p.1 = some p.2 ∧ H p.1 = none ∧ p.1 ≠ X.env.locals ∧ p.1 ∉ X.fs ∧ ∀ v, p.2.data ≠ .cell v
  hok : HOk X.prog X.w H s.heap
  len : σ.length = X.N.length

section
variable {X : Cx} {pins : List (Addr × Obj)} {σ : List (Option V)} {H H' : Hp} {s : Shared} {h' : Heap}

theorem Cx.Ok.nofr (ok : X.Ok) {b : Addr} {o : Obj} (e : X.base.get? b = some o) : b ∉ X.fs := fun hb => by
  have := (ok.funs.mem hb).1
  rw [e] at this; cases this
theorem Inv.bs (I : Inv X pins σ H s) : ∀ b o, X.base.get? b = some o → s.heap.get? b = some o ∧ H b = none := fun b o e =>
  ⟨I.base.keep b o (I.ok.bs b o e).1 (I.ok.bs b o e).2 (I.ok.nofr e) (I.ok.noex b o e), I.base.free b o (I.ok.bs b o e).1 (I.ok.bs b o e).2 (I.ok.noex b o e)⟩
theorem Inv.bk (I : Inv X pins σ H s) : ∀ b o, X.base.get? b = some o → s.heap.get? b = some o := fun b o e => (I.bs b o e).1
theorem Inv.mod (I : Inv X pins σ H s) : Mod X.K X.mg X.base := I.ok.mod
theorem Inv.kIn (I : Inv X pins σ H s) : X.K.In s.heap := I.ok.mod.kin.keeps I.bk
theorem Inv.nolimit (I : Inv X pins σ H s) : s.heap.NoLimit := I.ok.mod.nolimit.keeps I.bk
/-- the frame over the base: for OpenK's rules (K.In X.base is I.mod.kin) -/
theorem Inv.fr (I : Inv X pins σ H s) : ∃ m, Fr X.base X.env.locals s.heap m :=
  let ⟨m, hn, _⟩ := I.loc
  ⟨m, hn, I.bk, Nat.le_trans I.ok.bsz I.ok.above⟩
theorem Inv.lt (I : Inv X pins σ H s) : X.env.locals < s.heap.objs.size := let ⟨_, hn, _⟩ := I.loc; hn.lt
theorem Inv.sz (I : Inv X pins σ H s) : X.s₀.heap.objs.size ≤ s.heap.objs.size := Nat.le_trans I.ok.above (Nat.le_of_lt I.lt)
theorem Inv.nofs (I : Inv X pins σ H s) {a : Addr} (h : s.heap.objs.size ≤ a) : a ∉ X.fs := fun hb => by
  obtain ⟨_, o, ho, _⟩ := I.ok.funs.mem hb
  exact absurd (Nat.lt_of_lt_of_le (Heap.lt_size ho) (Nat.le_trans I.sz h)) (Nat.lt_irrefl _)
theorem Inv.cne (I : Inv X pins σ H s) : ∀ x c, X.env.cells.lookup x = some c → c ≠ X.env.locals := fun x c e z => by
  obtain ⟨v, o, ho, hd⟩ := I.cell x c e
  obtain ⟨m, ⟨o', es, ep, ho', hd', _⟩, _⟩ := I.loc
  rw [z, ho'] at ho; cases ho; rw [hd'] at hd; cases hd
theorem Inv.funs (I : Inv X pins σ H s) : s.heap.FunFrames X.base X.outer := by
  have all : ∀ (l : List Env), (∀ b ∈ frs l, b ∈ X.fs) → X.s₀.heap.FunFrames X.base l → s.heap.FunFrames X.base l := by
    intro l
    induction l with
    | nil => intro _ _; trivial
    | cons env r ih =>
      intro hs hl
      obtain ⟨hk, ⟨L, o, hf, hn, ho, hd⟩, hr⟩ := hl
      have hL : L ∈ X.fs := hs L (by unfold frs; rw [List.filterMap_cons, hf]; exact List.mem_cons_self)
      obtain ⟨sl, e⟩ := I.base.slot L o ho (I.ok.frf L hL) hL fun z => I.ok.exfs L z hL
      exact ⟨hk, ⟨L, _, hf, hn, e, hd⟩, ih (fun b hb => hs b (by unfold frs; rw [List.filterMap_cons, hf]; exact List.mem_cons_of_mem _ hb)) hr⟩
  exact all X.outer (fun _ hb => hb) I.ok.funs

/-- the frames that run, for a call -/
theorem Inv.stack (I : Inv X pins σ H s) : s.heap.FunFrames X.base X.stack := by
  rcases I.ok.stk with e | ⟨e, hf⟩
  · rw [e]; exact I.funs
  · rw [e]
    obtain ⟨m, hn, _⟩ := I.loc
    refine .cons (by rw [I.ok.kind]; decide) hf hn ?_ I.funs
    exact Heap.get?_none_of_le (Nat.le_trans I.ok.bsz I.ok.above)
theorem Inv.stkSub (I : Inv X pins σ H s) : ∀ b ∈ frs X.stack, b ∈ X.env.locals :: X.fs := fun b hb => by
  rcases I.ok.stk with e | ⟨e, hf⟩
  · rw [e] at hb; exact List.mem_cons_of_mem _ hb
  · rw [e] at hb
    unfold frs at hb
    rw [List.filterMap_cons, hf] at hb
    exact hb
theorem Inv.stkFree (I : Inv X pins σ H s) : ∀ b ∈ frs X.stack, H b = none := fun b hb => by
  rcases List.mem_cons.mp (I.stkSub b hb) with e | hb
  · rw [e]; exact I.free
  · obtain ⟨_, o, ho, _⟩ := I.ok.funs.mem hb
    exact I.base.free b o ho (I.ok.frf b hb) fun z => I.ok.exfs b z hb

/-- THE STEP: the untracked objects but the frame and the records at ch are kept (the callers' frames up to slots), the frame's map is kept, the new abstract heap is held -/
theorem Inv.step {g' : Array GenState} {t' : Nat} {d' : Drawn} {ch : List Addr} (I : Inv X pins σ H s)
    (hch : ∀ b ∈ ch, (b ∈ X.ex ∨ X.s₀.heap.objs.size ≤ b) ∧ b ≠ X.env.locals ∧ (∀ x c, X.env.cells.lookup x = some c → c ≠ b) ∧ ∀ p ∈ X.pn ++ pins, p.1 ≠ b)
    (keep : ∀ b o, b ≠ X.env.locals → b ∉ X.fs → b ∉ ch → s.heap.get? b = some o → H b = none → h'.get? b = some o)
    (slot : ∀ b o, b ≠ X.env.locals → b ∈ X.fs → b ∉ ch → s.heap.get? b = some o → H b = none → ∃ sl, h'.get? b = some { o with slots := sl }) (free : ∀ b o, b ∉ ch → s.heap.get? b = some o → H b = none → H' b = none)
    (there : ∀ b o, b ∉ ch → s.heap.get? b = some o → ∃ o', h'.get? b = some o')
    (tups : ∀ b xs, H b = some (.tup xs) → H' b = some (.tup xs)) (frzs : ∀ b o u, H b = some (.frz o u) → H' b = some (.frz o u)) (tbls : ∀ b ps, H b = some (.tbl ps) → ∃ more, H' b = some (.tbl (ps ++ more)))
    (ns : ∀ m, s.heap.Ns X.env.locals m → h'.Ns X.env.locals m) (hok : HOk X.prog X.w H' h') (hg : AllBare g') :
    Inv X pins σ H' { s with heap := h', gens := g', drawn := d', toks := t' } := by
  have neL : ∀ b o, X.s₀.heap.get? b = some o → b ≠ X.env.locals := fun b o e => Nat.ne_of_lt (Nat.lt_of_lt_of_le (Heap.lt_size e) I.ok.above)
  have neC : ∀ b o, X.s₀.heap.get? b = some o → b ∉ X.ex → b ∉ ch := fun b o e hx hb => by
    rcases (hch b hb).1 with z | z
    · exact hx z
    · exact absurd (Nat.lt_of_lt_of_le (Heap.lt_size e) z) (Nat.lt_irrefl _)
  have cellK : ∀ x c, X.env.cells.lookup x = some c → ∀ v, s.heap.IsCell c v → h'.IsCell c v := fun x c e v ⟨o, ho, hd⟩ => by
    have nch : c ∉ ch := fun z => (hch c z).2.2.1 x c e rfl
    by_cases hc : c ∈ X.fs
    · obtain ⟨sl, q⟩ := slot c o (I.cne x c e) hc nch ho (I.freeC x c e)
      exact ⟨_, q, hd⟩
    · exact ⟨o, keep c o (I.cne x c e) hc nch ho (I.freeC x c e), hd⟩
  refine ⟨I.ok, I.os, hg, ⟨fun b o e n hb hx => ?_, fun b o e n hb hx => ?_, fun b o e n hx => ?_, fun b o e hx => ?_, fun b xs e => tups b xs (I.base.tups b xs e), fun b o xs e => frzs b o xs (I.base.frzs b o xs e), fun b ps e => ?_⟩, ?_, fun x c e => ?_, ?_, fun x c e => ?_, fun p hp => ?_, hok, I.len⟩
  · exact keep b o (neL b o e) hb (neC b o e hx) (I.base.keep b o e n hb hx) (I.base.free b o e n hx)
  · obtain ⟨sl, e1⟩ := I.base.slot b o e n hb hx
    obtain ⟨sl', e2⟩ := slot b _ (neL b o e) hb (neC b o e hx) e1 (I.base.free b o e n hx)
    exact ⟨sl', e2⟩
  · obtain ⟨o', e1⟩ := I.base.there b o e hx
    exact free b o' (neC b o e hx) e1 (I.base.free b o e n hx)
  · obtain ⟨o', e1⟩ := I.base.there b o e hx
    exact there b o' (neC b o e hx) e1
  · obtain ⟨m1, e1⟩ := I.base.tbls b ps e
    obtain ⟨m2, e2⟩ := tbls b _ e1
    exact ⟨m1 ++ m2, by rw [e2, Array.append_assoc]⟩
  · obtain ⟨m, hn, hl⟩ := I.loc
    refine ⟨m, ns m hn, fun i x v e1 e2 e3 => ?_⟩
    obtain ⟨u, r, l⟩ := hl i x v e1 e2 e3
    refine ⟨u, r, ?_⟩
    rcases l with l | ⟨k, c, e, z⟩
    · exact .inl l
    · exact .inr ⟨k, c, e, cellK x c e _ z⟩
  · obtain ⟨v, z⟩ := I.cell x c e
    exact ⟨v, cellK x c e v z⟩
  · obtain ⟨m, ⟨o, _, _, ho, _⟩, _⟩ := I.loc
    exact free _ o (fun z => (hch _ z).2.1 rfl) ho I.free
  · obtain ⟨v, o, ho, hd⟩ := I.cell x c e
    exact free c o (fun z => (hch c z).2.2.1 x c e rfl) ho (I.freeC x c e)
  · obtain ⟨e, n, ne, nf, d⟩ := I.pin p hp
    have nch : p.1 ∉ ch := fun z => (hch p.1 z).2.2.2 p hp rfl
    exact ⟨keep p.1 p.2 ne nf nch e n, free p.1 p.2 nch e n, ne, nf, d⟩
/-- .. where the frame's own object is kept too -/
theorem Inv.un {t' : Nat} (I : Inv X pins σ H s) (u : Un X.fs [] H H' s.heap h') (hok : HOk X.prog X.w H' h') : Inv X pins σ H' { s with heap := h', toks := t' } := by
  obtain ⟨m, ⟨o, es, ep, ho, r⟩, _⟩ := id I.loc
  obtain ⟨sl, hL⟩ := u.any ho I.free (by simp)
  exact I.step (g' := s.gens) (d' := s.drawn) (ch := []) (fun _ z => nomatch z) (fun b o _ hb _ e n => u.keep b o e n hb (by simp)) (fun b o _ hb _ e n => u.slot b o e n hb (by simp)) (fun b o _ e n => u.free b o e n (by simp)) (fun b o _ e => u.there b o e (by simp)) u.tups u.frzs u.tbls (fun m' hm => by
    obtain ⟨o', es', ep', ho', r'⟩ := hm
    rw [ho] at ho'; cases ho'
    exact ⟨_, es', ep', hL, r'⟩) hok I.bare
/-- behind a call (or a comprehension's block): the slots of this frame may have changed too, the records at ch may have turned -/
theorem Inv.call {g' : Array GenState} {t' : Nat} {d' : Drawn} {ch : List Addr} (I : Inv X pins σ H s) (u : Un (frs X.stack) ch H H' s.heap h') (hok : HOk X.prog X.w H' h') (hg : AllBare g')
    (hch : ∀ b ∈ ch, (b ∈ X.ex ∨ X.s₀.heap.objs.size ≤ b) ∧ b ≠ X.env.locals ∧ (∀ x c, X.env.cells.lookup x = some c → c ≠ b) ∧ ∀ p ∈ X.pn ++ pins, p.1 ≠ b) :
    Inv X pins σ H' { s with heap := h', gens := g', drawn := d', toks := t' } := by
  obtain ⟨m, ⟨o, es, ep, ho, r⟩, _⟩ := id I.loc
  obtain ⟨sl, hL⟩ := u.any ho I.free fun z => (hch _ z).2.1 rfl
  exact I.step (ch := ch) hch (fun b o hL hb hc e n => u.keep b o e n (fun z => (List.mem_cons.mp (I.stkSub b z)).elim hL hb) hc) (fun b o _ _ hc e n => u.any e n hc) (fun b o hc e n => u.free b o e n hc) (fun b o hc e => u.there b o e hc) u.tups u.frzs u.tbls (fun m' hm => by
    obtain ⟨o', es', ep', ho', r'⟩ := hm
    rw [ho] at ho'; cases ho'
    exact ⟨_, es', ep', hL, r'⟩) hok hg
/-- an untracked record of ours (an iterator) has turned -/
theorem Inv.turned {t' : Nat} {it : Addr} (I : Inv X pins σ H s) (k : ∀ b o, b ≠ it → s.heap.get? b = some o → h'.get? b = some o) (hn : H it = none) (hL : it ≠ X.env.locals)
    (h1 : it ∈ X.ex ∨ X.s₀.heap.objs.size ≤ it) (h2 : ∀ x c, X.env.cells.lookup x = some c → c ≠ it) (h3 : ∀ p ∈ X.pn ++ pins, p.1 ≠ it) : Inv X pins σ H { s with heap := h', toks := t' } := by
  have nit : ∀ b u, H b = some u → b ≠ it := fun b u e z => by rw [z, hn] at e; cases e
  refine I.step (g' := s.gens) (d' := s.drawn) (ch := [it]) (fun b hb => ?_) (fun b o _ _ hc e _ => k b o (fun z => hc (by simp [z])) e) (fun b o _ _ hc e _ => ⟨o.slots, k b o (fun z => hc (by simp [z])) e⟩) (fun _ _ _ _ n => n)
    (fun b o hc e => ⟨o, k b o (fun z => hc (by simp [z])) e⟩) (fun _ _ e => e) (fun _ _ _ e => e) (fun b ps e => ⟨#[], by rw [e]; simp⟩) (fun m hm => ?_) (fun b u e => ?_) I.bare
  · have e : b = it := by simpa using hb
    subst e
    exact ⟨h1, hL, h2, h3⟩
  · obtain ⟨o, es, ep, ho, r⟩ := hm
    exact ⟨o, es, ep, k _ o (Ne.symm hL) ho, r⟩
  · refine (I.hok b u e).stay (fun c v hc q => k c v ?_ q) (fun _ q => q) fun _ _ q => q
    rcases hc with z | z
    · rw [z]; exact nit b u e
    · exact nit c _ z
theorem Inv.tok (I : Inv X pins σ H s) (t : Nat) : Inv X pins σ H { s with toks := t } := I.un (h' := s.heap) (t' := t) Un.refl I.hok
/-- all objects kept -/
theorem Inv.kept {t' : Nat} (I : Inv X pins σ H s) (k : ∀ b u, s.heap.get? b = some u → h'.get? b = some u) : Inv X pins σ H { s with heap := h', toks := t' } := I.un (Un.kept k) (I.hok.kept k)
/-- a new object laid and tracked -/
theorem Inv.laid {a : Addr} {o : HO} {t' : Nat} (I : Inv X pins σ H s) (k : ∀ b u, s.heap.get? b = some u → h'.get? b = some u) (hp : s.heap.objs.size ≤ a) (new : ObjOk X.prog X.w (upd H a o) h' a o) :
    Inv X pins σ (upd H a o) { s with heap := h', toks := t' } := I.un (Un.laid k hp (I.hok.fresh hp)) (I.hok.laid k hp new)
/-- an object written -/
theorem Inv.write {x e : Addr} {o : HO} {t' : Nat} (I : Inv X pins σ H s) (mu : Mut (H x)) (he : e = x ∨ H e = some (.own x)) (k : ∀ b u, b ≠ e → s.heap.get? b = some u → h'.get? b = some u) (heo : ∃ u, h'.get? e = some u)
    (new : ObjOk X.prog X.w (upd H x o) h' x o) : Inv X pins σ (upd H x o) { s with heap := h', toks := t' } := I.un (Un.write mu he k heo) (I.hok.write mu he k heo new)
/-- forgetting slots, pins -/
theorem Inv.weak {σ' : List (Option V)} (I : Inv X pins σ H s) (hl : σ'.length = σ.length) (w : ∀ (i : Nat) v, σ'[i]? = some (some v) → σ[i]? = some (some v)) : Inv X pins σ' H s :=
  ⟨I.ok, I.os, I.bare, I.base, let ⟨m, hn, hl'⟩ := I.loc; ⟨m, hn, fun i x v e1 e2 e3 => hl' i x v e1 (w i v e2) e3⟩, I.cell, I.free, I.freeC, I.pin, I.hok, hl.trans I.len⟩
theorem Inv.pins_of {pins' : List (Addr × Obj)} (I : Inv X pins σ H s) (h : ∀ p ∈ pins', s.heap.get? p.1 = some p.2 ∧ H p.1 = none ∧ p.1 ≠ X.env.locals ∧ p.1 ∉ X.fs ∧ ∀ v, p.2.data ≠ .cell v) : Inv X pins' σ H s :=
  ⟨I.ok, I.os, I.bare, I.base, I.loc, I.cell, I.free, I.freeC, fun p hp => (List.mem_append.mp hp).elim (fun z => I.pin p (List.mem_append_left _ z)) (h p), I.hok, I.len⟩

theorem nodup_ix {N : List Str} (hN : N.Nodup) {i j : Nat} {x : Str} (a : N[i]? = some x) (b : N[j]? = some x) : i = j := by
  obtain ⟨h1, e1⟩ := List.getElem?_eq_some_iff.mp a
  obtain ⟨h2, e2⟩ := List.getElem?_eq_some_iff.mp b
  exact (List.getElem_inj hN).mp (e1.trans e2.symm)

/-- a name is stored; what changed -/
theorem store_ok2 {M : Model} {A : Around} {E : Value → Shared → Prop} {i : Nat} {x : Str} {v : V} {u : Value} {Q : Unit → Shared → Prop} (I : Inv X pins σ H s) (hN : X.N.Nodup) (hi : X.N[i]? = some x) (hx : Loc X.env.scope x) (r : RelV v u)
    (h : ∀ s', Inv X pins (σ.set i (some v)) H s' → (∃ a, Heap.SameBut a s.heap s'.heap ∧ (a = X.env.locals ∨ X.env.cells.lookup x = some a)) → Q () s') (hf : X.fn x = true ∨ X.env.scope.names.lookup x = some .local := by first | exact .inl rfl | exact .inr rfl | assumption) : wpAny M A (storeName X.env x u) Q E s := by
  obtain ⟨m, hn, hl⟩ := id I.loc
  have hcls : (X.env.scope.kind == .class || (X.env.scope.kind == .module && X.env.locals != X.env.globals)) = false := by rw [I.ok.kind]; rfl
  have hiσ : i < σ.length := by rw [I.len]; exact (List.getElem?_eq_some_iff.mp hi).1
  have cne := I.cne
  have tracked : ∀ {a : Addr} {h' : Heap}, (∃ o, s.heap.get? a = some o ∧ H a = none) → Heap.SameBut a s.heap h' → HOk X.prog X.w H h' := fun {a h'} ha hs b ob e => by
    obtain ⟨_, _, hfree⟩ := ha
    refine (I.hok b ob e).stay (fun c w' hc q => (hs.2 c ?_).trans q) (fun _ q => q) fun _ _ q => q
    rintro rfl
    rcases hc with rfl | hc
    · rw [hfree] at e; cases e
    · rw [hfree] at hc; cases hc
  rcases hx with hk | hk
  · refine wpAny_storeName_local hk hn (fun h' hn' hs => ?_) hcls
    obtain ⟨oL, _, _, hoL, _⟩ := id hn
    refine h _ ⟨I.ok, I.os, I.bare, ⟨fun b o e n hb hx => ?_, fun b o e n hb hx => ?_, I.base.free, fun b o e hx => ?_, I.base.tups, I.base.frzs, I.base.tbls⟩, ⟨_, hn', fun j y v' e1 e2 e3 => ?_⟩, fun y c e => ?_, I.free, I.freeC, fun p hp => ?_, tracked ⟨oL, hoL, I.free⟩ hs, by simpa using I.len⟩ ⟨_, hs, .inl rfl⟩
    · exact (hs.2 b (Nat.ne_of_lt (Nat.lt_of_lt_of_le (Heap.lt_size e) I.ok.above))).trans (I.base.keep b o e n hb hx)
    · obtain ⟨sl, e1⟩ := I.base.slot b o e n hb hx
      exact ⟨sl, (hs.2 b (Nat.ne_of_lt (Nat.lt_of_lt_of_le (Heap.lt_size e) I.ok.above))).trans e1⟩
    · obtain ⟨o', e1⟩ := I.base.there b o e hx
      exact ⟨o', (hs.2 b (Nat.ne_of_lt (Nat.lt_of_lt_of_le (Heap.lt_size e) I.ok.above))).trans e1⟩
    · by_cases hj : j = i
      · subst hj
        rw [hi] at e1; cases e1
        rw [List.getElem?_set_self hiσ] at e2
        cases e2
        exact ⟨u, r, .inl ⟨hk, by simp⟩⟩
      · rw [List.getElem?_set_ne (Ne.symm hj)] at e2
        obtain ⟨u', r', q⟩ := hl j y v' e1 e2 e3
        refine ⟨u', r', ?_⟩
        rcases q with ⟨k, e⟩ | ⟨k, c, e, z⟩
        · refine .inl ⟨k, ?_⟩
          have : y ≠ x := fun e => hj (nodup_ix hN e1 (e ▸ hi))
          simp [this, e]
        · exact .inr ⟨k, c, e, z.sameBut hs (cne y c e)⟩
    · obtain ⟨w', z⟩ := I.cell y c e
      exact ⟨w', z.sameBut hs (cne y c e)⟩
    · obtain ⟨e, n, ne, nf, d⟩ := I.pin p hp
      exact ⟨(hs.2 p.1 ne).trans e, n, ne, nf, d⟩
  · have hfn : X.fn x = true := by
      rcases hf with z | z
      · exact z
      · rw [z] at hk; cases hk
    obtain ⟨c, hc⟩ := I.ok.has x (.inl hk)
    obtain ⟨w', z⟩ := I.cell x c hc
    refine wpAny_storeName_cell I.ok.kind hk hc z (fun h' hc' hs => ?_)
    obtain ⟨oc, hoc, hocd⟩ := id z
    refine h { s with heap := h' } ⟨I.ok, I.os, I.bare, ⟨fun b o e n hb hx => ?_, fun b o e n hb hx => ?_, I.base.free, fun b o e hx => ?_, I.base.tups, I.base.frzs, I.base.tbls⟩, ⟨m, hn.sameBut hs (Ne.symm (cne x c hc)), fun j y v' e1 e2 e3 => ?_⟩, fun y c' e => ?_, I.free, I.freeC, fun p hp => ?_, tracked ⟨oc, hoc, I.freeC x c hc⟩ hs, by simpa using I.len⟩ ⟨c, hs, .inr hc⟩
    · exact (hs.2 b (Nat.ne_of_lt (Nat.lt_of_lt_of_le (Heap.lt_size e) (I.ok.cab x c hfn hc)))).trans (I.base.keep b o e n hb hx)
    · obtain ⟨sl, e1⟩ := I.base.slot b o e n hb hx
      exact ⟨sl, (hs.2 b (Nat.ne_of_lt (Nat.lt_of_lt_of_le (Heap.lt_size e) (I.ok.cab x c hfn hc)))).trans e1⟩
    · obtain ⟨o', e1⟩ := I.base.there b o e hx
      exact ⟨o', (hs.2 b (Nat.ne_of_lt (Nat.lt_of_lt_of_le (Heap.lt_size e) (I.ok.cab x c hfn hc)))).trans e1⟩
    · by_cases hj : j = i
      · subst hj
        rw [hi] at e1; cases e1
        rw [List.getElem?_set_self hiσ] at e2
        cases e2
        exact ⟨u, r, .inr ⟨.inl hk, c, hc, hc'⟩⟩
      · rw [List.getElem?_set_ne (Ne.symm hj)] at e2
        obtain ⟨u', r', q⟩ := hl j y v' e1 e2 e3
        refine ⟨u', r', ?_⟩
        rcases q with q | ⟨k, c', e, z'⟩
        · exact .inl q
        · refine .inr ⟨k, c', e, z'.sameBut hs ?_⟩
          rintro rfl
          exact hj (nodup_ix hN e1 (I.ok.inj _ _ _ e hc ▸ hi))
    · by_cases hcc : c' = c
      · subst hcc; exact ⟨_, hc'⟩
      · obtain ⟨w2, z2⟩ := I.cell y c' e
        exact ⟨w2, z2.sameBut hs hcc⟩
    · obtain ⟨e, n, ne, nf, d⟩ := I.pin p hp
      refine ⟨(hs.2 p.1 ?_).trans e, n, ne, nf, d⟩
      intro q
      rw [q, hoc] at e
      have q' : oc = p.2 := Option.some.inj e
      exact d w' (by rw [← q']; exact hocd)
theorem store_ok {M : Model} {A : Around} {E : Value → Shared → Prop} {i : Nat} {x : Str} {v : V} {u : Value} {Q : Unit → Shared → Prop} (I : Inv X pins σ H s) (hN : X.N.Nodup) (hi : X.N[i]? = some x) (hx : Loc X.env.scope x) (r : RelV v u)
    (h : ∀ s', Inv X pins (σ.set i (some v)) H s' → Q () s') (hf : X.fn x = true ∨ X.env.scope.names.lookup x = some .local := by first | exact .inl rfl | exact .inr rfl | assumption) : wpAny M A (storeName X.env x u) Q E s :=
  store_ok2 I hN hi hx r (fun s' I' _ => h s' I') hf
/-- behind a call or a block, the state as it is -/
theorem Inv.call' {s' : Shared} {ch : List Addr} (I : Inv X pins σ H s) (ho : s'.os = s.os) (u : Un (frs X.stack) ch H H' s.heap s'.heap) (hok : HOk X.prog X.w H' s'.heap) (hg : AllBare s'.gens)
    (hch : ∀ b ∈ ch, (b ∈ X.ex ∨ X.s₀.heap.objs.size ≤ b) ∧ b ≠ X.env.locals ∧ (∀ x c, X.env.cells.lookup x = some c → c ≠ b) ∧ ∀ p ∈ X.pn ++ pins, p.1 ≠ b) : Inv X pins σ H' s' := by
  obtain ⟨h', g', d', t', o'⟩ := s'
  have e : o' = s.os := ho
  subst e
  exact I.call (g' := g') (t' := t') (d' := d') u hok hg hch
end

/-! ### the judgements -/
/-- an exception: its class, its own dict's address (where it has one), the abstract heap behind it -/
abbrev XK := Value → Option Addr → Hp → Prop
abbrev St := List (Option V)
abbrev VK := V → Hp → Prop
/-- an expression's reading; a test's; an argument list's -/
abbrev TE := St → Hp → VK → Prop
abbrev TT := St → Hp → (Bool → Hp → Prop) → Prop
abbrev TA := St → Hp → (List V → Hp → Prop) → Prop
/-- what is wanted behind a statement -/
structure Ends where
  nx : St → Hp → Prop
  rt : VK
  bk : St → Hp → Prop := fun _ _ => False
  ct : St → Hp → Prop := fun _ _ => False
abbrev TS := Ends → St → Hp → Prop

def EP (X : Cx) (pins : List (Addr × Obj)) (σ : St) (Q : VK) (u : Value) (s' : Shared) : Prop := ∃ v H', Inv X pins σ H' s' ∧ RelV v u ∧ Q v H'
def TP (X : Cx) (pins : List (Addr × Obj)) (σ : St) (Q : Bool → Hp → Prop) (b : Bool) (s' : Shared) : Prop := ∃ H', Inv X pins σ H' s' ∧ Q b H'
def AP (X : Cx) (pins : List (Addr × Obj)) (σ : St) (Q : List V → Hp → Prop) (us : List Value) (s' : Shared) : Prop := ∃ vs H', Inv X pins σ H' s' ∧ Vals vs us ∧ Q vs H'
def SP (X : Cx) (pins : List (Addr × Obj)) (D : Ends) (f : Flow) (s' : Shared) : Prop :=
  match f with
  | .next => ∃ σ' H', Inv X pins σ' H' s' ∧ D.nx σ' H'
  | .brk => ∃ σ' H', Inv X pins σ' H' s' ∧ D.bk σ' H'
  | .cont => ∃ σ' H', Inv X pins σ' H' s' ∧ D.ct σ' H'
  | .ret u => ∃ v σ' H', Inv X pins σ' H' s' ∧ RelV v u ∧ D.rt v H'

def PE (X : Cx) (e : Expr) (t : TE) : Prop :=
  ∀ (pins : List (Addr × Obj)) (s : Shared) (σ : St) (H : Hp) (Q : VK), Inv X pins σ H s → t σ H Q → wpAny (model X.prog X.w) X.A (eval e X.env) (EP X pins σ Q) X.xe s
def PT (X : Cx) (e : Expr) (t : TT) : Prop :=
  ∀ (pins : List (Addr × Obj)) (s : Shared) (σ : St) (H : Hp) (Q : Bool → Hp → Prop), Inv X pins σ H s → t σ H Q → wpAny (model X.prog X.w) X.A (isTrue e X.env (eval e X.env)) (TP X pins σ Q) X.xe s
/-- a test whatever its 'whole' is (and, or) -/
def PW (X : Cx) (e : Expr) (t : TT) : Prop :=
  ∀ (whole : Sem Value) (pins : List (Addr × Obj)) (s : Shared) (σ : St) (H : Hp) (Q : Bool → Hp → Prop), Inv X pins σ H s → t σ H Q → wpAny (model X.prog X.w) X.A (isTrue e X.env whole) (TP X pins σ Q) X.xe s
theorem PW.pt {X : Cx} {e : Expr} {t : TT} (h : PW X e t) : PT X e t := h _
/-- an argument list (no star), from the left -/
def PA (X : Cx) (es : List Expr) (t : TA) : Prop :=
  ∀ (pos : Pos) (pins : List (Addr × Obj)) (s : Shared) (σ : St) (H : Hp) (Q : List V → Hp → Prop), Inv X pins σ H s → t σ H Q → wpAny (model X.prog X.w) X.A (spliced (backTo pos (starEach es X.env))) (AP X pins σ Q) X.xe s
def PS (X : Cx) (st : Stmt) (t : TS) : Prop :=
  ∀ (pins : List (Addr × Obj)) (s : Shared) (σ : St) (H : Hp) (D : Ends), Inv X pins σ H s → t D σ H → wpAny (model X.prog X.w) X.A (exec st X.env) (SP X pins D) X.xe s
def PSs (X : Cx) (st : List Stmt) (t : TS) : Prop :=
  ∀ (pins : List (Addr × Obj)) (s : Shared) (σ : St) (H : Hp) (D : Ends), Inv X pins σ H s → t D σ H → wpAny (model X.prog X.w) X.A (execs st X.env) (SP X pins D) X.xe s
/-- weaken the end -/
theorem thn {α : Type} {t : Sem α} {Q Q' : α → Shared → Prop} {M : Model} {A : Around} {E : Value → Shared → Prop} {s : Shared} (h : wpAny M A t Q E s) (hQ : ∀ a s, Q a s → Q' a s) : wpAny M A t Q' E s := wpAny_mono h hQ fun _ _ x => x
end L2

namespace L2
open PySem PySem.Spec PyProof.Rows
section
variable {X : Cx}

/-! ### names and constants -/
def tVar (i : Nat) : TE := fun σ H Q => ∃ v, σ[i]? = some (some v) ∧ Q v H
def tC (v : V) : TE := fun _ H Q => Q v H
theorem pe_var {i : Nat} {x : Str} {pos : Pos} (hN : X.N[i]? = some x) (hv : Vis X.env.scope x) (hd : (x == ("__debug__" : Str)) = false := by decide) (hcd : (x == ("__classdict__" : Str)) = false := by decide) : PE X (.Name x pos) (tVar i) := by
  intro pins s σ H Q I h
  obtain ⟨v, e, h⟩ := h
  obtain ⟨m, hn, hl⟩ := I.loc
  obtain ⟨u, r, l⟩ := hl i x v hN e hv
  have fin : EP X pins σ Q u s := ⟨v, H, I, r, h⟩
  rcases l with ⟨hk, hm⟩ | ⟨hk, c, hc, hcell⟩
  · exact wpAny_Name (wpAny_loadName_local I.ok.kind hk hn hm fin) hd
  · rcases hk with hk | hk
    · exact wpAny_Name (wpAny_loadName_cell I.ok.kind hk hc hcell fin) hd
    · exact wpAny_Name (wpAny_loadName_free I.ok.kind hk hc hcell fin hcd) hd
theorem pe_int {i j pos} : PE X (.Constant (.int i) j pos) (tC (.int i)) := fun _ _ _ H _ I h => wpAny_Constant_int ⟨.int i, H, I.tok _, ⟨_, rfl⟩, h⟩
theorem pe_bl {b j pos} : PE X (.Constant (.bool b) j pos) (tC (.bl b)) := fun _ _ _ H _ I h => Constant_bool ⟨.bl b, H, I, rfl, h⟩
theorem pe_str {x j pos} : PE X (.Constant (.str x) j pos) (tC (.str x)) := fun _ _ _ H _ I h => Calls.Constant_str ⟨.str x, H, I.tok _, ⟨_, rfl⟩, h⟩

/-- a global name of the def -/
def Gl (X : Cx) (x : Str) : Prop := X.env.kindOf x = some .globalImplicit
theorem ld_glob {E : Value → Shared → Prop} {pins : List (Addr × Obj)} {s : Shared} {σ : St} {H : Hp} {x : Str} {u : Value} {pos : Pos} {Q : Value → Shared → Prop} (I : Inv X pins σ H s) (hg : Gl X x) (hm : X.mg x = some u) (h : Q u s)
    (hd : (x == ("__debug__" : Str)) = false := by decide) : wpAny (model X.prog X.w) X.A (eval (.Name x pos) X.env) Q E s :=
  Calls.Name_function_global I.ok.kind hg (Calls.loadGlobal_global (by rw [I.ok.glob]; exact I.mod.glob.keeps I.bk) hm h) hd
theorem ld_blt {E : Value → Shared → Prop} {pins : List (Addr × Obj)} {s : Shared} {σ : St} {H : Hp} {x : Str} {u : Value} {pos : Pos} {Q : Value → Shared → Prop} (I : Inv X pins σ H s) (hg : Gl X x) (hm : X.mg x = none) (hv : bootBuiltins x = some u) (h : Q u s)
    (hn : x ≠ "__name__" := by decide) (hd : (x == ("__debug__" : Str)) = false := by decide) : wpAny (model X.prog X.w) X.A (eval (.Name x pos) X.env) Q E s := by
  obtain ⟨mb, h1, h2⟩ := I.mod.blt
  exact Calls.Name_function_global I.ok.kind hg (Calls.loadGlobal_builtin (by rw [I.ok.glob]; exact I.mod.glob.keeps I.bk) hm (by rw [I.ok.blt]; exact h1.keeps I.bk) ((h2 x hn).trans hv) h) hd
/-- a module's constant, a class, a function, as a value -/
theorem pe_glob {x : Str} {v : V} {u : Value} {pos : Pos} (hg : Gl X x) (hm : X.mg x = some u) (r : RelV v u) (hd : (x == ("__debug__" : Str)) = false := by decide) : PE X (.Name x pos) (tC v) :=
  fun _ _ _ H _ I h => ld_glob I hg hm ⟨v, H, I, r, h⟩ hd
theorem pe_bltn {x : Str} {v : V} {u : Value} {pos : Pos} (hg : Gl X x) (hm : X.mg x = none) (hv : bootBuiltins x = some u) (r : RelV v u) (hn : x ≠ "__name__" := by decide) (hd : (x == ("__debug__" : Str)) = false := by decide) : PE X (.Name x pos) (tC v) :=
  fun _ _ _ H _ I h => ld_blt I hg hm hv ⟨v, H, I, r, h⟩ hn hd

/-! ### arithmetic -/
variable {a b : Expr} {ta tb : TE} {pos : Pos}
/-! ### comparisons -/
/-! ### and, or, not -/
variable {tA tB' : TT} {rest : List Expr}
def tAnd (t u : TT) : TT := fun σ H Q => t σ H fun c H1 => if c = true then u σ H1 Q else Q false H1
def tOr (t u : TT) : TT := fun σ H Q => t σ H fun c H1 => if c = true then Q true H1 else u σ H1 Q
def tNot (t : TT) : TT := fun σ H Q => t σ H fun c H1 => Q (!c) H1
theorem pw_and1 (ha : PT X a tA) : PW X (.BoolOp .And [a] pos) tA := by
  intro wh pins s σ H Q I h
  refine isTrue_and (thn (ha pins s σ H Q I h) fun c s1 e => ?_)
  cases c with
  | true => exact isTrue_and_nil e
  | false => exact e
theorem pw_or1 (ha : PT X a tA) : PW X (.BoolOp .Or [a] pos) tA := by
  intro wh pins s σ H Q I h
  refine isTrue_or (thn (ha pins s σ H Q I h) fun c s1 e => ?_)
  cases c with
  | false => exact isTrue_or_nil e
  | true => exact e
theorem pw_and (ha : PT X a tA) (hb : PW X (.BoolOp .And (b :: rest) pos) tB') : PW X (.BoolOp .And (a :: b :: rest) pos) (tAnd tA tB') := by
  intro wh pins s σ H Q I h
  refine isTrue_and (thn (ha pins s σ H _ I h) fun c s1 ⟨H1, I1, q1⟩ => ?_)
  cases c with
  | true => exact hb wh pins s1 σ H1 Q I1 q1
  | false => exact ⟨H1, I1, q1⟩
theorem pw_or (ha : PT X a tA) (hb : PW X (.BoolOp .Or (b :: rest) pos) tB') : PW X (.BoolOp .Or (a :: b :: rest) pos) (tOr tA tB') := by
  intro wh pins s σ H Q I h
  refine isTrue_or (thn (ha pins s σ H _ I h) fun c s1 ⟨H1, I1, q1⟩ => ?_)
  cases c with
  | true => exact ⟨H1, I1, q1⟩
  | false => exact hb wh pins s1 σ H1 Q I1 q1
theorem pt_not (ha : PT X a tA) : PT X (.UnaryOp .Not a pos) (tNot tA) := by
  intro pins s σ H Q I h
  exact isTrue_not (ha pins s σ H (fun c H1 => Q (!c) H1) I h)
/-- .. as values (bools) -/
def tAndV (ta tb : TE) : TE := fun σ H Q => ta σ H fun x H1 => ∃ c, x = .bl c ∧ if c = true then tb σ H1 Q else Q (.bl false) H1
def tOrV (ta tb : TE) : TE := fun σ H Q => ta σ H fun x H1 => ∃ c, x = .bl c ∧ if c = true then Q (.bl true) H1 else tb σ H1 Q
theorem pe_one {op} {t : TE} (h : PE X a t) : PE X (.BoolOp op [a] pos) t := fun pins s σ H Q I hw => BoolOp_one (h pins s σ H Q I hw)
theorem pe_and (ha : PE X a ta) (hb : PE X (.BoolOp .And (b :: rest) pos) tb) : PE X (.BoolOp .And (a :: b :: rest) pos) (tAndV ta tb) := by
  intro pins s σ H Q I h
  refine BoolOp_and (thn (ha pins s σ H _ I h) fun v s1 ⟨x, H1, I1, r1, q1⟩ => ?_)
  obtain ⟨c, rfl, q1⟩ := q1
  cases r1
  refine wpAny_truthy_bool ?_
  cases c with
  | true => exact hb pins s1 σ H1 Q I1 q1
  | false => exact ⟨.bl false, H1, I1, rfl, q1⟩
theorem pe_or (ha : PE X a ta) (hb : PE X (.BoolOp .Or (b :: rest) pos) tb) : PE X (.BoolOp .Or (a :: b :: rest) pos) (tOrV ta tb) := by
  intro pins s σ H Q I h
  refine BoolOp_or (thn (ha pins s σ H _ I h) fun v s1 ⟨x, H1, I1, r1, q1⟩ => ?_)
  obtain ⟨c, rfl, q1⟩ := q1
  cases r1
  refine wpAny_truthy_bool ?_
  cases c with
  | false => exact hb pins s1 σ H1 Q I1 q1
  | true => exact ⟨.bl true, H1, I1, rfl, q1⟩
/-- a if t else b -/
def tIf (t : TT) (ta tb : TE) : TE := fun σ H Q => t σ H fun c H1 => if c = true then ta σ H1 Q else tb σ H1 Q
theorem pe_ifExp {c : Expr} (hc : PT X c tA) (ha : PE X a ta) (hb : PE X b tb) : PE X (.IfExp c a b pos) (tIf tA ta tb) := by
  intro pins s σ H Q I h
  refine wpAny_IfExp (thn (hc pins s σ H _ I h) fun d s1 ⟨H1, I1, q1⟩ => ?_)
  cases d with
  | true => exact ha pins s1 σ H1 Q I1 q1
  | false => exact hb pins s1 σ H1 Q I1 q1
end
end L2

namespace L2
open PySem PySem.Spec PyProof.Rows

/-! ### a list, a tuple that is read: tracked, frozen, or an object of the module -/
def SqL (K : PySem.W.Frag) (H : Hp) (a : Addr) (xs : List V) : Prop :=
  Rd H a (.lst xs) ∨
    ∃ (o : Obj) (its : Array Value) (n : Nat), K.lookup a = some o ∧ o.cls = .type "list" ∧ o.dict = none ∧ o.data = .seq its n ∧ its.size ≤ sizeLine ∧ Vals xs its.toList
def SqT (K : PySem.W.Frag) (H : Hp) (a : Addr) (xs : List V) : Prop :=
  Rd H a (.tup xs) ∨
    ∃ (o : Obj) (its : Array Value) (n : Nat), K.lookup a = some o ∧ o.cls = .type "tuple" ∧ o.data = .seq its n ∧ its.size ≤ sizeLine ∧ Vals xs its.toList
def absV : Value → Option V
  | .none => some .non
  | .bool b => some (.bl b)
  | .int i _ => some (.int i)
  | .str x _ => some (.str x)
  | .bytes b _ => some (.byt b)
  | .float b _ => some (.flt b)
  | .ref a => some (.ref a)
  | .type n => some (.ty n)
  | _ => none
theorem RelV.abs {x : V} {u : Value} (r : RelV x u) : absV u = some x := by
  cases x with
  | non => cases r; rfl
  | bl _ => cases r; rfl
  | int _ => obtain ⟨t, rfl⟩ := r; rfl
  | str _ => obtain ⟨t, rfl⟩ := r; rfl
  | byt _ => obtain ⟨t, rfl⟩ := r; rfl
  | flt _ => obtain ⟨t, rfl⟩ := r; rfl
  | ref _ => cases r; rfl
  | ty _ => cases r; rfl
theorem RelV.inj {x y : V} {u : Value} (r : RelV x u) (q : RelV y u) : x = y := Option.some.inj (r.abs.symm.trans q.abs)
theorem Vals.inj : ∀ {xs ys : List V} {us : List Value}, Vals xs us → Vals ys us → xs = ys
  | _, _, _, .nil, .nil => rfl
  | _, _, _, .cons r t, .cons r' t' => by rw [r.inj r', Vals.inj t t']
section
variable {X : Cx} {pins : List (Addr × Obj)} {σ : St} {H : Hp} {s : Shared} {a : Addr} {xs ys : List V}
theorem SqL.of {K : PySem.W.Frag} (h : H a = some (.lst xs)) : SqL K H a xs := .inl (.inl h)
theorem SqT.of {K : PySem.W.Frag} (h : H a = some (.tup xs)) : SqT K H a xs := .inl (.inl h)
theorem Inv.list (I : Inv X pins σ H s) (h : SqL X.K H a xs) : ∃ its : List Value, Vals xs its ∧ PlainL s.heap a its.toArray ∧ xs.length ≤ sizeLine := by
  rcases h with h | ⟨o, its, n, hk, hc, hd, hs, hz, r⟩
  · obtain ⟨z, its, n, r, e⟩ := h.ok I.hok
    exact ⟨its, r, ⟨_, n, e, rfl, rfl, rfl⟩, z⟩
  · refine ⟨its.toList, r, ⟨o, n, I.kIn a o hk, hc, hd, by simpa using hs⟩, ?_⟩
    have e := r.length
    simp only [Array.length_toList] at e
    omega
theorem Inv.tuple (I : Inv X pins σ H s) (h : SqT X.K H a xs) : ∃ its : List Value, Vals xs its ∧ IsTup s.heap a its.toArray ∧ xs.length ≤ sizeLine := by
  rcases h with h | ⟨o, its, n, hk, hc, hs, hz, r⟩
  · obtain ⟨z, its, r, p⟩ := h.ok I.hok
    exact ⟨its, r, p, z⟩
  · refine ⟨its.toList, r, ⟨o, I.kIn a o hk, hc, n, by simpa using hs⟩, ?_⟩
    have e := r.length
    simp only [Array.length_toList] at e
    omega
theorem Inv.list_inj (I : Inv X pins σ H s) (h : SqL X.K H a xs) (h' : SqL X.K H a ys) : xs = ys := by
  obtain ⟨its, r, ⟨o, n, e, _, _, d⟩, _⟩ := I.list h
  obtain ⟨its', r', ⟨o', n', e', _, _, d'⟩, _⟩ := I.list h'
  rw [e] at e'; cases e'
  rw [d] at d'
  injection d' with d1 _
  have : its = its' := by simpa using congrArg Array.toList d1
  subst this
  exact r.inj r'
theorem Inv.tuple_inj (I : Inv X pins σ H s) (h : SqT X.K H a xs) (h' : SqT X.K H a ys) : xs = ys := by
  obtain ⟨its, r, ⟨o, e, _, n, d⟩, _⟩ := I.tuple h
  obtain ⟨its', r', ⟨o', e', _, n', d'⟩, _⟩ := I.tuple h'
  rw [e] at e'; cases e'
  rw [d] at d'
  injection d' with d1 _
  have : its = its' := by simpa using congrArg Array.toList d1
  subst this
  exact r.inj r'
end

/-! ### another wish about exceptions -/
abbrev Cx.wish (X : Cx) (E : Value → Shared → Prop) : Cx := { X with xe := E }
/-- no exception leaves -/
abbrev Cx.nox (X : Cx) : Cx := X.wish fun _ _ => False
theorem Cx.Ok.wish {X : Cx} (ok : X.Ok) (E : Value → Shared → Prop) : (X.wish E).Ok :=
  ⟨ok.mod, ok.kind, ok.glob, ok.blt, ok.above, ok.inj, ok.has, ok.cab, ok.hd, ok.frames, ok.stk, ok.exf, ok.bs, ok.bsz, ok.noex, ok.exfs, ok.funs, ok.frf⟩
theorem Cx.Ok.unwish {X : Cx} {E : Value → Shared → Prop} (ok : (X.wish E).Ok) : X.Ok :=
  ⟨ok.mod, ok.kind, ok.glob, ok.blt, ok.above, ok.inj, ok.has, ok.cab, ok.hd, ok.frames, ok.stk, ok.exf, ok.bs, ok.bsz, ok.noex, ok.exfs, ok.funs, ok.frf⟩
section
variable {X : Cx} {pins : List (Addr × Obj)} {σ : St} {H : Hp} {s : Shared} {E : Value → Shared → Prop}
theorem Inv.wish (I : Inv X pins σ H s) (E : Value → Shared → Prop) : Inv (X.wish E) pins σ H s := ⟨I.ok.wish E, I.os, I.bare, I.base, I.loc, I.cell, I.free, I.freeC, I.pin, I.hok, I.len⟩
theorem Inv.unwish (I : Inv (X.wish E) pins σ H s) : Inv X pins σ H s := ⟨I.ok.unwish, I.os, I.bare, I.base, I.loc, I.cell, I.free, I.freeC, I.pin, I.hok, I.len⟩
theorem SP.unwish {D : Ends} {f : Flow} {s' : Shared} (h : SP (X.wish E) pins D f s') : SP X pins D f s' := by
  cases f with
  | next => obtain ⟨σ', H', I, q⟩ := h; exact ⟨σ', H', I.unwish, q⟩
  | brk => obtain ⟨σ', H', I, q⟩ := h; exact ⟨σ', H', I.unwish, q⟩
  | cont => obtain ⟨σ', H', I, q⟩ := h; exact ⟨σ', H', I.unwish, q⟩
  | ret u => obtain ⟨v, σ', H', I, r, q⟩ := h; exact ⟨v, σ', H', I.unwish, r, q⟩
theorem PE.nox {e : Expr} {t : TE} (h : PE X.nox e t) : PE X e t := fun pins s σ H Q I hw =>
  wpAny_mono (h pins s σ H Q (I.wish _) hw) (fun _ _ ⟨v, H', I', r, q⟩ => ⟨v, H', I'.unwish, r, q⟩) fun _ _ z => False.elim z
theorem PT.nox {e : Expr} {t : TT} (h : PT X.nox e t) : PT X e t := fun pins s σ H Q I hw =>
  wpAny_mono (h pins s σ H Q (I.wish _) hw) (fun _ _ ⟨H', I', q⟩ => ⟨H', I'.unwish, q⟩) fun _ _ z => False.elim z
theorem PSs.nox {st : List Stmt} {t : TS} (h : PSs X.nox st t) : PSs X st t := fun pins s σ H D I hw =>
  wpAny_mono (h pins s σ H D (I.wish _) hw) (fun _ _ q => q.unwish) fun _ _ z => False.elim z
end

/-! ### blocks and small statements -/
section
variable {X : Cx} {st : Stmt} {rest : List Stmt} {t u : TS} {e : Expr} {te : TE} {pos : Pos}
def tNext : TS := fun D σ H => D.nx σ H
def tSeq (t u : TS) : TS := fun D σ H => t { D with nx := u D } σ H
theorem pss_nil : PSs X [] tNext := fun _ _ σ H _ I h => wpAny_execs_nil ⟨σ, H, I, h⟩
theorem pss_cons (h1 : PS X st t) (h2 : PSs X rest u) : PSs X (st :: rest) (tSeq t u) := by
  intro pins s σ H D I h
  refine wpAny_execs_cons (thn (h1 pins s σ H { D with nx := u D } I h) fun f s1 q => ?_)
  cases f with
  | next =>
    obtain ⟨σ', H', I', q⟩ := q
    exact h2 pins s1 σ' H' D I' q
  | ret v => exact q
  | brk => exact q
  | cont => exact q
theorem pss_one (h1 : PS X st t) : PSs X [st] t := by
  intro pins s σ H D I h
  refine wpAny_execs_cons (thn (h1 pins s σ H D I h) fun f s1 q => ?_)
  cases f with
  | next => exact wpAny_execs_nil q
  | ret v => exact q
  | brk => exact q
  | cont => exact q
/-- in a def's body nothing is shown -/
theorem Inv.quiet {pins : List (Addr × Obj)} {σ : St} {H : Hp} {s : Shared} (I : Inv X pins σ H s) : interactive X.env = false := by simp [interactive, I.ok.kind]
/-- an expression whose value is dropped -/
def tDrop (te : TE) : TS := fun D σ H => te σ H fun _ H1 => D.nx σ H1
theorem ps_expr (he : PE X e te) (hs : swapsWith e none pos.line X.env = pure false := by rfl) : PS X (.Expr e pos) (tDrop te) := by
  intro pins s σ H D I h
  exact wpAny_Expr_any (thn (he pins s σ H _ I h) fun v s1 ⟨x, H1, I1, r1, q1⟩ => ⟨σ, H1, I1, q1⟩) I.quiet hs
def tRet (te : TE) : TS := fun D σ H => te σ H D.rt
theorem ps_ret (he : PE X e te) : PS X (.Return (some e) pos) (tRet te) := by
  intro pins s σ H D I h
  exact wpAny_Return_some (thn (he pins s σ H _ I h) fun v s1 ⟨x, H1, I1, r1, q1⟩ => ⟨x, σ, H1, I1, r1, q1⟩)
def tIfS (c : TT) (t u : TS) : TS := fun D σ H => c σ H fun b H1 => if b = true then t D σ H1 else u D σ H1
theorem ps_if {c : Expr} {a b : List Stmt} {tc : TT} (hc : PT X c tc) (ha : PSs X a t) (hb : PSs X b u) : PS X (.If c a b pos) (tIfS tc t u) := by
  intro pins s σ H D I h
  refine wpAny_If (thn (hc pins s σ H _ I h) fun d s1 ⟨H1, I1, q1⟩ => ?_)
  cases d with
  | true => exact ha pins s1 σ H1 D I1 q1
  | false => exact hb pins s1 σ H1 D I1 q1
end

/-! ### targets -/
abbrev TG := V → St → Hp → (St → Hp → Prop) → Prop
def PG (X : Cx) (target : Expr) (t : TG) : Prop :=
  ∀ (pins : List (Addr × Obj)) (s : Shared) (σ : St) (H : Hp) (v : V) (u : Value) (Q : St → Hp → Prop), Inv X pins σ H s → RelV v u → t v σ H Q →
    wpAny (model X.prog X.w) X.A (assign target X.env u) (fun _ s' => ∃ σ' H', Inv X pins σ' H' s' ∧ Q σ' H') X.xe s
section
variable {X : Cx} {pos : Pos}
def gName (i : Nat) : TG := fun v σ H Q => Q (σ.set i (some v)) H
theorem pg_name {i : Nat} {x : Str} (hN : X.N.Nodup) (hi : X.N[i]? = some x) (hx : Loc X.env.scope x) (hf : X.fn x = true ∨ X.env.scope.names.lookup x = some .local := by first | exact .inl rfl | exact .inr rfl | assumption) : PG X (.Name x pos) (gName i) := by
  intro pins s σ H v u Q I r h
  exact wpAny_assign_Name (store_ok I hN hi hx r (fun s' I' => ⟨_, H, I', h⟩) hf)
/-- target = value -/
def tAsg (te : TE) (g : TG) : TS := fun D σ H => te σ H fun x H1 => g x σ H1 D.nx
/-- name = value -/
theorem ps_set {i : Nat} {x : Str} {e : Expr} {te : TE} {pos' : Pos} (hN : X.N.Nodup) (hi : X.N[i]? = some x) (hx : Loc X.env.scope x) (he : PE X e te) (hs : swapsWith e (some (.Name x pos')) pos.line X.env = pure false := by rfl) (hf : X.fn x = true ∨ X.env.scope.names.lookup x = some .local := by first | exact .inl rfl | exact .inr rfl | assumption) :
    PS X (.Assign [.Name x pos'] e pos) (tAsg te (gName i)) := by
  intro pins s σ H D I h
  refine wpAny_Assign_Name (thn (he pins s σ H _ I h) fun v s1 ⟨y, H1, I1, r1, q1⟩ => ?_) hs
  exact store_ok I1 hN hi hx r1 (fun s2 I2 => ⟨_, H1, I2, q1⟩) hf
end

/-! ### while -/
section
variable {X : Cx} {pos : Pos}
end

/-! ### what a loop or a comprehension walks -/
/-- at turn i: it yields x (the heap may grow), or it stops -/
structure It where
  go : Nat → Hp → Prop
  yld : Nat → Hp → V → Hp → Prop
  stop : Nat → Hp → Prop
/-- the iterator's own objects may turn: they are not the frame's, not pinned, younger than the entry (or a comprehension's own) -/
def FpOk (X : Cx) (pins : List (Addr × Obj)) (H : Hp) (b : Addr) : Prop :=
  H b = none ∧ b ≠ X.env.locals ∧ b ∉ X.fs ∧ (b ∈ X.ex ∨ X.s₀.heap.objs.size ≤ b) ∧ (∀ x c, X.env.cells.lookup x = some c → c ≠ b) ∧ ∀ p ∈ X.pn ++ pins, p.1 ≠ b
theorem Inv.fpOk {X : Cx} {pins : List (Addr × Obj)} {σ : St} {H H' : Hp} {s : Shared} {b : Addr} (I : Inv X pins σ H s) (hb : s.heap.objs.size ≤ b) (hn : H' b = none) : FpOk X pins H' b := by
  refine ⟨hn, Nat.ne_of_gt (Nat.lt_of_lt_of_le I.lt hb), I.nofs hb, .inr (Nat.le_trans I.sz hb), fun x c e z => ?_, fun p hp z => ?_⟩
  · obtain ⟨v, q⟩ := I.cell x c e
    exact absurd (Nat.lt_of_lt_of_le q.lt (by rw [z]; exact hb)) (Nat.lt_irrefl _)
  · exact absurd (Nat.lt_of_lt_of_le (Heap.lt_size (I.pin p hp).1) (by rw [z]; exact hb)) (Nat.lt_irrefl _)
structure Turn (P : Program) (w : World) (K : PySem.W.Frag) (tg : Expr) (J : It) (fp : List Addr) (it : Addr) (tn : Nat → Heap → Prop) : Prop where
  mem : it ∈ fp
  obj : ∀ i h, tn i h → ∀ b ∈ fp, ∃ o, h.get? b = some o ∧ ∀ v, o.data ≠ .cell v
  keep : ∀ i h h', tn i h → (∀ b ∈ fp, ∀ o, h.get? b = some o → h'.get? b = some o) → tn i h'
  item : ∀ (X : Cx), X.prog = P → X.w = w → X.K = K → X.calm = true → ∀ (i : Nat) (pins : List (Addr × Obj)) (s : Shared) (σ : St) (H : Hp) (E : Value → Shared → Prop), Inv X pins σ H s → (∀ b ∈ fp, FpOk X pins H b) → tn i s.heap → J.go i H →
    wpAny (model P w) X.A (pyNext (.ref it)) (fun r s1 => ∃ u, r = some u ∧
      wpAny (model P w) X.A (letOwnedTupleGo tg (.ref it) u) (fun _ s2 => ∃ x H', Inv X pins σ H' s2 ∧ RelV x u ∧ J.yld i H x H' ∧ tn (i + 1) s2.heap ∧ ∀ b ∈ fp, H' b = none) E s1) E s
  done : ∀ (X : Cx), X.prog = P → X.w = w → X.K = K → X.calm = true → ∀ (i : Nat) (pins : List (Addr × Obj)) (s : Shared) (σ : St) (H : Hp) (E : Value → Shared → Prop), Inv X pins σ H s → (∀ b ∈ fp, FpOk X pins H b) → tn i s.heap → J.stop i H →
    wpAny (model P w) X.A (pyNext (.ref it)) (fun r s1 => r = none ∧ Inv X pins σ H s1) E s
  self : ∀ (A : Around) (i : Nat) (s : Shared) (Q : Value → Shared → Prop) (E : Value → Shared → Prop), tn i s.heap → Q (.ref it) s → wpAny (model P w) A (pyIter (.ref it)) Q E s
abbrev TI := St → Hp → (It → Hp → Prop) → Prop
/-- an iterator has come -/
def PIE (X : Cx) (pins : List (Addr × Obj)) (σ : St) (tg : Expr) (R : It → Hp → Prop) (itv : Value) (s2 : Shared) : Prop :=
  ∃ (it : Addr) (fp : List Addr) (tn : Nat → Heap → Prop) (J : It) (H' : Hp), itv = .ref it ∧ Inv X pins σ H' s2 ∧ Turn X.prog X.w X.K tg J fp it tn ∧ tn 0 s2.heap ∧ (∀ b ∈ fp, FpOk X pins H' b) ∧ R J H'
def PI (X : Cx) (tg iter : Expr) (wi : TI) : Prop :=
  ∀ (pins : List (Addr × Obj)) (s : Shared) (σ : St) (H : Hp) (R : It → Hp → Prop), Inv X pins σ H s → wi σ H R →
    wpAny (model X.prog X.w) X.A (eval iter X.env) (fun v s1 => wpAny (model X.prog X.w) X.A (pyIter v) (PIE X pins σ tg R) X.xe s1) X.xe s

/-- the step ahead of the store is nothing for an iterator that keeps no tuple -/
theorem go_of {M : Model} {A : Around} {E : Value → Shared → Prop} {s : Shared} {tg : Expr} {it : Addr} {u : Value} {o : Obj} {n : String} {vs : Array Value} {Q : Unit → Shared → Prop} (ho : s.heap.get? it = some o) (hc : o.cls = .type n) (hd : o.data = .fields vs)
    (hn : ["enumerate", "zip", "dict_itemiterator", "dict_reverseitemiterator", "odict_iterator", "itertools.zip_longest", "itertools.pairwise"].contains n = false) (hQ : Q () s) : wpAny M A (letOwnedTupleGo tg (.ref it) u) Q E s := by
  unfold letOwnedTupleGo
  cases tg <;> first
    | exact wpAny_pure hQ
    | (cases u <;> first
        | exact wpAny_pure hQ
        | (refine wpAny_bind (wpAny_load ho ?_)
           rw [hc, hd]
           show wpAny M A (if (["enumerate", "zip", "dict_itemiterator", "dict_reverseitemiterator", "odict_iterator", "itertools.zip_longest", "itertools.pairwise"].contains n && vs[0]? == some (rawInt _)) = true then _ else _) Q E s
           rw [if_neg (by intro h; rw [hn, Bool.false_and] at h; cases h)]
           exact wpAny_pure hQ))

/-- the list at a, as it stands at each turn (a loop may append to it) -/
def Itl (K : PySem.W.Frag) (a : Addr) : It :=
  ⟨fun i H => ∃ xs x, SqL K H a xs ∧ xs[i]? = some x, fun i H x H' => H' = H ∧ ∀ xs, SqL K H a xs → xs[i]? = some x, fun i H => ∃ xs, SqL K H a xs ∧ xs.length ≤ i⟩
def Itt (K : PySem.W.Frag) (a : Addr) : It :=
  ⟨fun i H => ∃ xs x, SqT K H a xs ∧ xs[i]? = some x, fun i H x H' => H' = H ∧ ∀ xs, SqT K H a xs → xs[i]? = some x, fun i H => ∃ xs, SqT K H a xs ∧ xs.length ≤ i⟩
/-- lo, lo + 1, .. (n of them) -/
def Itr (lo : Int) (n : Nat) : It := ⟨fun i _ => i < n, fun i H x H' => H' = H ∧ x = .int (lo + i), fun i _ => n ≤ i⟩
theorem turn_list {P : Program} {w : World} {K : PySem.W.Frag} {tg : Expr} (a it : Addr) : Turn P w K tg (Itl K a) [it] it (fun i h => h.IsListIter it a i) where
  mem := by simp
  obj := fun i h st b hb => by
    have e : b = it := by simpa using hb
    subst e
    obtain ⟨o, e, c, d⟩ := st
    exact ⟨o, e, fun v z => by rw [d] at z; cases z⟩
  keep := fun i h h' st k => st.at fun o e => k it (by simp) o e
  item := by
    intro X hP hw hK hc i pins s σ H E I hf st hg
    subst hP hw hK
    obtain ⟨xs, x, hq, hx⟩ := hg
    obtain ⟨its, rv, p, hz⟩ := I.list hq
    obtain ⟨u, hu, ru⟩ := rv.get hx
    obtain ⟨f0, f1, f2, f3, f4, f5⟩ := hf it (by simp)
    refine wpAny_pyNext_list_item st p.isList (x := u) (by simpa using hu) fun h' st' sb => ?_
    have I1 : Inv X pins σ H { s with heap := h' } := I.turned (t' := s.toks) (fun b o hb e => (sb.2 b hb).trans e) f0 f1 f3 f4 f5
    obtain ⟨o, e, c, d⟩ := id st'
    exact ⟨u, rfl, go_of (s := { s with heap := h' }) e c d (by decide) ⟨x, H, I1, ru, ⟨rfl, fun ys hy => by rw [I.list_inj hy hq]; exact hx⟩, st', fun b hb => (hf b hb).1⟩⟩
  done := by
    intro X hP hw hK hc i pins s σ H E I hf st hg
    subst hP hw hK
    obtain ⟨xs, hq, hx⟩ := hg
    obtain ⟨its, rv, p, hz⟩ := I.list hq
    obtain ⟨f0, f1, f2, f3, f4, f5⟩ := hf it (by simp)
    have hl := rv.length
    exact wpAny_pyNext_list_end (I.ok.hd hc) st p.isList (by simp; omega) fun h' eb => ⟨rfl, I.turned (t' := s.toks) (fun b o hb e => eb b o hb e) f0 f1 f3 f4 f5⟩
  self := fun _ _ _ _ _ st h => wpAny_pyIter_listiter st h
theorem turn_tuple {P : Program} {w : World} {K : PySem.W.Frag} {tg : Expr} (a it : Addr) : Turn P w K tg (Itt K a) [it] it (fun i h => h.IsTupleIter it a i) where
  mem := by simp
  obj := fun i h st b hb => by
    have e : b = it := by simpa using hb
    subst e
    obtain ⟨o, e, c, d⟩ := st
    exact ⟨o, e, fun v z => by rw [d] at z; cases z⟩
  keep := fun i h h' st k => st.at fun o e => k it (by simp) o e
  item := by
    intro X hP hw hK hc i pins s σ H E I hf st hg
    subst hP hw hK
    obtain ⟨xs, x, hq, hx⟩ := hg
    obtain ⟨its, rv, p, hz⟩ := I.tuple hq
    obtain ⟨u, hu, ru⟩ := rv.get hx
    obtain ⟨f0, f1, f2, f3, f4, f5⟩ := hf it (by simp)
    refine wpAny_pyNext_tuple_item st (show s.heap.IsTuple a its.toArray from p) (x := u) (by simpa using hu) fun h' st' sb => ?_
    have I1 : Inv X pins σ H { s with heap := h' } := I.turned (t' := s.toks) (fun b o hb e => (sb.2 b hb).trans e) f0 f1 f3 f4 f5
    obtain ⟨o, e, c, d⟩ := id st'
    exact ⟨u, rfl, go_of (s := { s with heap := h' }) e c d (by decide) ⟨x, H, I1, ru, ⟨rfl, fun ys hy => by rw [I.tuple_inj hy hq]; exact hx⟩, st', fun b hb => (hf b hb).1⟩⟩
  done := by
    intro X hP hw hK hc i pins s σ H E I hf st hg
    subst hP hw hK
    obtain ⟨xs, hq, hx⟩ := hg
    obtain ⟨its, rv, p, hz⟩ := I.tuple hq
    obtain ⟨f0, f1, f2, f3, f4, f5⟩ := hf it (by simp)
    have hl := rv.length
    exact wpAny_pyNext_tuple_end (I.ok.hd hc) st (show s.heap.IsTuple a its.toArray from p) (by simp; omega) fun h' eb => ⟨rfl, I.turned (t' := s.toks) (fun b o hb e => eb b o hb e) f0 f1 f3 f4 f5⟩
  self := fun _ _ _ _ _ st h => wpAny_pyIter_tupleiter st h
theorem turn_range {P : Program} {w : World} {K : PySem.W.Frag} {tg : Expr} (it : Addr) (lo : Int) (n : Nat) : Turn P w K tg (Itr lo n) [it] it (fun i h => IsRangeIter h it (lo + (i : Nat) * 1) ((n : Int) - (i : Nat)) 1) where
  mem := by simp
  obj := fun i h st b hb => by
    have e : b = it := by simpa using hb
    subst e
    exact ⟨_, st, fun v z => by
      have z' : Data.fields _ = Data.cell v := z
      cases z'⟩
  keep := fun i h h' st k => k it (by simp) _ st
  item := by
    intro X hP hw hK hc i pins s σ H E I hf st hg
    subst hP hw hK
    obtain ⟨f0, f1, f2, f3, f4, f5⟩ := hf it (by simp)
    have W := Walks.range (prog := X.prog) (w := X.w) (I.ok.hd hc) it lo 1 n
    refine W.item i s _ _ hg st fun v h' tk hv st' kk => ?_
    obtain ⟨t, rfl⟩ := hv
    have I1 : Inv X pins σ H { s with heap := h', toks := tk } := I.turned (fun b o hb e => kk b o (by simpa using hb) e) f0 f1 f3 f4 f5
    refine ⟨_, rfl, go_of (s := { s with heap := h', toks := tk }) (n := "range_iterator") st' rfl rfl (by decide) ⟨.int (lo + i), H, I1, ⟨t, ?_⟩, ⟨rfl, rfl⟩, st', fun b hb => (hf b hb).1⟩⟩
    rw [Int.mul_one]
  done := by
    intro X hP hw hK hc i pins s σ H E I hf st hg
    subst hP hw hK
    obtain ⟨f0, f1, f2, f3, f4, f5⟩ := hf it (by simp)
    exact wpAny_pyNext_range_end (I.ok.hd hc) st (by have : n ≤ i := hg; omega) fun h' eb => ⟨rfl, I.turned (t' := s.toks) (fun b o hb e => eb b o hb e) f0 f1 f3 f4 f5⟩
  self := fun _ _ _ _ _ st h => wpAny_pyIter_rangeiter st h
end L2

namespace L2
open PySem PySem.Spec PyProof.Rows
section
variable {X : Cx} {tg : Expr}
/-- a range object just made, walked -/
theorem range_it {pins : List (Addr × Obj)} {σ : St} {H : Hp} {s : Shared} {R : It → Hp → Prop} {E : Value → Shared → Prop} {lo hi : Int} {t u v : Tok} {tk : Nat} (I : Inv X pins σ H s) (h1 : -(2 ^ 62) ≤ lo) (h2 : lo < 2 ^ 62) (h3 : -(2 ^ 62) ≤ hi) (h4 : hi < 2 ^ 62)
    (q : R (Itr lo (hi - lo).toNat) H) : wpAny (model X.prog X.w) X.A (pyIter (.ref s.heap.objs.size)) (PIE X pins σ tg R) E { s with heap := s.heap.push { cls := .type "range", data := .fields #[.int lo t, .int hi u, .int 1 v] }, toks := tk } := by
  refine wpAny_pyIter_range (IsRange.new ..) (small_one h1 h2 h3 h4) ?_
  have I1 : Inv X pins σ H { s with heap := s.heap.push { cls := .type "range", data := .fields #[.int lo t, .int hi u, .int 1 v] }, toks := tk } := I.kept fun b o e => Heap.get?_push_of_some _ e
  refine ⟨(s.heap.push { cls := .type "range", data := .fields #[.int lo t, .int hi u, .int 1 v] }).objs.size, [(s.heap.push { cls := .type "range", data := .fields #[.int lo t, .int hi u, .int 1 v] }).objs.size], _, _, H, rfl,
    I1.kept (t' := tk) fun b o e => Heap.get?_push_of_some _ e, turn_range _ lo (hi - lo).toNat, ?_, fun b hb => ?_, q⟩
  · have e1 : lo + ((0 : Nat) : Int) * 1 = lo := by simp
    have e2 : (((hi - lo).toNat : Nat) : Int) - ((0 : Nat) : Int) = Builtin.Range.rangeSize lo hi 1 := by rw [rangeSize_one]; split <;> omega
    show IsRangeIter _ _ (lo + ((0 : Nat) : Int) * 1) ((((hi - lo).toNat : Nat) : Int) - ((0 : Nat) : Int)) 1
    rw [e1, e2]
    exact Heap.get?_push_size _ rfl
  · have e : b = (s.heap.push { cls := .type "range", data := .fields #[.int lo t, .int hi u, .int 1 v] }).objs.size := by simpa using hb
    subst e
    exact I1.fpOk (Nat.le_refl _) (I1.hok.fresh (Nat.le_refl _))
def iRng1 (ta : TA) : TI := fun σ H R => ta σ H fun vs H1 => ∃ j : Int, vs = [.int j] ∧ -(2 ^ 62) ≤ j ∧ j < 2 ^ 62 ∧ R (Itr 0 j.toNat) H1
theorem pi_range1 {a : Expr} {ta : TA} {p pos : Pos} (hg : Gl X "range") (hm : X.mg "range" = none) (ha : PA X [a] ta) (hs : starEach [a] X.env = [(false, eval a X.env)] := by rfl) : PI X tg (.Call (.Name "range" p) [a] [] pos) (iRng1 ta) := by
  intro pins s σ H R I h
  refine Call_ (ld_blt I hg hm boot_range (PyProof.Rows.callWith_type1 (thn (ha pos pins s σ H _ I h) fun us s1 ⟨vs, H1, I1, r1, q1⟩ => ?_) hs rfl))
  obtain ⟨j, e, q1, q2, q⟩ := q1
  subst e
  cases r1 with
  | cons r rr =>
    cases rr
    obtain ⟨t, rfl⟩ := r
    exact call_range_1 (range_it I1 (by omega) (by omega) q1 q2 (by simpa using q))
/-! ### for -/
/-- W: the invariant by the turn and a measure; N: what the body is to reach -/
def tFor (wi : TI) (g : TG) (tb : TS) : TS := fun D σ H => wi σ H fun J H1 => ∃ W : Nat → Nat → St → Hp → Prop, (∃ m, W 0 m σ H1) ∧ ∀ i m σ H, W i m σ H →
  (J.stop i H ∧ D.nx σ H) ∨ (J.go i H ∧ ∃ N : St → Hp → Prop, (∀ σ' H', N σ' H' → ∃ m', m' < m ∧ W (i + 1) m' σ' H') ∧ ∀ x H', J.yld i H x H' → g x σ H' fun σ2 H2 => tb { D with nx := N, ct := N, bk := D.nx } σ2 H2)
/-- the records at fp as they stand -/
def pinsAt (fp : List Addr) (h : Heap) : List (Addr × Obj) := fp.filterMap fun b => (h.get? b).map fun o => (b, o)
theorem mem_pinsAt {fp : List Addr} {h : Heap} {b : Addr} {o : Obj} (hb : b ∈ fp) (e : h.get? b = some o) : (b, o) ∈ pinsAt fp h := List.mem_filterMap.mpr ⟨b, hb, by rw [e]; rfl⟩
theorem of_pinsAt {fp : List Addr} {h : Heap} {p : Addr × Obj} (hp : p ∈ pinsAt fp h) : p.1 ∈ fp ∧ h.get? p.1 = some p.2 := by
  obtain ⟨b, hb, e⟩ := List.mem_filterMap.mp hp
  cases q : h.get? b with
  | none => rw [q] at e; cases e
  | some o =>
    rw [q] at e
    have e' : (b, o) = p := Option.some.inj e
    subst e'
    exact ⟨hb, q⟩
theorem Inv.pinned {pins : List (Addr × Obj)} {σ : St} {H : Hp} {s : Shared} {fp : List Addr} (I : Inv X pins σ H s) (hf : ∀ b ∈ fp, FpOk X pins H b) (ho : ∀ b ∈ fp, ∃ o, s.heap.get? b = some o ∧ ∀ v, o.data ≠ .cell v) : Inv X (pins ++ pinsAt fp s.heap) σ H s :=
  I.pins_of fun p hp => (List.mem_append.mp hp).elim (fun z => I.pin p (List.mem_append_right _ z)) fun z => by
    obtain ⟨hb, e⟩ := of_pinsAt z
    obtain ⟨f0, f1, f2, _⟩ := hf p.1 hb
    obtain ⟨o, e', d⟩ := ho p.1 hb
    rw [e] at e'; cases e'
    exact ⟨e, f0, f1, f2, d⟩
theorem Inv.unpinned {pins pl : List (Addr × Obj)} {σ : St} {H : Hp} {s : Shared} (I : Inv X (pins ++ pl) σ H s) : Inv X pins σ H s := I.pins_of fun p hp => I.pin p (List.mem_append_right _ (List.mem_append_left _ hp))
theorem ps_for {iter : Expr} {body : List Stmt} {wi : TI} {g : TG} {tb : TS} {pos : Pos} (hp : PassesOwn (model X.prog X.w) X.A X.env X.xe) (hc : X.calm = true) (hi : PI X tg iter wi) (hg : PG X tg g) (hb : PSs X body tb)
    (hs : ∀ x, foldedSetIterable iter X.env x = pure x := by intro _; rfl) : PS X (.For tg iter body [] pos) (tFor wi g tb) := by
  intro pins s σ H D I h
  refine wpAny_For (thn (hi pins s σ H _ I h) fun v s1 h1 => thn h1 fun itv s2 h2 => ?_) hs
  obtain ⟨it, fp, tn, J, H2, e, I2, T, st2, f2, W, ⟨m0, w0⟩, turn⟩ := h2
  subst e
  -- what stays true of the iterator's objects through the loop
  have stat : ∀ {H' : Hp}, (∀ b ∈ fp, H' b = none) → ∀ b ∈ fp, FpOk X pins H' b := fun hn b hb => ⟨hn b hb, (f2 b hb).2⟩
  refine codeAny_forLoop_any (fun n s' => ∃ i σ' H', Inv X pins σ' H' s' ∧ tn i s'.heap ∧ (∀ b ∈ fp, H' b = none) ∧ W i n σ' H') ?_ m0 ⟨0, σ, H2, I2, st2, fun b hb => (f2 b hb).1, w0⟩
  rintro n s3 ⟨i, σ3, H3, I3, st3, fr3, w3⟩
  rcases turn i n σ3 H3 w3 with ⟨stop, qn⟩ | ⟨go, N, hN, step⟩
  · refine wpAny_passesOwn hp (thn (T.done X rfl rfl rfl hc i pins s3 σ3 H3 X.xe I3 (stat fr3) st3 stop) fun r s4 ⟨hr, I4⟩ => ?_)
    subst hr
    exact wpAny_execs_nil ⟨σ3, H3, I4, qn⟩
  · refine wpAny_passesOwn hp (thn (T.item X rfl rfl rfl hc i pins s3 σ3 H3 X.xe I3 (stat fr3) st3 go) fun r s4 ⟨u, hr, h4⟩ => ?_)
    subst hr
    refine wpAny_passesOwn hp (thn h4 fun _ s5 ⟨x, H5, I5, r5, y5, st5, fr5⟩ => ?_)
    have I5' := I5.pinned (stat fr5) (T.obj _ _ st5)
    refine wpAny_passesOwn hp (thn (hg _ s5 σ3 H5 x u _ I5' r5 (step x H5 y5)) fun _ s6 ⟨σ6, H6, I6, q6⟩ => ?_)
    refine wpAny_passesOwn hp (thn (hb _ s6 σ6 H6 _ I6 q6) fun f s7 q7 => ?_)
    have again : ∀ {σ7 : St} {H7 : Hp}, Inv X (pins ++ pinsAt fp s5.heap) σ7 H7 s7 → N σ7 H7 → ∃ m, m < n ∧ ∃ i σ' H', Inv X pins σ' H' s7 ∧ tn i s7.heap ∧ (∀ b ∈ fp, H' b = none) ∧ W i m σ' H' := fun {σ7 H7} I7 n7 => by
      obtain ⟨m', hm, w7⟩ := hN σ7 H7 n7
      refine ⟨m', hm, i + 1, σ7, H7, I7.unpinned, T.keep _ _ _ st5 fun b hb o e => (I7.pin (b, o) (List.mem_append_right _ (List.mem_append_right _ (mem_pinsAt hb e)))).1, fun b hb => ?_, w7⟩
      obtain ⟨o, e, d⟩ := T.obj _ _ st5 b hb
      exact (I7.pin (b, o) (List.mem_append_right _ (List.mem_append_right _ (mem_pinsAt hb e)))).2.1
    cases f with
    | next => obtain ⟨σ7, H7, I7, n7⟩ := q7; exact again I7 n7
    | cont => obtain ⟨σ7, H7, I7, n7⟩ := q7; exact again I7 n7
    | brk => obtain ⟨σ7, H7, I7, q7⟩ := q7; exact ⟨σ7, H7, I7.unpinned, q7⟩
    | ret v => obtain ⟨x7, σ7, H7, I7, r7, q7⟩ := q7; exact ⟨x7, σ7, H7, I7.unpinned, r7, q7⟩
end

/-! ### the forms one uses -/
end L2

namespace L2
open PySem PySem.Spec PyProof.Rows

abbrev R2 := V → V → Hp → VK → Prop
/-- a two-place operation on values: f is binaryOp op, inplaceOp op or compareOp op -/
def OpR (X : Cx) (f : Value → Value → Sem Value) (r : R2) : Prop :=
  ∀ (pins : List (Addr × Obj)) (s : Shared) (σ : St) (H : Hp) (x y : V) (v u : Value) (Q : VK), Inv X pins σ H s → RelV x v → RelV y u → r x y H Q →
    wpAny (model X.prog X.w) X.A (f v u) (EP X pins σ Q) X.xe s
/-- a call of a value that is known (a builtin, a type) with values -/
def CallR (X : Cx) (f : Value) (r : List V → Hp → VK → Prop) : Prop :=
  ∀ (pins : List (Addr × Obj)) (s : Shared) (σ : St) (H : Hp) (xs : List V) (us : List Value) (Q : VK), Inv X pins σ H s → Vals xs us → r xs H Q →
    wpAny (model X.prog X.w) X.A (call f us) (EP X pins σ Q) X.xe s
/-- a value's truth -/
def TruR (X : Cx) (r : V → Hp → (Bool → Hp → Prop) → Prop) : Prop :=
  ∀ (pins : List (Addr × Obj)) (s : Shared) (σ : St) (H : Hp) (x : V) (v : Value) (Q : Bool → Hp → Prop), Inv X pins σ H s → RelV x v → r x H Q →
    wpAny (model X.prog X.w) X.A (truthy v) (TP X pins σ Q) X.xe s

def tOp (r : R2) (ta tb : TE) : TE := fun σ H Q => ta σ H fun x H1 => tb σ H1 fun y H2 => r x y H2 Q
/-- ints in, under C, and a value out -/
def rI (C : Int → Int → Prop) (g : Int → Int → V) : R2 := fun x y H Q => ∃ i j, x = .int i ∧ y = .int j ∧ C i j ∧ Q (g i j) H
def rI0 (g : Int → Int → V) : R2 := fun x y H Q => ∃ i j, x = .int i ∧ y = .int j ∧ Q (g i j) H
section
variable {X : Cx} {a b c : Expr} {ta tb tc : TE} {pos : Pos}

theorem binT (ha : PE X a ta) (hb : PE X b tb) {pins : List (Addr × Obj)} {s : Shared} {σ : St} {H : Hp} {R : V → V → Hp → Prop} (I : Inv X pins σ H s)
    (h : ta σ H fun x H1 => tb σ H1 fun y H2 => R x y H2) {Q : Value → Shared → Prop} {f : Value → Value → Sem Value}
    (hf : ∀ v u s2 x y H2, Inv X pins σ H2 s2 → RelV x v → RelV y u → R x y H2 → wpAny (model X.prog X.w) X.A (f v u) Q X.xe s2) :
    wpAny (model X.prog X.w) X.A (eval a X.env) (fun v s₁ => wpAny (model X.prog X.w) X.A (eval b X.env) (fun u s₂ => wpAny (model X.prog X.w) X.A (f v u) Q X.xe s₂) X.xe s₁) X.xe s := by
  refine thn (ha pins s σ H _ I h) fun v s1 ⟨x, H1, I1, r1, q1⟩ => ?_
  refine thn (hb pins s1 σ H1 _ I1 q1) fun u s2 ⟨y, H2, I2, r2, q2⟩ => ?_
  exact hf v u s2 x y H2 I2 r1 r2 q2

theorem pe_op {op : Operator} {r : R2} (ho : OpR X (binaryOp op) r) (ha : PE X a ta) (hb : PE X b tb) : PE X (.BinOp a op b pos) (tOp r ta tb) := by
  intro pins s σ H Q I h
  exact wpAny_BinOp (binT ha hb I h fun v u s2 x y H2 I2 rx ry q => ho pins s2 σ H2 x y v u Q I2 rx ry q)
/-! ### ints -/
theorem opI {f : Value → Value → Sem Value} {C : Int → Int → Prop} {g : Int → Int → Int}
    (rule : ∀ (i j : Int) (t u : Tok) (s : Shared) (Q : Value → Shared → Prop) (E : Value → Shared → Prop), C i j → Q (.int (g i j) s.toks) { s with toks := s.toks + 1 } → wpAny (model X.prog X.w) X.A (f (.int i t) (.int j u)) Q E s) :
    OpR X f (rI C fun i j => .int (g i j)) := by
  intro pins s σ H x y v u Q I rx ry h
  obtain ⟨i, j, rfl, rfl, hc, q⟩ := h
  obtain ⟨t, rfl⟩ := rx
  obtain ⟨t', rfl⟩ := ry
  exact rule i j t t' s _ _ hc ⟨.int (g i j), H, I.tok _, ⟨_, rfl⟩, q⟩
theorem opI0 {f : Value → Value → Sem Value} {g : Int → Int → Int}
    (rule : ∀ (i j : Int) (t u : Tok) (s : Shared) (Q : Value → Shared → Prop) (E : Value → Shared → Prop), Q (.int (g i j) s.toks) { s with toks := s.toks + 1 } → wpAny (model X.prog X.w) X.A (f (.int i t) (.int j u)) Q E s) :
    OpR X f (rI0 fun i j => .int (g i j)) := by
  intro pins s σ H x y v u Q I rx ry h
  obtain ⟨i, j, rfl, rfl, q⟩ := h
  obtain ⟨t, rfl⟩ := rx
  obtain ⟨t', rfl⟩ := ry
  exact rule i j t t' s _ _ ⟨.int (g i j), H, I.tok _, ⟨_, rfl⟩, q⟩
theorem opB0 {f : Value → Value → Sem Value} {g : Int → Int → Bool}
    (rule : ∀ (i j : Int) (t u : Tok) (s : Shared) (Q : Value → Shared → Prop) (E : Value → Shared → Prop), Q (.bool (g i j)) s → wpAny (model X.prog X.w) X.A (f (.int i t) (.int j u)) Q E s) :
    OpR X f (rI0 fun i j => .bl (g i j)) := by
  intro pins s σ H x y v u Q I rx ry h
  obtain ⟨i, j, rfl, rfl, q⟩ := h
  obtain ⟨t, rfl⟩ := rx
  obtain ⟨t', rfl⟩ := ry
  exact rule i j t t' s _ _ ⟨.bl (g i j), H, I, rfl, q⟩

def CDiv (i j : Int) : Prop := 0 < j ∧ j < 1073741824
def CMul (i j : Int) : Prop := (-(2 ^ 64) < i ∧ i < 2 ^ 64) ∨ (-(2 ^ 64) < j ∧ j < 2 ^ 64)
theorem CMul.ok {i j : Int} (h : CMul i j) : IntMulOk i j := by
  rcases h with ⟨h1, h2⟩ | ⟨h1, h2⟩
  · exact .of_left (intBits_le_64 h1 h2)
  · exact .of_right (intBits_le_64 h1 h2)
theorem op_add : OpR X (binaryOp .Add) (rI0 fun i j => .int (i + j)) := opI0 fun _ _ _ _ _ _ _ q => add_int q
theorem op_sub : OpR X (binaryOp .Sub) (rI0 fun i j => .int (i - j)) := opI0 fun _ _ _ _ _ _ _ q => sub_int q
theorem op_mul : OpR X (binaryOp .Mult) (rI CMul fun i j => .int (i * j)) := opI fun _ _ _ _ _ _ _ hc q => mul_int q hc.ok
/-- // by a positive divisor -/
theorem op_fdiv : OpR X (binaryOp .FloorDiv) (rI CDiv fun i j => .int (i / j)) := opI fun i j _ _ _ _ _ hc q => by
  have h1 : (0 : Int) < j := hc.1
  have h2 : j < 1073741824 := hc.2
  exact floordiv_int (by omega) (by rw [Int.fdiv_eq_ediv_of_nonneg i (by omega)]; exact q) (.inl (PyProof.noPylong_small (by omega)))
/-- % by a positive divisor of any size -/
theorem op_mod : OpR X (binaryOp .Mod) (rI (fun _ j => 0 < j) fun i j => .int (i % j)) := opI fun i j _ _ _ _ _ hc q => by
  have h1 : (0 : Int) < j := hc
  exact mod_int' (by omega) (by rw [Int.fmod_eq_emod_of_nonneg i (by omega)]; exact q)
/-! ### bools among ints: n += (a < b) -/
end

/-! ### comparisons -/
section
variable {X : Cx} {a b c : Expr} {ta tb tc : TE} {pos : Pos}
theorem fin_bl {pins : List (Addr × Obj)} {σ : St} {H : Hp} {s : Shared} {Q : VK} {k k' : Bool} (I : Inv X pins σ H s) (q : Q (.bl k) H) (e : k = k') : EP X pins σ Q (.bool k') s := by
  subst e
  exact ⟨.bl k, H, I, rfl, q⟩
theorem op_lt : OpR X (compareOp .Lt) (rI0 fun i j => .bl (decide (i < j))) := opB0 fun _ _ _ _ _ _ _ q => lt_int q
theorem op_le : OpR X (compareOp .LtE) (rI0 fun i j => .bl (decide (i ≤ j))) := opB0 fun _ _ _ _ _ _ _ q => le_int q
theorem op_gt : OpR X (compareOp .Gt) (rI0 fun i j => .bl (decide (j < i))) := opB0 fun _ _ _ _ _ _ _ q => gt_int q
theorem op_lt_str : OpR X (compareOp .Lt) (fun x y H Q => ∃ i j, x = .str i ∧ y = .str j ∧ Q (.bl (decide (i.cps.toList < j.cps.toList))) H) := by
  intro pins s σ H x y v u Q I rx ry h
  obtain ⟨i, j, rfl, rfl, q⟩ := h
  obtain ⟨t, rfl⟩ := rx
  obtain ⟨t', rfl⟩ := ry
  exact lt_str (fin_bl I q rfl)
/-- two rules for one operation: by cases -/
theorem OpR.or {f : Value → Value → Sem Value} {r r' : R2} (h : OpR X f r) (h' : OpR X f r') : OpR X f (fun x y H Q => r x y H Q ∨ r' x y H Q) := by
  intro pins s σ H x y v u Q I rx ry q
  rcases q with q | q
  · exact h pins s σ H x y v u Q I rx ry q
  · exact h' pins s σ H x y v u Q I rx ry q

theorem nomark (b : Expr) {op : CmpOp} (h : op ≠ .In := by decide) (h2 : op ≠ .NotIn := by decide) : behindInMarks op b = false := by
  have e1 : (op == CmpOp.In) = false := by cases op <;> first | rfl | exact absurd rfl h
  have e2 : (op == CmpOp.NotIn) = false := by cases op <;> first | rfl | exact absurd rfl h2
  cases b <;> simp [behindInMarks, e1, e2]
/-- a comparison as a value; hm: nomark b, or (for in, not in) by with_unfolding_all rfl -/
theorem pe_cmpR {op : CmpOp} {r : R2} (ho : OpR X (compareOp op) r) (ha : PE X a ta) (hb : PE X b tb) (hm : behindInMarks op b = false) : PE X (.Compare a [op] [b] pos) (tOp r ta tb) := by
  intro pins s σ H Q I h
  exact wpAny_Compare1 (binT ha hb I h fun v u s2 x y H2 I2 rx ry q => ho pins s2 σ H2 x y v u Q I2 rx ry q) hm
/-- a reading of a value as a test -/
def tTest (t : TE) : TT := fun σ H Q => t σ H fun x H' => ∃ k, x = .bl k ∧ Q k H'
theorem pt_cmpR {op : CmpOp} {r : R2} (ho : OpR X (compareOp op) r) (ha : PE X a ta) (hb : PE X b tb) (hm : behindInMarks op b = false) : PT X (.Compare a [op] [b] pos) (tTest (tOp r ta tb)) := by
  intro pins s σ H Q I h
  refine wpAny_isTrue_Compare1 (thn (ha pins s σ H _ I h) fun v s1 ⟨x, H1, I1, r1, q1⟩ => thn (hb pins s1 σ H1 _ I1 q1) fun u s2 ⟨y, H2, I2, r2, q2⟩ =>
    thn (ho pins s2 σ H2 x y v u _ I2 r1 r2 q2) fun c s3 ⟨z, H3, I3, r3, k, e, q3⟩ => ?_) hm
  subst e
  cases r3
  exact wpAny_truthy_bool ⟨H3, I3, q3⟩
/-- a op1 b op2 c -/
def tChain (r r' : R2) (ta tb tc : TE) : TE := fun σ H Q => ta σ H fun x H1 => tb σ H1 fun y H2 => r x y H2 fun z H3 => ∃ k, z = .bl k ∧
  (if k = true then tc σ H3 fun w' H4 => r' y w' H4 Q else Q (.bl false) H3)
theorem pe_chain {op op' : CmpOp} {r r' : R2} (ho : OpR X (compareOp op) r) (ho' : OpR X (compareOp op') r') (ha : PE X a ta) (hb : PE X b tb) (hc : PE X c tc)
    (hm : lastMarks [op, op'] [b, c] = false := by with_unfolding_all rfl) : PE X (.Compare a [op, op'] [b, c] pos) (tChain r r' ta tb tc) := by
  intro pins s σ H Q I h
  refine Compare_chain (thn (ha pins s σ H _ I h) fun v s1 ⟨x, H1, I1, r1, q1⟩ => chain_link (thn (hb pins s1 σ H1 _ I1 q1) fun u s2 ⟨y, H2, I2, r2, q2⟩ =>
    thn (ho pins s2 σ H2 x y v u _ I2 r1 r2 q2) fun d s3 ⟨z, H3, I3, r3, k, e, q3⟩ => ?_)) hm
  subst e
  cases r3
  refine wpAny_truthy_bool ?_
  cases k with
  | false => exact ite_ff ⟨.bl false, H3, I3, rfl, q3⟩
  | true => exact ite_tt (chain_last (thn (hc pins s3 σ H3 _ I3 q3) fun w' s4 ⟨z', H4, I4, r4, q4⟩ => ho' pins s4 σ H4 y z' u w' Q I4 r2 r4 q4))
/-! ### truth -/
/-- a value's truth by the abstract heap -/
def TruV (K : PySem.W.Frag) (x : V) (H : Hp) (k : Bool) : Prop :=
  match x with
  | .non => k = false
  | .bl b => k = b
  | .int i => k = (i != 0)
  | .str y => y.length ≤ sizeLine ∧ k = ((y.length : Int) != 0)
  | .byt y => y.size ≤ sizeLine ∧ k = ((y.size : Int) != 0)
  | .ref p => (∃ xs, SqL K H p xs ∧ k = !xs.isEmpty) ∨ (∃ xs, SqT K H p xs ∧ k = !xs.isEmpty) ∨ ∃ kvs, H p = some (.dK kvs) ∧ k = !kvs.isEmpty
  | _ => False
theorem isEmpty_kv {κ : Type} {kvs : List (κ × V)} {vs : List (κ × Value)} (r : KV kvs vs) : (!vs.isEmpty) = !kvs.isEmpty := by
  cases r <;> rfl
theorem isEmpty_of {xs : List V} {its : List Value} (r : Vals xs its) : (!its.toArray.isEmpty) = !xs.isEmpty := by
  cases r <;> simp
theorem line63 : (sizeLine : Nat) < 2 ^ 63 := by rw [sizeLine_eq]; decide
theorem tru_ok : TruR X (fun x H Q => ∃ k, TruV X.K x H k ∧ Q k H) := by
  intro pins s σ H x v Q I rx h
  obtain ⟨k, e, q⟩ := h
  have hl := line63
  have hs : sizeLine = 16777216 := sizeLine_eq
  cases x with
  | non =>
    cases rx
    have e' : k = false := e
    subst e'
    exact truthy_none ⟨H, I, q⟩
  | bl b =>
    cases rx
    have e' : k = b := e
    subst e'
    exact wpAny_truthy_bool ⟨H, I, q⟩
  | int i =>
    obtain ⟨t, rfl⟩ := rx
    have e' : k = (i != 0) := e
    subst e'
    exact PySem.P.truthy_int ⟨H, I, q⟩
  | str y =>
    obtain ⟨t, rfl⟩ := rx
    obtain ⟨hy, e'⟩ : y.length ≤ sizeLine ∧ k = ((y.length : Int) != 0) := e
    subst e'
    exact PySem.P.truthy_str (by omega) ⟨H, I.tok _, q⟩
  | byt y =>
    obtain ⟨t, rfl⟩ := rx
    obtain ⟨hy, e'⟩ : y.size ≤ sizeLine ∧ k = ((y.size : Int) != 0) := e
    subst e'
    exact PySem.W.truthy_bytes (by omega) ⟨H, I.tok _, q⟩
  | ref p =>
    cases rx
    have e' : (∃ xs, SqL X.K H p xs ∧ k = !xs.isEmpty) ∨ (∃ xs, SqT X.K H p xs ∧ k = !xs.isEmpty) ∨ ∃ kvs, H p = some (.dK kvs) ∧ k = !kvs.isEmpty := e
    rcases e' with ⟨xs, hx, e'⟩ | ⟨xs, hx, e'⟩ | ⟨kvs, hx, e'⟩
    · subst e'
      obtain ⟨its, r, pl, hz⟩ := I.list hx
      have hlen := r.length
      exact wpAny_truthy_list pl.isList (by simp only [List.size_toArray]; omega) ⟨H, I.tok _, by rw [isEmpty_of r]; exact q⟩
    · subst e'
      obtain ⟨its, r, pl, hz⟩ := I.tuple hx
      have hlen := r.length
      exact truthy_tuple pl (by simp only [List.size_toArray]; omega) ⟨H, I.tok _, by rw [isEmpty_of r]; exact q⟩
    · subst e'
      obtain ⟨hz, hS, vs, r, m⟩ : kvs.length ≤ sizeLine ∧ (p == sysModules) = false ∧ ∃ vs, KV kvs vs ∧ s.heap.DictOf (mixKind X.prog X.w) p vs := I.hok p _ hx
      have hlen : kvs.length = vs.length := Paired.length r
      exact wpAny_truthy_dict hS m (by omega) ⟨H, I.tok _, by rw [isEmpty_kv r]; exact q⟩
  | _ => exact (show False from e).elim
/-- any expression whose test is its value's truth (a name, a call, a subscript, a field ..: he by fun _ => rfl) -/
theorem pt_truth (ha : PE X a ta) (he : ∀ whole, isTrue a X.env whole = (do let v ← whole; standAt a.pos; holding [v] (truthy v))) :
    PT X a (fun σ H Q => ta σ H fun x H' => ∃ k, TruV X.K x H' k ∧ Q k H') := by
  intro pins s σ H Q I h
  exact isTrue_plain (thn (ha pins s σ H _ I h) fun v s1 ⟨x, H1, I1, r1, q1⟩ => tru_ok pins s1 σ H1 x v Q I1 r1 q1) (he _)

/-! ### strs and bytes -/
theorem op_add_str : OpR X (binaryOp .Add) (fun x y H Q => ∃ i j, x = .str i ∧ y = .str j ∧ i.length + j.length ≤ sizeLine ∧ Q (.str (i ++ j)) H) := by
  intro pins s σ H x y v u Q I rx ry h
  obtain ⟨i, j, rfl, rfl, hz, q⟩ := h
  obtain ⟨t, rfl⟩ := rx
  obtain ⟨t', rfl⟩ := ry
  exact add_str (fun t' tk => ⟨.str (i ++ j), H, I.tok _, ⟨_, rfl⟩, q⟩) hz
/-! ### scalar builtins, by CallR -/
theorem vals1 {x : V} {us : List Value} (r : Vals [x] us) : ∃ u, us = [u] ∧ RelV x u := by
  cases r with
  | cons r1 r2 => cases r2; exact ⟨_, rfl, r1⟩
theorem vals2 {x y : V} {us : List Value} (r : Vals [x, y] us) : ∃ u w', us = [u, w'] ∧ RelV x u ∧ RelV y w' := by
  cases r with
  | cons r1 r2 =>
    cases r2 with
    | cons r3 r4 => cases r4; exact ⟨_, _, rfl, r1, r3⟩
theorem call_max2 (hc : X.calm = true) : CallR X (.builtin "max") (fun xs H Q => ∃ i j, xs = [.int i, .int j] ∧ Q (.int (if j > i then j else i)) H) := by
  intro pins s σ H xs us Q I r h
  obtain ⟨i, j, rfl, q⟩ := h
  obtain ⟨u, w', rfl, ⟨t, rfl⟩, ⟨t', rfl⟩⟩ := vals2 r
  refine max_two_ints (I.ok.hd hc) fun h' tk k => ⟨_, H, I.kept k, ?_, q⟩
  by_cases hj : j > i
  · rw [if_pos hj, if_pos hj]; exact ⟨_, rfl⟩
  · rw [if_neg hj, if_neg hj]; exact ⟨_, rfl⟩
theorem call_min2 (hc : X.calm = true) : CallR X (.builtin "min") (fun xs H Q => ∃ i j, xs = [.int i, .int j] ∧ Q (.int (if j < i then j else i)) H) := by
  intro pins s σ H xs us Q I r h
  obtain ⟨i, j, rfl, q⟩ := h
  obtain ⟨u, w', rfl, ⟨t, rfl⟩, ⟨t', rfl⟩⟩ := vals2 r
  refine min_two_ints (I.ok.hd hc) fun h' tk k => ⟨_, H, I.kept k, ?_, q⟩
  by_cases hj : j < i
  · rw [if_pos hj, if_pos hj]; exact ⟨_, rfl⟩
  · rw [if_neg hj, if_neg hj]; exact ⟨_, rfl⟩
/-- len of a str, a bytes, a list, a tuple -/
def LenV (K : PySem.W.Frag) (x : V) (H : Hp) (n : Nat) : Prop :=
  match x with
  | .str y => y.length ≤ sizeLine ∧ n = y.length
  | .byt y => y.size ≤ sizeLine ∧ n = y.size
  | .ref p => (∃ xs, SqL K H p xs ∧ n = xs.length) ∨ ∃ xs, SqT K H p xs ∧ n = xs.length
  | _ => False
theorem call_len : CallR X (.builtin "len") (fun xs H Q => ∃ x n, xs = [x] ∧ LenV X.K x H n ∧ Q (.int n) H) := by
  intro pins s σ H xs us Q I r h
  obtain ⟨x, n, rfl, e, q⟩ := h
  obtain ⟨u, rfl, rx⟩ := vals1 r
  have hl := line63
  have hs : sizeLine = 16777216 := sizeLine_eq
  cases x with
  | str y =>
    obtain ⟨t, rfl⟩ := rx
    obtain ⟨hy, e'⟩ : y.length ≤ sizeLine ∧ n = y.length := e
    subst e'
    exact len_str (by omega) ⟨.int _, H, I.tok _, ⟨_, rfl⟩, q⟩
  | byt y =>
    obtain ⟨t, rfl⟩ := rx
    obtain ⟨hy, e'⟩ : y.size ≤ sizeLine ∧ n = y.size := e
    subst e'
    exact PySem.W.len_bytes (by omega) ⟨.int _, H, I.tok _, ⟨_, rfl⟩, q⟩
  | ref p =>
    cases rx
    have e' : (∃ xs, SqL X.K H p xs ∧ n = xs.length) ∨ ∃ xs, SqT X.K H p xs ∧ n = xs.length := e
    rcases e' with ⟨xs, hx, e'⟩ | ⟨xs, hx, e'⟩
    · subst e'
      obtain ⟨its, r', pl, hz⟩ := I.list hx
      have hlen := r'.length
      exact Calls.call_len_list pl.isList (by simp only [List.size_toArray]; omega) ⟨.int xs.length, H, I.tok _, ⟨_, by simp only [List.size_toArray]; rw [hlen]⟩, q⟩
    · subst e'
      obtain ⟨its, r', pl, hz⟩ := I.tuple hx
      have hlen := r'.length
      exact len_tuple pl (by simp only [List.size_toArray]; omega) ⟨.int xs.length, H, I.tok _, ⟨_, by simp only [List.size_toArray]; rw [hlen]⟩, q⟩
  | _ => exact (show False from e).elim
end
end L2

namespace L2
open PySem PySem.Spec PyProof.Rows

/-! ### an instance, its attributes a map -/
structure ObjM (h : Heap) (x dx C : Addr) (mA : Str → Option Value) : Prop where
  obj : h.get? x = some (PySem.W.instObj C dx)
  ns : h.Ns1 dx mA
  ne : dx ≠ x

theorem lookIn_ns {h : Heap} {dx : Addr} {mA : Str → Option Value} (n : h.Ns1 dx mA) : ∃ od, h.get? dx = some od ∧ ∀ name, PySem.W.lookIn name od = some (mA name) := by
  obtain ⟨o, es, ep, ho, hd, hk, _, hm⟩ := n
  refine ⟨o, ho, fun name => ?_⟩
  have e := hm name
  unfold nsFind findBy at e
  rw [← Array.find?_toList] at e
  unfold PySem.W.lookIn
  rw [hd]
  dsimp only
  split
  · rename_i y q
    rw [q] at e
    exact congrArg some e
  · rename_i q
    rw [q] at e
    have a : es.toList.any (·.refKey) = false := by
      rw [List.any_eq_false]
      intro y hy
      obtain ⟨z, t, hkey⟩ := hk y (Array.mem_toList_iff.mp hy)
      simp [DictEntry.refKey, hkey]
    have a' : ¬ es.toList.any (·.refKey) = true := by rw [a]; exact Bool.false_ne_true
    rw [if_neg a']
    exact congrArg some e

theorem ObjM.look {h : Heap} {x dx C : Addr} {mA : Str → Option Value} (I : ObjM h x dx C mA) : ∃ od, PySem.W.InstAt h x (PySem.W.instObj C dx) C (some od) ∧ ∀ name, PySem.W.lookIn name od = some (mA name) :=
  let ⟨od, ho, hl⟩ := lookIn_ns I.ns
  ⟨od, ⟨I.obj, rfl, rfl, ho⟩, hl⟩

section
variable {prog : Program} {w : World} {A : Around} {E : Value → Shared → Prop} {s : Shared} {K : PySem.W.Frag} {x dx C f : Addr} {mA : Str → Option Value} {name : Str} {v : Value}

end

/-! ### the attributes as a list of pairs -/
theorem RelO.none_of {o : Option Value} (r : RelO none o) : o = none := by
  cases o with
  | none => rfl
  | some u => exact (show False from r).elim
section
variable {P : Program} {w : World} {H H' : Hp} {h h' : Heap} {a C dx : Addr} {fs fs' : List (Str × V)}
theorem ins_get (hok : HOk P w H h) (e : H a = some (.ins C dx fs)) : ∃ mA, ObjM h a dx C mA ∧ (∀ f, RelO (fs.lookup f) (mA f)) ∧ PySem.Within mA (fs.map (·.1)) ∧ fs.length ≤ 1000 ∧ H dx = some (.own a) := by
  obtain ⟨d, z, ne, ob, mA, n, r, q⟩ := (show ObjOk P w H h a (.ins C dx fs) from hok a _ e)
  exact ⟨mA, ⟨ob, n, ne⟩, r, q, z, d⟩
end

/-! ### what of the text a class must have -/
structure Cls (K : PySem.W.Frag) (C : Addr) : Prop where
  pg : PySem.W.plainGet K C Str.empty = true
  hd : PySem.W.hasDictIn K C = true
  po : PySem.W.plainOver K C = true
  sa : PySem.W.findIn K (.ref C) "__setattr__" = some (some (.builtin "object.__setattr__"))
theorem Cls.get {K : PySem.W.Frag} {C : Addr} (c : Cls K C) (f : Str) : PySem.W.plainGet K C f = true := c.pg
section
variable {X : Cx} {pins : List (Addr × Obj)} {σ : St} {H : Hp} {s : Shared} {a C dx : Addr} {fs : List (Str × V)} {f : Str} {v : V} {A : Around} {E : Value → Shared → Prop}

end

/-! ### readings and rules -/
section
variable {X : Cx} {o e value : Expr} {f : Str} {pos pos' tpos : Pos} {ta tv : TE}
def rAdd : V → V → Hp → VK → Prop := fun x y H Q => ∃ i j, x = .int i ∧ y = .int j ∧ Q (.int (i + j)) H
end

/-! ### isinstance -/
section
variable {X : Cx} {pins : List (Addr × Obj)} {σ : St} {H : Hp} {s : Shared} {A : Around} {E : Value → Shared → Prop} {Q : Value → Shared → Prop} {c : Value} {b : Bool}
/-- the type of a value, as the fragment's deciders take it; for an instance its class -/
inductive TyOf (K : PySem.W.Frag) (H : Hp) : V → Value → Prop where
  | non : TyOf K H .non (.type "NoneType")
  | bl (x : Bool) : TyOf K H (.bl x) (.type "bool")
  | int (i : Int) : TyOf K H (.int i) (.type "int")
  | str (x : Str) : TyOf K H (.str x) (.type "str")
  | flt (x : UInt64) : TyOf K H (.flt x) (.type "float")
  | lst {a : Addr} {xs : List V} (e : H a = some (.lst xs)) : TyOf K H (.ref a) (.type "list")
  | frz {a : Addr} {o : Obj} {xs : List V} (e : H a = some (.frz o (.lst xs))) : TyOf K H (.ref a) (.type "list")
  | tup {a : Addr} {xs : List V} (e : H a = some (.tup xs)) : TyOf K H (.ref a) (.type "tuple")
  | dK {a : Addr} {kvs : List (Key × V)} (e : H a = some (.dK kvs)) : TyOf K H (.ref a) (.type "dict")
  | dT {a : Addr} {kvs : List (List Key × V)} (e : H a = some (.dT kvs)) : TyOf K H (.ref a) (.type "dict")
  | ins {a C dx : Addr} {fs : List (Str × V)} (e : H a = some (.ins C dx fs)) (cl : Cls K C) (ha : PySem.W.findIn K (.ref C) "__class__" = some (some (.builtin "object.__class__")))
      (hn : PySem.W.specialIn K (.builtin "object.__class__") "__get__" = some (some (.builtin "getset_descriptor.__get__"))) (htk : PySem.W.takesIn K (.builtin "object.__class__") = some true)
      (hm : PySem.W.mroIn K C (.type "object") = some true) : TyOf K H (.ref a) (.ref C)
/-- isinstance(x, c) for one class c, a built-in or an own one: kitOne's answer -/
theorem isinst_ok {x : V} {u t : Value} (I : Inv X pins σ H s) (rx : RelV x u) (ty : TyOf X.K H x t) (e : PySem.W.kitOne X.K t c = some b) (h : ∀ tk, Q (.bool b) { s with toks := tk }) :
    wpAny (model X.prog X.w) A (call (.builtin "isinstance") [u, c]) Q E s := by
  cases ty with
  | non => cases (show u = Value.none from rx); exact PySem.W.kia_one PySem.W.kitx_none I.kIn True.intro e (fun z => nomatch z) h
  | bl y => cases (show u = Value.bool y from rx); exact PySem.W.kia_one PySem.W.kitx_bool I.kIn True.intro e (fun z => nomatch z) h
  | int i => obtain ⟨t, q⟩ := (show ∃ t, u = Value.int i t from rx); cases q; exact PySem.W.kia_one PySem.W.kitx_int I.kIn True.intro e (fun z => nomatch z) h
  | str y => obtain ⟨t, q⟩ := (show ∃ t, u = Value.str y t from rx); cases q; exact PySem.W.kia_one PySem.W.kitx_str I.kIn True.intro e (fun z => nomatch z) h
  | flt y => obtain ⟨t, q⟩ := (show ∃ t, u = Value.float y t from rx); cases q; exact PySem.W.kia_one PySem.W.kitx_float I.kIn True.intro e (fun z => nomatch z) h
  | @lst a xs ea =>
    cases (show u = Value.ref a from rx)
    obtain ⟨_, _, n, _, h1⟩ := (show ObjOk X.prog X.w H s.heap a (.lst xs) from I.hok a _ ea)
    exact PySem.W.kia_one PySem.W.kitx_list I.kIn ⟨_, h1, rfl⟩ e (fun z => nomatch z) h
  | @frz a ob xs ea =>
    cases (show u = Value.ref a from rx)
    obtain ⟨_, _, _, n, _, h1⟩ := (show ObjOk X.prog X.w H s.heap a (.frz ob (.lst xs)) from I.hok a _ ea)
    exact PySem.W.kia_one PySem.W.kitx_list I.kIn ⟨_, h1, rfl⟩ e (fun z => nomatch z) h
  | @tup a xs ea =>
    cases (show u = Value.ref a from rx)
    obtain ⟨_, _, _, p⟩ := (show ObjOk X.prog X.w H s.heap a (.tup xs) from I.hok a _ ea)
    obtain ⟨o, h1, h2, _⟩ := p
    exact PySem.W.kia_one PySem.W.kitx_tuple I.kIn ⟨o, h1, h2⟩ e (fun z => nomatch z) h
  | @dK a kvs ea =>
    cases (show u = Value.ref a from rx)
    obtain ⟨_, _, vs, _, p⟩ := (show ObjOk X.prog X.w H s.heap a (.dK kvs) from I.hok a _ ea)
    obtain ⟨o, es, ep, h1, h2, _⟩ := p
    exact PySem.W.kia_one PySem.W.kitx_dict I.kIn ⟨o, h1, h2.1⟩ e (fun z => nomatch z) h
  | @dT a kvs ea =>
    cases (show u = Value.ref a from rx)
    obtain ⟨_, _, xs, _, o, es, ep, h1, h2, _⟩ := (show ObjOk X.prog X.w H s.heap a (.dT kvs) from I.hok a _ ea)
    exact PySem.W.kia_one PySem.W.kitx_dict I.kIn ⟨o, h1, h2.1⟩ e (fun z => nomatch z) h
  | @ins a C dx fs ea cl ha hn htk hm =>
    cases (show u = Value.ref a from rx)
    obtain ⟨mA, O, _⟩ := ins_get I.hok ea
    obtain ⟨od, J, _⟩ := O.look
    exact PySem.W.kia_one (PySem.W.kitx_own (cl.get _) cl.hd ha hn htk hm) I.kIn J e (fun z => nomatch z) h
end
end L2

namespace L2
open PySem PySem.Spec PyProof.Rows

/-! ### room -/
structure Room (k : Nat) (A : Around) : Prop where
  hd : A.handled = none
  dp : A.depth + 3 * k + 5 < recursionLimit
  un : A.units + 16 * k + 200 < cLine
theorem Room.mono {j k : Nat} {A : Around} (r : Room k A) (h : j ≤ k) : Room j A := ⟨r.hd, by have := r.dp; omega, by have := r.un; omega⟩
theorem Room.deeper {k : Nat} {A : Around} (r : Room (k + 1) A) (env : Env) : Room k (A.deeper env) :=
  ⟨r.hd, by have := r.dp; show A.depth + 1 + 3 * k + 5 < _; omega, by have := r.un; show A.units + 3 + 16 * k + 200 < _; omega⟩
theorem Room.in1 {k : Nat} {A : Around} (r : Room (k + 1) A) : Room k A.in1 :=
  ⟨r.hd, by have := r.dp; show A.depth + 3 * k + 5 < _; omega, by have := r.un; show A.units + 1 + 16 * k + 200 < _; omega⟩
theorem Room.depth {k : Nat} {A : Around} (r : Room k A) : A.depth < recursionLimit := by have := r.dp; omega
theorem Room.units {k : Nat} {A : Around} (r : Room k A) : A.units + 64 < cLine := by have := r.un; omega
/-! ### argument lists and displays -/
def tNil : TA := fun _ H Q => Q [] H
def tCons (ta : TE) (tr : TA) : TA := fun σ H Q => ta σ H fun x H1 => tr σ H1 fun xs H2 => Q (x :: xs) H2
section
variable {X : Cx} {e : Expr} {es : List Expr} {te : TE} {t : TA} {pos : Pos}
theorem pa_nil : PA X [] tNil := fun _ _ _ _ H Q I h => Calls.spliced_nil ⟨[], H, I, .nil, h⟩
theorem pa_cons (ha : PE X e te) (hr : PA X es t) (hs : starEach (e :: es) X.env = (false, eval e X.env) :: starEach es X.env := by rfl) : PA X (e :: es) (tCons te t) := by
  intro pos pins s σ H Q I h
  rw [hs]
  show wpAny _ _ (spliced ((false, eval e X.env) :: backTo pos (starEach es X.env))) _ _ s
  refine Calls.spliced_cons (thn (ha pins s σ H _ I h) fun u s1 ⟨x, H1, I1, r1, q1⟩ => ?_)
  exact thn (hr pos pins s1 σ H1 _ I1 q1) fun us s2 ⟨xs, H2, I2, r2, q2⟩ => ⟨x :: xs, H2, I2, .cons r1 r2, q2⟩

def tLst (t : TA) : TE := fun σ H Q => t σ H fun xs H1 => xs.length ≤ sizeLine ∧ ∀ p, H1 p = none → Q (.ref p) (upd H1 p (.lst xs))
theorem pe_lst (h : PA X es t) : PE X (.List es pos) (tLst t) := by
  intro pins s σ H Q I hq
  refine wpAny_List_spliced (thn (h pos pins s σ H _ I hq) fun us s1 ⟨xs, H1, I1, r, z, q⟩ => ⟨by rw [← r.length]; exact z, ?_⟩)
  have hf : H1 s1.heap.objs.size = none := I1.hok.fresh (Nat.le_refl _)
  refine ⟨.ref s1.heap.objs.size, upd H1 s1.heap.objs.size (.lst xs), I1.laid (t' := s1.toks) (fun b u e => Heap.get?_push_of_some _ e) (Nat.le_refl _) ?_, rfl, q _ hf⟩
  exact ⟨z, us, 0, r, Heap.get?_push_size _ rfl⟩
end

/-! ### what a def promises -/
/-- a def's promise: the bound arguments in the parameters' order, the heap, the wanted end, the wanted exception -/
abbrev Sp := List V → Hp → VK → XK → Prop
/-- how an exception lies behind a call (file 08 gives it): the callers' frames, abstract heap and state ahead of the call, the wish, the exception, the state -/
abbrev CXT := List Env → Hp → Shared → XK → Value → Shared → Prop

/-- the state at a call -/
structure Env0 (P : Program) (w : World) (K : PySem.W.Frag) (mg : Str → Option Value) (base : Heap) (A : Around) (outer : List Env) (s : Shared) (H : Hp) : Prop where
  frames : A.frames = some outer
  mod : Mod K mg base
  bs : ∀ b o, base.get? b = some o → s.heap.get? b = some o ∧ H b = none
  bsz : base.objs.size ≤ s.heap.objs.size
  funs : s.heap.FunFrames base outer
  frf : ∀ b ∈ frs outer, H b = none
  hok : HOk P w H s.heap
  bare : AllBare s.gens
/-- a call's end -/
def CE (outer : List Env) (P : Program) (w : World) (H : Hp) (s : Shared) (Q : VK) (u : Value) (s' : Shared) : Prop :=
  ∃ v H', s'.os = s.os ∧ AllBare s'.gens ∧ Un (frs outer) [] H H' s.heap s'.heap ∧ HOk P w H' s'.heap ∧ RelV v u ∧ Q v H'
def CR (CX : CXT) (outer : List Env) (P : Program) (w : World) (H : Hp) (s : Shared) (Q : VK) (E : XK) (r : Result) (s' : Shared) : Prop :=
  match r with
  | .ok (.ret u) => CE outer P w H s Q u s'
  | .ok _ => False
  | .error e => CX outer H s E e s'
structure FnOk (P : Program) (w : World) (K : PySem.W.Frag) (mg : Str → Option Value) (base : Heap) (CX : CXT) (k : Nat) (f : Addr) (fd : FuncData) (ps : List Str) (sp : Sp) : Prop where
  len : ∀ vs H Q E, sp vs H Q E → vs.length = ps.length
  run : ∀ (A : Around) (outer : List Env) (s : Shared) (H : Hp) (args : Args) (us : List Value) (vs : List V) (Q : VK) (E : XK), Room k A → Env0 P w K mg base A outer s H → BindsTo s fd args (ps.zip us) → Vals vs us → sp vs H Q E →
    codeAny (model P w) A (.call (.ref f) args) (CR CX outer P w H s Q E) s
theorem FnOk.mono {P : Program} {w : World} {K : PySem.W.Frag} {mg : Str → Option Value} {base : Heap} {CX : CXT} {j k : Nat} {f : Addr} {fd : FuncData} {ps : List Str} {sp : Sp} (F : FnOk P w K mg base CX j f fd ps sp) (h : j ≤ k) :
    FnOk P w K mg base CX k f fd ps sp := ⟨F.len, fun A outer s H args us vs Q E hr => F.run A outer s H args us vs Q E (hr.mono h)⟩
/-- a weaker promise -/
theorem FnOk.imp {P : Program} {w : World} {K : PySem.W.Frag} {mg : Str → Option Value} {base : Heap} {CX : CXT} {k : Nat} {f : Addr} {fd : FuncData} {ps : List Str} {sp sp' : Sp} (F : FnOk P w K mg base CX k f fd ps sp)
    (h : ∀ vs H Q E, sp' vs H Q E → sp vs H Q E) : FnOk P w K mg base CX k f fd ps sp' :=
  ⟨fun vs H Q E q => F.len vs H Q E (h _ _ _ _ q), fun A outer s H args us vs Q E hr he hb hv hs => F.run A outer s H args us vs Q E hr he hb hv (h _ _ _ _ hs)⟩

theorem Env0.in1 {P : Program} {w : World} {K : PySem.W.Frag} {mg : Str → Option Value} {base : Heap} {A : Around} {outer : List Env} {s : Shared} {H : Hp} (e : Env0 P w K mg base A outer s H) :
    Env0 P w K mg base A.in1 outer s H := ⟨e.frames, e.mod, e.bs, e.bsz, e.funs, e.frf, e.hok, e.bare⟩

section
variable {X : Cx} {pins : List (Addr × Obj)} {σ : St} {H : Hp} {s s' : Shared}
/-- from a body: what a callee wants -/
theorem Inv.env0 (I : Inv X pins σ H s) : Env0 X.prog X.w X.K X.mg X.base X.A X.stack s H :=
  ⟨I.ok.frames, I.ok.mod, I.bs, Nat.le_trans I.ok.bsz I.sz, I.stack, I.stkFree, I.hok, I.bare⟩
/-- behind a call -/
theorem Inv.after {Q : VK} {u : Value} (I : Inv X pins σ H s) (h : CE X.stack X.prog X.w H s Q u s') : EP X pins σ Q u s' := by
  obtain ⟨v, H', os, bare, un, hok, r, q⟩ := h
  obtain ⟨hh, g, d, t, os'⟩ := s'
  obtain rfl : os' = s.os := os
  exact ⟨v, H', I.call (h' := hh) (g' := g) (d' := d) (t' := t) (ch := []) un hok bare (fun b z => absurd z (by simp)), r, q⟩
end

/-! ### calls -/
/-- f(..): the written arguments, then the defaults dvs; E: what is wanted of an exception -/
def tCall (sp : Sp) (dvs : List V) (E : XK) (t : TA) : TE := fun σ H Q => t σ H fun vs H1 => sp (vs ++ dvs) H1 Q E
/-- how the parameters are bound: us the positional arguments, kw the keywords' values by name, ds the defaults that fill up -/
def Binds (K : PySem.W.Frag) (fd : FuncData) (ps : List Str) (ds : List Value) : Prop :=
  ∀ (s : Shared) (us : List Value), K.In s.heap → (us ++ ds).length = ps.length → BindsTo s fd ⟨us, []⟩ (ps.zip (us ++ ds))
/-- every parameter is given -/
theorem Binds.all {K : PySem.W.Frag} {fd : FuncData} {ps : List Str} (h : ∀ us : List Value, us.length = ps.length → bindArgs fd ⟨us, []⟩ = pure (ps.zip us)) : Binds K fd ps [] := fun s us _ hl => by
  rw [List.append_nil] at hl ⊢
  exact .of_eq (h us hl)

/-- an exception of a callee reaches what this body wants of exceptions -/
def Passes (CX : CXT) (X : Cx) (E : XK) : Prop := ∀ (pins : List (Addr × Obj)) (σ : St) (H : Hp) (s : Shared) (e : Value) (s' : Shared), Inv X pins σ H s → CX X.stack H s E e s' → X.xe e s'

section
variable {X : Cx} {CX : CXT} {k : Nat} {f C : Addr} {fd : FuncData} {ps : List Str} {sp : Sp} {dvs : List V} {ds : List Value} {E : XK} {x m : Str} {p pos apos : Pos} {e o : Expr} {es : List Expr} {ta : TE} {t : TA}

/-- the callee runs -/
theorem run_fn {pins : List (Addr × Obj)} {σ : St} {H : Hp} {s : Shared} {Q : VK} {us : List Value} {vs : List V} (F : FnOk X.prog X.w X.K X.mg X.base CX k f fd ps sp) (hr : Room k X.A) (hb : Binds X.K fd ps ds) (hd : Vals dvs ds) (hx : Passes CX X E)
    (I : Inv X pins σ H s) (r : Vals vs us) (h : sp (vs ++ dvs) H Q E) : wpAny (model X.prog X.w) X.A (call (.ref f) us) (EP X pins σ Q) X.xe s := by
  have r2 : Vals (vs ++ dvs) (us ++ ds) := r.append hd
  have hl : (us ++ ds).length = ps.length := by rw [← r2.length]; exact F.len _ _ _ _ h
  refine wpAny_call (codeAny_mono (F.run X.A X.stack s H ⟨us, []⟩ (us ++ ds) (vs ++ dvs) Q E hr I.env0 (hb s us I.kIn hl) r2 h) fun r s' hq => ?_)
  cases r with
  | error e => exact hx pins σ H s e s' I hq
  | ok fl =>
    cases fl with
    | ret u => exact I.after hq
    | next => exact False.elim hq
    | brk => exact False.elim hq
    | cont => exact False.elim hq

theorem pe_call (F : FnOk X.prog X.w X.K X.mg X.base CX k f fd ps sp) (hr : Room k X.A) (hg : Gl X x) (hm : X.mg x = some (.ref f)) (hk : PySem.W.keepIn X.K (.ref f) = true) (hb : Binds X.K fd ps ds) (hd : Vals dvs ds) (hx : Passes CX X E)
    (ha : PA X (e :: es) t) (hdb : (x == ("__debug__" : Str)) = false := by decide) (he : starEach (e :: es) X.env = (false, eval e X.env) :: starEach es X.env := by rfl) (hpl : (backTo pos (starEach es X.env)).any (·.1) = false := by rfl) :
    PE X (.Call (.Name x p) (e :: es) [] pos) (tCall sp dvs E t) := by
  intro pins s σ H Q I h
  refine wpAny_Call_Name_kw (ld_glob I hg hm ?_ hdb)
  refine PySem.W.callWith_K (h₀ := X.base) I.ok.mod.kin hk (thn (ha pos pins s σ H _ I h) fun us s1 ⟨vs, H1, I1, r, q⟩ => ⟨I1.kIn, ?_⟩) he hpl
  exact run_fn F hr hb hd hx I1 r q
end

/-! ### keywords -/
section
variable {X : Cx} {CX : CXT} {k : Nat} {f C : Addr} {fd : FuncData} {ps ks : List Str} {sp : Sp} {E : XK} {x m : Str} {p pos apos kpos : Pos} {e o : Expr} {es : List Expr} {kws : List Keyword} {te ta : TE} {t tk : TA} {nm : Option Str}
variable {g : List Value → List Value → List Value} {gV : List V → List V → List V}
end

/-! ### a def's body keeps its promise -/
/-- names: the parameters first -/
structure FnScope (N P : List Str) (sc : Scope) : Prop where
  kind : sc.kind = .function
  co : sc.isCoroutine = false
  gen : sc.isGenerator = false
  nd : N.Nodup
  pre : N.take P.length = P
  par : ∀ x ∈ P, sc.names.lookup x = some .local ∨ sc.names.lookup x = some .cell
  nofree : ∀ y ∈ sc.names, y.2 ≠ .free

theorem bindL_out {kindOf : Str → Option NameKind} {x : Str} : ∀ {binds : List (Str × Value)} {m : Str → Option Value}, (∀ v, (x, v) ∉ binds) → bindL kindOf binds m x = m x
  | [], _, _ => rfl
  | (n, v) :: r, m, h => by
    unfold bindL
    rw [bindL_out fun w hw => h w (List.mem_cons_of_mem _ hw)]
    split
    · have : x ≠ n := by rintro rfl; exact h v List.mem_cons_self
      simp [this]
    · rfl
theorem bindC_out {kindOf : Str → Option NameKind} {x : Str} : ∀ {binds : List (Str × Value)} {m : Str → Option Value}, (∀ v, (x, v) ∉ binds) → bindC kindOf binds m x = m x
  | [], _, _ => rfl
  | (n, v) :: r, m, h => by
    unfold bindC
    rw [bindC_out fun w hw => h w (List.mem_cons_of_mem _ hw)]
    split
    · rfl
    · have : x ≠ n := by rintro rfl; exact h v List.mem_cons_self
      simp [this]
theorem bindL_get {kindOf : Str → Option NameKind} {x : Str} {v : Value} : ∀ {P : List Str} {vs : List Value} {i : Nat} {m : Str → Option Value}, P.Nodup → P[i]? = some x → vs[i]? = some v → kindOf x = some .local →
    bindL kindOf (P.zip vs) m x = some v
  | [], _, _, _, _, h, _, _ => by simp at h
  | _ :: _, [], _, _, _, _, h, _ => by simp at h
  | p :: P, w :: vs, 0, m, nd, h1, h2, hk => by
    simp at h1 h2; subst h1; subst h2
    show bindL kindOf ((p, w) :: P.zip vs) m p = _
    unfold bindL
    rw [bindL_out fun v hv => (List.nodup_cons.mp nd).1 (List.of_mem_zip hv).1, if_pos hk]
    simp
  | p :: P, w :: vs, i + 1, m, nd, h1, h2, hk => by
    show bindL kindOf ((p, w) :: P.zip vs) m x = _
    unfold bindL
    exact bindL_get (i := i) (List.nodup_cons.mp nd).2 (by simpa using h1) (by simpa using h2) hk
theorem bindC_get {kindOf : Str → Option NameKind} {x : Str} {v : Value} : ∀ {P : List Str} {vs : List Value} {i : Nat} {m : Str → Option Value}, P.Nodup → P[i]? = some x → vs[i]? = some v → kindOf x ≠ some .local →
    bindC kindOf (P.zip vs) m x = some v
  | [], _, _, _, _, h, _, _ => by simp at h
  | _ :: _, [], _, _, _, _, h, _ => by simp at h
  | p :: P, w :: vs, 0, m, nd, h1, h2, hk => by
    simp at h1 h2; subst h1; subst h2
    show bindC kindOf ((p, w) :: P.zip vs) m p = _
    unfold bindC
    rw [bindC_out fun v hv => (List.nodup_cons.mp nd).1 (List.of_mem_zip hv).1, if_neg hk]
    simp
  | p :: P, w :: vs, i + 1, m, nd, h1, h2, hk => by
    show bindC kindOf ((p, w) :: P.zip vs) m x = _
    unfold bindC
    exact bindC_get (i := i) (List.nodup_cons.mp nd).2 (by simpa using h1) (by simpa using h2) hk

/-- the names' values at the entry -/
def start (N : List Str) (vs : List V) : St := vs.map some ++ List.replicate (N.length - vs.length) none

/-- the context of a def's body, at its entry; an exception leaves the frame, then lies as CX says -/
def cxOf (CX : CXT) (P : Program) (w : World) (K : PySem.W.Frag) (mg : Str → Option Value) (base : Heap) (N : List Str) (qual : Str) (scope : Scope) (f : Addr) (cd : Value) (A : Around) (outer : List Env) (s : Shared) (H : Hp) (E : XK) : Cx where
  prog := P
  w := w
  K := K
  mg := mg
  base := base
  A := A.deeper (envOfC qual scope s.heap.objs.size f cd)
  N := N
  s₀ := s
  H₀ := H
  env := envOfC qual scope s.heap.objs.size f cd
  outer := outer
  stack := envOfC qual scope s.heap.objs.size f cd :: outer
  ex := []
  calm := true
  fn := fun _ => true
  pn := []
  xe := fun e s' => wpAny (model P w) (A.deeper (envOfC qual scope s.heap.objs.size f cd)) (leaving (envOfC qual scope s.heap.objs.size f cd) e) (fun _ s'' => CX outer H s E e s'') (fun e' s'' => CX outer H s E e' s'') s'

theorem cell_has {sc : Scope} {n : Nat} {x : Str} (h : sc.names.lookup x = some .cell) : ∃ c, (cellsFrom n sc.names []).lookup x = some c := by
  have q := PySem.W.cellsFrom_some sc.names n [] (.inl h)
  exact Option.isSome_iff_exists.mp q

theorem inv_start {CX : CXT} {P : Program} {w : World} {K : PySem.W.Frag} {mg : Str → Option Value} {base : Heap} {N ps : List Str} {qual : Str} {scope : Scope} {f : Addr} {cd : Value} {A : Around} {outer : List Env} {s s1 : Shared} {H : Hp} {E : XK} {us : List Value} {vs : List V}
    (S : FnScope N ps scope) (hd : A.handled = none) (e0 : Env0 P w K mg base A outer s H) (hl : vs.length = ps.length) (r : Vals vs us)
    (x : InCallC s s.heap.objs.size (bindL (envOfC qual scope s.heap.objs.size f cd).kindOf (ps.zip us) fun _ => none) (cellsFrom (s.heap.objs.size + 1) scope.names []) (bindC (envOfC qual scope s.heap.objs.size f cd).kindOf (ps.zip us) fun _ => none) s1) :
    Inv (cxOf CX P w K mg base N qual scope f cd A outer s H E) [] (start N vs) H s1 := by
  have hpl : ps.length ≤ N.length := by have := congrArg List.length S.pre; rw [List.length_take] at this; omega
  obtain ⟨h1, tk, rfl, hk⟩ := x.done
  have noA : ∀ b : Addr, b ∉ (cxOf CX P w K mg base N qual scope f cd A outer s H E).ex := fun b z => absurd (show b ∈ ([] : List Addr) from z) (by simp)
  refine ⟨⟨e0.mod, S.kind, rfl, rfl, Nat.le_refl _, fun y z c h1 h2 => ?_, fun y hy => ?_, fun y c _ h => ?_, fun _ => hd, Around.frames_deeper e0.frames, .inr ⟨rfl, rfl⟩, fun b z => absurd z (noA b), e0.bs, e0.bsz, fun b _ _ => noA b, fun b z => absurd z (noA b), e0.funs, e0.frf⟩,
    rfl, e0.bare, Un.kept hk, ⟨_, x.toInCall.ns, fun i y v h1 h2 h3 => ?_⟩, fun y c h => ⟨_, x.cell y c h⟩, e0.hok.fresh (Nat.le_refl _), fun y c h => ?_, fun p hp => absurd (show p ∈ ([] : List (Addr × Obj)) from hp) (by simp), e0.hok.kept hk, ?_⟩
  · exact name_of_addr x.apart (PySem.mem_of_lookup h1) (PySem.mem_of_lookup h2)
  · have hy : scope.names.lookup y = some .cell ∨ scope.names.lookup y = some .free := hy
    rcases hy with hy | hy
    · exact cell_has hy
    · exact absurd rfl (S.nofree _ (PySem.mem_of_lookup hy))
  · exact Nat.le_of_lt (x.above y c (PySem.mem_of_lookup h))
  · have hi : i < vs.length := by
      unfold start at h2
      by_cases hi : i < vs.length
      · exact hi
      · rw [List.getElem?_append_right (by simpa using hi)] at h2
        rw [List.getElem?_replicate] at h2
        split at h2 <;> cases h2
    have ha : vs[i]? = some v := by
      unfold start at h2
      rw [List.getElem?_append_left (by simpa using hi), List.getElem?_map] at h2
      cases e : vs[i]? with
      | none => rw [e] at h2; cases h2
      | some a => rw [e] at h2; cases h2; rfl
    obtain ⟨u, hu, rv⟩ := r.get ha
    have hp : ps[i]? = some y := by
      rw [← S.pre, List.getElem?_take_of_lt (by omega)]; exact h1
    have ndP : ps.Nodup := by rw [← S.pre]; exact S.nd.sublist (List.take_sublist _ _)
    refine ⟨u, rv, ?_⟩
    rcases S.par y (List.mem_of_getElem? hp) with k | k
    · exact .inl ⟨k, bindL_get ndP hp hu k⟩
    · obtain ⟨c, e⟩ := cell_has (n := s.heap.objs.size + 1) k
      refine .inr ⟨.inl k, c, e, ?_⟩
      have q := x.cell y c e
      rw [bindC_get ndP hp hu (by show scope.names.lookup y ≠ _; rw [k]; decide)] at q
      exact q
  · exact e0.hok.fresh (Nat.le_of_lt (x.above y c (PySem.mem_of_lookup h)))
  · unfold start
    show _ = N.length
    rw [List.length_append, List.length_map, List.length_replicate]
    omega

/-- THE RULE: a def (or a method) of the text, by its body. The body's reading t is chosen for each entry; it is run at the parameters' values -/
theorem fn_of {CX : CXT} {P : Program} {w : World} {K : PySem.W.Frag} {mg : Str → Option Value} {base : Heap} {k : Nat} {f : Addr} {name qual : Str} {params : Arguments} {body : List Stmt} {scope : Scope} {dV kV doc pm cdv ct oc : Value} {an od : Option Addr}
    {osl : Array (Option Value)} {N ps : List Str} {sp : Sp} (lk : K.lookup f = some ⟨oc, od, .func (PySem.W.fnOf name qual params body scope dV kV doc pm an cdv ct), osl⟩) (hcd : PySem.W.codeIn K cdv qual = true) (S : FnScope N ps scope)
    (len : ∀ vs H Q E, sp vs H Q E → vs.length = ps.length)
    (hbody : ∀ (A : Around) (outer : List Env) (s : Shared) (H : Hp) (vs : List V) (Q : VK) (E : XK), Room k (A.deeper (envOfC qual scope s.heap.objs.size f cdv)) → sp vs H Q E →
      ∃ t, PSs (cxOf CX P w K mg base N qual scope f cdv A outer s H E) body t ∧ t { nx := fun _ H' => Q .non H', rt := Q } (start N vs) H) :
    FnOk P w K mg base CX (k + 1) f (PySem.W.fnOf name qual params body scope dV kV doc pm an cdv ct) ps sp := by
  refine ⟨len, fun A outer s H args us vs Q E hr e0 hb r hsp => ?_⟩
  have hl := len _ _ _ _ hsp
  have KX : K.In s.heap := e0.mod.kin.keeps fun b o e => (e0.bs b o e).1
  have lim : s.heap.NoLimit := e0.mod.nolimit.keeps fun b o e => (e0.bs b o e).1
  have hkind : ∀ y ∈ ps.zip us, scope.names.lookup y.1 = some .local ∨ (scope.names.lookup y.1 = some .cell ∧ ((cellsFrom (s.heap.objs.size + 1) scope.names []).lookup y.1).isSome = true) := fun ⟨n, v⟩ hy => by
    rcases S.par n (List.of_mem_zip hy).1 with q | q
    · exact .inl q
    · exact .inr ⟨q, PySem.W.cellsFrom_some _ _ _ (.inl q)⟩
  refine codeAny_call_function hr.depth (KX _ _ lk) rfl S.co S.gen rfl (PySem.W.codeRec_of KX hcd) (hb _ _ _ _ ?_)
  refine wpAny_newFunctionEnv_cells S.kind hkind fun env he s1 x => ?_
  subst he
  refine ⟨lim.keeps x.toInCall.keep, codeAny_func ?_⟩
  obtain ⟨t, ht, hq⟩ := hbody A outer s H vs Q E (hr.deeper _) hsp
  have I : Inv (cxOf CX P w K mg base N qual scope f cdv A outer s H E) [] (start N vs) H s1 := inv_start S hr.hd e0 hl r x
  refine wpAny_mono (ht [] s1 (start N vs) H _ I hq) (fun fl s' hs => ?_) fun e s' hs => hs
  have fin : ∀ {σ' : St} {H' : Hp} {v : V} {u : Value}, Inv (cxOf CX P w K mg base N qual scope f cdv A outer s H E) [] σ' H' s' → RelV v u → Q v H' → CE outer P w H s Q u s' :=
    fun {σ' H' v u} J rv q => ⟨v, H', J.os, J.bare, J.base, J.hok, rv, q⟩
  cases fl with
  | ret u =>
    obtain ⟨v, σ', H', J, rv, q⟩ := hs
    exact fin J rv q
  | next =>
    obtain ⟨σ', H', J, q⟩ := hs
    exact fin (v := V.non) (u := Value.none) J rfl q
  | brk =>
    obtain ⟨_, _, _, q⟩ := hs
    exact False.elim q
  | cont =>
    obtain ⟨_, _, _, q⟩ := hs
    exact False.elim q
end L2

namespace L2
open PySem PySem.Spec PyProof.Rows
section
variable {X : Cx} {x : Str} {p pos : Pos} {e : Expr} {es : List Expr} {t : TA} {id T : String} {r : List V → Hp → VK → Prop}

def tCB (r : List V → Hp → VK → Prop) (t : TA) : TE := fun σ H Q => t σ H fun vs H1 => r vs H1 Q
/-- f(e, ..), f a built-in function -/
theorem pe_callB (hc : CallR X (.builtin id) r) (hg : Gl X x) (hm : X.mg x = none) (hv : bootBuiltins x = some (.builtin id)) (ha : PA X (e :: es) t) (hn : x ≠ "__name__" := by decide) (hdb : (x == ("__debug__" : Str)) = false := by decide)
    (he : starEach (e :: es) X.env = (false, eval e X.env) :: starEach es X.env := by rfl) (hpl : (backTo pos (starEach es X.env)).any (·.1) = false := by rfl) : PE X (.Call (.Name x p) (e :: es) [] pos) (tCB r t) := by
  intro pins s σ H Q I h
  refine wpAny_Call_Name_kw (ld_blt I hg hm hv ?_ hn hdb)
  exact PyProof.Rows.callWith_builtin1 (thn (ha pos pins s σ H _ I h) fun us s1 ⟨vs, H1, I1, r1, q1⟩ => hc pins s1 σ H1 vs us Q I1 r1 q1) he hpl
/-- T(e, ..), T a built-in type -/
theorem pe_callTy (hc : CallR X (.type T) r) (hg : Gl X x) (hm : X.mg x = none) (hv : bootBuiltins x = some (.type T)) (ha : PA X (e :: es) t) (hn : x ≠ "__name__" := by decide) (hdb : (x == ("__debug__" : Str)) = false := by decide)
    (he : starEach (e :: es) X.env = (false, eval e X.env) :: starEach es X.env := by rfl) (hpl : (backTo pos (starEach es X.env)).any (·.1) = false := by rfl) : PE X (.Call (.Name x p) (e :: es) [] pos) (tCB r t) := by
  intro pins s σ H Q I h
  refine wpAny_Call_Name_kw (ld_blt I hg hm hv ?_ hn hdb)
  exact PyProof.Rows.callWith_type1 (thn (ha pos pins s σ H _ I h) fun us s1 ⟨vs, H1, I1, r1, q1⟩ => hc pins s1 σ H1 vs us Q I1 r1 q1) he hpl
end
end L2

namespace HT
open PySem PyProof.Rows

section
open PySem.SeqAt
open PySem.AutoSeq1 (wpAny_loadPart')
open PySem.MeetsSeq PySem.MeetsSeq2 PySem.MeetsSeq3

end

section
variable {prog : Program} {w : World} {A : Around} {E : Value → Shared → Prop} {s : Shared}

/-! ### t[a:b], not the whole -/
/-- a slice's bound as a place among n (d where it is left out) -/
def sIx (n d : Nat) : Option Int → Nat
  | none => d
  | some v => if v < 0 then (v + (n : Int)).toNat else min v.toNat n
end
end HT

namespace L2
open PySem PySem.Spec PyProof.Rows

/-! ### the parts of a slice -/
abbrev TO := St → Hp → (Option Int → Hp → Prop) → Prop
/-- a slice's part (left out, or an int) -/
def PO (X : Cx) (e : Option Expr) (t : TO) : Prop :=
  ∀ (pins : List (Addr × Obj)) (s : Shared) (σ : St) (H : Hp) (Q : Option Int → Hp → Prop), Inv X pins σ H s → t σ H Q →
    wpAny (model X.prog X.w) X.A (evalPart e X.env) (fun u s' => ∃ o H', Inv X pins σ H' s' ∧ IsPart u o ∧ Q o H') X.xe s
def tNoPart : TO := fun _ H Q => Q none H
def tPart (t : TE) : TO := fun σ H Q => t σ H fun x H1 => ∃ i, x = .int i ∧ Q (some i) H1

section
variable {X : Cx} {e : Expr} {te : TE} {lo hi : Option Expr} {tl th : TO} {pos p2 : Pos}

theorem po_none : PO X none tNoPart := by
  intro pins s σ H Q I h
  rw [evalPart_none]
  exact wpAny_pure ⟨none, H, I, .none, h⟩
theorem po_some (h : PE X e te) : PO X (some e) (tPart te) := by
  intro pins s σ H Q I hw
  rw [evalPart_some]
  refine thn (h pins s σ H _ I hw) fun u s1 ⟨x, H1, I1, r1, q1⟩ => ?_
  obtain ⟨i, rfl, q⟩ := q1
  obtain ⟨t, rfl⟩ := r1
  exact ⟨some i, H1, I1, .int i t, q⟩

/-- what a slice of a value is, by values: the slice object stands at sl -/
def SlR (X : Cx) (r : V → Option Int → Option Int → Hp → VK → Prop) : Prop :=
  ∀ (pins : List (Addr × Obj)) (s : Shared) (σ : St) (H : Hp) (x : V) (v vl vu : Value) (lo hi : Option Int) (sl : Addr) (Q : VK), Inv X pins σ H s → RelV x v → s.heap.IsSliceOf sl vl vu .none → IsPart vl lo → IsPart vu hi → r x lo hi H Q →
    ∃ T id, typeLookup (.type T) "__getitem__" = pure (some (.builtin id)) ∧ s.TypeIs v T ∧ wpAny (model X.prog X.w) X.A (getItem v (.ref sl)) (EP X pins σ Q) X.xe s
theorem SlR.or {r r' : V → Option Int → Option Int → Hp → VK → Prop} (h : SlR X r) (h' : SlR X r') : SlR X (fun x lo hi H Q => r x lo hi H Q ∨ r' x lo hi H Q) := by
  intro pins s σ H x v vl vu lo hi sl Q I rx hs pl pu q
  rcases q with q | q
  · exact h pins s σ H x v vl vu lo hi sl Q I rx hs pl pu q
  · exact h' pins s σ H x v vl vu lo hi sl Q I rx hs pl pu q
def tSl (r : V → Option Int → Option Int → Hp → VK → Prop) (te : TE) (tl th : TO) : TE := fun σ H Q => te σ H fun x H1 => tl σ H1 fun l H2 => th σ H2 fun u H3 => r x l u H3 Q
/-- a[lo:hi], any a -/
theorem pe_slice {r : V → Option Int → Option Int → Hp → VK → Prop} (hr : SlR X r) (he : PE X e te) (hl : PO X lo tl) (hu : PO X hi th) : PE X (.Subscript e (.Slice lo hi none p2) pos) (tSl r te tl th) := by
  intro pins s σ H Q I h
  refine Subscript_ (thn (he pins s σ H _ I h) fun v s1 ⟨x, H1, I1, r1, q1⟩ => ?_)
  refine wpAny_Slice (thn (hl pins s1 σ H1 _ I1 q1) fun vl s2 ⟨l, H2, I2, pl, q2⟩ => thn (hu pins s2 σ H2 _ I2 q2) fun vu s3 ⟨u, H3, I3, pu, q3⟩ => ?_)
  rw [evalPart_none]
  refine wpAny_pure ?_
  have I4 : Inv X pins σ H3 { s3 with heap := s3.heap.push { cls := .type "slice", data := .fields #[vl, vu, .none] } } := I3.kept (t' := s3.toks) fun b ob q => Heap.get?_push_of_some _ q
  obtain ⟨T, id, hT, ht, hg⟩ := hr pins { s3 with heap := s3.heap.push { cls := .type "slice", data := .fields #[vl, vu, .none] } } σ H3 x v vl vu l u s3.heap.objs.size Q I4 r1 (Heap.IsSliceOf.new ..) pl pu q3
  show wpAny (model X.prog X.w) X.A (subscriptTail e (.Slice lo hi none p2) v (.ref s3.heap.objs.size)) (EP X pins σ Q) X.xe { s3 with heap := s3.heap.push { cls := .type "slice", data := .fields #[vl, vu, .none] } }
  exact tail_any (ops := [.ref s3.heap.objs.size, v]) ht hT hg (by with_unfolding_all rfl)

/-- the items of xs[lo:hi] -/
def cutV (xs : List V) (lo hi : Option Int) : List V := (xs.drop (HT.sIx xs.length 0 lo)).take (HT.sIx xs.length xs.length hi - HT.sIx xs.length 0 lo)
theorem cutV_length (xs : List V) (lo hi : Option Int) : (cutV xs lo hi).length ≤ xs.length := by
  unfold cutV
  rw [List.length_take, List.length_drop]
  omega
/-! ### t < u, t + u -/
end
end L2

namespace L2
open PySem PySem.Spec PyProof.Rows

/-! ### places -/
/-- the place that an index of any sign means -/
def ixN (n : Nat) (i : Int) : Option Nat := if 0 ≤ i then (if i < n then some i.toNat else none) else if -(n : Int) ≤ i then some (i + n).toNat else none
def atI {α : Type} (xs : List α) (i : Int) : Option α := (ixN xs.length i).bind fun j => xs[j]?
theorem ixN_seq {n : Nat} {i : Int} {j : Nat} (h : ixN n i = some j) : seqIndex? i n = some j ∧ j < n ∧ -(n : Int) ≤ i ∧ i < n := by
  unfold ixN at h
  by_cases h0 : 0 ≤ i
  · rw [if_pos h0] at h
    by_cases h1 : i < n
    · rw [if_pos h1] at h
      have e : i.toNat = j := Option.some.inj h
      exact ⟨by rw [seqIndex_of h0 h1, e], by omega, by omega, h1⟩
    · rw [if_neg h1] at h; cases h
  · rw [if_neg h0] at h
    by_cases h1 : -(n : Int) ≤ i
    · rw [if_pos h1] at h
      have e : (i + n).toNat = j := Option.some.inj h
      exact ⟨by rw [seqIndex_neg (by omega) h1, e], by omega, h1, by omega⟩
    · rw [if_neg h1] at h; cases h
theorem atI_get {α : Type} {xs : List α} {i : Int} {v : α} (h : atI xs i = some v) : ∃ j, seqIndex? i xs.length = some j ∧ xs[j]? = some v ∧ j < xs.length ∧ -(xs.length : Int) ≤ i ∧ i < xs.length := by
  unfold atI at h
  cases e : ixN xs.length i with
  | none => rw [e] at h; cases h
  | some j =>
    rw [e] at h
    obtain ⟨h1, h2, h3, h4⟩ := ixN_seq e
    exact ⟨j, h1, h, h2, h3, h4⟩
/-! ### what may be subscripted -/
/-- what stands as an index of a plain subscript -/
def PlainIx (b : Expr) : Prop := ∀ o i, subscripted b false o i = operate [o, i] (getItem o i)
/-- a subscript by values -/
def IxR (X : Cx) (r : R2) : Prop :=
  ∀ (value slice : Expr) (pins : List (Addr × Obj)) (s : Shared) (σ : St) (H : Hp) (x y : V) (v u : Value) (Q : VK), Inv X pins σ H s → RelV x v → RelV y u → r x y H Q →
    subscripted slice false v u = operate [v, u] (getItem v u) → wpAny (model X.prog X.w) X.A (subscriptTail value slice v u) (EP X pins σ Q) X.xe s
/-- a call of a builtin's method by values: the receiver, the arguments -/
def MtR (X : Cx) (id : String) (r : V → List V → Hp → VK → Prop) : Prop :=
  ∀ (pins : List (Addr × Obj)) (s : Shared) (σ : St) (H : Hp) (x : V) (xs : List V) (v : Value) (us : List Value) (Q : VK), Inv X pins σ H s → RelV x v → Vals xs us → r x xs H Q →
    wpAny (model X.prog X.w) X.A (call (.builtin id) (v :: us)) (EP X pins σ Q) X.xe s
section
variable {X : Cx} {a b : Expr} {ta tb : TE} {pos : Pos}
theorem IxR.or {r r' : R2} (h : IxR X r) (h' : IxR X r') : IxR X (fun x y H Q => r x y H Q ∨ r' x y H Q) := by
  intro value slice pins s σ H x y v u Q I rx ry q hs
  rcases q with q | q
  · exact h value slice pins s σ H x y v u Q I rx ry q hs
  · exact h' value slice pins s σ H x y v u Q I rx ry q hs
theorem MtR.or {id : String} {r r' : V → List V → Hp → VK → Prop} (h : MtR X id r) (h' : MtR X id r') : MtR X id (fun x xs H Q => r x xs H Q ∨ r' x xs H Q) := by
  intro pins s σ H x xs v us Q I rx rs q
  rcases q with q | q
  · exact h pins s σ H x xs v us Q I rx rs q
  · exact h' pins s σ H x xs v us Q I rx rs q
/-- a[b] -/
theorem pe_ix {r : R2} (hr : IxR X r) (ha : PE X a ta) (hb : PE X b tb) (hs : PlainIx b) : PE X (.Subscript a b pos) (tOp r ta tb) := by
  intro pins s σ H Q I h
  exact Subscript_ (binT ha hb I h fun v u s2 x y H2 I2 rx ry q => hr a b pins s2 σ H2 x y v u Q I2 rx ry q (hs _ _))

def rIxL (K : PySem.W.Frag) : R2 := fun x y H Q => ∃ p xs i v, x = .ref p ∧ y = .int i ∧ SqL K H p xs ∧ atI xs i = some v ∧ Q v H
def rIxT (K : PySem.W.Frag) : R2 := fun x y H Q => ∃ p xs i v, x = .ref p ∧ y = .int i ∧ SqT K H p xs ∧ atI xs i = some v ∧ Q v H
def rIxS : R2 := fun x y H Q => ∃ z i c, x = .str z ∧ y = .int i ∧ z.length ≤ sizeLine ∧ atI z.cps.toList i = some c ∧ Q (.str ⟨#[c]⟩) H
theorem ix_list : IxR X (rIxL X.K) := by
  intro value slice pins s σ H x y v u Q I rx ry h hs
  obtain ⟨p, xs, i, z, rfl, rfl, hq, he, q⟩ := h
  cases rx
  obtain ⟨t, rfl⟩ := ry
  obtain ⟨its, r, pl, hz⟩ := I.list hq
  obtain ⟨j, h1, h2, h3, h4, h5⟩ := atI_get he
  obtain ⟨w, ew, rw'⟩ := r.get h2
  have hl := r.length
  have hn := line63
  have fin : EP X pins σ Q w s := ⟨z, H, I, rw', q⟩
  by_cases h0 : 0 ≤ i
  · have hj : i.toNat = j := by
      rw [seqIndex_of h0 h5] at h1
      exact Option.some.inj h1
    exact item_listR pl.isList h0 (by omega) (by rw [hj]; simpa using ew) fin hs
  · have hj : (i + (its.toArray.size : Int)).toNat = j := by
      rw [seqIndex_neg (by omega) h4] at h1
      rw [List.size_toArray, ← hl]
      exact Option.some.inj h1
    exact subscriptTail_builtinR (x := w) pl.isList.typeIs slot_list_getitem.lookup
      (wpAny_getItem_list_neg (Q := fun r s' => r = w ∧ EP X pins σ Q r s') pl.isList (by omega) (by rw [List.size_toArray] <;> omega) (by omega) (by rw [hj]; simpa using ew) ⟨rfl, fin⟩) hs
theorem ix_tup : IxR X (rIxT X.K) := by
  intro value slice pins s σ H x y v u Q I rx ry h hs
  obtain ⟨p, xs, i, z, rfl, rfl, hq, he, q⟩ := h
  cases rx
  obtain ⟨t, rfl⟩ := ry
  obtain ⟨its, r, pl, hz⟩ := I.tuple hq
  obtain ⟨j, h1, h2, h3, h4, h5⟩ := atI_get he
  obtain ⟨w, ew, rw'⟩ := r.get h2
  have hl := r.length
  have hn := line63
  have fin : EP X pins σ Q w s := ⟨z, H, I, rw', q⟩
  exact subscriptTail_builtinR (x := w) pl.typeIs slot_tuple_getitem.lookup
    (getItem_tuple (j := j) (Q := fun r s' => r = w ∧ EP X pins σ Q r s') pl (by omega) (by omega) (by rw [List.size_toArray, ← hl]; exact h1) (by simpa using ew) ⟨rfl, fin⟩) hs
theorem ix_str : IxR X rIxS := by
  intro value slice pins s σ H x y v u Q I rx ry h hs
  obtain ⟨z, i, c, rfl, rfl, hz, he, q⟩ := h
  obtain ⟨t, rfl⟩ := rx
  obtain ⟨t', rfl⟩ := ry
  obtain ⟨j, h1, h2, h3, h4, h5⟩ := atI_get he
  have hl : z.cps.toList.length = z.length := by simp [Str.length]
  rw [hl] at h1 h4 h5
  have hn := line63
  exact tail_any (typeIs_str s z t) slot_str_getitem.lookup (getItem_str (c := c) (by
    have e1 : decide (i < -(2 ^ 63 : Int)) = false := decide_eq_false (by omega)
    have e2 : decide (i ≥ 2 ^ 63) = false := decide_eq_false (by omega)
    rw [e1, e2, Bool.or_false]) (by rw [h1]; simpa using h2) ⟨.str ⟨#[c]⟩, H, I.tok _, ⟨_, rfl⟩, q⟩) hs
/-- list, tuple or str -/
def rIx (K : PySem.W.Frag) : R2 := fun x y H Q => rIxL K x y H Q ∨ rIxT K x y H Q ∨ rIxS x y H Q
theorem ix_seq : IxR X (rIx X.K) := ix_list.or (ix_tup.or ix_str)

/-! ### xs[i] = v, any sign -/
theorem Inv.lst {pins : List (Addr × Obj)} {σ : St} {H : Hp} {s : Shared} {p : Addr} {xs : List V} (I : Inv X pins σ H s) (h : H p = some (.lst xs)) :
    ∃ (its : List Value) (n : Nat), Vals xs its ∧ s.heap.get? p = some { cls := .type "list", data := .seq its.toArray n } ∧ xs.length ≤ sizeLine := by
  obtain ⟨z, its, n, r, e⟩ := I.hok p _ h
  exact ⟨its, n, r, e, z⟩
/-! ### slices -/
theorem slice_bounds (lo hi : Option Int) (n : Nat) : (sliceBounds lo hi none n).1 = ((HT.sIx n 0 lo : Nat) : Int) ∧ (sliceBounds lo hi none n).2.1 = ((HT.sIx n n hi : Nat) : Int) ∧ (sliceBounds lo hi none n).2.2 = 1 := by
  refine ⟨?_, ?_, rfl⟩
  · cases lo with
    | none => simp [sliceBounds, HT.sIx]
    | some i =>
      simp only [sliceBounds, HT.sIx, Option.getD_none, show (1 : Int) > 0 by decide, if_true]
      by_cases h : i < 0
      · simp only [h, if_true] <;> omega
      · simp only [h, if_false] <;> omega
  · cases hi with
    | none => simp [sliceBounds, HT.sIx]
    | some i =>
      simp only [sliceBounds, HT.sIx, Option.getD_none, show (1 : Int) > 0 by decide, if_true]
      by_cases h : i < 0
      · simp only [h, if_true] <;> omega
      · simp only [h, if_false] <;> omega
theorem slicePick_cut (its : List Value) (lo hi : Option Int) : slicePick its.toArray lo hi none = ((its.drop (HT.sIx its.length 0 lo)).take (HT.sIx its.length its.length hi - HT.sIx its.length 0 lo)).toArray := by
  obtain ⟨h1, h2, h3⟩ := slice_bounds lo hi its.toArray.size
  unfold slicePick
  rw [h1, h2, h3]
  simp only [sliceRange_one, pick_run, List.size_toArray] <;> rfl
/-- xs[lo:hi] of a list: a new list -/
def rSlL (K : PySem.W.Frag) : V → Option Int → Option Int → Hp → VK → Prop := fun x lo hi H Q => ∃ a xs, x = .ref a ∧ SqL K H a xs ∧ ∀ p, H p = none → Q (.ref p) (upd H p (.lst (cutV xs lo hi)))
theorem sl_list : SlR X (rSlL X.K) := by
  intro pins s σ H x v vl vu lo hi sl Q I rx hs pl pu h
  obtain ⟨a, xs, rfl, hx, q⟩ := h
  cases rx
  obtain ⟨its, r, ht, hz⟩ := I.list hx
  have hlen := r.length
  refine ⟨"list", _, slot_list_getitem.lookup, ht.isList.typeIs, ?_⟩
  refine wpAny_getItem_list_slice ht.isList hs pl pu .none (by simp) ?_ (by rw [List.size_toArray] <;> omega)
  rw [slicePick_cut, ← hlen]
  refine ⟨.ref s.heap.objs.size, _, I.laid (t' := s.toks) (o := .lst (cutV xs lo hi)) (fun b ob q => Heap.get?_push_of_some _ q) (Nat.le_refl _) ?_, rfl, q _ (I.hok.fresh (Nat.le_refl _))⟩
  exact ⟨Nat.le_trans (cutV_length xs lo hi) hz, _, 0, (r.drop (HT.sIx xs.length 0 lo)).take (HT.sIx xs.length xs.length hi - HT.sIx xs.length 0 lo), Heap.get?_push_size _ rfl⟩

/-! ### in, not in: flat items -/
/-! ### len, list(x), tuple(x) of any list or tuple that is read -/
theorem CallR.or {f : Value} {r r' : List V → Hp → VK → Prop} (h : CallR X f r) (h' : CallR X f r') : CallR X f (fun xs H Q => r xs H Q ∨ r' xs H Q) := by
  intro pins s σ H xs us Q I rs q
  rcases q with q | q
  · exact h pins s σ H xs us Q I rs q
  · exact h' pins s σ H xs us Q I rs q
theorem call_list_of : CallR X (.type "list") (fun xs H Q => ∃ p ys, xs = [.ref p] ∧ (SqL X.K H p ys ∨ SqT X.K H p ys) ∧ ∀ l, H l = none → Q (.ref l) (upd H l (.lst ys))) := by
  intro pins s σ H xs us Q I r h
  obtain ⟨p, ys, rfl, hq, q⟩ := h
  obtain ⟨u, rfl, rx⟩ := vals1 r
  cases rx
  have fin : ∀ (its : List Value), Vals ys its → ys.length ≤ sizeLine → ∀ (h' : Heap) (c' : Nat), (∀ b o', s.heap.get? b = some o' → h'.get? b = some o') →
      h'.get? s.heap.objs.size = some { cls := .type "list", dict := none, data := .seq its.toArray c', slots := #[] } → EP X pins σ Q (.ref s.heap.objs.size) { s with heap := h' } := fun its r' hz h' c' kp e =>
    ⟨.ref s.heap.objs.size, _, I.laid (t' := s.toks) kp (Nat.le_refl _) (show ObjOk X.prog X.w _ h' _ (.lst ys) from ⟨hz, its, c', r', e⟩), rfl, q _ (I.hok.fresh (Nat.le_refl _))⟩
  rcases hq with hq | hq
  · obtain ⟨its, r', pl, hz⟩ := I.list hq
    have hlen := r'.length
    obtain ⟨o, ho, hc, n, hd⟩ := pl.isList
    exact call_list_seq p (.inl rfl) ho hc hd (fun h' c' kp e => fin its r' hz h' c' kp e) (by simp only [List.size_toArray] <;> omega)
  · obtain ⟨its, r', pl, hz⟩ := I.tuple hq
    have hlen := r'.length
    obtain ⟨o, ho, hc, n, hd⟩ := pl
    exact call_list_seq p (.inr rfl) ho hc hd (fun h' c' kp e => fin its r' hz h' c' kp e) (by simp only [List.size_toArray] <;> omega)
/-! ### the call of a builtin's method: o.m(..) -/
/-- the value is of that builtin type -/
def tyV (K : PySem.W.Frag) (T : String) (x : V) (H : Hp) : Prop := match x with
  | .str _ => T = "str"
  | .int _ => T = "int"
  | .ref p => (T = "list" ∧ ∃ xs, SqL K H p xs) ∨ (T = "tuple" ∧ ∃ o, K.lookup p = some o ∧ o.cls = .type "tuple" ∧ o.dict = none) ∨
      (T = "dict" ∧ ((∃ kvs, H p = some (.dK kvs)) ∨ ∃ kvs, H p = some (.dT kvs))) ∨ (T = "set" ∧ ∃ S n, H p = some (.set S n))
  | _ => False
theorem tyV_is {pins : List (Addr × Obj)} {σ : St} {H : Hp} {s : Shared} {T : String} {x : V} {v : Value} (I : Inv X pins σ H s) (r : RelV x v) (ty : tyV X.K T x H) :
    s.TypeIs v T ∧ ∀ a, v = .ref a → ∃ ob, s.heap.get? a = some ob ∧ ob.dict = none := by
  cases x with
  | str z =>
    obtain ⟨t, rfl⟩ := r
    cases (show T = "str" from ty)
    exact ⟨typeIs_str s z t, fun _ e => nomatch e⟩
  | int i =>
    obtain ⟨t, rfl⟩ := r
    cases (show T = "int" from ty)
    exact ⟨typeIs_int s i t, fun _ e => nomatch e⟩
  | ref p =>
    cases r
    rcases ty with ⟨rfl, xs, hq⟩ | ⟨rfl, o, hk, hc, hd⟩ | ⟨rfl, hk⟩ | ⟨rfl, S, n, hk⟩
    · obtain ⟨its, _, pl, _⟩ := I.list hq
      refine ⟨pl.isList.typeIs, fun a e => ?_⟩
      cases e
      obtain ⟨o, n, e, c, hd, _⟩ := pl
      exact ⟨o, e, hd⟩
    · refine ⟨⟨o, I.kIn p o hk, hc⟩, fun a e => ?_⟩
      cases e
      exact ⟨o, I.kIn _ o hk, hd⟩
    · have z : ∃ o, s.heap.get? p = some o ∧ o.ExactDict := by
        rcases hk with ⟨kvs, hk⟩ | ⟨kvs, hk⟩
        · obtain ⟨_, _, _, _, o, _, _, e, ex, _⟩ := I.hok p _ hk
          exact ⟨o, e, ex⟩
        · obtain ⟨_, _, _, _, o, _, _, e, ex, _⟩ := I.hok p _ hk
          exact ⟨o, e, ex⟩
      obtain ⟨o, e, ex⟩ := z
      refine ⟨⟨o, e, ex.1⟩, fun a e2 => ?_⟩
      cases e2
      exact ⟨o, e, ex.2.1⟩
    · obtain ⟨o, _, _, _, e, ex, _⟩ := I.hok p _ hk
      refine ⟨⟨o, e, ex.1⟩, fun a e2 => ?_⟩
      cases e2
      exact ⟨o, e, ex.2.1⟩
  | _ => exact False.elim ty
def tBM (K : PySem.W.Frag) (T : String) (r : V → List V → Hp → VK → Prop) (to : TE) (t : TA) : TE := fun σ H Q => to σ H fun x H1 => tyV K T x H1 ∧ t σ H1 fun xs H2 => r x xs H2 Q
variable {o e : Expr} {es : List Expr} {to : TE} {t : TA} {name : Str} {apos cpos : Pos} {T id : String} {r : V → List V → Hp → VK → Prop}
theorem pe_bm (pa : PlainAttrs T) (slot : Slot T name id) (hty : typeOf (.builtin id) = pure (.type "method_descriptor")) (hm : MtR X id r) (ho : PE X o to) (ha : PA X (e :: es) t)
    (hbase : attributeBase o name X.env (eval o X.env) = eval o X.env := by rfl)
    (hfew : ((backTo cpos (starEach (e :: es) X.env)).all (fun x => !x.1) && (backToKw cpos (keywordEach [] X.env)).all (fun x => x.1.isSome)
      && decide ((e :: es).length + ([] : List Keyword).length + (if ([] : List Keyword).isEmpty then 0 else 1) < 30)) = true := by rfl)
    (hline : (apos.endLine == cpos.line) = true := by rfl) (hs : starEach (e :: es) X.env = (false, eval e X.env) :: starEach es X.env := by rfl) (hplain : (backTo cpos (starEach es X.env)).any (·.1) = false := by rfl) :
    PE X (.Call (.Attribute o name apos) (e :: es) [] cpos) (tBM X.K T r to t) := by
  intro pins s σ H Q I h
  refine wpAny_Call_method_late hbase hfew hline rfl (thn (ho pins s σ H _ I h) fun v s1 ⟨x, H1, I1, r1, ty, q1⟩ => ?_)
  obtain ⟨h1, h2⟩ := tyV_is I1 r1 ty
  refine ⟨T, id, pa, slot, hty, h1, h2, ?_⟩
  have hA := ha cpos pins s1 σ H1 _ I1 q1
  rw [hs] at hA ⊢
  refine Calls.callWith_builtin (by show (false || (backTo cpos (starEach es X.env)).any (·.1)) = false; rw [hplain] <;> rfl) (Calls.evalArgs_plain ?_)
  exact thn hA fun us s2 ⟨vs, H2, I2, r2, q2⟩ => hm pins s2 σ H2 x vs v us Q I2 r1 r2 q2
/- xs.append(e), list.index on a module's tuple .. are MtR facts of 06m -/
end
end L2

namespace L2
open PySem PySem.Spec PyProof.Rows

def MtM (X : Cx) (id : String) (r : V → List V → Hp → VK → Prop) : Prop :=
  ∀ (pins : List (Addr × Obj)) (s : Shared) (σ : St) (H : Hp) (x : V) (xs : List V) (v : Value) (us : List Value) (Q : VK), Inv X pins σ H s → RelV x v → Vals xs us → r x xs H Q →
    wpAny (model X.prog X.w) X.A (call (.builtin id) (v :: us)) (EP X pins σ Q) X.xe s

/-! ### lists of values -/
theorem Vals.one : ∀ {x : V} {us : List Value}, Vals [x] us → ∃ u, us = [u] ∧ RelV x u
  | _, _, .cons r .nil => ⟨_, rfl, r⟩
theorem Vals.two : ∀ {x y : V} {us : List Value}, Vals [x, y] us → ∃ u v, us = [u, v] ∧ RelV x u ∧ RelV y v
  | _, _, _, .cons r (.cons q .nil) => ⟨_, _, rfl, r, q⟩
section
variable {X : Cx} {pins : List (Addr × Obj)} {σ : St} {H : Hp} {s : Shared} {l b : Addr} {xs ys zs : List V}

/-! ### the two steps: a tracked list is rewritten, a new list is laid -/
theorem Inv.lset {its its' : List Value} {n : Nat} {f : Array Value → Array Value} {t' : Nat} (I : Inv X pins σ H s) (hH : H l = some (.lst xs))
    (e : s.heap.get? l = some { cls := .type "list", data := .seq its.toArray n }) (hf : f its.toArray = its'.toArray) (hv : Vals ys its') (hz : ys.length ≤ sizeLine) :
    Inv X pins σ (upd H l (.lst ys)) { s with heap := s.heap.update l (Obj.mapSeq f), toks := t' } := by
  have q := PySem.IsL.update e f
  rw [hf] at q
  refine I.write (x := l) (e := l) (by rw [hH]; exact trivial) (.inl rfl) (fun b' u hb hu => (Heap.get?_update_other s.heap (Obj.mapSeq f) (Ne.symm hb)).trans hu) ⟨_, q⟩ ?_
  exact ⟨hz, its', _, hv, q⟩
theorem Inv.lnew {its : List Value} {t' : Nat} (I : Inv X pins σ H s) (hv : Vals ys its) (hz : ys.length ≤ sizeLine) :
    Inv X pins σ (upd H s.heap.objs.size (.lst ys)) { s with heap := s.heap.push { cls := .type "list", data := .seq its.toArray }, toks := t' } :=
  I.laid (fun _ _ q => Heap.get?_push_of_some _ q) (Nat.le_refl _) ⟨hz, its, 0, hv, Heap.get?_push_size _ rfl⟩
theorem Inv.fresh (I : Inv X pins σ H s) : H s.heap.objs.size = none := I.hok.fresh (Nat.le_refl _)
theorem Inv.lstM (I : Inv X pins σ H s) (hH : H l = some (.lst xs)) : xs.length ≤ sizeLine ∧ ∃ (its : List Value) (n : Nat), Vals xs its ∧ xs.length = its.length ∧ s.heap.get? l = some { cls := .type "list", data := .seq its.toArray n } := by
  obtain ⟨z, its, n, r, e⟩ := I.hok l _ hH
  exact ⟨z, its, n, r, r.length, e⟩

theorem notLongL {n : Nat} (h : n ≤ sizeLine) : Builtin.List.listTooLong n = false := by
  unfold Builtin.List.listTooLong
  exact decide_eq_false (by omega)
end

section
variable {X : Cx}

/-! ### methods -/
def rAppend : V → List V → Hp → VK → Prop := fun x vs H Q => ∃ l xs y, x = .ref l ∧ vs = [y] ∧ H l = some (.lst xs) ∧ xs.length < sizeLine ∧ Q .non (upd H l (.lst (xs ++ [y])))
theorem mt_append : MtM X "list.append" rAppend := by
  intro pins s σ H x vs v us Q I rx rv h
  obtain ⟨l, xs, y, rfl, rfl, hH, hz, q⟩ := h
  cases rx
  obtain ⟨u, rfl, ru⟩ := rv.one
  obtain ⟨z, its, n, r, hl, e⟩ := I.lstM hH
  refine call_meets F.slot_list_append ⟨_, e, rfl⟩ F.entry_list_append (F.args_list_append_2 _ _) (PySem.list_append l its.toArray n u (by rw [List.size_toArray]; omega)) ⟨e, ?_⟩
  refine ⟨.non, _, I.lset (its' := its ++ [u]) hH e (by simp) (r.append (.cons ru .nil)) ?_, rfl, q⟩
  rw [List.length_append, List.length_singleton]
  omega

/-! ### list + list, list += list, list * int -/
def rCat : R2 := fun x y H Q => ∃ l b xs zs, x = .ref l ∧ y = .ref b ∧ H l = some (.lst xs) ∧ H b = some (.lst zs) ∧ xs.length + zs.length ≤ sizeLine ∧ ∀ p, H p = none → Q (.ref p) (upd H p (.lst (xs ++ zs)))
theorem op_cat : OpR X (binaryOp .Add) rCat := by
  intro pins s σ H x y v u Q I rx ry h
  obtain ⟨l, b, xs, zs, rfl, rfl, hH, hB, hz, q⟩ := h
  cases rx
  cases ry
  obtain ⟨z, its, n, r, hl, e⟩ := I.lstM hH
  obtain ⟨z2, its2, n2, r2, hl2, e2⟩ := I.lstM hB
  refine PySem.P.add_list e e2 ?_ (by rw [List.size_toArray, List.size_toArray]; omega)
  have ea : its.toArray ++ its2.toArray = (its ++ its2).toArray := by simp
  rw [ea]
  exact ⟨.ref _, _, I.lnew (t' := s.toks) (r.append r2) (by rw [List.length_append]; omega), rfl, q _ I.fresh⟩
/-! ### del xs[i] -/
end

/-! ### xs[a:b] = ys -/
section
variable {prog : Program} {w : World} {A : Around} {E : Value → Shared → Prop} {s : Shared}
theorem bounds_run {a c n : Nat} (hac : a ≤ c) (hc : c ≤ n) : sliceBounds (some (a : Int)) (some (c : Int)) none n = ((a : Int), (c : Int), 1) := by
  simp only [sliceBounds, Option.getD_none]
  have h1 : ¬ ((a : Int) < 0) := by omega
  have h2 : ¬ ((c : Int) < 0) := by omega
  simp only [h1, h2, if_false, show (1 : Int) > 0 by decide, if_true]
  congr 1
  · omega
  · congr 1; omega
set_option maxRecDepth 100000 in
/-- list.__setitem__ with a slice of step one and another list -/
theorem setItem_slice {l b sl : Addr} {items new : Array Value} {n n2 : Nat} {vl vu : Value} {a c : Nat} {Q : Unit → Shared → Prop}
    (e : s.heap.get? l = some { cls := .type "list", data := .seq items n }) (e2 : s.heap.get? b = some { cls := .type "list", data := .seq new n2 }) (hne : l ≠ b)
    (hs : s.heap.IsSliceOf sl vl vu .none) (pl : IsPart vl (some (a : Int))) (pu : IsPart vu (some (c : Int))) (hac : a ≤ c) (hc : c ≤ items.size)
    (hsz : items.size + new.size ≤ sizeLine) (h : Q () { s with heap := s.heap.update l (Obj.mapSeq fun xs => xs.extract 0 a ++ new ++ xs.extract c xs.size) }) :
    wpAny (model prog w) A (setItem (.ref l) (.ref sl) (.ref b)) Q E s := by
  have hl : s.heap.IsList l items := PySem.IsL.isList e
  have hb : s.heap.IsList b new := PySem.IsL.isList e2
  obtain ⟨os, hos, hcs, hds⟩ := id hs
  have hTs : s.TypeIs (.ref sl) "slice" := ⟨os, hos, hcs⟩
  have hstep : ¬ ((rawPart none == rawInt 0) = true) := Bool.false_ne_true
  have hsame : Builtin.List.listSameRef (.ref l) (.ref b) = false := by
    unfold Builtin.List.listSameRef
    exact beq_eq_false_iff_ne.mpr hne
  have hmax : (max (a : Int) (c : Int)).toNat = c := by omega
  have hz' : ((fun xs : Array Value => xs.extract 0 a ++ new ++ xs.extract c xs.size) items).size ≤ sizeLine + 1 := by
    simp only [Array.size_append, Array.size_extract]
    omega
  unfold setItem
  try with_reducible refine wpAny_holding ?_
  first | refine wpAny_bind (wpAny_pure ?_) | skip
  refine wpAny_bind (wpAny_sequenceKey hl.typeIs (by decide) ?_)
  refine wpAny_bind (wpAny_callSpecial?_slot (name := Str.ofString "__setitem__") hl.typeIs slot_list_setitem
    (wpAny_call_entry slot_list_setitem hl.typeIs entry_list_setitem ?_ (args_list_setitem _ _ _)))
  show wpAny _ _ (Builtin.List.listSubscript? (.ref sl) >>= _) _ _ s
  refine wpAny_bind ?_
  unfold Builtin.List.listSubscript?
  refine wpAny_bind (wpAny_specialOf hTs slice_no_index ?_)
  simp only [Option.isNone_none, if_true]
  refine wpAny_pure ?_
  show wpAny _ _ (typeOf (.ref sl) >>= _) _ _ s
  refine wpAny_bind (wpAny_typeOf hTs ?_)
  first
    | rw [if_neg (by decide)]
    | refine PySem.W.KFB.if_not (by decide) ?_
  rw [listSliceParts_eq]
  refine wpAny_bind (wpAny_bind (wpAny_field hos hds (x := .none) rfl (wpAny_bind (wpAny_listPart .none ?_))))
  rw [if_neg hstep]
  refine wpAny_bind (wpAny_field hos hds (x := vl) rfl (wpAny_bind (wpAny_listPart pl ?_)))
  refine wpAny_bind (wpAny_field hos hds (x := vu) rfl (wpAny_bind (wpAny_listPart pu (wpAny_pure ?_))))
  first
    | simp only [hsame, Bool.false_eq_true, if_false]
    | refine PySem.W.KFB.if_not hsame ?_
    | (dsimp only
       rw [if_neg (by rw [hsame]; exact Bool.false_ne_true)])
  refine wpAny_bind (m := Builtin.List.listAllItems (.ref b) "must assign iterable to extended slice") ?_
  unfold Builtin.List.listAllItems
  refine wpAny_bind (wpAny_typeOf hb.typeIs ?_)
  first
    | refine PySem.W.KFB.if_so (by decide) ?_
    | rw [if_pos (by decide)]
    | simp only [beq_self_eq_true, Bool.true_or, if_true]
  unfold Builtin.List.listItems
  refine wpAny_bind (wpAny_seqItems e2 rfl (wpAny_pure ?_))
  refine wpAny_bind (wpAny_bind (wpAny_seqItems e rfl (wpAny_pure ?_)))
  refine wpAny_bind (wpAny_of_eq ((sliceIndices_raw (some (a : Int)) (some (c : Int)) none items.size (by simp)).trans (congrArg (pure : Int × Int × Int → Sem (Int × Int × Int)) (bounds_run hac hc))) ?_)
  show wpAny _ _ (if ((1 : Int) == 1) = true then _ else _) _ _ s
  rw [if_pos (by decide)]
  refine wpAny_bind (wpAny_rule ?_)
  first
    | simp only [notLongL hsz, Bool.false_eq_true, if_false]
    | refine PySem.W.KFB.if_not (notLongL hsz) ?_
  first | refine wpAny_bind (wpAny_pure ?_) | skip
  show wpAny _ _ (updateSeq l (fun xs => xs.extract 0 ((a : Int)).toNat ++ new ++ xs.extract (max (a : Int) (c : Int)).toNat xs.size) >>= _) _ _ s
  rw [hmax, Int.toNat_natCast]
  refine wpAny_bind (wpAny_updateSeq (hz := Nat.le_trans (Nat.le_add_right _ _) hsz) (_hz' := hz') e rfl ?_)
  refine wpAny_bind (wpAny_letGo ?_)
  first
    | exact wpAny_bind (wpAny_pure (wpAny_pure ⟨.none, rfl, wpAny_pure h⟩))
    | exact wpAny_pure ⟨.none, rfl, wpAny_pure h⟩
end

section
variable {X : Cx}
end
end L2

namespace L2
open PySem PySem.Spec PyProof.Rows

/-! ### lists of pairs as tables -/
section
variable {κ : Type} [DecidableEq κ]
def valV (kvs : List (κ × V)) (k : κ) : Option V := (kvs.find? fun kv => decide (kv.1 = k)).map (·.2)
/-- in its place, or at the end -/
def putK (kvs : List (κ × V)) (k : κ) (v : V) : List (κ × V) :=
  if (kvs.any fun kv => decide (kv.1 = k)) = true then kvs.map (fun kv => if kv.1 = k then (kv.1, v) else kv) else kvs ++ [(k, v)]
def dropK (kvs : List (κ × V)) (k : κ) : List (κ × V) := kvs.filter fun kv => decide (kv.1 ≠ k)

theorem valV_pos {p : κ × V} {r : List (κ × V)} {k : κ} (e : p.1 = k) : valV (p :: r) k = some p.2 := by simp [valV, List.find?_cons, e]
theorem valV_neg {p : κ × V} {r : List (κ × V)} {k : κ} (e : ¬ p.1 = k) : valV (p :: r) k = valV r k := by simp [valV, List.find?_cons, e]
theorem RelO.getD {o : Option V} {u : Option Value} {d : V} {d' : Value} (r : RelO o u) (rd : RelV d d') : RelV (o.getD d) (u.getD d') := by
  cases o with
  | none => cases u with
    | none => exact rd
    | some _ => exact (show False from r).elim
  | some _ => cases u with
    | none => exact (show False from r).elim
    | some _ => exact r

/-- raw tables of the same keys -/
theorem KV.val {kvs : List (κ × V)} {vs : List (κ × Value)} (r : KV kvs vs) (k : κ) : RelO (valV kvs k) (valueAt vs k) := by
  unfold KV at r
  induction r with
  | nil => exact True.intro
  | @cons p q ps qs h t ih =>
    obtain ⟨h1, h2⟩ := h
    by_cases e : p.1 = k
    · have e' : q.1 = k := h1.symm.trans e
      have b : valueAt (q :: qs) k = some q.2 := by simp [valueAt, List.find?_cons, e']
      rw [valV_pos e, b]; exact h2
    · have e' : ¬ q.1 = k := fun z => e (h1.trans z)
      have b : valueAt (q :: qs) k = valueAt qs k := by simp [valueAt, List.find?_cons, e']
      rw [valV_neg e, b]; exact ih
theorem KV.any {kvs : List (κ × V)} {vs : List (κ × Value)} (r : KV kvs vs) (k : κ) : (kvs.any fun kv => decide (kv.1 = k)) = vs.any fun kv => decide (kv.1 = k) := by
  unfold KV at r
  induction r with
  | nil => rfl
  | cons h t ih => rw [List.any_cons, List.any_cons, ih, h.1]
theorem KV.repl {kvs : List (κ × V)} {vs : List (κ × Value)} (r : KV kvs vs) (k : κ) {y : V} {u : Value} (ry : RelV y u) :
    KV (kvs.map fun kv => if kv.1 = k then (kv.1, y) else kv) (vs.map fun kv => if kv.1 = k then (kv.1, u) else kv) := by
  unfold KV at r ⊢
  induction r with
  | nil => exact .nil
  | @cons p q ps qs h t ih =>
    rw [List.map_cons, List.map_cons]
    refine .cons ?_ ih
    obtain ⟨h1, h2⟩ := h
    by_cases e : p.1 = k
    · rw [if_pos e, if_pos (h1.symm.trans e)]; exact ⟨h1, ry⟩
    · rw [if_neg e, if_neg (fun z => e (h1.trans z))]; exact ⟨h1, h2⟩
theorem KV.put {kvs : List (κ × V)} {vs : List (κ × Value)} (r : KV kvs vs) (k : κ) {y : V} {u : Value} (ry : RelV y u) : KV (putK kvs k y) (stored vs k u) := by
  unfold putK stored
  rw [r.any k]
  by_cases e : (vs.any fun kv => decide (kv.1 = k)) = true
  · rw [if_pos e, if_pos e]; exact r.repl k ry
  · rw [if_neg e, if_neg e]; exact Paired.snoc r ⟨rfl, ry⟩
theorem KV.drop {kvs : List (κ × V)} {vs : List (κ × Value)} (r : KV kvs vs) (k : κ) : KV (dropK kvs k) (without vs k) := by
  unfold KV at r ⊢
  unfold dropK without
  induction r with
  | nil => exact .nil
  | @cons p q ps qs h t ih =>
    obtain ⟨h1, h2⟩ := h
    rw [List.filter_cons, List.filter_cons]
    by_cases e : p.1 = k
    · have a : ¬ decide (p.1 ≠ k) = true := by simp [e]
      have b : ¬ decide (q.1 ≠ k) = true := by simp [h1.symm.trans e]
      rw [if_neg a, if_neg b]; exact ih
    · have e' : ¬ q.1 = k := fun z => e (h1.trans z)
      have a : decide (p.1 ≠ k) = true := by simp [e]
      have b : decide (q.1 ≠ k) = true := by simp [e']
      rw [if_pos a, if_pos b]; exact .cons ⟨h1, h2⟩ ih
theorem KV.length {kvs : List (κ × V)} {vs : List (κ × Value)} (r : KV kvs vs) : kvs.length = vs.length := Paired.length r
end


/-! ### a tracked dict, its keys ints and texts or tuples of these -/
section
variable {P : Program} {w : World} {H : Hp} {h : Heap} {a : Addr}
theorem rd_of {u : HO} (ok : HOk P w H h) (e : Rd H a u) : ObjOk P w H h a u := e.ok ok
theorem dk_rd {kvs : List (Key × V)} (ok : HOk P w H h) (e : Rd H a (.dK kvs)) : kvs.length ≤ sizeLine ∧ (a == sysModules) = false ∧ ∃ vs, KV kvs vs ∧ h.DictOf (mixKind P w) a vs :=
  show ObjOk P w H h a (.dK kvs) from rd_of ok e
end

section
variable {X : Cx} {pins : List (Addr × Obj)} {σ : St} {H : Hp} {s : Shared} {a : Addr} {y v : V} {u r : Value} {o : Option V} {A : Around} {E : Value → Shared → Prop}

end

section
variable {X : Cx} {pins : List (Addr × Obj)} {σ : St} {H : Hp} {s : Shared} {a : Addr} {kvs : List (Key × V)} {k : Key} {u : Value} {A : Around} {E : Value → Shared → Prop}
/-- len(d) -/
theorem d_len {Q : Value → Shared → Prop} (I : Inv X pins σ H s) (e : Rd H a (.dK kvs)) (h : ∀ t s', Inv X pins σ H s' → Q (.int kvs.length t) s') : wpAny (model X.prog X.w) A (call (.builtin "len") [.ref a]) Q E s := by
  obtain ⟨z, hd, vs, rel, dd⟩ := dk_rd I.hok e
  refine call_len_dict hd dd (by rw [← rel.length]; rw [sizeLine_eq] at z; omega) ?_
  rw [← rel.length]
  exact h _ _ (I.tok _)
end


/-! ### readings and rules -/
section
variable {X : Cx} {o i e value : Expr} {pos pos' tpos : Pos} {td ty tv : TE}
end


/-! ### displays -/
section
variable {X : Cx} {pos : Pos}
end

/-! ### methods -/
section
variable {X : Cx} {pins : List (Addr × Obj)} {σ : St} {H : Hp} {s : Shared} {a : Addr} {y d : V} {u r : Value} {o : Option V} {A : Around} {E : Value → Shared → Prop}
end

section
variable {X : Cx} {o e f : Expr} {apos cpos : Pos} {td ty tx : TE}
end

/-! ### dict(d): a copy -/
section
variable {X : Cx} {pins : List (Addr × Obj)} {σ : St} {H : Hp} {s : Shared} {a : Addr} {kvs : List (Key × V)} {A : Around} {E : Value → Shared → Prop}
end


section
variable {X : Cx} {pins : List (Addr × Obj)} {σ : St} {H : Hp} {s : Shared} {a : Addr} {y : V} {u : Value} {A : Around} {E : Value → Shared → Prop}
end
end L2

namespace Att
open PySem PySem.W PySem.Calls PyProof.Rows

/-! ### the script -/
theorem ints_of_wellAll {P : Params} {h : Heap} : ∀ (ns : List Int) (vs : List Value), WellAll P h vs (ns.map WData.int) → IntsAre vs ns := by
  intro ns
  induction ns with
  | nil =>
    intro vs w
    rw [List.map_nil] at w
    cases w
    exact .nil
  | cons n ns ih =>
    intro vs w
    rw [List.map_cons] at w
    cases w with
    | cons a b =>
      cases a
      exact .cons _ _ (ih _ b)

theorem script_of {l : OpenLaw} {n : Nat} (hn : l.most = some n) {P : Params} {h : Heap} {args : List WData} {vals : List Value}
    (hpre : l.row.toRowW.claim.pre args = true) (hwl : WellAll P h vals args) :
    ∃ a vs ns, vals = [Value.ref a] ∧ args = [WData.list (ns.map WData.int)] ∧ h.get? a = some { cls := .type "list", data := .seq vs.toArray } ∧ IntsAre vs ns ∧ ns.length ≤ n := by
  have hsh : WShape.hasAll [] args [.list .int] = true := (pre_splitW hpre).1
  have hc : l.pre.holds [] { args := args } = true := (pre_splitW hpre).2
  obtain ⟨d, r, rfl, h1, h2⟩ := hasAllW_cons hsh
  obtain rfl := hasAllW_nil h2
  obtain ⟨xs, rfl, h3⟩ := hasW_list h1
  obtain ⟨ns, rfl⟩ := items_int h3
  have hlen : ns.length ≤ n := by
    unfold OpenLaw.pre at hc
    have h4 : (WTm.not (.lt (.lit (.int (n : Int))) (.len (.arg 0)))).holds [] { args := [.list (ns.map .int)] } = true := by
      have h4 := (holds_andW hc).1
      rw [hn] at h4
      exact h4
    have h5 := condW_of h4 (w_not (w_lt w_lit (w_len_list (w_arg rfl))))
    rw [List.length_map] at h5
    refine Nat.le_of_not_lt fun q => ?_
    have q' : (n : Int) < ((ns.length : Nat) : Int) := by omega
    first
      | (rw [decide_eq_true q'] at h5; exact absurd h5 (by decide))
      | (simp at h5; omega)
  cases hwl with
  | cons w1 w2 =>
    cases w2
    cases w1 with
    | list ho hall => exact ⟨_, _, ns, rfl, rfl, ho, ints_of_wellAll ns _ hall, hlen⟩

theorem post_true (l : OpenLaw) (args : List WData) : l.row.toRowW.claim.post args (.bool true) args = true :=
  postW_of (r := l.row.toRowW) (X := (true == true))
    (show WShape.has [] (.bool true) .bool = true by first | rfl | decide | simp [WShape.has, WShape.arms, WShape.armsAll])
    (show (WTm.eq .res (.lit (.bool true))).value [] { args := args, res := some (.bool true), after := args } = some (.bool (true == true)) from w_eq_bool (w_res rfl) w_lit) rfl

/-! ### the attachment: holds_open's last premise (the goal 'hc' behind k_head) from a wpAny of the law's body -/
/-- the same from a codeAny of the CALL (for a layer whose function contracts speak of calls) -/
theorem attach_call {l : OpenLaw} {n : Nat} {q : Program} {loose : List Str} {XP : (Str → Option Value) → Heap → Prop} {YP : World → Heap → Prop} {d : DefRec}
    (hn : l.most = some n) (hdf : d.params.defaults = [])
    (call : ∀ (w : World) (s₀ s₁ : Shared) (mg mb : Str → Option Value) (fa : Addr) (o : Obj) (pm cd doc : Value) (a : Addr) (vs : List Value) (ns : List Int),
      Ground q loose [] XP w s₀ mg mb s₁.heap → YP w s₁.heap →
      s₁.heap.get? fa = some o → o.data = .func (docDef d.name d.params d.body d.scope pm cd doc) → s₁.heap.CodeRec cd d.name → mg d.name = some (.ref fa) →
      s₁.heap.get? a = some { cls := .type "list", data := .seq vs.toArray } → IntsAre vs ns → ns.length ≤ n → s₁.gens = #[] →
      codeAny (model l.prog w) callerA (.call (.ref fa) ⟨[.ref a], []⟩) (fun r s' => r = .ok (.ret (.bool true)) ∧ OldK s₁.heap s'.heap ∧ s'.os = s₁.os ∧ AllBare s'.gens) s₁) :
    WalkO q loose XP YP l.row.toRowW d [] (fun f vs => PySem.call f vs) := by
  intro w s₀ s₁ mg mb G Y fa o pm cd doc dV kV ho hd hcd hD hmg hg args vals as hpre hlay hrd hwl hlo
  obtain rfl : dV = .none := Dflts.none hD hdf
  obtain rfl : kV = .none := Dflts.noKw hD
  obtain ⟨a, vs, ns, rfl, rfl, hobj, hints, hlen⟩ := script_of hn hpre hwl
  refine enter_call (codeAny_mono (call w s₀ s₁ mg mb fa o pm cd doc a vs ns G Y ho (fd_plain hd) hcd hmg hobj hints hlen hg) fun r s' hq => ?_)
  obtain ⟨rfl, h2, h3, h4⟩ := hq
  exact ⟨.inl ⟨.bool true, .bool true, [], rfl, fun _ => rfl, .bool true, post_true l _, fun _ => ⟨List.Pairwise.nil, fun _ hm => (nomatch hm)⟩⟩, h2, h3, h4⟩

/-! ### rules over ANY heap (no ledger) from facts about the written part K: the library's own take a ledger (News) for what they write -/
section
variable {prog : Program} {w : World} {A : Around} {E : Value → Shared → Prop} {s : Shared} {K : Frag}

/-! the whole heap as the ledger: makes every rule that writes through a ledger a rule over any heap -/
end
end Att

namespace L2
open PySem PySem.Spec PyProof.Rows

theorem vals_ints : ∀ {vs : List Value} {ns : List Int}, IntsAre vs ns → Vals (ns.map V.int) vs
  | _, _, .nil => .nil
  | _, _, .cons n t h => .cons ⟨t, rfl⟩ (vals_ints h)

/-- nothing is tracked but the script, known to the object (or it is an object of the module) -/
def Only (H : Hp) : Prop := ∀ b, H b = none ∨ ∃ o xs, H b = some (.frz o (.lst xs))

/-- THE HEAD: the law's promise, at the heap behind the top. F, the promise of the law's def, may use that base is part of the heap (so K.In base, base.Ns mainGlobals mg stand in Mod) -/
theorem law_call {P : Program} {w : World} {K : PySem.W.Frag} {mg mb : Str → Option Value} {CX : CXT} {k : Nat} {fa a : Addr} {fd : FuncData} {x : Str} {sp : Sp} {s₁ : Shared} {vs : List Value} {ns : List Int}
    (KX : K.In s₁.heap) (hns : s₁.heap.Ns mainGlobals mg) (hb : s₁.heap.Ns builtinsNs mb) (hbb : ∀ x : Str, x ≠ "__name__" → mb x = bootBuiltins x) (hlim : s₁.heap.NoLimit) (hg : s₁.gens = #[])
    (ha : s₁.heap.get? a = some { cls := .type "list", data := .seq vs.toArray }) (hi : IntsAre vs ns) (hl : ns.length ≤ sizeLine) (hr : Room k callerA)
    (F : ∀ base : Heap, K.In base → base.Ns mainGlobals mg → FnOk P w K mg base CX k fa fd [x] sp) (hbind : ∀ (s : Shared) (u : Value), BindsTo s fd ⟨[u], []⟩ [(x, u)])
    (hsp : ∀ H : Hp, Only H → SqL K H a (ns.map V.int) → sp [.ref a] H (fun v _ => v = .bl true) fun _ _ _ => False)
    (hCX : ∀ H e s', CX [] H s₁ (fun _ _ _ => False) e s' → False) :
    codeAny (model P w) callerA (.call (.ref fa) ⟨[.ref a], []⟩) (fun r s' => r = .ok (.ret (.bool true)) ∧ OldK s₁.heap s'.heap ∧ s'.os = s₁.os ∧ AllBare s'.gens) s₁ := by
  have rv := vals_ints hi
  have lenV := hi.length
  -- from an abstract heap in which nothing but the script may be tracked
  have core : ∀ H : Hp, Only H → SqL K H a (ns.map V.int) → HOk P w H s₁.heap → (∀ b, H b ≠ none → b = a) → (H a ≠ none → K.lookup a = none) →
      codeAny (model P w) callerA (.call (.ref fa) ⟨[.ref a], []⟩) (fun r s' => r = .ok (.ret (.bool true)) ∧ OldK s₁.heap s'.heap ∧ s'.os = s₁.os ∧ AllBare s'.gens) s₁ := by
    intro H hO hS hok hA hK
    have base_of : ∀ {b : Addr} {o : Obj}, s₁.heap.get? b = some o → H b = none → (hidT s₁.heap H).get? b = some o := fun e n => hidT_get e n
    have noA : ∀ {b : Addr} {o : Obj} {es : Array DictEntry} {ep : Nat}, s₁.heap.get? b = some o → o.data = .dict es ep → H b = none := fun {b o es ep} e d => by
      cases q : H b with
      | none => rfl
      | some u =>
        have e' : b = a := hA b (by rw [q]; simp)
        subst e'
        rw [ha] at e; cases e
        have d' : Data.seq vs.toArray _ = Data.dict es ep := d
        cases d'
    have nsK : ∀ {b : Addr} {m : Str → Option Value}, s₁.heap.Ns b m → (hidT s₁.heap H).Ns b m := fun {b m} ⟨o, es, ep, e, d, r⟩ => ⟨o, es, ep, base_of e (noA e d), d, r⟩
    have hKb : K.In (hidT s₁.heap H) := fun b o e => base_of (KX b o e) (by
      cases q : H b with
      | none => rfl
      | some u =>
        have e' : b = a := hA b (by rw [q]; simp)
        subst e'
        rw [hK (by rw [q]; simp)] at e; cases e)
    have hM : Mod K mg (hidT s₁.heap H) := ⟨hKb, nsK hns, ⟨mb, nsK hb, hbb⟩, let ⟨mc, h1, h2⟩ := hlim; ⟨mc, nsK h1, h2⟩⟩
    have e0 : Env0 P w K mg (hidT s₁.heap H) callerA [] s₁ H := ⟨rfl, hM, fun b o e => of_hidT e, Nat.le_of_eq (hidT_size _ _), trivial, fun b hb => absurd (show b ∈ ([] : List Addr) from hb) (by simp), hok, .of_eq hg⟩
    refine codeAny_mono ((F _ hKb (nsK hns)).run callerA [] s₁ H ⟨[.ref a], []⟩ [.ref a] [.ref a] _ _ hr e0 (hbind s₁ (.ref a)) (.cons rfl .nil) (hsp H hO hS)) fun r s' h => ?_
    cases r with
    | error e => exact (hCX H e s' h).elim
    | ok fl =>
      cases fl with
      | next => exact False.elim h
      | brk => exact False.elim h
      | cont => exact False.elim h
      | ret u =>
        obtain ⟨v, H', os, bare, un, hok', r', q⟩ := h
        have q' : v = .bl true := q
        subst q'
        obtain rfl : u = Value.bool true := r'
        refine ⟨rfl, OldK.of_keep fun b o e => ?_, os, bare⟩
        cases q : H b with
        | none => exact un.keep b o e q (by intro z; exact absurd (show b ∈ ([] : List Addr) from z) (by simp)) (by simp)
        | some u =>
          rcases hO b with z | ⟨ob, xs, z⟩
          · rw [q] at z; cases z
          · have z2 := un.frzs b ob _ z
            obtain ⟨e1, _⟩ := hok b _ z
            obtain ⟨e2, _⟩ := hok' b _ z2
            rw [e] at e1; cases e1
            exact e2
  cases hk : K.lookup a with
  | some o =>
    -- the script is one of the module's own objects
    have e := KX a o hk
    rw [ha] at e
    cases e
    refine core (fun _ => none) (fun _ => .inl rfl) (.inr ⟨_, vs.toArray, _, hk, rfl, rfl, rfl, by rw [List.size_toArray, lenV]; exact hl, by simpa using rv⟩) (fun b u z => by have z' : (none : Option HO) = some u := z; cases z') (fun b z => absurd rfl z) fun z => absurd rfl z
  | none =>
    refine core (fun b => if b = a then some (.frz { cls := .type "list", data := .seq vs.toArray } (.lst (ns.map V.int))) else none) (fun b => ?_) (.inl (.inr ⟨{ cls := .type "list", data := .seq vs.toArray }, if_pos rfl⟩)) (fun b u z => ?_) (fun b z => ?_) fun _ => hk
    · by_cases hb : b = a
      · exact .inr ⟨_, _, if_pos hb⟩
      · exact .inl (if_neg hb)
    · by_cases hb : b = a
      · have z' := (if_pos hb).symm.trans z
        cases z'
        subst hb
        exact ⟨ha, by rw [List.length_map]; exact hl, vs, _, rv, ha⟩
      · have z' := (if_neg hb).symm.trans z
        cases z'
    · by_cases hb : b = a
      · exact hb
      · exact absurd (if_neg hb) z
end L2

namespace L2
open PySem PySem.Spec PyProof.Rows

/-- the goal that k_head leaves (case hc), from the law's promise. F gives the function object fd (K's own) once, then the promise over every base -/
theorem walk_of {l : PySem.W.OpenLaw} {n k : Nat} {q : Program} {loose : List Str} {XP : (Str → Option Value) → Heap → Prop} {YP : World → Heap → Prop} {d : DefRec} {K : Params → PySem.W.Frag} {CX : World → CXT} {sp : World → Sp} {x : Str}
    (hn : l.most = some n) (hn2 : n ≤ sizeLine) (hdf : d.params.defaults = []) (hr : Room k callerA)
    (hY : ∀ (w : World) (h : Heap), YP w h → (K w.params).In h)
    (F : ∀ (w : World) (mg : Str → Option Value) (fa : Addr) (h : Heap), (K w.params).In h → h.Ns mainGlobals mg → mg d.name = some (.ref fa) →
      ∃ fd : FuncData, (∀ (s : Shared) (u : Value), BindsTo s fd ⟨[u], []⟩ [(x, u)]) ∧
        ∀ base : Heap, (K w.params).In base → base.Ns mainGlobals mg → FnOk l.prog w (K w.params) mg base (CX w) k fa fd [x] (sp w))
    (hsp : ∀ (w : World) (H : Hp) (a : Addr) (ns : List Int), ns.length ≤ n → Only H → SqL (K w.params) H a (ns.map V.int) → sp w [.ref a] H (fun v _ => v = .bl true) fun _ _ _ => False)
    (hCX : ∀ (w : World) (H : Hp) (s : Shared) (e : Value) (s' : Shared), CX w [] H s (fun _ _ _ => False) e s' → False) :
    PySem.W.WalkO q loose XP YP l.row.toRowW d [] (fun f vs => PySem.call f vs) := by
  refine Att.attach_call hn hdf fun w s₀ s₁ mg mb fa o pm cd doc a vs ns G Y ho hd hcd hmg hobj hints hlen hg => ?_
  have KX := hY w _ Y
  obtain ⟨fd, hb, hF⟩ := F w mg fa _ KX G.T.g hmg
  exact law_call KX G.T.g G.T.b G.T.builtins G.T.nolimit hg hobj hints (Nat.le_trans hlen hn2) hr hF hb (fun H hO hS => hsp w H a ns hlen hO hS) fun H e s' => hCX w H s₁ e s'
end L2

/- THE LAST THEOREM (shape; LID, My.* are yours):
   My.Adr: a structure of the addresses that your layer names (classes, functions); My.Txt K t: a structure (Prop) of the equations over K;
   My.txt_mk : {K} {implicit addresses ..} (e1 : nsIn K mainGlobals "law" = some (some (.ref f))) (e2 : K.lookup f = some ⟨oc, od, .func (fnOf "law" "law" params body scope dV kV doc pm an cdv ct), sl⟩) (e3 : codeIn K cdv "law" = true) .. : ∃ t, My.Txt K t

set_option maxRecDepth 100000 in
set_option maxHeartbeats 0 in
theorem PySem.Challenge.cw_LID_holds : PySem.Challenge.rw_LID.Holds := by
  w_on; o_law; k_head; (case hw => w_witness2)
  k_fill
  refine L2.walk_of (l := PySem.Challenge.rw_LID) (n := 63) (k := 40) (x := "script") (CX := fun w => ..) (sp := fun _ => My.sp_law) rfl (by decide) rfl ⟨rfl, by decide, by decide⟩ (fun w h Y => PySem.W.kIn_of Y) ?F ?S ?C
  case F =>
    intro w mg fa h KX G hmg
    have T : ∃ t, My.Txt (L2.KOf KX) t := by
      dsimp only [L2.KOf]                          -- K must stand as «<heap const> w.params» for k_is
      refine' My.txt_mk ?e1 ?e2 ?e3 ..
      (case e1 => PySem.W.k_is)                    -- in the order: a name -> its address -> its object -> its parts
      (case e2 => PySem.W.k_is)
      ..
    obtain ⟨t, T⟩ := T
    have e0 := hmg.symm.trans (PySem.W.mg_of KX G T.law)
    cases e0                                       -- fa is the law's own address
    exact ⟨_, fun s u => .of_eq rfl, fun base kb nb => My.law_fn T kb nb⟩     -- if «.of_eq rfl» comes too early: refine' ⟨_, ?b, fun base kb nb => My.law_fn T kb nb⟩; exact fun s u => .of_eq rfl
  case S => exact fun w H a ns hl hO hS => ..
  case C => exact ..
(the tactic k_is has no namespace: write k_is) -/

/-! SHORT WORDS over the layer: a def of the text, its body, what a loop and a test want. -/
namespace L2
open PySem PySem.Spec PyProof.Rows

/-! ### the text by places -/
def defArgs (s : Stmt) : Arguments := match s with
  | .FunctionDef _ a _ _ _ _ _ _ _ _ => a
  | _ => { posonlyargs := [], args := [], vararg := none, kwonlyargs := [], kw_defaults := [], kwarg := none, defaults := [] }
def defBody (s : Stmt) : List Stmt := match s with
  | .FunctionDef _ _ b _ _ _ _ _ _ _ => b
  | _ => []
def defScope (s : Stmt) : Scope := match s with
  | .FunctionDef _ _ _ _ _ _ sc _ _ _ => sc
  | _ => { kind := .function, names := [], isGenerator := false, isCoroutine := false }

/-! ### no exception leaves a def -/
abbrev CX0 : CXT := fun _ _ _ _ _ _ => False
abbrev E0 : XK := fun _ _ _ => False
theorem pass0 {X : Cx} : Passes CX0 X E0 := fun _ _ _ _ _ _ _ h => h.elim

/-! ### a def (or method) of the text as it stands behind the top -/
structure Fun (K : PySem.W.Frag) (x qual : Str) (st : Stmt) (f : Addr) (fd : FuncData) : Prop where
  ex : ∃ (oc : Value) (od : Option Addr) (kV doc pm : Value) (an : Option Addr) (cdv ct : Value) (osl : Array (Option Value)),
    fd = PySem.W.fnOf x qual (defArgs st) (defBody st) (defScope st) .none kV doc pm an cdv ct ∧ K.lookup f = some ⟨oc, od, .func fd, osl⟩ ∧ PySem.W.codeIn K cdv qual = true
  kp : PySem.W.keepIn K (.ref f) = true
section
variable {P : Program} {w : World} {K : PySem.W.Frag} {mg : Str → Option Value} {base : Heap}
/-- THE RULE for a def: its body as a term of rules, and the reading of that term -/
theorem Fun.ok {x qual : Str} {st : Stmt} {f : Addr} {fd : FuncData} {N ps : List Str} {k : Nat} {sp : Sp} (F : Fun K x qual st f fd) (S : FnScope N ps (defScope st)) (len : ∀ vs H Q E, sp vs H Q E → vs.length = ps.length)
    (hbody : ∀ (cdv : Value) (A : Around) (outer : List Env) (s : Shared) (H : Hp) (vs : List V) (Q : VK) (E : XK), Room k (A.deeper (envOfC qual (defScope st) s.heap.objs.size f cdv)) → sp vs H Q E →
      ∃ t, PSs (cxOf CX0 P w K mg base N qual (defScope st) f cdv A outer s H E).nox (defBody st) t ∧ t { nx := fun _ H' => Q .non H', rt := Q } (start N vs) H) : FnOk P w K mg base CX0 (k + 1) f fd ps sp := by
  obtain ⟨oc, od, kV, doc, pm, an, cdv, ct, osl, rfl, lk, hcd⟩ := F.ex
  refine fn_of lk hcd S len fun A outer s H vs Q E hr hsp => ?_
  obtain ⟨t, h, q⟩ := hbody cdv A outer s H vs Q E hr hsp
  exact ⟨t, h.nox, q⟩
/-- how its arguments bind (no defaults): h is «fun _ _ _ _ _ _ us hl => match us, hl with | [_, _], _ => rfl», one _ a parameter -/
theorem Fun.binds {x qual : Str} {st : Stmt} {f : Addr} {fd : FuncData} {ps : List Str} (F : Fun K x qual st f fd)
    (h : ∀ (kV doc pm : Value) (an : Option Addr) (cdv ct : Value) (us : List Value), us.length = ps.length → bindArgs (PySem.W.fnOf x qual (defArgs st) (defBody st) (defScope st) .none kV doc pm an cdv ct) ⟨us, []⟩ = pure (ps.zip us)) : Binds K fd ps [] := by
  obtain ⟨oc, od, kV, doc, pm, an, cdv, ct, osl, rfl, lk, hcd⟩ := F.ex
  exact .all (h kV doc pm an cdv ct)
theorem fun_mk {x qual : Str} {st : Stmt} {f : Addr} {oc : Value} {od an : Option Addr} {osl : Array (Option Value)} {kV doc pm cdv ct : Value} (l : K.lookup f = some ⟨oc, od, .func (PySem.W.fnOf x qual (defArgs st) (defBody st) (defScope st) .none kV doc pm an cdv ct), osl⟩)
    (c : PySem.W.codeIn K cdv qual = true) (k : PySem.W.keepIn K (.ref f) = true) : Fun K x qual st f (PySem.W.fnOf x qual (defArgs st) (defBody st) (defScope st) .none kV doc pm an cdv ct) := ⟨⟨oc, od, kV, doc, pm, an, cdv, ct, osl, rfl, l, c⟩, k⟩
end
/-! ### expressions in short: the name that stands in the i-th slot -/
section
variable {X : Cx}
end

/-! ### tests -/
theorem iteF {A B : Prop} (h : B) : if false = true then A else B := by
  rw [if_neg Bool.false_ne_true]
  exact h
theorem iteT {A B : Prop} (h : A) : if true = true then A else B := by
  rw [if_pos rfl]
  exact h
/-! ### heaps -/
/-- all that was tracked is as it was -/
def Same (H H' : Hp) : Prop := ∀ b o, H b = some o → H' b = some o
theorem Same.refl (H : Hp) : Same H H := fun _ _ h => h
theorem Same.trans {H H1 H2 : Hp} (a : Same H H1) (b : Same H1 H2) : Same H H2 := fun c o h => b c o (a c o h)
theorem Same.free {H H' : Hp} (e : Same H H') {l : Addr} (h : H' l = Option.none) : H l = Option.none := by
  cases q : H l with
  | none => rfl
  | some o =>
    rw [e l o q] at h
    cases h
theorem Same.seq {K : PySem.W.Frag} {H H' : Hp} {a : Addr} {xs : List V} (e : Same H H') (h : SqL K H a xs) : SqL K H' a xs := by
  rcases h with (h | ⟨o, h⟩) | h
  · exact .inl (.inl (e _ _ h))
  · exact .inl (.inr ⟨o, e _ _ h⟩)
  · exact .inr h

end L2

end
section
set_option Elab.async false
set_option linter.all false
set_option maxRecDepth 100000
/-! What a heap must hold for a value to be a tree; what the names of a def hold. -/
namespace VS
open PySem PySem.Spec PyProof.Rows L2

def sx (s : Tx) : Str := ⟨s.toArray⟩
/-- a text as the heap may hold it -/
def TxOk (s : Tx) : Prop := s.length ≤ LINE ∧ ∀ c ∈ s, c < 1114112
structure Gx where
  K : PySem.W.Frag
  ct : Nat → Addr × (Nat → Str)
def keyT : Key → T
  | .inl i => .int i
  | .inr x => .str x.cps.toList
/-- the script: a list that nobody changes -/
def ScrAt (K : PySem.W.Frag) (H : Hp) (a : Addr) (ns : List Int) : Prop :=
  (∃ o, H a = some (.frz o (.lst (ns.map V.int)))) ∨
    ∃ (o : Obj) (its : Array Value) (n : Nat), K.lookup a = some o ∧ o.cls = .type "list" ∧ o.dict = none ∧ o.data = .seq its n ∧ its.size ≤ sizeLine ∧ Vals (ns.map V.int) its.toList
mutual
inductive Rp (G : Gx) (H : Hp) : V → T → List Addr → Prop
  | non : Rp G H .non .non []
  | bl (b : Bool) : Rp G H (.bl b) (.bl b) []
  | int (i : Int) : Rp G H (.int i) (.int i) []
  | str (s : Tx) : TxOk s → Rp G H (.str (sx s)) (.str s) []
  | scr {a : Addr} {ns : List Int} : ScrAt G.K H a ns → Rp G H (.ref a) (.scr ns) []
  | tup {a : Addr} {vs : List V} {ts : List T} {Fs : List (List Addr)} : H a = some (.tup vs) → RpL G H vs ts Fs → Rp G H (.ref a) (.tup ts) Fs.flatten
  | lst {a : Addr} {vs : List V} {ts : List T} {Fs : List (List Addr)} : H a = some (.lst vs) → RpL G H vs ts Fs → Rp G H (.ref a) (.lst ts) (a :: Fs.flatten)
  | dct {a : Addr} {ks : List Key} {vs : List V} {ts : List T} {Fs : List (List Addr)} : H a = some (.dK (ks.zip vs)) → ks.length = vs.length → RpL G H vs ts Fs → Rp G H (.ref a) (.dct 0 ((ks.map keyT).zip ts)) (a :: Fs.flatten)
  | dctT {a : Addr} {ks : List (List Key)} {vs : List V} {ts : List T} {Fs : List (List Addr)} : H a = some (.dT (ks.zip vs)) → ks.length = vs.length → RpL G H vs ts Fs → Rp G H (.ref a) (.dct 1 ((ks.map fun k => T.tup (k.map keyT)).zip ts)) (a :: Fs.flatten)
  | obj {c : Nat} {a dx : Addr} {ks : List Nat} {vs : List V} {ts : List T} {Fs : List (List Addr)} : H a = some (.ins (G.ct c).1 dx ((ks.map (G.ct c).2).zip vs)) → ks.length = vs.length → RpL G H vs ts Fs → Rp G H (.ref a) (.obj c (ks.zip ts)) (a :: Fs.flatten)
inductive RpL (G : Gx) (H : Hp) : List V → List T → List (List Addr) → Prop
  | nil : RpL G H [] [] []
  | cons {v : V} {t : T} {F : List Addr} {vs : List V} {ts : List T} {Fs : List (List Addr)} : Rp G H v t F → RpL G H vs ts Fs → RpL G H (v :: vs) (t :: ts) (F :: Fs)
end

/-- what never changes stays -/
structure Kept (H H' : Hp) : Prop where
  tup : ∀ a xs, H a = some (.tup xs) → H' a = some (.tup xs)
  frz : ∀ a o u, H a = some (.frz o u) → H' a = some (.frz o u)
theorem Kept.refl (H : Hp) : Kept H H := ⟨fun _ _ h => h, fun _ _ _ h => h⟩
theorem Kept.trans {H H1 H2 : Hp} (a : Kept H H1) (b : Kept H1 H2) : Kept H H2 := ⟨fun c x h => b.tup c x (a.tup c x h), fun c o u h => b.frz c o u (a.frz c o u h)⟩
theorem Kept.of {H H' : Hp} (e : Same H H') : Kept H H' := ⟨fun a _ h => e a _ h, fun a _ _ h => e a _ h⟩
theorem Kept.upd {H : Hp} {a : Addr} {o : HO} (mu : Mut (H a) ∨ H a = none) : Kept H (upd H a o) := by
  have ne : ∀ b u, H b = some u → ¬ Mut (some u) → b ≠ a := fun b u h nm e => by
    subst e
    rcases mu with m | m
    · rw [h] at m; exact nm m
    · rw [h] at m; cases m
  exact ⟨fun b xs h => by rw [upd_ne (ne b _ h fun z => z)]; exact h, fun b o u h => by rw [upd_ne (ne b _ h fun z => z)]; exact h⟩
theorem ScrAt.kept {K : PySem.W.Frag} {H H' : Hp} {a : Addr} {ns : List Int} (h : ScrAt K H a ns) (k : Kept H H') : ScrAt K H' a ns := by
  rcases h with ⟨o, e⟩ | h
  · exact .inl ⟨o, k.frz _ _ _ e⟩
  · exact .inr h
theorem ScrAt.seq {K : PySem.W.Frag} {H : Hp} {a : Addr} {ns : List Int} (h : ScrAt K H a ns) : SqL K H a (ns.map V.int) := by
  rcases h with ⟨o, e⟩ | h
  · exact .inl (.inr ⟨o, e⟩)
  · exact .inr h

mutual
theorem Rp.keep {G : Gx} {H H' : Hp} (k : Kept H H') : ∀ {v : V} {t : T} {F : List Addr}, Rp G H v t F → (∀ a ∈ F, ∀ o, H a = some o → H' a = some o) → Rp G H' v t F
  | _, _, _, .non, _ => .non
  | _, _, _, .bl b, _ => .bl b
  | _, _, _, .int i, _ => .int i
  | _, _, _, .str s h, _ => .str s h
  | _, _, _, .scr h, _ => .scr (h.kept k)
  | _, _, _, .tup h r, f => .tup (k.tup _ _ h) (RpL.keep k r f)
  | _, _, _, .lst h r, f => .lst (f _ List.mem_cons_self _ h) (RpL.keep k r fun a m => f a (List.mem_cons_of_mem _ m))
  | _, _, _, .dct h l r, f => .dct (f _ List.mem_cons_self _ h) l (RpL.keep k r fun a m => f a (List.mem_cons_of_mem _ m))
  | _, _, _, .dctT h l r, f => .dctT (f _ List.mem_cons_self _ h) l (RpL.keep k r fun a m => f a (List.mem_cons_of_mem _ m))
  | _, _, _, .obj h l r, f => .obj (f _ List.mem_cons_self _ h) l (RpL.keep k r fun a m => f a (List.mem_cons_of_mem _ m))
theorem RpL.keep {G : Gx} {H H' : Hp} (k : Kept H H') : ∀ {vs : List V} {ts : List T} {Fs : List (List Addr)}, RpL G H vs ts Fs → (∀ a ∈ Fs.flatten, ∀ o, H a = some o → H' a = some o) → RpL G H' vs ts Fs
  | _, _, _, .nil, _ => .nil
  | _, _, _, .cons r q, f => .cons (Rp.keep k r fun a m => f a (by simp [m])) (RpL.keep k q fun a m => f a (by
      rw [List.flatten_cons]
      exact List.mem_append_right _ m))
end
theorem Rp.same {G : Gx} {H H' : Hp} (e : Same H H') {v : V} {t : T} {F : List Addr} (r : Rp G H v t F) : Rp G H' v t F := r.keep (Kept.of e) fun a _ o h => e a o h
theorem RpL.same {G : Gx} {H H' : Hp} (e : Same H H') {v : List V} {t : List T} {F : List (List Addr)} (r : RpL G H v t F) : RpL G H' v t F := r.keep (Kept.of e) fun a _ o h => e a o h
mutual
theorem Rp.dom {G : Gx} {H : Hp} : ∀ {v : V} {t : T} {F : List Addr}, Rp G H v t F → ∀ a ∈ F, Mut (H a)
  | _, _, _, .non, _, m => by simp at m
  | _, _, _, .bl b, _, m => by simp at m
  | _, _, _, .int i, _, m => by simp at m
  | _, _, _, .str s _, _, m => by simp at m
  | _, _, _, .scr h, _, m => by simp at m
  | _, _, _, .tup h r, a, m => RpL.dom r a m
  | _, _, _, .lst h r, a, m => by
    rcases List.mem_cons.mp m with e | m
    · rw [e, h]; exact True.intro
    · exact RpL.dom r a m
  | _, _, _, .dct h l r, a, m => by
    rcases List.mem_cons.mp m with e | m
    · rw [e, h]; exact True.intro
    · exact RpL.dom r a m
  | _, _, _, .dctT h l r, a, m => by
    rcases List.mem_cons.mp m with e | m
    · rw [e, h]; exact True.intro
    · exact RpL.dom r a m
  | _, _, _, .obj h l r, a, m => by
    rcases List.mem_cons.mp m with e | m
    · rw [e, h]; exact True.intro
    · exact RpL.dom r a m
theorem RpL.dom {G : Gx} {H : Hp} : ∀ {vs : List V} {ts : List T} {Fs : List (List Addr)}, RpL G H vs ts Fs → ∀ a ∈ Fs.flatten, Mut (H a)
  | _, _, _, .nil, _, m => by simp at m
  | _, _, _, .cons r q, a, m => by
    rw [List.flatten_cons] at m
    rcases List.mem_append.mp m with m | m
    · exact Rp.dom r a m
    · exact RpL.dom q a m
end
theorem Mut.ne_none {o : Option HO} (m : Mut o) : o ≠ none := fun e => by subst e; exact m
mutual
theorem Rp.imm {G : Gx} {H : Hp} : ∀ {v : V} {t : T} {F : List Addr}, Rp G H v t F → VS.imm t = true → F = []
  | _, _, _, .non, _ => rfl
  | _, _, _, .bl b, _ => rfl
  | _, _, _, .int i, _ => rfl
  | _, _, _, .str s _, _ => rfl
  | _, _, _, .scr h, _ => rfl
  | _, _, _, .tup h r, i => RpL.imm r (by simpa [VS.imm] using i)
  | _, _, _, .lst h r, i => by simp [VS.imm] at i
  | _, _, _, .dct h l r, i => by simp [VS.imm] at i
  | _, _, _, .dctT h l r, i => by simp [VS.imm] at i
  | _, _, _, .obj h l r, i => by simp [VS.imm] at i
theorem RpL.imm {G : Gx} {H : Hp} : ∀ {vs : List V} {ts : List T} {Fs : List (List Addr)}, RpL G H vs ts Fs → VS.imms ts = true → Fs.flatten = []
  | _, _, _, .nil, _ => rfl
  | _, _, _, .cons r q, i => by
    simp only [VS.imms, Bool.and_eq_true] at i
    rw [List.flatten_cons, Rp.imm r i.1, RpL.imm q i.2]
    rfl
end
theorem RpL.len {G : Gx} {H : Hp} : ∀ {vs : List V} {ts : List T} {Fs : List (List Addr)}, RpL G H vs ts Fs → vs.length = ts.length ∧ Fs.length = ts.length
  | _, _, _, .nil => ⟨rfl, rfl⟩
  | _, _, _, .cons _ q => by
    have := RpL.len q
    simp only [List.length_cons]
    omega
theorem RpL.get {G : Gx} {H : Hp} : ∀ {vs : List V} {ts : List T} {Fs : List (List Addr)} (i : Nat) {t : T}, RpL G H vs ts Fs → ts[i]? = some t → ∃ v F, vs[i]? = some v ∧ Fs[i]? = some F ∧ Rp G H v t F
  | _, _, _, _, _, .nil, e => by simp at e
  | _, _, _, 0, _, .cons r _, e => by
    simp at e
    subst e
    exact ⟨_, _, rfl, rfl, r⟩
  | _, _, _, i + 1, _, .cons _ q, e => by
    obtain ⟨v, F, h1, h2, h3⟩ := RpL.get i q (by simpa using e)
    exact ⟨v, F, by simpa using h1, by simpa using h2, h3⟩
theorem RpL.append {G : Gx} {H : Hp} : ∀ {vs : List V} {ts : List T} {Fs : List (List Addr)} {us : List V} {rs : List T} {Gs : List (List Addr)}, RpL G H vs ts Fs → RpL G H us rs Gs → RpL G H (vs ++ us) (ts ++ rs) (Fs ++ Gs)
  | _, _, _, _, _, _, .nil, s => s
  | _, _, _, _, _, _, .cons r q, s => .cons r (RpL.append q s)
theorem RpL.take {G : Gx} {H : Hp} : ∀ {vs : List V} {ts : List T} {Fs : List (List Addr)} (n : Nat), RpL G H vs ts Fs → RpL G H (vs.take n) (ts.take n) (Fs.take n)
  | _, _, _, 0, _ => by simpa using RpL.nil
  | _, _, _, n + 1, .nil => .nil
  | _, _, _, n + 1, .cons r q => .cons r (RpL.take n q)
theorem RpL.drop {G : Gx} {H : Hp} : ∀ {vs : List V} {ts : List T} {Fs : List (List Addr)} (n : Nat), RpL G H vs ts Fs → RpL G H (vs.drop n) (ts.drop n) (Fs.drop n)
  | _, _, _, 0, q => q
  | _, _, _, n + 1, .nil => .nil
  | _, _, _, n + 1, .cons r q => RpL.drop n q

/-! ### the names of a def -/
def cellT : Cell → T
  | .pu t => t
  | .ow t => t
abbrev Fps := Nat → List Addr
structure SR (G : Gx) (Φ : Fps) (η : VS.Env) (σ : L2.St) (H : Hp) : Prop where
  len : η.length = σ.length
  rp : ∀ i c, η[i]? = some (some c) → ∃ v, σ[i]? = some (some v) ∧ Rp G H v (cellT c) (Φ i)
  nd : ∀ i t, η[i]? = some (some (.ow t)) → (Φ i).Nodup
  sep : ∀ i j t c, η[i]? = some (some (.ow t)) → η[j]? = some (some c) → i ≠ j → ∀ a ∈ Φ i, a ∉ Φ j
def InPu (Φ : Fps) (η : VS.Env) (a : Addr) : Prop := ∃ j t, η[j]? = some (some (.pu t)) ∧ a ∈ Φ j
def InOw (Φ : Fps) (η : VS.Env) (a : Addr) : Prop := ∃ j t, η[j]? = some (some (.ow t)) ∧ a ∈ Φ j
def Fp (Φ : Fps) (η : VS.Env) (H : Hp) : Md → List Addr → Prop
  | .fr, F => F.Nodup ∧ ∀ a ∈ F, H a = none
  | .pu, F => ∀ a ∈ F, H a = none ∨ InPu Φ η a
  | .bo, F => ∀ a ∈ F, H a = none ∨ InPu Φ η a ∨ InOw Φ η a
theorem SR.same {G : Gx} {Φ : Fps} {η : VS.Env} {σ : L2.St} {H H' : Hp} (s : SR G Φ η σ H) (e : Same H H') : SR G Φ η σ H' :=
  ⟨s.len, fun i c h => let ⟨v, h1, h2⟩ := s.rp i c h; ⟨v, h1, h2.same e⟩, s.nd, s.sep⟩
theorem SR.pu_dom {G : Gx} {Φ : Fps} {η : VS.Env} {σ : L2.St} {H : Hp} {a : Addr} (s : SR G Φ η σ H) (h : InPu Φ η a) : Mut (H a) := by
  obtain ⟨j, t, h1, h2⟩ := h
  obtain ⟨v, _, r⟩ := s.rp j _ h1
  exact r.dom a h2
theorem SR.ow_dom {G : Gx} {Φ : Fps} {η : VS.Env} {σ : L2.St} {H : Hp} {a : Addr} (s : SR G Φ η σ H) (h : InOw Φ η a) : Mut (H a) := by
  obtain ⟨j, t, h1, h2⟩ := h
  obtain ⟨v, _, r⟩ := s.rp j _ h1
  exact r.dom a h2
theorem Fp.nil {Φ : Fps} {η : VS.Env} {H : Hp} {m : Md} : Fp Φ η H m [] := by
  cases m
  · exact ⟨List.nodup_nil, fun a h => by simp at h⟩
  · exact fun a h => by simp at h
  · exact fun a h => by simp at h
theorem Fp.bo {Φ : Fps} {η : VS.Env} {H : Hp} {F : List Addr} : ∀ {m : Md}, Fp Φ η H m F → Fp Φ η H .bo F
  | .fr, h => fun a m => .inl (h.2 a m)
  | .pu, h => fun a m => (h a m).elim .inl fun z => .inr (.inl z)
  | .bo, h => h
theorem Fp.pu {Φ : Fps} {η : VS.Env} {H : Hp} {F : List Addr} : ∀ {m : Md}, m ≠ .bo → Fp Φ η H m F → Fp Φ η H .pu F
  | .fr, _, h => fun a m => .inl (h.2 a m)
  | .pu, _, h => h
  | .bo, n, _ => absurd rfl n
theorem Fp.back {Φ : Fps} {η : VS.Env} {H H' : Hp} (e : Same H H') {F : List Addr} : ∀ {m : Md}, Fp Φ η H' m F → Fp Φ η H m F
  | .fr, h => ⟨h.1, fun a m => e.free (h.2 a m)⟩
  | .pu, h => fun a m => (h a m).imp e.free id
  | .bo, h => fun a m => (h a m).imp e.free id
theorem Fp.up {G : Gx} {Φ : Fps} {η : VS.Env} {H H' : Hp} {m : Md} {v : V} {t : T} {F : List Addr} (f : Fp Φ η H m F) (r : Rp G H' v t F) : Fp Φ η H (VS.up m t).1 F := by
  unfold VS.up
  by_cases h : VS.imm t = true
  · rw [r.imm h]
    exact Fp.nil
  · simp only [h, if_false, Bool.false_eq_true]
    exact f

/-! ### the readings -/
/-- an expression as the function c tells it -/
def tE (G : Gx) (c : Ex) : TE := fun σ H Q => ∃ Φ η m r, SR G Φ η σ H ∧ c η = some (m, r) ∧ ∀ v H' F, Same H H' → Rp G H' v r F → Fp Φ η H m F → Q v H'
def PV (G : Gx) (X : Cx) (e : Expr) (c : Ex) : Prop := PE X e (tE G c)
theorem PE.weak {X : Cx} {e : Expr} {t t' : TE} (h : PE X e t) (w : ∀ σ H Q, t' σ H Q → t σ H Q) : PE X e t' := fun pins s σ H Q I q => h pins s σ H Q I (w σ H Q q)
theorem PT.weak {X : Cx} {e : Expr} {t t' : TT} (h : PT X e t) (w : ∀ σ H Q, t' σ H Q → t σ H Q) : PT X e t' := fun pins s σ H Q I q => h pins s σ H Q I (w σ H Q q)
theorem PA.weak {X : Cx} {e : List Expr} {t t' : TA} (h : PA X e t) (w : ∀ σ H Q, t' σ H Q → t σ H Q) : PA X e t' := fun pos pins s σ H Q I q => h pos pins s σ H Q I (w σ H Q q)
/-- a test -/
def tT (G : Gx) (c : Ex) : TT := fun σ H Q => ∃ Φ η m r b, SR G Φ η σ H ∧ c η = some (m, r) ∧ tru r = some b ∧ ∀ H', Same H H' → Q b H'
def PVT (G : Gx) (X : Cx) (e : Expr) (c : Ex) : Prop := PT X e (tT G c)
/-- some arguments: the new ones stand apart -/
def frs (l : List Val) (Fs : List (List Addr)) : List Addr := match l, Fs with
  | v :: l, F :: Fs => match v.1 with
    | .fr => F ++ frs l Fs
    | _ => frs l Fs
  | _, _ => []
structure FpL (Φ : Fps) (η : VS.Env) (H : Hp) (l : List Val) (Fs : List (List Addr)) : Prop where
  each : ∀ (i : Nat) v F, l[i]? = some v → Fs[i]? = some F → Fp Φ η H v.1 F
  nd : (frs l Fs).Nodup
def tEs (G : Gx) (c : Exs) : TA := fun σ H Q => ∃ Φ η l, SR G Φ η σ H ∧ c η = some l ∧ ∀ vs H' Fs, Same H H' → RpL G H' vs (trees l) Fs → FpL Φ η H l Fs → Q vs H'
def PVs (G : Gx) (X : Cx) (es : List Expr) (c : Exs) : Prop := PA X es (tEs G c)
end VS

end
section
set_option Elab.async false
set_option linter.all false
set_option maxRecDepth 100000
set_option maxHeartbeats 1000000
/-! The rules: an expression of the text does what its function tells. -/
namespace VS
open PySem PySem.Spec PyProof.Rows L2
section
variable {G : Gx} {X : Cx} {a b c : Expr} {ca cb cc : Ex} {pos : Pos}

/-! ### names, written values -/
theorem pv_int {i j pos} : PV G X (.Constant (.int i) j pos) (eC (.int i)) := PE.weak pe_int fun σ H Q ⟨Φ, η, m, r, s, e, k⟩ => by
  cases (show some (Md.fr, T.int i) = some (m, r) from e)
  exact k _ _ _ (Same.refl _) (.int i) Fp.nil
theorem pv_bl {i j pos} : PV G X (.Constant (.bool i) j pos) (eC (.bl i)) := PE.weak pe_bl fun σ H Q ⟨Φ, η, m, r, s, e, k⟩ => by
  cases (show some (Md.fr, T.bl i) = some (m, r) from e)
  exact k _ _ _ (Same.refl _) (.bl i) Fp.nil
theorem pv_str {x : Str} {t : Tx} {j pos} (h : x = sx t := by decide +kernel) (hl : TxOk t := by decide) : PV G X (.Constant (.str x) j pos) (eC (.str t)) := PE.weak pe_str fun σ H Q ⟨Φ, η, m, r, s, e, k⟩ => by
  cases (show some (Md.fr, T.str t) = some (m, r) from e)
  subst h
  exact k _ _ _ (Same.refl _) (.str t hl) Fp.nil
theorem pv_var (i : Nat) {x : Str} {pos : Pos} (hN : X.N[i]? = some x := by rfl) (hv : Vis X.env.scope x := by first | exact Or.inl rfl | exact Or.inr (Or.inl rfl) | exact Or.inr (Or.inr rfl)) (hd : (x == ("__debug__" : Str)) = false := by decide)
    (hcd : (x == ("__classdict__" : Str)) = false := by decide) : PV G X (.Name x pos) (eVar i) := PE.weak (pe_var hN hv hd hcd) fun σ H Q ⟨Φ, η, m, r, s, e, k⟩ => by
  unfold eVar at e
  split at e
  · rename_i t h
    obtain ⟨v, h1, h2⟩ := s.rp _ _ h
    have e' : VS.up .pu t = (m, r) := Option.some.inj e
    have er : t = r := congrArg Prod.snd e'
    have em : (VS.up .pu t).1 = m := congrArg Prod.fst e'
    rw [← er, ← em] at k
    refine ⟨v, h1, k v H (Φ i) (Same.refl _) h2 ?_⟩
    have f : Fp Φ η H .pu (Φ i) := fun a ha => .inr ⟨i, _, h, ha⟩
    exact f.up h2
  · rename_i t h
    obtain ⟨v, h1, h2⟩ := s.rp _ _ h
    cases e
    exact ⟨v, h1, k v H (Φ i) (Same.refl _) h2 fun a ha => .inr (.inr ⟨i, _, h, ha⟩)⟩
  · cases e
/-- a written value of the module -/
theorem pv_glob {x : Str} {u : Value} {v : V} {t : T} {pos : Pos} (hg : Gl X x) (hm : X.mg x = some u) (r : RelV v u) (hr : ∀ H, Rp G H v t []) (hd : (x == ("__debug__" : Str)) = false := by decide) : PV G X (.Name x pos) (eC t) :=
  PE.weak (pe_glob hg hm r hd) fun σ H Q ⟨Φ, η, m, t', s, e, k⟩ => by
    cases (show some (Md.fr, t) = some (m, t') from e)
    exact k _ _ _ (Same.refl _) (hr H) Fp.nil

/-! ### two operands -/
structure Two (G : Gx) (Φ : Fps) (η : VS.Env) (H0 H : Hp) (x y : Val) (u w : V) (F1 F2 : List Addr) : Prop where
  same : Same H0 H
  r1 : Rp G H u x.2 F1
  r2 : Rp G H w y.2 F2
  f1 : Fp Φ η H0 x.1 F1
  f2 : Fp Φ η H0 y.1 F2
  nd : x.1 = .fr → y.1 = .fr → (F1 ++ F2).Nodup
/-- the rule r does what f tells -/
def OpOk (G : Gx) (r : R2) (f : Val → Val → Option Val) : Prop := ∀ (Φ : Fps) (η : VS.Env) (H0 H : Hp) (x y : Val) (u w : V) (F1 F2 : List Addr) (m : Md) (t : T) (Q : VK), Two G Φ η H0 H x y u w F1 F2 → f x y = some (m, t) →
  (∀ v H' F, Same H H' → Rp G H' v t F → Fp Φ η H0 m F → Q v H') → r u w H Q
theorem two_of {σ : L2.St} {H : Hp} {Q : V → V → Hp → Prop} {Φ : Fps} {η : VS.Env} {x y : Val} (s : SR G Φ η σ H) (ea : ca η = some x) (eb : cb η = some y)
    (k : ∀ u w H2 F1 F2, Two G Φ η H H2 x y u w F1 F2 → Q u w H2) : tE G ca σ H fun u H1 => tE G cb σ H1 fun w H2 => Q u w H2 := by
  refine ⟨Φ, η, x.1, x.2, s, ea, fun u H1 F1 e1 r1 f1 => ⟨Φ, η, y.1, y.2, s.same e1, eb, fun w H2 F2 e2 r2 f2 => k u w H2 F1 F2 ⟨e1.trans e2, r1.same e2, r2, f1, f2.back e1, fun hx hy => ?_⟩⟩⟩
  rw [hx] at f1
  rw [hy] at f2
  refine List.nodup_append.mpr ⟨f1.1, f2.1, fun a ha b hb z => ?_⟩
  subst z
  exact Mut.ne_none (r1.dom a ha) (f2.2 a hb)
theorem tOp_of {r : R2} {f : Val → Val → Option Val} (ok : OpOk G r f) {σ : L2.St} {H : Hp} {Q : VK} (h : tE G (e2 f ca cb) σ H Q) : tOp r (tE G ca) (tE G cb) σ H Q := by
  obtain ⟨Φ, η, m, t, s, e, k⟩ := h
  unfold e2 at e
  obtain ⟨x, ea, e⟩ := Option.bind_eq_some_iff.mp e
  obtain ⟨y, eb, e⟩ := Option.bind_eq_some_iff.mp e
  exact two_of s ea eb fun u w H2 F1 F2 tw => ok Φ η H H2 x y u w F1 F2 m t Q tw e fun v H' F e1 r1 f1 => k v H' F (tw.same.trans e1) r1 f1
theorem pv_op {op : Operator} {r : R2} {f : Val → Val → Option Val} (ho : OpR X (binaryOp op) r) (ok : OpOk G r f) (ha : PV G X a ca) (hb : PV G X b cb) : PV G X (.BinOp a op b pos) (e2 f ca cb) :=
  PE.weak (pe_op ho ha hb) fun σ H Q h => tOp_of ok h
theorem pv_cmp {op : CmpOp} {r : R2} {f : Val → Val → Option Val} (ho : OpR X (compareOp op) r) (ok : OpOk G r f) (ha : PV G X a ca) (hb : PV G X b cb) (hm : behindInMarks op b = false) : PV G X (.Compare a [op] [b] pos) (e2 f ca cb) :=
  PE.weak (pe_cmpR ho ha hb hm) fun σ H Q h => tOp_of ok h
/-- what f tells is a truth -/
def Tells (f : Val → Val → Option Val) : Prop := ∀ x y m t, f x y = some (m, t) → ∃ b, t = .bl b
theorem Rp.bl_inv {H : Hp} {v : V} {b : Bool} {F : List Addr} (r : Rp G H v (.bl b) F) : v = .bl b := by cases r; rfl
theorem Rp.int_inv {H : Hp} {v : V} {b : Int} {F : List Addr} (r : Rp G H v (.int b) F) : v = .int b := by cases r; rfl
theorem Rp.str_inv {H : Hp} {v : V} {b : Tx} {F : List Addr} (r : Rp G H v (.str b) F) : v = .str (sx b) ∧ TxOk b := by cases r with | str _ h => exact ⟨rfl, h⟩
theorem tTest_of {c : Ex} {t : TE} {σ : L2.St} {H : Hp} {Q : Bool → Hp → Prop} (h : tT G c σ H Q) (ht : ∀ η m r, c η = some (m, r) → ∃ b, r = .bl b) (w : ∀ Q, tE G c σ H Q → t σ H Q) : tTest t σ H Q := by
  obtain ⟨Φ, η, m, r, b, s, e, eb, k⟩ := h
  refine w _ ⟨Φ, η, m, r, s, e, fun v H' F e1 r1 f1 => ?_⟩
  obtain ⟨b', er⟩ := ht η m r e
  rw [er] at eb r1
  cases (show some b' = some b from eb)
  exact ⟨_, r1.bl_inv, k H' e1⟩
theorem pvt_cmp {op : CmpOp} {r : R2} {f : Val → Val → Option Val} (ho : OpR X (compareOp op) r) (ok : OpOk G r f) (ht : Tells f) (ha : PV G X a ca) (hb : PV G X b cb) (hm : behindInMarks op b = false) : PVT G X (.Compare a [op] [b] pos) (e2 f ca cb) :=
  PT.weak (pt_cmpR ho ha hb hm) fun σ H Q h => tTest_of h (fun η m r e => by
    unfold e2 at e
    obtain ⟨x, _, e⟩ := Option.bind_eq_some_iff.mp e
    obtain ⟨y, _, e⟩ := Option.bind_eq_some_iff.mp e
    exact ht x y m r e) fun Q h => tOp_of ok h

/-! ### ints, texts, lists: the operations -/
theorem fin_of {Φ : Fps} {η : VS.Env} {H0 H : Hp} {m : Md} {t : T} {v : V} {Q : VK} (k : ∀ v H' F, Same H H' → Rp G H' v t F → Fp Φ η H0 m F → Q v H') (r : Rp G H v t []) : Q v H := k v H [] (Same.refl _) r Fp.nil
theorem same_new {H : Hp} {p : Addr} {o : HO} (h : H p = none) : Same H (upd H p o) := fun b o' e => by rw [upd_ne (ne_of_none e h)]; exact e
theorem Fp.new {Φ : Fps} {η : VS.Env} {H0 : Hp} {p : Addr} {F : List Addr} (h0 : H0 p = none) (hp : p ∉ F) : ∀ {m : Md}, Fp Φ η H0 m F → Fp Φ η H0 m (p :: F)
  | .fr, f => ⟨List.nodup_cons.mpr ⟨hp, f.1⟩, fun a m => (List.mem_cons.mp m).elim (fun e => by rw [e]; exact h0) (f.2 a)⟩
  | .pu, f => fun a m => (List.mem_cons.mp m).elim (fun e => by rw [e]; exact .inl h0) (f a)
  | .bo, f => fun a m => (List.mem_cons.mp m).elim (fun e => by rw [e]; exact .inl h0) (f a)
theorem mkL_inv {mj m : Md} {l : List T} {t : T} (e : mkL mj l = some (m, t)) : t = .lst l ∧ l.length ≤ LINE ∧ m = (if imms l then .fr else mj) := by
  unfold mkL at e
  split at e
  · rename_i h
    cases e
    exact ⟨rfl, h, rfl⟩
  · cases e
/-- a new list -/
theorem new_lst {Φ : Fps} {η : VS.Env} {H0 H : Hp} {mj m : Md} {l : List T} {t : T} {vs : List V} {Fs : List (List Addr)} {Q : VK} (same : Same H0 H) (e : mkL mj l = some (m, t)) (r : RpL G H vs l Fs) (f : Fp Φ η H0 mj Fs.flatten)
    (k : ∀ v H' F, Same H H' → Rp G H' v t F → Fp Φ η H0 m F → Q v H') : ∀ p, H p = none → Q (.ref p) (upd H p (.lst vs)) := by
  intro p hp
  obtain ⟨rfl, hl, rfl⟩ := mkL_inv e
  refine k _ _ _ (same_new hp) (.lst upd_same (r.same (same_new hp))) ?_
  have np : p ∉ Fs.flatten := fun m => Mut.ne_none (r.dom p m) hp
  by_cases hi : imms l = true
  · rw [hi, if_pos rfl]
    rw [r.imm hi] at np ⊢
    exact Fp.nil.new (same.free hp) np
  · rw [if_neg hi]
    exact f.new (same.free hp) np
theorem Two.join {Φ : Fps} {η : VS.Env} {H0 H : Hp} {x y : Val} {u w : V} {F1 F2 : List Addr} (tw : Two G Φ η H0 H x y u w F1 F2) {F : List Addr} (hF : F.Sublist (F1 ++ F2)) : Fp Φ η H0 (x.1.join y.1) F := by
  obtain ⟨same, r1, r2, f1, f2, nd⟩ := tw
  have split : ∀ a ∈ F, a ∈ F1 ∨ a ∈ F2 := fun a ha => List.mem_append.mp (hF.subset ha)
  obtain ⟨m1, x⟩ := x
  obtain ⟨m2, y⟩ := y
  have both : ∀ {P : Addr → Prop}, (∀ a ∈ F1, P a) → (∀ a ∈ F2, P a) → ∀ a ∈ F, P a := fun h1 h2 a ha => (split a ha).elim (h1 a) (h2 a)
  cases m1 <;> cases m2
  · exact ⟨(nd rfl rfl).sublist hF, both f1.2 f2.2⟩
  · exact both (fun a ha => .inl (f1.2 a ha)) f2
  · exact both (fun a ha => .inl (f1.2 a ha)) f2
  · exact both f1 (fun a ha => .inl (f2.2 a ha))
  · exact both f1 f2
  · exact both (f1.bo) f2
  · exact both f1 (fun a ha => .inl (f2.2 a ha))
  · exact both f1 (f2.bo)
  · exact both f1 f2
theorem LINE_eq : LINE = sizeLine := by decide
theorem sx_len (s : Tx) : (sx s).length = s.length := by simp [sx, Str.length]
theorem sx_app (s t : Tx) : sx s ++ sx t = sx (s ++ t) := by
  show Str.append (sx s) (sx t) = _
  simp [sx, Str.append]
theorem Rp.lst_inv {H : Hp} {v : V} {l : List T} {F : List Addr} (r : Rp G H v (.lst l) F) : ∃ a vs Fs, v = .ref a ∧ F = a :: Fs.flatten ∧ H a = some (.lst vs) ∧ RpL G H vs l Fs := by
  cases r with
  | lst h q => exact ⟨_, _, _, rfl, rfl, h, q⟩
theorem Rp.tup_inv {H : Hp} {v : V} {l : List T} {F : List Addr} (r : Rp G H v (.tup l) F) : ∃ a vs Fs, v = .ref a ∧ F = Fs.flatten ∧ H a = some (.tup vs) ∧ RpL G H vs l Fs := by
  cases r with
  | tup h q => exact ⟨_, _, _, rfl, rfl, h, q⟩
theorem Rp.scr_inv {H : Hp} {v : V} {l : List Int} {F : List Addr} (r : Rp G H v (.scr l) F) : ∃ a, v = .ref a ∧ F = [] ∧ ScrAt G.K H a l := by
  cases r with
  | scr h => exact ⟨_, rfl, rfl, h⟩
end

section
variable {G : Gx} {X : Cx}
def rAdd : R2 := fun x y H Q => rI0 (fun i j => .int (i + j)) x y H Q ∨ (∃ i j, x = .str i ∧ y = .str j ∧ i.length + j.length ≤ sizeLine ∧ Q (.str (i ++ j)) H) ∨ rCat x y H Q
theorem op_addA : OpR X (binaryOp .Add) rAdd := op_add.or (op_add_str.or op_cat)
theorem ok_add : OpOk G rAdd oAdd := by
  intro Φ η H0 H x y u w F1 F2 m t Q tw e k
  have jn := fun {F : List Addr} (h : List.Sublist F (F1 ++ F2)) => tw.join h
  obtain ⟨m1, x⟩ := x
  obtain ⟨m2, y⟩ := y
  obtain ⟨same, r1, r2, f1, f2, nd⟩ := tw
  unfold oAdd at e
  split at e
  · rename_i i _ j e1 e2
    cases e1
    cases e2
    cases e
    exact .inl ⟨_, _, r1.int_inv, r2.int_inv, fin_of k (.int _)⟩
  · rename_i s _ s' e1 e2
    cases e1
    cases e2
    split at e
    · rename_i hl
      cases e
      refine .inr (.inl ⟨_, _, r1.str_inv.1, r2.str_inv.1, by rw [sx_len, sx_len, ← LINE_eq]; exact hl, ?_⟩)
      rw [sx_app]
      exact fin_of k (.str _ ⟨by rw [List.length_append]; exact hl, fun c hc => (List.mem_append.mp hc).elim (r1.str_inv.2.2 c) (r2.str_inv.2.2 c)⟩)
    · cases e
  · rename_i s _ s' e1 e2
    cases e1
    cases e2
    obtain ⟨a, vs, Fs, rfl, rfl, ha, ra⟩ := r1.lst_inv
    obtain ⟨b, us, Gs, rfl, rfl, hb, rb⟩ := r2.lst_inv
    obtain ⟨_, hl, _⟩ := mkL_inv e
    refine .inr (.inr ⟨a, b, vs, us, rfl, rfl, ha, hb, ?_, new_lst same e (ra.append rb) (jn ?_) k⟩)
    · rw [List.length_append] at hl
      rw [ra.len.1, rb.len.1, ← LINE_eq]
      exact hl
    · rw [List.flatten_append]
      exact (List.sublist_cons_self _ _).append (List.sublist_cons_self _ _)
  · cases e

theorem ok_sub : OpOk G (rI0 fun i j => .int (i - j)) oSub := by
  intro Φ η H0 H x y u w F1 F2 m t Q tw e k
  obtain ⟨m1, x⟩ := x
  obtain ⟨m2, y⟩ := y
  obtain ⟨same, r1, r2, f1, f2, nd⟩ := tw
  unfold oSub at e
  split at e
  · rename_i e1 e2
    cases e1
    cases e2
    cases e
    exact ⟨_, _, r1.int_inv, r2.int_inv, fin_of k (.int _)⟩
  · cases e
theorem ok_fdiv : OpOk G (rI CDiv fun i j => .int (i / j)) oFdiv := by
  intro Φ η H0 H x y u w F1 F2 m t Q tw e k
  obtain ⟨m1, x⟩ := x
  obtain ⟨m2, y⟩ := y
  obtain ⟨same, r1, r2, f1, f2, nd⟩ := tw
  unfold oFdiv at e
  split at e
  · rename_i e1 e2
    cases e1
    cases e2
    split at e
    · rename_i h
      cases e
      exact ⟨_, _, r1.int_inv, r2.int_inv, h, fin_of k (.int _)⟩
    · cases e
  · cases e
theorem ok_mod : OpOk G (rI (fun _ j => 0 < j) fun i j => .int (i % j)) oMod := by
  intro Φ η H0 H x y u w F1 F2 m t Q tw e k
  obtain ⟨m1, x⟩ := x
  obtain ⟨m2, y⟩ := y
  obtain ⟨same, r1, r2, f1, f2, nd⟩ := tw
  unfold oMod at e
  split at e
  · rename_i e1 e2
    cases e1
    cases e2
    split at e
    · rename_i h
      cases e
      exact ⟨_, _, r1.int_inv, r2.int_inv, h, fin_of k (.int _)⟩
    · cases e
  · cases e
theorem ltx_eq : ∀ (s t : Tx), ltx s t = decide (s < t)
  | [], [] => by simp [ltx]
  | [], _ :: _ => by simp [ltx]
  | _ :: _, [] => by simp [ltx]
  | a :: s, b :: t => by
    unfold ltx
    rw [ltx_eq s t]
    by_cases h1 : a < b
    · simp [h1, List.cons_lt_cons_iff]
    · by_cases h2 : b < a
      · have : ¬ a = b := by omega
        simp [h1, h2, List.cons_lt_cons_iff, this]
      · have : a = b := by omega
        subst this
        simp [List.cons_lt_cons_iff]
def rLt : R2 := fun x y H Q => rI0 (fun i j => .bl (decide (i < j))) x y H Q ∨ (∃ i j, x = .str i ∧ y = .str j ∧ Q (.bl (decide (i.cps.toList < j.cps.toList))) H)
theorem op_ltA : OpR X (compareOp .Lt) rLt := op_lt.or op_lt_str
theorem ok_lt : OpOk G rLt oLt := by
  intro Φ η H0 H x y u w F1 F2 m t Q tw e k
  obtain ⟨m1, x⟩ := x
  obtain ⟨m2, y⟩ := y
  obtain ⟨same, r1, r2, f1, f2, nd⟩ := tw
  unfold oLt at e
  split at e
  · rename_i e1 e2
    cases e1
    cases e2
    cases e
    exact .inl ⟨_, _, r1.int_inv, r2.int_inv, fin_of k (.bl _)⟩
  · rename_i s _ s' e1 e2
    cases e1
    cases e2
    cases e
    refine .inr ⟨_, _, r1.str_inv.1, r2.str_inv.1, ?_⟩
    have : decide ((sx s).cps.toList < (sx s').cps.toList) = ltx s s' := by rw [ltx_eq]; exact decide_eq_decide.mpr (by simp [sx])
    rw [this]
    exact fin_of k (.bl _)
  · cases e
theorem tells_lt : Tells oLt := by
  intro x y m t e
  unfold oLt at e
  split at e <;> first | (cases e; exact ⟨_, rfl⟩) | cases e

theorem B64_eq : B64 = 2 ^ 64 := by decide
theorem ok_mul : OpOk G (rI CMul fun i j => .int (i * j)) oMul := by
  intro Φ η H0 H x y u w F1 F2 m t Q tw e k
  obtain ⟨m1, x⟩ := x
  obtain ⟨m2, y⟩ := y
  obtain ⟨same, r1, r2, f1, f2, nd⟩ := tw
  unfold oMul at e
  split at e
  · rename_i e1 e2
    cases e1
    cases e2
    split at e
    · rename_i h
      cases e
      refine ⟨_, _, r1.int_inv, r2.int_inv, ?_, fin_of k (.int _)⟩
      rw [B64_eq] at h
      exact h
    · cases e
  · cases e
theorem op_le_str : OpR X (compareOp .LtE) (fun x y H Q => ∃ i j, x = .str i ∧ y = .str j ∧ Q (.bl (!decide (j.cps.toList < i.cps.toList))) H) := by
  intro pins s σ H x y v u Q I rx ry h
  obtain ⟨i, j, rfl, rfl, q⟩ := h
  obtain ⟨t, rfl⟩ := rx
  obtain ⟨t', rfl⟩ := ry
  exact PySem.P.le_str ⟨.bl _, H, I, rfl, q⟩
def rLe : R2 := fun x y H Q => rI0 (fun i j => .bl (decide (i ≤ j))) x y H Q ∨ (∃ i j, x = .str i ∧ y = .str j ∧ Q (.bl (!decide (j.cps.toList < i.cps.toList))) H)
theorem op_leA : OpR X (compareOp .LtE) rLe := op_le.or op_le_str
theorem ok_le : OpOk G rLe oLe := by
  intro Φ η H0 H x y u w F1 F2 m t Q tw e k
  obtain ⟨m1, x⟩ := x
  obtain ⟨m2, y⟩ := y
  obtain ⟨same, r1, r2, f1, f2, nd⟩ := tw
  unfold oLe at e
  split at e
  · rename_i e1 e2
    cases e1
    cases e2
    cases e
    exact .inl ⟨_, _, r1.int_inv, r2.int_inv, fin_of k (.bl _)⟩
  · rename_i s _ s' e1 e2
    cases e1
    cases e2
    cases e
    refine .inr ⟨_, _, r1.str_inv.1, r2.str_inv.1, ?_⟩
    have : decide ((sx s').cps.toList < (sx s).cps.toList) = ltx s' s := by rw [ltx_eq]; exact decide_eq_decide.mpr (by simp [sx])
    rw [this]
    exact fin_of k (.bl _)
  · cases e
theorem ixP_eq {n : Nat} {i : Int} : ixP n i = ixN n i := by
  unfold ixP ixN
  by_cases h : 0 ≤ i
  · rw [if_pos h, if_pos h]
  · rw [if_neg h, if_neg h]
    by_cases h2 : 0 ≤ i + n
    · rw [if_pos h2, if_pos (by omega)]
    · rw [if_neg h2, if_neg (by omega)]
theorem atI_of {α : Type} {l : List α} {i : Int} {k : Nat} {x : α} (h1 : ixP l.length i = some k) (h2 : l[k]? = some x) : atI l i = some x := by
  unfold atI
  rw [← ixP_eq, h1]
  exact h2
theorem mem_flat {Fs : List (List Addr)} {F : List Addr} {i : Nat} (h : Fs[i]? = some F) : F.Sublist Fs.flatten := by
  obtain ⟨hi, rfl⟩ := List.getElem?_eq_some_iff.mp h
  exact List.sublist_flatten_of_mem (List.getElem_mem hi)
theorem Fp.sub {Φ : Fps} {η : VS.Env} {H : Hp} {F F' : List Addr} (h : F.Sublist F') : ∀ {m : Md}, Fp Φ η H m F' → Fp Φ η H m F
  | .fr, f => ⟨f.1.sublist h, fun a ha => f.2 a (h.subset ha)⟩
  | .pu, f => fun a ha => f a (h.subset ha)
  | .bo, f => fun a ha => f a (h.subset ha)
theorem ok_idx : OpOk G (rIx G.K) oIdx := by
  intro Φ η H0 H x y u w F1 F2 m t Q tw e k
  obtain ⟨m1, x⟩ := x
  obtain ⟨m2, y⟩ := y
  obtain ⟨same, r1, r2, f1, f2, nd⟩ := tw
  unfold oIdx at e
  split at e
  · rename_i m3 l m4 i e1 e2
    cases e1
    cases e2
    obtain ⟨j, h1, e⟩ := Option.bind_eq_some_iff.mp e
    obtain ⟨x, h2, e⟩ := Option.map_eq_some_iff.mp e
    obtain ⟨a, vs, Fs, rfl, rfl, ha, ra⟩ := r1.lst_inv
    obtain ⟨v, F, g1, g2, g3⟩ := ra.get j h2
    refine .inl ⟨a, vs, i, v, rfl, r2.int_inv, SqL.of ha, atI_of (by rw [ra.len.1]; exact h1) g1, ?_⟩
    have f := ((f1.sub (List.sublist_cons_self _ _)).sub (mem_flat g2)).up g3
    unfold VS.sub at e
    rw [e] at f
    have et : x = t := congrArg Prod.snd e
    rw [et] at g3
    exact k v H F (Same.refl _) g3 f
  · rename_i m3 l m4 i e1 e2
    cases e1
    cases e2
    obtain ⟨j, h1, e⟩ := Option.bind_eq_some_iff.mp e
    obtain ⟨x, h2, e⟩ := Option.map_eq_some_iff.mp e
    obtain ⟨a, vs, Fs, rfl, rfl, ha, ra⟩ := r1.tup_inv
    obtain ⟨v, F, g1, g2, g3⟩ := ra.get j h2
    refine .inr (.inl ⟨a, vs, i, v, rfl, r2.int_inv, SqT.of ha, atI_of (by rw [ra.len.1]; exact h1) g1, ?_⟩)
    have f := (f1.sub (mem_flat g2)).up g3
    unfold VS.sub at e
    rw [e] at f
    have et : x = t := congrArg Prod.snd e
    rw [et] at g3
    exact k v H F (Same.refl _) g3 f
  · rename_i m3 l m4 i e1 e2
    cases e1
    cases e2
    obtain ⟨j, h1, e⟩ := Option.bind_eq_some_iff.mp e
    obtain ⟨x, h2, e⟩ := Option.map_eq_some_iff.mp e
    cases e
    obtain ⟨a, rfl, rfl, sa⟩ := r1.scr_inv
    refine .inl ⟨a, l.map V.int, i, .int x, rfl, r2.int_inv, sa.seq, atI_of (by rw [List.length_map]; exact h1) (by rw [List.getElem?_map, h2]; rfl), fin_of k (.int _)⟩
  · rename_i m3 l m4 i e1 e2
    cases e1
    cases e2
    obtain ⟨j, h1, e⟩ := Option.bind_eq_some_iff.mp e
    obtain ⟨x, h2, e⟩ := Option.map_eq_some_iff.mp e
    cases e
    obtain ⟨rfl, hl⟩ := r1.str_inv
    refine .inr (.inr ⟨sx l, i, x, rfl, r2.int_inv, by rw [sx_len, ← LINE_eq]; exact hl.1, atI_of (k := j) (by simpa [sx] using h1) (by simpa [sx] using h2), ?_⟩)
    exact fin_of k (.str [x] ⟨by show 1 ≤ LINE; decide, fun c hc => by rw [List.mem_singleton.mp hc]; exact hl.2 x (List.mem_of_getElem? h2)⟩)
  · cases e
end
end VS

end
section
set_option Elab.async false
set_option linter.all false
set_option maxRecDepth 100000
set_option maxHeartbeats 1000000
namespace VS
open PySem PySem.Spec PyProof.Rows L2
section
variable {G : Gx} {X : Cx} {a b c e : Expr} {es : List Expr} {ca cb cc : Ex} {cs : Exs} {pos p : Pos}

/-! ### arguments -/
theorem mem_frs {x : Addr} : ∀ {l : List Val} {Fs : List (List Addr)}, x ∈ frs l Fs → ∃ (i : Nat) (v : Val) (F : List Addr), l[i]? = some v ∧ v.1 = .fr ∧ Fs[i]? = some F ∧ x ∈ F
  | [], _, h => by simp [frs] at h
  | _ :: _, [], h => by simp [frs] at h
  | v :: l, F :: Fs, h => by
    have go : x ∈ frs l Fs → ∃ (i : Nat) (u : Val) (F' : List Addr), (v :: l)[i]? = some u ∧ u.1 = .fr ∧ (F :: Fs)[i]? = some F' ∧ x ∈ F' := fun m => by
      obtain ⟨i, u, F', h1, h2, h3, h4⟩ := mem_frs m
      exact ⟨i + 1, u, F', by simpa using h1, h2, by simpa using h3, h4⟩
    unfold frs at h
    split at h
    · rename_i hv
      rcases List.mem_append.mp h with h | h
      · exact ⟨0, v, F, rfl, hv, rfl, h⟩
      · exact go h
    · exact go h
theorem pvs_nil : PVs G X [] xNil := PA.weak pa_nil fun σ H Q ⟨Φ, η, l, s, e, k⟩ => by
  cases (show some ([] : List Val) = some l from e)
  exact k [] H [] (Same.refl _) .nil ⟨fun i v F h => by simp at h, by simp [frs]⟩
theorem pvs_cons (ha : PV G X e ca) (hr : PVs G X es cs) (hs : starEach (e :: es) X.env = (false, eval e X.env) :: starEach es X.env := by rfl) : PVs G X (e :: es) (xCons ca cs) := PA.weak (pa_cons ha hr hs) fun σ H Q ⟨Φ, η, l, s, e, k⟩ => by
  unfold xCons at e
  obtain ⟨x, ea, e⟩ := Option.bind_eq_some_iff.mp e
  obtain ⟨xs, er, e⟩ := Option.bind_eq_some_iff.mp e
  cases e
  refine ⟨Φ, η, x.1, x.2, s, ea, fun v H1 F e1 r1 f1 => ⟨Φ, η, xs, s.same e1, er, fun vs H2 Fs e2 r2 f2 => k (v :: vs) H2 (F :: Fs) (e1.trans e2) (.cons (r1.same e2) r2) ⟨fun i u F' h1 h2 => ?_, ?_⟩⟩⟩
  · cases i with
    | zero =>
      cases (show some x = some u from h1)
      cases (show some F = some F' from h2)
      exact f1
    | succ i => exact (f2.each i u F' (by simpa using h1) (by simpa using h2)).back e1
  · unfold frs
    split
    · rename_i hx
      rw [hx] at f1
      refine List.nodup_append.mpr ⟨f1.1, f2.nd, fun y hy z hz q => ?_⟩
      subst q
      obtain ⟨i, u, F', h1, h2, h3, h4⟩ := mem_frs hz
      have f := f2.each i u F' h1 h3
      rw [h2] at f
      exact Mut.ne_none (r1.dom y hy) (f.2 y h4)
    · exact f2.nd
theorem joins_fr_all : ∀ {l : List Val}, joins l = .fr → ∀ v ∈ l, v.1 = .fr
  | [], _, v, h => by simp at h
  | (m, t) :: r, e, v, h => by
    have e' : m.join (joins r) = .fr := e
    have h1 : m = .fr := by
      revert e'
      cases m <;> cases joins r <;> simp [Md.join]
    have h2 : joins r = .fr := by
      revert e'
      cases m <;> cases joins r <;> simp [Md.join]
    rcases List.mem_cons.mp h with rfl | h
    · exact h1
    · exact joins_fr_all h2 v h
theorem joins_not_bo : ∀ {l : List Val}, joins l ≠ .bo → ∀ v ∈ l, v.1 ≠ .bo
  | [], _, v, h => by simp at h
  | (m, t) :: r, e, v, h => by
    have e' : m.join (joins r) ≠ .bo := e
    have h1 : m ≠ .bo := by
      revert e'
      cases m <;> cases joins r <;> simp [Md.join]
    have h2 : joins r ≠ .bo := by
      revert e'
      cases m <;> cases joins r <;> simp [Md.join]
    rcases List.mem_cons.mp h with rfl | h
    · exact h1
    · exact joins_not_bo h2 v h
theorem frs_all : ∀ {l : List Val} {Fs : List (List Addr)}, l.length = Fs.length → (∀ v ∈ l, v.1 = .fr) → frs l Fs = Fs.flatten
  | [], [], _, _ => rfl
  | [], _ :: _, h, _ => by simp at h
  | _ :: _, [], h, _ => by simp at h
  | v :: l, F :: Fs, h, q => by
    unfold frs
    rw [q v List.mem_cons_self, frs_all (by simpa using h) fun u hu => q u (List.mem_cons_of_mem _ hu)]
    rfl
theorem mem_flatten_ix {x : Addr} {Fs : List (List Addr)} (h : x ∈ Fs.flatten) : ∃ (i : Nat) (F : List Addr), Fs[i]? = some F ∧ x ∈ F := by
  obtain ⟨F, hF, hx⟩ := List.mem_flatten.mp h
  obtain ⟨i, hi⟩ := List.mem_iff_getElem?.mp hF
  exact ⟨i, F, hi, hx⟩
theorem FpL.join {Φ : Fps} {η : VS.Env} {H : Hp} {l : List Val} {Fs : List (List Addr)} (f : FpL Φ η H l Fs) (hl : l.length = Fs.length) : Fp Φ η H (joins l) Fs.flatten := by
  have at' : ∀ x ∈ Fs.flatten, ∃ v F, v ∈ l ∧ x ∈ F ∧ Fp Φ η H v.1 F := fun x hx => by
    obtain ⟨i, F, hi, hxF⟩ := mem_flatten_ix hx
    have : i < l.length := by
      have := (List.getElem?_eq_some_iff.mp hi).1
      omega
    exact ⟨l[i], F, List.getElem_mem this, hxF, f.each i _ F (List.getElem?_eq_getElem this) hi⟩
  cases e : joins l with
  | fr =>
    have al := joins_fr_all e
    refine ⟨by rw [← frs_all hl al]; exact f.nd, fun x hx => ?_⟩
    obtain ⟨v, F, hv, hxF, q⟩ := at' x hx
    rw [al v hv] at q
    exact q.2 x hxF
  | pu =>
    have al := joins_not_bo (l := l) (by rw [e]; decide)
    intro x hx
    obtain ⟨v, F, hv, hxF, q⟩ := at' x hx
    exact Fp.pu (al v hv) q x hxF
  | bo =>
    intro x hx
    obtain ⟨v, F, hv, hxF, q⟩ := at' x hx
    exact q.bo x hxF
structure Args (G : Gx) (Φ : Fps) (η : VS.Env) (H0 H : Hp) (l : List Val) (vs : List V) (Fs : List (List Addr)) : Prop where
  same : Same H0 H
  rp : RpL G H vs (trees l) Fs
  fp : FpL Φ η H0 l Fs
theorem Args.len {Φ : Fps} {η : VS.Env} {H0 H : Hp} {l : List Val} {vs : List V} {Fs : List (List Addr)} (A : Args G Φ η H0 H l vs Fs) : l.length = Fs.length := by
  have := A.rp.len.2
  simp [trees] at this
  omega
def CallOk (G : Gx) (r : List V → Hp → VK → Prop) (f : List Val → Option Val) : Prop := ∀ (Φ : Fps) (η : VS.Env) (H0 H : Hp) (l : List Val) (vs : List V) (Fs : List (List Addr)) (m : Md) (t : T) (Q : VK), Args G Φ η H0 H l vs Fs → f l = some (m, t) →
  (∀ v H' F, Same H H' → Rp G H' v t F → Fp Φ η H0 m F → Q v H') → r vs H Q
theorem tN_of {r : List V → Hp → VK → Prop} {f : List Val → Option Val} (ok : CallOk G r f) {σ : L2.St} {H : Hp} {Q : VK} {η : VS.Env} {Φ : Fps} {l : List Val} {m : Md} {t : T} (s : SR G Φ η σ H) (el : cs η = some l) (e : f l = some (m, t))
    (k : ∀ v H' F, Same H H' → Rp G H' v t F → Fp Φ η H m F → Q v H') : tEs G cs σ H fun vs H1 => r vs H1 Q :=
  ⟨Φ, η, l, s, el, fun vs H' Fs e1 r1 f1 => ok Φ η H H' l vs Fs m t Q ⟨e1, r1, f1⟩ e fun v H2 F e2 r2 f2 => k v H2 F (e1.trans e2) r2 f2⟩
/-- a built-in function, a built-in type, called -/
theorem pv_callB {r : List V → Hp → VK → Prop} {f : List Val → Option Val} {id : String} {x : Str} (hc : CallR X (.builtin id) r) (ok : CallOk G r f) (hg : Gl X x) (hm : X.mg x = none) (hv : bootBuiltins x = some (.builtin id)) (ha : PVs G X (e :: es) cs)
    (hn : x ≠ "__name__" := by decide) (hdb : (x == ("__debug__" : Str)) = false := by decide)
    (he : starEach (e :: es) X.env = (false, eval e X.env) :: starEach es X.env := by rfl) (hpl : (backTo pos (starEach es X.env)).any (·.1) = false := by rfl) : PV G X (.Call (.Name x p) (e :: es) [] pos) (eN f cs) :=
  PE.weak (pe_callB hc hg hm hv ha hn hdb he hpl) fun σ H Q ⟨Φ, η, m, t, s, e, k⟩ => by
    unfold eN at e
    obtain ⟨l, el, e⟩ := Option.bind_eq_some_iff.mp e
    exact tN_of ok s el e k
theorem pv_callTy {r : List V → Hp → VK → Prop} {f : List Val → Option Val} {Ty : String} {x : Str} (hc : CallR X (.type Ty) r) (ok : CallOk G r f) (hg : Gl X x) (hm : X.mg x = none) (hv : bootBuiltins x = some (.type Ty)) (ha : PVs G X (e :: es) cs)
    (hn : x ≠ "__name__" := by decide) (hdb : (x == ("__debug__" : Str)) = false := by decide)
    (he : starEach (e :: es) X.env = (false, eval e X.env) :: starEach es X.env := by rfl) (hpl : (backTo pos (starEach es X.env)).any (·.1) = false := by rfl) : PV G X (.Call (.Name x p) (e :: es) [] pos) (eN f cs) :=
  PE.weak (pe_callTy hc hg hm hv ha hn hdb he hpl) fun σ H Q ⟨Φ, η, m, t, s, e, k⟩ => by
    unfold eN at e
    obtain ⟨l, el, e⟩ := Option.bind_eq_some_iff.mp e
    exact tN_of ok s el e k
theorem pv_lst (h : PVs G X es cs) : PV G X (.List es pos) (eLst cs) := PE.weak (pe_lst h) fun σ H Q ⟨Φ, η, m, t, s, e, k⟩ => by
  unfold eLst at e
  obtain ⟨l, el, e⟩ := Option.bind_eq_some_iff.mp e
  refine ⟨Φ, η, l, s, el, fun vs H' Fs e1 r1 f1 => ?_⟩
  have A : Args G Φ η H H' l vs Fs := ⟨e1, r1, f1⟩
  obtain ⟨_, hl, _⟩ := mkL_inv e
  refine ⟨by rw [r1.len.1, ← LINE_eq]; exact hl, new_lst e1 e r1 (f1.join A.len) fun v H2 F e2 r2 f2 => k v H2 F (e1.trans e2) r2 f2⟩
/-! ### tests -/
theorem truV_of {H : Hp} {v : V} {t : T} {F : List Addr} {k : Bool} (r : Rp G H v t F) (h : tru t = some k) : TruV G.K v H k := by
  cases r with
  | non => cases h; rfl
  | bl b => cases h; rfl
  | int i => cases h; rfl
  | str s hl =>
    cases h
    refine ⟨by rw [sx_len, ← LINE_eq]; exact hl.1, ?_⟩
    rw [sx_len]
    cases s with
    | nil => rfl
    | cons a r =>
      have : ((List.length (a :: r) : Int) != 0) = true := by simp; omega
      rw [this]
      rfl
  | scr h' => simp [tru] at h
  | tup h' q =>
    cases h
    refine .inr (.inl ⟨_, SqT.of h', ?_⟩)
    have := q.len.1
    rename_i vs ts _
    cases vs <;> cases ts <;> simp_all
  | lst h' q =>
    cases h
    refine .inl ⟨_, SqL.of h', ?_⟩
    have := q.len.1
    rename_i vs ts _
    cases vs <;> cases ts <;> simp_all
  | dct h' hl q =>
    cases h
    refine .inr (.inr ⟨_, h', ?_⟩)
    have := q.len.1
    rename_i ks vs ts _
    cases ks <;> cases vs <;> cases ts <;> simp_all
  | dctT h' hl q => simp [tru] at h
  | obj h' hl q => simp [tru] at h
theorem pvt_val (h : PV G X a ca) (hK : X.K = G.K := by rfl) (he : ∀ whole, isTrue a X.env whole = (do let v ← whole; standAt a.pos; holding [v] (truthy v)) := by intro _; rfl) : PVT G X a ca :=
  PT.weak (pt_truth h he) fun σ H Q ⟨Φ, η, m, r, b, s, e, eb, k⟩ => ⟨Φ, η, m, r, s, e, fun v H' F e1 r1 f1 => ⟨b, by rw [hK]; exact truV_of r1 eb, k H' e1⟩⟩
def PVW (G : Gx) (X : Cx) (e : Expr) (c : Ex) : Prop := PW X e (tT G c)
theorem PW.weak {X : Cx} {e : Expr} {t t' : TT} (h : PW X e t) (w : ∀ σ H Q, t' σ H Q → t σ H Q) : PW X e t' := fun wh pins s σ H Q I q => h wh pins s σ H Q I (w σ H Q q)
theorem PVW.pvt (h : PVW G X e ca) : PVT G X e ca := PW.pt h
variable {rest : List Expr}
theorem pvw_and1 (ha : PVT G X a ca) : PVW G X (.BoolOp .And [a] pos) ca := pw_and1 ha
theorem pvw_or1 (ha : PVT G X a ca) : PVW G X (.BoolOp .Or [a] pos) ca := pw_or1 ha
theorem eAnd_inv {η : VS.Env} {m : Md} {r : T} (e : eAnd ca cb η = some (m, r)) : (∃ n, ca η = some (n, .bl true) ∧ cb η = some (m, r)) ∨ (∃ n, ca η = some (n, .bl false) ∧ m = .fr ∧ r = .bl false) := by
  unfold eAnd at e
  obtain ⟨⟨n, x⟩, ea, e⟩ := Option.bind_eq_some_iff.mp e
  split at e
  · rename_i h
    cases (show x = .bl true from h)
    exact .inl ⟨n, ea, e⟩
  · rename_i h
    cases (show x = .bl false from h)
    cases e
    exact .inr ⟨n, ea, rfl, rfl⟩
  · cases e
theorem eOr_inv {η : VS.Env} {m : Md} {r : T} (e : eOr ca cb η = some (m, r)) : (∃ n, ca η = some (n, .bl false) ∧ cb η = some (m, r)) ∨ (∃ n, ca η = some (n, .bl true) ∧ m = .fr ∧ r = .bl true) := by
  unfold eOr at e
  obtain ⟨⟨n, x⟩, ea, e⟩ := Option.bind_eq_some_iff.mp e
  split at e
  · rename_i h
    cases (show x = .bl true from h)
    cases e
    exact .inr ⟨n, ea, rfl, rfl⟩
  · rename_i h
    cases (show x = .bl false from h)
    exact .inl ⟨n, ea, e⟩
  · cases e
theorem pvw_and (ha : PVT G X a ca) (hb : PVW G X (.BoolOp .And (b :: rest) pos) cb) : PVW G X (.BoolOp .And (a :: b :: rest) pos) (eAnd ca cb) :=
  PW.weak (pw_and ha hb) fun σ H Q ⟨Φ, η, m, r, k, s, e, eb, q⟩ => by
    rcases eAnd_inv e with ⟨n, ea, e2⟩ | ⟨n, ea, rfl, rfl⟩
    · refine ⟨Φ, η, n, _, true, s, ea, rfl, fun H' e1 => ?_⟩
      refine iteT ?_
      exact ⟨Φ, η, m, r, k, s.same e1, e2, eb, fun H2 e2 => q H2 (e1.trans e2)⟩
    · refine ⟨Φ, η, n, _, false, s, ea, rfl, fun H' e1 => ?_⟩
      refine iteF ?_
      cases eb
      exact q H' e1
theorem pvw_or (ha : PVT G X a ca) (hb : PVW G X (.BoolOp .Or (b :: rest) pos) cb) : PVW G X (.BoolOp .Or (a :: b :: rest) pos) (eOr ca cb) :=
  PW.weak (pw_or ha hb) fun σ H Q ⟨Φ, η, m, r, k, s, e, eb, q⟩ => by
    rcases eOr_inv e with ⟨n, ea, e2⟩ | ⟨n, ea, rfl, rfl⟩
    · refine ⟨Φ, η, n, _, false, s, ea, rfl, fun H' e1 => ?_⟩
      refine iteF ?_
      exact ⟨Φ, η, m, r, k, s.same e1, e2, eb, fun H2 e2 => q H2 (e1.trans e2)⟩
    · refine ⟨Φ, η, n, _, true, s, ea, rfl, fun H' e1 => ?_⟩
      refine iteT ?_
      cases eb
      exact q H' e1
theorem eNot_inv {η : VS.Env} {m : Md} {r : T} (e : eNot ca η = some (m, r)) : ∃ n b, ca η = some (n, .bl b) ∧ m = .fr ∧ r = .bl (!b) := by
  unfold eNot at e
  obtain ⟨⟨n, x⟩, ea, e⟩ := Option.bind_eq_some_iff.mp e
  split at e
  · rename_i b h
    cases (show x = .bl b from h)
    cases e
    exact ⟨n, b, ea, rfl, rfl⟩
  · cases e
theorem pvt_not (ha : PVT G X a ca) : PVT G X (.UnaryOp .Not a pos) (eNot ca) := PT.weak (pt_not ha) fun σ H Q ⟨Φ, η, m, r, k, s, e, eb, q⟩ => by
  obtain ⟨n, b, ea, rfl, rfl⟩ := eNot_inv e
  cases eb
  exact ⟨Φ, η, n, _, b, s, ea, rfl, fun H' e1 => q H' e1⟩
theorem pv_one {op} (h : PV G X a ca) : PV G X (.BoolOp op [a] pos) ca := pe_one h
theorem pv_and (ha : PV G X a ca) (hb : PV G X (.BoolOp .And (b :: rest) pos) cb) : PV G X (.BoolOp .And (a :: b :: rest) pos) (eAnd ca cb) :=
  PE.weak (pe_and ha hb) fun σ H Q ⟨Φ, η, m, r, s, e, q⟩ => by
    rcases eAnd_inv e with ⟨n, ea, e2⟩ | ⟨n, ea, rfl, rfl⟩
    · refine ⟨Φ, η, n, _, s, ea, fun v H' F e1 r1 f1 => ⟨true, r1.bl_inv, ?_⟩⟩
      refine iteT ?_
      exact ⟨Φ, η, m, r, s.same e1, e2, fun v H2 F e2 r2 f2 => q v H2 F (e1.trans e2) r2 (f2.back e1)⟩
    · refine ⟨Φ, η, n, _, s, ea, fun v H' F e1 r1 f1 => ⟨false, r1.bl_inv, ?_⟩⟩
      refine iteF ?_
      exact q _ H' _ e1 (.bl _) Fp.nil
theorem pv_or (ha : PV G X a ca) (hb : PV G X (.BoolOp .Or (b :: rest) pos) cb) : PV G X (.BoolOp .Or (a :: b :: rest) pos) (eOr ca cb) :=
  PE.weak (pe_or ha hb) fun σ H Q ⟨Φ, η, m, r, s, e, q⟩ => by
    rcases eOr_inv e with ⟨n, ea, e2⟩ | ⟨n, ea, rfl, rfl⟩
    · refine ⟨Φ, η, n, _, s, ea, fun v H' F e1 r1 f1 => ⟨false, r1.bl_inv, ?_⟩⟩
      refine iteF ?_
      exact ⟨Φ, η, m, r, s.same e1, e2, fun v H2 F e2 r2 f2 => q v H2 F (e1.trans e2) r2 (f2.back e1)⟩
    · refine ⟨Φ, η, n, _, s, ea, fun v H' F e1 r1 f1 => ⟨true, r1.bl_inv, ?_⟩⟩
      refine iteT ?_
      exact q _ H' _ e1 (.bl _) Fp.nil
theorem pv_if (hc : PVT G X c cc) (ha : PV G X a ca) (hb : PV G X b cb) : PV G X (.IfExp c a b pos) (eIf cc ca cb) :=
  PE.weak (pe_ifExp hc ha hb) fun σ H Q ⟨Φ, η, m, r, s, e, q⟩ => by
    unfold eIf at e
    obtain ⟨⟨n, x⟩, ec, e⟩ := Option.bind_eq_some_iff.mp e
    obtain ⟨k, ek, e⟩ := Option.bind_eq_some_iff.mp e
    refine ⟨Φ, η, n, x, k, s, ec, ek, fun H' e1 => ?_⟩
    cases k with
    | true =>
      rw [if_pos rfl] at e
      refine iteT ?_
      exact ⟨Φ, η, m, r, s.same e1, e, fun v H2 F e2 r2 f2 => q v H2 F (e1.trans e2) r2 (f2.back e1)⟩
    | false =>
      rw [if_neg Bool.false_ne_true] at e
      refine iteF ?_
      exact ⟨Φ, η, m, r, s.same e1, e, fun v H2 F e2 r2 f2 => q v H2 F (e1.trans e2) r2 (f2.back e1)⟩
end
end VS

end
section
set_option Elab.async false
set_option linter.all false
set_option maxRecDepth 100000
set_option maxHeartbeats 1000000
namespace VS
open PySem PySem.Spec PyProof.Rows L2
section
variable {G : Gx} {X : Cx} {a b c e : Expr} {es : List Expr} {ca cb cc : Ex} {cs : Exs} {pos p : Pos}

/-! ### len, min, max, list, isinstance -/
theorem RpL.one {H : Hp} {vs : List V} {t : T} {Fs : List (List Addr)} (r : RpL G H vs [t] Fs) : ∃ v F, vs = [v] ∧ Fs = [F] ∧ Rp G H v t F := by
  cases r with
  | cons r q => cases q; exact ⟨_, _, rfl, rfl, r⟩
theorem RpL.two {H : Hp} {vs : List V} {t t' : T} {Fs : List (List Addr)} (r : RpL G H vs [t, t'] Fs) : ∃ v v' F F', vs = [v, v'] ∧ Fs = [F, F'] ∧ Rp G H v t F ∧ Rp G H v' t' F' := by
  cases r with
  | cons r q =>
    obtain ⟨v', F', rfl, rfl, r'⟩ := q.one
    exact ⟨_, _, _, _, rfl, rfl, r, r'⟩
def rLen (K : PySem.W.Frag) : List V → Hp → VK → Prop := fun xs H Q => (∃ x n, xs = [x] ∧ LenV K x H n ∧ Q (.int n) H) ∨ (∃ a kvs, xs = [V.ref a] ∧ H a = some (.dK kvs) ∧ Q (.int kvs.length) H)
theorem call_lenD' : CallR X (.builtin "len") (fun xs H Q => ∃ a kvs, xs = [V.ref a] ∧ H a = some (.dK kvs) ∧ Q (.int kvs.length) H) := by
  intro pins s σ H xs us Q I r h
  obtain ⟨a, kvs, rfl, ha, q⟩ := h
  obtain ⟨u, rfl, ru⟩ := vals1 r
  cases ru
  exact d_len I (.inl ha) fun t s' I' => ⟨.int kvs.length, H, I', ⟨t, rfl⟩, q⟩
theorem call_lenA : CallR X (.builtin "len") (rLen X.K) := call_len.or call_lenD'
theorem ok_len : CallOk G (rLen G.K) bLen := by
  intro Φ η H0 H l vs Fs m t Q A e k
  unfold bLen at e
  split at e
  · rename_i x
    obtain ⟨mx, x⟩ := x
    obtain ⟨n, en, e⟩ := Option.map_eq_some_iff.mp e
    cases e
    obtain ⟨v, F, rfl, rfl, r⟩ := (show RpL G H vs [x] Fs from A.rp).one
    have fin : Q (.int (n : Int)) H := fin_of k (.int _)
    cases r with
    | non => simp [lenT] at en
    | bl b => simp [lenT] at en
    | int i => simp [lenT] at en
    | str s hl =>
      cases en
      exact .inl ⟨_, _, rfl, ⟨by rw [sx_len, ← LINE_eq]; exact hl.1, rfl⟩, by rw [sx_len]; exact fin⟩
    | scr h =>
      cases en
      refine .inl ⟨_, _, rfl, .inl ⟨_, h.seq, rfl⟩, ?_⟩
      rw [List.length_map]
      exact fin
    | tup h q =>
      cases en
      refine .inl ⟨_, _, rfl, .inr ⟨_, SqT.of h, rfl⟩, ?_⟩
      rw [q.len.1]
      exact fin
    | lst h q =>
      cases en
      refine .inl ⟨_, _, rfl, .inl ⟨_, SqL.of h, rfl⟩, ?_⟩
      rw [q.len.1]
      exact fin
    | dct h hl q =>
      cases en
      refine .inr ⟨_, _, rfl, h, ?_⟩
      rename_i ks ws ts _
      have e1 := q.len.1
      rw [List.length_zip, List.length_map] at fin
      rw [List.length_zip, e1]
      exact fin
    | dctT h hl q => simp [lenT] at en
    | obj h hl q => simp [lenT] at en
  · cases e
theorem ok_max2 : CallOk G (fun xs H Q => ∃ i j, xs = [.int i, .int j] ∧ Q (.int (if j > i then j else i)) H) bMax2 := by
  intro Φ η H0 H l vs Fs m t Q A e k
  unfold bMax2 at e
  split at e
  · rename_i _ i _ j
    cases e
    obtain ⟨v, v', F, F', rfl, rfl, r, r'⟩ := (show RpL G H vs [.int i, .int j] Fs from A.rp).two
    exact ⟨i, j, by rw [r.int_inv, r'.int_inv], fin_of k (.int _)⟩
  · cases e
theorem ok_min2 : CallOk G (fun xs H Q => ∃ i j, xs = [.int i, .int j] ∧ Q (.int (if j < i then j else i)) H) bMin2 := by
  intro Φ η H0 H l vs Fs m t Q A e k
  unfold bMin2 at e
  split at e
  · rename_i _ i _ j
    cases e
    obtain ⟨v, v', F, F', rfl, rfl, r, r'⟩ := (show RpL G H vs [.int i, .int j] Fs from A.rp).two
    exact ⟨i, j, by rw [r.int_inv, r'.int_inv], fin_of k (.int _)⟩
  · cases e
def rList (K : PySem.W.Frag) : List V → Hp → VK → Prop := fun xs H Q => ∃ p ys, xs = [.ref p] ∧ (SqL K H p ys ∨ SqT K H p ys) ∧ ∀ l, H l = none → Q (.ref l) (upd H l (.lst ys))
/-- list of a list or tuple -/
theorem ok_list : CallOk G (rList G.K) bList := by
  intro Φ η H0 H l vs Fs m t Q A e k
  unfold bList at e
  split at e
  · rename_i mx x
    obtain ⟨v, F, rfl, rfl, rx⟩ := (show RpL G H vs [.lst x] Fs from A.rp).one
    obtain ⟨a, ys, Gs, rfl, rfl, ha, ra⟩ := rx.lst_inv
    have f := A.fp.each 0 _ _ rfl rfl
    exact ⟨a, ys, rfl, .inl (SqL.of ha), new_lst A.same e ra (f.sub (List.sublist_cons_self _ _)) k⟩
  · rename_i mx x
    obtain ⟨v, F, rfl, rfl, rx⟩ := (show RpL G H vs [.tup x] Fs from A.rp).one
    obtain ⟨a, ys, Gs, rfl, rfl, ha, ra⟩ := rx.tup_inv
    have f := A.fp.each 0 _ _ rfl rfl
    exact ⟨a, ys, rfl, .inr (SqT.of ha), new_lst A.same e ra f k⟩
  · cases e

/-! ### slices -/
def tO (G : Gx) (c : Option Ex) : TO := fun σ H Q => ∃ Φ η o, SR G Φ η σ H ∧ partI c η = some o ∧ ∀ H', Same H H' → Q o H'
def PVO (G : Gx) (X : Cx) (e : Option Expr) (c : Option Ex) : Prop := PO X e (tO G c)
theorem PO.weak {X : Cx} {e : Option Expr} {t t' : TO} (h : PO X e t) (w : ∀ σ H Q, t' σ H Q → t σ H Q) : PO X e t' := fun pins s σ H Q I q => h pins s σ H Q I (w σ H Q q)
theorem pvo_none : PVO G X none none := PO.weak po_none fun σ H Q ⟨Φ, η, o, s, e, k⟩ => by
  cases (show some (none : Option Int) = some o from e)
  exact k H (Same.refl _)
theorem pvo_some (h : PV G X a ca) : PVO G X (some a) (some ca) := PO.weak (po_some h) fun σ H Q ⟨Φ, η, o, s, e, k⟩ => by
  obtain ⟨⟨m, y⟩, ea, e⟩ := Option.bind_eq_some_iff.mp (show (ca η).bind (fun y => (int? y.2).map some) = some o from e)
  obtain ⟨i, ei, e⟩ := Option.map_eq_some_iff.mp e
  cases e
  refine ⟨Φ, η, m, y, s, ea, fun v H' F e1 r1 f1 => ?_⟩
  cases y with
  | int j =>
    cases ei
    exact ⟨_, r1.int_inv, k H' e1⟩
  | _ => cases ei
theorem cut_eq {α : Type} (l : List α) (lo hi : Option Int) : cut l lo hi = (l.drop (HT.sIx l.length 0 lo)).take (HT.sIx l.length l.length hi - HT.sIx l.length 0 lo) := by
  unfold cut
  cases lo <;> cases hi <;> rfl
theorem ssi_eq (lo hi : Option Int) (n : Nat) : Builtin.Str.strSliceIndices lo hi 1 n = Builtin.Str.strSliceIndices (some ((min (HT.sIx n 0 lo) n : Nat) : Int)) (some ((min (HT.sIx n n hi) n : Nat) : Int)) 1 n := by
  have e1 : ∀ k : Nat, ¬ ((k : Int) < 0) := fun k => by omega
  unfold Builtin.Str.strSliceIndices
  simp only [show (1 : Int) > 0 by decide, if_true, e1, if_false]
  congr 1
  · cases lo with
    | none => simp only [HT.sIx]; omega
    | some i =>
      simp only [HT.sIx]
      by_cases h : i < 0
      · simp only [h, if_true]; omega
      · simp only [h, if_false]; omega
  · cases hi with
    | none => simp only [HT.sIx]; omega
    | some i =>
      simp only [HT.sIx]
      by_cases h : i < 0
      · simp only [h, if_true]; omega
      · simp only [h, if_false]; omega
theorem sliceText_cut (s : Tx) (lo hi : Option Int) : PySem.StrLaws.sliceText (sx s) lo hi = sx (cut s lo hi) := by
  have key : PySem.StrLaws.sliceText (sx s) lo hi = PySem.StrLaws.sliceText (sx s) (some ((min (HT.sIx s.length 0 lo) s.length : Nat) : Int)) (some ((min (HT.sIx s.length s.length hi) s.length : Nat) : Int)) := by
    unfold PySem.StrLaws.sliceText
    rw [sx_len, ssi_eq]
  rw [key]
  have hd : ∀ a : Nat, s.drop (min a s.length) = s.drop a := fun a => by
    by_cases h : a ≤ s.length
    · rw [Nat.min_eq_left h]
    · rw [Nat.min_eq_right (by omega), List.drop_of_length_le (Nat.le_refl _), List.drop_of_length_le (by omega)]
  by_cases h : min (HT.sIx s.length 0 lo) s.length ≤ min (HT.sIx s.length s.length hi) s.length
  · rw [PySem.StrLaws.sliceText_nat (sx s) h (by rw [sx_len]; omega), cut_eq]
    show (⟨_⟩ : Str) = ⟨_⟩
    congr 2
    show ((sx s).cps.toList.drop _).take _ = _
    have : (sx s).cps.toList = s := by simp [sx]
    rw [this, hd]
    by_cases h2 : HT.sIx s.length 0 lo ≤ s.length
    · rw [Nat.min_eq_left h2]
      by_cases h3 : HT.sIx s.length s.length hi ≤ s.length
      · rw [Nat.min_eq_left h3]
      · rw [Nat.min_eq_right (by omega), List.take_of_length_le (by rw [List.length_drop]; omega), List.take_of_length_le (by rw [List.length_drop]; omega)]
    · rw [List.drop_of_length_le (by omega)]
      simp
  · have e0 : cut s lo hi = [] := by
      rw [cut_eq]
      have : HT.sIx s.length s.length hi - HT.sIx s.length 0 lo = 0 := by omega
      rw [this, List.take_zero]
    rw [e0]
    unfold PySem.StrLaws.sliceText
    have e2 : Builtin.Str.strSliceIndices (some ((min (HT.sIx s.length 0 lo) s.length : Nat) : Int)) (some ((min (HT.sIx s.length s.length hi) s.length : Nat) : Int)) 1 (sx s).length = [] := by
      have e1 : ∀ k : Nat, ¬ ((k : Int) < 0) := fun k => by omega
      unfold Builtin.Str.strSliceIndices sliceRange
      simp only [show (1 : Int) > 0 by decide, if_true, e1, if_false, sx_len]
      rw [if_neg (by omega)]
      rfl
    rw [e2]
    have : ¬ ((1 : Int) == 1 && ([] : List Nat).length == (sx s).length) = true := by
      rw [sx_len]
      simp
      omega
    rw [if_neg this]
    rfl
def rSlS : V → Option Int → Option Int → Hp → VK → Prop := fun x lo hi H Q => ∃ z, x = .str z ∧ z.length ≤ sizeLine ∧ Q (.str (PySem.StrLaws.sliceText z lo hi)) H
theorem part_of {v : Value} {o : Option Int} (h : IsPart v o) : ∃ q : Option (Int × Tok), v = partValue q ∧ o = q.map (·.1) := by
  cases h with
  | none => exact ⟨none, rfl, rfl⟩
  | int i t => exact ⟨some (i, t), rfl, rfl⟩
theorem filterMap_le {α β : Type} (f : α → Option β) (l : List α) : (l.filterMap f).length ≤ l.length := List.length_filterMap_le f l
theorem ssi_len (lo hi : Option Int) (n : Nat) : (Builtin.Str.strSliceIndices lo hi 1 n).length ≤ n := by
  rw [ssi_eq]
  by_cases h : min (HT.sIx n 0 lo) n ≤ min (HT.sIx n n hi) n
  · rw [PySem.StrLaws.strSliceIndices_plain h (by omega), List.length_map, List.length_range]
    omega
  · have e1 : ∀ k : Nat, ¬ ((k : Int) < 0) := fun k => by omega
    unfold Builtin.Str.strSliceIndices sliceRange
    simp only [show (1 : Int) > 0 by decide, if_true, e1, if_false]
    rw [if_neg (by omega)]
    simp
theorem sl_str : SlR X rSlS := by
  intro pins s σ H x v vl vu lo hi sl Q I rx hs pl pu h
  obtain ⟨z, rfl, hz, q⟩ := h
  obtain ⟨t, rfl⟩ := rx
  obtain ⟨l, rfl, rfl⟩ := part_of pl
  obtain ⟨u, rfl, rfl⟩ := part_of pu
  refine ⟨"str", _, F.slot_str_getitem.lookup, typeIs_str s z t, wpAny_getItem_str_slice (l := l) (u := u) (st := none) hs rfl ?_⟩
  unfold sliceMade
  split
  · rename_i hc
    refine ⟨.str z, H, I, ⟨t, rfl⟩, ?_⟩
    have e : PySem.StrLaws.sliceText z (l.map (·.1)) (u.map (·.1)) = z := by
      unfold PySem.StrLaws.sliceText
      exact if_pos hc
    rw [e] at q
    exact q
  · rename_i hc
    refine ⟨Nat.le_trans ?_ hz, .str _, H, I.tok _, ⟨_, rfl⟩, ?_⟩
    · show (List.filterMap _ _).toArray.size ≤ _
      rw [List.size_toArray]
      exact Nat.le_trans (filterMap_le _ _) (ssi_len _ _ _)
    · have e : PySem.StrLaws.sliceText z (l.map (·.1)) (u.map (·.1)) = ⟨((slicePicked z l u none).filterMap (z.cps[·]?)).toArray⟩ := by
        unfold PySem.StrLaws.sliceText
        exact if_neg hc
      rw [e] at q
      exact q
def rSl (K : PySem.W.Frag) : V → Option Int → Option Int → Hp → VK → Prop := fun x lo hi H Q => rSlS x lo hi H Q ∨ rSlL K x lo hi H Q
theorem sl_A : SlR X (rSl X.K) := sl_str.or sl_list
theorem cut_len {α : Type} (l : List α) (lo hi : Option Int) : (cut l lo hi).length ≤ l.length := by
  rw [cut_eq, List.length_take, List.length_drop]
  omega
theorem RpL.cut {H : Hp} {vs : List V} {ts : List T} {Fs : List (List Addr)} (r : RpL G H vs ts Fs) (lo hi : Option Int) : RpL G H (cutV vs lo hi) (VS.cut ts lo hi) (VS.cut Fs lo hi) := by
  have h := r.len
  rw [cut_eq, cut_eq, h.2]
  unfold cutV
  rw [h.1]
  exact (r.drop _).take _
theorem cut_sub {α : Type} (l : List α) (lo hi : Option Int) : (VS.cut l lo hi).Sublist l := by
  rw [cut_eq]
  exact (List.take_sublist _ _).trans (List.drop_sublist _ _)
theorem flat_sub {F G : List (List Addr)} (h : F.Sublist G) : F.flatten.Sublist G.flatten := by
  induction h with
  | slnil => exact List.Sublist.refl _
  | cons a _ ih => rw [List.flatten_cons]; exact ih.trans (List.sublist_append_right _ _)
  | cons_cons a _ ih => rw [List.flatten_cons, List.flatten_cons]; exact (List.Sublist.refl _).append ih
theorem pv_slice {lo hi : Option Expr} {cl ch : Option Ex} {p2 : Pos} (ha : PV G X a ca) (hl : PVO G X lo cl) (hh : PVO G X hi ch) (hK : X.K = G.K := by rfl) : PV G X (.Subscript a (.Slice lo hi none p2) pos) (eSl ca cl ch) :=
  PE.weak (pe_slice sl_A ha hl hh) fun σ H Q ⟨Φ, η, m, t, s, e, k⟩ => by
    unfold eSl at e
    obtain ⟨⟨mx, x⟩, ea, e'⟩ := Option.bind_eq_some_iff.mp e
    obtain ⟨l, el, e''⟩ := Option.bind_eq_some_iff.mp e'
    obtain ⟨h, eh, e4⟩ := Option.bind_eq_some_iff.mp e''
    clear e e' e''
    refine ⟨Φ, η, mx, x, s, ea, fun v H1 F e1 r1 f1 => ⟨Φ, η, l, s.same e1, el, fun H2 e2 => ⟨Φ, η, h, (s.same e1).same e2, eh, fun H3 e3 => ?_⟩⟩⟩
    have e03 : Same H H3 := (e1.trans e2).trans e3
    have r3 := (r1.same e2).same e3
    unfold oSl at e4
    split at e4
    · rename_i m' z q
      cases q
      cases e4
      obtain ⟨rfl, hl⟩ := r3.str_inv
      refine .inl ⟨_, rfl, by rw [sx_len, ← LINE_eq]; exact hl.1, ?_⟩
      rw [sliceText_cut]
      exact k _ H3 _ e03 (.str _ ⟨Nat.le_trans (cut_len _ _ _) hl.1, fun c hc => hl.2 c ((cut_sub _ _ _).subset hc)⟩) Fp.nil
    · rename_i m' z q
      cases q
      obtain ⟨a', vs, Fs, rfl, rfl, ha', ra⟩ := r3.lst_inv
      refine .inr ⟨a', vs, rfl, by rw [hK]; exact SqL.of ha', new_lst e03 e4 (ra.cut l h) ((f1.sub (List.sublist_cons_self _ _)).sub (flat_sub (cut_sub _ _ _))) fun v H4 F e5 r4 f4 => k v H4 F (e03.trans e5) r4 f4⟩
    · cases e4

/-! ### isinstance -/
def tyS : Ty → String
  | .int => "int"
  | .str => "str"
  | .bool => "bool"
  | .list => "list"
  | .tuple => "tuple"
  | .dict => "dict"
def rIs (K : PySem.W.Frag) : List V → Hp → VK → Prop := fun vs H Q => ∃ x c t b, vs = [x, .ty c] ∧ TyOf K H x t ∧ PySem.W.kitOne K t (.type c) = some b ∧ Q (.bl b) H
theorem call_is : CallR X (.builtin "isinstance") (rIs X.K) := by
  intro pins s σ H xs us Q I r h
  obtain ⟨x, c, t, b, rfl, ty, e, q⟩ := h
  obtain ⟨u, w', rfl, r1, r2⟩ := vals2 r
  cases r2
  exact isinst_ok I r1 ty e fun tk => ⟨.bl b, H, I.tok _, rfl, q⟩
theorem kit_all (K : PySem.W.Frag) (ty : Ty) : (PySem.W.kitOne K (.type "NoneType") (.type (tyS ty)) = some false) ∧ (PySem.W.kitOne K (.type "bool") (.type (tyS ty)) = some (isTy ty (.bl true))) ∧ (PySem.W.kitOne K (.type "int") (.type (tyS ty)) = some (isTy ty (.int 0))) ∧
    (PySem.W.kitOne K (.type "str") (.type (tyS ty)) = some (isTy ty (.str []))) ∧ (PySem.W.kitOne K (.type "list") (.type (tyS ty)) = some (isTy ty (.lst []))) ∧ (PySem.W.kitOne K (.type "tuple") (.type (tyS ty)) = some (isTy ty (.tup []))) ∧ (PySem.W.kitOne K (.type "dict") (.type (tyS ty)) = some (isTy ty (.dct 0 []))) := by
  cases ty <;> refine ⟨?_, ?_, ?_, ?_, ?_, ?_, ?_⟩ <;> kernel_rfl
theorem is_of {H : Hp} {v : V} {t : T} {F : List Addr} (ty : Ty) (r : Rp G H v t F) (h : knownTy t = true) : ∃ t', TyOf G.K H v t' ∧ PySem.W.kitOne G.K t' (.type (tyS ty)) = some (isTy ty t) := by
  obtain ⟨k1, k2, k3, k4, k5, k6, k7⟩ := kit_all G.K ty
  cases r with
  | non => exact ⟨_, .non, by rw [k1]; cases ty <;> rfl⟩
  | bl b => exact ⟨_, .bl b, by rw [k2]; cases ty <;> rfl⟩
  | int i => exact ⟨_, .int i, by rw [k3]; cases ty <;> rfl⟩
  | str s _ => exact ⟨_, .str _, by rw [k4]; cases ty <;> rfl⟩
  | scr _ => cases h
  | tup h' q => exact ⟨_, .tup h', by rw [k6]; cases ty <;> rfl⟩
  | lst h' q => exact ⟨_, .lst h', by rw [k5]; cases ty <;> rfl⟩
  | dct h' l q => exact ⟨_, .dK h', by rw [k7]; cases ty <;> rfl⟩
  | dctT h' l q => exact ⟨_, .dT h', by rw [k7]; cases ty <;> rfl⟩
  | obj _ _ _ => cases h
theorem pv_is (ty : Ty) {x : Str} {p1 p2 : Pos} (ha : PV G X a ca) (hg : Gl X "isinstance") (hm : X.mg "isinstance" = none) (hg2 : Gl X x) (hm2 : X.mg x = none) (hv : bootBuiltins x = some (.type (tyS ty))) (hK : X.K = G.K := by rfl)
    (hn : x ≠ "__name__" := by decide) (hdb : (x == ("__debug__" : Str)) = false := by decide) (hs : starEach [a, .Name x p2] X.env = (false, eval a X.env) :: starEach [.Name x p2] X.env := by rfl)
    (hs2 : starEach [.Name x p2] X.env = (false, eval (.Name x p2) X.env) :: starEach [] X.env := by rfl) (hpl : (backTo pos (starEach [Expr.Name x p2] X.env)).any (·.1) = false := by rfl) :
    PV G X (.Call (.Name "isinstance" p1) [a, .Name x p2] [] pos) (eIs ty ca) :=
  PE.weak (pe_callB call_is hg hm boot_isinstance (pa_cons ha (pa_cons (pe_bltn (v := .ty (tyS ty)) hg2 hm2 hv rfl hn hdb) pa_nil hs2) hs) (by decide) (by decide) hs hpl) fun σ H Q ⟨Φ, η, m, t, s, e, k⟩ => by
    unfold eIs at e
    obtain ⟨⟨mx, y⟩, ea, e'⟩ := Option.bind_eq_some_iff.mp e
    split at e'
    · rename_i hk
      cases e'
      refine ⟨Φ, η, mx, y, s, ea, fun v H' F e1 r1 f1 => ?_⟩
      obtain ⟨t', h1, h2⟩ := is_of ty r1 hk
      exact ⟨v, tyS ty, t', _, rfl, by rw [hK]; exact h1, by rw [hK]; exact h2, k _ H' _ e1 (.bl _) Fp.nil⟩
    · cases e'
end
end VS

end
section
set_option Elab.async false
set_option linter.all false
set_option maxRecDepth 100000
set_option maxHeartbeats 1000000
namespace VS
open PySem PySem.Spec PyProof.Rows L2
section
variable {G : Gx} {X : Cx} {a b c e : Expr} {es : List Expr} {ca cb cc : Ex} {cs : Exs} {pos p : Pos}

/-! ### methods of texts -/
def MtOk (G : Gx) (r : V → List V → Hp → VK → Prop) (f : Val → List Val → Option Val) : Prop := ∀ (Φ : Fps) (η : VS.Env) (H0 H1 H : Hp) (x : Val) (v : V) (F : List Addr) (l : List Val) (vs : List V) (Fs : List (List Addr)) (m : Md) (t : T) (Q : VK),
  Same H0 H1 → Rp G H v x.2 F → Fp Φ η H0 x.1 F → Args G Φ η H1 H l vs Fs → f x l = some (m, t) → (∀ v H' F, Same H H' → Rp G H' v t F → Fp Φ η H0 m F → Q v H') → r v vs H Q
theorem pv_mt {T' id : String} {name : Str} {r : V → List V → Hp → VK → Prop} {f : Val → List Val → Option Val} {apos cpos : Pos} (pa : PlainAttrs T') (slot : Slot T' name id) (hty : typeOf (.builtin id) = pure (.type "method_descriptor")) (hm : MtR X id r) (ok : MtOk G r f)
    (hT : ∀ H v (x : Val) F l z, Rp G H v x.2 F → f x l = some z → tyV G.K T' v H) (ho : PV G X a ca) (ha : PVs G X (e :: es) cs) (hK : X.K = G.K := by rfl)
    (hbase : attributeBase a name X.env (eval a X.env) = eval a X.env := by rfl)
    (hfew : ((backTo cpos (starEach (e :: es) X.env)).all (fun x => !x.1) && (backToKw cpos (keywordEach [] X.env)).all (fun x => x.1.isSome)
      && decide ((e :: es).length + ([] : List Keyword).length + (if ([] : List Keyword).isEmpty then 0 else 1) < 30)) = true := by rfl)
    (hline : (apos.endLine == cpos.line) = true := by rfl) (hs : starEach (e :: es) X.env = (false, eval e X.env) :: starEach es X.env := by rfl) (hplain : (backTo cpos (starEach es X.env)).any (·.1) = false := by rfl) :
    PV G X (.Call (.Attribute a name apos) (e :: es) [] cpos) (eM f ca cs) :=
  PE.weak (pe_bm pa slot hty hm ho ha hbase hfew hline hs hplain) fun σ H Q ⟨Φ, η, m, t, s, e, k⟩ => by
    unfold eM at e
    obtain ⟨x, ea, e'⟩ := Option.bind_eq_some_iff.mp e
    obtain ⟨l, el, e''⟩ := Option.bind_eq_some_iff.mp e'
    refine ⟨Φ, η, x.1, x.2, s, ea, fun v H1 F e1 r1 f1 => ⟨by rw [hK]; exact hT H1 v x F l _ r1 e'', Φ, η, l, s.same e1, el, fun vs H2 Fs e2 r2 f2 => ?_⟩⟩
    exact ok Φ η H H1 H2 x v F l vs Fs m t Q e1 (r1.same e2) f1 ⟨e2, r2, f2⟩ e'' fun v' H3 F' e3 r3 f3 => k v' H3 F' ((e1.trans e2).trans e3) r3 f3
theorem tx_join : ∀ (sep : Tx) (ss : List Tx), Txt.join (sx sep) (ss.map sx) = sx (joinTx sep ss) := by
  intro sep ss
  have fold : ∀ (l : List Tx) (acc : Tx), (l.map sx).foldl (fun acc p => acc ++ (sx sep).cps ++ p.cps) acc.toArray = (l.foldl (fun acc p => acc ++ sep ++ p) acc).toArray := by
    intro l
    induction l with
    | nil => intro acc; rfl
    | cons x r ih =>
      intro acc
      rw [List.map_cons, List.foldl_cons, List.foldl_cons, ← ih]
      congr 1
      simp [sx]
  have jf : ∀ (r : List Tx) (acc : Tx), r.foldl (fun acc p => acc ++ sep ++ p) acc = joinTx sep (acc :: r) := by
    intro r
    induction r with
    | nil => intro acc; rfl
    | cons x r ih =>
      intro acc
      rw [List.foldl_cons, ih]
      cases r with
      | nil => rfl
      | cons y r => simp [joinTx]
  cases ss with
  | nil => rfl
  | cons x r =>
    show (⟨_⟩ : Str) = ⟨_⟩
    congr 1
    show ((r.map sx).foldl _ x.toArray) = _
    rw [fold, jf]
theorem rp_strs {H : Hp} : ∀ {vs : List V} {l : List T} {Fs : List (List Addr)} {ss : List Tx}, RpL G H vs l Fs → strs? l = some ss → vs = ss.map fun s => V.str (sx s)
  | _, _, _, _, .nil, e => by cases e; rfl
  | _, _, _, _, .cons (t := t) r q, e => by
    cases t with
    | str s =>
      simp only [strs?] at e
      obtain ⟨ss', e1, e2⟩ := Option.map_eq_some_iff.mp e
      subst e2
      rw [rp_strs q e1, r.str_inv.1]
      rfl
    | _ => cases e
theorem strsAre_of : ∀ {ss : List Tx} {us : List Value}, Vals (ss.map fun s => V.str (sx s)) us → StrsAre us (ss.map sx)
  | [], _, h => by cases h; exact .nil
  | s :: ss, _, h => by
    cases h with
    | cons r q =>
      obtain ⟨t, rfl⟩ := r
      exact .cons _ _ (strsAre_of q)
def rJoin (K : PySem.W.Frag) : V → List V → Hp → VK → Prop := fun x vs H Q => ∃ sep p ss, x = .str (sx sep) ∧ vs = [.ref p] ∧ SqL K H p (ss.map fun s => V.str (sx s)) ∧ total ss + ss.length * sep.length ≤ 16777216 ∧ Q (.str (sx (joinTx sep ss))) H
theorem sum_len : ∀ ss : List Tx, ((ss.map sx).map (·.length)).sum = total ss
  | [] => rfl
  | s :: r => by
    rw [List.map_cons, List.map_cons, List.sum_cons, sum_len r, sx_len]
    rfl
theorem mt_join : MtR X "str.join" (rJoin X.K) := by
  intro pins s σ H x xs v us Q I rx rxs h
  obtain ⟨sep, p, ss, rfl, rfl, hq, hl, q⟩ := h
  obtain ⟨t, rfl⟩ := rx
  obtain ⟨u, rfl, ru⟩ := vals1 rxs
  cases ru
  obtain ⟨its, r, pl, hz⟩ := I.list hq
  refine join_list pl.isList (ys := ss.map sx) (by simpa using strsAre_of r) ?_ fun t' k => ⟨.str _, H, I.tok _, ⟨_, by rw [tx_join]⟩, q⟩
  rw [sum_len, List.length_map, sx_len]
  exact hl
theorem joinTx_len (sep : Tx) : ∀ ss : List Tx, (joinTx sep ss).length ≤ total ss + ss.length * sep.length
  | [] => by simp [joinTx, total]
  | [x] => by simp [joinTx, total]
  | x :: y :: r => by
    have := joinTx_len sep (y :: r)
    simp only [joinTx, total, List.length_append, List.length_cons] at this ⊢
    have e : (r.length + 1 + 1) * sep.length = (r.length + 1) * sep.length + sep.length := Nat.succ_mul _ _
    omega
theorem joinTx_mem (sep : Tx) : ∀ (ss : List Tx) (c : Nat), c ∈ joinTx sep ss → c ∈ sep ∨ ∃ s ∈ ss, c ∈ s
  | [], c, h => by simp [joinTx] at h
  | [x], c, h => .inr ⟨x, List.mem_cons_self, h⟩
  | x :: y :: r, c, h => by
    simp only [joinTx, List.mem_append] at h
    rcases h with (h | h) | h
    · exact .inr ⟨x, List.mem_cons_self, h⟩
    · exact .inl h
    · exact (joinTx_mem sep (y :: r) c h).imp id fun ⟨s, hs, hc⟩ => ⟨s, List.mem_cons_of_mem _ hs, hc⟩
theorem rp_strs_ok {H : Hp} : ∀ {vs : List V} {l : List T} {Fs : List (List Addr)} {ss : List Tx}, RpL G H vs l Fs → strs? l = some ss → ∀ s ∈ ss, ∀ c ∈ s, c < 1114112
  | _, _, _, _, .nil, e, s, hs => by cases e; simp at hs
  | _, _, _, _, .cons (t := t) r q, e, s, hs => by
    cases t with
    | str x =>
      simp only [strs?] at e
      obtain ⟨ss', e1, e2⟩ := Option.map_eq_some_iff.mp e
      subst e2
      rcases List.mem_cons.mp hs with rfl | hs
      · exact r.str_inv.2.2
      · exact rp_strs_ok q e1 s hs
    | _ => cases e
theorem ok_join : MtOk G (rJoin G.K) mJoin := by
  intro Φ η H0 H1 H x v F l vs Fs m t Q s01 r f A e k
  unfold mJoin at e
  split at e
  · rename_i mx sep ml l'
    obtain ⟨ss, es', e'⟩ := Option.bind_eq_some_iff.mp e
    split at e'
    · rename_i hl
      cases e'
      obtain ⟨w', F', rfl, rfl, rl⟩ := (show RpL G H vs [.lst l'] Fs from A.rp).one
      obtain ⟨a', ws, Gs, rfl, rfl, ha, ra⟩ := rl.lst_inv
      rw [rp_strs ra es'] at ha
      refine ⟨sep, a', ss, r.str_inv.1, rfl, SqL.of ha, hl, fin_of k (.str _ ⟨Nat.le_trans (joinTx_len sep ss) hl, fun c hc => (joinTx_mem sep ss c hc).elim (r.str_inv.2.2 c) fun ⟨s', hs', hc'⟩ => rp_strs_ok ra es' s' hs' c hc'⟩)⟩
    · cases e'
  · cases e
theorem str_recv {H : Hp} {v : V} {t : T} {F : List Addr} (r : Rp G H v t F) (h : ∃ s, t = .str s) : tyV G.K "str" v H := by
  obtain ⟨s, rfl⟩ := h
  rw [r.str_inv.1]
  rfl
theorem pv_join {apos cpos : Pos} (ho : PV G X a ca) (ha : PVs G X [e] cs) (hK : X.K = G.K := by rfl)
    (hbase : attributeBase a "join" X.env (eval a X.env) = eval a X.env := by rfl)
    (hfew : ((backTo cpos (starEach [e] X.env)).all (fun x => !x.1) && (backToKw cpos (keywordEach [] X.env)).all (fun x => x.1.isSome)
      && decide ([e].length + ([] : List Keyword).length + (if ([] : List Keyword).isEmpty then 0 else 1) < 30)) = true := by rfl)
    (hline : (apos.endLine == cpos.line) = true := by rfl) (hs : starEach [e] X.env = (false, eval e X.env) :: starEach [] X.env := by rfl) (hplain : (backTo cpos (starEach [] X.env)).any (·.1) = false := by rfl) :
    PV G X (.Call (.Attribute a "join" apos) [e] [] cpos) (eM mJoin ca cs) :=
  pv_mt PySem.F.plainAttrs_str PySem.F.slot_str_join PySem.F.type_str_join (hK ▸ mt_join) ok_join (fun H v x F l z r e => str_recv r (by
    unfold mJoin at e
    split at e
    · exact ⟨_, rfl⟩
    · cases e)) ho ha hK hbase hfew hline hs hplain
end
end VS

end
section
set_option Elab.async false
set_option linter.all false
set_option maxRecDepth 100000
set_option maxHeartbeats 1000000
namespace VS
open PySem PySem.Spec PyProof.Rows L2
section
variable {G : Gx} {X : Cx} {a b c e : Expr} {es : List Expr} {ca cb cc : Ex} {cs : Exs} {pos p : Pos}

/-! ### ==, in: by what the heap reads as -/
mutual
def toP : T → PyData
  | .non => .none
  | .bl b => .bool b
  | .int i => .int i
  | .str s => .str (sx s)
  | .tup l => .tuple (toPs l)
  | .lst l => .list (toPs l)
  | _ => .none
def toPs : List T → List PyData
  | [] => []
  | t :: r => toP t :: toPs r
end
theorem sx_ok {s : Tx} (h : TxOk s) : PyData.strOk (sx s) = true := by
  unfold PyData.strOk sx
  simp only [Array.all_eq_true, decide_eq_true_eq]
  intro i hi
  have : s.toArray[i] ∈ s := by simp
  have := h.2 _ this
  simpa using this
theorem sx_inj {s t : Tx} : (sx s == sx t) = (s == t) := by
  rw [Bool.eq_iff_iff, beq_iff_eq, beq_iff_eq]
  constructor
  · intro h
    have : (sx s).cps = (sx t).cps := by rw [h]
    simpa [sx] using this
  · intro h
    rw [h]
mutual
theorem eqv_toP : ∀ (n k : Nat) (t u : T), eqD n t = true → eqD k u = true → PyData.eqv (toP t) (toP u) = eqT t u
  | n, k, t, u, h1, h2 => by
    cases t with
    | scr _ => cases n <;> simp at h1
    | dct _ _ => cases n <;> simp at h1
    | obj _ _ => cases n <;> simp at h1
    | tup l =>
      cases n with
      | zero => simp at h1
      | succ n =>
        cases u with
        | tup r =>
          cases k with
          | zero => simp at h2
          | succ k =>
            simp only [toP, PyData.eqv, eqT]
            exact eqv_toPs n k l r (by simpa using h1) (by simpa using h2)
        | scr _ => cases k <;> simp at h2
        | dct _ _ => cases k <;> simp at h2
        | obj _ _ => cases k <;> simp at h2
        | _ => simp [toP, PyData.eqv, eqT]
    | lst l =>
      cases n with
      | zero => simp at h1
      | succ n =>
        cases u with
        | lst r =>
          cases k with
          | zero => simp at h2
          | succ k =>
            simp only [toP, PyData.eqv, eqT]
            exact eqv_toPs n k l r (by simpa using h1) (by simpa using h2)
        | scr _ => cases k <;> simp at h2
        | dct _ _ => cases k <;> simp at h2
        | obj _ _ => cases k <;> simp at h2
        | _ => simp [toP, PyData.eqv, eqT]
    | str s =>
      cases u with
      | str r => simp only [toP, PyData.eqv, eqT]; exact sx_inj
      | scr _ => cases k <;> simp at h2
      | dct _ _ => cases k <;> simp at h2
      | obj _ _ => cases k <;> simp at h2
      | _ => simp [toP, PyData.eqv, eqT]
    | _ =>
      cases u with
      | scr _ => cases k <;> simp at h2
      | dct _ _ => cases k <;> simp at h2
      | obj _ _ => cases k <;> simp at h2
      | _ => simp [toP, PyData.eqv, eqT]
theorem eqv_toPs : ∀ (n k : Nat) (l r : List T), (∀ t ∈ l, eqD n t = true) → (∀ t ∈ r, eqD k t = true) → PyData.eqvAll (toPs l) (toPs r) = eqTs l r
  | _, _, [], [], _, _ => rfl
  | _, _, [], _ :: _, _, _ => rfl
  | _, _, _ :: _, [], _, _ => rfl
  | n, k, t :: l, u :: r, h1, h2 => by
    simp only [toPs, PyData.eqvAll, eqTs]
    rw [eqv_toP n k t u (h1 t List.mem_cons_self) (h2 u List.mem_cons_self), eqv_toPs n k l r (fun x hx => h1 x (List.mem_cons_of_mem _ hx)) fun x hx => h2 x (List.mem_cons_of_mem _ hx)]
end
mutual
theorem reads_of {H : Hp} {pins : List (Addr × Obj)} {σ : L2.St} {s : Shared} (I : Inv X pins σ H s) : ∀ {v : V} {t : T} {F : List Addr} {u : Value} (n : Nat), Rp G H v t F → RelV v u → eqD n t = true → ∃ as, Reads s.heap u (toP t) as ∧ (toP t).canLay0 = true ∧ (toP t).depth ≤ n
  | _, _, _, _, n, .non, r, _ => by cases r; exact ⟨_, .none, rfl, Nat.zero_le _⟩
  | _, _, _, _, n, .bl b, r, _ => by cases r; exact ⟨_, .bool b, rfl, Nat.zero_le _⟩
  | _, _, _, _, n, .int i, r, _ => by obtain ⟨t, rfl⟩ := r; exact ⟨_, .int i t, rfl, Nat.zero_le _⟩
  | _, _, _, _, n, .str s h, r, _ => by obtain ⟨t, rfl⟩ := r; exact ⟨_, .str _ t, sx_ok h, Nat.zero_le _⟩
  | _, _, _, _, n, .scr _, _, h => by cases n <;> simp at h
  | _, _, _, _, 0, .tup _ _, _, h => by simp at h
  | _, _, _, _, n + 1, .tup e q, r, h => by
    cases r
    obtain ⟨its, rv, tp, hz⟩ := I.tuple (SqT.of e)
    obtain ⟨as, h1, h2, h3⟩ := reads_all I n q rv (by simpa using h)
    obtain ⟨o, ho, hc, n', hd⟩ := tp
    exact ⟨_, .tuple ho hc hd (by simpa using h1), h2, by simp only [toP, PyData.depth]; omega⟩
  | _, _, _, _, 0, .lst _ _, _, h => by simp at h
  | _, _, _, _, n + 1, .lst e q, r, h => by
    cases r
    obtain ⟨its, rv, pl, hz⟩ := I.list (SqL.of e)
    obtain ⟨as, h1, h2, h3⟩ := reads_all I n q rv (by simpa using h)
    obtain ⟨o, ho, hc, n', hd⟩ := pl.isList
    exact ⟨_, .list ho hc hd (by simpa using h1), h2, by simp only [toP, PyData.depth]; omega⟩
  | _, _, _, _, n, .dct _ _ _, _, h => by cases n <;> simp at h
  | _, _, _, _, n, .dctT _ _ _, _, h => by cases n <;> simp at h
  | _, _, _, _, n, .obj _ _ _, _, h => by cases n <;> simp at h
theorem reads_all {H : Hp} {pins : List (Addr × Obj)} {σ : L2.St} {s : Shared} (I : Inv X pins σ H s) : ∀ {vs : List V} {ts : List T} {Fs : List (List Addr)} {us : List Value} (n : Nat), RpL G H vs ts Fs → Vals vs us → (∀ t ∈ ts, eqD n t = true) →
    ∃ as, ReadsAll s.heap us (toPs ts) as ∧ PyData.canLayAll0 (toPs ts) = true ∧ PyData.depthAll (toPs ts) ≤ n
  | _, _, _, _, n, .nil, r, _ => by cases r; exact ⟨_, .nil, rfl, Nat.zero_le _⟩
  | _, _, _, _, n, .cons p q, r, h => by
    cases r with
    | cons r1 r2 =>
      obtain ⟨as, h1, h2, h3⟩ := reads_of I n p r1 (h _ List.mem_cons_self)
      obtain ⟨bs, g1, g2, g3⟩ := reads_all I n q r2 fun t ht => h t (List.mem_cons_of_mem _ ht)
      exact ⟨_, .cons h1 g1, by simp only [toPs, PyData.canLayAll0, h2, g2, Bool.and_self], by simp only [toPs, PyData.depthAll]; omega⟩
end
def rEqT (G : Gx) (neg : Bool) : R2 := fun x y H Q => ∃ t u F F', Rp G H x t F ∧ Rp G H y u F' ∧ eqD 60 t = true ∧ eqD 60 u = true ∧ Q (.bl (if neg then !eqT t u else eqT t u)) H
theorem shaped_of {d : PyData} (h : d.canLay0 = true) (h2 : d.depth ≤ 60) : SeqAt.shaped d = true := by
  unfold SeqAt.shaped
  rw [h, Bool.true_and]
  exact decide_eq_true (by omega)
theorem op_eqT (hu : X.A.units + 64 < cLine) : OpR X (compareOp .Eq) (rEqT G false) := by
  intro pins s σ H x y v u Q I rx ry h
  obtain ⟨t, w, F, F', r1, r2, h1, h2, q⟩ := h
  obtain ⟨as, a1, a2, a3⟩ := reads_of I 60 r1 rx h1
  obtain ⟨bs, b1, b2, b3⟩ := reads_of I 60 r2 ry h2
  refine eq_dataH a1 b1 (shaped_of a2 a3) (shaped_of b2 b3) hu ⟨.bl _, H, I, rfl, ?_⟩
  rw [eqv_toP 60 60 t w h1 h2]
  exact q
theorem op_neT (hu : X.A.units + 64 < cLine) : OpR X (compareOp .NotEq) (rEqT G true) := by
  intro pins s σ H x y v u Q I rx ry h
  obtain ⟨t, w, F, F', r1, r2, h1, h2, q⟩ := h
  obtain ⟨as, a1, a2, a3⟩ := reads_of I 60 r1 rx h1
  obtain ⟨bs, b1, b2, b3⟩ := reads_of I 60 r2 ry h2
  refine ne_dataH a1 b1 (shaped_of a2 a3) (shaped_of b2 b3) hu ⟨.bl _, H, I, rfl, ?_⟩
  rw [eqv_toP 60 60 t w h1 h2]
  exact q
theorem ok_eq : OpOk G (rEqT G false) oEq := by
  intro Φ η H0 H x y u w F1 F2 m t Q tw e k
  unfold oEq at e
  split at e
  · rename_i h
    cases e
    exact ⟨_, _, _, _, tw.r1, tw.r2, h.1, h.2, fin_of k (.bl _)⟩
  · cases e
theorem ok_ne : OpOk G (rEqT G true) oNe := by
  intro Φ η H0 H x y u w F1 F2 m t Q tw e k
  unfold oNe at e
  split at e
  · rename_i h
    cases e
    exact ⟨_, _, _, _, tw.r1, tw.r2, h.1, h.2, fin_of k (.bl _)⟩
  · cases e
theorem tells_eq : Tells oEq := by
  intro x y m t e
  unfold oEq at e
  split at e <;> first | (cases e; exact ⟨_, rfl⟩) | cases e
theorem tells_ne : Tells oNe := by
  intro x y m t e
  unfold oNe at e
  split at e <;> first | (cases e; exact ⟨_, rfl⟩) | cases e
end
end VS

end
section
set_option Elab.async false
set_option linter.all false
set_option maxRecDepth 100000
set_option maxHeartbeats 1000000
namespace VS
open PySem PySem.Spec PyProof.Rows L2

/-! ### what a statement leaves alone -/
structure Frm (Φ : Fps) (η : VS.Env) (H : Hp) (Φ' : Fps) (η' : VS.Env) (H' : Hp) : Prop where
  keep : ∀ a o, H a = some o → ¬ InOw Φ η a → H' a = some o ∧ ¬ InOw Φ' η' a
  dom : ∀ a, H a ≠ none → H' a ≠ none
  ow : ∀ a, InOw Φ' η' a → InOw Φ η a ∨ H a = none
  pu : ∀ a, InPu Φ' η' a → InPu Φ η a ∨ InOw Φ η a ∨ H a = none
  kept : Kept H H'
theorem Frm.refl (Φ : Fps) (η : VS.Env) (H : Hp) : Frm Φ η H Φ η H := ⟨fun a o h n => ⟨h, n⟩, fun _ h => h, fun _ h => .inl h, fun _ h => .inl h, Kept.refl H⟩
theorem Frm.none {Φ Φ' : Fps} {η η' : VS.Env} {H H' : Hp} (f : Frm Φ η H Φ' η' H') {a : Addr} (h : H' a = none) : H a = none := by
  cases e : H a with
  | none => rfl
  | some o => exact absurd h (f.dom a (by rw [e]; exact fun z => nomatch z))
theorem Frm.trans {Φ Φ1 Φ2 : Fps} {η η1 η2 : VS.Env} {H H1 H2 : Hp} (f : Frm Φ η H Φ1 η1 H1) (g : Frm Φ1 η1 H1 Φ2 η2 H2) : Frm Φ η H Φ2 η2 H2 where
  keep := fun a o h n => let ⟨h1, n1⟩ := f.keep a o h n; g.keep a o h1 n1
  dom := fun a h => g.dom a (f.dom a h)
  ow := fun a h => by
    rcases g.ow a h with h | h
    · exact f.ow a h
    · exact .inr (f.none h)
  pu := fun a h => by
    rcases g.pu a h with h | h | h
    · exact f.pu a h
    · rcases f.ow a h with h | h
      · exact .inr (.inl h)
      · exact .inr (.inr h)
    · exact .inr (.inr (f.none h))
  kept := f.kept.trans g.kept
theorem Frm.same {Φ : Fps} {η : VS.Env} {H H' : Hp} (e : Same H H') : Frm Φ η H Φ η H' :=
  ⟨fun a o h n => ⟨e a o h, n⟩, fun a h z => h (e.free z), fun _ h => .inl h, fun _ h => .inl h, Kept.of e⟩
/-- what is handed back -/
def RetFp (Φ : Fps) (η : VS.Env) (H : Hp) : Md → List Addr → Prop
  | .fr, F => F.Nodup ∧ ∀ a ∈ F, H a = none ∨ InOw Φ η a
  | _, F => ∀ a ∈ F, H a = none ∨ InPu Φ η a ∨ InOw Φ η a
theorem RetFp.back {Φ Φ1 : Fps} {η η1 : VS.Env} {H H1 : Hp} (f : Frm Φ η H Φ1 η1 H1) {F : List Addr} : ∀ {m : Md}, RetFp Φ1 η1 H1 m F → RetFp Φ η H m F
  | .fr, h => ⟨h.1, fun a ha => (h.2 a ha).elim (fun z => .inl (f.none z)) fun z => (f.ow a z).elim .inr .inl⟩
  | .pu, h => fun a ha => by
    rcases h a ha with z | z | z
    · exact .inl (f.none z)
    · rcases f.pu a z with z | z | z
      · exact .inr (.inl z)
      · exact .inr (.inr z)
      · exact .inl z
    · exact (f.ow a z).elim (fun z => .inr (.inr z)) .inl
  | .bo, h => fun a ha => by
    rcases h a ha with z | z | z
    · exact .inl (f.none z)
    · rcases f.pu a z with z | z | z
      · exact .inr (.inl z)
      · exact .inr (.inr z)
      · exact .inl z
    · exact (f.ow a z).elim (fun z => .inr (.inr z)) .inl

/-! ### the reading of a statement -/
def Nx (G : Gx) (Φ : Fps) (η : VS.Env) (H : Hp) (η' : VS.Env) (k : L2.St → Hp → Prop) : Prop := ∀ Φ' σ' H', SR G Φ' η' σ' H' → Frm Φ η H Φ' η' H' → k σ' H'
def OutOk (G : Gx) (Φ : Fps) (η : VS.Env) (H : Hp) (D : Ends) : Out → Prop
  | .nx η' => Nx G Φ η H η' D.nx
  | .bk η' => Nx G Φ η H η' D.bk
  | .ct η' => Nx G Φ η H η' D.ct
  | .rt v η' => ∀ u H' F Φ' σ', SR G Φ' η' σ' H' → Frm Φ η H Φ' η' H' → Rp G H' u v.2 F → RetFp Φ η H v.1 F → D.rt u H'
def tS (G : Gx) (c : Sx) : TS := fun D σ H => ∃ Φ η o, SR G Φ η σ H ∧ c η = some o ∧ OutOk G Φ η H D o
def PSV (G : Gx) (X : Cx) (st : Stmt) (c : Sx) : Prop := PS X st (tS G c)
def PSVs (G : Gx) (X : Cx) (st : List Stmt) (c : Sx) : Prop := PSs X st (tS G c)
theorem PS.weak {X : Cx} {e : Stmt} {t t' : TS} (h : PS X e t) (w : ∀ D σ H, t' D σ H → t D σ H) : PS X e t' := fun pins s σ H D I q => h pins s σ H D I (w D σ H q)
theorem PSs.weak {X : Cx} {e : List Stmt} {t t' : TS} (h : PSs X e t) (w : ∀ D σ H, t' D σ H → t D σ H) : PSs X e t' := fun pins s σ H D I q => h pins s σ H D I (w D σ H q)
theorem OutOk.back {G : Gx} {Φ Φ1 : Fps} {η η1 : VS.Env} {H H1 : Hp} {D : Ends} (f : Frm Φ η H Φ1 η1 H1) : ∀ {o : Out}, OutOk G Φ η H D o → OutOk G Φ1 η1 H1 D o
  | .nx η', h => fun Φ' σ' H' s g => h Φ' σ' H' s (f.trans g)
  | .bk η', h => fun Φ' σ' H' s g => h Φ' σ' H' s (f.trans g)
  | .ct η', h => fun Φ' σ' H' s g => h Φ' σ' H' s (f.trans g)
  | .rt v η', h => fun u H' F Φ' σ' s g r q => h u H' F Φ' σ' s (f.trans g) r (q.back f)
section
variable {G : Gx} {X : Cx} {st : Stmt} {sts : List Stmt} {c c1 c2 : Sx} {pos : Pos} {e : Expr} {ce : Ex}
theorem psv_nil : PSVs G X [] sNil := PSs.weak pss_nil fun D σ H ⟨Φ, η, o, s, e, k⟩ => by
  cases (show some (Out.nx η) = some o from e)
  exact k Φ σ H s (Frm.refl _ _ _)
theorem psv_cons (h1 : PSV G X st c1) (h2 : PSVs G X sts c2) : PSVs G X (st :: sts) (sCons c1 c2) := PSs.weak (pss_cons h1 h2) fun D σ H ⟨Φ, η, o, s, e, k⟩ => by
  unfold sCons at e
  obtain ⟨o1, e1, e2⟩ := Option.bind_eq_some_iff.mp e
  refine ⟨Φ, η, o1, s, e1, ?_⟩
  cases o1 with
  | nx η1 => exact fun Φ' σ' H' s' f => ⟨Φ', η1, o, s', e2, k.back f⟩
  | rt v η1 => cases e2; exact k
  | bk η1 => cases e2; exact k
  | ct η1 => cases e2; exact k
theorem psv_one (h1 : PSV G X st c1) : PSVs G X [st] c1 := pss_one h1
theorem psv_if {t : Expr} {ct : Ex} {a b : List Stmt} (hc : PVT G X t ct) (ha : PSVs G X a c1) (hb : PSVs G X b c2) : PSV G X (.If t a b pos) (sIf ct c1 c2) := PS.weak (ps_if hc ha hb) fun D σ H ⟨Φ, η, o, s, e, k⟩ => by
  unfold sIf at e
  obtain ⟨⟨m, x⟩, ec, e1⟩ := Option.bind_eq_some_iff.mp e
  obtain ⟨b', eb, e2⟩ := Option.bind_eq_some_iff.mp e1
  refine ⟨Φ, η, m, x, b', s, ec, eb, fun H' e3 => ?_⟩
  cases b' with
  | true =>
    rw [if_pos rfl] at e2
    exact iteT ⟨Φ, η, o, s.same e3, e2, k.back (Frm.same e3)⟩
  | false =>
    rw [if_neg Bool.false_ne_true] at e2
    exact iteF ⟨Φ, η, o, s.same e3, e2, k.back (Frm.same e3)⟩
theorem Fp.ret {Φ : Fps} {η : VS.Env} {H : Hp} {F : List Addr} : ∀ {m : Md}, Fp Φ η H m F → RetFp Φ η H (match m with | .bo => .pu | m => m) F
  | .fr, f => ⟨f.1, fun a ha => .inl (f.2 a ha)⟩
  | .pu, f => fun a ha => (f a ha).elim .inl fun z => .inr (.inl z)
  | .bo, f => f
theorem psv_ret (he : PV G X e ce) : PSV G X (.Return (some e) pos) (sRet ce) := PS.weak (ps_ret he) fun D σ H ⟨Φ, η, o, s, e, k⟩ => by
  unfold sRet at e
  obtain ⟨⟨m, x⟩, ec, e1⟩ := Option.bind_eq_some_iff.mp e
  cases e1
  exact ⟨Φ, η, m, x, s, ec, fun v H' F e1 r1 f1 => k v H' F Φ σ (s.same e1) (Frm.same e1) r1 f1.ret⟩
theorem set_none {η : VS.Env} {i j : Nat} {c : Cell} (h : (η.set i none)[j]? = some (some c)) : j ≠ i ∧ η[j]? = some (some c) := by
  rw [List.getElem?_set] at h
  split at h
  · split at h <;> cases h
  · rename_i n
    exact ⟨fun z => n z.symm, h⟩
theorem SR.drop {Φ : Fps} {η : VS.Env} {σ : L2.St} {H : Hp} (s : SR G Φ η σ H) (i : Nat) : SR G Φ (η.set i none) σ H :=
  ⟨by rw [List.length_set]; exact s.len, fun j c h => s.rp j c (set_none h).2, fun j t h => s.nd j t (set_none h).2, fun j k t c h1 h2 n => s.sep j k t c (set_none h1).2 (set_none h2).2 n⟩
theorem Frm.drop {Φ : Fps} {η : VS.Env} {H : Hp} (i : Nat) : Frm Φ η H Φ (η.set i Option.none) H :=
  ⟨fun a o h n => ⟨h, fun ⟨j, t, h1, h2⟩ => n ⟨j, t, (set_none h1).2, h2⟩⟩, fun _ h => h, fun a ⟨j, t, h1, h2⟩ => .inl ⟨j, t, (set_none h1).2, h2⟩, fun a ⟨j, t, h1, h2⟩ => .inl ⟨j, t, (set_none h1).2, h2⟩, Kept.refl H⟩
theorem psv_retV (i : Nat) {x : Str} {p : Pos} (hN : X.N[i]? = some x := by rfl) (hv : Vis X.env.scope x := by first | exact Or.inl rfl | exact Or.inr (Or.inl rfl) | exact Or.inr (Or.inr rfl)) (hd : (x == ("__debug__" : Str)) = false := by decide)
    (hcd : (x == ("__classdict__" : Str)) = false := by decide) : PSV G X (.Return (some (.Name x p)) pos) (sRetV i) := PS.weak (ps_ret (pe_var hN hv hd hcd)) fun D σ H ⟨Φ, η, o, s, e, k⟩ => by
  unfold sRetV at e
  split at e
  · rename_i t h
    obtain ⟨v, h1, h2⟩ := s.rp _ _ h
    cases e
    exact ⟨v, h1, k v H (Φ i) Φ σ (s.drop i) (Frm.drop i) h2 ⟨s.nd i t h, fun a ha => .inr ⟨i, t, h, ha⟩⟩⟩
  · rename_i t h
    obtain ⟨v, h1, h2⟩ := s.rp _ _ h
    cases e
    refine ⟨v, h1, k v H (Φ i) Φ σ s (Frm.refl _ _ _) h2 ?_⟩
    have f : Fp Φ η H .pu (Φ i) := fun a ha => .inr ⟨i, t, h, ha⟩
    have f2 := (f.up h2).ret
    have : (match (VS.up .pu (cellT (.pu t))).1 with | .bo => Md.pu | m => m) = (VS.up .pu t).1 := by
      show (match (VS.up .pu t).1 with | .bo => Md.pu | m => m) = _
      unfold VS.up
      split <;> (rename_i q; revert q; split <;> simp)
    rw [this] at f2
    exact f2
  · cases e

/-! ### a name is set -/
def setΦ (Φ : Fps) (i : Nat) (F : List Addr) : Fps := fun j => if j = i then F else Φ j
theorem setΦ_at {Φ : Fps} {i : Nat} {F : List Addr} : setΦ Φ i F i = F := if_pos rfl
theorem setΦ_ne {Φ : Fps} {i j : Nat} {F : List Addr} (h : j ≠ i) : setΦ Φ i F j = Φ j := if_neg h
theorem set_at {η : VS.Env} {i j : Nat} {c c' : Cell} (h : (η.set i (some c))[j]? = some (some c')) : (j = i ∧ c' = c) ∨ (j ≠ i ∧ η[j]? = some (some c')) := by
  rw [List.getElem?_set] at h
  split at h
  · rename_i e
    split at h
    · exact .inl ⟨e.symm, (Option.some.inj (Option.some.inj h)).symm⟩
    · cases h
  · rename_i n
    exact .inr ⟨fun z => n z.symm, h⟩
/-- a new thing at slot i: the others stand, and what is own stands apart -/
theorem SR.put {Φ : Fps} {η : VS.Env} {σ : L2.St} {H H' : Hp} {i : Nat} {v : V} {c : Cell} {F : List Addr} (s : SR G Φ η σ H) (hi : i < η.length) (r : Rp G H' v (cellT c) F)
    (hk : ∀ j c', j ≠ i → η[j]? = some (some c') → ∀ w, Rp G H w (cellT c') (Φ j) → Rp G H' w (cellT c') (Φ j))
    (hnd : ∀ t, c = .ow t → F.Nodup) (hown : ∀ t, c = .ow t → ∀ j c', j ≠ i → η[j]? = some (some c') → ∀ a ∈ F, a ∉ Φ j) (hpu : ∀ j t, j ≠ i → η[j]? = some (some (.ow t)) → ∀ a ∈ Φ j, a ∉ F) :
    SR G (setΦ Φ i F) (η.set i (some c)) (σ.set i (some v)) H' where
  len := by rw [List.length_set, List.length_set]; exact s.len
  rp := fun j c' h => by
    rcases set_at h with ⟨rfl, rfl⟩ | ⟨n, h⟩
    · exact ⟨v, by rw [List.getElem?_set_self (by rw [← s.len]; exact hi)], by rw [setΦ_at]; exact r⟩
    · obtain ⟨w, h1, h2⟩ := s.rp j c' h
      exact ⟨w, by rw [List.getElem?_set_ne (Ne.symm n)]; exact h1, by rw [setΦ_ne n]; exact hk j c' n h w h2⟩
  nd := fun j t h => by
    rcases set_at h with ⟨rfl, e⟩ | ⟨n, h⟩
    · rw [setΦ_at]; exact hnd t e.symm
    · rw [setΦ_ne n]; exact s.nd j t h
  sep := fun j k t c' h1 h2 n => by
    rcases set_at h1 with ⟨rfl, e⟩ | ⟨n1, g1⟩
    · rcases set_at h2 with ⟨rfl, e2⟩ | ⟨n2, g2⟩
      · exact absurd rfl n
      · rw [setΦ_at, setΦ_ne n2]
        exact hown t e.symm k c' n2 g2
    · rcases set_at h2 with ⟨rfl, e2⟩ | ⟨n2, g2⟩
      · rw [setΦ_at, setΦ_ne n1]
        exact hpu j t n1 g1
      · rw [setΦ_ne n1, setΦ_ne n2]
        exact s.sep j k t c' g1 g2 n
theorem ow_put {Φ : Fps} {η : VS.Env} {i : Nat} {c : Cell} {F : List Addr} {a : Addr} (h : InOw (setΦ Φ i F) (η.set i (some c)) a) : (∃ t, c = .ow t ∧ a ∈ F) ∨ InOw Φ η a := by
  obtain ⟨j, t, h1, h2⟩ := h
  rcases set_at h1 with ⟨rfl, e⟩ | ⟨n, h1⟩
  · rw [setΦ_at] at h2; exact .inl ⟨t, e.symm, h2⟩
  · rw [setΦ_ne n] at h2; exact .inr ⟨j, t, h1, h2⟩
theorem pu_put {Φ : Fps} {η : VS.Env} {i : Nat} {c : Cell} {F : List Addr} {a : Addr} (h : InPu (setΦ Φ i F) (η.set i (some c)) a) : (∃ t, c = .pu t ∧ a ∈ F) ∨ InPu Φ η a := by
  obtain ⟨j, t, h1, h2⟩ := h
  rcases set_at h1 with ⟨rfl, e⟩ | ⟨n, h1⟩
  · rw [setΦ_at] at h2; exact .inl ⟨t, e.symm, h2⟩
  · rw [setΦ_ne n] at h2; exact .inr ⟨j, t, h1, h2⟩
theorem SR.ow_pu {Φ : Fps} {η : VS.Env} {σ : L2.St} {H : Hp} (s : SR G Φ η σ H) {a : Addr} (h : InOw Φ η a) (h' : InPu Φ η a) : False := by
  obtain ⟨j, t, h1, h2⟩ := h
  obtain ⟨k, u, g1, g2⟩ := h'
  have n : j ≠ k := fun e => by subst e; rw [h1] at g1; cases g1
  exact s.sep j k t _ h1 g1 n a h2 g2
/-- a value that was reckoned is put into a slot -/
theorem SR.val {Φ : Fps} {η : VS.Env} {σ : L2.St} {H H' : Hp} {i : Nat} {v : V} {t : T} {m : Md} {F : List Addr} {c : Cell} (s : SR G Φ η σ H) (hi : i < η.length) (e : Same H H') (r : Rp G H' v t F) (f : Fp Φ η H m F)
    (hc : (c = .pu t ∧ m ≠ .bo) ∨ (c = .ow t ∧ m = .fr)) : SR G (setΦ Φ i F) (η.set i (some c)) (σ.set i (some v)) H' ∧ Frm Φ η H (setΦ Φ i F) (η.set i (some c)) H' := by
  have dom : ∀ {a}, H a = none → ∀ j c', η[j]? = some (some c') → a ∉ Φ j := fun {a} h j c' hj ha => by
    obtain ⟨w, _, q⟩ := s.rp j c' hj
    exact Mut.ne_none (q.dom a ha) h
  have ct : cellT c = t := by rcases hc with ⟨rfl, _⟩ | ⟨rfl, _⟩ <;> rfl
  have fpu : ∀ a ∈ F, H a = none ∨ InPu Φ η a := fun a ha => by
    rcases hc with ⟨_, n⟩ | ⟨_, n⟩
    · exact f.pu n a ha
    · rw [n] at f; exact .inl (f.2 a ha)
  constructor
  · refine s.put hi (by rw [ct]; exact r) (fun j c' n hj w q => q.same e) (fun u hu => ?_) (fun u hu j c' n hj a ha => ?_) fun j u n hj a ha hF => ?_
    · rcases hc with ⟨h, _⟩ | ⟨_, h⟩
      · rw [h] at hu; cases hu
      · rw [h] at f; exact f.1
    · rcases hc with ⟨h, _⟩ | ⟨_, h⟩
      · rw [h] at hu; cases hu
      · rw [h] at f; exact dom (f.2 a ha) j c' hj
    · rcases fpu a hF with z | z
      · exact dom z j _ hj ha
      · exact s.ow_pu ⟨j, u, hj, ha⟩ z
  · refine ⟨fun a o h n => ⟨e a o h, fun z => ?_⟩, fun a h z => h (e.free z), fun a h => ?_, fun a h => ?_, Kept.of e⟩
    · rcases ow_put z with ⟨u, hu, ha⟩ | z
      · rcases hc with ⟨h', _⟩ | ⟨_, h'⟩
        · rw [h'] at hu; cases hu
        · rw [h'] at f
          rw [f.2 a ha] at h; cases h
      · exact n z
    · rcases ow_put h with ⟨u, hu, ha⟩ | z
      · rcases hc with ⟨h', _⟩ | ⟨_, h'⟩
        · rw [h'] at hu; cases hu
        · rw [h'] at f
          exact .inr (f.2 a ha)
      · exact .inl z
    · rcases pu_put h with ⟨u, hu, ha⟩ | z
      · exact (fpu a ha).elim (fun z => .inr (.inr z)) .inl
      · exact .inl z
theorem psv_set {i : Nat} {x : Str} {pos' : Pos} (he : PV G X e ce) (hN : X.N.Nodup) (hi : X.N[i]? = some x := by rfl) (hx : Loc X.env.scope x := by first | exact Or.inl rfl | exact Or.inr rfl)
    (hs : swapsWith e (some (.Name x pos')) pos.line X.env = pure false := by rfl) (hf : X.fn x = true ∨ X.env.scope.names.lookup x = some .local := by first | exact .inl rfl | exact .inr rfl) :
    PSV G X (.Assign [.Name x pos'] e pos) (sSet i ce) := PS.weak (ps_set hN hi hx he hs hf) fun D σ H ⟨Φ, η, o, s, e, k⟩ => by
  unfold sSet at e
  obtain ⟨⟨m, t⟩, ec, e1⟩ := Option.bind_eq_some_iff.mp e
  obtain ⟨c, eC, e2⟩ := Option.bind_eq_some_iff.mp e1
  split at e2
  · rename_i hl
    cases e2
    refine ⟨Φ, η, m, t, s, ec, fun v H' F e3 r3 f3 => ?_⟩
    obtain ⟨q1, q2⟩ := s.val (c := c) hl e3 r3 f3 (by
      unfold cellOf at eC
      cases m with
      | fr =>
        simp only [Option.some.injEq] at eC
        split at eC
        · exact .inr ⟨eC.symm, rfl⟩
        · exact .inl ⟨eC.symm, by decide⟩
      | pu => cases eC; exact .inl ⟨rfl, by decide⟩
      | bo => cases eC)
    exact k _ _ H' q1 q2
  · cases e2
theorem psv_setP {i : Nat} {x : Str} {pos' : Pos} (he : PV G X e ce) (hN : X.N.Nodup) (hi : X.N[i]? = some x := by rfl) (hx : Loc X.env.scope x := by first | exact Or.inl rfl | exact Or.inr rfl)
    (hs : swapsWith e (some (.Name x pos')) pos.line X.env = pure false := by rfl) (hf : X.fn x = true ∨ X.env.scope.names.lookup x = some .local := by first | exact .inl rfl | exact .inr rfl) :
    PSV G X (.Assign [.Name x pos'] e pos) (sSetP i ce) := PS.weak (ps_set hN hi hx he hs hf) fun D σ H ⟨Φ, η, o, s, e, k⟩ => by
  unfold sSetP at e
  obtain ⟨⟨m, t⟩, ec, e1⟩ := Option.bind_eq_some_iff.mp e
  split at e1
  · cases e1
  · rename_i hm
    split at e1
    · rename_i hl
      cases e1
      refine ⟨Φ, η, m, t, s, ec, fun v H' F e3 r3 f3 => ?_⟩
      obtain ⟨q1, q2⟩ := s.val (c := .pu t) hl e3 r3 f3 (.inl ⟨rfl, hm⟩)
      exact k _ _ H' q1 q2
    · cases e1
/-- what is changed no more -/
theorem SR.frz {Φ : Fps} {η : VS.Env} {σ : L2.St} {H : Hp} {i : Nat} {t : T} (s : SR G Φ η σ H) (h : η[i]? = some (some (.ow t))) : SR G Φ (η.set i (some (.pu t))) σ H ∧ Frm Φ η H Φ (η.set i (some (.pu t))) H := by
  have back : ∀ {j c}, (η.set i (some (.pu t)))[j]? = some (some c) → ∃ c', η[j]? = some (some c') ∧ cellT c' = cellT c ∧ ∀ u, c = .ow u → c' = .ow u := fun {j c} hj => by
    rcases set_at hj with ⟨rfl, rfl⟩ | ⟨n, hj⟩
    · exact ⟨.ow t, h, rfl, fun u hu => nomatch hu⟩
    · exact ⟨c, hj, rfl, fun u hu => hu⟩
  refine ⟨⟨by rw [List.length_set]; exact s.len, fun j c hj => ?_, fun j u hj => ?_, fun j k u c h1 h2 n => ?_⟩, ⟨fun a o ha n => ⟨ha, fun ⟨j, u, h1, h2⟩ => ?_⟩, fun _ h => h, fun a ⟨j, u, h1, h2⟩ => ?_, fun a ⟨j, u, h1, h2⟩ => ?_, Kept.refl H⟩⟩
  · obtain ⟨c', h1, h2, _⟩ := back hj
    obtain ⟨v, g1, g2⟩ := s.rp j c' h1
    exact ⟨v, g1, by rw [← h2]; exact g2⟩
  · obtain ⟨c', h1, _, h3⟩ := back hj
    rw [h3 u rfl] at h1
    exact s.nd j u h1
  · obtain ⟨c1, g1, _, g3⟩ := back h1
    obtain ⟨c2, k1, _, _⟩ := back h2
    rw [g3 u rfl] at g1
    exact s.sep j k u c2 g1 k1 n
  · obtain ⟨c1, g1, _, g3⟩ := back h1
    rw [g3 u rfl] at g1
    exact n ⟨j, u, g1, h2⟩
  · obtain ⟨c1, g1, _, g3⟩ := back h1
    rw [g3 u rfl] at g1
    exact .inl ⟨j, u, g1, h2⟩
  · rcases set_at h1 with ⟨rfl, _⟩ | ⟨n, h1⟩
    · exact .inr (.inl ⟨j, t, h, h2⟩)
    · exact .inl ⟨j, u, h1, h2⟩
theorem psv_frz (i : Nat) (h : PSVs G X sts c) : PSVs G X sts (sCons (sFrz i) c) := PSs.weak h fun D σ H ⟨Φ, η, o, s, e, k⟩ => by
  unfold sCons at e
  obtain ⟨o1, e1, e2⟩ := Option.bind_eq_some_iff.mp e
  unfold sFrz at e1
  split at e1
  · rename_i t ht
    cases e1
    obtain ⟨q1, q2⟩ := s.frz ht
    exact ⟨Φ, _, o, q1, e2, k.back q2⟩
  · cases e1
    exact ⟨Φ, η, o, s, e2, k⟩
  · cases e1
end
end VS

end
section
set_option Elab.async false
set_option linter.all false
set_option maxRecDepth 100000
set_option maxHeartbeats 1000000
namespace VS
open PySem PySem.Spec PyProof.Rows L2
section
variable {G : Gx} {X : Cx} {st : Stmt} {sts : List Stmt} {c c1 c2 : Sx} {pos : Pos} {e : Expr} {es : List Expr} {ce : Ex} {cs : Exs}

/-! ### a list of the def's own is changed -/
/-- the tree at v, of the addresses F, has become t' in H2 -/
structure Chg (G : Gx) (H : Hp) (v : V) (F : List Addr) (t' : T) (H2 : Hp) (F' : List Addr) : Prop where
  kept : Kept H H2
  keep : ∀ b o, b ∉ F → H b = some o → H2 b = some o
  dom : ∀ b, H b ≠ none → H2 b ≠ none
  rp : Rp G H2 v t' F'
  nd : F'.Nodup
  sub : ∀ a ∈ F', a ∈ F ∨ H a = none
theorem SR.mut {Φ : Fps} {η : VS.Env} {σ : L2.St} {H H2 : Hp} {i : Nat} {v : V} {t t' : T} {F' : List Addr} (s : SR G Φ η σ H) (hi : η[i]? = some (some (.ow t))) (hv : σ[i]? = some (some v)) (g : Chg G H v (Φ i) t' H2 F') :
    SR G (setΦ Φ i F') (η.set i (some (.ow t'))) σ H2 ∧ Frm Φ η H (setΦ Φ i F') (η.set i (some (.ow t'))) H2 := by
  have hl : i < η.length := (List.getElem?_eq_some_iff.mp hi).1
  have off : ∀ j c', j ≠ i → η[j]? = some (some c') → ∀ a ∈ Φ j, a ∉ Φ i := fun j c' n hj a ha ha' => s.sep i j t c' hi hj (Ne.symm n) a ha' ha
  have es : σ.set i (some v) = σ := by
    obtain ⟨h, e⟩ := List.getElem?_eq_some_iff.mp hv
    rw [← e]
    exact List.set_getElem_self h
  have new : ∀ a ∈ F', ∀ j c', j ≠ i → η[j]? = some (some c') → a ∉ Φ j := fun a ha j c' n hj ha' => by
    rcases g.sub a ha with z | z
    · exact off j c' n hj a ha' z
    · obtain ⟨w, _, q⟩ := s.rp j c' hj
      exact Mut.ne_none (q.dom a ha') z
  constructor
  · have := s.put (c := .ow t') (F := F') (H' := H2) (v := v) hl g.rp (fun j c' n hj w q => q.keep g.kept fun a ha o ho => g.keep a o (off j c' n hj a ha) ho) (fun _ _ => g.nd) (fun u hu j c' n hj a ha => new a ha j c' n hj) fun j u n hj a ha ha' => new a ha' j _ n hj ha
    rw [es] at this
    exact this
  · refine ⟨fun a o h n => ⟨g.keep a o (fun z => n ⟨i, t, hi, z⟩) h, fun z => ?_⟩, g.dom, fun a h => ?_, fun a h => ?_, g.kept⟩
    · rcases ow_put z with ⟨u, _, ha⟩ | z
      · rcases g.sub a ha with z | z
        · exact n ⟨i, t, hi, z⟩
        · rw [z] at h; cases h
      · exact n z
    · rcases ow_put h with ⟨u, _, ha⟩ | z
      · rcases g.sub a ha with z | z
        · exact .inl ⟨i, t, hi, z⟩
        · exact .inr z
      · exact .inl z
    · rcases pu_put h with ⟨u, hu, ha⟩ | z
      · cases hu
      · exact .inl z
def MutOk (G : Gx) (r : V → List V → Hp → VK → Prop) (f : T → List Val → Option (T × Val)) : Prop := ∀ (Φ : Fps) (η : VS.Env) (H H1 : Hp) (v : V) (t t' : T) (F : List Addr) (l : List Val) (vs : List V) (Fs : List (List Addr)) (x : Val) (Q : VK),
  Rp G H v t F → F.Nodup → Args G Φ η H H1 l vs Fs → f t l = some (t', x) → (∀ u H2 F', Chg G H v F t' H2 F' → Q u H2) → r v vs H1 Q
theorem psv_mut0 {T' id : String} {name x : Str} {r : V → List V → Hp → VK → Prop} {f : T → List Val → Option (T × Val)} {apos cpos p1 : Pos} (i : Nat) (pa : PlainAttrs T') (slot : Slot T' name id) (hty : typeOf (.builtin id) = pure (.type "method_descriptor")) (hm : MtR X id r) (ok : MutOk G r f)
    (hT : ∀ H v t F l z, Rp G H v t F → f t l = some z → tyV G.K T' v H) (ha : PVs G X (e :: es) cs) (hK : X.K = G.K := by rfl)
    (hN : X.N[i]? = some x := by rfl) (hv : Vis X.env.scope x := by first | exact Or.inl rfl | exact Or.inr (Or.inl rfl) | exact Or.inr (Or.inr rfl)) (hd : (x == ("__debug__" : Str)) = false := by decide)
    (hcd : (x == ("__classdict__" : Str)) = false := by decide)
    (hbase : attributeBase (.Name x p1) name X.env (eval (.Name x p1) X.env) = eval (.Name x p1) X.env := by rfl)
    (hfew : ((backTo cpos (starEach (e :: es) X.env)).all (fun x => !x.1) && (backToKw cpos (keywordEach [] X.env)).all (fun x => x.1.isSome)
      && decide ((e :: es).length + ([] : List Keyword).length + (if ([] : List Keyword).isEmpty then 0 else 1) < 30)) = true := by rfl)
    (hline : (apos.endLine == cpos.line) = true := by rfl) (hs : starEach (e :: es) X.env = (false, eval e X.env) :: starEach es X.env := by rfl) (hplain : (backTo cpos (starEach es X.env)).any (·.1) = false := by rfl)
    (hsw : swapsWith (.Call (.Attribute (.Name x p1) name apos) (e :: es) [] cpos) none pos.line X.env = pure false := by rfl) :
    PSV G X (.Expr (.Call (.Attribute (.Name x p1) name apos) (e :: es) [] cpos) pos) (sX (xMut i [] f cs)) :=
  PS.weak (ps_expr (pe_bm pa slot hty hm (pe_var hN hv hd hcd) ha hbase hfew hline hs hplain) hsw) fun D σ H ⟨Φ, η, o, s, e, k⟩ => by
    unfold sX xMut at e
    obtain ⟨⟨x', η'⟩, e1, e2⟩ := Option.map_eq_some_iff.mp e
    split at e1
    · rename_i t ht
      obtain ⟨ks, ek, e3⟩ := Option.bind_eq_some_iff.mp e1
      cases (show some ([] : List Ky) = some ks from ek)
      obtain ⟨l, el, e4⟩ := Option.bind_eq_some_iff.mp e3
      obtain ⟨⟨t', x2⟩, e5, e6⟩ := Option.map_eq_some_iff.mp e4
      cases e6
      cases e2
      obtain ⟨v, h1, h2⟩ := s.rp _ _ ht
      have e7 : f t l = some (t', x') := e5
      refine ⟨v, h1, by rw [hK]; exact hT H v t _ l _ h2 e7, Φ, η, l, s, el, fun vs H' Fs q1 q2 q3 => ?_⟩
      refine ok Φ η H H' v t t' (Φ i) l vs Fs x' _ h2 (s.nd i t ht) ⟨q1, q2, q3⟩ e7 fun u H2 F' g => ?_
      obtain ⟨w1, w2⟩ := s.mut ht h1 g
      exact k _ σ H2 w1 w2
    · cases e1
theorem Chg.upd {H H1 : Hp} {v : V} {F : List Addr} {a : Addr} {o : HO} {t' : T} {F' : List Addr} (e : Same H H1) (ha : a ∈ F) (hm : Mut (H1 a)) (r : Rp G (upd H1 a o) v t' F') (nd : F'.Nodup) (sub : ∀ a ∈ F', a ∈ F ∨ H a = none) : Chg G H v F t' (upd H1 a o) F' :=
  ⟨(Kept.of e).trans (Kept.upd (.inl hm)), fun b o' hb h => by rw [upd_ne (fun z => hb (by rw [z]; exact ha))]; exact e b o' h,
    fun b h z => by
      by_cases q : b = a
      · subst q; rw [upd_same] at z; cases z
      · rw [upd_ne q] at z; exact h (e.free z), r, nd, sub⟩
theorem RpL.off {H : Hp} {vs : List V} {ts : List T} {Fs : List (List Addr)} {a : Addr} {o : HO} (r : RpL G H vs ts Fs) (hm : Mut (H a)) (h : a ∉ Fs.flatten) : RpL G (upd H a o) vs ts Fs :=
  r.keep (Kept.upd (.inl hm)) fun b hb o' ho => by rw [upd_ne (fun z => h (by rw [← z]; exact hb))]; exact ho
theorem fit_inv {v : Val} {t : T} (h : fit v = some t) : v = (.fr, t) := by
  obtain ⟨m, x⟩ := v
  unfold fit at h
  cases m <;> first | (cases h; rfl) | cases h
theorem ok_append : MutOk G rAppend mAppend := by
  intro Φ η H H1 v t t' F l vs Fs x Q r nd A e k
  unfold mAppend at e
  split at e
  · rename_i ts y
    obtain ⟨z, ez, e1⟩ := Option.bind_eq_some_iff.mp e
    have ey := fit_inv ez
    subst ey
    split at e1
    · rename_i hl
      cases e1
      obtain ⟨a, us, Gs, rfl, rfl, ha, ra⟩ := r.lst_inv
      obtain ⟨w, Fw, rfl, rfl, rw'⟩ := (show RpL G H1 vs [z] Fs from A.rp).one
      have fw : Fp Φ η H .fr Fw := A.fp.each 0 _ _ rfl rfl
      have ha1 : H1 a = some (.lst us) := A.same a _ ha
      have m1 : Mut (H1 a) := by rw [ha1]; exact True.intro
      have na : a ∉ Gs.flatten := (List.nodup_cons.mp nd).1
      have nw : a ∉ Fw := fun z => by rw [fw.2 a z] at ha; cases ha
      refine ⟨a, us, w, rfl, rfl, ha1, by rw [ra.len.1]; exact hl, k _ _ (a :: (Gs ++ [Fw]).flatten) ?_⟩
      have off : ∀ b ∈ Gs.flatten, b ∉ Fw := fun b hb hw => Mut.ne_none (ra.dom b hb) (fw.2 b hw)
      refine Chg.upd A.same List.mem_cons_self m1 (.lst upd_same (((ra.same A.same).off m1 na).append (.cons (rw'.keep (Kept.upd (.inl m1)) fun b hb o ho => by rw [upd_ne (fun z => nw (by rw [← z]; exact hb))]; exact ho) .nil))) ?_ ?_
      · rw [List.flatten_append]
        refine List.nodup_cons.mpr ⟨fun m => ?_, List.nodup_append.mpr ⟨(List.nodup_cons.mp nd).2, by simpa using fw.1, fun b hb c hc z => ?_⟩⟩
        · rcases List.mem_append.mp m with m | m
          · exact na m
          · exact nw (by simpa using m)
        · subst z; exact off b hb (by simpa using hc)
      · intro b hb
        rcases List.mem_cons.mp hb with rfl | hb
        · exact .inl List.mem_cons_self
        · rw [List.flatten_append] at hb
          rcases List.mem_append.mp hb with hb | hb
          · exact .inl (List.mem_cons_of_mem _ hb)
          · exact .inr (fw.2 b (by simpa using hb))
    · cases e1
  · cases e
theorem recv_lst {H : Hp} {v : V} {ts : List T} {F : List Addr} (r : Rp G H v (.lst ts) F) : tyV G.K "list" v H := by
  obtain ⟨a, us, Gs, rfl, rfl, ha, ra⟩ := r.lst_inv
  exact .inl ⟨rfl, _, SqL.of ha⟩
theorem recv_append {H : Hp} {v : V} {t : T} {F : List Addr} {l : List Val} {z : T × Val} (r : Rp G H v t F) (h : mAppend t l = some z) : tyV G.K "list" v H := by
  unfold mAppend at h
  split at h
  · exact recv_lst r
  · cases h
end
end VS

end
section
set_option Elab.async false
set_option linter.all false
set_option maxRecDepth 100000
set_option maxHeartbeats 1000000
namespace VS
open PySem PySem.Spec PyProof.Rows L2

/-! ### what is walked -/
structure ItOk (G : Gx) (J : It) (l : List T) (C : List Addr) (H : Hp) : Prop where
  run : ∀ H2, Kept H H2 → (∀ a ∈ C, ∀ o, H a = some o → H2 a = some o) →
    (∀ (i : Nat) (t : T), l[i]? = some t → J.go i H2 ∧ ∀ x H3, J.yld i H2 x H3 → Same H2 H3 ∧ ∃ F, Rp G H3 x t F ∧ ∀ a ∈ F, a ∈ C ∨ H2 a = none) ∧ ∀ (i : Nat), l.length ≤ i → J.stop i H2
  dom : ∀ a ∈ C, H a ≠ none
def FpC (Φ : Fps) (η : VS.Env) (H : Hp) (m : Md) (C : List Addr) : Prop := ∀ a ∈ C, H a = none ∨ InPu Φ η a ∨ (m = .bo ∧ InOw Φ η a)
theorem Fp.c {Φ : Fps} {η : VS.Env} {H : Hp} {F : List Addr} : ∀ {m : Md}, Fp Φ η H m F → FpC Φ η H m F
  | .fr, f => fun a ha => .inl (f.2 a ha)
  | .pu, f => fun a ha => (f a ha).imp id .inl
  | .bo, f => fun a ha => (f a ha).imp id fun z => z.imp id fun z => ⟨rfl, z⟩
def tI (G : Gx) (c : Its) : TI := fun σ H R => ∃ Φ η m l, SR G Φ η σ H ∧ c η = some (m, l) ∧ ∀ J H' C, Same H H' → ItOk G J l C H' → FpC Φ η H m C → R J H'
def PVI (G : Gx) (X : Cx) (tg iter : Expr) (c : Its) : Prop := PI X tg iter (tI G c)
theorem PI.weak {X : Cx} {tg e : Expr} {t t' : TI} (h : PI X tg e t) (w : ∀ σ H Q, t' σ H Q → t σ H Q) : PI X tg e t' := fun pins s σ H Q I q => h pins s σ H Q I (w σ H Q q)
section
variable {G : Gx} {X : Cx} {tg e a b : Expr} {es : List Expr} {ca cb : Ex} {cs : Exs} {pos p : Pos}
theorem it_range (H : Hp) (lo : Int) (n : Nat) : ItOk G (Itr lo n) (rng lo n) [] H := by
  refine ⟨fun H2 _ _ => ⟨fun i t h => ?_, fun i h => (by simpa [rng] using h : n ≤ i)⟩, fun a h => by simp at h⟩
  unfold rng at h
  rw [List.getElem?_map] at h
  obtain ⟨k, hk, e⟩ := Option.map_eq_some_iff.mp h
  obtain ⟨hlt, e2⟩ := List.getElem?_eq_some_iff.mp hk
  rw [List.length_range] at hlt
  have ek : i = k := by simpa using e2
  subst ek
  refine ⟨hlt, fun x H3 ⟨e3, e4⟩ => ?_⟩
  subst e3
  subst e4
  rw [← e]
  exact ⟨Same.refl _, [], .int _, fun a h => by simp at h⟩
theorem pvi_range1 (ha : PV G X a ca) (hg : Gl X "range") (hm : X.mg "range" = none) (hs : starEach [a] X.env = (false, eval a X.env) :: starEach [] X.env := by rfl) (hs' : starEach [a] X.env = [(false, eval a X.env)] := by rfl) : PVI G X tg (.Call (.Name "range" p) [a] [] pos) (iRange1 ca) :=
  PI.weak (pi_range1 hg hm (pa_cons ha pa_nil hs) hs') fun σ H R ⟨Φ, η, m, l, s, e, k⟩ => by
    unfold iRange1 at e
    obtain ⟨⟨mx, x⟩, ea, e1⟩ := Option.bind_eq_some_iff.mp e
    obtain ⟨j, ej, e2⟩ := Option.bind_eq_some_iff.mp e1
    split at e2
    · rename_i hj
      cases e2
      refine ⟨Φ, η, mx, x, s, ea, fun v H' F e3 r3 f3 => ?_⟩
      cases x with
      | int j' =>
        cases ej
        refine ⟨j, by rw [r3.int_inv], ?_, ?_, k _ H' [] e3 (it_range H' 0 j.toNat) fun a h => by simp at h⟩
        · have := hj.1; unfold B62 at this; omega
        · have := hj.2; unfold B62 at this; omega
      | _ => cases ej
    · cases e2
theorem mem_fp {Fs : List (List Addr)} {i : Nat} {F : List Addr} (h : Fs[i]? = some F) {a : Addr} (ha : a ∈ F) : a ∈ Fs.flatten := (mem_flat h).subset ha
theorem it_list {H : Hp} {a : Addr} {vs : List V} {ts : List T} {Fs : List (List Addr)} (K : PySem.W.Frag) (ha : H a = some (.lst vs)) (r : RpL G H vs ts Fs) : ItOk G (Itl K a) ts (a :: Fs.flatten) H := by
  refine ⟨fun H2 k c => ?_, fun b hb => ?_⟩
  · have ha2 : H2 a = some (.lst vs) := c a List.mem_cons_self _ ha
    have r2 : RpL G H2 vs ts Fs := r.keep k fun b hb o ho => c b (List.mem_cons_of_mem _ hb) o ho
    refine ⟨fun i t h => ?_, fun i h => ⟨vs, SqL.of ha2, by rw [r.len.1]; exact h⟩⟩
    obtain ⟨v, F, h1, h2, h3⟩ := r2.get i h
    refine ⟨⟨vs, v, SqL.of ha2, h1⟩, fun x H3 ⟨e1, e2⟩ => ?_⟩
    subst e1
    have ex := e2 vs (SqL.of ha2)
    rw [h1] at ex
    cases ex
    exact ⟨Same.refl _, F, h3, fun b hb => .inl (List.mem_cons_of_mem _ (mem_fp h2 hb))⟩
  · rcases List.mem_cons.mp hb with rfl | hb
    · rw [ha]; exact fun z => nomatch z
    · exact Mut.ne_none (r.dom b hb)
theorem it_tup {H : Hp} {a : Addr} {vs : List V} {ts : List T} {Fs : List (List Addr)} (K : PySem.W.Frag) (ha : H a = some (.tup vs)) (r : RpL G H vs ts Fs) : ItOk G (Itt K a) ts Fs.flatten H := by
  refine ⟨fun H2 k c => ?_, fun b hb => Mut.ne_none (r.dom b hb)⟩
  have ha2 : H2 a = some (.tup vs) := k.tup a _ ha
  have r2 : RpL G H2 vs ts Fs := r.keep k fun b hb o ho => c b hb o ho
  refine ⟨fun i t h => ?_, fun i h => ⟨vs, SqT.of ha2, by rw [r.len.1]; exact h⟩⟩
  obtain ⟨v, F, h1, h2, h3⟩ := r2.get i h
  refine ⟨⟨vs, v, SqT.of ha2, h1⟩, fun x H3 ⟨e1, e2⟩ => ?_⟩
  subst e1
  have ex := e2 vs (SqT.of ha2)
  rw [h1] at ex
  cases ex
  exact ⟨Same.refl _, F, h3, fun b hb => .inl (mem_fp h2 hb)⟩
/-! ### targets -/
def tG (G : Gx) (g : Tg) : TG := fun v σ H Q => ∃ Φ η t F η', SR G Φ η σ H ∧ Rp G H v t F ∧ (∀ a ∈ F, ¬ InOw Φ η a) ∧ g t η = some η' ∧
  ∀ Φ' σ', SR G Φ' η' σ' H → (∀ a, InOw Φ' η' a → InOw Φ η a) → (∀ a, InPu Φ' η' a → InPu Φ η a ∨ a ∈ F) → Q σ' H
def PVG (G : Gx) (X : Cx) (e : Expr) (g : Tg) : Prop := PG X e (tG G g)
theorem PG.weak {X : Cx} {e : Expr} {t t' : TG} (h : PG X e t) (w : ∀ v σ H Q, t' v σ H Q → t v σ H Q) : PG X e t' := fun pins s σ H v u Q I r q => h pins s σ H v u Q I r (w v σ H Q q)
theorem pvg_name (i : Nat) {x : Str} (hN : X.N.Nodup) (hi : X.N[i]? = some x := by rfl) (hx : Loc X.env.scope x := by first | exact Or.inl rfl | exact Or.inr rfl)
    (hf : X.fn x = true ∨ X.env.scope.names.lookup x = some .local := by first | exact .inl rfl | exact .inr rfl) : PVG G X (.Name x pos) (gVar i) := PG.weak (pg_name hN hi hx hf) fun v σ H Q ⟨Φ, η, t, F, η', s, r, no, e, k⟩ => by
  unfold gVar at e
  split at e
  · rename_i hl
    cases e
    refine k (setΦ Φ i F) (σ.set i (some v)) (s.put (c := .pu t) hl r (fun j c' n hj w q => q) (fun u hu => nomatch hu) (fun u hu => nomatch hu) fun j u n hj a ha ha' => no a ha' ⟨j, u, hj, ha⟩) (fun a h => ?_) fun a h => ?_
    · rcases ow_put h with ⟨u, hu, _⟩ | z
      · cases hu
      · exact z
    · rcases pu_put h with ⟨u, hu, ha⟩ | z
      · exact .inr ha
      · exact .inl z
  · cases e
/-! ### for -/
theorem forL_drop {tgt : Tg} {body : Sx} {l : List T} {η : VS.Env} {i : Nat} {t : T} (h : l[i]? = some t) : l.drop i = t :: l.drop (i + 1) := by
  obtain ⟨hi, e⟩ := List.getElem?_eq_some_iff.mp h
  rw [← e]
  exact List.drop_eq_getElem_cons hi
theorem psv_for {iter : Expr} {body : List Stmt} {ci : Its} {g : Tg} {cb : Sx} (hp : PassesOwn (model X.prog X.w) X.A X.env X.xe) (hc : X.calm = true) (hi : PVI G X tg iter ci) (hg : PVG G X tg g) (hb : PSVs G X body cb)
    (hs : ∀ x, foldedSetIterable iter X.env x = pure x := by intro _; rfl) : PSV G X (.For tg iter body [] pos) (sFor g ci cb) := PS.weak (ps_for hp hc hi hg hb hs) fun D σ H ⟨Φ, η, o, s, e, k⟩ => by
  unfold sFor at e
  obtain ⟨⟨m, l⟩, el, e1⟩ := Option.bind_eq_some_iff.mp e
  dsimp only at e1
  split at e1
  · rename_i hm
    have hm' : m ≠ .bo := fun z => by rw [z] at hm; cases hm
    refine ⟨Φ, η, m, l, s, el, fun J H' C e2 ok fc => ?_⟩
    have cno : ∀ a ∈ C, ¬ InOw Φ η a := fun a ha z => by
      rcases fc a ha with q | q | q
      · exact Mut.ne_none (s.ow_dom z) q
      · exact s.ow_pu z q
      · exact hm' q.1
    -- between the turns
    refine ⟨fun i n σ2 H2 => n = l.length - i ∧ ∃ Φ2 η2, SR G Φ2 η2 σ2 H2 ∧ Frm Φ η H Φ2 η2 H2 ∧ Kept H' H2 ∧ (∀ a ∈ C, ∀ o, H' a = some o → H2 a = some o ∧ ¬ InOw Φ2 η2 a) ∧ forL g cb (l.drop i) η2 = some o,
      ⟨l.length - 0, rfl, Φ, η, s.same e2, Frm.same e2, Kept.refl _, fun a ha o' ho => ⟨ho, cno a ha⟩, by rw [List.drop_zero]; exact e1⟩, ?_⟩
    rintro i n σ2 H2 ⟨rfl, Φ2, η2, s2, f2, kp, con, e3⟩
    obtain ⟨go, stop⟩ := ok.run H2 kp fun a ha o' ho => (con a ha o' ho).1
    cases hit : l[i]? with
    | none =>
      have hl : l.length ≤ i := List.getElem?_eq_none_iff.mp hit
      left
      rw [List.drop_of_length_le hl] at e3
      cases (show some (Out.nx η2) = some o from e3)
      exact ⟨stop i hl, k Φ2 σ2 H2 s2 f2⟩
    | some t =>
      have hl : i < l.length := (List.getElem?_eq_some_iff.mp hit).1
      right
      obtain ⟨g1, y1⟩ := go i t hit
      rw [forL_drop (tgt := g) (body := cb) (η := η2) hit] at e3
      obtain ⟨η3, e4, e5⟩ := Option.bind_eq_some_iff.mp (show (g t η2).bind (fun η1 => (cb η1).bind fun o => match o with
        | .nx η2 => forL g cb (l.drop (i + 1)) η2
        | .ct η2 => forL g cb (l.drop (i + 1)) η2
        | .bk η2 => some (.nx η2)
        | .rt v η2 => some (.rt v η2)) = some o from e3)
      obtain ⟨o', e6, e7⟩ := Option.bind_eq_some_iff.mp e5
      refine ⟨g1, fun σ4 H4 => ∃ Φ4 η4, SR G Φ4 η4 σ4 H4 ∧ Frm Φ η H Φ4 η4 H4 ∧ Kept H' H4 ∧ (∀ a ∈ C, ∀ o, H' a = some o → H4 a = some o ∧ ¬ InOw Φ4 η4 a) ∧ forL g cb (l.drop (i + 1)) η4 = some o, fun σ4 H4 ⟨Φ4, η4, q⟩ => ⟨l.length - (i + 1), by omega, rfl, Φ4, η4, q⟩, fun x H3 yl => ?_⟩
      obtain ⟨e8, F, rF, hF⟩ := y1 x H3 yl
      have s3 := s2.same e8
      have noF : ∀ a ∈ F, ¬ InOw Φ2 η2 a := fun a ha z => by
        rcases hF a ha with q | q
        · have hne := ok.dom a q
          cases ho : H' a with
          | none => exact hne ho
          | some o'' => exact (con a q o'' ho).2 z
        · exact Mut.ne_none (s2.ow_dom z) q
      refine ⟨Φ2, η2, t, F, η3, s3, rF, noF, e4, fun Φ3 σ3 s4 o3 p3 => ?_⟩
      have f3 : Frm Φ η H Φ3 η3 H3 := ⟨fun a o' h n => let ⟨h1, n1⟩ := f2.keep a o' h n; ⟨e8 a o' h1, fun z => n1 (o3 a z)⟩, fun a h z => f2.dom a h (e8.free z), fun a h => f2.ow a (o3 a h), fun a h => by
        rcases p3 a h with h | h
        · exact f2.pu a h
        · rcases hF a h with q | q
          · rcases fc a q with q | q | q
            · exact .inr (.inr q)
            · exact .inl q
            · exact .inr (.inl q.2)
          · exact .inr (.inr (f2.none q)), f2.kept.trans (Kept.of e8)⟩
      have next : ∀ {Φ4 η4 H4}, Frm Φ3 η3 H3 Φ4 η4 H4 → Kept H' H4 ∧ ∀ a ∈ C, ∀ o, H' a = some o → H4 a = some o ∧ ¬ InOw Φ4 η4 a := fun fb =>
        ⟨(kp.trans (Kept.of e8)).trans fb.kept, fun a ha o' ho => by
          obtain ⟨h1, n1⟩ := con a ha o' ho
          exact fb.keep a o' (e8 a o' h1) fun z => n1 (o3 a z)⟩
      refine ⟨Φ3, η3, o', s4, e6, ?_⟩
      cases o' with
      | nx η4 => exact fun Φ4 σ4 H4 s5 fb => ⟨Φ4, η4, s5, f3.trans fb, (next fb).1, (next fb).2, e7⟩
      | ct η4 => exact fun Φ4 σ4 H4 s5 fb => ⟨Φ4, η4, s5, f3.trans fb, (next fb).1, (next fb).2, e7⟩
      | bk η4 =>
        cases (show some (Out.nx η4) = some o from e7)
        exact fun Φ4 σ4 H4 s5 fb => k Φ4 σ4 H4 s5 (f3.trans fb)
      | rt v η4 =>
        cases (show some (Out.rt v η4) = some o from e7)
        exact fun u H4 F4 Φ4 σ4 s5 fb r5 q5 => k u H4 F4 Φ4 σ4 s5 (f3.trans fb) r5 (q5.back f3)
  · cases e1
end
end VS

end
section
set_option Elab.async false
set_option linter.all false
set_option maxRecDepth 100000
set_option maxHeartbeats 1000000
namespace VS
open PySem PySem.Spec PyProof.Rows L2

/-! ### defs of the text -/
def RetF (H : Hp) (Fs : List (List Addr)) : Md → List Addr → Prop
  | .fr, F => F.Nodup ∧ ∀ a ∈ F, H a = none
  | _, F => ∀ a ∈ F, H a = none ∨ a ∈ Fs.flatten
def spF (G : Gx) (g : Fn) : Sp := fun vs H Q _ => ∃ ts Fs m r, RpL G H vs ts Fs ∧ g ts = some (m, r) ∧ ∀ v H' F, Same H H' → Rp G H' v r F → RetF H Fs m F → Q v H'
section
variable {G : Gx} {X : Cx} {k : Nat} {f : Addr} {fd : FuncData} {ps : List Str} {x : Str} {p pos : Pos} {e : Expr} {es : List Expr} {cs : Exs} {g : Fn}
theorem call_of {σ : L2.St} {H : Hp} {Q : VK} {E : XK} (h : tE G (eCall g cs) σ H Q) : tCall (spF G g) [] E (tEs G cs) σ H Q := by
  obtain ⟨Φ, η, m, t, s, e, kk⟩ := h
  unfold eCall at e
  obtain ⟨l, el, e1⟩ := Option.bind_eq_some_iff.mp e
  obtain ⟨⟨n, r⟩, er, e2⟩ := Option.bind_eq_some_iff.mp e1
  refine ⟨Φ, η, l, s, el, fun vs H1 Fs q1 q2 q3 => ?_⟩
  have A : Args G Φ η H H1 l vs Fs := ⟨q1, q2, q3⟩
  have jn := q3.join A.len
  show spF G g (vs ++ []) H1 Q E
  rw [List.append_nil]
  refine ⟨trees l, Fs, n, r, q2, er, fun v H' F q4 q5 q6 => ?_⟩
  have wide : (∀ a ∈ F, H1 a = none ∨ a ∈ Fs.flatten) → Fp Φ η H ((Md.pu).join (joins l)) F := fun h => by
    cases ej : joins l with
    | fr =>
      rw [ej] at jn
      exact fun a ha => .inl ((h a ha).elim q1.free (jn.2 a))
    | pu =>
      rw [ej] at jn
      exact fun a ha => (h a ha).elim (fun z => .inl (q1.free z)) (jn a)
    | bo =>
      rw [ej] at jn
      exact fun a ha => (h a ha).elim (fun z => .inl (q1.free z)) (jn a)
  cases n with
  | fr =>
    cases e2
    exact kk v H' F (q1.trans q4) q5 ⟨q6.1, fun a ha => q1.free (q6.2 a ha)⟩
  | pu =>
    cases e2
    exact kk v H' F (q1.trans q4) q5 (wide q6)
  | bo =>
    cases e2
    exact kk v H' F (q1.trans q4) q5 (wide q6)
theorem pv_call (F : FnOk X.prog X.w X.K X.mg X.base CX0 k f fd ps (spF G g)) (hr : Room k X.A) (hg : Gl X x) (hm : X.mg x = some (.ref f)) (hk : PySem.W.keepIn X.K (.ref f) = true) (hb : Binds X.K fd ps [])
    (ha : PVs G X (e :: es) cs) (hdb : (x == ("__debug__" : Str)) = false := by decide) (he : starEach (e :: es) X.env = (false, eval e X.env) :: starEach es X.env := by rfl) (hpl : (backTo pos (starEach es X.env)).any (·.1) = false := by rfl) :
    PV G X (.Call (.Name x p) (e :: es) [] pos) (eCall g cs) :=
  PE.weak (pe_call F hr hg hm hk hb .nil pass0 ha hdb he hpl) fun σ H Q h => call_of h
theorem start_rp {H : Hp} {vs : List V} {ts : List T} {Fs : List (List Addr)} (r : RpL G H vs ts Fs) (n nv : Nat) (hv : nv = vs.length) : SR G (fun i => Fs.getD i []) (ts.map (fun t => some (.pu t)) ++ List.replicate (n - ts.length) none) (vs.map some ++ List.replicate (n - nv) none) H := by
  subst hv
  have hl := r.len
  have back : ∀ {i : Nat} {c : Cell}, (ts.map (fun t => some (Cell.pu t)) ++ List.replicate (n - ts.length) none)[i]? = some (some c) → ∃ t, ts[i]? = some t ∧ c = .pu t := fun {i c} h => by
    by_cases hi : i < ts.length
    · rw [List.getElem?_append_left (by rw [List.length_map]; exact hi), List.getElem?_map] at h
      obtain ⟨t, h1, h2⟩ := Option.map_eq_some_iff.mp h
      exact ⟨t, h1, (Option.some.inj h2).symm⟩
    · rw [List.getElem?_append_right (by rw [List.length_map]; omega), List.getElem?_replicate] at h
      split at h <;> cases h
  refine ⟨by simp; omega, fun i c h => ?_, fun i t h => ?_, fun i j t c h => ?_⟩
  · obtain ⟨t, h1, rfl⟩ := back h
    obtain ⟨v, F, g1, g2, g3⟩ := r.get i h1
    refine ⟨v, ?_, ?_⟩
    · have : i < vs.length := (List.getElem?_eq_some_iff.mp g1).1
      rw [List.getElem?_append_left (by rw [List.length_map]; exact this), List.getElem?_map, g1]
      rfl
    · show Rp G H v t (Fs.getD i [])
      rw [List.getD_eq_getElem?_getD, g2]
      exact g3
  · obtain ⟨t', _, h2⟩ := back h
    cases h2
  · obtain ⟨t', _, h2⟩ := back h
    cases h2
theorem start_no {ts : List T} {n : Nat} {Φ : Fps} {a : Addr} : ¬ InOw Φ (ts.map (fun t => some (Cell.pu t)) ++ List.replicate n none) a := by
  rintro ⟨i, t, h, _⟩
  by_cases hi : i < ts.length
  · rw [List.getElem?_append_left (by rw [List.length_map]; exact hi), List.getElem?_map] at h
    obtain ⟨t', _, h2⟩ := Option.map_eq_some_iff.mp h
    cases h2
  · rw [List.getElem?_append_right (by rw [List.length_map]; omega), List.getElem?_replicate] at h
    split at h <;> cases h
theorem start_pu {H : Hp} {vs : List V} {ts : List T} {Fs : List (List Addr)} {n : Nat} {a : Addr} (h : InPu (fun i => Fs.getD i []) (ts.map (fun t => some (Cell.pu t)) ++ List.replicate n none) a) : a ∈ Fs.flatten := by
  obtain ⟨i, t, _, h2⟩ := h
  simp only [List.getD_eq_getElem?_getD] at h2
  cases e : Fs[i]? with
  | none => rw [e] at h2; simp at h2
  | some F => rw [e] at h2; exact mem_fp e h2
end
section
variable {G : Gx} {P : Program} {w : World} {K : PySem.W.Frag} {mg : Str → Option Value} {base : Heap}
/-- THE RULE: a def does what its body's function tells -/
theorem fnV {x qual : Str} {st : Stmt} {f : Addr} {fd : FuncData} {N ps : List Str} {k np nn : Nat} {c : Sx} (F : Fun K x qual st f fd) (S : FnScope N ps (defScope st)) (hp : ps.length = np) (hn : N.length = nn)
    (hb : ∀ (cdv : Value) (A : Around) (outer : List PySem.Env) (s : Shared) (H : Hp) (E : XK), Room k (A.deeper (envOfC qual (defScope st) s.heap.objs.size f cdv)) → PSVs G (cxOf CX0 P w K mg base N qual (defScope st) f cdv A outer s H E).nox (defBody st) c) :
    FnOk P w K mg base CX0 (k + 1) f fd ps (spF G (fn np nn c)) := by
  refine F.ok S (fun vs H Q E h => ?_) fun cdv A outer s H vs Q E hr h => ⟨_, hb cdv A outer s H E hr, ?_⟩
  · obtain ⟨ts, Fs, m, r, h1, h2, _⟩ := h
    unfold fn at h2
    split at h2
    · rename_i hl
      rw [h1.len.1, hl, hp]
    · cases h2
  · obtain ⟨ts, Fs, m, r, h1, h2, q⟩ := h
    unfold fn at h2
    split at h2
    · rename_i hl
      obtain ⟨o, e1, e2⟩ := Option.bind_eq_some_iff.mp h2
      have s0 := start_rp h1 nn vs.length rfl
      rw [hl] at s0
      have e3 : L2.start N vs = vs.map some ++ List.replicate (nn - vs.length) none := by
        unfold L2.start
        rw [hn]
      rw [e3]
      refine ⟨_, _, o, s0, e1, ?_⟩
      cases o with
      | nx η' =>
        cases e2
        intro Φ' σ' H' s' fr
        exact q .non H' [] (fun a o h => (fr.keep a o h start_no).1) .non ⟨List.nodup_nil, fun a h => by simp at h⟩
      | rt v η' =>
        cases e2
        intro u H' F' Φ' σ' s' fr r' rf
        refine q u H' F' (fun a o h => (fr.keep a o h start_no).1) r' ?_
        cases m with
        | fr => exact ⟨rf.1, fun a ha => (rf.2 a ha).elim id fun z => absurd z start_no⟩
        | pu => exact fun a ha => (rf a ha).elim .inl fun z => z.elim (fun z => .inr (start_pu (H := H) (vs := vs) z)) fun z => absurd z start_no
        | bo => exact fun a ha => (rf a ha).elim .inl fun z => z.elim (fun z => .inr (start_pu (H := H) (vs := vs) z)) fun z => absurd z start_no
      | bk η' => cases e2
      | ct η' => cases e2
    · cases h2
end
end VS

end
section
set_option Elab.async false
set_option linter.all false
set_option maxRecDepth 100000
set_option maxHeartbeats 1000000
/-! A comprehension's block: a context of its own within the def's. -/
namespace L2
open PySem PySem.Spec PyProof.Rows

theorem clos_list (env : Env) : ∀ (l : List (Str × NameKind)) (acc : List (Str × Addr)), (∀ y ∈ l, y.2 = .free → ∃ c, env.cells.lookup y.1 = some c) → (∀ x c, acc.lookup x = some c → env.cells.lookup x = some c) →
    ∃ cl, (forIn l acc (fun x r => if (x.snd == NameKind.free) = true then (do let a ← cellOf env x.fst; pure (ForInStep.yield ((x.fst, a) :: r))) else pure (ForInStep.yield r)) : Sem (List (Str × Addr))) = pure cl ∧
      (∀ x c, cl.lookup x = some c → env.cells.lookup x = some c) ∧ (∀ x c, acc.lookup x = some c → ∃ c', cl.lookup x = some c') ∧ ∀ y ∈ l, y.2 = .free → ∃ c, cl.lookup y.1 = some c
  | [], acc, _, ha => ⟨acc, rfl, ha, fun x c h => ⟨c, h⟩, fun y hy => nomatch hy⟩
  | (n, k) :: l, acc, hf, ha => by
    by_cases hk : k = .free
    · subst hk
      obtain ⟨c, hc⟩ := hf (n, .free) List.mem_cons_self rfl
      have ec : cellOf env n = pure c := by unfold cellOf; dsimp only at hc; rw [hc]
      have ha' : ∀ x c', ((n, c) :: acc).lookup x = some c' → env.cells.lookup x = some c' := fun x c' h => by
        rw [List.lookup_cons] at h
        split at h
        · rename_i hx
          have : x = n := by simpa using hx
          rw [this, ← h]; exact hc
        · exact ha x c' h
      obtain ⟨cl, h1, h2, h3, h4⟩ := clos_list env l ((n, c) :: acc) (fun y hy => hf y (List.mem_cons_of_mem _ hy)) ha'
      refine ⟨cl, ?_, h2, fun x c' h => ?_, fun y hy hyf => ?_⟩
      · rw [List.forIn_cons]
        dsimp only
        rw [if_pos (show (NameKind.free == NameKind.free) = true from rfl), ec, pure_bind, pure_bind]
        exact h1
      · by_cases hx : x = n
        · exact h3 x c (by rw [List.lookup_cons, hx]; simp)
        · refine h3 x c' ?_
          rw [List.lookup_cons]
          have : (x == n) = false := by simpa using hx
          rw [this]; exact h
      · rcases List.mem_cons.mp hy with rfl | hy
        · exact h3 n c (by rw [List.lookup_cons]; simp)
        · exact h4 y hy hyf
    · obtain ⟨cl, h1, h2, h3, h4⟩ := clos_list env l acc (fun y hy => hf y (List.mem_cons_of_mem _ hy)) ha
      refine ⟨cl, ?_, h2, h3, fun y hy hyf => ?_⟩
      · rw [List.forIn_cons]
        dsimp only
        rw [if_neg (by simpa using hk), pure_bind]
        exact h1
      · rcases List.mem_cons.mp hy with rfl | hy
        · exact absurd hyf hk
        · exact h4 y hy hyf
theorem clos_ok {sc : Scope} {env : Env} (hf : ∀ y ∈ sc.names, y.2 = .free → ∃ c, env.cells.lookup y.1 = some c) :
    ∃ cl, closureFor sc env = pure cl ∧ (∀ x c, cl.lookup x = some c → env.cells.lookup x = some c) ∧ ∀ y ∈ sc.names, y.2 = .free → ∃ c, cl.lookup y.1 = some c := by
  obtain ⟨cl, h1, h2, _, h4⟩ := clos_list env sc.names [] hf (fun x c h => nomatch h)
  refine ⟨cl, ?_, h2, h4⟩
  simp only [closureFor]
  rw [h1]
  rfl
theorem mem_of_look {l : List (Str × NameKind)} {x : Str} {k : NameKind} (h : l.lookup x = some k) : (x, k) ∈ l := by
  induction l with
  | nil => cases h
  | cons p l ih =>
    rw [List.lookup_cons] at h
    split at h
    · rename_i hx
      have e : x = p.1 := by simpa using hx
      cases h
      rw [e]; exact List.mem_cons_self
    · exact List.mem_cons_of_mem _ (ih h)
theorem relabel_look {env : Env} {x : Str} {k : NameKind} : ∀ {l : List (Str × NameKind)}, (l.map fun (n, k) => if (k == NameKind.free && env.scope.kind == .function && env.kindOf n == some .cell) then (n, NameKind.cell) else (n, k)).lookup x = some k →
    ∃ k0, l.lookup x = some k0 ∧ (k = k0 ∨ (k0 = .free ∧ k = .cell))
  | [], h => nomatch h
  | (n, k1) :: l, h => by
    rw [List.map_cons, List.lookup_cons] at h
    by_cases hc : (k1 == NameKind.free && env.scope.kind == .function && env.kindOf n == some .cell) = true
    · simp only [hc, if_true] at h
      rw [List.lookup_cons]
      cases hx : x == n with
      | true =>
        rw [hx] at h
        have : k1 = .free := by
          have := (Bool.and_eq_true_iff.mp (Bool.and_eq_true_iff.mp hc).1).1
          simpa using this
        exact ⟨k1, rfl, .inr ⟨this, (Option.some.inj h).symm⟩⟩
      | false => rw [hx] at h; exact relabel_look h
    · simp only [hc, if_false, Bool.false_eq_true] at h
      rw [List.lookup_cons]
      cases hx : x == n with
      | true => rw [hx] at h; exact ⟨k1, rfl, .inl (Option.some.inj h).symm⟩
      | false => rw [hx] at h; exact relabel_look h

/-- the context of the block -/
def compCx (X : Cx) (N : List Str) (sc : Scope) (cl : List (Str × Addr)) (C : Addr) (s : Shared) (H : Hp) (fp : List Addr) : Cx :=
  { X with N := N, s₀ := s, H₀ := H, env := compEnvC sc cl C X.env, outer := X.stack, ex := fp, fn := fun _ => false, pn := [], xe := fun _ _ => False }
def scOk (env : Env) (sc : Scope) : Bool := sc.kind == .function && sc.names.all fun y => match y.2 with
  | .cell => false
  | .local => sc.names.lookup y.1 == some .local
  | .free => env.kindOf y.1 == some .cell || env.kindOf y.1 == some .free
  | _ => true
/-- the names ahead are the block's own, the others the def's (or a word that is no name of the block) -/
def nmOk (sc : Scope) : List Str → List Str → Bool
  | [], [] => true
  | a :: as, b :: bs => ((a == b && sc.names.lookup a == some .free) || sc.names.lookup a == none || sc.names.lookup a == some .globalImplicit) && nmOk sc as bs
  | _, _ => false
theorem nmOk_at {sc : Scope} : ∀ {as bs : List Str}, nmOk sc as bs = true → as.length = bs.length ∧ ∀ (i : Nat) (x : Str), as[i]? = some x → (bs[i]? = some x ∧ sc.names.lookup x = some .free) ∨ sc.names.lookup x = none ∨ sc.names.lookup x = some .globalImplicit
  | [], [], _ => ⟨rfl, fun i x h => by simp at h⟩
  | a :: as, b :: bs, h => by
    simp only [nmOk, Bool.and_eq_true] at h
    obtain ⟨h1, h2⟩ := h
    obtain ⟨l, r⟩ := nmOk_at h2
    refine ⟨by simp [l], fun i x e => ?_⟩
    cases i with
    | zero =>
      have : a = x := by simpa using e
      subst this
      simp only [Bool.or_eq_true, Bool.and_eq_true] at h1
      rcases h1 with (⟨z1, z2⟩ | z) | z
      · exact .inl ⟨by simpa using (by simpa using z1 : a = b).symm, by simpa using z2⟩
      · exact .inr (.inl (by simpa using z))
      · exact .inr (.inr (by simpa using z))
    | succ i => simpa using r i x (by simpa using e)
  | [], _ :: _, h => by simp [nmOk] at h
  | _ :: _, [], h => by simp [nmOk] at h
section
variable {X : Cx} {pins : List (Addr × Obj)} {σ : St} {H : Hp} {s : Shared}
theorem Inv.block {N : List Str} {sc : Scope} {cl : List (Str × Addr)} {C D : Addr} {fp : List Addr} {k : Nat} {h1 : Heap} {t : Nat} {m : Str → Option Value} (I : Inv X pins σ H s) (hsc : scOk X.env sc = true) (hnm : nmOk sc (N.drop k) X.N = true) (hNl : k ≤ N.length)
    (hc1 : ∀ x c, cl.lookup x = some c → X.env.cells.lookup x = some c) (hc2 : ∀ y ∈ sc.names, y.2 = .free → ∃ c, cl.lookup y.1 = some c) (hfp : ∀ b ∈ fp, FpOk X pins H b) (hD : s.heap.objs.size ≤ D) (hC : s.heap.objs.size ≤ C) (hDC : D ≠ C) (hfC : C ∉ fp)
    (keep : ∀ b u, s.heap.get? b = some u → h1.get? b = some u) (hns : h1.Ns C m) (hDo : h1.get? D = some { cls := .type "list", data := .seq ([] : List Value).toArray 0 }) :
    Inv (compCx X N sc cl C s H fp) [] (List.replicate k none ++ σ) (upd H D (.lst [])) { s with heap := h1, toks := t } := by
  unfold scOk at hsc
  rw [Bool.and_eq_true, List.all_eq_true] at hsc
  obtain ⟨hk, hall⟩ := hsc
  have hkind : sc.kind = .function := by simpa using hk
  obtain ⟨hlen, hat⟩ := nmOk_at hnm
  have hcell : ∀ y ∈ sc.names, y.2 ≠ .cell := fun y hy e => by have := hall y hy; rw [e] at this; cases this
  have frees : ∀ x k', (relabel sc X.env).names.lookup x = some k' → k' = .cell ∨ k' = .free → sc.names.lookup x = some .free := fun x k' h hk' => by
    obtain ⟨k0, h0, hk0⟩ := relabel_look h
    rcases hk0 with e | ⟨e, _⟩
    · subst e
      rcases hk' with e | e
      · subst e; exact absurd rfl (hcell _ (mem_of_look h0))
      · subst e; exact h0
    · subst e; exact h0
  have hHD : H D = none := I.hok.fresh hD
  have hHC : H C = none := I.hok.fresh hC
  refine ⟨⟨I.mod, hkind, I.ok.glob, I.ok.blt, hC, fun x y c e1 e2 => I.ok.inj x y c (hc1 x c e1) (hc1 y c e2), fun x hx => ?_, fun x c e => (nomatch e), I.ok.hd, I.ok.frames, .inl rfl, fun b hb => ⟨fun (e : b = C) => hfC (e ▸ hb), fun x c e => (hfp b hb).2.2.2.2.1 x c (hc1 x c e)⟩,
    I.bs, Nat.le_trans I.ok.bsz I.sz, fun b o e hb => ?_, fun b hb hb' => ?_, I.stack, I.stkFree⟩, rfl, I.bare, Un.laid keep hD hHD, ⟨m, hns, fun i x v e1 e2 e3 => ?_⟩, fun x c e => ?_, ?_, fun x c e => ?_, fun p hp => (nomatch hp), I.hok.laid keep hD ?_, ?_⟩
  · have h : ∃ k', (relabel sc X.env).names.lookup x = some k' ∧ (k' = .cell ∨ k' = .free) := by
      rcases hx with e | e
      · exact ⟨_, e, .inl rfl⟩
      · exact ⟨_, e, .inr rfl⟩
    obtain ⟨k', h1', h2'⟩ := h
    exact hc2 _ (mem_of_look (frees x k' h1' h2')) rfl
  · have hb' : b ∈ fp := hb
    rcases (hfp b hb').2.2.2.1 with z | z
    · exact I.ok.noex b o e z
    · exact absurd (Nat.lt_of_lt_of_le (Heap.lt_size e) (Nat.le_trans I.ok.bsz z)) (Nat.lt_irrefl _)
  · have hb0 : b ∈ frs X.stack := hb'
    rcases List.mem_cons.mp (I.stkSub b hb0) with z | z
    · exact (hfp b hb).2.1 z
    · exact (hfp b hb).2.2.1 z
  · -- a name that is seen
    have hik : k ≤ i := by
      rcases Nat.lt_or_ge i k with z | z
      · rw [List.getElem?_append_left (by simpa using z), List.getElem?_replicate] at e2
        split at e2 <;> cases e2
      · exact z
    rw [List.getElem?_append_right (by simpa using hik), List.length_replicate] at e2
    have e1' : (N.drop k)[i - k]? = some x := by
      rw [List.getElem?_drop, show k + (i - k) = i by omega]; exact e1
    have vis : sc.names.lookup x = some .free → ∃ k', (relabel sc X.env).names.lookup x = some k' ∧ (k' = .cell ∨ k' = .free) := fun h0 => by
      have e3' : Vis (relabel sc X.env) x := e3
      rcases e3' with z | z | z
      · obtain ⟨k0, h1', h2'⟩ := relabel_look z
        rw [h0] at h1'; cases h1'
        rcases h2' with q | ⟨_, q⟩ <;> cases q
      · exact ⟨_, z, .inl rfl⟩
      · exact ⟨_, z, .inr rfl⟩
    have no : ∀ k0, sc.names.lookup x = some k0 → ∃ k', (relabel sc X.env).names.lookup x = some k' → True := fun _ _ => ⟨.local, fun _ => trivial⟩
    rcases hat _ x e1' with ⟨hX, h0⟩ | h0 | h0
    · obtain ⟨k', hk1, hk2⟩ := vis h0
      have hf := hall _ (mem_of_look h0)
      have hf' : X.env.kindOf x = some .cell ∨ X.env.kindOf x = some .free := by
        simpa using hf
      obtain ⟨mX, hnX, hlX⟩ := I.loc
      have visX : Vis X.env.scope x := hf'.elim (fun z => .inr (.inl z)) fun z => .inr (.inr z)
      obtain ⟨u, r, l⟩ := hlX _ x v hX e2 visX
      refine ⟨u, r, .inr ⟨?_, ?_⟩⟩
      · rcases hk2 with z | z
        · subst z; exact .inl hk1
        · subst z; exact .inr hk1
      · obtain ⟨c, hc⟩ := hc2 _ (mem_of_look h0) rfl
        refine ⟨c, hc, ?_⟩
        rcases l with ⟨z, _⟩ | ⟨_, c', hc', hcell'⟩
        · rcases hf' with q | q <;> (rw [z] at q; cases q)
        · have := hc1 x c hc
          rw [hc'] at this; cases this
          exact hcell'.keeps keep
    · have e3' : Vis (relabel sc X.env) x := e3
      rcases e3' with z | z | z <;> (obtain ⟨k0, z1, _⟩ := relabel_look z; rw [h0] at z1; cases z1)
    · have e3' : Vis (relabel sc X.env) x := e3
      rcases e3' with z | z | z <;> (obtain ⟨k0, z1, z2⟩ := relabel_look z; rw [h0] at z1; cases z1; rcases z2 with q | ⟨q, _⟩ <;> cases q)
  · obtain ⟨v, z⟩ := I.cell x c (hc1 x c e)
    exact ⟨v, z.keeps keep⟩
  · show upd H D (.lst []) C = none
    rw [upd_ne (Ne.symm hDC)]; exact hHC
  · obtain ⟨v, z⟩ := I.cell x c (hc1 x c e)
    rw [upd_ne (Nat.ne_of_lt (Nat.lt_of_lt_of_le z.lt hD))]
    exact I.freeC x c (hc1 x c e)
  · exact ⟨Nat.zero_le _, [], 0, .nil, hDo⟩
  · show (List.replicate k none ++ σ).length = N.length
    rw [List.length_append, List.length_replicate, I.len, ← hlen, List.length_drop]
    omega

/-- the tests of a comprehension -/
def PIfs (X : Cx) (ifs : List Expr) (t : TT) : Prop :=
  ∀ (pins : List (Addr × Obj)) (s : Shared) (σ : St) (H : Hp) (Q : Bool → Hp → Prop), Inv X pins σ H s → t σ H Q →
    wpAny (model X.prog X.w) X.A (forIn ifs true fun c r => if r = true then (do let ok ← isTrue c X.env (eval c X.env); pure (ForInStep.yield ok)) else pure (ForInStep.yield r)) (TP X pins σ Q) X.xe s
theorem pifs_nil : PIfs X [] (fun σ H Q => Q true H) := fun pins s σ H Q I q => wpAny_pure ⟨H, I, q⟩
section
variable {prog : Program} {w : World} {A : Around} {R : Result → Shared → Prop}
theorem compLoop_by {elt target iter : Expr} {ifs : List Expr} {scope : Scope} {pos : Pos} {it acc : Value} {env : Env} {s : Shared} (I : Nat → Shared → Prop)
    (turn : ∀ n s, I n s → wpAny (model prog w) A (pyNext it) (fun r s₁ => match r with
      | none => R (.ok .next) s₁
      | some v => wpAny (model prog w) A (letOwnedTupleGo target it v) (fun _ s₀ => wpAny (model prog w) A (assign target env v) (fun _ s₂ =>
          wpAny (model prog w) A (forIn ifs true fun c r => if r = true then (do let ok ← isTrue c env (eval c env); pure (ForInStep.yield ok)) else pure (ForInStep.yield r)) (fun ok s₃ =>
            if ok = true then wpAny (model prog w) A (eval elt env) (fun x s₄ =>
              wpAny (model prog w) A (call (.builtin "list.append") [acc, x]) (fun _ s₅ => ∃ m, m < n ∧ I m s₅) (fun _ _ => False) s₄) (fun _ _ => False) s₃
            else ∃ m, m < n ∧ I m s₃) (fun _ _ => False) s₂) (fun _ _ => False) s₀) (fun _ _ => False) s₁) (fun _ _ => False) s)
    (n : Nat) (h : I n s) :
    codeAny (model prog w) A (.compLoop (.ListComp elt [⟨target, iter, ifs, 0⟩] scope pos) 0 it acc env) R s := by
  refine codeAny_loop rfl I (fun n s hI => ?_) n h
  show wpAny _ A ((compTurn (.ListComp elt [⟨target, iter, ifs, 0⟩] scope pos) 0 it acc env).onRaise (fun x => do noteFrame x env; theTreesLotGoes x)) _ _ s
  refine wpAny_noted ?_
  rw [compTurn_list]
  refine wpAny_bind (wpAny_standAt (wpAny_bind (wpAny_mono (turn n s hI) (fun r s₁ h₁ => ?_) fun _ _ h' => h'.elim)))
  cases r with
  | none => exact wpAny_pure h₁
  | some v =>
    refine wpAny_bind (wpAny_mono h₁ (fun _ s₀ h₀ => ?_) fun _ _ h' => h'.elim)
    refine wpAny_bind (wpAny_mono h₀ (fun _ s₂ h₂ => wpAny_bind (wpAny_mono h₂ (fun ok s₃ h₃ => ?_) fun _ _ h' => h'.elim)) fun _ _ h' => h'.elim)
    cases ok with
    | false => exact wpAny_pure ⟨rfl, h₃⟩
    | true =>
      rw [if_pos rfl] at h₃
      exact wpAny_bind (wpAny_bind (wpAny_mono h₃ (fun x s₄ h₄ => wpAny_bind (wpAny_mono h₄ (fun _ s₅ h₅ => wpAny_pure (wpAny_pure ⟨rfl, h₅⟩)) fun _ _ h' => h'.elim)) fun _ _ h' => h'.elim))
end
/-- the reading: W is what holds between the turns -/
def tComp (k : Nat) (wi : TI) (g : TG) (tc : TT) (te : TE) (σ : St) (H : Hp) (Q : VK) : Prop := wi σ H fun J H1 => ∀ D, H1 D = none → ∃ W : Nat → Nat → St → Hp → Prop,
  (∃ m, W 0 m (List.replicate k none ++ σ) (upd H1 D (.lst []))) ∧ ∀ i m σ' H', W i m σ' H' → (J.stop i H' ∧ Q (.ref D) H') ∨ (J.go i H' ∧ ∀ x H2, J.yld i H' x H2 → g x σ' H2 fun σ3 H3 => tc σ3 H3 fun b H4 =>
    if b = true then te σ3 H4 fun y H5 => ∃ ys, H5 D = some (.lst ys) ∧ ys.length < sizeLine ∧ ∃ m', m' < m ∧ W (i + 1) m' σ3 (upd H5 D (.lst (ys ++ [y]))) else ∃ m', m' < m ∧ W (i + 1) m' σ3 H4)
theorem comp_core {elt tg iter : Expr} {ifs : List Expr} {sc : Scope} {pos pos' : Pos} {N : List Str} {k : Nat} {wi : TI} {g : TG} {tc : TT} {te : TE} {use : Option (Value → Sem Unit)} {QQ : Value → Shared → Prop} {Q : VK} (hcalm : X.calm = true) (hi : PI X tg iter wi) (hsc : scOk X.env sc = true)
    (hnm : nmOk sc (N.drop k) X.N = true) (hNl : k ≤ N.length) (hin : ∀ cl C s H fp, PG (compCx X N sc cl C s H fp) tg g ∧ PIfs (compCx X N sc cl C s H fp) ifs tc ∧ PE (compCx X N sc cl C s H fp) elt te)
    (hs : ∀ x, foldedSetIterable iter X.env x = pure x) (I : Inv X pins σ H s) (h : tComp k wi g tc te σ H Q)
    (hq : ∀ s' H' D C m, Inv X pins σ H' s' → Q (.ref D) H' → s'.heap.Ns C m → FpOk X pins H' C → compPost (model X.prog X.w) X.A X.xe use QQ (.ref D) C (.ok .next) s') :
    wpAny (model X.prog X.w) X.A (comprehension (.ListComp elt [⟨tg, iter, ifs, 0⟩] sc pos) sc X.env pos' (newList []) false (eval iter X.env) use) QQ X.xe s := by
  have hsc' := hsc
  unfold scOk at hsc'
  rw [Bool.and_eq_true, List.all_eq_true] at hsc'
  obtain ⟨hk, hall⟩ := hsc'
  have hkind : sc.kind = .function := by simpa using hk
  have hcell : ∀ y ∈ sc.names, y.2 ≠ .cell := fun y hy e => by have := hall y hy; rw [e] at this; cases this
  have hnames : ∀ y ∈ sc.names, y.2 = .local → sc.names.lookup y.1 = some .local := fun y hy e => by
    have := hall y hy
    rw [e] at this
    simpa using this
  obtain ⟨cl, hcl, hc1, hc2⟩ := clos_ok (sc := sc) (env := X.env) fun y hy e => I.ok.has y.1 (by
    have := hall y hy
    rw [e] at this
    simpa using this)
  refine wpAny_comprehension_free (use := use) rfl hs hcl hkind hnames (thn (hi pins s σ H _ I h) fun v s1 h1 => thn h1 fun itv s2 h2 => ?_)
  obtain ⟨it, fp, tn, J, H2, e, I2, T, st2, f2, hW⟩ := h2
  subst e
  refine wpAny_newObj_type (wpAny_newFunctionEnv hcell (by intro y hy; simp at hy) (fun h₁ hns₁ hsb₁ => ?_) hkind)
  dsimp only at hns₁ hsb₁ ⊢
  generalize hP : s2.heap.push { cls := .type "list", dict := none, data := .seq ([] : List Value).toArray } = P at hns₁ hsb₁ ⊢
  have hCs : P.objs.size = s2.heap.objs.size + 1 := by rw [← hP, Heap.size_push]
  have old : ∀ b o, s2.heap.get? b = some o → h₁.get? b = some o := fun b o e =>
    hsb₁.extBut b o (by rw [hCs]; exact Nat.ne_of_lt (Nat.lt_succ_of_lt (Heap.lt_size e))) (Heap.get?_push_of_some _ (hP ▸ Heap.get?_push_of_some _ e))
  have hDC : s2.heap.objs.size ≠ P.objs.size := by rw [hCs]; exact Nat.ne_of_lt (Nat.lt_succ_self _)
  have hDo : h₁.get? s2.heap.objs.size = some { cls := .type "list", data := .seq ([] : List Value).toArray 0 } := hsb₁.extBut _ _ hDC (Heap.get?_push_of_some _ (hP ▸ Heap.get?_push_size _ rfl))
  have hCle : s2.heap.objs.size ≤ P.objs.size := by rw [hCs]; exact Nat.le_succ _
  have lt_fp : ∀ b ∈ fp, b < s2.heap.objs.size := fun b hb => let ⟨o, ho, _⟩ := T.obj 0 _ st2 b hb; Heap.lt_size ho
  have hfC : P.objs.size ∉ fp := fun hb => absurd (Nat.lt_of_lt_of_le (lt_fp _ hb) hCle) (Nat.lt_irrefl _)
  have IY := I2.block (N := N) (sc := sc) (cl := cl) (C := P.objs.size) (D := s2.heap.objs.size) (fp := fp) (k := k) (t := s2.toks + ([] : List (Str × Value)).length) hsc hnm hNl hc1 hc2 f2 (Nat.le_refl _) hCle hDC hfC old hns₁ hDo
  obtain ⟨hG, hT, hE⟩ := hin cl P.objs.size s2 H2 fp
  generalize hY : compCx X N sc cl P.objs.size s2 H2 fp = Y at IY hG hT hE
  have hYm : Y.prog = X.prog ∧ Y.w = X.w ∧ Y.K = X.K ∧ Y.A = X.A ∧ Y.env = compEnvC sc cl P.objs.size X.env ∧ Y.calm = X.calm ∧ (Y.xe = fun _ _ => False) := by rw [← hY]; exact ⟨rfl, rfl, rfl, rfl, rfl, rfl, rfl⟩
  obtain ⟨y1, y2, y3, y4, y5, y6, y7⟩ := hYm
  have stat : ∀ {H' : Hp}, (∀ b ∈ fp, H' b = none) → ∀ b ∈ fp, FpOk Y [] H' b := fun {H'} hn b hb => by
    rw [← hY]
    refine ⟨hn b hb, fun (e : b = P.objs.size) => hfC (e ▸ hb), fun hb' => ?_, .inl hb, fun x c e => (f2 b hb).2.2.2.2.1 x c (hc1 x c e), fun p hp => (nomatch hp)⟩
    rcases List.mem_cons.mp (I2.stkSub b hb') with z | z
    · exact (f2 b hb).2.1 z
    · exact (f2 b hb).2.2.1 z
  obtain ⟨W, ⟨m0, w0⟩, turn⟩ := hW s2.heap.objs.size (I2.hok.fresh (Nat.le_refl _))
  have hfp0 : ∀ b ∈ fp, upd H2 s2.heap.objs.size (.lst []) b = none := fun b hb => by rw [upd_ne (Nat.ne_of_lt (lt_fp b hb))]; exact (f2 b hb).1
  have st3 : tn 0 h₁ := T.keep _ _ _ st2 fun b _ o e => old b o e
  have loop : codeAny (model X.prog X.w) X.A (.compLoop (.ListComp elt [⟨tg, iter, ifs, 0⟩] sc pos) 0 (.ref it) (.ref s2.heap.objs.size) (compEnvC sc cl P.objs.size X.env)) (compPost (model X.prog X.w) X.A X.xe use QQ (.ref s2.heap.objs.size) P.objs.size)
      { s2 with heap := h₁, toks := s2.toks + ([] : List (Str × Value)).length } := by
    refine compLoop_by (fun n s' => ∃ i σ' H', Inv Y [] σ' H' s' ∧ tn i s'.heap ∧ (∀ b ∈ fp, H' b = none) ∧ W i n σ' H') ?_ m0 ⟨0, _, _, IY, st3, hfp0, w0⟩
    rintro n s3 ⟨i, σ3, H3, I3, st3, fr3, w3⟩
    rcases turn i n σ3 H3 w3 with ⟨stop, qn⟩ | ⟨go, step⟩
    · have q := T.done Y y1 y2 y3 (y6.trans hcalm) i [] s3 σ3 H3 (fun _ _ => False) I3 (stat fr3) st3 stop
      rw [y4] at q
      refine thn q fun r s4 ⟨hr, I4⟩ => ?_
      subst hr
      have IX : Inv X pins σ H3 s4 := by
        have b4 := I4.base
        have o4 := I4.os
        have k4 := I4.hok
        rw [← hY] at b4 o4 k4
        refine I2.call' (ch := fp) o4 b4 k4 I4.bare fun b hb => ?_
        exact ⟨(f2 b hb).2.2.2.1, (f2 b hb).2.1, (f2 b hb).2.2.2.2.1, (f2 b hb).2.2.2.2.2⟩
      obtain ⟨mC, hmC, _⟩ := I4.loc
      have f4 := I4.free
      rw [y5] at hmC f4
      exact hq s4 H3 _ P.objs.size mC IX qn hmC (I2.fpOk hCle f4)
    · have q := T.item Y y1 y2 y3 (y6.trans hcalm) i [] s3 σ3 H3 (fun _ _ => False) I3 (stat fr3) st3 go
      rw [y4] at q
      refine thn q fun r s4 ⟨u, hr, h4⟩ => ?_
      subst hr
      refine thn h4 fun _ s5 ⟨x, H5, I5, r5, yl5, st5, fr5⟩ => ?_
      have I5' := I5.pinned (stat fr5) (T.obj _ _ st5)
      have again : ∀ {σ7 : St} {H7 : Hp} {s7 : Shared} {m : Nat}, Inv Y ([] ++ pinsAt fp s5.heap) σ7 H7 s7 → W (i + 1) m σ7 H7 → ∃ i σ' H', Inv Y [] σ' H' s7 ∧ tn i s7.heap ∧ (∀ b ∈ fp, H' b = none) ∧ W i m σ' H' := fun {σ7 H7 s7 m} I7 w7 => by
        refine ⟨i + 1, σ7, H7, I7.unpinned, T.keep _ _ _ st5 fun b hb o e => (I7.pin (b, o) (List.mem_append_right _ (List.mem_append_right _ (mem_pinsAt hb e)))).1, fun b hb => ?_, w7⟩
        obtain ⟨o, e, d⟩ := T.obj _ _ st5 b hb
        exact (I7.pin (b, o) (List.mem_append_right _ (List.mem_append_right _ (mem_pinsAt hb e)))).2.1
      have qa := hG _ s5 σ3 H5 x u _ I5' r5 (step x H5 yl5)
      rw [y1, y2, y4, y5, y7] at qa
      refine thn qa fun _ s6 ⟨σ6, H6, I6, q6⟩ => ?_
      have qt := hT _ s6 σ6 H6 _ I6 q6
      rw [y1, y2, y4, y5, y7] at qt
      refine thn qt fun b s7 ⟨H7, I7, q7⟩ => ?_
      cases b with
      | false =>
        rw [if_neg Bool.false_ne_true] at q7 ⊢
        obtain ⟨m', hm, w7⟩ := q7
        exact ⟨m', hm, again I7 w7⟩
      | true =>
        rw [if_pos rfl] at q7 ⊢
        have qe := hE _ s7 σ6 H7 _ I7 q7
        rw [y1, y2, y4, y5, y7] at qe
        refine thn qe fun yv s8 ⟨y, H8, I8, r8, ys, hD8, hl8, m', hm, w8⟩ => ?_
        have qp := mt_append (X := Y) _ s8 σ6 H8 (.ref s2.heap.objs.size) [y] (.ref s2.heap.objs.size) [yv] (fun _ H9 => W (i + 1) m' σ6 H9) I8 rfl (.cons r8 .nil) ⟨_, ys, y, rfl, rfl, hD8, hl8, w8⟩
        rw [y1, y2, y4, y7] at qp
        refine thn qp fun _ s9 ⟨_, H9, I9, _, w9⟩ => ?_
        exact ⟨m', hm, again I9 w9⟩
  exact codeAny_compStart_list loop (T.self _ 0 _ _ _ st3 loop)
theorem pe_comp {elt tg iter : Expr} {ifs : List Expr} {sc : Scope} {pos : Pos} {N : List Str} {k : Nat} {wi : TI} {g : TG} {tc : TT} {te : TE} (hcalm : X.calm = true) (hi : PI X tg iter wi) (hsc : scOk X.env sc = true)
    (hnm : nmOk sc (N.drop k) X.N = true) (hNl : k ≤ N.length) (hin : ∀ cl C s H fp, PG (compCx X N sc cl C s H fp) tg g ∧ PIfs (compCx X N sc cl C s H fp) ifs tc ∧ PE (compCx X N sc cl C s H fp) elt te)
    (hs : ∀ x, foldedSetIterable iter X.env x = pure x := by intro _; rfl) : PE X (.ListComp elt [⟨tg, iter, ifs, 0⟩] sc pos) (tComp k wi g tc te) := by
  intro pins s σ H Q I h
  rw [eval_ListComp]
  refine comp_core (use := none) hcalm hi hsc hnm hNl hin hs I h fun s' H' D C m I' q hn f => ⟨m, hn, fun h' hs' => ?_⟩
  exact ⟨.ref D, H', I'.turned (it := C) (t' := s'.toks) (fun b o hb e => hs'.extBut b o hb e) f.1 f.2.1 f.2.2.2.1 f.2.2.2.2.1 f.2.2.2.2.2, rfl, q⟩
theorem ps_setComp {elt tg iter : Expr} {ifs : List Expr} {sc : Scope} {pos pos' spos : Pos} {N : List Str} {k i : Nat} {x : Str} {wi : TI} {g : TG} {tc : TT} {te : TE} (hN : X.N.Nodup) (hiN : X.N[i]? = some x) (hx : Loc X.env.scope x) (hcalm : X.calm = true) (hi : PI X tg iter wi) (hsc : scOk X.env sc = true)
    (hnm : nmOk sc (N.drop k) X.N = true) (hNl : k ≤ N.length) (hin : ∀ cl C s H fp, PG (compCx X N sc cl C s H fp) tg g ∧ PIfs (compCx X N sc cl C s H fp) ifs tc ∧ PE (compCx X N sc cl C s H fp) elt te)
    (hsw : swapsWith (.ListComp elt [⟨tg, iter, ifs, 0⟩] sc pos) (some (.Name x pos')) spos.line X.env = pure true)
    (hf : X.fn x = true ∨ X.env.scope.names.lookup x = some .local) (hs : ∀ x, foldedSetIterable iter X.env x = pure x := by intro _; rfl) :
    PS X (.Assign [.Name x pos'] (.ListComp elt [⟨tg, iter, ifs, 0⟩] sc pos) spos) (fun D σ H => tComp k wi g tc te σ H fun v H1 => D.nx (σ.set i (some v)) H1) := by
  intro pins s σ H D I h
  rw [exec_Assign_Name_used _ _ _ _ hsw]
  refine wpAny_bind (wpAny_standAt (wpAny_bind ?_))
  show wpAny _ X.A (do let _ ← comprehension (.ListComp elt [⟨tg, iter, ifs, 0⟩] sc pos) sc X.env _ (newList []) false (eval iter X.env) (some (assign (.Name x pos') X.env))) _ _ s
  refine wpAny_bind (wpAny_mono (comp_core (use := some (assign (.Name x pos') X.env)) (QQ := fun _ s' => SP X pins D .next s') hcalm hi hsc hnm hNl hin hs I h fun s' H' D' C m I' q hn f => ?_) (fun _ s' hq => wpAny_pure (wpAny_pure hq)) fun _ _ e => e)
  show wpAny _ X.A (assign (.Name x pos') X.env (.ref D')) _ _ _
  refine wpAny_assign_Name (store_ok2 I' hN hiN hx (v := .ref D') rfl (fun s2 I2 ⟨a, hsb, ha⟩ => ?_) hf)
  have hCa : C ≠ a := fun e => by
    rcases ha with z | z
    · exact f.2.1 (e.trans z)
    · exact f.2.2.2.2.1 x a z e.symm
  refine ⟨m, hn.sameBut hsb hCa, fun h' hs' => ⟨_, H', ?_, q⟩⟩
  exact I2.turned (it := C) (t' := s2.toks) (fun b o hb e => hs'.extBut b o hb e) f.1 f.2.1 f.2.2.2.1 f.2.2.2.2.1 f.2.2.2.2.2
end
end L2

end
section
set_option Elab.async false
set_option linter.all false
set_option maxRecDepth 100000
set_option maxHeartbeats 1000000
namespace VS
open PySem PySem.Spec PyProof.Rows L2

/-- the target names the block's own slots alone -/
def TgIn (k : Nat) (g : Tg) : Prop := ∀ t η η', g t η = some η' → η'.length = η.length ∧ ∀ i, k ≤ i → η'[i]? = η[i]?
theorem tin_var {k i : Nat} (h : i < k) : TgIn k (gVar i) := fun t η η' e => by
  unfold gVar at e
  split at e
  · cases e
    exact ⟨by simp, fun j hj => by rw [List.getElem?_set_ne (by omega)]⟩
  · cases e
theorem imms_at : ∀ (l : List T) {i : Nat} {t : T}, imms l = true → l[i]? = some t → imm t = true
  | [], _, _, _, h => by simp at h
  | x :: l, 0, t, h, e => by
    simp only [imms, Bool.and_eq_true] at h
    simp at e; rw [← e]; exact h.1
  | x :: l, i + 1, t, h, e => by
    simp only [imms, Bool.and_eq_true] at h
    exact imms_at l h.2 (by simpa using e)
/-- the test of a comprehension, if there is one -/
def tC (G : Gx) : Option Ex → TT
  | none => fun σ H Q => Q true H
  | some c => tT G c
section
variable {G : Gx} {Φ : Fps} {η : VS.Env} {σ : L2.St} {H : Hp} {k : Nat}
theorem sh_at {i : Nat} {c : Cell} : (List.replicate k none ++ η)[i]? = some (some c) ↔ k ≤ i ∧ η[i - k]? = some (some c) := by
  rcases Nat.lt_or_ge i k with h | h
  · rw [List.getElem?_append_left (by simpa using h), List.getElem?_replicate]
    constructor
    · intro e; split at e <;> cases e
    · intro ⟨e, _⟩; omega
  · rw [List.getElem?_append_right (by simpa using h), List.length_replicate]
    exact ⟨fun e => ⟨h, e⟩, fun e => e.2⟩
theorem sh_ow {a : Addr} : InOw (fun i => Φ (i - k)) (List.replicate k none ++ η) a ↔ InOw Φ η a := by
  constructor
  · rintro ⟨j, t, h1, h2⟩
    exact ⟨j - k, t, (sh_at.mp h1).2, h2⟩
  · rintro ⟨j, t, h1, h2⟩
    refine ⟨j + k, t, sh_at.mpr ⟨Nat.le_add_left _ _, by rw [Nat.add_sub_cancel]; exact h1⟩, ?_⟩
    show a ∈ Φ (j + k - k)
    rw [Nat.add_sub_cancel]; exact h2
theorem sh_pu {a : Addr} : InPu (fun i => Φ (i - k)) (List.replicate k none ++ η) a ↔ InPu Φ η a := by
  constructor
  · rintro ⟨j, t, h1, h2⟩
    exact ⟨j - k, t, (sh_at.mp h1).2, h2⟩
  · rintro ⟨j, t, h1, h2⟩
    refine ⟨j + k, t, sh_at.mpr ⟨Nat.le_add_left _ _, by rw [Nat.add_sub_cancel]; exact h1⟩, ?_⟩
    show a ∈ Φ (j + k - k)
    rw [Nat.add_sub_cancel]; exact h2
theorem SR.sh (s : SR G Φ η σ H) : SR G (fun i => Φ (i - k)) (List.replicate k none ++ η) (List.replicate k none ++ σ) H := by
  refine ⟨by simp [s.len], fun i c h => ?_, fun i t h => ?_, fun i j t c h1 h2 n => ?_⟩
  · obtain ⟨h1, h2⟩ := sh_at.mp h
    obtain ⟨v, g1, g2⟩ := s.rp _ c h2
    refine ⟨v, ?_, g2⟩
    rw [List.getElem?_append_right (by simpa using h1), List.length_replicate]
    exact g1
  · exact s.nd _ t (sh_at.mp h).2
  · obtain ⟨a1, a2⟩ := sh_at.mp h1
    obtain ⟨b1, b2⟩ := sh_at.mp h2
    exact s.sep _ _ t c a2 b2 (by omega)
/-- fewer names -/
theorem SR.less {η' : VS.Env} (s : SR G Φ η' σ H) (hl : η.length = η'.length) (h : ∀ (i : Nat) c, η[i]? = some (some c) → η'[i]? = some (some c)) : SR G Φ η σ H :=
  ⟨hl.trans s.len, fun i c e => s.rp i c (h i c e), fun i t e => s.nd i t (h i _ e), fun i j t c e1 e2 n => s.sep i j t c (h i _ e1) (h j _ e2) n⟩
/-- a change at D, which no name reaches -/
theorem SR.off {D : Addr} {o : HO} (s : SR G Φ η σ H) (m : Mut (H D) ∨ H D = none) (n1 : ¬ InPu Φ η D) (n2 : ¬ InOw Φ η D) : SR G Φ η σ (upd H D o) := by
  refine ⟨s.len, fun i c e => ?_, s.nd, s.sep⟩
  obtain ⟨v, g1, g2⟩ := s.rp i c e
  refine ⟨v, g1, g2.keep (Kept.upd m) fun b hb o' ho => ?_⟩
  rw [upd_ne fun z => ?_]
  · exact ho
  · subst z
    cases c with
    | pu t => exact n1 ⟨i, t, e, hb⟩
    | ow t => exact n2 ⟨i, t, e, hb⟩
theorem joins_snoc : ∀ (l : List Val) (v : Val), joins (l ++ [v]) = (joins l).join v.1
  | [], (m, t) => by cases m <;> rfl
  | (m, t) :: l, v => by
    show m.join (joins (l ++ [v])) = (m.join (joins l)).join v.1
    rw [joins_snoc l v]
    generalize joins l = q
    generalize v.1 = r
    cases m <;> cases q <;> cases r <;> rfl
theorem Fp.join2 {m n : Md} {F F' : List Addr} (f : Fp Φ η H m F) (g : Fp Φ η H n F') (d : n = .fr → ∀ a ∈ F, a ∉ F') : Fp Φ η H (m.join n) (F ++ F') := by
  have both : ∀ {P : Addr → Prop}, (∀ a ∈ F, P a) → (∀ a ∈ F', P a) → ∀ a ∈ F ++ F', P a := fun p q a h => (List.mem_append.mp h).elim (p a) (q a)
  cases m <;> cases n
  · exact ⟨List.nodup_append.mpr ⟨f.1, g.1, fun a ha b hb e => d rfl a ha (e ▸ hb)⟩, both f.2 g.2⟩
  · exact both (fun a ha => .inl (f.2 a ha)) g
  · exact both (fun a ha => .inl (f.2 a ha)) g
  · exact both f fun a ha => .inl (g.2 a ha)
  · exact both f g
  · exact both (fun a ha => (f a ha).imp id .inl) g
  · exact both f fun a ha => .inl (g.2 a ha)
  · exact both f fun a ha => (g a ha).imp id .inl
  · exact both f g
theorem Fp.cons1 {m : Md} {F : List Addr} {D : Addr} (f : Fp Φ η H m F) (h : H D = none) (d : D ∉ F) : Fp Φ η H m (D :: F) := by
  have all : ∀ {P : Addr → Prop}, P D → (∀ a ∈ F, P a) → ∀ a ∈ D :: F, P a := fun p q a ha => (List.mem_cons.mp ha).elim (fun e => e ▸ p) (q a)
  cases m
  · exact ⟨List.nodup_cons.mpr ⟨d, f.1⟩, all h f.2⟩
  · exact all (.inl h) f
  · exact all (.inl h) f
end
section
variable {G : Gx} {k : Nat} {tg : Tg} {ci : Its} {cond : Option Ex} {ce : Ex}
theorem comp_of {σ : L2.St} {H : Hp} {Q : VK} (hin : TgIn k tg) (h : tE G (eComp k tg ci cond ce) σ H Q) : tComp k (tI G ci) (tG G tg) (tC G cond) (tE G ce) σ H Q := by
  obtain ⟨Φ, η, m, r, s, e, kq⟩ := h
  unfold eComp at e
  obtain ⟨⟨mi, l⟩, el, e1⟩ := Option.bind_eq_some_iff.mp e
  dsimp only at e1
  split at e1
  · rename_i hok
    obtain ⟨all, ea, e2⟩ := Option.bind_eq_some_iff.mp e1
    unfold mkL at e2
    split at e2
    · rename_i hlen
      cases e2
      refine ⟨Φ, η, mi, l, s, el, fun J H1 C e3 ok fc D hD => ?_⟩
      have hHD : H D = none := e3.free hD
      let η0 : VS.Env := List.replicate k none ++ η
      have good : ∀ {t : T} {i : Nat} {H' H2 : Hp} {v : V} {F : List Addr}, l[i]? = some t → Rp G H2 v t F → (∀ a, H1 a ≠ none → H' a ≠ none) → (∀ a ∈ F, a ∈ C ∨ H' a = none) → ∀ a ∈ F, (H a = none ∨ InPu Φ η a) ∧ ¬ InOw Φ η a := fun {t i H' H2 v F} hi rF keep hF a ha => by
        have dom : ∀ {b}, H b ≠ none → H' b ≠ none := fun {b} hb => keep b fun z => hb (e3.free z)
        rcases hF a ha with z | z
        · rcases fc a z with q | q | ⟨q, w⟩
          · exact ⟨.inl q, fun w => Mut.ne_none (s.ow_dom w) q⟩
          · exact ⟨.inr q, fun w => s.ow_pu w q⟩
          · subst q
            have : imm t = true := by
              exact imms_at l hok hi
            rw [rF.imm this] at ha
            simp at ha
        · have hz : H a = none := Classical.byContradiction fun q => dom q z
          exact ⟨.inl hz, fun w => Mut.ne_none (s.ow_dom w) hz⟩
      refine ⟨fun i n σ' H' => n = l.length - i ∧ ∃ Φ1 vs Fs xs rest, SR G Φ1 η0 σ' H' ∧ (∀ a, InOw Φ1 η0 a → InOw Φ η a) ∧ (∀ a, InPu Φ1 η0 a → H a = none ∨ InPu Φ η a) ∧ ¬ InPu Φ1 η0 D ∧ ¬ InOw Φ1 η0 D ∧ Kept H1 H' ∧
          (∀ a o, a ≠ D → H1 a = some o → H' a = some o) ∧ H' D = some (.lst xs) ∧ RpL G H' xs (trees vs) Fs ∧ D ∉ Fs.flatten ∧ Fp Φ η H (joins vs) Fs.flatten ∧ compL tg cond ce η0 (l.drop i) = some rest ∧ vs ++ rest = all, ?_, ?_⟩
      · refine ⟨l.length - 0, rfl, fun i => Φ (i - k), [], [], [], all, ?_, fun a h => sh_ow.mp h, fun a h => .inr (sh_pu.mp h), fun h => ?_, fun h => ?_, Kept.upd (.inr hD), fun a o n h => by rw [upd_ne n]; exact h, upd_same, .nil, by simp, Fp.nil, by rw [List.drop_zero]; exact ea, rfl⟩
        · exact ((s.same e3).sh).off (.inr hD) (fun h => Mut.ne_none (s.pu_dom (sh_pu.mp h)) hHD) fun h => Mut.ne_none (s.ow_dom (sh_ow.mp h)) hHD
        · exact Mut.ne_none (s.pu_dom (sh_pu.mp h)) hHD
        · exact Mut.ne_none (s.ow_dom (sh_ow.mp h)) hHD
      · rintro i n σ' H' ⟨rfl, Φ1, vs, Fs, xs, rest, s1, ow1, pu1, np1, no1, kp, old, hD', rp, nD, fp, er, ev⟩
        have keepdom : ∀ a, H1 a ≠ none → H' a ≠ none := fun a ha z => by
          by_cases q : a = D
          · subst q; rw [hD'] at z; cases z
          · cases e : H1 a with
            | none => exact ha e
            | some o => rw [old a o q e] at z; cases z
        obtain ⟨go, stop⟩ := ok.run H' kp fun a ha o ho => old a o (fun z => ok.dom a ha (z ▸ hD)) ho
        cases hit : l[i]? with
        | none =>
          have hl : l.length ≤ i := List.getElem?_eq_none_iff.mp hit
          left
          refine ⟨stop i hl, ?_⟩
          rw [List.drop_of_length_le hl] at er
          cases (show some ([] : List Val) = some rest from er)
          rw [List.append_nil] at ev
          subst ev
          refine kq (.ref D) H' (D :: Fs.flatten) (fun a o h => old a o (fun z => by rw [z, hHD] at h; cases h) (e3 a o h)) (.lst hD' rp) ?_
          by_cases hi : imms (trees vs) = true
          · rw [if_pos hi, rp.imm hi]
            exact ⟨by simp, fun a ha => by rw [List.mem_singleton.mp ha]; exact hHD⟩
          · rw [if_neg hi]
            exact fp.cons1 hHD nD
        | some t =>
          have hl : i < l.length := (List.getElem?_eq_some_iff.mp hit).1
          right
          obtain ⟨g1, y1⟩ := go i t hit
          refine ⟨g1, fun x H2 yl => ?_⟩
          obtain ⟨e8, F, rF, hF⟩ := y1 x H2 yl
          rw [forL_drop (tgt := tg) (body := sNil) (η := η) hit] at er
          rw [compL] at er
          obtain ⟨η3, e4, e5⟩ := Option.bind_eq_some_iff.mp er
          obtain ⟨b, eb, e6⟩ := Option.bind_eq_some_iff.mp e5
          have gd := good hit rF keepdom hF
          have s2 := s1.same e8
          have DF : D ∉ F := fun h => by
            rcases hF D h with z | z
            · exact ok.dom D z hD
            · rw [hD'] at z; cases z
          refine ⟨Φ1, η0, t, F, η3, s2, rF, fun a ha z => (gd a ha).2 (ow1 a z), e4, fun Φ3 σ3 s3 o3 p3 => ?_⟩
          obtain ⟨tl, tsame⟩ := hin t η0 η3 e4
          have low : ∀ j c, η0[j]? = some (some c) → η3[j]? = some (some c) := fun j c h => by rw [tsame j (sh_at.mp h).1]; exact h
          have pu3 : ∀ a, InPu Φ3 η3 a → H a = none ∨ InPu Φ η a := fun a h => (p3 a h).elim (pu1 a) fun h => (gd a h).1
          have ow3 : ∀ a, InOw Φ3 η3 a → InOw Φ η a := fun a h => ow1 a (o3 a h)
          have np3 : ¬ InPu Φ3 η3 D := fun h => (p3 D h).elim np1 DF
          have no3 : ¬ InOw Φ3 η3 D := fun h => no1 (o3 D h)
          have pul : ∀ a, InPu Φ3 η0 a → InPu Φ3 η3 a := fun a ⟨j, u, h1, h2⟩ => ⟨j, u, low j _ h1, h2⟩
          have owl : ∀ a, InOw Φ3 η0 a → InOw Φ3 η3 a := fun a ⟨j, u, h1, h2⟩ => ⟨j, u, low j _ h1, h2⟩
          -- behind the test
          have rest' : ∀ H4, Same H2 H4 → (if b = true then tE G ce σ3 H4 fun y H5 => ∃ ys, H5 D = some (.lst ys) ∧ ys.length < sizeLine ∧ ∃ m', m' < l.length - i ∧ (m' = l.length - (i + 1) ∧ ∃ Φ1 vs Fs xs rest, SR G Φ1 η0 σ3 (upd H5 D (.lst (ys ++ [y]))) ∧ (∀ a, InOw Φ1 η0 a → InOw Φ η a) ∧ (∀ a, InPu Φ1 η0 a → H a = none ∨ InPu Φ η a) ∧ ¬ InPu Φ1 η0 D ∧ ¬ InOw Φ1 η0 D ∧ Kept H1 (upd H5 D (.lst (ys ++ [y]))) ∧
              (∀ a o, a ≠ D → H1 a = some o → (upd H5 D (.lst (ys ++ [y]))) a = some o) ∧ (upd H5 D (.lst (ys ++ [y]))) D = some (.lst xs) ∧ RpL G (upd H5 D (.lst (ys ++ [y]))) xs (trees vs) Fs ∧ D ∉ Fs.flatten ∧ Fp Φ η H (joins vs) Fs.flatten ∧ compL tg cond ce η0 (l.drop (i + 1)) = some rest ∧ vs ++ rest = all)
              else ∃ m', m' < l.length - i ∧ (m' = l.length - (i + 1) ∧ ∃ Φ1 vs Fs xs rest, SR G Φ1 η0 σ3 H4 ∧ (∀ a, InOw Φ1 η0 a → InOw Φ η a) ∧ (∀ a, InPu Φ1 η0 a → H a = none ∨ InPu Φ η a) ∧ ¬ InPu Φ1 η0 D ∧ ¬ InOw Φ1 η0 D ∧ Kept H1 H4 ∧
              (∀ a o, a ≠ D → H1 a = some o → H4 a = some o) ∧ H4 D = some (.lst xs) ∧ RpL G H4 xs (trees vs) Fs ∧ D ∉ Fs.flatten ∧ Fp Φ η H (joins vs) Fs.flatten ∧ compL tg cond ce η0 (l.drop (i + 1)) = some rest ∧ vs ++ rest = all)) := fun H4 e9 => by
            have eo : ∀ {H5}, Same H4 H5 → ∀ a o, H' a = some o → H5 a = some o := fun {H5} e10 a o h => e10 a o (e9 a o (e8 a o h))
            cases b with
            | false =>
              rw [if_neg Bool.false_ne_true] at e6 ⊢
              have same := eo (Same.refl H4)
              exact ⟨_, by omega, rfl, Φ3, vs, Fs, xs, rest, (s3.same e9).less (by rw [tl]) low, fun a h => ow3 a (owl a h), fun a h => pu3 a (pul a h), fun h => np3 (pul D h), fun h => no3 (owl D h), kp.trans ((Kept.of e8).trans (Kept.of e9)), fun a o n h => same a o (old a o n h), same D _ hD', rp.same (Same.trans e8 e9), nD, fp, e6, ev⟩
            | true =>
              rw [if_pos rfl] at e6 ⊢
              obtain ⟨⟨mv, tv⟩, ece, e7⟩ := Option.bind_eq_some_iff.mp e6
              obtain ⟨rest1, er1, e7'⟩ := Option.map_eq_some_iff.mp e7
              refine ⟨Φ3, η3, mv, tv, s3.same e9, ece, fun y H5 Fy e10 ry fy => ?_⟩
              have same := eo e10
              have hD5 := same D _ hD'
              have mD5 : Mut (H5 D) := by rw [hD5]; exact True.intro
              have hD4 : H4 D = some (.lst xs) := e9 D _ (e8 D _ hD')
              have none4 : ∀ a, H4 a = none → H a = none := fun a h => Classical.byContradiction fun q => keepdom a (fun z => q (e3.free z)) (e8.free (e9.free h))
              have fyo : Fp Φ η H mv Fy := by
                cases mv with
                | fr => exact ⟨fy.1, fun a ha => none4 a (fy.2 a ha)⟩
                | pu => exact fun a ha => (fy a ha).elim (fun z => .inl (none4 a z)) (pu3 a)
                | bo => exact fun a ha => (fy a ha).elim (fun z => .inl (none4 a z)) fun z => z.elim (fun z => (pu3 a z).imp id .inl) fun z => .inr (.inr (ow3 a z))
              have DFy : D ∉ Fy := fun h => by
                cases mv with
                | fr => have := fy.2 D h; rw [hD4] at this; cases this
                | pu => exact (fy D h).elim (fun z => by rw [hD4] at z; cases z) np3
                | bo => exact (fy D h).elim (fun z => by rw [hD4] at z; cases z) fun z => z.elim np3 no3
              have rp5 : RpL G H5 xs (trees vs) Fs := rp.same ((e8.trans e9).trans e10)
              have lenx : xs.length = vs.length := by rw [rp.len.1]; simp
              have lenv : vs.length < all.length := by rw [← ev, ← e7']; simp
              refine ⟨xs, hD5, ?_, _, by omega, rfl, Φ3, vs ++ [(mv, tv)], Fs ++ [Fy], xs ++ [y], rest1, (((s3.same e9).same e10).off (.inl mD5) np3 no3).less (by rw [tl]) low, fun a h => ow3 a (owl a h), fun a h => pu3 a (pul a h), fun h => np3 (pul D h), fun h => no3 (owl D h), ?_, fun a o n h => ?_, upd_same, ?_, ?_, ?_, er1, ?_⟩
              · have hlen' : all.length ≤ LINE := by simpa using hlen
                have : sizeLine = LINE := rfl
                omega
              · exact (kp.trans ((Kept.of e8).trans ((Kept.of e9).trans (Kept.of e10)))).trans (Kept.upd (.inl mD5))
              · rw [upd_ne n]; exact same a o (old a o n h)
              · have : trees (vs ++ [(mv, tv)]) = trees vs ++ [tv] := by simp
                rw [this]
                exact (rp5.off mD5 nD).append (.cons (ry.keep (Kept.upd (.inl mD5)) fun b hb o ho => by rw [upd_ne (fun z => DFy (by rw [← z]; exact hb))]; exact ho) .nil)
              · rw [List.flatten_append]
                intro h
                rcases List.mem_append.mp h with z | z
                · exact nD z
                · exact DFy (by simpa using z)
              · rw [List.flatten_append, joins_snoc]
                have : ([Fy] : List (List Addr)).flatten = Fy := by simp
                rw [this]
                refine fp.join2 fyo fun hm a ha hb => ?_
                subst hm
                have h4 := fy.2 a hb
                have : Mut (H4 a) := (rp.same (e8.trans e9)).dom a ha
                rw [h4] at this; exact this
              · rw [List.append_assoc, ← ev, ← e7']; rfl
          cases cond with
          | none =>
            cases (show some true = some b from eb)
            exact rest' H2 (Same.refl H2)
          | some c =>
            obtain ⟨⟨mc, xc⟩, ec1, ec2⟩ := Option.bind_eq_some_iff.mp eb
            exact ⟨Φ3, η3, mc, xc, b, s3, ec1, ec2, fun H4 e9 => rest' H4 e9⟩
    · cases e2
  · cases e1
end
end VS
namespace VS
open PySem PySem.Spec PyProof.Rows L2
section
variable {G : Gx} {X : Cx} {elt tg iter c : Expr} {sc : Scope} {pos pos' spos : Pos} {N : List Str} {k i : Nat} {x : Str} {ci : Its} {g : Tg} {cc ce : Ex}
/-- [elt for tg in iter] -/
theorem pv_comp (k : Nat) (N : List Str) (hcalm : X.calm = true) (hi : PVI G X tg iter ci) (hin : TgIn k g) (hg : ∀ cl C s H fp, PVG G (compCx X N sc cl C s H fp) tg g) (he : ∀ cl C s H fp, PV G (compCx X N sc cl C s H fp) elt ce)
    (hsc : scOk X.env sc = true := by rfl) (hnm : nmOk sc (N.drop k) X.N = true := by rfl) (hNl : k ≤ N.length := by decide) (hs : ∀ x, foldedSetIterable iter X.env x = pure x := by intro _; rfl) :
    PV G X (.ListComp elt [⟨tg, iter, [], 0⟩] sc pos) (eComp k g ci none ce) :=
  PE.weak (pe_comp hcalm hi hsc hnm hNl (fun cl C s H fp => ⟨hg cl C s H fp, pifs_nil, he cl C s H fp⟩) hs) fun σ H Q h => comp_of (cond := none) hin h
theorem set_of {D : Ends} {σ : L2.St} {H : Hp} {ce : Ex} (h : tS G (sSet i ce) D σ H) : tE G ce σ H fun v H1 => D.nx (σ.set i (some v)) H1 := by
  obtain ⟨Φ, η, o, s, e, k⟩ := h
  unfold sSet at e
  obtain ⟨⟨m, t⟩, ec, e1⟩ := Option.bind_eq_some_iff.mp e
  obtain ⟨c, eC, e2⟩ := Option.bind_eq_some_iff.mp e1
  split at e2
  · rename_i hl
    cases e2
    refine ⟨Φ, η, m, t, s, ec, fun v H' F e3 r3 f3 => ?_⟩
    obtain ⟨q1, q2⟩ := s.val (c := c) hl e3 r3 f3 (by
      unfold cellOf at eC
      cases m with
      | fr =>
        simp only [Option.some.injEq] at eC
        split at eC
        · exact .inr ⟨eC.symm, rfl⟩
        · exact .inl ⟨eC.symm, by decide⟩
      | pu => cases eC; exact .inl ⟨rfl, by decide⟩
      | bo => cases eC)
    exact k _ _ H' q1 q2
  · cases e2
/-- x = [elt for tg in iter], in one row -/
theorem psv_setC (k : Nat) (N : List Str) {cS : Sx} (hS : ∀ D σ H, tS G cS D σ H → tE G (eComp k g ci none ce) σ H fun v H1 => D.nx (σ.set i (some v)) H1) (hcalm : X.calm = true) (hi : PVI G X tg iter ci) (hin : TgIn k g) (hg : ∀ cl C s H fp, PVG G (compCx X N sc cl C s H fp) tg g)
    (he : ∀ cl C s H fp, PV G (compCx X N sc cl C s H fp) elt ce) (hN : X.N.Nodup) (hiN : X.N[i]? = some x := by rfl) (hx : Loc X.env.scope x := by first | exact Or.inl rfl | exact Or.inr rfl)
    (hsc : scOk X.env sc = true := by rfl) (hnm : nmOk sc (N.drop k) X.N = true := by rfl) (hNl : k ≤ N.length := by decide) (hsw : swapsWith (.ListComp elt [⟨tg, iter, [], 0⟩] sc pos) (some (.Name x pos')) spos.line X.env = pure true := by rfl)
    (hf : X.fn x = true ∨ X.env.scope.names.lookup x = some .local := by first | exact .inl rfl | exact .inr rfl) (hs : ∀ x, foldedSetIterable iter X.env x = pure x := by intro _; rfl) :
    PSV G X (.Assign [.Name x pos'] (.ListComp elt [⟨tg, iter, [], 0⟩] sc pos) spos) cS :=
  PS.weak (ps_setComp hN hiN hx hcalm hi hsc hnm hNl (fun cl C s H fp => ⟨hg cl C s H fp, pifs_nil, he cl C s H fp⟩) hsw hf hs) fun D σ H h => comp_of (cond := none) hin (hS D σ H h)
end
end VS

end
section
set_option Elab.async false
set_option linter.all false
set_option maxRecDepth 100000
set_option maxHeartbeats 1000000
namespace L2
open PySem PySem.Spec PyProof.Rows
section
variable {X : Cx} {tg a : Expr} {ta : TA} {p pos : Pos}
end
end L2
namespace VS
open PySem PySem.Spec PyProof.Rows L2
section
variable {G : Gx} {X : Cx} {a : Expr} {ca : Ex} {pos p tpos : Pos} {elts : List Expr} {n : Nat}
end
end VS

end
section
set_option Elab.async false
set_option linter.all false
set_option maxRecDepth 100000
set_option maxHeartbeats 1000000
/-! The rules in short, as the printer of links writes them. -/
namespace VS
open PySem PySem.Spec PyProof.Rows L2
instance {s : Tx} : Decidable (TxOk s) := inferInstanceAs (Decidable (_ ∧ _))
section
variable {G : Gx} {X : Cx} {a b c e : Expr} {es : List Expr} {ca cb cc : Ex} {cs : Exs} {pos p p1 p2 apos cpos : Pos} {k k' : Nat}
theorem w_add (ha : PV G X a ca) (hb : PV G X b cb) : PV G X (.BinOp a .Add b pos) (e2 oAdd ca cb) := pv_op op_addA ok_add ha hb
theorem w_sub (ha : PV G X a ca) (hb : PV G X b cb) : PV G X (.BinOp a .Sub b pos) (e2 oSub ca cb) := pv_op op_sub ok_sub ha hb
theorem w_mul (ha : PV G X a ca) (hb : PV G X b cb) : PV G X (.BinOp a .Mult b pos) (e2 oMul ca cb) := pv_op op_mul ok_mul ha hb
theorem w_fdiv (ha : PV G X a ca) (hb : PV G X b cb) : PV G X (.BinOp a .FloorDiv b pos) (e2 oFdiv ca cb) := pv_op op_fdiv ok_fdiv ha hb
theorem w_mod (ha : PV G X a ca) (hb : PV G X b cb) : PV G X (.BinOp a .Mod b pos) (e2 oMod ca cb) := pv_op op_mod ok_mod ha hb
theorem wt_lt (ha : PV G X a ca) (hb : PV G X b cb) : PVT G X (.Compare a [.Lt] [b] pos) (e2 oLt ca cb) := pvt_cmp op_ltA ok_lt tells_lt ha hb (nomark _)
theorem w_le (ha : PV G X a ca) (hb : PV G X b cb) : PV G X (.Compare a [.LtE] [b] pos) (e2 oLe ca cb) := pv_cmp op_leA ok_le ha hb (nomark _)
theorem w_eq (hr : Room k X.A) (ha : PV G X a ca) (hb : PV G X b cb) : PV G X (.Compare a [.Eq] [b] pos) (e2 oEq ca cb) := pv_cmp (op_eqT hr.units) ok_eq ha hb (nomark _)
theorem wt_eq (hr : Room k X.A) (ha : PV G X a ca) (hb : PV G X b cb) : PVT G X (.Compare a [.Eq] [b] pos) (e2 oEq ca cb) := pvt_cmp (op_eqT hr.units) ok_eq tells_eq ha hb (nomark _)
theorem w_ne (hr : Room k X.A) (ha : PV G X a ca) (hb : PV G X b cb) : PV G X (.Compare a [.NotEq] [b] pos) (e2 oNe ca cb) := pv_cmp (op_neT hr.units) ok_ne ha hb (nomark _)
theorem wt_ne (hr : Room k X.A) (ha : PV G X a ca) (hb : PV G X b cb) : PVT G X (.Compare a [.NotEq] [b] pos) (e2 oNe ca cb) := pvt_cmp (op_neT hr.units) ok_ne tells_ne ha hb (nomark _)
theorem w_idx (ha : PV G X a ca) (hb : PV G X b cb) (hs : PlainIx b := by intro _ _; rfl) (hK : X.K = G.K := by rfl) : PV G X (.Subscript a b pos) (e2 oIdx ca cb) :=
  PE.weak (pe_ix ix_seq ha hb hs) fun σ H Q h => by rw [hK]; exact tOp_of ok_idx h
theorem w_len (hm : X.mg "len" = none) (ha : PVs G X [e] cs) (hg : Gl X "len" := by rfl) (hK : X.K = G.K := by rfl) (he : starEach [e] X.env = (false, eval e X.env) :: starEach [] X.env := by rfl) : PV G X (.Call (.Name "len" p) [e] [] pos) (eN bLen cs) :=
  pv_callB (hK ▸ call_lenA) ok_len hg hm PySem.boot_len ha (he := he) (hpl := rfl)
theorem bt_max : bootBuiltins ("max" : Str) = some (.builtin "max") := by decide +kernel
theorem bt_min : bootBuiltins ("min" : Str) = some (.builtin "min") := by decide +kernel
theorem bt_list : bootBuiltins ("list" : Str) = some (.type "list") := by decide +kernel
theorem w_max2 (hm : X.mg "max" = none) (ha : PVs G X [a, b] cs) (hc : X.calm = true := by rfl) (hg : Gl X "max" := by rfl) (he : starEach [a, b] X.env = (false, eval a X.env) :: starEach [b] X.env := by rfl) (hpl : (backTo pos (starEach [b] X.env)).any (·.1) = false := by rfl) : PV G X (.Call (.Name "max" p) [a, b] [] pos) (eN bMax2 cs) :=
  pv_callB (call_max2 hc) ok_max2 hg hm bt_max ha (he := he) (hpl := hpl)
theorem w_min2 (hm : X.mg "min" = none) (ha : PVs G X [a, b] cs) (hc : X.calm = true := by rfl) (hg : Gl X "min" := by rfl) (he : starEach [a, b] X.env = (false, eval a X.env) :: starEach [b] X.env := by rfl) (hpl : (backTo pos (starEach [b] X.env)).any (·.1) = false := by rfl) : PV G X (.Call (.Name "min" p) [a, b] [] pos) (eN bMin2 cs) :=
  pv_callB (call_min2 hc) ok_min2 hg hm bt_min ha (he := he) (hpl := hpl)
theorem w_list (hm : X.mg "list" = none) (ha : PVs G X [e] cs) (hg : Gl X "list" := by rfl) (hK : X.K = G.K := by rfl) (he : starEach [e] X.env = (false, eval e X.env) :: starEach [] X.env := by rfl) : PV G X (.Call (.Name "list" p) [e] [] pos) (eN bList cs) :=
  pv_callTy (hK ▸ call_list_of) ok_list hg hm bt_list ha (he := he) (hpl := rfl)
def tyN : Ty → Str
  | .int => "int" | .str => "str" | .bool => "bool" | .list => "list" | .tuple => "tuple" | .dict => "dict"
theorem bt_ty (t : Ty) : bootBuiltins (tyN t) = some (.type (tyS t)) := by cases t <;> decide +kernel
theorem w_is (t : Ty) (hm : X.mg "isinstance" = none) (hm2 : X.mg (tyN t) = none) (ha : PV G X a ca) (hg : Gl X "isinstance" := by rfl) (hg2 : Gl X (tyN t) := by rfl) (hK : X.K = G.K := by rfl)
    (hs : starEach [a, .Name (tyN t) p2] X.env = (false, eval a X.env) :: starEach [.Name (tyN t) p2] X.env := by rfl) : PV G X (.Call (.Name "isinstance" p1) [a, .Name (tyN t) p2] [] pos) (eIs t ca) :=
  pv_is t ha hg hm hg2 hm2 (bt_ty t) hK (by cases t <;> decide) (by cases t <;> decide) hs rfl rfl
/-- xs.append(e), xs.extend(e): xs a list of the def's own -/
theorem w_append (i : Nat) {x : Str} (ha : PVs G X [e] cs) (hK : X.K = G.K := by rfl)
    (hN : X.N[i]? = some x := by rfl) (hv : Vis X.env.scope x := by first | exact Or.inl rfl | exact Or.inr (Or.inl rfl) | exact Or.inr (Or.inr rfl)) (hd : (x == ("__debug__" : Str)) = false := by decide)
    (hcd : (x == ("__classdict__" : Str)) = false := by decide) (hfew : ((backTo cpos (starEach [e] X.env)).all (fun x => !x.1) && (backToKw cpos (keywordEach [] X.env)).all (fun x => x.1.isSome)
      && decide ([e].length + ([] : List Keyword).length + (if ([] : List Keyword).isEmpty then 0 else 1) < 30)) = true := by rfl)
    (hline : (apos.endLine == cpos.line) = true := by rfl) (hs : starEach [e] X.env = (false, eval e X.env) :: starEach [] X.env := by rfl) :
    PSV G X (.Expr (.Call (.Attribute (.Name x p1) "append" apos) [e] [] cpos) pos) (sX (xMut i [] mAppend cs)) :=
  psv_mut0 i PySem.F.plainAttrs_list PySem.F.slot_list_append PySem.F.type_list_append mt_append ok_append (fun H v t F l z r h => recv_append r h) ha hK hN hv hd hcd rfl hfew hline hs rfl rfl
end
/-! ### defs -/
structure FnAt (P : Program) (w : World) (K : PySem.W.Frag) (mg : Str → Option Value) (base : Heap) (k : Nat) (x : Str) (ps : List Str) (G : Gx) (g : Fn) : Prop where
  ex : ∃ f fd, FnOk P w K mg base CX0 k f fd ps (spF G g) ∧ mg x = some (.ref f) ∧ PySem.W.keepIn K (.ref f) = true ∧ Binds K fd ps []
section
variable {G : Gx} {X : Cx} {e : Expr} {es : List Expr} {cs : Exs} {pos p : Pos} {k k' : Nat} {x : Str} {ps : List Str} {g : Fn}
theorem w_call (F : FnAt X.prog X.w X.K X.mg X.base k x ps G g) (hr : Room k' X.A) (ha : PVs G X (e :: es) cs) (hk : k ≤ k' := by decide) (hg : Gl X x := by rfl) (hdb : (x == ("__debug__" : Str)) = false := by decide)
    (he : starEach (e :: es) X.env = (false, eval e X.env) :: starEach es X.env := by rfl) (hpl : (backTo pos (starEach es X.env)).any (·.1) = false := by rfl) :
    PV G X (.Call (.Name x p) (e :: es) [] pos) (eCall g cs) := by
  obtain ⟨f, fd, h1, h2, h3, h4⟩ := F.ex
  exact pv_call h1 (hr.mono hk) hg h2 h3 h4 ha hdb he hpl
end
section
variable {G : Gx} {P : Program} {w : World} {K : PySem.W.Frag} {mg : Str → Option Value} {base : Heap}
/-- a def of the text -/
theorem w_def {x : Str} {st : Stmt} {f : Addr} {fd : FuncData} {N ps : List Str} {k np nn : Nat} {c : Sx} (F : Fun K x x st f fd) (hm : mg x = some (.ref f)) (S : FnScope N ps (defScope st)) (hp : ps.length = np) (hn : N.length = nn)
    (hbd : ∀ (kV doc pm : Value) (an : Option Addr) (cdv ct : Value) (us : List Value), us.length = ps.length → bindArgs (PySem.W.fnOf x x (defArgs st) (defBody st) (defScope st) .none kV doc pm an cdv ct) ⟨us, []⟩ = pure (ps.zip us))
    (hb : ∀ (cdv : Value) (A : Around) (outer : List PySem.Env) (s : Shared) (H : Hp) (E : XK), Room k (A.deeper (envOfC x (defScope st) s.heap.objs.size f cdv)) → PSVs G (cxOf CX0 P w K mg base N x (defScope st) f cdv A outer s H E).nox (defBody st) c) :
    FnAt P w K mg base (k + 1) x ps G (fn np nn c) :=
  ⟨f, fd, fnV F S hp hn hb, hm, F.kp, F.binds hbd⟩
end
end VS

end
section
set_option Elab.async false
set_option linter.all false
set_option maxRecDepth 100000
set_option maxHeartbeats 1000000
namespace L2
open PySem PySem.Spec PyProof.Rows
/-! ### the signs of a text, one by one -/
def Its (x : Str) : It := ⟨fun i _ => i < x.cps.size, fun i H v H' => H' = H ∧ ∃ c, x.cps[i]? = some c ∧ v = .str ⟨#[c]⟩, fun i _ => x.cps.size ≤ i⟩
theorem turn_strT {P : Program} {w : World} {K : PySem.W.Frag} {tg : Expr} (x : Str) (t : Tok) (it : Addr) (ty : String) (hn : ["enumerate", "zip", "dict_itemiterator", "dict_reverseitemiterator", "odict_iterator", "itertools.zip_longest", "itertools.pairwise"].contains ty = false)
    (W : ∀ A : Around, A.handled = none → Walks P w A it [it] [it] x.cps.size (fun i v => ∃ c u, x.cps[i]? = some c ∧ v = .str ⟨#[c]⟩ u) (fun i h => h.IsStrIter it ty x t i)) (hend : ∀ (A : Around), A.handled = none → ∀ (i : Nat) (s : Shared) (Q : Option Value → Shared → Prop) (E : Value → Shared → Prop), s.heap.IsStrIter it ty x t i → x.cps[i]? = none → (∀ h', Heap.ExtBut it s.heap h' → Q none { s with heap := h' }) → wpAny (model P w) A (pyNext (.ref it)) Q E s)
    (hself : ∀ (A : Around) (i : Nat) (s : Shared) (Q : Value → Shared → Prop) (E : Value → Shared → Prop), s.heap.IsStrIter it ty x t i → Q (.ref it) s → wpAny (model P w) A (pyIter (.ref it)) Q E s) :
    Turn P w K tg (Its x) [it] it (fun i h => h.IsStrIter it ty x t i) where
  mem := by simp
  obj := fun i h st b hb => by
    rw [List.mem_singleton.mp hb]
    obtain ⟨o, e, c, d⟩ := st
    exact ⟨o, e, fun v z => by rw [d] at z; cases z⟩
  keep := fun i h h' st k => let ⟨o, e, r⟩ := st; ⟨o, k it (by simp) o e, r⟩
  item := by
    intro X hP hw hK hc i pins s σ H E I hf st hg
    subst hP hw hK
    obtain ⟨f0, f1, f2, f3, f4, f5⟩ := hf it (by simp)
    refine (W X.A (I.ok.hd hc)).item i s _ _ hg st fun v h' tk hv st' kk => ?_
    obtain ⟨c, u, hc', rfl⟩ := hv
    have I1 : Inv X pins σ H { s with heap := h', toks := tk } := I.turned (fun b o hb e => kk b o (by simpa using hb) e) f0 f1 f3 f4 f5
    obtain ⟨o, e, c1, d⟩ := id st'
    exact ⟨_, rfl, go_of (s := { s with heap := h', toks := tk }) e c1 d hn ⟨.str ⟨#[c]⟩, H, I1, ⟨u, rfl⟩, ⟨rfl, c, hc', rfl⟩, st', fun b hb => (hf b hb).1⟩⟩
  done := by
    intro X hP hw hK hc i pins s σ H E I hf st hg
    subst hP hw hK
    obtain ⟨f0, f1, f2, f3, f4, f5⟩ := hf it (by simp)
    have hx : x.cps.size ≤ i := hg
    exact hend X.A (I.ok.hd hc) i s _ _ st (by simp [hx]) fun h' eb => ⟨rfl, I.turned (t' := s.toks) (fun b o hb e => eb b o hb e) f0 f1 f3 f4 f5⟩
  self := fun A i s Q E st h => hself A i s Q E st h
theorem turn_str {P : Program} {w : World} {K : PySem.W.Frag} {tg : Expr} (x : Str) (t : Tok) (it : Addr) : Turn P w K tg (Its x) [it] it (fun i h => h.IsStrIter it (strIterType x) x t i) := by
  cases ha : x.cps.all (· < 128)
  · have e : strIterType x = "str_iterator" := by simp [strIterType, ha]
    rw [e]
    exact turn_strT x t it "str_iterator" (by decide) (fun A hA => Walks.strWide hA it x t) (fun A hA i s Q E st hx q => wpAny_pyNext_wide_end hA st hx q) fun A i s Q E st q => wpAny_pyIter_striter_wide st q
  · have e : strIterType x = "str_ascii_iterator" := by simp [strIterType, ha]
    rw [e]
    exact turn_strT x t it "str_ascii_iterator" (by decide) (fun A hA => Walks.strAscii hA it x t) (fun A hA i s Q E st hx q => wpAny_pyNext_ascii_end hA st hx q) fun A i s Q E st q => wpAny_pyIter_striter_ascii st q
section
variable {X : Cx} {tg l a b c : Expr} {tl ta tb tc : TE} {pos : Pos}
/-- a list, a tuple or a text that is walked -/
def iSeqA (K : PySem.W.Frag) (tl : TE) : TI := fun σ H R => tl σ H fun x H1 => (∃ a, x = .ref a ∧ (∃ xs, SqL K H1 a xs) ∧ R (Itl K a) H1) ∨ (∃ a, x = .ref a ∧ (∃ xs, SqT K H1 a xs) ∧ R (Itt K a) H1) ∨ ∃ z, x = .str z ∧ R (Its z) H1
theorem pi_seqA (hl : PE X l tl) : PI X tg l (iSeqA X.K tl) := by
  intro pins s σ H R I h
  refine thn (hl pins s σ H _ I h) fun v s1 ⟨x, H1, I1, r1, q1⟩ => ?_
  have fp1 : ∀ b ∈ [s1.heap.objs.size], FpOk X pins H1 b := fun b hb => by
    rw [List.mem_singleton.mp hb]
    exact I1.fpOk (Nat.le_refl _) (I1.hok.fresh (Nat.le_refl _))
  rcases q1 with ⟨a, e, ⟨xs, hq⟩, q⟩ | ⟨a, e, ⟨xs, hq⟩, q⟩ | ⟨z, e, q⟩
  · subst e
    cases r1
    obtain ⟨its, rv, p, hz⟩ := I1.list hq
    exact wpAny_pyIter_list p.isList ⟨s1.heap.objs.size, [s1.heap.objs.size], _, _, H1, rfl, I1.kept (t' := s1.toks) fun b o e => Heap.get?_push_of_some _ e, turn_list a _, ⟨_, Heap.get?_push_size _ rfl, rfl, rfl⟩, fp1, q⟩
  · subst e
    cases r1
    obtain ⟨its, rv, p, hz⟩ := I1.tuple hq
    exact wpAny_pyIter_tuple (show s1.heap.IsTuple a its.toArray from p) ⟨s1.heap.objs.size, [s1.heap.objs.size], _, _, H1, rfl, I1.kept (t' := s1.toks) fun b o e => Heap.get?_push_of_some _ e, turn_tuple a _, ⟨_, Heap.get?_push_size _ rfl, rfl, rfl⟩, fp1, q⟩
  · subst e
    obtain ⟨t, rfl⟩ := r1
    exact wpAny_pyIter_strU ⟨s1.heap.objs.size, [s1.heap.objs.size], _, _, H1, rfl, I1.kept (t' := s1.toks) fun b o e => Heap.get?_push_of_some _ e, turn_str z t _, ⟨_, Heap.get?_push_size _ rfl, rfl, rfl⟩, fp1, q⟩

/-! ### sum, all, any of a list -/
theorem kept_it {s : Shared} {h' : Heap} {o : Obj} (hk : ∀ b x, b ∉ [s.heap.objs.size] → (s.heap.push o).get? b = some x → h'.get? b = some x) (b : Addr) (x : Obj) (e : s.heap.get? b = some x) : h'.get? b = some x :=
  hk b x (fun hm => Nat.lt_irrefl _ (by have := Heap.lt_size e; rw [List.mem_singleton.mp hm] at this; exact this)) (Heap.get?_push_of_some _ e)
theorem call_sum (hc : X.calm = true) : CallR X (.builtin "sum") (fun xs H Q => ∃ p, ∃ ns : List Int, xs = [.ref p] ∧ SqL X.K H p (ns.map V.int) ∧ Q (.int ns.sum) H) := by
  intro pins s σ H xs us Q I rx h
  obtain ⟨p, ns, rfl, hq, q⟩ := h
  obtain ⟨u, rfl, ru⟩ := rx.one
  cases ru
  obtain ⟨its, rv, pl, hz⟩ := I.list hq
  have hl : p < s.heap.objs.size := by obtain ⟨_, e, _⟩ := pl.isList; exact Heap.lt_size e
  refine call_sum_walkG (wpAny_pyIter_list pl.isList ⟨s.heap.objs.size, [s.heap.objs.size, p], [s.heap.objs.size], its.toArray.size, _, _, fun i => (ns[i]?).getD 0, rfl, Walks.list (A := X.A.in1) (I.ok.hd hc) _ p (Nat.ne_of_lt hl) its.toArray,
    ⟨⟨_, Heap.get?_push_size _ rfl, rfl, rfl⟩, pl.isList.push _⟩, fun b hb => ?_, fun i v hP => ?_, fun h' tk t' hk => ⟨.int ns.sum, H, I.kept (kept_it hk), ⟨t', ?_⟩, q⟩⟩)
  · rw [Heap.size_push]
    rcases List.mem_cons.mp hb with rfl | hb
    · exact Nat.lt_succ_self _
    · rw [List.mem_singleton.mp hb]; exact Nat.lt_succ_of_lt hl
  · have hv : its[i]? = some v := by simpa using hP
    cases e : ns[i]? with
    | none =>
      have := rv.none_of (i := i) (by rw [List.getElem?_map, e]; rfl)
      rw [this] at hv; cases hv
    | some n =>
      obtain ⟨u, hu, ru⟩ := rv.get (i := i) (x := .int n) (by rw [List.getElem?_map, e]; rfl)
      rw [hu] at hv; cases hv
      obtain ⟨t, rfl⟩ := ru
      exact ⟨t, by simp [e]⟩
  · have hlen : its.toArray.size = ns.length := by have := rv.length; simp at this ⊢; omega
    have : ∀ k, k ≤ ns.length → preSum (fun i => (ns[i]?).getD 0) k = (ns.take k).sum := fun k => by
      induction k with
      | zero => intro _; simp [preSum]
      | succ k ih =>
        intro hk
        rw [List.take_succ, List.sum_append, preSum, ih (by omega)]
        cases e : ns[k]? <;> simp
    rw [hlen, this _ (Nat.le_refl _), List.take_length]
theorem call_all (hc : X.calm = true) : CallR X (.builtin "all") (fun xs H Q => ∃ p, ∃ bs : List Bool, xs = [.ref p] ∧ SqL X.K H p (bs.map V.bl) ∧ Q (.bl (bs.all id)) H) := by
  intro pins s σ H xs us Q I rx h
  obtain ⟨p, bs, rfl, hq, q⟩ := h
  obtain ⟨u, rfl, ru⟩ := rx.one
  cases ru
  obtain ⟨its, rv, pl, hz⟩ := I.list hq
  have hl : p < s.heap.objs.size := by obtain ⟨_, e, _⟩ := pl.isList; exact Heap.lt_size e
  refine call_all_walk (wpAny_pyIter_list pl.isList ⟨s.heap.objs.size, [s.heap.objs.size, p], [s.heap.objs.size], its.toArray.size, _, _, fun i => (bs[i]?).getD true, rfl, Walks.list (A := X.A.in1) (I.ok.hd hc) _ p (Nat.ne_of_lt hl) its.toArray,
    ⟨⟨_, Heap.get?_push_size _ rfl, rfl, rfl⟩, pl.isList.push _⟩, fun i v s' Q' E' hP hQ => ?_, fun h' tk hk => ⟨.bl (bs.all id), H, I.kept (kept_it hk), ?_, q⟩⟩)
  · have hv : its[i]? = some v := by simpa using hP
    cases e : bs[i]? with
    | none =>
      have := rv.none_of (i := i) (by rw [List.getElem?_map, e]; rfl)
      rw [this] at hv; cases hv
    | some n =>
      obtain ⟨u, hu, ru⟩ := rv.get (i := i) (x := .bl n) (by rw [List.getElem?_map, e]; rfl)
      rw [hu] at hv; cases hv
      cases ru
      simp only [e, Option.getD_some] at hQ
      exact wpAny_truthy_bool hQ
  · have hlen : its.toArray.size = bs.length := by have := rv.length; simp at this ⊢; omega
    rw [hlen, LSm.range_all]
    rfl
theorem op_gt_str : OpR X (compareOp .Gt) (fun x y H Q => ∃ i j, x = .str i ∧ y = .str j ∧ Q (.bl (decide (j.cps.toList < i.cps.toList))) H) := by
  intro pins s σ H x y v u Q I rx ry h
  obtain ⟨i, j, rfl, rfl, q⟩ := h
  obtain ⟨t, rfl⟩ := rx
  obtain ⟨t', rfl⟩ := ry
  exact PySem.P.gt_str ⟨.bl _, H, I, rfl, q⟩
end
end L2

end
section
set_option Elab.async false
set_option linter.all false
set_option maxRecDepth 100000
set_option maxHeartbeats 1000000
namespace VS
open PySem PySem.Spec PyProof.Rows L2
section
variable {G : Gx} {X : Cx} {a b c e tg : Expr} {es : List Expr} {ca cb cc : Ex} {cs : Exs} {pos p p1 p2 apos cpos : Pos} {k k' : Nat}
theorem it_str (H : Hp) (s : Tx) (ok : TxOk s) : ItOk G (L2.Its (sx s)) (s.map fun c => T.str [c]) [] H := by
  have sz : (sx s).cps.size = s.length := by simp [sx]
  refine ⟨fun H2 _ _ => ⟨fun i t h => ?_, fun i h => (by rw [List.length_map] at h; show (sx s).cps.size ≤ i; omega)⟩, fun a h => by simp at h⟩
  rw [List.getElem?_map] at h
  obtain ⟨c, hc, rfl⟩ := Option.map_eq_some_iff.mp h
  refine ⟨(by show i < (sx s).cps.size; have := (List.getElem?_eq_some_iff.mp hc).1; omega), fun x H3 ⟨e1, c', hc', e2⟩ => ?_⟩
  subst e1
  have : c' = c := by
    have h1 : (sx s).cps[i]? = some c := by simp [sx, hc]
    rw [h1] at hc'; exact (Option.some.inj hc').symm
  subst this
  rw [e2]
  exact ⟨Same.refl _, [], .str [c'] ⟨(by show 1 ≤ LINE; decide), fun d hd => by rw [List.mem_singleton.mp hd]; exact ok.2 c' (List.mem_of_getElem? hc)⟩, fun a h => by simp at h⟩
/-- lists, tuples, texts -/
theorem pvi_val (ha : PV G X a ca) (hK : X.K = G.K := by rfl) : PVI G X tg a (iVal ca) :=
  PI.weak (pi_seqA ha) fun σ H R ⟨Φ, η, m, l, s, e, k⟩ => by
    unfold iVal at e
    obtain ⟨⟨mx, x⟩, ea, e1⟩ := Option.bind_eq_some_iff.mp e
    refine ⟨Φ, η, mx, x, s, ea, fun v H' F e3 r3 f3 => ?_⟩
    cases x with
    | lst ts =>
      cases e1
      obtain ⟨a', vs, Fs, rfl, rfl, ha', ra⟩ := r3.lst_inv
      exact .inl ⟨a', rfl, ⟨vs, SqL.of ha'⟩, k _ H' _ e3 (it_list X.K ha' ra) f3.c⟩
    | tup ts =>
      cases e1
      obtain ⟨a', vs, Fs, rfl, rfl, ha', ra⟩ := r3.tup_inv
      exact .inr (.inl ⟨a', rfl, ⟨vs, SqT.of ha'⟩, k _ H' _ e3 (it_tup X.K ha' ra) f3.c⟩)
    | str z =>
      cases e1
      obtain ⟨rfl, ok⟩ := r3.str_inv
      exact .inr (.inr ⟨_, rfl, k _ H' [] e3 (it_str H' z ok) fun a h => by simp at h⟩)
    | _ => cases e1
/-! ### sum, all, any -/
theorem rp_ints {H : Hp} : ∀ {vs : List V} {l : List T} {Fs : List (List Addr)} {ss : List Int}, RpL G H vs l Fs → ints? l = some ss → vs = ss.map V.int
  | _, _, _, _, .nil, e => by cases e; rfl
  | _, _, _, _, .cons (t := t) r q, e => by
    cases t with
    | int s =>
      simp only [ints?] at e
      obtain ⟨ss', e1, e2⟩ := Option.map_eq_some_iff.mp e
      subst e2
      rw [rp_ints q e1, r.int_inv]
      rfl
    | _ => cases e
theorem rp_bools {H : Hp} : ∀ {vs : List V} {l : List T} {Fs : List (List Addr)} {ss : List Bool}, RpL G H vs l Fs → bools? l = some ss → vs = ss.map V.bl
  | _, _, _, _, .nil, e => by cases e; rfl
  | _, _, _, _, .cons (t := t) r q, e => by
    cases t with
    | bl s =>
      simp only [bools?] at e
      obtain ⟨ss', e1, e2⟩ := Option.map_eq_some_iff.mp e
      subst e2
      rw [rp_bools q e1, r.bl_inv]
      rfl
    | _ => cases e
theorem ok_sum : CallOk G (fun xs H Q => ∃ p, ∃ ns : List Int, xs = [.ref p] ∧ SqL G.K H p (ns.map V.int) ∧ Q (.int ns.sum) H) bSum := by
  intro Φ η H0 H l vs Fs m t Q A e k
  unfold bSum at e
  split at e
  · rename_i mx x
    obtain ⟨is, e1, e2⟩ := Option.bind_eq_some_iff.mp e
    cases e2
    obtain ⟨v, F, rfl, rfl, rx⟩ := (show RpL G H vs [.lst x] Fs from A.rp).one
    obtain ⟨a, ys, Gs, rfl, rfl, ha, ra⟩ := rx.lst_inv
    exact ⟨a, is, rfl, by rw [← rp_ints ra e1]; exact SqL.of ha, fin_of k (.int _)⟩
  · cases e
theorem ok_all : CallOk G (fun xs H Q => ∃ p, ∃ bs : List Bool, xs = [.ref p] ∧ SqL G.K H p (bs.map V.bl) ∧ Q (.bl (bs.all id)) H) bAll := by
  intro Φ η H0 H l vs Fs m t Q A e k
  unfold bAll at e
  split at e
  · rename_i mx x
    obtain ⟨is, e1, e2⟩ := Option.bind_eq_some_iff.mp e
    cases e2
    obtain ⟨v, F, rfl, rfl, rx⟩ := (show RpL G H vs [.lst x] Fs from A.rp).one
    obtain ⟨a, ys, Gs, rfl, rfl, ha, ra⟩ := rx.lst_inv
    exact ⟨a, is, rfl, by rw [← rp_bools ra e1]; exact SqL.of ha, fin_of k (.bl _)⟩
  · cases e
theorem bt_sum : bootBuiltins ("sum" : Str) = some (.builtin "sum") := by decide +kernel
theorem bt_all : bootBuiltins ("all" : Str) = some (.builtin "all") := by decide +kernel
theorem w_sum (hm : X.mg "sum" = none) (ha : PVs G X [e] cs) (hg : Gl X "sum" := by rfl) (hK : X.K = G.K := by rfl) (hc : X.calm = true := by rfl) (he : starEach [e] X.env = (false, eval e X.env) :: starEach [] X.env := by rfl) : PV G X (.Call (.Name "sum" p) [e] [] pos) (eN bSum cs) :=
  pv_callB (call_sum hc) (hK ▸ ok_sum) hg hm bt_sum ha (he := he) (hpl := rfl)
theorem w_all (hm : X.mg "all" = none) (ha : PVs G X [e] cs) (hg : Gl X "all" := by rfl) (hK : X.K = G.K := by rfl) (hc : X.calm = true := by rfl) (he : starEach [e] X.env = (false, eval e X.env) :: starEach [] X.env := by rfl) : PV G X (.Call (.Name "all" p) [e] [] pos) (eN bAll cs) :=
  pv_callB (call_all hc) (hK ▸ ok_all) hg hm bt_all ha (he := he) (hpl := rfl)
/-! ### tuple(list) -/
/-! ### >, >=, a <= b <= c -/
def rGt : R2 := fun x y H Q => rI0 (fun i j => .bl (decide (j < i))) x y H Q ∨ (∃ i j, x = .str i ∧ y = .str j ∧ Q (.bl (decide (j.cps.toList < i.cps.toList))) H)
theorem ltx_sx (s t : Tx) : decide ((sx s).cps.toList < (sx t).cps.toList) = ltx s t := by rw [ltx_eq]; exact decide_eq_decide.mpr (by simp [sx])
theorem ok_gt : OpOk G rGt oGt := by
  intro Φ η H0 H x y u w F1 F2 m t Q tw e k
  obtain ⟨m1, x⟩ := x
  obtain ⟨m2, y⟩ := y
  obtain ⟨same, r1, r2, f1, f2, nd⟩ := tw
  unfold oGt oLt at e
  split at e
  · rename_i e1 e2
    cases e1
    cases e2
    cases e
    exact .inl ⟨_, _, r1.int_inv, r2.int_inv, fin_of k (.bl _)⟩
  · rename_i s _ s' e1 e2
    cases e1
    cases e2
    cases e
    refine .inr ⟨_, _, r1.str_inv.1, r2.str_inv.1, ?_⟩
    rw [ltx_sx]
    exact fin_of k (.bl _)
  · cases e
theorem tells_gt : Tells oGt := fun x y m t e => tells_lt y x m t e
theorem wt_gt (ha : PV G X a ca) (hb : PV G X b cb) : PVT G X (.Compare a [.Gt] [b] pos) (e2 oGt ca cb) := pvt_cmp (r := rGt) (op_gt.or op_gt_str) ok_gt tells_gt ha hb (nomark _)
theorem chain_of {r r' : R2} {f g : Val → Val → Option Val} (ok : OpOk G r f) (ok' : OpOk G r' g) {σ : L2.St} {H : Hp} {Q : VK} (h : tE G (eChain f g ca cb cc) σ H Q) : tChain r r' (tE G ca) (tE G cb) (tE G cc) σ H Q := by
  obtain ⟨Φ, η, m, t, s, e, k⟩ := h
  unfold eChain at e
  obtain ⟨x, ea, e⟩ := Option.bind_eq_some_iff.mp e
  obtain ⟨y, eb, e⟩ := Option.bind_eq_some_iff.mp e
  obtain ⟨⟨mz, z⟩, ez, e⟩ := Option.bind_eq_some_iff.mp e
  refine two_of s ea eb fun u w H2 F1 F2 tw => ok Φ η H H2 x y u w F1 F2 mz z _ tw ez fun v H3 F e1 r1 f1 => ?_
  cases z with
  | bl q =>
    refine ⟨q, r1.bl_inv, ?_⟩
    cases q with
    | false =>
      cases e
      rw [if_neg Bool.false_ne_true]
      exact k _ H3 [] (tw.same.trans e1) (.bl false) Fp.nil
    | true =>
      rw [if_pos rfl]
      obtain ⟨z2, ec, e⟩ := Option.bind_eq_some_iff.mp (show (cc η).bind (fun z => g y z) = some (m, t) from e)
      have sm := tw.same.trans e1
      refine ⟨Φ, η, z2.1, z2.2, s.same sm, ec, fun w2 H4 F4 e4 r4 f4 => ?_⟩
      refine ok' Φ η H H4 y z2 w w2 F2 F4 m t Q ⟨sm.trans e4, (tw.r2.same e1).same e4, r4, tw.f2, f4.back sm, fun hx hy => ?_⟩ e fun v' H5 F5 e5 r5 f5 => k v' H5 F5 ((sm.trans e4).trans e5) r5 f5
      have f2 := tw.f2
      rw [hx] at f2
      rw [hy] at f4
      refine List.nodup_append.mpr ⟨f2.1, f4.1, fun a ha b hb z => ?_⟩
      subst z
      exact Mut.ne_none ((tw.r2.same e1).dom a ha) (f4.2 a hb)
  | _ => cases e
theorem w_chain_le_le (ha : PV G X a ca) (hb : PV G X b cb) (hc : PV G X c cc) (hm : lastMarks [.LtE, .LtE] [b, c] = false := by with_unfolding_all rfl) : PV G X (.Compare a [.LtE, .LtE] [b, c] pos) (eChain oLe oLe ca cb cc) :=
  PE.weak (pe_chain op_leA op_leA ha hb hc hm) fun σ H Q h => chain_of ok_le ok_le h
/-! ### module constants -/
theorem w_const {x : Str} {i : Int} (h : ∃ t, X.mg x = some (.int i t)) (hg : Gl X x := by rfl) (hd : (x == ("__debug__" : Str)) = false := by decide) : PV G X (.Name x pos) (eC (.int i)) := by
  obtain ⟨t, ht⟩ := h
  exact pv_glob (v := .int i) hg ht ⟨t, rfl⟩ (fun H => .int i) hd
/-! ### list * int, text * int -/
end
end VS

end
section
set_option Elab.async false
set_option linter.all false
set_option maxRecDepth 100000
set_option maxHeartbeats 1000000
namespace L2
open PySem PySem.Spec PyProof.Rows
section
variable {X : Cx}
end
end L2
namespace VS
open PySem PySem.Spec PyProof.Rows L2
section
variable {G : Gx} {X : Cx} {a b c e tg : Expr} {es : List Expr} {ca cb cc : Ex} {cs : Exs} {pos p p1 p2 apos cpos : Pos} {k k' : Nat}
end
end VS

end
section
/-! Dicts: what a[k], k in a, a[k] = v do, of lists, tuples, texts and dicts. -/
namespace VS
@[simp] def oIx (x y : Val) : Option Val := match x.2 with
  | .dct 0 l => if keyB y.2 then (dget l y.2).map (sub x.1) else none
  | _ => oIdx x y
@[simp] def flat : T → Bool
  | .non => true
  | .bl _ => true
  | .int _ => true
  | .str _ => true
  | _ => false
@[simp] def oInA (x y : Val) : Option Val := match y.2 with
  | .dct 0 l => if keyB x.2 then some (.fr, .bl (dget l x.2).isSome) else none
  | .lst l => if flat x.2 && l.all flat then some (.fr, .bl (l.any fun y => eqT y x.2)) else none
  | .tup l => if flat x.2 && l.all flat then some (.fr, .bl (l.any fun y => eqT y x.2)) else none
  | _ => none
@[simp] def oNotInA (x y : Val) : Option Val := match oInA x y with
  | some (_, .bl b) => some (.fr, .bl (!b))
  | _ => none
/-! ### ways into a tree -/
def pm {α : Type} (f : T → Option (T × α)) : List Ky → T → Option (T × α)
  | [], t => f t
  | .fld k :: r, .obj c fs => (fs.findIdx? fun p => p.1 == k).bind fun i => (fs[i]?).bind fun p => (pm f r p.2).map fun z => (.obj c (fs.set i (p.1, z.1)), z.2)
  | .at (.int i) :: r, .lst l => (ixP l.length i).bind fun j => (l[j]?).bind fun x => (pm f r x).map fun z => (.lst (l.set j z.1), z.2)
  | .at k :: r, .dct 0 l => if keyB k then (l.findIdx? fun p => eqT p.1 k).bind fun i => (l[i]?).bind fun p => (pm f r p.2).map fun z => (.dct 0 (l.set i (p.1, z.1)), z.2) else none
  | _, _ => none
end VS

end
section
set_option Elab.async false
set_option linter.all false
set_option maxRecDepth 100000
set_option maxHeartbeats 1000000
namespace VS
open PySem PySem.Spec PyProof.Rows L2
section
variable {G : Gx} {X : Cx} {a b c e tg : Expr} {es : List Expr} {ca cb cc ce : Ex} {cs : Exs} {pos p p1 p2 apos cpos pos' : Pos} {k k' : Nat}
/-! ### while -/
/-- what is never reached -/
def sNo : Sx := fun _ => none
theorem psv_no {st : Stmt} : PSV G X st sNo := fun pins s σ H D I ⟨_, _, _, _, e, _⟩ => nomatch (show (none : Option Out) = some _ from e)
/-! ### a[k] -/
/-! ### k in a -/
end
end VS

end
section
set_option Elab.async false
set_option linter.all false
set_option maxRecDepth 100000
set_option maxHeartbeats 1000000
open PySem PyProof.Rows
namespace TS
variable {prog : Program} {w : World} {A : Around} {E : Value → Shared → Prop} {s : Shared}
variable {κ : SortKind} {G : Keyed → Prop} {r : Keyed → Keyed → Bool}
end TS

end
section
set_option Elab.async false
set_option linter.all false
set_option maxRecDepth 100000
set_option maxHeartbeats 1000000
open PySem PyProof.Rows
namespace TS
variable {prog : Program} {w : World} {A : Around} {E : Value → Shared → Prop} {s : Shared} {κ : SortKind} {G : Keyed → Prop} {r : Keyed → Keyed → Bool}
/-! ### two sorted lists merged -/
end TS

end
section
set_option Elab.async false
set_option linter.all false
set_option maxRecDepth 100000
set_option maxHeartbeats 2000000
open PySem PyProof.Rows
namespace TS
variable {prog : Program} {w : World} {A : Around} {E : Value → Shared → Prop} {s : Shared} {κ : SortKind} {G : Keyed → Prop} {r : Keyed → Keyed → Bool}
end TS

end
section
set_option Elab.async false
set_option linter.all false
set_option maxRecDepth 100000
set_option maxHeartbeats 2000000
open PySem PyProof.Rows
namespace TS
variable {prog : Program} {w : World} {A : Around} {E : Value → Shared → Prop} {s : Shared} {κ : SortKind} {G : Keyed → Prop} {r : Keyed → Keyed → Bool}
end TS

end
section
set_option Elab.async false
set_option linter.all false
set_option maxRecDepth 100000
set_option maxHeartbeats 2000000
open PySem PyProof.Rows
namespace TS
variable {prog : Program} {w : World} {A : Around} {E : Value → Shared → Prop} {s : Shared} {κ : SortKind} {G : Keyed → Prop} {r : Keyed → Keyed → Bool}
end TS

end
section
set_option Elab.async false
set_option linter.all false
set_option maxRecDepth 100000
set_option maxHeartbeats 2000000
open PySem PyProof.Rows
namespace TS
variable {prog : Program} {w : World} {A : Around} {E : Value → Shared → Prop} {s : Shared} {κ : SortKind} {G : Keyed → Prop} {r : Keyed → Keyed → Bool}
/-! ### two neighbours merged -/
end TS

end
section
set_option Elab.async false
set_option linter.all false
set_option maxRecDepth 100000
set_option maxHeartbeats 2000000
open PySem PyProof.Rows
namespace TS
variable {prog : Program} {w : World} {A : Around} {E : Value → Shared → Prop} {s : Shared} {κ : SortKind} {G : Keyed → Prop} {r : Keyed → Keyed → Bool}
end TS

end
section
set_option Elab.async false
set_option linter.all false
set_option maxRecDepth 100000
set_option maxHeartbeats 2000000
open PySem PyProof.Rows
namespace TS
variable {prog : Program} {w : World} {A : Around} {E : Value → Shared → Prop} {s : Shared} {κ : SortKind} {G : Keyed → Prop} {r : Keyed → Keyed → Bool}
end TS

end
section
set_option Elab.async false
set_option linter.all false
set_option maxRecDepth 100000
set_option maxHeartbeats 2000000
open PySem PyProof.Rows
namespace TS
variable {prog : Program} {w : World} {A : Around} {E : Value → Shared → Prop} {s : Shared} {κ : SortKind} {G : Keyed → Prop} {r : Keyed → Keyed → Bool}
end TS

end
section
set_option Elab.async false
set_option linter.all false
set_option maxRecDepth 100000
set_option maxHeartbeats 2000000
open PySem PyProof.Rows
namespace TS
variable {prog : Program} {w : World} {A : Around} {E : Value → Shared → Prop} {s : Shared} {G : Keyed → Prop} {r : Keyed → Keyed → Bool}
/-! ### orders -/
end TS

end
section
set_option Elab.async false
set_option linter.all false
set_option maxRecDepth 100000
set_option maxHeartbeats 1000000
namespace L2
open PySem PySem.Spec PyProof.Rows TS
section
variable {X : Cx}
end
end L2

end
section
set_option Elab.async false
set_option linter.all false
set_option maxRecDepth 100000
set_option maxHeartbeats 1000000
namespace VS
open PySem PySem.Spec PyProof.Rows L2
section
variable {G : Gx} {X : Cx} {e : Expr} {cs : Exs} {p pos : Pos}
theorem rpL_tx {H : Hp} : ∀ {ss : List Tx}, (∀ s ∈ ss, TxOk s) → RpL G H (ss.map fun s => V.str (sx s)) (ss.map T.str) (ss.map fun _ => [])
  | [], _ => .nil
  | s :: ss, h => .cons (.str s (h s (List.mem_cons_self ..))) (rpL_tx fun x hx => h x (List.mem_cons_of_mem _ hx))
theorem nil_flat {α β : Type} : ∀ (l : List α), (l.map fun _ => ([] : List β)).flatten = []
  | [] => rfl
  | _ :: l => by simp
end
end VS

end
section
set_option Elab.async false
set_option linter.all false
set_option maxRecDepth 100000
set_option maxHeartbeats 1000000
namespace VS
open PySem PySem.Builtin.Str PySem.StrLaws
/-- a text cut at each sign c -/
def splitTx (c : Nat) : Tx → List Tx
  | [] => [[]]
  | a :: r => if a = c then [] :: splitTx c r else match splitTx c r with
    | [] => [[a]]
    | h :: t => (a :: h) :: t
theorem splitTx_ne (c : Nat) : ∀ s : Tx, ∃ h t, splitTx c s = h :: t
  | [] => ⟨[], [], rfl⟩
  | a :: r => by
    unfold splitTx
    split
    · exact ⟨_, _, rfl⟩
    · obtain ⟨h, t, e⟩ := splitTx_ne c r
      rw [e]
      exact ⟨_, _, rfl⟩
theorem subAt_one (s : Tx) (c i : Nat) : subAt ⟨s.toArray⟩ ⟨#[c]⟩ i = decide (s[i]? = some c) := by
  unfold subAt
  show ((s.toArray.extract i (i + 1)) == #[c]) = _
  rw [List.extract_toArray, List.extract_eq_drop_take]
  have e : i + 1 - i = 1 := by omega
  rw [e]
  by_cases h : i < s.length
  · rw [List.drop_eq_getElem_cons h, List.getElem?_eq_getElem h]
    simp [List.take]
    rfl
  · rw [List.drop_eq_nil_of_le (by omega), List.getElem?_eq_none (by omega)]
    simp
theorem occ_from (s : Tx) (c : Nat) : ∀ (m a : Nat) (found : Array Nat) (free : Nat), free ≤ a → found.size ≤ a → a + m ≤ s.length + 1 →
    (forIn (List.range' a m) (found, free) (occBody ⟨s.toArray⟩ ⟨#[c]⟩ s.length (s.length + 1))).run.fst.toList = found.toList ++ (List.range' a m).filter fun i => decide (s[i]? = some c)
  | 0, a, found, free, _, _, _ => by simp
  | m + 1, a, found, free, h1, h2, h3 => by
    rw [List.range'_succ, List.forIn_cons]
    unfold occBody
    by_cases hc : s[a]? = some c
    · have ha : a < s.length := by
        rcases Nat.lt_or_ge a s.length with h | h
        · exact h
        · rw [List.getElem?_eq_none h] at hc; cases hc
      rw [if_pos ⟨⟨⟨by show found.size < s.length + 1; omega, h1⟩, by show a + 1 ≤ s.length; omega⟩, by rw [subAt_one]; exact decide_eq_true hc⟩]
      have := occ_from s c m (a + 1) (found.push a) (a + 1) (Nat.le_refl _) (by rw [Array.size_push]; omega) (by omega)
      rw [List.filter_cons, if_pos (by simpa using hc)]
      refine Eq.trans this ?_
      simp
    · rw [if_neg (fun h => hc (by have := h.2; rw [subAt_one] at this; exact of_decide_eq_true this))]
      have := occ_from s c m (a + 1) found free (by omega) (by omega) (by omega)
      rw [List.filter_cons, if_neg (by simpa using hc)]
      exact this
theorem occ_all (s : Tx) (c : Nat) : occurrences ⟨s.toArray⟩ ⟨#[c]⟩ 0 s.length (s.length + 1) = (List.range' 0 (s.length + 1)).filter fun i => decide (s[i]? = some c) := by
  rw [occ_eq]
  have := occ_from s c (s.length + 1) 0 #[] 0 (Nat.le_refl _) (Nat.le_refl _) (by omega)
  simpa using this
theorem parts_from (s : Tx) (c : Nat) : ∀ (m a st : Nat), a + m = s.length → st ≤ a →
    (((st :: ((List.range' a (m + 1)).filter fun i => decide (s[i]? = some c)).map (· + 1)).zip (((List.range' a (m + 1)).filter fun i => decide (s[i]? = some c)) ++ [s.length])).map fun (i, j) => (s.drop i).take (j - i)) =
      (match splitTx c (s.drop a) with | [] => [] | h :: t => (((s.drop st).take (a - st)) ++ h) :: t)
  | 0, a, st, h1, h2 => by
    have ha : s[a]? = none := List.getElem?_eq_none (by omega)
    have hd : s.drop a = [] := List.drop_eq_nil_of_le (by omega)
    have hn : s.length = a := by omega
    rw [hd]
    simp [splitTx, ha, hn]
  | m + 1, a, st, h1, h2 => by
    have ha : a < s.length := by omega
    have ih := parts_from s c m (a + 1)
    rw [List.range'_succ, List.filter_cons, List.drop_eq_getElem_cons ha]
    by_cases hc : s[a] = c
    · rw [if_pos (by simpa [List.getElem?_eq_getElem ha] using hc)]
      have i1 := ih (a + 1) (by omega) (Nat.le_refl _)
      obtain ⟨h, t, e⟩ := splitTx_ne c (s.drop (a + 1))
      rw [e] at i1
      simp only [splitTx, hc, if_true, e, List.map_cons, List.cons_append, List.zip_cons_cons, List.append_nil]
      rw [i1]
      simp
    · rw [if_neg (by simpa [List.getElem?_eq_getElem ha] using hc)]
      have i1 := ih st (by omega) (by omega)
      obtain ⟨h, t, e⟩ := splitTx_ne c (s.drop (a + 1))
      rw [e] at i1
      simp only [splitTx, hc, if_false, e]
      rw [i1]
      have : (s.drop st).take (a + 1 - st) = (s.drop st).take (a - st) ++ [s[a]] := by
        have e2 : a + 1 - st = (a - st) + 1 := by omega
        rw [e2, List.take_succ, List.getElem?_drop]
        have e3 : st + (a - st) = a := by omega
        rw [e3, List.getElem?_eq_getElem ha]
        rfl
      rw [this]
      simp
theorem split_tx (s : Tx) (c : Nat) (hc : c < 256) : Txt.split (sx s) (sx [c]) = (splitTx c s).map sx := by
  have k1 : Builtin.Str.strKind (sx [c]) = 1 := by unfold Builtin.Str.strKind sx; simp [hc]
  have k2 : 1 ≤ Builtin.Str.strKind (sx s) := by
    unfold Builtin.Str.strKind
    split
    · exact Nat.le_refl _
    · split <;> omega
  have key : partsBetween (sx s) (occurrences (sx s) (sx [c]) 0 (sx s).length ((sx s).length + 1)) (sx [c]).length = (splitTx c s).map sx := by
    have e1 : (sx s).length = s.length := by simp [sx, Str.length]
    have e2 : (sx [c]).length = 1 := by simp [sx, Str.length]
    have e3 : occurrences (sx s) (sx [c]) 0 s.length (s.length + 1) = _ := occ_all s c
    rw [e1, e2, e3]
    unfold partsBetween
    rw [e1]
    have p := parts_from s c s.length 0 0 (by omega) (Nat.le_refl _)
    obtain ⟨h, t, e⟩ := splitTx_ne c s
    rw [List.drop_zero, e] at p
    simp only [List.take_zero, Nat.sub_self, List.nil_append] at p
    rw [e, ← p, List.map_map]
    apply List.map_congr_left
    rintro ⟨i, j⟩ _
    show strSub (sx s) i j = sx ((s.drop i).take (j - i))
    unfold strSub sx
    simp [List.extract_eq_drop_take]
  unfold Txt.split
  by_cases h1 : (decide ((sx s).length < (sx [c]).length) || decide (Builtin.Str.strKind (sx s) < Builtin.Str.strKind (sx [c]))) = true
  · rw [if_pos h1]
    have h2 : (sx s).length < (sx [c]).length := by
      rw [k1] at h1
      simp at h1
      rcases h1 with h | h
      · exact h
      · omega
    have h3 : s = [] := by
      have e1 : (sx s).length = s.length := by simp [sx, Str.length]
      have e2 : (sx [c]).length = 1 := by simp [sx, Str.length]
      exact List.eq_nil_of_length_eq_zero (by omega)
    subst h3
    rfl
  · rw [if_neg h1]
    by_cases h2 : (occurrences (sx s) (sx [c]) 0 (sx s).length ((sx s).length + 1)).isEmpty = true
    · rw [if_pos h2]
      rw [List.isEmpty_iff.mp h2] at key
      rw [← key]
      simp [partsBetween, strSub, sx, Str.length]
    · rw [if_neg h2]
      exact key
end VS

end
section
set_option Elab.async false
set_option linter.all false
set_option maxRecDepth 100000
set_option maxHeartbeats 1000000
namespace VS
open PySem PySem.Spec PyProof.Rows L2
theorem splitTx_len (c : Nat) : ∀ s : Tx, (splitTx c s).length ≤ s.length + 1
  | [] => by simp [splitTx]
  | a :: r => by
    have ih := splitTx_len c r
    obtain ⟨h, t, e⟩ := splitTx_ne c r
    unfold splitTx
    rw [e] at ih ⊢
    split <;> simp at ih ⊢ <;> omega
theorem splitTx_mem (c : Nat) : ∀ (s : Tx), ∀ p ∈ splitTx c s, p.length ≤ s.length ∧ ∀ x ∈ p, x ∈ s
  | [], p, h => by simp [splitTx] at h; subst h; simp
  | a :: r, p, h => by
    have ih := splitTx_mem c r
    obtain ⟨h', t, e⟩ := splitTx_ne c r
    unfold splitTx at h
    rw [e] at h ih
    split at h
    · rcases List.mem_cons.mp h with rfl | h
      · simp
      · obtain ⟨i1, i2⟩ := ih p h
        exact ⟨by rw [List.length_cons]; omega, fun x hx => List.mem_cons_of_mem _ (i2 x hx)⟩
    · rcases List.mem_cons.mp h with rfl | h
      · obtain ⟨i1, i2⟩ := ih h' (List.mem_cons_self ..)
        refine ⟨by rw [List.length_cons, List.length_cons]; omega, fun x hx => ?_⟩
        rcases List.mem_cons.mp hx with rfl | hx
        · exact List.mem_cons_self ..
        · exact List.mem_cons_of_mem _ (i2 x hx)
      · obtain ⟨i1, i2⟩ := ih p (List.mem_cons_of_mem _ h)
        exact ⟨by rw [List.length_cons]; omega, fun x hx => List.mem_cons_of_mem _ (i2 x hx)⟩
section
variable {G : Gx} {X : Cx} {a e : Expr} {ca : Ex} {cs : Exs}
def rSplit : V → List V → Hp → VK → Prop := fun x vs H Q => ∃ s c, x = .str (sx s) ∧ vs = [.str (sx [c])] ∧ c < 256 ∧ s.length < LINE ∧ ∀ l, H l = none → Q (.ref l) (upd H l (.lst (((splitTx c s).map sx).map V.str)))
theorem vals_num : ∀ (l : List (Str × Tok)), Vals ((l.map (·.1)).map V.str) (strValues l)
  | [] => .nil
  | p :: l => .cons ⟨p.2, rfl⟩ (vals_num l)
theorem mt_split : MtR X "str.split" rSplit := by
  intro pins s σ H x xs v us Q I rx rxs h
  obtain ⟨z, c, rfl, rfl, hc, hl, q⟩ := h
  obtain ⟨t, rfl⟩ := rx
  obtain ⟨u, rfl, ru⟩ := vals1 rxs
  obtain ⟨t', rfl⟩ := ru
  have e1 : (sx z).length = z.length := by simp [sx, Str.length]
  have e2 : ((sx [c]).length == 0) = false := by simp [sx, Str.length]
  have hL : sizeLine = 16777216 := sizeLine_eq
  have hL' : LINE = 16777216 := rfl
  have sp := split_tx z c hc
  have fin : ∀ (l : List (Str × Tok)) (tk : Nat), l.map (·.1) = Txt.split (sx z) (sx [c]) → EP X pins σ Q (.ref s.heap.objs.size) { s with heap := s.heap.push { cls := .type "list", data := .seq (strValues l).toArray }, toks := tk } := fun l tk hlm => by
    refine ⟨.ref s.heap.objs.size, _, I.laid (t' := tk) (fun b o e => Heap.get?_push_of_some _ e) (Nat.le_refl _) (show ObjOk X.prog X.w _ _ _ (.lst (((splitTx c z).map sx).map V.str)) from ⟨?_, strValues l, 0, ?_, Heap.get?_push_size _ rfl⟩), rfl, q _ (I.hok.fresh (Nat.le_refl _))⟩
    · have := splitTx_len c z
      rw [List.length_map, List.length_map]
      omega
    · rw [← sp, ← hlm]
      exact vals_num l
  cases h1 : (decide ((sx z).length < (sx [c]).length) || decide (Builtin.Str.strKind (sx z) < Builtin.Str.strKind (sx [c])))
  · cases hf : (Builtin.Str.occurrences (sx z) (sx [c]) 0 (sx z).length ((sx z).length + 1)).isEmpty
    · have e4 : Txt.split (sx z) (sx [c]) = Builtin.Str.partsBetween (sx z) (Builtin.Str.occurrences (sx z) (sx [c]) 0 (sx z).length ((sx z).length + 1)) (sx [c]).length := by
        unfold Txt.split
        rw [h1, hf]
        simp
      have hn : (Builtin.Str.partsBetween (sx z) (Builtin.Str.occurrences (sx z) (sx [c]) 0 (sx z).length ((sx z).length + 1)) (sx [c]).length).length ≤ sizeLine := by
        rw [← e4, sp, List.length_map]
        have := splitTx_len c z
        omega
      refine call_meets F.slot_str_split (typeIs_str _ _ _) F.entry_str_split (F.args_str_split_2 _ _) (meets_str_split_sep _ _ t t' h1 e2 hf (by omega) hn) ?_
      have := fin (numbered s.toks (Builtin.Str.partsBetween (sx z) (Builtin.Str.occurrences (sx z) (sx [c]) 0 (sx z).length ((sx z).length + 1)) (sx [c]).length)) (s.toks + (Builtin.Str.partsBetween (sx z) (Builtin.Str.occurrences (sx z) (sx [c]) 0 (sx z).length ((sx z).length + 1)) (sx [c]).length).length) (by rw [numbered_texts, e4])
      rw [← strsFrom_eq] at this
      exact this
    · exact call_meets F.slot_str_split (typeIs_str _ _ _) F.entry_str_split (F.args_str_split_2 _ _) (meets_str_split_not_found _ _ t t' h1 e2 hf) (fin [(sx z, t)] s.toks (by
        unfold Txt.split
        rw [h1, hf]
        simp))
  · exact call_meets F.slot_str_split (typeIs_str _ _ _) F.entry_str_split (F.args_str_split_2 _ _) (meets_str_split_cannot_occur _ _ t t' h1) (fin [(sx z, t)] s.toks (by
      unfold Txt.split
      rw [h1]
      simp))
/-- s.split(' ') -/
def mSplit : Val → List Val → Option Val
  | (_, .str s), [(_, .str [c])] => if c < 256 ∧ s.length < LINE then some (.fr, .lst ((splitTx c s).map .str)) else none
  | _, _ => none
theorem ok_split : MtOk G rSplit mSplit := by
  intro Φ η H0 H1 H x v F l vs Fs m t Q s01 r f A e k
  unfold mSplit at e
  split at e
  · rename_i mx s my c
    split at e
    · rename_i hc
      cases e
      obtain ⟨w', F', rfl, rfl, rl⟩ := (show RpL G H vs [.str [c]] Fs from A.rp).one
      have ts := r.str_inv.2
      refine ⟨s, c, r.str_inv.1, by rw [rl.str_inv.1], hc.1, hc.2, fun q hq => ?_⟩
      have sm : Same H (upd H q (.lst (((splitTx c s).map sx).map V.str))) := same_new hq
      have tk : ∀ p ∈ splitTx c s, TxOk p := fun p hp => ⟨Nat.le_trans (splitTx_mem c s p hp).1 ts.1, fun x hx => ts.2 x ((splitTx_mem c s p hp).2 x hx)⟩
      have r0 := rpL_tx (G := G) (H := upd H q (.lst (((splitTx c s).map sx).map V.str))) tk
      have r : Rp G (upd H q (.lst (((splitTx c s).map sx).map V.str))) (.ref q) (.lst ((splitTx c s).map T.str)) (q :: ((splitTx c s).map fun _ => []).flatten) := .lst (by rw [upd_same, List.map_map]; rfl) r0
      rw [nil_flat] at r
      exact k _ _ _ sm r (Fp.new (s01.free (A.same.free hq)) (by simp) Fp.nil)
    · cases e
  · cases e
theorem pv_split {apos cpos : Pos} (ho : PV G X a ca) (ha : PVs G X [e] cs) (hK : X.K = G.K := by rfl)
    (hbase : attributeBase a "split" X.env (eval a X.env) = eval a X.env := by rfl)
    (hfew : ((backTo cpos (starEach [e] X.env)).all (fun x => !x.1) && (backToKw cpos (keywordEach [] X.env)).all (fun x => x.1.isSome)
      && decide ([e].length + ([] : List Keyword).length + (if ([] : List Keyword).isEmpty then 0 else 1) < 30)) = true := by rfl)
    (hline : (apos.endLine == cpos.line) = true := by rfl) (hs : starEach [e] X.env = (false, eval e X.env) :: starEach [] X.env := by rfl) (hplain : (backTo cpos (starEach [] X.env)).any (·.1) = false := by rfl) :
    PV G X (.Call (.Attribute a "split" apos) [e] [] cpos) (eM mSplit ca cs) :=
  pv_mt PySem.F.plainAttrs_str PySem.F.slot_str_split PySem.F.type_str_split mt_split ok_split (fun H v x F l z r e => str_recv r (by
    unfold mSplit at e
    split at e
    · exact ⟨_, rfl⟩
    · cases e)) ho ha hK hbase hfew hline hs hplain
end
end VS

end
section
set_option Elab.async false
set_option linter.all false
set_option maxRecDepth 100000
set_option maxHeartbeats 1000000
namespace VS
open PySem PySem.Spec PyProof.Rows L2
theorem scr_of {K : PySem.W.Frag} {H : Hp} {a : Addr} {ns : List Int} (hO : Only H) (hS : SqL K H a (ns.map V.int)) : ScrAt K H a ns := by
  rcases hS with h | h
  · rcases h with h | h
    · rcases hO a with z | ⟨o, xs, z⟩
      · rw [z] at h; cases h
      · rw [z] at h; cases h
    · exact .inl h
  · exact .inr h
theorem law_sp {G : Gx} {g : Fn} {H : Hp} {a : Addr} {ns : List Int} {E : XK} (hg : g [.scr ns] = some (.fr, .bl true)) (hO : Only H) (hS : SqL G.K H a (ns.map V.int)) : spF G g [.ref a] H (fun v _ => v = .bl true) E :=
  ⟨[.scr ns], [[]], .fr, .bl true, .cons (.scr (scr_of hO hS)) .nil, hg, fun v H' F _ r _ => r.bl_inv⟩
def gx0 (K : PySem.W.Frag) : Gx := ⟨K, fun _ => (0, fun _ => "")⟩
theorem vs_walk {l : PySem.W.OpenLaw} {q : Program} {loose : List Str} {XP : (Str → Option Value) → Heap → Prop} {YP : World → Heap → Prop} {d : DefRec} {K : Params → PySem.W.Frag} {g : Fn} {x : Str} {k : Nat} (hn : l.most = some 63) (hdf : d.params.defaults = []) (hr : Room k callerA)
    (hY : ∀ (w : World) (h : Heap), YP w h → (K w.params).In h) (hg : ∀ ns : List Int, g [.scr ns] = some (.fr, .bl true))
    (F : ∀ (w : World) (mg : Str → Option Value) (fa : Addr) (h : Heap), (K w.params).In h → h.Ns mainGlobals mg → mg d.name = some (.ref fa) →
      ∃ fd : FuncData, (∀ (s : Shared) (u : Value), BindsTo s fd ⟨[u], []⟩ [(x, u)]) ∧ ∀ base : Heap, (K w.params).In base → base.Ns mainGlobals mg → FnOk l.prog w (K w.params) mg base CX0 k fa fd [x] (spF (gx0 (K w.params)) g)) :
    PySem.W.WalkO q loose XP YP l.row.toRowW d [] (fun f vs => PySem.call f vs) :=
  L2.walk_of (n := 63) (k := k) (x := x) (CX := fun _ => CX0) (sp := fun w => spF (gx0 (K w.params)) g) hn (by decide) hdf hr hY F (fun w H a ns _ hO hS => law_sp (G := gx0 (K w.params)) (hg ns) hO hS) fun _ _ _ _ _ z => z
end VS

end
section
set_option Elab.async false
set_option linter.all false
set_option maxRecDepth 100000
set_option maxHeartbeats 1000000
/-! The rules once more, each judgement in a box, so that no type is opened while a link is read. -/
namespace VS
open PySem PySem.Spec PyProof.Rows L2
structure Q (p : Prop) : Prop where h : p
section
variable {G : Gx} {X : Cx} {a b c e tg iter elt : Expr} {es rest : List Expr} {ca cb cc ce : Ex} {cs : Exs} {pos pos' spos p p1 p2 apos cpos tpos : Pos} {k k' n i : Nat} {x : Str} {st : Stmt} {sts : List Stmt} {c1 c2 : Sx} {sc : Scope} {N : List Str} {ci : Its} {g : Tg} {elts : List Expr} {ps : List Str}
theorem q_pv_int {i j pos} : Q (PV G X (.Constant (.int i) j pos) (eC (.int i))) := ⟨pv_int⟩
theorem q_pv_bl {i j pos} : Q (PV G X (.Constant (.bool i) j pos) (eC (.bl i))) := ⟨pv_bl⟩
theorem q_pv_str {x : Str} {t : Tx} {j pos} (h : x = sx t) (hl : TxOk t) : Q (PV G X (.Constant (.str x) j pos) (eC (.str t))) := ⟨pv_str h hl⟩
theorem q_pv_var (i : Nat) {x : Str} {pos : Pos} (hN : X.N[i]? = some x) (hv : Vis X.env.scope x) (hd : (x == ("__debug__" : Str)) = false) (hcd : (x == ("__classdict__" : Str)) = false) : Q (PV G X (.Name x pos) (eVar i)) := ⟨pv_var i hN hv hd hcd⟩
theorem q_pvs_nil  : Q (PVs G X [] xNil) := ⟨pvs_nil⟩
theorem q_pvs_cons (ha : Q (PV G X e ca)) (hr : Q (PVs G X es cs)) (hs : starEach (e :: es) X.env = (false, eval e X.env) :: starEach es X.env) : Q (PVs G X (e :: es) (xCons ca cs)) := ⟨pvs_cons ha.h hr.h hs⟩
theorem q_pv_lst (h : Q (PVs G X es cs)) : Q (PV G X (.List es pos) (eLst cs)) := ⟨pv_lst h.h⟩
theorem q_pvt_val (h : Q (PV G X a ca)) (hK : X.K = G.K) (he : ∀ whole, isTrue a X.env whole = (do let v ← whole; standAt a.pos; holding [v] (truthy v))) : Q (PVT G X a ca) := ⟨pvt_val h.h hK he⟩
theorem q_PVW_pvt (h : Q (PVW G X e ca)) : Q (PVT G X e ca) := ⟨PVW.pvt h.h⟩
theorem q_pvw_and1 (ha : Q (PVT G X a ca)) : Q (PVW G X (.BoolOp .And [a] pos) ca) := ⟨pvw_and1 ha.h⟩
theorem q_pvw_or1 (ha : Q (PVT G X a ca)) : Q (PVW G X (.BoolOp .Or [a] pos) ca) := ⟨pvw_or1 ha.h⟩
theorem q_pvw_and (ha : Q (PVT G X a ca)) (hb : Q (PVW G X (.BoolOp .And (b :: rest) pos) cb)) : Q (PVW G X (.BoolOp .And (a :: b :: rest) pos) (eAnd ca cb)) := ⟨pvw_and ha.h hb.h⟩
theorem q_pvw_or (ha : Q (PVT G X a ca)) (hb : Q (PVW G X (.BoolOp .Or (b :: rest) pos) cb)) : Q (PVW G X (.BoolOp .Or (a :: b :: rest) pos) (eOr ca cb)) := ⟨pvw_or ha.h hb.h⟩
theorem q_pvt_not (ha : Q (PVT G X a ca)) : Q (PVT G X (.UnaryOp .Not a pos) (eNot ca)) := ⟨pvt_not ha.h⟩
theorem q_pv_one {op} (h : Q (PV G X a ca)) : Q (PV G X (.BoolOp op [a] pos) ca) := ⟨pv_one h.h⟩
theorem q_pv_and (ha : Q (PV G X a ca)) (hb : Q (PV G X (.BoolOp .And (b :: rest) pos) cb)) : Q (PV G X (.BoolOp .And (a :: b :: rest) pos) (eAnd ca cb)) := ⟨pv_and ha.h hb.h⟩
theorem q_pv_or (ha : Q (PV G X a ca)) (hb : Q (PV G X (.BoolOp .Or (b :: rest) pos) cb)) : Q (PV G X (.BoolOp .Or (a :: b :: rest) pos) (eOr ca cb)) := ⟨pv_or ha.h hb.h⟩
theorem q_pv_if (hc : Q (PVT G X c cc)) (ha : Q (PV G X a ca)) (hb : Q (PV G X b cb)) : Q (PV G X (.IfExp c a b pos) (eIf cc ca cb)) := ⟨pv_if hc.h ha.h hb.h⟩
theorem q_pvo_none  : Q (PVO G X none none) := ⟨pvo_none⟩
theorem q_pvo_some (h : Q (PV G X a ca)) : Q (PVO G X (some a) (some ca)) := ⟨pvo_some h.h⟩
theorem q_pv_slice {lo hi : Option Expr} {cl ch : Option Ex} {p2 : Pos} (ha : Q (PV G X a ca)) (hl : Q (PVO G X lo cl)) (hh : Q (PVO G X hi ch)) (hK : X.K = G.K) : Q (PV G X (.Subscript a (.Slice lo hi none p2) pos) (eSl ca cl ch)) := ⟨pv_slice ha.h hl.h hh.h hK⟩
theorem q_pv_join {apos cpos : Pos} (ho : Q (PV G X a ca)) (ha : Q (PVs G X [e] cs)) (hK : X.K = G.K) (hbase : attributeBase a "join" X.env (eval a X.env) = eval a X.env) (hfew : ((backTo cpos (starEach [e] X.env)).all (fun x => !x.1) && (backToKw cpos (keywordEach [] X.env)).all (fun x => x.1.isSome)
      && decide ([e].length + ([] : List Keyword).length + (if ([] : List Keyword).isEmpty then 0 else 1) < 30)) = true) (hline : (apos.endLine == cpos.line) = true) (hs : starEach [e] X.env = (false, eval e X.env) :: starEach [] X.env) (hplain : (backTo cpos (starEach [] X.env)).any (·.1) = false) : Q (PV G X (.Call (.Attribute a "join" apos) [e] [] cpos) (eM mJoin ca cs)) := ⟨pv_join ho.h ha.h hK hbase hfew hline hs hplain⟩
theorem q_psv_nil  : Q (PSVs G X [] sNil) := ⟨psv_nil⟩
theorem q_psv_cons (h1 : Q (PSV G X st c1)) (h2 : Q (PSVs G X sts c2)) : Q (PSVs G X (st :: sts) (sCons c1 c2)) := ⟨psv_cons h1.h h2.h⟩
theorem q_psv_one (h1 : Q (PSV G X st c1)) : Q (PSVs G X [st] c1) := ⟨psv_one h1.h⟩
theorem q_psv_if {t : Expr} {ct : Ex} {a b : List Stmt} (hc : Q (PVT G X t ct)) (ha : Q (PSVs G X a c1)) (hb : Q (PSVs G X b c2)) : Q (PSV G X (.If t a b pos) (sIf ct c1 c2)) := ⟨psv_if hc.h ha.h hb.h⟩
theorem q_psv_ret (he : Q (PV G X e ce)) : Q (PSV G X (.Return (some e) pos) (sRet ce)) := ⟨psv_ret he.h⟩
theorem q_psv_retV (i : Nat) {x : Str} {p : Pos} (hN : X.N[i]? = some x) (hv : Vis X.env.scope x) (hd : (x == ("__debug__" : Str)) = false) (hcd : (x == ("__classdict__" : Str)) = false) : Q (PSV G X (.Return (some (.Name x p)) pos) (sRetV i)) := ⟨psv_retV i hN hv hd hcd⟩
theorem q_psv_set {i : Nat} {x : Str} {pos' : Pos} (he : Q (PV G X e ce)) (hN : X.N.Nodup) (hi : X.N[i]? = some x) (hx : Loc X.env.scope x) (hs : swapsWith e (some (.Name x pos')) pos.line X.env = pure false) (hf : X.fn x = true ∨ X.env.scope.names.lookup x = some .local) : Q (PSV G X (.Assign [.Name x pos'] e pos) (sSet i ce)) := ⟨psv_set he.h hN hi hx hs hf⟩
theorem q_psv_setP {i : Nat} {x : Str} {pos' : Pos} (he : Q (PV G X e ce)) (hN : X.N.Nodup) (hi : X.N[i]? = some x) (hx : Loc X.env.scope x) (hs : swapsWith e (some (.Name x pos')) pos.line X.env = pure false) (hf : X.fn x = true ∨ X.env.scope.names.lookup x = some .local) : Q (PSV G X (.Assign [.Name x pos'] e pos) (sSetP i ce)) := ⟨psv_setP he.h hN hi hx hs hf⟩
theorem q_psv_frz {c : Sx} (i : Nat) (h : Q (PSVs G X sts c)) : Q (PSVs G X sts (sCons (sFrz i) c)) := ⟨psv_frz i h.h⟩
theorem q_pvi_range1 (ha : Q (PV G X a ca)) (hg : Gl X "range") (hm : X.mg "range" = none) (hs : starEach [a] X.env = (false, eval a X.env) :: starEach [] X.env) (hs' : starEach [a] X.env = [(false, eval a X.env)]) : Q (PVI G X tg (.Call (.Name "range" p) [a] [] pos) (iRange1 ca)) := ⟨pvi_range1 ha.h hg hm hs hs'⟩
theorem q_pvg_name (i : Nat) {x : Str} (hN : X.N.Nodup) (hi : X.N[i]? = some x) (hx : Loc X.env.scope x) (hf : X.fn x = true ∨ X.env.scope.names.lookup x = some .local) : Q (PVG G X (.Name x pos) (gVar i)) := ⟨pvg_name i hN hi hx hf⟩
theorem q_psv_for {iter : Expr} {body : List Stmt} {ci : Its} {g : Tg} {cb : Sx} (hp : PassesOwn (model X.prog X.w) X.A X.env X.xe) (hc : X.calm = true) (hi : Q (PVI G X tg iter ci)) (hg : Q (PVG G X tg g)) (hb : Q (PSVs G X body cb)) (hs : ∀ x, foldedSetIterable iter X.env x = pure x) : Q (PSV G X (.For tg iter body [] pos) (sFor g ci cb)) := ⟨psv_for hp hc hi.h hg.h hb.h hs⟩
theorem q_pv_comp (k : Nat) (N : List Str) (hcalm : X.calm = true) (hi : Q (PVI G X tg iter ci)) (hin : TgIn k g) (hg : ∀ cl C s H fp, Q (PVG G (compCx X N sc cl C s H fp) tg g)) (he : ∀ cl C s H fp, Q (PV G (compCx X N sc cl C s H fp) elt ce)) (hsc : scOk X.env sc = true) (hnm : nmOk sc (N.drop k) X.N = true) (hNl : k ≤ N.length) (hs : ∀ x, foldedSetIterable iter X.env x = pure x) : Q (PV G X (.ListComp elt [⟨tg, iter, [], 0⟩] sc pos) (eComp k g ci none ce)) := ⟨pv_comp k N hcalm hi.h hin (fun cl C s H fp => (hg cl C s H fp).h) (fun cl C s H fp => (he cl C s H fp).h) hsc hnm hNl hs⟩
theorem q_psv_setC (k : Nat) (N : List Str) {cS : Sx} (hS : ∀ D σ H, tS G cS D σ H → tE G (eComp k g ci none ce) σ H fun v H1 => D.nx (σ.set i (some v)) H1) (hcalm : X.calm = true) (hi : Q (PVI G X tg iter ci)) (hin : TgIn k g) (hg : ∀ cl C s H fp, Q (PVG G (compCx X N sc cl C s H fp) tg g)) (he : ∀ cl C s H fp, Q (PV G (compCx X N sc cl C s H fp) elt ce)) (hN : X.N.Nodup) (hiN : X.N[i]? = some x) (hx : Loc X.env.scope x) (hsc : scOk X.env sc = true) (hnm : nmOk sc (N.drop k) X.N = true) (hNl : k ≤ N.length) (hsw : swapsWith (.ListComp elt [⟨tg, iter, [], 0⟩] sc pos) (some (.Name x pos')) spos.line X.env = pure true) (hf : X.fn x = true ∨ X.env.scope.names.lookup x = some .local) (hs : ∀ x, foldedSetIterable iter X.env x = pure x) : Q (PSV G X (.Assign [.Name x pos'] (.ListComp elt [⟨tg, iter, [], 0⟩] sc pos) spos) cS) := ⟨psv_setC k N hS hcalm hi.h hin (fun cl C s H fp => (hg cl C s H fp).h) (fun cl C s H fp => (he cl C s H fp).h) hN hiN hx hsc hnm hNl hsw hf hs⟩
theorem q_w_add (ha : Q (PV G X a ca)) (hb : Q (PV G X b cb)) : Q (PV G X (.BinOp a .Add b pos) (e2 oAdd ca cb)) := ⟨w_add ha.h hb.h⟩
theorem q_w_sub (ha : Q (PV G X a ca)) (hb : Q (PV G X b cb)) : Q (PV G X (.BinOp a .Sub b pos) (e2 oSub ca cb)) := ⟨w_sub ha.h hb.h⟩
theorem q_w_mul (ha : Q (PV G X a ca)) (hb : Q (PV G X b cb)) : Q (PV G X (.BinOp a .Mult b pos) (e2 oMul ca cb)) := ⟨w_mul ha.h hb.h⟩
theorem q_w_fdiv (ha : Q (PV G X a ca)) (hb : Q (PV G X b cb)) : Q (PV G X (.BinOp a .FloorDiv b pos) (e2 oFdiv ca cb)) := ⟨w_fdiv ha.h hb.h⟩
theorem q_w_mod (ha : Q (PV G X a ca)) (hb : Q (PV G X b cb)) : Q (PV G X (.BinOp a .Mod b pos) (e2 oMod ca cb)) := ⟨w_mod ha.h hb.h⟩
theorem q_wt_lt (ha : Q (PV G X a ca)) (hb : Q (PV G X b cb)) : Q (PVT G X (.Compare a [.Lt] [b] pos) (e2 oLt ca cb)) := ⟨wt_lt ha.h hb.h⟩
theorem q_w_le (ha : Q (PV G X a ca)) (hb : Q (PV G X b cb)) : Q (PV G X (.Compare a [.LtE] [b] pos) (e2 oLe ca cb)) := ⟨w_le ha.h hb.h⟩
theorem q_w_eq (hr : Room k X.A) (ha : Q (PV G X a ca)) (hb : Q (PV G X b cb)) : Q (PV G X (.Compare a [.Eq] [b] pos) (e2 oEq ca cb)) := ⟨w_eq hr ha.h hb.h⟩
theorem q_wt_eq (hr : Room k X.A) (ha : Q (PV G X a ca)) (hb : Q (PV G X b cb)) : Q (PVT G X (.Compare a [.Eq] [b] pos) (e2 oEq ca cb)) := ⟨wt_eq hr ha.h hb.h⟩
theorem q_w_ne (hr : Room k X.A) (ha : Q (PV G X a ca)) (hb : Q (PV G X b cb)) : Q (PV G X (.Compare a [.NotEq] [b] pos) (e2 oNe ca cb)) := ⟨w_ne hr ha.h hb.h⟩
theorem q_wt_ne (hr : Room k X.A) (ha : Q (PV G X a ca)) (hb : Q (PV G X b cb)) : Q (PVT G X (.Compare a [.NotEq] [b] pos) (e2 oNe ca cb)) := ⟨wt_ne hr ha.h hb.h⟩
theorem q_w_idx (ha : Q (PV G X a ca)) (hb : Q (PV G X b cb)) (hs : PlainIx b) (hK : X.K = G.K) : Q (PV G X (.Subscript a b pos) (e2 oIdx ca cb)) := ⟨w_idx ha.h hb.h hs hK⟩
theorem q_w_len (hm : X.mg "len" = none) (ha : Q (PVs G X [e] cs)) (hg : Gl X "len") (hK : X.K = G.K) (he : starEach [e] X.env = (false, eval e X.env) :: starEach [] X.env) : Q (PV G X (.Call (.Name "len" p) [e] [] pos) (eN bLen cs)) := ⟨w_len hm ha.h hg hK he⟩
theorem q_w_max2 (hm : X.mg "max" = none) (ha : Q (PVs G X [a, b] cs)) (hc : X.calm = true) (hg : Gl X "max") (he : starEach [a, b] X.env = (false, eval a X.env) :: starEach [b] X.env) (hpl : (backTo pos (starEach [b] X.env)).any (·.1) = false) : Q (PV G X (.Call (.Name "max" p) [a, b] [] pos) (eN bMax2 cs)) := ⟨w_max2 hm ha.h hc hg he hpl⟩
theorem q_w_min2 (hm : X.mg "min" = none) (ha : Q (PVs G X [a, b] cs)) (hc : X.calm = true) (hg : Gl X "min") (he : starEach [a, b] X.env = (false, eval a X.env) :: starEach [b] X.env) (hpl : (backTo pos (starEach [b] X.env)).any (·.1) = false) : Q (PV G X (.Call (.Name "min" p) [a, b] [] pos) (eN bMin2 cs)) := ⟨w_min2 hm ha.h hc hg he hpl⟩
theorem q_w_list (hm : X.mg "list" = none) (ha : Q (PVs G X [e] cs)) (hg : Gl X "list") (hK : X.K = G.K) (he : starEach [e] X.env = (false, eval e X.env) :: starEach [] X.env) : Q (PV G X (.Call (.Name "list" p) [e] [] pos) (eN bList cs)) := ⟨w_list hm ha.h hg hK he⟩
theorem q_w_is (t : Ty) (hm : X.mg "isinstance" = none) (hm2 : X.mg (tyN t) = none) (ha : Q (PV G X a ca)) (hg : Gl X "isinstance") (hg2 : Gl X (tyN t)) (hK : X.K = G.K) (hs : starEach [a, .Name (tyN t) p2] X.env = (false, eval a X.env) :: starEach [.Name (tyN t) p2] X.env) : Q (PV G X (.Call (.Name "isinstance" p1) [a, .Name (tyN t) p2] [] pos) (eIs t ca)) := ⟨w_is t hm hm2 ha.h hg hg2 hK hs⟩
theorem q_w_append (i : Nat) {x : Str} (ha : Q (PVs G X [e] cs)) (hK : X.K = G.K) (hN : X.N[i]? = some x) (hv : Vis X.env.scope x) (hd : (x == ("__debug__" : Str)) = false) (hcd : (x == ("__classdict__" : Str)) = false) (hfew : ((backTo cpos (starEach [e] X.env)).all (fun x => !x.1) && (backToKw cpos (keywordEach [] X.env)).all (fun x => x.1.isSome)
      && decide ([e].length + ([] : List Keyword).length + (if ([] : List Keyword).isEmpty then 0 else 1) < 30)) = true) (hline : (apos.endLine == cpos.line) = true) (hs : starEach [e] X.env = (false, eval e X.env) :: starEach [] X.env) : Q (PSV G X (.Expr (.Call (.Attribute (.Name x p1) "append" apos) [e] [] cpos) pos) (sX (xMut i [] mAppend cs))) := ⟨w_append i ha.h hK hN hv hd hcd hfew hline hs⟩
theorem q_w_call {g : Fn} (F : FnAt X.prog X.w X.K X.mg X.base k x ps G g) (hr : Room k' X.A) (ha : Q (PVs G X (e :: es) cs)) (hk : k ≤ k') (hg : Gl X x) (hdb : (x == ("__debug__" : Str)) = false) (he : starEach (e :: es) X.env = (false, eval e X.env) :: starEach es X.env) (hpl : (backTo pos (starEach es X.env)).any (·.1) = false) : Q (PV G X (.Call (.Name x p) (e :: es) [] pos) (eCall g cs)) := ⟨w_call F hr ha.h hk hg hdb he hpl⟩
theorem q_pvi_val (ha : Q (PV G X a ca)) (hK : X.K = G.K) : Q (PVI G X tg a (iVal ca)) := ⟨pvi_val ha.h hK⟩
theorem q_w_sum (hm : X.mg "sum" = none) (ha : Q (PVs G X [e] cs)) (hg : Gl X "sum") (hK : X.K = G.K) (hc : X.calm = true) (he : starEach [e] X.env = (false, eval e X.env) :: starEach [] X.env) : Q (PV G X (.Call (.Name "sum" p) [e] [] pos) (eN bSum cs)) := ⟨w_sum hm ha.h hg hK hc he⟩
theorem q_w_all (hm : X.mg "all" = none) (ha : Q (PVs G X [e] cs)) (hg : Gl X "all") (hK : X.K = G.K) (hc : X.calm = true) (he : starEach [e] X.env = (false, eval e X.env) :: starEach [] X.env) : Q (PV G X (.Call (.Name "all" p) [e] [] pos) (eN bAll cs)) := ⟨w_all hm ha.h hg hK hc he⟩
theorem q_wt_gt (ha : Q (PV G X a ca)) (hb : Q (PV G X b cb)) : Q (PVT G X (.Compare a [.Gt] [b] pos) (e2 oGt ca cb)) := ⟨wt_gt ha.h hb.h⟩
theorem q_w_chain_le_le (ha : Q (PV G X a ca)) (hb : Q (PV G X b cb)) (hc : Q (PV G X c cc)) (hm : lastMarks [.LtE, .LtE] [b, c] = false) : Q (PV G X (.Compare a [.LtE, .LtE] [b, c] pos) (eChain oLe oLe ca cb cc)) := ⟨w_chain_le_le ha.h hb.h hc.h hm⟩
theorem q_w_const {x : Str} {i : Int} (h : ∃ t, X.mg x = some (.int i t)) (hg : Gl X x) (hd : (x == ("__debug__" : Str)) = false) : Q (PV G X (.Name x pos) (eC (.int i))) := ⟨w_const h hg hd⟩
theorem q_psv_no {st : Stmt} : Q (PSV G X st sNo) := ⟨psv_no⟩
theorem q_pv_split {apos cpos : Pos} (ho : Q (PV G X a ca)) (ha : Q (PVs G X [e] cs)) (hK : X.K = G.K) (hbase : attributeBase a "split" X.env (eval a X.env) = eval a X.env) (hfew : ((backTo cpos (starEach [e] X.env)).all (fun x => !x.1) && (backToKw cpos (keywordEach [] X.env)).all (fun x => x.1.isSome)
      && decide ([e].length + ([] : List Keyword).length + (if ([] : List Keyword).isEmpty then 0 else 1) < 30)) = true) (hline : (apos.endLine == cpos.line) = true) (hs : starEach [e] X.env = (false, eval e X.env) :: starEach [] X.env) (hplain : (backTo cpos (starEach [] X.env)).any (·.1) = false) : Q (PV G X (.Call (.Attribute a "split" apos) [e] [] cpos) (eM mSplit ca cs)) := ⟨pv_split ho.h ha.h hK hbase hfew hline hs hplain⟩
end
section
variable {G : Gx} {P : Program} {w : World} {K : PySem.W.Frag} {mg : Str → Option Value} {base : Heap}
theorem q_def {x : Str} {st : Stmt} {f : Addr} {fd : FuncData} {N ps : List Str} {k np nn : Nat} {c : Sx} (F : Fun K x x st f fd) (hm : mg x = some (.ref f)) (S : FnScope N ps (defScope st)) (hp : ps.length = np) (hn : N.length = nn)
    (hbd : ∀ (kV doc pm : Value) (an : Option Addr) (cdv ct : Value) (us : List Value), us.length = ps.length → bindArgs (PySem.W.fnOf x x (defArgs st) (defBody st) (defScope st) .none kV doc pm an cdv ct) ⟨us, []⟩ = pure (ps.zip us))
    (hb : ∀ (cdv : Value) (A : Around) (outer : List PySem.Env) (s : Shared) (H : Hp) (E : XK), Room k (A.deeper (envOfC x (defScope st) s.heap.objs.size f cdv)) → Q (PSVs G (cxOf CX0 P w K mg base N x (defScope st) f cdv A outer s H E).nox (defBody st) c)) :
    FnAt P w K mg base (k + 1) x ps G (fn np nn c) := w_def F hm S hp hn hbd fun cdv A outer s H E hr => (hb cdv A outer s H E hr).h
theorem q_fn {x qual : Str} {st : Stmt} {f : Addr} {fd : FuncData} {N ps : List Str} {k np nn : Nat} {c : Sx} (F : Fun K x qual st f fd) (S : FnScope N ps (defScope st)) (hp : ps.length = np) (hn : N.length = nn)
    (hb : ∀ (cdv : Value) (A : Around) (outer : List PySem.Env) (s : Shared) (H : Hp) (E : XK), Room k (A.deeper (envOfC qual (defScope st) s.heap.objs.size f cdv)) → Q (PSVs G (cxOf CX0 P w K mg base N qual (defScope st) f cdv A outer s H E).nox (defBody st) c)) :
    FnOk P w K mg base CX0 (k + 1) f fd ps (spF G (fn np nn c)) := fnV F S hp hn fun cdv A outer s H E hr => (hb cdv A outer s H E hr).h
end
end VS

end
section
namespace T49
open VS
/-- has_only_signs: 0 thing -/
def c_has_only_signs : Fn := fn 1 1
    (sRet (eAnd (eIs .str (eVar 0)) (eN bAll (xCons (eComp 1 (gVar 0) (iVal (eVar 0)) none (eChain oLe oLe (eC (.str [97])) (eVar 0) (eC (.str [122])))) xNil))))

/-- is_word: 0 thing -/
def c_is_word : Fn := fn 1 1
    (sRet (eAnd (eCall c_has_only_signs (xCons (eVar 0) xNil)) (e2 oLe (eN bLen (xCons (eVar 0) xNil)) (eC (.int 200)))))

/-- signs_in: 0 book -/
def c_signs_in : Fn := fn 1 1
    (sRet (eN bSum (xCons (eComp 1 (gVar 0) (iVal (eVar 0)) none (eN bLen (xCons (eVar 0) xNil))) xNil)))

/-- is_book: 0 thing -/
def c_is_book : Fn := fn 1 1
    (sCons (sIf (eOr (eNot (eIs .list (eVar 0))) (e2 oGt (eN bLen (xCons (eVar 0) xNil)) (eC (.int 8)))) (sRet (eC (.bl false))) sNil)
    (sRet (eAnd (eN bAll (xCons (eComp 1 (gVar 0) (iVal (eVar 0)) none (eCall c_has_only_signs (xCons (eVar 0) xNil))) xNil)) (e2 oLe (eCall c_signs_in (xCons (eVar 0) xNil)) (eC (.int 120))))))

/-- show_word: 0 word -/
def c_show_word : Fn := fn 1 1
    (sRet (eIf (e2 oNe (eVar 0) (eC (.str []))) (eVar 0) (eC (.str [45]))))

/-- show_words: 0 some -/
def c_show_words : Fn := fn 1 1
    (sRet (eM mJoin (eC (.str [32])) (xCons (eComp 1 (gVar 0) (iVal (eVar 0)) none (eCall c_show_word (xCons (eVar 0) xNil))) xNil)))

/-- show_book: 0 book -/
def c_show_book : Fn := fn 1 1
    (sRet (eIf (e2 oGt (eN bLen (xCons (eVar 0) xNil)) (eC (.int 0))) (eCall c_show_words (xCons (eVar 0) xNil)) (eC (.str [46]))))

/-- is_shown_word: 0 text -/
def c_is_shown_word : Fn := fn 1 1
    (sRet (eOr (e2 oEq (eVar 0) (eC (.str [45]))) (eAnd (e2 oNe (eVar 0) (eC (.str []))) (eCall c_is_word (xCons (eVar 0) xNil)))))

/-- read_word: 0 text -/
def c_read_word : Fn := fn 1 1
    (sRet (eIf (e2 oNe (eVar 0) (eC (.str [45]))) (eVar 0) (eC (.str []))))

/-- read_book: 0 text 1 fields 2 book -/
def c_read_book : Fn := fn 1 3
    (sCons (sIf (eNot (eIs .str (eVar 0))) sNo sNil)
    (sCons (sIf (e2 oEq (eVar 0) (eC (.str [46]))) (sRet (eLst xNil)) sNil)
    (sCons (sSetP 1 (eM mSplit (eVar 0) (xCons (eC (.str [32])) xNil)))
    (sCons (sSet 2 (eComp 1 (gVar 0) (iVal (eVar 1)) none (eCall c_read_word (xCons (eVar 0) xNil))))
    (sCons (sIf (eOr (eNot (eN bAll (xCons (eComp 1 (gVar 0) (iVal (eVar 1)) none (eCall c_is_shown_word (xCons (eVar 0) xNil))) xNil))) (eNot (eCall c_is_book (xCons (eVar 2) xNil)))) sNo sNil)
    (sRetV 2))))))

/-- _law_cell_at: 0 _law_script 1 _law_k -/
def c_law_cell_at : Fn := fn 2 2
    (sCons (sIf (e2 oLt (eVar 1) (eN bLen (xCons (eVar 0) xNil))) (sRet (e2 oIdx (eVar 0) (eVar 1))) sNil)
    (sRet (eC (.int 0))))

/-- _law_mixed: 0 _law_cell 1 _law_k 2 _law_number -/
def c_law_mixed : Fn := fn 2 3
    (sCons (sSetP 2 (e2 oMod (e2 oAdd (e2 oAdd (e2 oMod (eVar 0) (eC (.int 2147483629))) (e2 oMul (eC (.int 48271)) (eVar 1))) (eC (.int 11))) (eC (.int 2147483629))))
    (sCons (sSetP 2 (e2 oAdd (e2 oMod (e2 oMul (eVar 2) (eVar 2)) (eC (.int 2147483629))) (e2 oMul (eC (.int 7919)) (eVar 1))))
    (sRet (e2 oMod (e2 oMul (eVar 2) (eVar 2)) (eC (.int 2147483587))))))

def c_law_text_L1 : Sx :=
    (sIf (e2 oEq (e2 oMod (eCall c_law_cell_at (xCons (eVar 0) (xCons (eC (.int 0)) xNil))) (eC (.int 2))) (eC (.int 0))) (sCons (sX (xMut 6 [] mAppend (xCons (e2 oIdx (eVar 1) (e2 oMod (eVar 4) (eN bLen (xCons (eVar 1) xNil)))) xNil)))
    (sSetP 4 (e2 oFdiv (eVar 4) (eN bLen (xCons (eVar 1) xNil))))) (sX (xMut 6 [] mAppend (xCons (e2 oIdx (eVar 1) (e2 oMod (e2 oFdiv (eCall c_law_mixed (xCons (eVar 4) (xCons (e2 oAdd (e2 oMul (eC (.int 30)) (eVar 3)) (eVar 7)) xNil))) (eC (.int 7))) (eN bLen (xCons (eVar 1) xNil)))) xNil))))
/-- _law_text: 0 _law_script 1 _law_letters 2 _law_most 3 _law_j 4 _law_cell 5 _law_size 6 _law_signs 7 _law_k -/
def c_law_text : Fn := fn 4 8
    (sCons (sSetP 4 (eCall c_law_cell_at (xCons (eVar 0) (xCons (e2 oAdd (eC (.int 1)) (eVar 3)) xNil))))
    (sCons (sSetP 5 (e2 oMod (eVar 4) (e2 oAdd (eVar 2) (eC (.int 1)))))
    (sCons (sSetP 4 (e2 oFdiv (eVar 4) (e2 oAdd (eVar 2) (eC (.int 1)))))
    (sCons (sSet 6 (eLst xNil))
    (sCons (sFor (gVar 7) (iRange1 (eVar 5)) c_law_text_L1)
    (sCons (sFrz 6)
    (sRet (eM mJoin (eC (.str [])) (xCons (eVar 6) xNil)))))))))

/-- _law_book: 0 _law_script 1 _law_cell 2 _law_letters 3 _law_count 4 _law_most -/
def c_law_book : Fn := fn 1 5
    (sCons (sSetP 1 (eCall c_law_cell_at (xCons (eVar 0) (xCons (eC (.int 0)) xNil))))
    (sCons (sSetP 2 (e2 oIdx (eLst (xCons (eC (.str [97, 98])) (xCons (eC (.str [97, 98, 99])) (xCons (eC (.str [97, 98, 99, 100])) (xCons (eC (.str [97, 122])) (xCons (eC (.str [97])) (xCons (eC (.str [97, 98, 99, 100, 101, 102, 103, 104, 105, 106, 107, 108, 109, 110, 111, 112, 113, 114, 115, 116, 117, 118, 119, 120, 121, 122])) xNil))))))) (e2 oMod (e2 oFdiv (eVar 1) (eC (.int 2))) (eC (.int 6)))))
    (sCons (sSetP 3 (e2 oIdx (eLst (xCons (eC (.int 1)) (xCons (eC (.int 2)) (xCons (eC (.int 3)) (xCons (eC (.int 4)) (xCons (eC (.int 2)) (xCons (eC (.int 1)) (xCons (eC (.int 0)) (xCons (eC (.int 8)) xNil))))))))) (e2 oMod (e2 oFdiv (eVar 1) (eC (.int 12))) (eC (.int 8)))))
    (sCons (sSetP 4 (e2 oIdx (eLst (xCons (eC (.int 24)) (xCons (eC (.int 12)) (xCons (eC (.int 8)) (xCons (eC (.int 6)) xNil))))) (e2 oSub (eN bMin2 (xCons (eVar 3) (xCons (eC (.int 4)) xNil))) (eC (.int 1)))))
    (sCons (sIf (e2 oEq (e2 oMod (e2 oFdiv (eVar 1) (eC (.int 96))) (eC (.int 8))) (eC (.int 5))) (sSetP 4 (e2 oFdiv (eC (.int 60)) (eN bMax2 (xCons (eC (.int 1)) (xCons (eVar 3) xNil))))) sNil)
    (sCons (sIf (eAnd (e2 oEq (eVar 3) (eC (.int 8))) (e2 oNe (e2 oMod (e2 oFdiv (eVar 1) (eC (.int 96))) (eC (.int 8))) (eC (.int 5)))) (sSetP 4 (eC (.int 3))) sNil)
    (sRet (eComp 1 (gVar 0) (iRange1 (eVar 3)) none (eCall c_law_text (xCons (eVar 1) (xCons (eVar 3) (xCons (eVar 5) (xCons (eVar 0) xNil)))))))))))))

def c_law_due_L1 : Sx :=
    (sCons (sIf (e2 oGt (eVar 2) (eC (.int 0))) (sSetP 1 (e2 oAdd (eVar 1) (eC (.str [32])))) sNil)
    (sCons (sIf (e2 oEq (e2 oIdx (eVar 0) (eVar 2)) (eC (.str []))) (sSetP 1 (e2 oAdd (eVar 1) (eC (.str [45])))) sNil)
    (sSetP 1 (e2 oAdd (eVar 1) (e2 oIdx (eVar 0) (eVar 2))))))
/-- _law_due: 0 _law_book_here 1 _law_text_here 2 _law_k -/
def c_law_due : Fn := fn 1 3
    (sCons (sSetP 1 (eC (.str [])))
    (sCons (sFor (gVar 2) (iRange1 (eN bLen (xCons (eVar 0) xNil))) c_law_due_L1)
    (sCons (sIf (e2 oEq (eVar 0) (eLst xNil)) (sRet (eC (.str [46]))) sNil)
    (sRetV 1))))

def c_law_L1 : Sx :=
    (sCons (sSet 7 (eCall c_read_book (xCons (eVar 5) xNil)))
    (sCons (sIf (eOr (eNot (eIs .list (eVar 7))) (eOr (e2 oNe (eVar 7) (eVar 3)) (eNot (eN bAll (xCons (eComp 1 (gVar 0) (iVal (eVar 7)) none (eIs .str (eVar 0))) xNil))))) (sRet (eC (.bl false))) sNil)
    (sX (xMut 7 [] mAppend (xCons (eC (.str [97])) xNil)))))
def c_law_L2 : Sx :=
    (sCons (sSetP 3 (eSl (e2 oAdd (eVar 1) (eVar 2)) none (some (eC (.int 8)))))
    (sCons (sIf (e2 oEq (e2 oMod (eCall c_law_cell_at (xCons (eVar 0) (xCons (eC (.int 10)) xNil))) (eC (.int 2))) (eC (.int 1))) (sSetP 3 (eSl (e2 oAdd (eVar 2) (eVar 1)) none (some (eC (.int 8))))) sNil)
    (sCons (sSetP 4 (eN bList (xCons (eVar 3) xNil)))
    (sCons (sSetP 5 (eCall c_show_book (xCons (eVar 4) xNil)))
    (sCons (sIf (eOr (eNot (eIs .str (eVar 5))) (eOr (e2 oNe (eVar 5) (eCall c_law_due (xCons (eVar 3) xNil))) (e2 oNe (eVar 4) (eVar 3)))) (sRet (eC (.bl false))) sNil)
    (sFor (gVar 6) (iRange1 (eC (.int 2))) c_law_L1))))))
/-- law: 0 _law_script 1 _law_book_here 2 _law_more 3 _law_whole 4 _law_handed 5 _law_text_here 6 _law_turn 7 _law_got -/
def c_law : Fn := fn 1 8
    (sCons (sSetP 1 (eCall c_law_book (xCons (eVar 0) xNil)))
    (sCons (sFor (gVar 2) (iVal (eLst (xCons (eLst xNil) (xCons (eLst (xCons (eC (.str [])) xNil)) (xCons (eLst (xCons (eC (.str [])) (xCons (eC (.str [])) xNil))) xNil))))) c_law_L2)
    (sRet (eAnd (e2 oEq (eCall c_show_book (xCons (eLst xNil) xNil)) (eC (.str [46]))) (e2 oEq (eCall c_read_book (xCons (eC (.str [46])) xNil)) (eLst xNil))))))

end T49

end
section
set_option linter.all false
namespace T49
open VS
def cellAt (ns : List Int) (k : Nat) : Int := (ns[k]?).getD 0
theorem l_cell_at (ns : List Int) (k : Nat) : c_law_cell_at [.scr ns, .int k] = some (.fr, .int (cellAt ns k)) := by
  by_cases h : k < ns.length
  · have h2 : (k : Int) < (ns.length : Int) := by omega
    simp [c_law_cell_at, h, h2, ixP, cellAt]
  · have h2 : ¬ (k : Int) < (ns.length : Int) := by omega
    simp [c_law_cell_at, h2, cellAt, List.getElem?_eq_none (Nat.le_of_not_lt h)]
def mixed (c k : Int) : Int :=
  let n := (c % 2147483629 + 48271 * k + 11) % 2147483629
  let n := n * n % 2147483629 + 7919 * k
  n * n % 2147483587
theorem l_mixed (c k : Int) (h0 : 0 ≤ k) (h1 : k < 1000000) : c_law_mixed [.int c, .int k] = some (.fr, .int (mixed c k)) := by
  have e0 := Int.emod_nonneg (c % 2147483629 + 48271 * k + 11) (b := 2147483629) (by decide)
  have e1 := Int.emod_lt_of_pos (c % 2147483629 + 48271 * k + 11) (b := 2147483629) (by decide)
  have e2 := Int.emod_nonneg ((c % 2147483629 + 48271 * k + 11) % 2147483629 * ((c % 2147483629 + 48271 * k + 11) % 2147483629)) (b := 2147483629) (by decide)
  have e3 := Int.emod_lt_of_pos ((c % 2147483629 + 48271 * k + 11) % 2147483629 * ((c % 2147483629 + 48271 * k + 11) % 2147483629)) (b := 2147483629) (by decide)
  simp [c_law_mixed, mixed, oMod_ok, oMul_l (i := 48271) (by decide), oMul_l (i := 7919) (by decide)]
  rw [oMul_l (by omega)]
  simp [oMod_ok]
  rw [oMul_l (by omega)]
  simp [oMod_ok]
def txt (ns : List Int) (letters : Tx) (j : Nat) : Int → List Nat → Tx
  | _, [] => []
  | c, k :: r => if cellAt ns 0 % 2 = 0 then letters.getD (c % letters.length).toNat 0 :: txt ns letters j (c / letters.length) r
    else letters.getD (mixed c (30 * j + k) / 7 % letters.length).toNat 0 :: txt ns letters j c r
theorem txt_len (ns : List Int) (letters : Tx) (j : Nat) : ∀ (l : List Nat) (c : Int), (txt ns letters j c l).length = l.length
  | [], _ => rfl
  | k :: r, c => by
    unfold txt
    split <;> simp [txt_len ns letters j r]
theorem txt_mem (ns : List Int) (letters : Tx) (j : Nat) (h : 0 < letters.length) : ∀ (l : List Nat) (c : Int), ∀ x ∈ txt ns letters j c l, x ∈ letters
  | [], _ => fun x hx => by simp [txt] at hx
  | k :: r, c => fun x hx => by
    have g : ∀ y : Int, letters.getD (y % letters.length).toNat 0 ∈ letters := fun y => by
      have b0 := Int.emod_nonneg y (b := (letters.length : Int)) (by omega)
      have b1 := Int.emod_lt_of_pos y (b := (letters.length : Int)) (by omega)
      have : (y % letters.length).toNat < letters.length := by omega
      rw [List.getD_eq_getElem?_getD, List.getElem?_eq_getElem this]
      exact List.getElem_mem this
    unfold txt at hx
    split at hx
    · rcases List.mem_cons.mp hx with e | e
      · rw [e]; exact g c
      · exact txt_mem ns letters j h r _ x e
    · rcases List.mem_cons.mp hx with e | e
      · rw [e]; exact g _
      · exact txt_mem ns letters j h r _ x e
theorem idx_letter {m n : Md} (letters : Tx) (h : 0 < letters.length) (y : Int) : oIdx (m, .str letters) (n, .int (y % letters.length)) = some (.fr, .str [letters.getD (y % letters.length).toNat 0]) := by
  have b0 := Int.emod_nonneg y (b := (letters.length : Int)) (by omega)
  have b1 := Int.emod_lt_of_pos y (b := (letters.length : Int)) (by omega)
  have b2 : (y % letters.length).toNat < letters.length := by omega
  simp [ixP, b0, b1, List.getD_eq_getElem?_getD, b2]

theorem txt_loop (ns : List Int) (letters : Tx) (most j size : Int) (jn : Nat) (hj : j = jn) (hjn : jn ≤ 1000) (hl : 0 < letters.length) (hl2 : letters.length < 1000) : ∀ (ks : List Nat) (c : Int) (signs : List T) (z : Option Cell), (∀ k ∈ ks, k < 1000) → signs.length + ks.length ≤ 1000 →
    ∃ c' z', forL (gVar 7) c_law_text_L1 (ks.map fun (k : Nat) => T.int (k : Int)) [some (.pu (.scr ns)), some (.pu (.str letters)), some (.pu (.int most)), some (.pu (.int j)), some (.pu (.int c)), some (.pu (.int size)), some (.ow (.lst signs)), z] =
      some (.nx [some (.pu (.scr ns)), some (.pu (.str letters)), some (.pu (.int most)), some (.pu (.int j)), some (.pu (.int c')), some (.pu (.int size)), some (.ow (.lst (signs ++ (txt ns letters jn c ks).map fun x => .str [x]))), z'])
  | [], c, signs, z, _, _ => ⟨c, z, by simp [forL, txt]⟩
  | k :: ks, c, signs, z, hk, hs => by
    have h1 : k < 1000 := hk k List.mem_cons_self
    have hs' : signs.length + ks.length < 1000 := by simp only [List.length_cons] at hs; omega
    have ll : (0 : Int) < letters.length := by omega
    have l0 := l_cell_at ns 0
    simp only [Int.natCast_zero] at l0
    subst hj
    have mx := l_mixed c (30 * (jn : Int) + k) (by omega) (by omega)
    by_cases p : cellAt ns 0 % 2 = 0
    · obtain ⟨c', z', e⟩ := txt_loop ns letters most jn size jn rfl hjn hl hl2 ks (c / letters.length) (signs ++ [.str [letters.getD (c % letters.length).toNat 0]]) (some (.pu (.int k))) (fun k hk' => hk k (List.mem_cons_of_mem _ hk')) (by simp only [List.length_append, List.length_singleton]; omega)
      refine ⟨c', z', ?_⟩
      rw [List.map_cons, forL_nx (η1 := [some (.pu (.scr ns)), some (.pu (.str letters)), some (.pu (.int most)), some (.pu (.int jn)), some (.pu (.int c)), some (.pu (.int size)), some (.ow (.lst signs)), some (.pu (.int k))]) (by simp)
        (η2 := [some (.pu (.scr ns)), some (.pu (.str letters)), some (.pu (.int most)), some (.pu (.int jn)), some (.pu (.int (c / letters.length))), some (.pu (.int size)), some (.ow (.lst (signs ++ [.str [letters.getD (c % letters.length).toNat 0]]))), some (.pu (.int k))]) (by
          simp [-oIdx, -List.getD_eq_getElem?_getD, c_law_text_L1, l0, oMod_ok (j := 2) (by decide), oMod_ok ll, p, idx_letter letters hl, mAppend_ok (show signs.length < 16777216 by omega), oFdiv_ok (show (0 : Int) < letters.length ∧ (letters.length : Int) < 1073741824 by omega)]), e]
      simp [txt, p]
    · obtain ⟨c', z', e⟩ := txt_loop ns letters most jn size jn rfl hjn hl hl2 ks c (signs ++ [.str [letters.getD (mixed c (30 * jn + k) / 7 % letters.length).toNat 0]]) (some (.pu (.int k))) (fun k hk' => hk k (List.mem_cons_of_mem _ hk')) (by simp only [List.length_append, List.length_singleton]; omega)
      refine ⟨c', z', ?_⟩
      rw [List.map_cons, forL_nx (η1 := [some (.pu (.scr ns)), some (.pu (.str letters)), some (.pu (.int most)), some (.pu (.int jn)), some (.pu (.int c)), some (.pu (.int size)), some (.ow (.lst signs)), some (.pu (.int k))]) (by simp)
        (η2 := [some (.pu (.scr ns)), some (.pu (.str letters)), some (.pu (.int most)), some (.pu (.int jn)), some (.pu (.int c)), some (.pu (.int size)), some (.ow (.lst (signs ++ [.str [letters.getD (mixed c (30 * jn + k) / 7 % letters.length).toNat 0]]))), some (.pu (.int k))]) (by
          simp [-oIdx, -List.getD_eq_getElem?_getD, c_law_text_L1, l0, oMod_ok (j := 2) (by decide), oMod_ok ll, p, mx, oMul_l (i := 30) (by decide), idx_letter letters hl, mAppend_ok (show signs.length < 16777216 by omega), oFdiv_ok (j := 7) (by decide)]), e]
      simp [txt, p]

def textOf (ns : List Int) (letters : Tx) (most : Int) (j : Nat) : Tx := txt ns letters j (cellAt ns (1 + j) / (most + 1)) (List.range (cellAt ns (1 + j) % (most + 1)).toNat)
theorem l_text (ns : List Int) (letters : Tx) (most : Int) (j : Nat) (hj : j ≤ 1000) (hl : 0 < letters.length) (hl2 : letters.length < 1000) (h0 : 0 ≤ most) (h1 : most < 1000) :
    c_law_text [.scr ns, .str letters, .int most, .int j] = some (.fr, .str (textOf ns letters most j)) := by
  have c := l_cell_at ns (1 + j)
  have e1 : ((1 + j : Nat) : Int) = 1 + (j : Int) := by omega
  rw [e1] at c
  have b0 := Int.emod_nonneg (cellAt ns (1 + j)) (b := most + 1) (by omega)
  have b1 := Int.emod_lt_of_pos (cellAt ns (1 + j)) (b := most + 1) (by omega)
  obtain ⟨c', z', e⟩ := txt_loop ns letters most j (cellAt ns (1 + j) % (most + 1)) j rfl hj hl hl2 (List.range (cellAt ns (1 + j) % (most + 1)).toNat) (cellAt ns (1 + j) / (most + 1)) [] none (fun k hk => by have := List.mem_range.mp hk; omega) (by rw [List.length_range]; simp; omega)
  have rg : ∀ (a : Ex) (η : Env) (m : Md), a η = some (m, .int (cellAt ns (1 + j) % (most + 1))) → iRange1 a η = some (.fr, rng 0 (cellAt ns (1 + j) % (most + 1)).toNat) := fun a η m e => iRange1_ok e (by omega)
  have jn : ∀ m n, mJoin (m, .str []) [(n, .lst ((txt ns letters j (cellAt ns (1 + j) / (most + 1)) (List.range (cellAt ns (1 + j) % (most + 1)).toNat)).map fun x => .str [x]))] = some (.fr, .str (textOf ns letters most j)) := fun m n => by
    rw [mJoin_nil (strs_map (fun x => [x]) _) (by rw [flat_singles, txt_len, List.length_range]; omega), flat_singles]
    rfl
  simp [c_law_text, c, oMod_ok (show (0 : Int) < most + 1 by omega), oFdiv_ok (show (0 : Int) < most + 1 ∧ most + 1 < 1073741824 by omega), mkL_ok]
  rw [rg _ _ .fr (by simp)]
  simp [rng_zero]
  rw [e]
  simp [imms_map, jn]
theorem textOf_len (ns : List Int) (letters : Tx) (most : Int) (j : Nat) (h0 : 0 ≤ most) : (textOf ns letters most j).length ≤ most.toNat := by
  unfold textOf
  rw [txt_len, List.length_range]
  have b0 := Int.emod_nonneg (cellAt ns (1 + j)) (b := most + 1) (by omega)
  have b1 := Int.emod_lt_of_pos (cellAt ns (1 + j)) (b := most + 1) (by omega)
  omega
theorem textOf_mem (ns : List Int) (letters : Tx) (most : Int) (j : Nat) (h : 0 < letters.length) : ∀ x ∈ textOf ns letters most j, x ∈ letters := txt_mem ns letters j h _ _

def lettersAll : List Tx := [[97, 98], [97, 98, 99], [97, 98, 99, 100], [97, 122], [97], [97, 98, 99, 100, 101, 102, 103, 104, 105, 106, 107, 108, 109, 110, 111, 112, 113, 114, 115, 116, 117, 118, 119, 120, 121, 122]]
theorem lettersAll_ok (i : Int) (h0 : 0 ≤ i) (h1 : i < 6) : 0 < (lettersAll.getD i.toNat []).length ∧ (lettersAll.getD i.toNat []).length < 1000 ∧ ∀ c ∈ lettersAll.getD i.toNat [], 97 ≤ c ∧ c ≤ 122 := by
  have : ∀ k, k < 6 → 0 < (lettersAll.getD k []).length ∧ (lettersAll.getD k []).length < 1000 ∧ ∀ c ∈ lettersAll.getD k [], 97 ≤ c ∧ c ≤ 122 := by decide
  exact this i.toNat (by omega)
def bookL (ns : List Int) (letters : Tx) (most : Int) (count : Nat) : List Tx := (List.range count).map fun j => textOf ns letters most j
theorem bookL_ok (ns : List Int) (letters : Tx) (most : Int) (count : Nat) (h0 : 0 ≤ most) : (bookL ns letters most count).length = count ∧ (bookL ns letters most count).flatten.length ≤ count * most.toNat ∧ (0 < letters.length → ∀ t ∈ bookL ns letters most count, ∀ c ∈ t, c ∈ letters) := by
  refine ⟨by simp [bookL], ?_, fun hl t ht c hc => ?_⟩
  · induction count with
    | zero => simp [bookL]
    | succ n ih =>
      have := textOf_len ns letters most n h0
      simp only [bookL, List.range_succ, List.map_append, List.flatten_append, List.length_append, List.map_cons, List.map_nil, List.flatten_cons, List.flatten_nil, List.append_nil] at ih ⊢
      rw [Nat.succ_mul]
      omega
  · obtain ⟨j, _, rfl⟩ := List.mem_map.mp ht
    exact textOf_mem ns letters most j hl c hc
theorem book_comp (ns : List Int) (letters : Tx) (most count : Int) (cell : T) (h0 : 0 ≤ most) (h1 : most < 1000) (c0 : 0 ≤ count) (c1 : count ≤ 8) (hl : 0 < letters.length) (hl2 : letters.length < 1000) :
    eComp 1 (gVar 0) (iRange1 (eVar 3)) none (eCall c_law_text (xCons (eVar 1) (xCons (eVar 3) (xCons (eVar 5) (xCons (eVar 0) xNil))))) [some (.pu (.scr ns)), some (.pu cell), some (.pu (.str letters)), some (.pu (.int count)), some (.pu (.int most))] =
      some (.fr, .lst ((bookL ns letters most count.toNat).map .str)) := by
  have := eComp_map (k := 1) (tg := gVar 0) (it := iRange1 (eVar 3)) (elt := eCall c_law_text (xCons (eVar 1) (xCons (eVar 3) (xCons (eVar 5) (xCons (eVar 0) xNil)))))
    (η := [some (.pu (.scr ns)), some (.pu cell), some (.pu (.str letters)), some (.pu (.int count)), some (.pu (.int most))]) (m := .fr) (fun (j : Nat) => T.int (j : Int)) (fun j => T.str (textOf ns letters most j)) (List.range count.toNat)
    (by rw [iRange1_ok (m := .fr) (j := count) (by simp) (by omega), rng_zero]) rfl (by rw [List.length_range]; omega) (fun j hj => ⟨_, by simp; rfl, by
      have := List.mem_range.mp hj
      simp [l_text ns letters most j (by omega) hl hl2 h0 h1]⟩)
  rw [this]
  simp [bookL]
set_option maxHeartbeats 8000000 in
theorem l_book (ns : List Int) : ∃ bk : List Tx, c_law_book [.scr ns] = some (.fr, .lst (bk.map .str)) ∧ bk.length ≤ 8 ∧ bk.flatten.length ≤ 60 ∧ ∀ t ∈ bk, ∀ c ∈ t, 97 ≤ c ∧ c ≤ 122 := by
  have l0 := l_cell_at ns 0
  simp only [Int.natCast_zero] at l0
  generalize cellAt ns 0 = cell at l0
  have a0 := Int.emod_nonneg (cell / 2) (b := 6) (by decide)
  have a1 := Int.emod_lt_of_pos (cell / 2) (b := 6) (by decide)
  have li := idx_at (m := .fr) (n := .fr) T.str lettersAll (cell / 2 % 6) [] a0 (by simpa [lettersAll] using a1) rfl
  simp only [lettersAll, List.map_cons, List.map_nil] at li
  obtain ⟨k1, k2, k3⟩ := lettersAll_ok (cell / 2 % 6) a0 a1
  simp only [lettersAll] at k1 k2 k3
  generalize hL : (List.getD [[97, 98], [97, 98, 99], [97, 98, 99, 100], [97, 122], [97], [97, 98, 99, 100, 101, 102, 103, 104, 105, 106, 107, 108, 109, 110, 111, 112, 113, 114, 115, 116, 117, 118, 119, 120, 121, 122]] (cell / 2 % 6).toNat []) = L at li k1 k2 k3
  have main : ∀ (count most : Int), 0 ≤ most → most < 1000 → 0 ≤ count → count ≤ 8 → count.toNat * most.toNat ≤ 60 →
      c_law_book [.scr ns] = some (.fr, .lst ((bookL ns L most count.toNat).map .str)) → ∃ bk : List Tx, c_law_book [.scr ns] = some (.fr, .lst (bk.map .str)) ∧ bk.length ≤ 8 ∧ bk.flatten.length ≤ 60 ∧ ∀ t ∈ bk, ∀ c ∈ t, 97 ≤ c ∧ c ≤ 122 := fun count most h0 h1 h2 h3 h4 e => by
    obtain ⟨b1, b2, b3⟩ := bookL_ok ns L most count.toNat h0
    exact ⟨_, e, by omega, by omega, fun t ht c hc => k3 c (b3 k1 t ht c hc)⟩
  have b0 := Int.emod_nonneg (cell / 12) (b := 8) (by decide)
  have b1 := Int.emod_lt_of_pos (cell / 12) (b := 8) (by decide)
  have bc := fun most count h0 h1 c0 c1 => book_comp ns L most count (.int cell) h0 h1 c0 c1 k1 k2
  have e8 : cell / 12 % 8 = 0 ∨ cell / 12 % 8 = 1 ∨ cell / 12 % 8 = 2 ∨ cell / 12 % 8 = 3 ∨ cell / 12 % 8 = 4 ∨ cell / 12 % 8 = 5 ∨ cell / 12 % 8 = 6 ∨ cell / 12 % 8 = 7 := by omega
  by_cases five : cell / 96 % 8 = 5
  · rcases e8 with h | h | h | h | h | h | h | h
    · refine main 1 60 (by omega) (by omega) (by omega) (by omega) (by decide) ?_
      simp [-oIdx, c_law_book, l0, oMod_ok, oFdiv_ok, mkL_ok, li]
      simp [h, five, ixP, bc, oMod_ok, oFdiv_ok]
    · refine main 2 30 (by omega) (by omega) (by omega) (by omega) (by decide) ?_
      simp [-oIdx, c_law_book, l0, oMod_ok, oFdiv_ok, mkL_ok, li]
      simp [h, five, ixP, bc, oMod_ok, oFdiv_ok]
    · refine main 3 20 (by omega) (by omega) (by omega) (by omega) (by decide) ?_
      simp [-oIdx, c_law_book, l0, oMod_ok, oFdiv_ok, mkL_ok, li]
      simp [h, five, ixP, bc, oMod_ok, oFdiv_ok]
    · refine main 4 15 (by omega) (by omega) (by omega) (by omega) (by decide) ?_
      simp [-oIdx, c_law_book, l0, oMod_ok, oFdiv_ok, mkL_ok, li]
      simp [h, five, ixP, bc, oMod_ok, oFdiv_ok]
    · refine main 2 30 (by omega) (by omega) (by omega) (by omega) (by decide) ?_
      simp [-oIdx, c_law_book, l0, oMod_ok, oFdiv_ok, mkL_ok, li]
      simp [h, five, ixP, bc, oMod_ok, oFdiv_ok]
    · refine main 1 60 (by omega) (by omega) (by omega) (by omega) (by decide) ?_
      simp [-oIdx, c_law_book, l0, oMod_ok, oFdiv_ok, mkL_ok, li]
      simp [h, five, ixP, bc, oMod_ok, oFdiv_ok]
    · refine main 0 60 (by omega) (by omega) (by omega) (by omega) (by decide) ?_
      simp [-oIdx, c_law_book, l0, oMod_ok, oFdiv_ok, mkL_ok, li]
      simp [h, five, ixP, bc, oMod_ok, oFdiv_ok]
    · refine main 8 7 (by omega) (by omega) (by omega) (by omega) (by decide) ?_
      simp [-oIdx, c_law_book, l0, oMod_ok, oFdiv_ok, mkL_ok, li]
      simp [h, five, ixP, bc, oMod_ok, oFdiv_ok]
  · rcases e8 with h | h | h | h | h | h | h | h
    · refine main 1 24 (by omega) (by omega) (by omega) (by omega) (by decide) ?_
      simp [-oIdx, c_law_book, l0, oMod_ok, oFdiv_ok, mkL_ok, li]
      simp [h, five, ixP, bc, oMod_ok, oFdiv_ok]
    · refine main 2 12 (by omega) (by omega) (by omega) (by omega) (by decide) ?_
      simp [-oIdx, c_law_book, l0, oMod_ok, oFdiv_ok, mkL_ok, li]
      simp [h, five, ixP, bc, oMod_ok, oFdiv_ok]
    · refine main 3 8 (by omega) (by omega) (by omega) (by omega) (by decide) ?_
      simp [-oIdx, c_law_book, l0, oMod_ok, oFdiv_ok, mkL_ok, li]
      simp [h, five, ixP, bc, oMod_ok, oFdiv_ok]
    · refine main 4 6 (by omega) (by omega) (by omega) (by omega) (by decide) ?_
      simp [-oIdx, c_law_book, l0, oMod_ok, oFdiv_ok, mkL_ok, li]
      simp [h, five, ixP, bc, oMod_ok, oFdiv_ok]
    · refine main 2 12 (by omega) (by omega) (by omega) (by omega) (by decide) ?_
      simp [-oIdx, c_law_book, l0, oMod_ok, oFdiv_ok, mkL_ok, li]
      simp [h, five, ixP, bc, oMod_ok, oFdiv_ok]
    · refine main 1 24 (by omega) (by omega) (by omega) (by omega) (by decide) ?_
      simp [-oIdx, c_law_book, l0, oMod_ok, oFdiv_ok, mkL_ok, li]
      simp [h, five, ixP, bc, oMod_ok, oFdiv_ok]
    · refine main 0 6 (by omega) (by omega) (by omega) (by omega) (by decide) ?_
      simp [-oIdx, c_law_book, l0, oMod_ok, oFdiv_ok, mkL_ok, li]
      simp [h, five, ixP, bc, oMod_ok, oFdiv_ok]
    · refine main 8 3 (by omega) (by omega) (by omega) (by omega) (by decide) ?_
      simp [-oIdx, c_law_book, l0, oMod_ok, oFdiv_ok, mkL_ok, li]
      simp [h, five, ixP, bc, oMod_ok, oFdiv_ok]
end T49

end
section
set_option linter.all false
set_option maxHeartbeats 1000000
namespace T49
open VS
def okC (c : Nat) : Bool := decide (97 ≤ c) && decide (c ≤ 122)
def hasS : T → Bool
  | .str s => s.all okC
  | _ => false
theorem le1 {m n : Md} (a b : Nat) : oLe (m, .str [a]) (n, .str [b]) = some (.fr, .bl (decide (a ≤ b))) := by
  have : (!ltx [b] [a]) = decide (a ≤ b) := by
    simp only [ltx]
    by_cases h : b < a
    · simp [h]
    · by_cases h2 : a < b
      · simp [h, h2]; omega
      · simp [h, h2]; omega
  show some (Md.fr, T.bl (!ltx [b] [a])) = _
  rw [this]
theorem all_okC (s : Tx) : (s.map okC).all id = s.all okC := by rw [List.all_map]; rfl
/-- a thing whose kind is seen, and no giant -/
def okT (t : T) : Prop := knownTy t = true ∧ ∀ s, t = .str s → s.length ≤ 16777216
theorem l_has (t : T) (h : okT t) : c_has_only_signs [t] = some (.fr, .bl (hasS t)) := by
  unfold c_has_only_signs
  refine fn_ok [some (.pu t)] (η' := [some (.pu t)]) rfl rfl ?_
  cases t with
  | str s =>
    have hl := h.2 s rfl
    have c := eComp_map (k := 1) (tg := gVar 0) (it := iVal (eVar 0)) (elt := eChain oLe oLe (eC (.str [97])) (eVar 0) (eC (.str [122]))) (η := [some (.pu (.str s))]) (m := .fr) (fun (c : Nat) => T.str [c]) (fun c => T.bl (okC c)) s
      (by simp) rfl hl (fun c _ => ⟨[some (.pu (.str [c])), some (.pu (.str s))], by simp, by
        by_cases h1 : 97 ≤ c
        · simp [-oLe, le1, h1, okC]
        · simp [-oLe, le1, h1, okC]⟩)
    have ba : bAll [(.fr, .lst (s.map fun c => T.bl (okC c)))] = some (.fr, .bl (s.all okC)) := by
      simp only [bAll, bools_map okC s, Option.bind_some, all_okC]
    simp [c, ba, hasS]
  | obj c fs => simp [okT] at h
  | scr ns => simp [okT] at h
  | _ => simp [hasS]
def len200 : T → Bool
  | .str s => decide (s.length ≤ 200)
  | _ => false
theorem l_is_word (t : T) (h : okT t) : c_is_word [t] = some (.fr, .bl (hasS t && len200 t)) := by
  have e := l_has t h
  unfold c_is_word
  have hc : eCall c_has_only_signs (xCons (eVar 0) xNil) [some (.pu t)] = some (.fr, .bl (hasS t)) := eCall_fr rfl e
  refine fn_ok [some (.pu t)] (η' := [some (.pu t)]) rfl rfl ?_
  cases hh : hasS t with
  | false => simp [-eCall, hc, hh]
  | true =>
    cases t with
    | str s =>
      have : (decide ((s.length : Int) ≤ 200)) = decide (s.length ≤ 200) := decide_eq_decide.mpr (by omega)
      simp [-eCall, hc, hh, this, len200]
    | _ => simp [hasS] at hh
def lenS : T → Nat
  | .str s => s.length
  | _ => 0
theorem sum_cast : ∀ l : List Nat, (l.map fun (n : Nat) => (n : Int)).sum = ((l.sum : Nat) : Int)
  | [] => rfl
  | a :: l => by rw [List.map_cons, List.sum_cons, sum_cast l, List.sum_cons]; omega
theorem l_signs (bk : List Tx) (h : bk.length ≤ 16777216) : c_signs_in [.lst (bk.map .str)] = some (.fr, .int (bk.flatten.length : Int)) := by
  have c := eComp_map (k := 1) (tg := gVar 0) (it := iVal (eVar 0)) (elt := eN bLen (xCons (eVar 0) xNil)) (η := [some (.pu (.lst (bk.map .str)))]) (m := .pu) T.str (fun t => T.int (t.length : Int)) bk
    (by simp) rfl h (fun t _ => ⟨[some (.pu (.str t)), some (.pu (.lst (bk.map .str)))], by simp, by simp⟩)
  have bs : bSum [(.fr, .lst (bk.map fun t => T.int (t.length : Int)))] = some (.fr, .int (bk.flatten.length : Int)) := by
    simp only [bSum, ints_map (fun (t : Tx) => (t.length : Int)) bk, Option.bind_some]
    have : bk.map (fun (t : Tx) => (t.length : Int)) = (bk.map List.length).map fun (n : Nat) => (n : Int) := by rw [List.map_map]; rfl
    rw [this, sum_cast, List.length_flatten]
  unfold c_signs_in
  refine fn_ok [some (.pu (.lst (bk.map .str)))] (η' := [some (.pu (.lst (bk.map .str)))]) rfl rfl ?_
  simp [c, bs]
def isB : T → Bool
  | .lst l => decide (l.length ≤ 8) && l.all hasS && decide ((l.map lenS).sum ≤ 120)
  | _ => false
theorem strs_of : ∀ l : List T, l.all hasS = true → ∃ ss : List Tx, l = ss.map .str
  | [], _ => ⟨[], rfl⟩
  | t :: l, h => by
    rw [List.all_cons, Bool.and_eq_true] at h
    obtain ⟨ss, rfl⟩ := strs_of l h.2
    cases t with
    | str s => exact ⟨s :: ss, rfl⟩
    | _ => simp [hasS] at h
theorem l_is_book (t : T) (h : okT t) (hl : ∀ l, t = .lst l → ∀ x ∈ l, okT x) : c_is_book [t] = some (.fr, .bl (isB t)) := by
  unfold c_is_book
  refine fn_ok [some (.pu t)] (η' := [some (.pu t)]) rfl rfl ?_
  cases t with
  | obj c fs => simp [okT] at h
  | scr ns => simp [okT] at h
  | lst l =>
    by_cases h8 : l.length ≤ 8
    · have g8 : ¬ (8 : Int) < (l.length : Int) := by omega
      rw [sCons_nx (η' := [some (.pu (.lst l))]) (by simp [g8])]
      have c : eComp 1 (gVar 0) (iVal (eVar 0)) none (eCall c_has_only_signs (xCons (eVar 0) xNil)) [some (.pu (.lst l))] = some (.fr, .lst (l.map fun t => T.bl (hasS t))) := by
        have := eComp_map (k := 1) (tg := gVar 0) (it := iVal (eVar 0)) (elt := eCall c_has_only_signs (xCons (eVar 0) xNil)) (η := [some (.pu (.lst l))]) (m := .pu) (fun t : T => t) (fun t => T.bl (hasS t)) l
          (by simp) rfl (by omega) (fun t ht => ⟨[some (.pu t), some (.pu (.lst l))], by simp, eCall_fr rfl (l_has t (hl l rfl t ht))⟩)
        exact this
      have ba : bAll [(.fr, .lst (l.map fun t => T.bl (hasS t)))] = some (.fr, .bl (l.all hasS)) := by
        simp only [bAll, bools_map hasS l, Option.bind_some]
        rw [List.all_map]; rfl
      cases hh : l.all hasS with
      | false => simp [-eCall, c, ba, hh, isB]
      | true =>
        obtain ⟨ss, rfl⟩ := strs_of l hh
        have hs : eCall c_signs_in (xCons (eVar 0) xNil) [some (.pu (.lst (ss.map .str)))] = some (.fr, .int (ss.flatten.length : Int)) := eCall_fr rfl (l_signs ss (by simp at h8; omega))
        have e1 : ((ss.map T.str).map lenS).sum = ss.flatten.length := by rw [List.map_map, List.length_flatten]; rfl
        have e2 : decide ((ss.flatten.length : Int) ≤ 120) = decide (ss.flatten.length ≤ 120) := decide_eq_decide.mpr (by omega)
        simp only [isB, hh, e1]
        have h8' : decide ((ss.map T.str).length ≤ 8) = true := decide_eq_true h8
        rw [h8', Bool.true_and, Bool.true_and, ← e2]
        simp [-eCall, c, ba, hh, hs, -List.map_map, -List.length_flatten, -List.all_map]
    · have g8 : (8 : Int) < (l.length : Int) := by omega
      rw [sCons_rt (v := (.fr, .bl false)) (η' := [some (.pu (.lst l))]) (by simp [g8])]
      simp [isB, h8]
  | non => rw [sCons_rt (v := (.fr, .bl false)) (η' := [some (.pu (.non))]) (by simp)]; simp [isB]
  | bl b => rw [sCons_rt (v := (.fr, .bl false)) (η' := [some (.pu (.bl b))]) (by simp)]; simp [isB]
  | int i => rw [sCons_rt (v := (.fr, .bl false)) (η' := [some (.pu (.int i))]) (by simp)]; simp [isB]
  | str s => rw [sCons_rt (v := (.fr, .bl false)) (η' := [some (.pu (.str s))]) (by simp)]; simp [isB]
  | tup l => rw [sCons_rt (v := (.fr, .bl false)) (η' := [some (.pu (.tup l))]) (by simp)]; simp [isB]
  | dct k l => rw [sCons_rt (v := (.fr, .bl false)) (η' := [some (.pu (.dct k l))]) (by simp)]; simp [isB]
end T49

end
section
set_option linter.all false
set_option maxHeartbeats 1000000
namespace T49
open VS
/-- a book of the law: letters, few -/
structure Bk (bk : List Tx) : Prop where
  n8 : bk.length ≤ 8
  n60 : bk.flatten.length ≤ 60
  ch : ∀ t ∈ bk, ∀ c ∈ t, 97 ≤ c ∧ c ≤ 122
theorem len_le_flat {bk : List Tx} {t : Tx} (h : t ∈ bk) : t.length ≤ bk.flatten.length := by
  induction bk with
  | nil => simp at h
  | cons a l ih =>
    rw [List.flatten_cons, List.length_append]
    rcases List.mem_cons.mp h with e | e
    · subst e; omega
    · have := ih e; omega
def sw (t : Tx) : Tx := if t = [] then [45] else t
theorem sw_len (t : Tx) : (sw t).length ≤ t.length + 1 := by
  unfold sw
  split
  · rename_i h; simp [h]
  · omega
theorem tot_sw : ∀ l : List Tx, total (l.map sw) ≤ l.flatten.length + l.length
  | [] => by simp [total]
  | t :: l => by
    have := tot_sw l
    have := sw_len t
    simp only [List.map_cons, total, List.flatten_cons, List.length_append, List.length_cons]
    omega
theorem join_len : ∀ l : List Tx, (joinTx [32] l).length ≤ total l + l.length
  | [] => by simp [joinTx]
  | [x] => by simp [joinTx, total]
  | x :: y :: r => by
    have := join_len (y :: r)
    simp only [joinTx, List.length_append, total, List.length_cons, List.length_nil] at this ⊢
    omega
theorem join_snoc : ∀ (l : List Tx) (x : Tx), l ≠ [] → joinTx [32] (l ++ [x]) = joinTx [32] l ++ [32] ++ x
  | [], _, h => absurd rfl h
  | [a], x, _ => by simp [joinTx]
  | a :: b :: r, x, _ => by
    have := join_snoc (b :: r) x (by simp)
    simp only [List.cons_append, joinTx] at this ⊢
    rw [this]
    simp
def showB (bk : List Tx) : Tx := if bk = [] then [46] else joinTx [32] (bk.map sw)
theorem l_show_word (t : Tx) : c_show_word [.str t] = some (.fr, .str (sw t)) := by
  unfold c_show_word
  refine fn_ok [some (.pu (.str t))] (η' := [some (.pu (.str t))]) rfl rfl ?_
  by_cases h : t = []
  · subst h; simp [sw]
  · simp [sw, h]
theorem l_show_words (bk : List Tx) (B : Bk bk) : c_show_words [.lst (bk.map .str)] = some (.fr, .str (joinTx [32] (bk.map sw))) := by
  have n8 := B.n8
  have n60 := B.n60
  have c := eComp_map (k := 1) (tg := gVar 0) (it := iVal (eVar 0)) (elt := eCall c_show_word (xCons (eVar 0) xNil)) (η := [some (.pu (.lst (bk.map .str)))]) (m := .pu) T.str (fun t => T.str (sw t)) bk
    (by simp) rfl (by omega) (fun t _ => ⟨[some (.pu (.str t)), some (.pu (.lst (bk.map .str)))], by simp, eCall_fr rfl (l_show_word t)⟩)
  have j : mJoin (.fr, .str [32]) [(.fr, .lst (bk.map fun t => T.str (sw t)))] = some (.fr, .str (joinTx [32] (bk.map sw))) := by
    simp only [mJoin, strs_map sw bk, Option.bind_some]
    refine if_pos ?_
    have := tot_sw bk
    show _ ≤ 16777216
    simp
    omega
  unfold c_show_words
  refine fn_ok [some (.pu (.lst (bk.map .str)))] (η' := [some (.pu (.lst (bk.map .str)))]) rfl rfl ?_
  simp [c, j]
theorem l_show_book (bk : List Tx) (B : Bk bk) : c_show_book [.lst (bk.map .str)] = some (.fr, .str (showB bk)) := by
  have s := l_show_words bk B
  unfold c_show_book
  refine fn_ok [some (.pu (.lst (bk.map .str)))] (η' := [some (.pu (.lst (bk.map .str)))]) rfl rfl ?_
  have hc : eCall c_show_words (xCons (eVar 0) xNil) [some (.pu (.lst (bk.map .str)))] = some (.fr, .str (joinTx [32] (bk.map sw))) := eCall_fr rfl s
  cases bk with
  | nil => simp [showB]
  | cons t r =>
    have : (0 : Int) < (r.length : Int) + 1 := by omega
    simp only [List.map_cons] at hc
    simp [-eCall, hc, showB, this]
theorem take_map_sw (bk : List Tx) (i : Nat) (t : Tx) (h : bk[i]? = some t) : joinTx [32] ((bk.take (i + 1)).map sw) = joinTx [32] ((bk.take i).map sw) ++ (if i = 0 then [] else [32]) ++ sw t := by
  have hi : i < bk.length := (List.getElem?_eq_some_iff.mp h).1
  rw [List.take_add_one, h, List.map_append]
  by_cases h0 : i = 0
  · subst h0; simp [joinTx]
  · rw [if_neg h0]
    have : (bk.take i).map sw ≠ [] := by
      intro e
      have := congrArg List.length e
      simp only [List.length_map, List.length_take, List.length_nil] at this
      omega
    exact join_snoc _ _ this
theorem flat_take {α : Type} (l : List (List α)) (i : Nat) : (l.take i).flatten.length ≤ l.flatten.length := by
  conv => rhs; rw [← List.take_append_drop i l, List.flatten_append, List.length_append]
  omega
theorem l_due (bk : List Tx) (B : Bk bk) : c_law_due [.lst (bk.map .str)] = some (.fr, .str (showB bk)) := by
  have n8 := B.n8
  have n60 := B.n60
  obtain ⟨η', e1, z', rfl⟩ := forL_by (tg := gVar 2) (body := c_law_due_L1) (fun k η => ∃ z, η = [some (.pu (.lst (bk.map .str))), some (.pu (.str (joinTx [32] ((bk.take k).map sw)))), z])
    (rng 0 bk.length) 0 [some (.pu (.lst (bk.map .str))), some (.pu (.str [])), none] (fun i x η hi hp => by
      obtain ⟨z, rfl⟩ := hp
      rw [rng_get] at hi
      by_cases hlt : i < bk.length
      · rw [if_pos hlt] at hi
        cases hi
        have hn : bk[i]? = some bk[i] := List.getElem?_eq_getElem hlt
        rw [Nat.zero_add, Int.zero_add]
        have ix : ixP bk.length (i : Int) = some i := ixP_nat hlt
        have l1 := join_len ((bk.take i).map sw)
        have l2 := tot_sw (bk.take i)
        have l3 := flat_take bk i
        have l4 : bk[i].length ≤ bk.flatten.length := len_le_flat (List.getElem_mem hlt)
        simp only [List.length_map, List.length_take] at l1 l2
        refine ⟨[some (.pu (.lst (bk.map .str))), some (.pu (.str (joinTx [32] ((bk.take i).map sw)))), some (.pu (.int i))], [some (.pu (.lst (bk.map .str))), some (.pu (.str (joinTx [32] ((bk.take (i + 1)).map sw)))), some (.pu (.int i))], by simp, .inl ?_, ⟨_, rfl⟩⟩
        rw [take_map_sw bk i _ hn]
        generalize hJ : joinTx [32] ((bk.take i).map sw) = J at l1
        have hx : oIdx (.pu, .lst (bk.map .str)) (.fr, .int i) = some (.fr, .str bk[i]) := by simp [ix, hn]
        generalize bk[i] = t at *
        have s1 : ∀ (m n : Md), oAdd (m, .str J) (n, .str [32]) = some (.fr, .str (J ++ [32])) := fun m n => oAdd_str (by simp; omega)
        have g : ∀ (K : Tx), K.length ≤ 1000 → ∀ (z : Option Cell), sCons (sIf (e2 oEq (e2 oIdx (eVar 0) (eVar 2)) (eC (.str []))) (sSetP 1 (e2 oAdd (eVar 1) (eC (.str [45])))) sNil) (sSetP 1 (e2 oAdd (eVar 1) (e2 oIdx (eVar 0) (eVar 2)))) [some (.pu (.lst (bk.map .str))), some (.pu (.str K)), some (.pu (.int i))] =
            some (.nx [some (.pu (.lst (bk.map .str))), some (.pu (.str (K ++ sw t))), some (.pu (.int i))]) := fun K hK z => by
          by_cases ht : t = []
          · subst ht
            simp [-oIdx, hx, sw, oAdd_str (s := K) (t := [45]) (by simp; omega)]
            rw [oAdd_str (by simp; omega)]
            simp
          · simp [-oIdx, hx, sw, ht]
            rw [oAdd_str (by omega)]
            simp
        unfold c_law_due_L1
        by_cases h0 : i = 0
        · subst h0
          rw [sCons_nx (η' := [some (.pu (.lst (bk.map .str))), some (.pu (.str J)), some (.pu (.int 0))]) (by simp)]
          have := g J (by omega) none
          simp only [Int.natCast_zero] at this
          rw [this]
          simp
        · have hp : (0 : Int) < (i : Int) := by omega
          rw [sCons_nx (η' := [some (.pu (.lst (bk.map .str))), some (.pu (.str (J ++ [32]))), some (.pu (.int i))]) (by simp [h0, s1])]
          rw [g (J ++ [32]) (by simp; omega) none, if_neg h0]
      · rw [if_neg hlt] at hi; cases hi) ⟨none, by simp [joinTx]⟩
  rw [rng_len, Nat.zero_add, List.take_length] at e1
  have it : iRange1 (eN bLen (xCons (eVar 0) xNil)) [some (.pu (.lst (bk.map .str))), some (.pu (.str [])), none] = some (.fr, rng 0 bk.length) := by
    rw [iRange1_ok (m := .fr) (j := (bk.length : Int)) (by simp) (by omega)]
    simp
  unfold c_law_due
  refine fn_ok [some (.pu (.lst (bk.map .str))), none, none] (η' := [some (.pu (.lst (bk.map .str))), some (.pu (.str (joinTx [32] (bk.map sw)))), z']) rfl rfl ?_
  rw [sCons_nx (η' := [some (.pu (.lst (bk.map .str))), some (.pu (.str [])), none]) (by simp), sCons_nx (sFor_run it rfl e1)]
  cases bk with
  | nil => simp [showB, mkL_ok]
  | cons t r =>
    have : eqD 60 (.lst ((t :: r).map T.str)) = true := by simp
    simp [showB, mkL_ok]
theorem split_join : ∀ (w : Tx) (l : List Tx), (∀ x ∈ w :: l, 32 ∉ x) → splitTx 32 (joinTx [32] (w :: l)) = w :: l
  | [], [], _ => rfl
  | [], y :: r, h => by
    have ih := split_join y r (fun x hx => h x (List.mem_cons_of_mem _ hx))
    simp only [joinTx, List.nil_append, List.cons_append, splitTx, if_pos, ih]
  | a :: w, l, h => by
    have ha : a ≠ 32 := fun e => h (a :: w) List.mem_cons_self (by simp [e])
    have ih := split_join w l (fun x hx => by
      rcases List.mem_cons.mp hx with e | e
      · subst e
        exact fun hm => h (a :: x) List.mem_cons_self (List.mem_cons_of_mem _ hm)
      · exact h x (List.mem_cons_of_mem _ e))
    have : joinTx [32] ((a :: w) :: l) = a :: joinTx [32] (w :: l) := by cases l <;> simp [joinTx]
    rw [this]
    simp only [splitTx, if_neg ha, ih]
def rw' (t : Tx) : Tx := if t = [45] then [] else t
theorem rw_sw (t : Tx) (h : ∀ c ∈ t, 97 ≤ c ∧ c ≤ 122) : rw' (sw t) = t := by
  unfold sw rw'
  by_cases e : t = []
  · simp [e]
  · rw [if_neg e]
    by_cases e2 : t = [45]
    · subst e2
      have := (h 45 (by simp)).1
      omega
    · rw [if_neg e2]
theorem l_read_word (t : Tx) : c_read_word [.str t] = some (.fr, .str (rw' t)) := by
  unfold c_read_word
  refine fn_ok [some (.pu (.str t))] (η' := [some (.pu (.str t))]) rfl rfl ?_
  by_cases h : t = [45]
  · subst h; simp [rw']
  · simp [rw', h]
theorem l_is_shown (t : Tx) (h : ∀ c ∈ t, 97 ≤ c ∧ c ≤ 122) (hl : t.length ≤ 60) : c_is_shown_word [.str (sw t)] = some (.fr, .bl true) := by
  unfold c_is_shown_word
  refine fn_ok [some (.pu (.str (sw t)))] (η' := [some (.pu (.str (sw t)))]) rfl rfl ?_
  by_cases e : t = []
  · subst e; simp [sw]
  · have hs : sw t = t := by simp [sw, e]
    rw [hs]
    have hw := l_is_word (.str t) ⟨rfl, fun s e => by cases e; omega⟩
    have h1 : hasS (.str t) = true := by
      simp only [hasS, List.all_eq_true, okC, Bool.and_eq_true, decide_eq_true_eq]
      exact fun c hc => h c hc
    have h2 : len200 (.str t) = true := by simp [len200]; omega
    rw [h1, h2] at hw
    have hc : eCall c_is_word (xCons (eVar 0) xNil) [some (.pu (.str t))] = some (.fr, .bl true) := eCall_fr rfl hw
    by_cases e2 : t = [45]
    · subst e2; simp
    · have b1 : (t == [45]) = false := by simpa using e2
      have b2 : List.isEmpty t = false := by cases t with | nil => exact absurd rfl e | cons a r => rfl
      simp [-eCall, hc, b1, b2]
theorem book_ok (l : List Tx) (B : Bk l) : c_is_book [.lst (l.map .str)] = some (.fr, .bl true) := by
  have hb := l_is_book (.lst (l.map .str)) ⟨rfl, fun s e => by cases e⟩ (fun l' e x hx => by
    cases e
    obtain ⟨t, ht, rfl⟩ := List.mem_map.mp hx
    have : t.length ≤ l.flatten.length := len_le_flat ht
    have := B.n60
    exact ⟨rfl, fun s e => by cases e; omega⟩)
  rw [hb]
  have e1 : ((l.map T.str).map lenS).sum = l.flatten.length := by rw [List.map_map, List.length_flatten]; rfl
  have n8 := B.n8
  have n60 := B.n60
  have h1 : (l.map T.str).all hasS = true := by
    rw [List.all_map, List.all_eq_true]
    intro t ht
    simp only [Function.comp, hasS, List.all_eq_true, okC, Bool.and_eq_true, decide_eq_true_eq]
    exact fun c hc => B.ch t ht c hc
  simp only [isB, h1, e1]
  simp [n8]
  simpa using (by omega : l.flatten.length ≤ 120)
theorem txt_len60 {bk : List Tx} (B : Bk bk) {t : Tx} (ht : t ∈ bk) : t.length ≤ 60 := by
  have : t.length ≤ bk.flatten.length := len_le_flat ht
  exact Nat.le_trans this B.n60
theorem l_read (bk : List Tx) (B : Bk bk) : c_read_book [.str (showB bk)] = some (.fr, .lst (bk.map .str)) := by
  have n8 := B.n8
  have n60 := B.n60
  unfold c_read_book
  by_cases h0 : bk = []
  · subst h0
    refine fn_ok [some (.pu (.str [46])), none, none] (η' := [some (.pu (.str [46])), none, none]) rfl rfl ?_
    simp [mkL_ok]
  · have hs : showB bk = joinTx [32] (bk.map sw) := if_neg h0
    rw [hs]
    have l1 := join_len (bk.map sw)
    have l2 := tot_sw bk
    simp only [List.length_map] at l1
    have sp : splitTx 32 (joinTx [32] (bk.map sw)) = bk.map sw := by
      cases bk with
      | nil => exact absurd rfl h0
      | cons t r =>
        refine split_join _ _ fun x hx => ?_
        obtain ⟨y, hy, rfl⟩ := List.mem_map.mp (show x ∈ (t :: r).map sw from hx)
        intro hm
        unfold sw at hm
        split at hm
        · simp at hm
        · have := (B.ch y hy 32 hm).1
          omega
    have hne : joinTx [32] (bk.map sw) ≠ [46] := by
      cases bk with
      | nil => exact absurd rfl h0
      | cons t r =>
        intro e
        have g : ∀ c ∈ sw t, c ≠ 46 := fun c hc => by
          unfold sw at hc
          split at hc
          · simp at hc; omega
          · have := (B.ch t List.mem_cons_self c hc).1
            omega
        have gn : sw t ≠ [] := by
          unfold sw
          split
          · simp
          · assumption
        obtain ⟨a, s, ea⟩ := List.exists_cons_of_ne_nil gn
        have := g a (by rw [ea]; simp)
        have e' : ∃ z, joinTx [32] ((t :: r).map sw) = a :: z := by
          cases r with
          | nil => exact ⟨s, by simp [joinTx, ea]⟩
          | cons y r => exact ⟨s ++ [32] ++ joinTx [32] ((y :: r).map sw), by simp [joinTx, ea]⟩
        obtain ⟨z, ez⟩ := e'
        rw [ez] at e
        cases e
        exact this rfl
    generalize hJ : joinTx [32] (bk.map sw) = J at sp hne l1
    refine fn_ok [some (.pu (.str J)), none, none] (η' := [some (.pu (.str J)), some (.pu (.lst ((bk.map sw).map .str))), none]) rfl rfl ?_
    rw [sCons_nx (η' := [some (.pu (.str J)), none, none]) (by simp), sCons_nx (η' := [some (.pu (.str J)), none, none]) (by simp [hne])]
    have ms : mSplit (.fr, .str J) [(.fr, .str [32])] = some (.fr, .lst ((bk.map sw).map .str)) := by
      simp only [mSplit]
      rw [if_pos ⟨by decide, show _ < 16777216 by omega⟩, sp]
    rw [sCons_nx (η' := [some (.pu (.str J)), some (.pu (.lst ((bk.map sw).map .str))), none]) (by simp [ms])]
    have c1 := eComp_map (k := 1) (tg := gVar 0) (it := iVal (eVar 1)) (elt := eCall c_read_word (xCons (eVar 0) xNil)) (η := [some (.pu (.str J)), some (.pu (.lst ((bk.map sw).map .str))), none]) (m := .pu) T.str (fun t => T.str (rw' t)) (bk.map sw)
      (by simp) rfl (by simp; omega) (fun t _ => ⟨[some (.pu (.str t)), some (.pu (.str J)), some (.pu (.lst ((bk.map sw).map .str))), none], by simp, eCall_fr rfl (l_read_word t)⟩)
    have eb : (bk.map sw).map (fun t => T.str (rw' t)) = bk.map .str := by
      rw [List.map_map]
      exact List.map_congr_left fun t ht => by simp [rw_sw t (B.ch t ht)]
    rw [eb] at c1
    rw [sCons_nx (η' := [some (.pu (.str J)), some (.pu (.lst ((bk.map sw).map .str))), some (.ow (.lst (bk.map .str)))]) (sSet_ow c1 rfl (by simp))]
    have c2 := eComp_map (k := 1) (tg := gVar 0) (it := iVal (eVar 1)) (elt := eCall c_is_shown_word (xCons (eVar 0) xNil)) (η := [some (.pu (.str J)), some (.pu (.lst ((bk.map sw).map .str))), some (.ow (.lst (bk.map .str)))]) (m := .pu) T.str (fun t => T.bl true) (bk.map sw)
      (by simp) rfl (by simp; omega) (fun t ht => ⟨[some (.pu (.str t)), some (.pu (.str J)), some (.pu (.lst ((bk.map sw).map .str))), some (.ow (.lst (bk.map .str)))], by simp, by
        obtain ⟨y, hy, rfl⟩ := List.mem_map.mp ht
        exact eCall_fr rfl (l_is_shown y (B.ch y hy) (txt_len60 B hy))⟩)
    have ba : bAll [(.fr, .lst ((bk.map sw).map fun t => T.bl true))] = some (.fr, .bl true) := by
      simp only [bAll, bools_map (fun _ => true) (bk.map sw), Option.bind_some]
      simp
    have cb : eCall c_is_book (xCons (eVar 2) xNil) [some (.pu (.str J)), some (.pu (.lst ((bk.map sw).map .str))), some (.ow (.lst (bk.map .str)))] = some (.fr, .bl true) := eCall_fr rfl (book_ok bk B)
    rw [sCons_nx (η' := [some (.pu (.str J)), some (.pu (.lst ((bk.map sw).map .str))), some (.ow (.lst (bk.map .str)))]) (by simp only [sIf, eOr, eNot, eN, xCons, xNil, c2, cb, ba, Option.bind_some]; simp)]
    simp
end T49

end
section
set_option linter.all false
set_option maxHeartbeats 1000000
namespace T49
open VS
theorem eqD_strs (n : Nat) (l : List Tx) : eqD (n + 1) (.lst (l.map .str)) = true := by
  simp
theorem bk_take {l : List Tx} (h1 : l.flatten.length ≤ 60) (h2 : ∀ t ∈ l, ∀ c ∈ t, 97 ≤ c ∧ c ≤ 122) : Bk (l.take 8) :=
  ⟨by simp; omega, Nat.le_trans (flat_take l 8) h1, fun t ht => h2 t (List.mem_of_mem_take ht)⟩
abbrev E (ns : List Int) (bk : List Tx) (z2 z3 z4 z5 z6 z7 : Option Cell) : Env := [some (.pu (.scr ns)), some (.pu (.lst (bk.map .str))), z2, z3, z4, z5, z6, z7]
theorem l_got (ns : List Int) (bk wh : List Tx) (B : Bk wh) (z2 z4 z6 z7 : Option Cell) : ∃ z7', c_law_L1 (E ns bk z2 (some (.pu (.lst (wh.map .str)))) z4 (some (.pu (.str (showB wh)))) z6 z7) =
    some (.nx (E ns bk z2 (some (.pu (.lst (wh.map .str)))) z4 (some (.pu (.str (showB wh)))) z6 z7')) := by
  have n8 := B.n8
  refine ⟨some (.ow (.lst (wh.map .str ++ [.str [97]]))), ?_⟩
  have hr : eCall c_read_book (xCons (eVar 5) xNil) (E ns bk z2 (some (.pu (.lst (wh.map .str)))) z4 (some (.pu (.str (showB wh)))) z6 z7) = some (.fr, .lst (wh.map .str)) := eCall_fr rfl (l_read wh B)
  unfold c_law_L1
  rw [sCons_nx (η' := E ns bk z2 (some (.pu (.lst (wh.map .str)))) z4 (some (.pu (.str (showB wh)))) z6 (some (.ow (.lst (wh.map .str))))) (sSet_ow hr rfl (by simp))]
  have c := eComp_map (k := 1) (tg := gVar 0) (it := iVal (eVar 7)) (elt := eIs .str (eVar 0)) (η := E ns bk z2 (some (.pu (.lst (wh.map .str)))) z4 (some (.pu (.str (showB wh)))) z6 (some (.ow (.lst (wh.map .str))))) (m := .bo) T.str (fun _ => T.bl true) wh
    (by simp) (imms_map _ (fun _ => rfl) wh) (by omega) (fun t _ => ⟨some (.pu (.str t)) :: E ns bk z2 (some (.pu (.lst (wh.map .str)))) z4 (some (.pu (.str (showB wh)))) z6 (some (.ow (.lst (wh.map .str)))), by simp, by simp⟩)
  have ba : bAll [(.fr, .lst (wh.map fun t => T.bl true))] = some (.fr, .bl true) := by
    simp only [bAll, bools_map (fun _ => true) wh, Option.bind_some]
    simp
  have ne := oNe_self (m := .bo) (n := .pu) (eqD_strs 59 wh)
  have hn : e2 oNe (eVar 7) (eVar 3) (E ns bk z2 (some (.pu (.lst (wh.map .str)))) z4 (some (.pu (.str (showB wh)))) z6 (some (.ow (.lst (wh.map .str))))) = some (.fr, .bl false) := by
    simp only [e2, eVar, E, List.getElem?_cons_succ, List.getElem?_cons_zero, up, imm, Option.bind_some]
    exact ne
  rw [sCons_nx (η' := E ns bk z2 (some (.pu (.lst (wh.map .str)))) z4 (some (.pu (.str (showB wh)))) z6 (some (.ow (.lst (wh.map .str))))) (by
    have h1 : eNot (eIs .list (eVar 7)) (E ns bk z2 (some (.pu (.lst (wh.map .str)))) z4 (some (.pu (.str (showB wh)))) z6 (some (.ow (.lst (wh.map .str))))) = some (.fr, .bl false) := by simp
    simp only [sIf, eOr, h1, hn, Option.bind_some, eNot, eN, xCons, xNil, c, ba]
    simp)]
  simp
  rw [mAppend_ok (by simp; omega)]
  simp
theorem l_more (ns : List Int) (bk : List Tx) (B : Bk bk) (mo : List Tx) (hm : mo.flatten.length = 0) (hl : mo.length ≤ 2) (z3 z4 z5 z6 z7 : Option Cell) :
    ∃ z3' z4' z5' z6' z7', c_law_L2 (E ns bk (some (.pu (.lst (mo.map .str)))) z3 z4 z5 z6 z7) = some (.nx (E ns bk (some (.pu (.lst (mo.map .str)))) z3' z4' z5' z6' z7')) := by
  have n8 := B.n8
  have hmc : ∀ t ∈ mo, ∀ c ∈ t, 97 ≤ c ∧ c ≤ 122 := fun t ht c hc => by
    have : t.length ≤ mo.flatten.length := len_le_flat ht
    have : 0 < t.length := List.length_pos_of_mem hc
    omega
  have cat : ∀ (a b : List Tx), a.length ≤ 8 → b.length ≤ 8 → ∀ (η : Env) (i j : Nat), η[i]? = some (some (.pu (.lst (a.map .str)))) → η[j]? = some (some (.pu (.lst (b.map .str)))) →
      eSl (e2 oAdd (eVar i) (eVar j)) none (some (eC (.int 8))) η = some (.fr, .lst (((a ++ b).take 8).map .str)) := fun a b ha hb η i j hi hj => by
    have i1 : imms (a.map T.str) = true := imms_map _ (fun _ => rfl) a
    have i2 : imms (b.map T.str) = true := imms_map _ (fun _ => rfl) b
    simp only [eSl, e2, eVar, hi, hj, Option.bind_some, up, oAdd_lst]
    rw [mkL_ok (by simp; omega)]
    simp only [Option.bind_some, partI, eC, int?, Option.map_some, oSl]
    rw [← List.map_append, cut_map]
    have : cut (a ++ b) none (some 8) = (a ++ b).take 8 := cut_to (a ++ b) 8
    rw [this, mkL_ok (by simp; omega)]
    rw [show imms (((a ++ b).take 8).map T.str) = true from imms_map _ (fun _ => rfl) _]
    simp
  have fin : ∀ (wh : List Tx), Bk wh → ∀ z4 z5 z6 z7, ∃ z4' z5' z6' z7', sCons (sSetP 4 (eN bList (xCons (eVar 3) xNil)))
    (sCons (sSetP 5 (eCall c_show_book (xCons (eVar 4) xNil)))
    (sCons (sIf (eOr (eNot (eIs .str (eVar 5))) (eOr (e2 oNe (eVar 5) (eCall c_law_due (xCons (eVar 3) xNil))) (e2 oNe (eVar 4) (eVar 3)))) (sRet (eC (.bl false))) sNil)
    (sFor (gVar 6) (iRange1 (eC (.int 2))) c_law_L1))) (E ns bk (some (.pu (.lst (mo.map .str)))) (some (.pu (.lst (wh.map .str)))) z4 z5 z6 z7) = some (.nx (E ns bk (some (.pu (.lst (mo.map .str)))) (some (.pu (.lst (wh.map .str)))) z4' z5' z6' z7')) := fun wh W z4 z5 z6 z7 => by
    have w8 := W.n8
    obtain ⟨η', e3, z6', z7', rfl⟩ := forL_by (tg := gVar 6) (body := c_law_L1) (fun _ η => ∃ z6 z7, η = E ns bk (some (.pu (.lst (mo.map .str)))) (some (.pu (.lst (wh.map .str)))) (some (.pu (.lst (wh.map .str)))) (some (.pu (.str (showB wh)))) z6 z7) (rng 0 2) 0
      (E ns bk (some (.pu (.lst (mo.map .str)))) (some (.pu (.lst (wh.map .str)))) (some (.pu (.lst (wh.map .str)))) (some (.pu (.str (showB wh)))) z6 z7) (fun j t η hj hp => by
        obtain ⟨z6, z7, rfl⟩ := hp
        obtain ⟨z7', q⟩ := l_got ns bk wh W (some (.pu (.lst (mo.map .str)))) (some (.pu (.lst (wh.map .str)))) (some (.pu t)) z7
        exact ⟨_, _, by simp, .inl q, ⟨_, z7', rfl⟩⟩) ⟨z6, z7, rfl⟩
    refine ⟨some (.pu (.lst (wh.map .str))), some (.pu (.str (showB wh))), z6', z7', ?_⟩
    rw [sCons_nx (η' := E ns bk (some (.pu (.lst (mo.map .str)))) (some (.pu (.lst (wh.map .str)))) (some (.pu (.lst (wh.map .str)))) z5 z6 z7) (by
      simp [mkL_ok (show (wh.map T.str).length ≤ 16777216 by simp; omega), show imms (wh.map T.str) = true from imms_map _ (fun _ => rfl) wh])]
    have h1 : eCall c_show_book (xCons (eVar 4) xNil) (E ns bk (some (.pu (.lst (mo.map .str)))) (some (.pu (.lst (wh.map .str)))) (some (.pu (.lst (wh.map .str)))) z5 z6 z7) = some (.fr, .str (showB wh)) := eCall_fr rfl (l_show_book wh W)
    rw [sCons_nx (η' := E ns bk (some (.pu (.lst (mo.map .str)))) (some (.pu (.lst (wh.map .str)))) (some (.pu (.lst (wh.map .str)))) (some (.pu (.str (showB wh)))) z6 z7) (sSetP_ok h1 (by decide) (by simp))]
    have h2 : eCall c_law_due (xCons (eVar 3) xNil) (E ns bk (some (.pu (.lst (mo.map .str)))) (some (.pu (.lst (wh.map .str)))) (some (.pu (.lst (wh.map .str)))) (some (.pu (.str (showB wh)))) z6 z7) = some (.fr, .str (showB wh)) := eCall_fr rfl (l_due wh W)
    have h3 : e2 oNe (eVar 4) (eVar 3) (E ns bk (some (.pu (.lst (mo.map .str)))) (some (.pu (.lst (wh.map .str)))) (some (.pu (.lst (wh.map .str)))) (some (.pu (.str (showB wh)))) z6 z7) = some (.fr, .bl false) := by
      simp only [e2, eVar, E, List.getElem?_cons_succ, List.getElem?_cons_zero, up, imm, Option.bind_some]
      exact oNe_self (eqD_strs 59 wh)
    have h4 : e2 oNe (eVar 5) (eCall c_law_due (xCons (eVar 3) xNil)) (E ns bk (some (.pu (.lst (mo.map .str)))) (some (.pu (.lst (wh.map .str)))) (some (.pu (.lst (wh.map .str)))) (some (.pu (.str (showB wh)))) z6 z7) = some (.fr, .bl false) := by
      simp only [e2, h2, Option.bind_some]
      simp
    rw [sCons_nx (η' := E ns bk (some (.pu (.lst (mo.map .str)))) (some (.pu (.lst (wh.map .str)))) (some (.pu (.lst (wh.map .str)))) (some (.pu (.str (showB wh)))) z6 z7) (by
      have h0 : eNot (eIs .str (eVar 5)) (E ns bk (some (.pu (.lst (mo.map .str)))) (some (.pu (.lst (wh.map .str)))) (some (.pu (.lst (wh.map .str)))) (some (.pu (.str (showB wh)))) z6 z7) = some (.fr, .bl false) := by simp
      simp only [sIf, eOr, h0, h3, h4, Option.bind_some]
      simp)]
    exact sFor_run (m := .fr) (l := rng 0 2) (iRange1_ok (m := .fr) (j := 2) (by simp) (by decide)) rfl e3
  have W1 : Bk ((bk ++ mo).take 8) := bk_take (by rw [List.flatten_append, List.length_append]; have := B.n60; omega) (fun t ht => by
    rcases List.mem_append.mp ht with h | h
    · exact B.ch t h
    · exact hmc t h)
  have W2 : Bk ((mo ++ bk).take 8) := bk_take (by rw [List.flatten_append, List.length_append]; have := B.n60; omega) (fun t ht => by
    rcases List.mem_append.mp ht with h | h
    · exact hmc t h
    · exact B.ch t h)
  have s1 := cat bk mo (by omega) (by omega) (E ns bk (some (.pu (.lst (mo.map .str)))) z3 z4 z5 z6 z7) 1 2 rfl rfl
  have s2 := cat mo bk (by omega) (by omega) (E ns bk (some (.pu (.lst (mo.map .str)))) (some (.pu (.lst (((bk ++ mo).take 8).map .str)))) z4 z5 z6 z7) 2 1 rfl rfl
  have l0 := l_cell_at ns 10
  have hc : e2 oEq (e2 oMod (eCall c_law_cell_at (xCons (eVar 0) (xCons (eC (.int 10)) xNil))) (eC (.int 2))) (eC (.int 1)) (E ns bk (some (.pu (.lst (mo.map .str)))) (some (.pu (.lst (((bk ++ mo).take 8).map .str)))) z4 z5 z6 z7) = some (.fr, .bl (cellAt ns 10 % 2 == 1)) := by
    have : eCall c_law_cell_at (xCons (eVar 0) (xCons (eC (.int 10)) xNil)) (E ns bk (some (.pu (.lst (mo.map .str)))) (some (.pu (.lst (((bk ++ mo).take 8).map .str)))) z4 z5 z6 z7) = some (.fr, .int (cellAt ns 10)) := eCall_fr rfl l0
    simp only [e2, this, Option.bind_some, eC, oMod_ok (show (0 : Int) < 2 by decide)]
    simp
  unfold c_law_L2
  rw [sCons_nx (η' := E ns bk (some (.pu (.lst (mo.map .str)))) (some (.pu (.lst (((bk ++ mo).take 8).map .str)))) z4 z5 z6 z7) (sSetP_ok s1 (by decide) (by simp))]
  by_cases hq : cellAt ns 10 % 2 = 1
  · rw [sCons_nx (η' := E ns bk (some (.pu (.lst (mo.map .str)))) (some (.pu (.lst (((mo ++ bk).take 8).map .str)))) z4 z5 z6 z7) (by
      simp only [sIf, hc, Option.bind_some, tru, hq]
      exact sSetP_ok s2 (by decide) (by simp))]
    obtain ⟨z4', z5', z6', z7', e⟩ := fin _ W2 z4 z5 z6 z7
    exact ⟨_, z4', z5', z6', z7', e⟩
  · rw [sCons_nx (η' := E ns bk (some (.pu (.lst (mo.map .str)))) (some (.pu (.lst (((bk ++ mo).take 8).map .str)))) z4 z5 z6 z7) (by
      simp only [sIf, hc, Option.bind_some, tru]
      simp [hq])]
    obtain ⟨z4', z5', z6', z7', e⟩ := fin _ W1 z4 z5 z6 z7
    exact ⟨_, z4', z5', z6', z7', e⟩
theorem law_true (ns : List Int) : c_law [.scr ns] = some (.fr, .bl true) := by
  obtain ⟨bk, hbk, h8, h60, hch⟩ := l_book ns
  have B : Bk bk := ⟨h8, h60, hch⟩
  obtain ⟨η', e3, z2', z3', z4', z5', z6', z7', rfl⟩ := forL_by (tg := gVar 2) (body := c_law_L2) (fun _ η => ∃ z2 z3 z4 z5 z6 z7, η = E ns bk z2 z3 z4 z5 z6 z7) [.lst [], .lst [.str []], .lst [.str [], .str []]] 0
    (E ns bk none none none none none none) (fun j t η hj hp => by
      obtain ⟨z2, z3, z4, z5, z6, z7, rfl⟩ := hp
      have : ∃ mo : List Tx, t = .lst (mo.map .str) ∧ mo.flatten.length = 0 ∧ mo.length ≤ 2 := by
        match j, hj with
        | 0, hj => cases hj; exact ⟨[], rfl, rfl, by decide⟩
        | 1, hj => cases hj; exact ⟨[[]], rfl, rfl, by decide⟩
        | 2, hj => cases hj; exact ⟨[[], []], rfl, rfl, by decide⟩
        | k + 3, hj => simp at hj
      obtain ⟨mo, rfl, h1, h2⟩ := this
      obtain ⟨z3', z4', z5', z6', z7', q⟩ := l_more ns bk B mo h1 h2 z3 z4 z5 z6 z7
      exact ⟨_, _, by simp, .inl q, ⟨_, z3', z4', z5', z6', z7', rfl⟩⟩) ⟨none, none, none, none, none, none, rfl⟩
  unfold c_law
  refine fn_ok [some (.pu (.scr ns)), none, none, none, none, none, none, none] (η' := E ns bk z2' z3' z4' z5' z6' z7') rfl rfl ?_
  rw [sCons_nx (η' := E ns bk none none none none none none) (by simp [hbk])]
  rw [sCons_nx (sFor_run (m := .fr) (l := [.lst [], .lst [.str []], .lst [.str [], .str []]]) (by simp [mkL_ok]) rfl e3)]
  have N : Bk [] := ⟨by decide, by decide, by simp⟩
  have s := l_show_book [] N
  have r := l_read [] N
  have s' : eCall c_show_book (xCons (eLst xNil) xNil) (E ns bk z2' z3' z4' z5' z6' z7') = some (.fr, .str [46]) := eCall_fr (xs := [(.fr, .lst [])]) (by simp [mkL_ok]) s
  have r' : eCall c_read_book (xCons (eC (.str [46])) xNil) (E ns bk z2' z3' z4' z5' z6' z7') = some (.fr, .lst []) := eCall_fr rfl r
  have h1 : e2 oEq (eCall c_show_book (xCons (eLst xNil) xNil)) (eC (.str [46])) (E ns bk z2' z3' z4' z5' z6' z7') = some (.fr, .bl true) := by
    simp only [e2, s', Option.bind_some, eC]
    rfl
  have h2 : e2 oEq (eCall c_read_book (xCons (eC (.str [46])) xNil)) (eLst xNil) (E ns bk z2' z3' z4' z5' z6' z7') = some (.fr, .bl true) := by
    simp only [e2, r', Option.bind_some, eLst, xNil]
    rfl
  simp only [sRet, eAnd, h1, h2, Option.bind_some]
end T49

end
section
set_option Elab.async false
set_option linter.all false
set_option maxRecDepth 100000
set_option maxHeartbeats 4000000
namespace T49
open PySem PySem.Spec PyProof.Rows L2 VS
def top (i : Nat) : Stmt := PySem.Challenge.pw_allparts_k49_books_written.main.body.getD i (.Pass ⟨0, 0, 0, 0⟩)
structure Blt (mg : Str → Option Value) : Prop where
  b_all : mg "all" = none
  b_isinstance : mg "isinstance" = none
  b_len : mg "len" = none
  b_list : mg "list" = none
  b_max : mg "max" = none
  b_min : mg "min" = none
  b_range : mg "range" = none
  b_str : mg "str" = none
  b_sum : mg "sum" = none
  c_MOST_SIGNS : ∃ t, mg "MOST_SIGNS" = some (.int 120 t)
  c_MOST_TEXTS : ∃ t, mg "MOST_TEXTS" = some (.int 8 t)
  c_MOST_WORD_SIGNS : ∃ t, mg "MOST_WORD_SIGNS" = some (.int 200 t)
section
variable {P : Program} {w : World} {K : PySem.W.Frag} {mg : Str → Option Value} {base : Heap}
abbrev s_has_only_signs : Stmt := top 7
theorem sc_has_only_signs : FnScope ["thing"] ["thing"] (defScope s_has_only_signs) := ⟨rfl, rfl, rfl, by decide +kernel, rfl, by decide +kernel, by decide +kernel⟩
theorem f_has_only_signs {f : Addr} {fd : FuncData} (F : Fun K "has_only_signs" "has_only_signs" s_has_only_signs f fd) (hm : mg "has_only_signs" = some (.ref f)) (B : Blt mg) :
    FnAt P w K mg base 1 "has_only_signs" ["thing"] (gx0 K) c_has_only_signs := q_def F hm sc_has_only_signs rfl rfl (fun _ _ _ _ _ _ us hl => match us, hl with | [_], _ => rfl) fun cdv A outer s H E hr =>
    (q_psv_one (q_psv_ret (q_pv_and (q_w_is .str B.b_isinstance B.b_str (q_pv_var 0 rfl (Or.inl rfl) rfl rfl) rfl rfl rfl rfl) (q_pv_one (q_w_all B.b_all (q_pvs_cons (q_pv_comp 1 ["sign", "thing"] rfl (q_pvi_val (q_pv_var 0 rfl (Or.inl rfl) rfl rfl) rfl) (tin_var (by decide)) (fun _ _ _ _ _ => (q_pvg_name 0 (show List.Nodup (["sign", "thing"] : List Str) from by decide +kernel) rfl (Or.inl rfl) (Or.inr rfl))) (fun _ _ _ _ _ => (q_w_chain_le_le (q_pv_str (by decide +kernel) (by decide)) (q_pv_var 0 rfl (Or.inl rfl) rfl rfl) (q_pv_str (by decide +kernel) (by decide)) (by with_unfolding_all rfl))) rfl rfl (by decide) (fun _ => rfl)) q_pvs_nil rfl) rfl rfl rfl rfl)))))

abbrev s_is_word : Stmt := top 8
theorem sc_is_word : FnScope ["thing"] ["thing"] (defScope s_is_word) := ⟨rfl, rfl, rfl, by decide +kernel, rfl, by decide +kernel, by decide +kernel⟩
theorem f_is_word {f : Addr} {fd : FuncData} (F : Fun K "is_word" "is_word" s_is_word f fd) (hm : mg "is_word" = some (.ref f)) (B : Blt mg) (f_has_only_signs : FnAt P w K mg base 1 "has_only_signs" ["thing"] (gx0 K) c_has_only_signs) :
    FnAt P w K mg base 2 "is_word" ["thing"] (gx0 K) c_is_word := q_def F hm sc_is_word rfl rfl (fun _ _ _ _ _ _ us hl => match us, hl with | [_], _ => rfl) fun cdv A outer s H E hr =>
    (q_psv_one (q_psv_ret (q_pv_and (q_w_call f_has_only_signs hr (q_pvs_cons (q_pv_var 0 rfl (Or.inl rfl) rfl rfl) q_pvs_nil rfl) (by decide) rfl rfl rfl rfl) (q_pv_one (q_w_le (q_w_len B.b_len (q_pvs_cons (q_pv_var 0 rfl (Or.inl rfl) rfl rfl) q_pvs_nil rfl) rfl rfl rfl) (q_w_const B.c_MOST_WORD_SIGNS rfl rfl))))))

abbrev s_signs_in : Stmt := top 10
theorem sc_signs_in : FnScope ["book"] ["book"] (defScope s_signs_in) := ⟨rfl, rfl, rfl, by decide +kernel, rfl, by decide +kernel, by decide +kernel⟩
theorem f_signs_in {f : Addr} {fd : FuncData} (F : Fun K "signs_in" "signs_in" s_signs_in f fd) (hm : mg "signs_in" = some (.ref f)) (B : Blt mg) :
    FnAt P w K mg base 1 "signs_in" ["book"] (gx0 K) c_signs_in := q_def F hm sc_signs_in rfl rfl (fun _ _ _ _ _ _ us hl => match us, hl with | [_], _ => rfl) fun cdv A outer s H E hr =>
    (q_psv_one (q_psv_ret (q_w_sum B.b_sum (q_pvs_cons (q_pv_comp 1 ["text", "book"] rfl (q_pvi_val (q_pv_var 0 rfl (Or.inl rfl) rfl rfl) rfl) (tin_var (by decide)) (fun _ _ _ _ _ => (q_pvg_name 0 (show List.Nodup (["text", "book"] : List Str) from by decide +kernel) rfl (Or.inl rfl) (Or.inr rfl))) (fun _ _ _ _ _ => (q_w_len B.b_len (q_pvs_cons (q_pv_var 0 rfl (Or.inl rfl) rfl rfl) q_pvs_nil rfl) rfl rfl rfl)) rfl rfl (by decide) (fun _ => rfl)) q_pvs_nil rfl) rfl rfl rfl rfl)))

abbrev s_is_book : Stmt := top 9
theorem sc_is_book : FnScope ["thing"] ["thing"] (defScope s_is_book) := ⟨rfl, rfl, rfl, by decide +kernel, rfl, by decide +kernel, by decide +kernel⟩
theorem f_is_book {f : Addr} {fd : FuncData} (F : Fun K "is_book" "is_book" s_is_book f fd) (hm : mg "is_book" = some (.ref f)) (B : Blt mg) (f_has_only_signs : FnAt P w K mg base 1 "has_only_signs" ["thing"] (gx0 K) c_has_only_signs) (f_signs_in : FnAt P w K mg base 1 "signs_in" ["book"] (gx0 K) c_signs_in) :
    FnAt P w K mg base 2 "is_book" ["thing"] (gx0 K) c_is_book := q_def F hm sc_is_book rfl rfl (fun _ _ _ _ _ _ us hl => match us, hl with | [_], _ => rfl) fun cdv A outer s H E hr =>
    (q_psv_cons (q_psv_if (q_PVW_pvt (q_pvw_or (q_pvt_not (q_pvt_val (q_w_is .list B.b_isinstance B.b_list (q_pv_var 0 rfl (Or.inl rfl) rfl rfl) rfl rfl rfl rfl) rfl (fun _ => rfl))) (q_pvw_or1 (q_wt_gt (q_w_len B.b_len (q_pvs_cons (q_pv_var 0 rfl (Or.inl rfl) rfl rfl) q_pvs_nil rfl) rfl rfl rfl) (q_w_const B.c_MOST_TEXTS rfl rfl))))) (q_psv_one (q_psv_ret q_pv_bl)) q_psv_nil)
    (q_psv_one (q_psv_ret (q_pv_and (q_w_all B.b_all (q_pvs_cons (q_pv_comp 1 ["text", "thing"] rfl (q_pvi_val (q_pv_var 0 rfl (Or.inl rfl) rfl rfl) rfl) (tin_var (by decide)) (fun _ _ _ _ _ => (q_pvg_name 0 (show List.Nodup (["text", "thing"] : List Str) from by decide +kernel) rfl (Or.inl rfl) (Or.inr rfl))) (fun _ _ _ _ _ => (q_w_call f_has_only_signs hr (q_pvs_cons (q_pv_var 0 rfl (Or.inl rfl) rfl rfl) q_pvs_nil rfl) (by decide) rfl rfl rfl rfl)) rfl rfl (by decide) (fun _ => rfl)) q_pvs_nil rfl) rfl rfl rfl rfl) (q_pv_one (q_w_le (q_w_call f_signs_in hr (q_pvs_cons (q_pv_var 0 rfl (Or.inl rfl) rfl rfl) q_pvs_nil rfl) (by decide) rfl rfl rfl rfl) (q_w_const B.c_MOST_SIGNS rfl rfl)))))))

abbrev s_show_word : Stmt := top 12
theorem sc_show_word : FnScope ["word"] ["word"] (defScope s_show_word) := ⟨rfl, rfl, rfl, by decide +kernel, rfl, by decide +kernel, by decide +kernel⟩
theorem f_show_word {f : Addr} {fd : FuncData} (F : Fun K "show_word" "show_word" s_show_word f fd) (hm : mg "show_word" = some (.ref f)) (B : Blt mg) :
    FnAt P w K mg base 1 "show_word" ["word"] (gx0 K) c_show_word := q_def F hm sc_show_word rfl rfl (fun _ _ _ _ _ _ us hl => match us, hl with | [_], _ => rfl) fun cdv A outer s H E hr =>
    (q_psv_one (q_psv_ret (q_pv_if (q_wt_ne hr (q_pv_var 0 rfl (Or.inl rfl) rfl rfl) (q_pv_str (by decide +kernel) (by decide))) (q_pv_var 0 rfl (Or.inl rfl) rfl rfl) (q_pv_str (by decide +kernel) (by decide)))))

abbrev s_show_words : Stmt := top 13
theorem sc_show_words : FnScope ["some"] ["some"] (defScope s_show_words) := ⟨rfl, rfl, rfl, by decide +kernel, rfl, by decide +kernel, by decide +kernel⟩
theorem f_show_words {f : Addr} {fd : FuncData} (F : Fun K "show_words" "show_words" s_show_words f fd) (hm : mg "show_words" = some (.ref f)) (B : Blt mg) (f_show_word : FnAt P w K mg base 1 "show_word" ["word"] (gx0 K) c_show_word) :
    FnAt P w K mg base 2 "show_words" ["some"] (gx0 K) c_show_words := q_def F hm sc_show_words rfl rfl (fun _ _ _ _ _ _ us hl => match us, hl with | [_], _ => rfl) fun cdv A outer s H E hr =>
    (q_psv_one (q_psv_ret (q_pv_join (q_pv_str (by decide +kernel) (by decide)) (q_pvs_cons (q_pv_comp 1 ["word", "some"] rfl (q_pvi_val (q_pv_var 0 rfl (Or.inl rfl) rfl rfl) rfl) (tin_var (by decide)) (fun _ _ _ _ _ => (q_pvg_name 0 (show List.Nodup (["word", "some"] : List Str) from by decide +kernel) rfl (Or.inl rfl) (Or.inr rfl))) (fun _ _ _ _ _ => (q_w_call f_show_word hr (q_pvs_cons (q_pv_var 0 rfl (Or.inl rfl) rfl rfl) q_pvs_nil rfl) (by decide) rfl rfl rfl rfl)) rfl rfl (by decide) (fun _ => rfl)) q_pvs_nil rfl) rfl rfl rfl rfl rfl rfl)))

abbrev s_show_book : Stmt := top 14
theorem sc_show_book : FnScope ["book"] ["book"] (defScope s_show_book) := ⟨rfl, rfl, rfl, by decide +kernel, rfl, by decide +kernel, by decide +kernel⟩
theorem f_show_book {f : Addr} {fd : FuncData} (F : Fun K "show_book" "show_book" s_show_book f fd) (hm : mg "show_book" = some (.ref f)) (B : Blt mg) (f_show_words : FnAt P w K mg base 2 "show_words" ["some"] (gx0 K) c_show_words) :
    FnAt P w K mg base 3 "show_book" ["book"] (gx0 K) c_show_book := q_def F hm sc_show_book rfl rfl (fun _ _ _ _ _ _ us hl => match us, hl with | [_], _ => rfl) fun cdv A outer s H E hr =>
    (q_psv_one (q_psv_ret (q_pv_if (q_wt_gt (q_w_len B.b_len (q_pvs_cons (q_pv_var 0 rfl (Or.inl rfl) rfl rfl) q_pvs_nil rfl) rfl rfl rfl) q_pv_int) (q_w_call f_show_words hr (q_pvs_cons (q_pv_var 0 rfl (Or.inl rfl) rfl rfl) q_pvs_nil rfl) (by decide) rfl rfl rfl rfl) (q_pv_str (by decide +kernel) (by decide)))))

abbrev s_is_shown_word : Stmt := top 15
theorem sc_is_shown_word : FnScope ["text"] ["text"] (defScope s_is_shown_word) := ⟨rfl, rfl, rfl, by decide +kernel, rfl, by decide +kernel, by decide +kernel⟩
theorem f_is_shown_word {f : Addr} {fd : FuncData} (F : Fun K "is_shown_word" "is_shown_word" s_is_shown_word f fd) (hm : mg "is_shown_word" = some (.ref f)) (B : Blt mg) (f_is_word : FnAt P w K mg base 2 "is_word" ["thing"] (gx0 K) c_is_word) :
    FnAt P w K mg base 3 "is_shown_word" ["text"] (gx0 K) c_is_shown_word := q_def F hm sc_is_shown_word rfl rfl (fun _ _ _ _ _ _ us hl => match us, hl with | [_], _ => rfl) fun cdv A outer s H E hr =>
    (q_psv_one (q_psv_ret (q_pv_or (q_w_eq hr (q_pv_var 0 rfl (Or.inl rfl) rfl rfl) (q_pv_str (by decide +kernel) (by decide))) (q_pv_one (q_pv_and (q_w_ne hr (q_pv_var 0 rfl (Or.inl rfl) rfl rfl) (q_pv_str (by decide +kernel) (by decide))) (q_pv_one (q_w_call f_is_word hr (q_pvs_cons (q_pv_var 0 rfl (Or.inl rfl) rfl rfl) q_pvs_nil rfl) (by decide) rfl rfl rfl rfl)))))))

abbrev s_read_word : Stmt := top 16
theorem sc_read_word : FnScope ["text"] ["text"] (defScope s_read_word) := ⟨rfl, rfl, rfl, by decide +kernel, rfl, by decide +kernel, by decide +kernel⟩
theorem f_read_word {f : Addr} {fd : FuncData} (F : Fun K "read_word" "read_word" s_read_word f fd) (hm : mg "read_word" = some (.ref f)) (B : Blt mg) :
    FnAt P w K mg base 1 "read_word" ["text"] (gx0 K) c_read_word := q_def F hm sc_read_word rfl rfl (fun _ _ _ _ _ _ us hl => match us, hl with | [_], _ => rfl) fun cdv A outer s H E hr =>
    (q_psv_one (q_psv_ret (q_pv_if (q_wt_ne hr (q_pv_var 0 rfl (Or.inl rfl) rfl rfl) (q_pv_str (by decide +kernel) (by decide))) (q_pv_var 0 rfl (Or.inl rfl) rfl rfl) (q_pv_str (by decide +kernel) (by decide)))))

abbrev s_read_book : Stmt := top 17
theorem sc_read_book : FnScope ["text", "fields", "book"] ["text"] (defScope s_read_book) := ⟨rfl, rfl, rfl, by decide +kernel, rfl, by decide +kernel, by decide +kernel⟩
theorem f_read_book {f : Addr} {fd : FuncData} (F : Fun K "read_book" "read_book" s_read_book f fd) (hm : mg "read_book" = some (.ref f)) (B : Blt mg) (f_is_book : FnAt P w K mg base 2 "is_book" ["thing"] (gx0 K) c_is_book) (f_is_shown_word : FnAt P w K mg base 3 "is_shown_word" ["text"] (gx0 K) c_is_shown_word) (f_read_word : FnAt P w K mg base 1 "read_word" ["text"] (gx0 K) c_read_word) :
    FnAt P w K mg base 4 "read_book" ["text"] (gx0 K) c_read_book := q_def F hm sc_read_book rfl rfl (fun _ _ _ _ _ _ us hl => match us, hl with | [_], _ => rfl) fun cdv A outer s H E hr =>
    (q_psv_cons (q_psv_if (q_pvt_not (q_pvt_val (q_w_is .str B.b_isinstance B.b_str (q_pv_var 0 rfl (Or.inl rfl) rfl rfl) rfl rfl rfl rfl) rfl (fun _ => rfl))) (q_psv_one q_psv_no) q_psv_nil)
    (q_psv_cons (q_psv_if (q_wt_eq hr (q_pv_var 0 rfl (Or.inl rfl) rfl rfl) (q_pv_str (by decide +kernel) (by decide))) (q_psv_one (q_psv_ret (q_pv_lst q_pvs_nil))) q_psv_nil)
    (q_psv_cons (q_psv_setP (q_pv_split (q_pv_var 0 rfl (Or.inl rfl) rfl rfl) (q_pvs_cons (q_pv_str (by decide +kernel) (by decide)) q_pvs_nil rfl) rfl rfl rfl rfl rfl rfl) sc_read_book.nd rfl (Or.inl rfl) rfl (Or.inl rfl))
    (q_psv_cons (q_psv_setC 1 ["field", "text", "fields", "book"] (fun _ _ _ h => set_of h) rfl (q_pvi_val (q_pv_var 1 rfl (Or.inl rfl) rfl rfl) rfl) (tin_var (by decide)) (fun _ _ _ _ _ => (q_pvg_name 0 (show List.Nodup (["field", "text", "fields", "book"] : List Str) from by decide +kernel) rfl (Or.inl rfl) (Or.inr rfl))) (fun _ _ _ _ _ => (q_w_call f_read_word hr (q_pvs_cons (q_pv_var 0 rfl (Or.inl rfl) rfl rfl) q_pvs_nil rfl) (by decide) rfl rfl rfl rfl)) sc_read_book.nd rfl (Or.inl rfl) rfl rfl (by decide) rfl (Or.inl rfl) (fun _ => rfl))
    (q_psv_cons (q_psv_if (q_PVW_pvt (q_pvw_or (q_pvt_not (q_pvt_val (q_w_all B.b_all (q_pvs_cons (q_pv_comp 1 ["field", "text", "fields", "book"] rfl (q_pvi_val (q_pv_var 1 rfl (Or.inl rfl) rfl rfl) rfl) (tin_var (by decide)) (fun _ _ _ _ _ => (q_pvg_name 0 (show List.Nodup (["field", "text", "fields", "book"] : List Str) from by decide +kernel) rfl (Or.inl rfl) (Or.inr rfl))) (fun _ _ _ _ _ => (q_w_call f_is_shown_word hr (q_pvs_cons (q_pv_var 0 rfl (Or.inl rfl) rfl rfl) q_pvs_nil rfl) (by decide) rfl rfl rfl rfl)) rfl rfl (by decide) (fun _ => rfl)) q_pvs_nil rfl) rfl rfl rfl rfl) rfl (fun _ => rfl))) (q_pvw_or1 (q_pvt_not (q_pvt_val (q_w_call f_is_book hr (q_pvs_cons (q_pv_var 2 rfl (Or.inl rfl) rfl rfl) q_pvs_nil rfl) (by decide) rfl rfl rfl rfl) rfl (fun _ => rfl)))))) (q_psv_one q_psv_no) q_psv_nil)
    (q_psv_one (q_psv_retV 2 rfl (Or.inl rfl) rfl rfl)))))))

abbrev s_law_cell_at : Stmt := top 19
theorem sc_law_cell_at : FnScope ["_law_script", "_law_k"] ["_law_script", "_law_k"] (defScope s_law_cell_at) := ⟨rfl, rfl, rfl, by decide +kernel, rfl, by decide +kernel, by decide +kernel⟩
theorem f_law_cell_at {f : Addr} {fd : FuncData} (F : Fun K "_law_cell_at" "_law_cell_at" s_law_cell_at f fd) (hm : mg "_law_cell_at" = some (.ref f)) (B : Blt mg) :
    FnAt P w K mg base 1 "_law_cell_at" ["_law_script", "_law_k"] (gx0 K) c_law_cell_at := q_def F hm sc_law_cell_at rfl rfl (fun _ _ _ _ _ _ us hl => match us, hl with | [_, _], _ => rfl) fun cdv A outer s H E hr =>
    (q_psv_cons (q_psv_if (q_wt_lt (q_pv_var 1 rfl (Or.inl rfl) rfl rfl) (q_w_len B.b_len (q_pvs_cons (q_pv_var 0 rfl (Or.inl rfl) rfl rfl) q_pvs_nil rfl) rfl rfl rfl)) (q_psv_one (q_psv_ret (q_w_idx (q_pv_var 0 rfl (Or.inl rfl) rfl rfl) (q_pv_var 1 rfl (Or.inl rfl) rfl rfl) (fun _ _ => rfl) rfl))) q_psv_nil)
    (q_psv_one (q_psv_ret q_pv_int)))

abbrev s_law_mixed : Stmt := top 20
theorem sc_law_mixed : FnScope ["_law_cell", "_law_k", "_law_number"] ["_law_cell", "_law_k"] (defScope s_law_mixed) := ⟨rfl, rfl, rfl, by decide +kernel, rfl, by decide +kernel, by decide +kernel⟩
theorem f_law_mixed {f : Addr} {fd : FuncData} (F : Fun K "_law_mixed" "_law_mixed" s_law_mixed f fd) (hm : mg "_law_mixed" = some (.ref f)) (B : Blt mg) :
    FnAt P w K mg base 1 "_law_mixed" ["_law_cell", "_law_k"] (gx0 K) c_law_mixed := q_def F hm sc_law_mixed rfl rfl (fun _ _ _ _ _ _ us hl => match us, hl with | [_, _], _ => rfl) fun cdv A outer s H E hr =>
    (q_psv_cons (q_psv_setP (q_w_mod (q_w_add (q_w_add (q_w_mod (q_pv_var 0 rfl (Or.inl rfl) rfl rfl) q_pv_int) (q_w_mul q_pv_int (q_pv_var 1 rfl (Or.inl rfl) rfl rfl))) q_pv_int) q_pv_int) sc_law_mixed.nd rfl (Or.inl rfl) rfl (Or.inl rfl))
    (q_psv_cons (q_psv_setP (q_w_add (q_w_mod (q_w_mul (q_pv_var 2 rfl (Or.inl rfl) rfl rfl) (q_pv_var 2 rfl (Or.inl rfl) rfl rfl)) q_pv_int) (q_w_mul q_pv_int (q_pv_var 1 rfl (Or.inl rfl) rfl rfl))) sc_law_mixed.nd rfl (Or.inl rfl) rfl (Or.inl rfl))
    (q_psv_one (q_psv_ret (q_w_mod (q_w_mul (q_pv_var 2 rfl (Or.inl rfl) rfl rfl) (q_pv_var 2 rfl (Or.inl rfl) rfl rfl)) q_pv_int)))))

abbrev s_law_text : Stmt := top 21
theorem sc_law_text : FnScope ["_law_script", "_law_letters", "_law_most", "_law_j", "_law_cell", "_law_size", "_law_signs", "_law_k"] ["_law_script", "_law_letters", "_law_most", "_law_j"] (defScope s_law_text) := ⟨rfl, rfl, rfl, by decide +kernel, rfl, by decide +kernel, by decide +kernel⟩
theorem f_law_text {f : Addr} {fd : FuncData} (F : Fun K "_law_text" "_law_text" s_law_text f fd) (hm : mg "_law_text" = some (.ref f)) (B : Blt mg) (f_law_cell_at : FnAt P w K mg base 1 "_law_cell_at" ["_law_script", "_law_k"] (gx0 K) c_law_cell_at) (f_law_mixed : FnAt P w K mg base 1 "_law_mixed" ["_law_cell", "_law_k"] (gx0 K) c_law_mixed) :
    FnAt P w K mg base 2 "_law_text" ["_law_script", "_law_letters", "_law_most", "_law_j"] (gx0 K) c_law_text := q_def F hm sc_law_text rfl rfl (fun _ _ _ _ _ _ us hl => match us, hl with | [_, _, _, _], _ => rfl) fun cdv A outer s H E hr =>
    (q_psv_cons (q_psv_setP (q_w_call f_law_cell_at hr (q_pvs_cons (q_pv_var 0 rfl (Or.inl rfl) rfl rfl) (q_pvs_cons (q_w_add q_pv_int (q_pv_var 3 rfl (Or.inl rfl) rfl rfl)) q_pvs_nil rfl) rfl) (by decide) rfl rfl rfl rfl) sc_law_text.nd rfl (Or.inl rfl) rfl (Or.inl rfl))
    (q_psv_cons (q_psv_setP (q_w_mod (q_pv_var 4 rfl (Or.inl rfl) rfl rfl) (q_w_add (q_pv_var 2 rfl (Or.inl rfl) rfl rfl) q_pv_int)) sc_law_text.nd rfl (Or.inl rfl) rfl (Or.inl rfl))
    (q_psv_cons (q_psv_setP (q_w_fdiv (q_pv_var 4 rfl (Or.inl rfl) rfl rfl) (q_w_add (q_pv_var 2 rfl (Or.inl rfl) rfl rfl) q_pv_int)) sc_law_text.nd rfl (Or.inl rfl) rfl (Or.inl rfl))
    (q_psv_cons (q_psv_set (q_pv_lst q_pvs_nil) sc_law_text.nd rfl (Or.inl rfl) rfl (Or.inl rfl))
    (q_psv_cons (q_psv_for PassesOwn.never rfl (q_pvi_range1 (q_pv_var 5 rfl (Or.inl rfl) rfl rfl) rfl B.b_range rfl rfl) (q_pvg_name 7 sc_law_text.nd rfl (Or.inl rfl) (Or.inl rfl))
    (q_psv_one (q_psv_if (q_wt_eq hr (q_w_mod (q_w_call f_law_cell_at hr (q_pvs_cons (q_pv_var 0 rfl (Or.inl rfl) rfl rfl) (q_pvs_cons q_pv_int q_pvs_nil rfl) rfl) (by decide) rfl rfl rfl rfl) q_pv_int) q_pv_int) (q_psv_cons (q_w_append 6 (q_pvs_cons (q_w_idx (q_pv_var 1 rfl (Or.inl rfl) rfl rfl) (q_w_mod (q_pv_var 4 rfl (Or.inl rfl) rfl rfl) (q_w_len B.b_len (q_pvs_cons (q_pv_var 1 rfl (Or.inl rfl) rfl rfl) q_pvs_nil rfl) rfl rfl rfl)) (fun _ _ => rfl) rfl) q_pvs_nil rfl) rfl rfl (Or.inl rfl) rfl rfl rfl rfl rfl)
    (q_psv_one (q_psv_setP (q_w_fdiv (q_pv_var 4 rfl (Or.inl rfl) rfl rfl) (q_w_len B.b_len (q_pvs_cons (q_pv_var 1 rfl (Or.inl rfl) rfl rfl) q_pvs_nil rfl) rfl rfl rfl)) sc_law_text.nd rfl (Or.inl rfl) rfl (Or.inl rfl)))) (q_psv_one (q_w_append 6 (q_pvs_cons (q_w_idx (q_pv_var 1 rfl (Or.inl rfl) rfl rfl) (q_w_mod (q_w_fdiv (q_w_call f_law_mixed hr (q_pvs_cons (q_pv_var 4 rfl (Or.inl rfl) rfl rfl) (q_pvs_cons (q_w_add (q_w_mul q_pv_int (q_pv_var 3 rfl (Or.inl rfl) rfl rfl)) (q_pv_var 7 rfl (Or.inl rfl) rfl rfl)) q_pvs_nil rfl) rfl) (by decide) rfl rfl rfl rfl) q_pv_int) (q_w_len B.b_len (q_pvs_cons (q_pv_var 1 rfl (Or.inl rfl) rfl rfl) q_pvs_nil rfl) rfl rfl rfl)) (fun _ _ => rfl) rfl) q_pvs_nil rfl) rfl rfl (Or.inl rfl) rfl rfl rfl rfl rfl)))) (fun _ => rfl))
    (q_psv_frz 6 (q_psv_one (q_psv_ret (q_pv_join (q_pv_str (by decide +kernel) (by decide)) (q_pvs_cons (q_pv_var 6 rfl (Or.inl rfl) rfl rfl) q_pvs_nil rfl) rfl rfl rfl rfl rfl rfl)))))))))

abbrev s_law_book : Stmt := top 22
theorem sc_law_book : FnScope ["_law_script", "_law_cell", "_law_letters", "_law_count", "_law_most"] ["_law_script"] (defScope s_law_book) := ⟨rfl, rfl, rfl, by decide +kernel, rfl, by decide +kernel, by decide +kernel⟩
theorem f_law_book {f : Addr} {fd : FuncData} (F : Fun K "_law_book" "_law_book" s_law_book f fd) (hm : mg "_law_book" = some (.ref f)) (B : Blt mg) (f_law_cell_at : FnAt P w K mg base 1 "_law_cell_at" ["_law_script", "_law_k"] (gx0 K) c_law_cell_at) (f_law_text : FnAt P w K mg base 2 "_law_text" ["_law_script", "_law_letters", "_law_most", "_law_j"] (gx0 K) c_law_text) :
    FnAt P w K mg base 3 "_law_book" ["_law_script"] (gx0 K) c_law_book := q_def F hm sc_law_book rfl rfl (fun _ _ _ _ _ _ us hl => match us, hl with | [_], _ => rfl) fun cdv A outer s H E hr =>
    (q_psv_cons (q_psv_setP (q_w_call f_law_cell_at hr (q_pvs_cons (q_pv_var 0 rfl (Or.inr (Or.inl rfl)) rfl rfl) (q_pvs_cons q_pv_int q_pvs_nil rfl) rfl) (by decide) rfl rfl rfl rfl) sc_law_book.nd rfl (Or.inl rfl) rfl (Or.inl rfl))
    (q_psv_cons (q_psv_setP (q_w_idx (q_pv_lst (q_pvs_cons (q_pv_str (by decide +kernel) (by decide)) (q_pvs_cons (q_pv_str (by decide +kernel) (by decide)) (q_pvs_cons (q_pv_str (by decide +kernel) (by decide)) (q_pvs_cons (q_pv_str (by decide +kernel) (by decide)) (q_pvs_cons (q_pv_str (by decide +kernel) (by decide)) (q_pvs_cons (q_pv_str (by decide +kernel) (by decide)) q_pvs_nil rfl) rfl) rfl) rfl) rfl) rfl)) (q_w_mod (q_w_fdiv (q_pv_var 1 rfl (Or.inl rfl) rfl rfl) q_pv_int) q_pv_int) (fun _ _ => rfl) rfl) sc_law_book.nd rfl (Or.inr rfl) rfl (Or.inl rfl))
    (q_psv_cons (q_psv_setP (q_w_idx (q_pv_lst (q_pvs_cons q_pv_int (q_pvs_cons q_pv_int (q_pvs_cons q_pv_int (q_pvs_cons q_pv_int (q_pvs_cons q_pv_int (q_pvs_cons q_pv_int (q_pvs_cons q_pv_int (q_pvs_cons q_pv_int q_pvs_nil rfl) rfl) rfl) rfl) rfl) rfl) rfl) rfl)) (q_w_mod (q_w_fdiv (q_pv_var 1 rfl (Or.inl rfl) rfl rfl) q_pv_int) q_pv_int) (fun _ _ => rfl) rfl) sc_law_book.nd rfl (Or.inl rfl) rfl (Or.inl rfl))
    (q_psv_cons (q_psv_setP (q_w_idx (q_pv_lst (q_pvs_cons q_pv_int (q_pvs_cons q_pv_int (q_pvs_cons q_pv_int (q_pvs_cons q_pv_int q_pvs_nil rfl) rfl) rfl) rfl)) (q_w_sub (q_w_min2 B.b_min (q_pvs_cons (q_pv_var 3 rfl (Or.inl rfl) rfl rfl) (q_pvs_cons q_pv_int q_pvs_nil rfl) rfl) rfl rfl rfl rfl) q_pv_int) (fun _ _ => rfl) rfl) sc_law_book.nd rfl (Or.inr rfl) rfl (Or.inl rfl))
    (q_psv_cons (q_psv_if (q_wt_eq hr (q_w_mod (q_w_fdiv (q_pv_var 1 rfl (Or.inl rfl) rfl rfl) q_pv_int) q_pv_int) q_pv_int) (q_psv_one (q_psv_setP (q_w_fdiv q_pv_int (q_w_max2 B.b_max (q_pvs_cons q_pv_int (q_pvs_cons (q_pv_var 3 rfl (Or.inl rfl) rfl rfl) q_pvs_nil rfl) rfl) rfl rfl rfl rfl)) sc_law_book.nd rfl (Or.inr rfl) rfl (Or.inl rfl))) q_psv_nil)
    (q_psv_cons (q_psv_if (q_PVW_pvt (q_pvw_and (q_wt_eq hr (q_pv_var 3 rfl (Or.inl rfl) rfl rfl) q_pv_int) (q_pvw_and1 (q_wt_ne hr (q_w_mod (q_w_fdiv (q_pv_var 1 rfl (Or.inl rfl) rfl rfl) q_pv_int) q_pv_int) q_pv_int)))) (q_psv_one (q_psv_setP q_pv_int sc_law_book.nd rfl (Or.inr rfl) rfl (Or.inl rfl))) q_psv_nil)
    (q_psv_one (q_psv_ret (q_pv_comp 1 ["_law_j", "_law_script", "_law_cell", "_law_letters", "_law_count", "_law_most"] rfl (q_pvi_range1 (q_pv_var 3 rfl (Or.inl rfl) rfl rfl) rfl B.b_range rfl rfl) (tin_var (by decide)) (fun _ _ _ _ _ => (q_pvg_name 0 (show List.Nodup (["_law_j", "_law_script", "_law_cell", "_law_letters", "_law_count", "_law_most"] : List Str) from by decide +kernel) rfl (Or.inl rfl) (Or.inr rfl))) (fun _ _ _ _ _ => (q_w_call f_law_text hr (q_pvs_cons (q_pv_var 1 rfl (Or.inr (Or.inl rfl)) rfl rfl) (q_pvs_cons (q_pv_var 3 rfl (Or.inr (Or.inl rfl)) rfl rfl) (q_pvs_cons (q_pv_var 5 rfl (Or.inr (Or.inl rfl)) rfl rfl) (q_pvs_cons (q_pv_var 0 rfl (Or.inl rfl) rfl rfl) q_pvs_nil rfl) rfl) rfl) rfl) (by decide) rfl rfl rfl rfl)) rfl rfl (by decide) (fun _ => rfl))))))))))

abbrev s_law_due : Stmt := top 23
theorem sc_law_due : FnScope ["_law_book_here", "_law_text_here", "_law_k"] ["_law_book_here"] (defScope s_law_due) := ⟨rfl, rfl, rfl, by decide +kernel, rfl, by decide +kernel, by decide +kernel⟩
theorem f_law_due {f : Addr} {fd : FuncData} (F : Fun K "_law_due" "_law_due" s_law_due f fd) (hm : mg "_law_due" = some (.ref f)) (B : Blt mg) :
    FnAt P w K mg base 1 "_law_due" ["_law_book_here"] (gx0 K) c_law_due := q_def F hm sc_law_due rfl rfl (fun _ _ _ _ _ _ us hl => match us, hl with | [_], _ => rfl) fun cdv A outer s H E hr =>
    (q_psv_cons (q_psv_setP (q_pv_str (by decide +kernel) (by decide)) sc_law_due.nd rfl (Or.inl rfl) rfl (Or.inl rfl))
    (q_psv_cons (q_psv_for PassesOwn.never rfl (q_pvi_range1 (q_w_len B.b_len (q_pvs_cons (q_pv_var 0 rfl (Or.inl rfl) rfl rfl) q_pvs_nil rfl) rfl rfl rfl) rfl B.b_range rfl rfl) (q_pvg_name 2 sc_law_due.nd rfl (Or.inl rfl) (Or.inl rfl))
    (q_psv_cons (q_psv_if (q_wt_gt (q_pv_var 2 rfl (Or.inl rfl) rfl rfl) q_pv_int) (q_psv_one (q_psv_setP (q_w_add (q_pv_var 1 rfl (Or.inl rfl) rfl rfl) (q_pv_str (by decide +kernel) (by decide))) sc_law_due.nd rfl (Or.inl rfl) rfl (Or.inl rfl))) q_psv_nil)
    (q_psv_cons (q_psv_if (q_wt_eq hr (q_w_idx (q_pv_var 0 rfl (Or.inl rfl) rfl rfl) (q_pv_var 2 rfl (Or.inl rfl) rfl rfl) (fun _ _ => rfl) rfl) (q_pv_str (by decide +kernel) (by decide))) (q_psv_one (q_psv_setP (q_w_add (q_pv_var 1 rfl (Or.inl rfl) rfl rfl) (q_pv_str (by decide +kernel) (by decide))) sc_law_due.nd rfl (Or.inl rfl) rfl (Or.inl rfl))) q_psv_nil)
    (q_psv_one (q_psv_setP (q_w_add (q_pv_var 1 rfl (Or.inl rfl) rfl rfl) (q_w_idx (q_pv_var 0 rfl (Or.inl rfl) rfl rfl) (q_pv_var 2 rfl (Or.inl rfl) rfl rfl) (fun _ _ => rfl) rfl)) sc_law_due.nd rfl (Or.inl rfl) rfl (Or.inl rfl))))) (fun _ => rfl))
    (q_psv_cons (q_psv_if (q_wt_eq hr (q_pv_var 0 rfl (Or.inl rfl) rfl rfl) (q_pv_lst q_pvs_nil)) (q_psv_one (q_psv_ret (q_pv_str (by decide +kernel) (by decide)))) q_psv_nil)
    (q_psv_one (q_psv_retV 1 rfl (Or.inl rfl) rfl rfl)))))

abbrev s_law : Stmt := top 24
theorem sc_law : FnScope ["_law_script", "_law_book_here", "_law_more", "_law_whole", "_law_handed", "_law_text_here", "_law_turn", "_law_got"] ["_law_script"] (defScope s_law) := ⟨rfl, rfl, rfl, by decide +kernel, rfl, by decide +kernel, by decide +kernel⟩
theorem law_ok {f : Addr} {fd : FuncData} (F : Fun K "law" "law" s_law f fd) (B : Blt mg) (f_law_book : FnAt P w K mg base 3 "_law_book" ["_law_script"] (gx0 K) c_law_book) (f_law_cell_at : FnAt P w K mg base 1 "_law_cell_at" ["_law_script", "_law_k"] (gx0 K) c_law_cell_at) (f_law_due : FnAt P w K mg base 1 "_law_due" ["_law_book_here"] (gx0 K) c_law_due) (f_read_book : FnAt P w K mg base 4 "read_book" ["text"] (gx0 K) c_read_book) (f_show_book : FnAt P w K mg base 3 "show_book" ["book"] (gx0 K) c_show_book) :
    FnOk P w K mg base CX0 5 f fd ["_law_script"] (spF (gx0 K) c_law) := q_fn F sc_law rfl rfl fun cdv A outer s H E hr =>
    (q_psv_cons (q_psv_setP (q_w_call f_law_book hr (q_pvs_cons (q_pv_var 0 rfl (Or.inl rfl) rfl rfl) q_pvs_nil rfl) (by decide) rfl rfl rfl rfl) sc_law.nd rfl (Or.inl rfl) rfl (Or.inl rfl))
    (q_psv_cons (q_psv_for PassesOwn.never rfl (q_pvi_val (q_pv_lst (q_pvs_cons (q_pv_lst q_pvs_nil) (q_pvs_cons (q_pv_lst (q_pvs_cons (q_pv_str (by decide +kernel) (by decide)) q_pvs_nil rfl)) (q_pvs_cons (q_pv_lst (q_pvs_cons (q_pv_str (by decide +kernel) (by decide)) (q_pvs_cons (q_pv_str (by decide +kernel) (by decide)) q_pvs_nil rfl) rfl)) q_pvs_nil rfl) rfl) rfl)) rfl) (q_pvg_name 2 sc_law.nd rfl (Or.inl rfl) (Or.inl rfl))
    (q_psv_cons (q_psv_setP (q_pv_slice (q_w_add (q_pv_var 1 rfl (Or.inl rfl) rfl rfl) (q_pv_var 2 rfl (Or.inl rfl) rfl rfl)) q_pvo_none (q_pvo_some q_pv_int) rfl) sc_law.nd rfl (Or.inl rfl) rfl (Or.inl rfl))
    (q_psv_cons (q_psv_if (q_wt_eq hr (q_w_mod (q_w_call f_law_cell_at hr (q_pvs_cons (q_pv_var 0 rfl (Or.inl rfl) rfl rfl) (q_pvs_cons q_pv_int q_pvs_nil rfl) rfl) (by decide) rfl rfl rfl rfl) q_pv_int) q_pv_int) (q_psv_one (q_psv_setP (q_pv_slice (q_w_add (q_pv_var 2 rfl (Or.inl rfl) rfl rfl) (q_pv_var 1 rfl (Or.inl rfl) rfl rfl)) q_pvo_none (q_pvo_some q_pv_int) rfl) sc_law.nd rfl (Or.inl rfl) rfl (Or.inl rfl))) q_psv_nil)
    (q_psv_cons (q_psv_setP (q_w_list B.b_list (q_pvs_cons (q_pv_var 3 rfl (Or.inl rfl) rfl rfl) q_pvs_nil rfl) rfl rfl rfl) sc_law.nd rfl (Or.inl rfl) rfl (Or.inl rfl))
    (q_psv_cons (q_psv_setP (q_w_call f_show_book hr (q_pvs_cons (q_pv_var 4 rfl (Or.inl rfl) rfl rfl) q_pvs_nil rfl) (by decide) rfl rfl rfl rfl) sc_law.nd rfl (Or.inl rfl) rfl (Or.inl rfl))
    (q_psv_cons (q_psv_if (q_PVW_pvt (q_pvw_or (q_pvt_not (q_pvt_val (q_w_is .str B.b_isinstance B.b_str (q_pv_var 5 rfl (Or.inl rfl) rfl rfl) rfl rfl rfl rfl) rfl (fun _ => rfl))) (q_pvw_or (q_wt_ne hr (q_pv_var 5 rfl (Or.inl rfl) rfl rfl) (q_w_call f_law_due hr (q_pvs_cons (q_pv_var 3 rfl (Or.inl rfl) rfl rfl) q_pvs_nil rfl) (by decide) rfl rfl rfl rfl)) (q_pvw_or1 (q_wt_ne hr (q_pv_var 4 rfl (Or.inl rfl) rfl rfl) (q_pv_var 3 rfl (Or.inl rfl) rfl rfl)))))) (q_psv_one (q_psv_ret q_pv_bl)) q_psv_nil)
    (q_psv_one (q_psv_for PassesOwn.never rfl (q_pvi_range1 q_pv_int rfl B.b_range rfl rfl) (q_pvg_name 6 sc_law.nd rfl (Or.inl rfl) (Or.inl rfl))
    (q_psv_cons (q_psv_set (q_w_call f_read_book hr (q_pvs_cons (q_pv_var 5 rfl (Or.inl rfl) rfl rfl) q_pvs_nil rfl) (by decide) rfl rfl rfl rfl) sc_law.nd rfl (Or.inl rfl) rfl (Or.inl rfl))
    (q_psv_cons (q_psv_if (q_PVW_pvt (q_pvw_or (q_pvt_not (q_pvt_val (q_w_is .list B.b_isinstance B.b_list (q_pv_var 7 rfl (Or.inl rfl) rfl rfl) rfl rfl rfl rfl) rfl (fun _ => rfl))) (q_pvw_or (q_wt_ne hr (q_pv_var 7 rfl (Or.inl rfl) rfl rfl) (q_pv_var 3 rfl (Or.inl rfl) rfl rfl)) (q_pvw_or1 (q_pvt_not (q_pvt_val (q_w_all B.b_all (q_pvs_cons (q_pv_comp 1 ["_law_one", "_law_script", "_law_book_here", "_law_more", "_law_whole", "_law_handed", "_law_text_here", "_law_turn", "_law_got"] rfl (q_pvi_val (q_pv_var 7 rfl (Or.inl rfl) rfl rfl) rfl) (tin_var (by decide)) (fun _ _ _ _ _ => (q_pvg_name 0 (show List.Nodup (["_law_one", "_law_script", "_law_book_here", "_law_more", "_law_whole", "_law_handed", "_law_text_here", "_law_turn", "_law_got"] : List Str) from by decide +kernel) rfl (Or.inl rfl) (Or.inr rfl))) (fun _ _ _ _ _ => (q_w_is .str B.b_isinstance B.b_str (q_pv_var 0 rfl (Or.inl rfl) rfl rfl) rfl rfl rfl rfl)) rfl rfl (by decide) (fun _ => rfl)) q_pvs_nil rfl) rfl rfl rfl rfl) rfl (fun _ => rfl))))))) (q_psv_one (q_psv_ret q_pv_bl)) q_psv_nil)
    (q_psv_one (q_w_append 7 (q_pvs_cons (q_pv_str (by decide +kernel) (by decide)) q_pvs_nil rfl) rfl rfl (Or.inl rfl) rfl rfl rfl rfl rfl)))) (fun _ => rfl)))))))) (fun _ => rfl))
    (q_psv_one (q_psv_ret (q_pv_and (q_w_eq hr (q_w_call f_show_book hr (q_pvs_cons (q_pv_lst q_pvs_nil) q_pvs_nil rfl) (by decide) rfl rfl rfl rfl) (q_pv_str (by decide +kernel) (by decide))) (q_pv_one (q_w_eq hr (q_w_call f_read_book hr (q_pvs_cons (q_pv_str (by decide +kernel) (by decide)) q_pvs_nil rfl) (by decide) rfl rfl rfl rfl) (q_pv_lst q_pvs_nil))))))))

end
-- ALL
theorem all_mk {l : PySem.W.OpenLaw} {w : World} {K : PySem.W.Frag} {h : Heap} {mg : Str → Option Value} {fa f0 f1 f2 f3 f4 f5 f6 f7 f8 f9 f10 f11 f12 f13 f14 f15 : Addr} (X : K.In h) (G : h.Ns mainGlobals mg) (hfa : mg "law" = some (.ref fa))
    {od0 an0 od1 an1 od2 an2 od3 an3 od4 an4 od5 an5 od6 an6 od7 an7 od8 an8 od9 an9 od10 an10 od11 an11 od12 an12 od13 an13 od14 an14 od15 an15 : Option Addr} {sl0 sl1 sl2 sl3 sl4 sl5 sl6 sl7 sl8 sl9 sl10 sl11 sl12 sl13 sl14 sl15 : Array (Option Value)} {oc0 kV0 dc0 pm0 cd0 ct0 oc1 kV1 dc1 pm1 cd1 ct1 oc2 kV2 dc2 pm2 cd2 ct2 oc3 kV3 dc3 pm3 cd3 ct3 oc4 kV4 dc4 pm4 cd4 ct4 oc5 kV5 dc5 pm5 cd5 ct5 oc6 kV6 dc6 pm6 cd6 ct6 oc7 kV7 dc7 pm7 cd7 ct7 oc8 kV8 dc8 pm8 cd8 ct8 oc9 kV9 dc9 pm9 cd9 ct9 oc10 kV10 dc10 pm10 cd10 ct10 oc11 kV11 dc11 pm11 cd11 ct11 oc12 kV12 dc12 pm12 cd12 ct12 oc13 kV13 dc13 pm13 cd13 ct13 oc14 kV14 dc14 pm14 cd14 ct14 oc15 kV15 dc15 pm15 cd15 ct15 : Value}
    (a0 : PySem.W.nsIn K mainGlobals "has_only_signs" = some (some (.ref f0))) (l0 : K.lookup f0 = some ⟨oc0, od0, .func (PySem.W.fnOf "has_only_signs" "has_only_signs" (defArgs s_has_only_signs) (defBody s_has_only_signs) (defScope s_has_only_signs) .none kV0 dc0 pm0 an0 cd0 ct0), sl0⟩) (c0 : PySem.W.codeIn K cd0 "has_only_signs" = true) (k0 : PySem.W.keepIn K (.ref f0) = true)
    (a1 : PySem.W.nsIn K mainGlobals "is_word" = some (some (.ref f1))) (l1 : K.lookup f1 = some ⟨oc1, od1, .func (PySem.W.fnOf "is_word" "is_word" (defArgs s_is_word) (defBody s_is_word) (defScope s_is_word) .none kV1 dc1 pm1 an1 cd1 ct1), sl1⟩) (c1 : PySem.W.codeIn K cd1 "is_word" = true) (k1 : PySem.W.keepIn K (.ref f1) = true)
    (a2 : PySem.W.nsIn K mainGlobals "signs_in" = some (some (.ref f2))) (l2 : K.lookup f2 = some ⟨oc2, od2, .func (PySem.W.fnOf "signs_in" "signs_in" (defArgs s_signs_in) (defBody s_signs_in) (defScope s_signs_in) .none kV2 dc2 pm2 an2 cd2 ct2), sl2⟩) (c2 : PySem.W.codeIn K cd2 "signs_in" = true) (k2 : PySem.W.keepIn K (.ref f2) = true)
    (a3 : PySem.W.nsIn K mainGlobals "is_book" = some (some (.ref f3))) (l3 : K.lookup f3 = some ⟨oc3, od3, .func (PySem.W.fnOf "is_book" "is_book" (defArgs s_is_book) (defBody s_is_book) (defScope s_is_book) .none kV3 dc3 pm3 an3 cd3 ct3), sl3⟩) (c3 : PySem.W.codeIn K cd3 "is_book" = true) (k3 : PySem.W.keepIn K (.ref f3) = true)
    (a4 : PySem.W.nsIn K mainGlobals "show_word" = some (some (.ref f4))) (l4 : K.lookup f4 = some ⟨oc4, od4, .func (PySem.W.fnOf "show_word" "show_word" (defArgs s_show_word) (defBody s_show_word) (defScope s_show_word) .none kV4 dc4 pm4 an4 cd4 ct4), sl4⟩) (c4 : PySem.W.codeIn K cd4 "show_word" = true) (k4 : PySem.W.keepIn K (.ref f4) = true)
    (a5 : PySem.W.nsIn K mainGlobals "show_words" = some (some (.ref f5))) (l5 : K.lookup f5 = some ⟨oc5, od5, .func (PySem.W.fnOf "show_words" "show_words" (defArgs s_show_words) (defBody s_show_words) (defScope s_show_words) .none kV5 dc5 pm5 an5 cd5 ct5), sl5⟩) (c5 : PySem.W.codeIn K cd5 "show_words" = true) (k5 : PySem.W.keepIn K (.ref f5) = true)
    (a6 : PySem.W.nsIn K mainGlobals "show_book" = some (some (.ref f6))) (l6 : K.lookup f6 = some ⟨oc6, od6, .func (PySem.W.fnOf "show_book" "show_book" (defArgs s_show_book) (defBody s_show_book) (defScope s_show_book) .none kV6 dc6 pm6 an6 cd6 ct6), sl6⟩) (c6 : PySem.W.codeIn K cd6 "show_book" = true) (k6 : PySem.W.keepIn K (.ref f6) = true)
    (a7 : PySem.W.nsIn K mainGlobals "is_shown_word" = some (some (.ref f7))) (l7 : K.lookup f7 = some ⟨oc7, od7, .func (PySem.W.fnOf "is_shown_word" "is_shown_word" (defArgs s_is_shown_word) (defBody s_is_shown_word) (defScope s_is_shown_word) .none kV7 dc7 pm7 an7 cd7 ct7), sl7⟩) (c7 : PySem.W.codeIn K cd7 "is_shown_word" = true) (k7 : PySem.W.keepIn K (.ref f7) = true)
    (a8 : PySem.W.nsIn K mainGlobals "read_word" = some (some (.ref f8))) (l8 : K.lookup f8 = some ⟨oc8, od8, .func (PySem.W.fnOf "read_word" "read_word" (defArgs s_read_word) (defBody s_read_word) (defScope s_read_word) .none kV8 dc8 pm8 an8 cd8 ct8), sl8⟩) (c8 : PySem.W.codeIn K cd8 "read_word" = true) (k8 : PySem.W.keepIn K (.ref f8) = true)
    (a9 : PySem.W.nsIn K mainGlobals "read_book" = some (some (.ref f9))) (l9 : K.lookup f9 = some ⟨oc9, od9, .func (PySem.W.fnOf "read_book" "read_book" (defArgs s_read_book) (defBody s_read_book) (defScope s_read_book) .none kV9 dc9 pm9 an9 cd9 ct9), sl9⟩) (c9 : PySem.W.codeIn K cd9 "read_book" = true) (k9 : PySem.W.keepIn K (.ref f9) = true)
    (a10 : PySem.W.nsIn K mainGlobals "_law_cell_at" = some (some (.ref f10))) (l10 : K.lookup f10 = some ⟨oc10, od10, .func (PySem.W.fnOf "_law_cell_at" "_law_cell_at" (defArgs s_law_cell_at) (defBody s_law_cell_at) (defScope s_law_cell_at) .none kV10 dc10 pm10 an10 cd10 ct10), sl10⟩) (c10 : PySem.W.codeIn K cd10 "_law_cell_at" = true) (k10 : PySem.W.keepIn K (.ref f10) = true)
    (a11 : PySem.W.nsIn K mainGlobals "_law_mixed" = some (some (.ref f11))) (l11 : K.lookup f11 = some ⟨oc11, od11, .func (PySem.W.fnOf "_law_mixed" "_law_mixed" (defArgs s_law_mixed) (defBody s_law_mixed) (defScope s_law_mixed) .none kV11 dc11 pm11 an11 cd11 ct11), sl11⟩) (c11 : PySem.W.codeIn K cd11 "_law_mixed" = true) (k11 : PySem.W.keepIn K (.ref f11) = true)
    (a12 : PySem.W.nsIn K mainGlobals "_law_text" = some (some (.ref f12))) (l12 : K.lookup f12 = some ⟨oc12, od12, .func (PySem.W.fnOf "_law_text" "_law_text" (defArgs s_law_text) (defBody s_law_text) (defScope s_law_text) .none kV12 dc12 pm12 an12 cd12 ct12), sl12⟩) (c12 : PySem.W.codeIn K cd12 "_law_text" = true) (k12 : PySem.W.keepIn K (.ref f12) = true)
    (a13 : PySem.W.nsIn K mainGlobals "_law_book" = some (some (.ref f13))) (l13 : K.lookup f13 = some ⟨oc13, od13, .func (PySem.W.fnOf "_law_book" "_law_book" (defArgs s_law_book) (defBody s_law_book) (defScope s_law_book) .none kV13 dc13 pm13 an13 cd13 ct13), sl13⟩) (c13 : PySem.W.codeIn K cd13 "_law_book" = true) (k13 : PySem.W.keepIn K (.ref f13) = true)
    (a14 : PySem.W.nsIn K mainGlobals "_law_due" = some (some (.ref f14))) (l14 : K.lookup f14 = some ⟨oc14, od14, .func (PySem.W.fnOf "_law_due" "_law_due" (defArgs s_law_due) (defBody s_law_due) (defScope s_law_due) .none kV14 dc14 pm14 an14 cd14 ct14), sl14⟩) (c14 : PySem.W.codeIn K cd14 "_law_due" = true) (k14 : PySem.W.keepIn K (.ref f14) = true)
    (a15 : PySem.W.nsIn K mainGlobals "law" = some (some (.ref f15))) (l15 : K.lookup f15 = some ⟨oc15, od15, .func (PySem.W.fnOf "law" "law" (defArgs s_law) (defBody s_law) (defScope s_law) .none kV15 dc15 pm15 an15 cd15 ct15), sl15⟩) (c15 : PySem.W.codeIn K cd15 "law" = true) (k15 : PySem.W.keepIn K (.ref f15) = true)
    (z_all : PySem.W.nsIn K mainGlobals "all" = some none)
    (z_isinstance : PySem.W.nsIn K mainGlobals "isinstance" = some none)
    (z_len : PySem.W.nsIn K mainGlobals "len" = some none)
    (z_list : PySem.W.nsIn K mainGlobals "list" = some none)
    (z_max : PySem.W.nsIn K mainGlobals "max" = some none)
    (z_min : PySem.W.nsIn K mainGlobals "min" = some none)
    (z_range : PySem.W.nsIn K mainGlobals "range" = some none)
    (z_str : PySem.W.nsIn K mainGlobals "str" = some none)
    (z_sum : PySem.W.nsIn K mainGlobals "sum" = some none)
    {t_MOST_SIGNS : Tok} (y_MOST_SIGNS : PySem.W.nsIn K mainGlobals "MOST_SIGNS" = some (some (.int 120 t_MOST_SIGNS)))
    {t_MOST_TEXTS : Tok} (y_MOST_TEXTS : PySem.W.nsIn K mainGlobals "MOST_TEXTS" = some (some (.int 8 t_MOST_TEXTS)))
    {t_MOST_WORD_SIGNS : Tok} (y_MOST_WORD_SIGNS : PySem.W.nsIn K mainGlobals "MOST_WORD_SIGNS" = some (some (.int 200 t_MOST_WORD_SIGNS)))
    : ∃ fd : FuncData, (∀ (s : Shared) (v : Value), BindsTo s fd ⟨[v], []⟩ [("_law_script", v)]) ∧ ∀ base : Heap, K.In base → base.Ns mainGlobals mg → FnOk l.prog w K mg base CX0 5 fa fd ["_law_script"] (spF (gx0 K) c_law) := by
  have e := hfa.symm.trans (PySem.W.mg_of X G a15)
  cases e
  have B : Blt mg := ⟨PySem.W.mg_none_of X G z_all, PySem.W.mg_none_of X G z_isinstance, PySem.W.mg_none_of X G z_len, PySem.W.mg_none_of X G z_list, PySem.W.mg_none_of X G z_max, PySem.W.mg_none_of X G z_min, PySem.W.mg_none_of X G z_range, PySem.W.mg_none_of X G z_str, PySem.W.mg_none_of X G z_sum, ⟨_, PySem.W.mg_of X G y_MOST_SIGNS⟩, ⟨_, PySem.W.mg_of X G y_MOST_TEXTS⟩, ⟨_, PySem.W.mg_of X G y_MOST_WORD_SIGNS⟩⟩
  refine ⟨PySem.W.fnOf "law" "law" (defArgs s_law) (defBody s_law) (defScope s_law) .none kV15 dc15 pm15 an15 cd15 ct15, fun s v => .of_eq rfl, fun base _ _ => ?_⟩
  have f_has_only_signs := f_has_only_signs (P := l.prog) (w := w) (base := base) (fun_mk (st := s_has_only_signs) l0 c0 k0) (PySem.W.mg_of X G a0) B
  have f_is_word := f_is_word (P := l.prog) (w := w) (base := base) (fun_mk (st := s_is_word) l1 c1 k1) (PySem.W.mg_of X G a1) B f_has_only_signs
  have f_signs_in := f_signs_in (P := l.prog) (w := w) (base := base) (fun_mk (st := s_signs_in) l2 c2 k2) (PySem.W.mg_of X G a2) B
  have f_is_book := f_is_book (P := l.prog) (w := w) (base := base) (fun_mk (st := s_is_book) l3 c3 k3) (PySem.W.mg_of X G a3) B f_has_only_signs f_signs_in
  have f_show_word := f_show_word (P := l.prog) (w := w) (base := base) (fun_mk (st := s_show_word) l4 c4 k4) (PySem.W.mg_of X G a4) B
  have f_show_words := f_show_words (P := l.prog) (w := w) (base := base) (fun_mk (st := s_show_words) l5 c5 k5) (PySem.W.mg_of X G a5) B f_show_word
  have f_show_book := f_show_book (P := l.prog) (w := w) (base := base) (fun_mk (st := s_show_book) l6 c6 k6) (PySem.W.mg_of X G a6) B f_show_words
  have f_is_shown_word := f_is_shown_word (P := l.prog) (w := w) (base := base) (fun_mk (st := s_is_shown_word) l7 c7 k7) (PySem.W.mg_of X G a7) B f_is_word
  have f_read_word := f_read_word (P := l.prog) (w := w) (base := base) (fun_mk (st := s_read_word) l8 c8 k8) (PySem.W.mg_of X G a8) B
  have f_read_book := f_read_book (P := l.prog) (w := w) (base := base) (fun_mk (st := s_read_book) l9 c9 k9) (PySem.W.mg_of X G a9) B f_is_book f_is_shown_word f_read_word
  have f_law_cell_at := f_law_cell_at (P := l.prog) (w := w) (base := base) (fun_mk (st := s_law_cell_at) l10 c10 k10) (PySem.W.mg_of X G a10) B
  have f_law_mixed := f_law_mixed (P := l.prog) (w := w) (base := base) (fun_mk (st := s_law_mixed) l11 c11 k11) (PySem.W.mg_of X G a11) B
  have f_law_text := f_law_text (P := l.prog) (w := w) (base := base) (fun_mk (st := s_law_text) l12 c12 k12) (PySem.W.mg_of X G a12) B f_law_cell_at f_law_mixed
  have f_law_book := f_law_book (P := l.prog) (w := w) (base := base) (fun_mk (st := s_law_book) l13 c13 k13) (PySem.W.mg_of X G a13) B f_law_cell_at f_law_text
  have f_law_due := f_law_due (P := l.prog) (w := w) (base := base) (fun_mk (st := s_law_due) l14 c14 k14) (PySem.W.mg_of X G a14) B
  exact law_ok (fun_mk (st := s_law) l15 c15 k15) B f_law_book f_law_cell_at f_law_due f_read_book f_show_book

end T49
open PySem PySem.W PyProof.Rows
set_option maxRecDepth 100000 in
set_option maxHeartbeats 0 in
theorem PySem.Challenge.cw_allparts_k49_books_written_holds : PySem.Challenge.rw_allparts_k49_books_written.Holds := by
  w_on; o_law; k_head; (case hw => w_witness2)
  k_fill
  refine VS.vs_walk (l := PySem.Challenge.rw_allparts_k49_books_written) (k := 5) (x := "_law_script") (g := T49.c_law) rfl rfl ⟨rfl, by decide, by decide⟩ (fun w h Y => PySem.W.kIn_of Y) T49.law_true ?F
  case F =>
    intro w mg fa h KX G hmg
    refine' T49.all_mk KX G hmg ?a0 ?l0 ?c0 ?k0 ?a1 ?l1 ?c1 ?k1 ?a2 ?l2 ?c2 ?k2 ?a3 ?l3 ?c3 ?k3 ?a4 ?l4 ?c4 ?k4 ?a5 ?l5 ?c5 ?k5 ?a6 ?l6 ?c6 ?k6 ?a7 ?l7 ?c7 ?k7 ?a8 ?l8 ?c8 ?k8 ?a9 ?l9 ?c9 ?k9 ?a10 ?l10 ?c10 ?k10 ?a11 ?l11 ?c11 ?k11 ?a12 ?l12 ?c12 ?k12 ?a13 ?l13 ?c13 ?k13 ?a14 ?l14 ?c14 ?k14 ?a15 ?l15 ?c15 ?k15 ?z_all ?z_isinstance ?z_len ?z_list ?z_max ?z_min ?z_range ?z_str ?z_sum ?y_MOST_SIGNS ?y_MOST_TEXTS ?y_MOST_WORD_SIGNS
    (case a0 => k_is)
    (case l0 => k_is)
    (case c0 => k_is)
    (case k0 => k_is)
    (case a1 => k_is)
    (case l1 => k_is)
    (case c1 => k_is)
    (case k1 => k_is)
    (case a2 => k_is)
    (case l2 => k_is)
    (case c2 => k_is)
    (case k2 => k_is)
    (case a3 => k_is)
    (case l3 => k_is)
    (case c3 => k_is)
    (case k3 => k_is)
    (case a4 => k_is)
    (case l4 => k_is)
    (case c4 => k_is)
    (case k4 => k_is)
    (case a5 => k_is)
    (case l5 => k_is)
    (case c5 => k_is)
    (case k5 => k_is)
    (case a6 => k_is)
    (case l6 => k_is)
    (case c6 => k_is)
    (case k6 => k_is)
    (case a7 => k_is)
    (case l7 => k_is)
    (case c7 => k_is)
    (case k7 => k_is)
    (case a8 => k_is)
    (case l8 => k_is)
    (case c8 => k_is)
    (case k8 => k_is)
    (case a9 => k_is)
    (case l9 => k_is)
    (case c9 => k_is)
    (case k9 => k_is)
    (case a10 => k_is)
    (case l10 => k_is)
    (case c10 => k_is)
    (case k10 => k_is)
    (case a11 => k_is)
    (case l11 => k_is)
    (case c11 => k_is)
    (case k11 => k_is)
    (case a12 => k_is)
    (case l12 => k_is)
    (case c12 => k_is)
    (case k12 => k_is)
    (case a13 => k_is)
    (case l13 => k_is)
    (case c13 => k_is)
    (case k13 => k_is)
    (case a14 => k_is)
    (case l14 => k_is)
    (case c14 => k_is)
    (case k14 => k_is)
    (case a15 => k_is)
    (case l15 => k_is)
    (case c15 => k_is)
    (case k15 => k_is)
    (case z_all => k_is)
    (case z_isinstance => k_is)
    (case z_len => k_is)
    (case z_list => k_is)
    (case z_max => k_is)
    (case z_min => k_is)
    (case z_range => k_is)
    (case z_str => k_is)
    (case z_sum => k_is)
    (case y_MOST_SIGNS => k_is)
    (case y_MOST_TEXTS => k_is)
    (case y_MOST_WORD_SIGNS => k_is)

end