import PyProof.Rows.All
import Wide.All
import OpenK.AllK
import Wide.FinOn
import Lean
import PyProof.EqAt
import PyProof.EqKinds
import PyProof.TupleCall
import PySem.Challenge.RW_allparts_k01_words_and_books
/-! Value semantics: what the defs of a text do, told as functions over plain trees. -/
namespace VS
abbrev Tx := List Nat
inductive T where
  | non | bl (b : Bool) | int (i : Int) | str (s : Tx) | scr (ns : List Int)
  | tup (l : List T) | lst (l : List T) | dct (kd : Nat) (l : List (T × T)) | obj (c : Nat) (fs : List (Nat × T))
  deriving Inhabited
/-- at most so many items, signs -/
def LINE : Nat := 16777216

mutual
@[simp] def imm : T → Bool
  | .lst _ => false
  | .dct _ _ => false
  | .obj _ _ => false
  | .tup l => imms l
  | _ => true
@[simp] def imms : List T → Bool
  | [] => true
  | t :: r => imm t && imms r
end
mutual
@[simp] def eqT : T → T → Bool
  | .non, .non => true
  | .bl a, .bl b => a == b
  | .bl a, .int i => (if a then 1 else 0) == i
  | .int i, .bl a => i == (if a then 1 else 0)
  | .int i, .int j => i == j
  | .str s, .str t => s == t
  | .tup a, .tup b => eqTs a b
  | .lst a, .lst b => eqTs a b
  | _, _ => false
@[simp] def eqTs : List T → List T → Bool
  | [], [] => true
  | a :: as, b :: bs => eqT a b && eqTs as bs
  | _, _ => false
end
/-- what == is known of: no dicts, no objects, not too deep -/
@[simp] def eqD : Nat → T → Bool
  | _, .non => true
  | _, .bl _ => true
  | _, .int _ => true
  | _, .str _ => true
  | n + 1, .tup l => l.all (eqD n)
  | n + 1, .lst l => l.all (eqD n)
  | _, _ => false
inductive Md where | fr | pu | bo
  deriving DecidableEq, Inhabited
@[simp] def Md.join : Md → Md → Md
  | .bo, _ => .bo
  | _, .bo => .bo
  | .pu, _ => .pu
  | _, .pu => .pu
  | .fr, .fr => .fr
inductive Cell where | pu (t : T) | ow (t : T)
  deriving Inhabited
abbrev Env := List (Option Cell)
abbrev Val := Md × T
abbrev Ex := Env → Option Val
abbrev Exs := Env → Option (List Val)
/-- an immutable thing is as good as a new one -/
@[simp] def up (m : Md) (t : T) : Val := (if imm t then .fr else m, t)
@[simp] def isMut : T → Bool
  | .lst _ => true
  | .dct _ _ => true
  | .obj _ _ => true
  | _ => false
@[simp] def cellOf : Val → Option Cell
  | (.fr, t) => some (if isMut t then .ow t else .pu t)
  | (.pu, t) => some (.pu t)
  | (.bo, _) => none
inductive Out where | nx (η : Env) | rt (v : Val) (η : Env) | bk (η : Env) | ct (η : Env)
abbrev Sx := Env → Option Out

/-! ### expressions -/
@[simp] def eC (t : T) (_ : Env) : Option Val := some (.fr, t)
@[simp] def eVar (i : Nat) (η : Env) : Option Val := match η[i]? with
  | some (some (.pu t)) => some (up .pu t)
  | some (some (.ow t)) => some (.bo, t)
  | _ => none
@[simp] def e1 (f : Val → Option Val) (a : Ex) (η : Env) : Option Val := (a η).bind f
@[simp] def e2 (f : Val → Val → Option Val) (a b : Ex) (η : Env) : Option Val := (a η).bind fun x => (b η).bind fun y => f x y
@[simp] def xNil (_ : Env) : Option (List Val) := some []
@[simp] def xCons (a : Ex) (r : Exs) (η : Env) : Option (List Val) := (a η).bind fun x => (r η).bind fun xs => some (x :: xs)
@[simp] def eN (f : List Val → Option Val) (as : Exs) (η : Env) : Option Val := (as η).bind f
@[simp] def joins : List Val → Md
  | [] => .fr
  | v :: r => v.1.join (joins r)
@[simp] def trees (l : List Val) : List T := l.map (·.2)
def mkL (m : Md) (l : List T) : Option Val := if l.length ≤ LINE then some (if imms l then .fr else m, .lst l) else none
@[simp] def eLst (as : Exs) (η : Env) : Option Val := (as η).bind fun l => mkL (joins l) (trees l)
def tupOf (l : List Val) : Option Val := if l.length ≤ LINE then some (up (joins l) (.tup (trees l))) else none
@[simp] def eTup (as : Exs) (η : Env) : Option Val := (as η).bind tupOf
def dput (l : List (T × T)) (k v : T) : List (T × T) := if l.any (fun p => eqT p.1 k) then l.map (fun p => if eqT p.1 k then (p.1, v) else p) else l ++ [(k, v)]
/-- a key of a dict: kind 0 ints and texts; 1 tuples of these -/
def keyB : T → Bool
  | .int _ => true
  | .str _ => true
  | _ => false
def keyOk : Nat → T → Bool
  | 0, t => keyB t
  | 1, .tup l => l.all keyB
  | _, _ => false
def pairs : List (Ex × Ex) → Env → Option (List (Val × Val))
  | [], _ => some []
  | (a, b) :: r, η => (a η).bind fun x => (b η).bind fun y => (pairs r η).map ((x, y) :: ·)
/-- {k: v, ..} -/
def eDct (kd : Nat) (ps : List (Ex × Ex)) (η : Env) : Option Val := (pairs ps η).bind fun l => if l.all (fun p => keyOk kd p.1.2) ∧ l.length ≤ 15 then
  some (joins (l.map (·.2)), .dct kd (l.foldl (fun d p => dput d p.1.2 p.2.2) [])) else none
@[simp] def tru : T → Option Bool
  | .bl b => some b
  | .int i => some (i != 0)
  | .str s => some (!s.isEmpty)
  | .lst l => some (!l.isEmpty)
  | .tup l => some (!l.isEmpty)
  | .dct 0 l => some (!l.isEmpty)
  | .non => some false
  | _ => none
@[simp] def eAnd (a b : Ex) (η : Env) : Option Val := (a η).bind fun x => match x.2 with
  | .bl true => b η
  | .bl false => some (.fr, .bl false)
  | _ => none
@[simp] def eOr (a b : Ex) (η : Env) : Option Val := (a η).bind fun x => match x.2 with
  | .bl true => some (.fr, .bl true)
  | .bl false => b η
  | _ => none
@[simp] def eNot (a : Ex) (η : Env) : Option Val := (a η).bind fun x => match x.2 with
  | .bl b => some (.fr, .bl (!b))
  | _ => none
@[simp] def eIf (c a b : Ex) (η : Env) : Option Val := (c η).bind fun x => (tru x.2).bind fun t => if t then a η else b η
@[simp] def isN : T → Bool
  | .non => true
  | _ => false
@[simp] def eIsN (a : Ex) (η : Env) : Option Val := (a η).bind fun x => some (.fr, .bl (isN x.2))
@[simp] def eNotN (a : Ex) (η : Env) : Option Val := (a η).bind fun x => some (.fr, .bl (!isN x.2))
/-- a op b op c -/
@[simp] def eChain (f g : Val → Val → Option Val) (a b c : Ex) (η : Env) : Option Val := (a η).bind fun x => (b η).bind fun y => (f x y).bind fun r => match r.2 with
  | .bl true => (c η).bind fun z => g y z
  | .bl false => some (.fr, .bl false)
  | _ => none
@[simp] def int? : T → Option Int
  | .int i => some i
  | _ => none
def oAdd : Val → Val → Option Val
  | (_, .int i), (_, .int j) => some (.fr, .int (i + j))
  | (_, .str s), (_, .str t) => if s.length + t.length ≤ LINE then some (.fr, .str (s ++ t)) else none
  | (m, .lst s), (n, .lst t) => mkL (m.join n) (s ++ t)
  | _, _ => none
@[simp] def oSub : Val → Val → Option Val
  | (_, .int i), (_, .int j) => some (.fr, .int (i - j))
  | _, _ => none
def B62 : Int := 4611686018427387904
def B64 : Int := 18446744073709551616
def oMul : Val → Val → Option Val
  | (_, .int i), (_, .int j) => if (-B64 < i ∧ i < B64) ∨ (-B64 < j ∧ j < B64) then some (.fr, .int (i * j)) else none
  | _, _ => none
/-- text times int, list times int -/
def oRepS : Val → Val → Option Val
  | (_, .str s), (_, .int j) => if s.length * j.toNat ≤ LINE ∧ -B62 ≤ j ∧ j < B62 then some (.fr, .str (List.replicate j.toNat s).flatten) else none
  | _, _ => none
def oRepL : Val → Val → Option Val
  | (_, .lst s), (_, .int j) => if imms s ∧ s.length * j.toNat ≤ LINE ∧ -B62 ≤ j ∧ j < B62 then some (.fr, .lst (List.replicate j.toNat s).flatten) else none
  | _, _ => none
def oFdiv : Val → Val → Option Val
  | (_, .int i), (_, .int j) => if 0 < j ∧ j < 1073741824 then some (.fr, .int (i / j)) else none
  | _, _ => none
def oMod : Val → Val → Option Val
  | (_, .int i), (_, .int j) => if 0 < j then some (.fr, .int (i % j)) else none
  | _, _ => none
/-- of two texts: the first is ahead -/
def ltx : Tx → Tx → Bool
  | [], [] => false
  | [], _ :: _ => true
  | _ :: _, [] => false
  | a :: as, b :: bs => if a < b then true else if b < a then false else ltx as bs
@[simp] def oLt : Val → Val → Option Val
  | (_, .int i), (_, .int j) => some (.fr, .bl (decide (i < j)))
  | (_, .str s), (_, .str t) => some (.fr, .bl (ltx s t))
  | _, _ => none
@[simp] def oLe : Val → Val → Option Val
  | (_, .int i), (_, .int j) => some (.fr, .bl (decide (i ≤ j)))
  | (_, .str s), (_, .str t) => some (.fr, .bl (!ltx t s))
  | _, _ => none
@[simp] def oGt (a b : Val) : Option Val := oLt b a
@[simp] def oGe (a b : Val) : Option Val := oLe b a
@[simp] def oEq (a b : Val) : Option Val := if eqD 60 a.2 ∧ eqD 60 b.2 then some (.fr, .bl (eqT a.2 b.2)) else none
@[simp] def oNe (a b : Val) : Option Val := if eqD 60 a.2 ∧ eqD 60 b.2 then some (.fr, .bl (!eqT a.2 b.2)) else none
def dget (l : List (T × T)) (k : T) : Option T := (l.find? fun p => eqT p.1 k).map (·.2)
/-- x in a list, a tuple -/
def inT (x : T) : T → Option Bool
  | .lst l => if eqD 60 x ∧ l.all (eqD 59) then some (l.any fun y => eqT y x) else none
  | .tup l => if eqD 60 x ∧ l.all (eqD 59) then some (l.any fun y => eqT y x) else none
  | _ => none
def oIn (a b : Val) : Option Val := (inT a.2 b.2).bind fun r => some (.fr, .bl r)
def oNotIn (a b : Val) : Option Val := (inT a.2 b.2).bind fun r => some (.fr, .bl (!r))
/-- x in a dict -/
def oInD : Val → Val → Option Val
  | (_, k), (_, .dct d l) => if keyOk d k then some (.fr, .bl (dget l k).isSome) else none
  | _, _ => none
def oNotInD : Val → Val → Option Val
  | (_, k), (_, .dct d l) => if keyOk d k then some (.fr, .bl (!(dget l k).isSome)) else none
  | _, _ => none
/-- the place that an index names -/
def ixP (n : Nat) (i : Int) : Option Nat := if 0 ≤ i then (if i < n then some i.toNat else none) else (if 0 ≤ i + n then some (i + n).toNat else none)
/-- what is borrowed and immutable is free -/
@[simp] def sub (m : Md) (t : T) : Val := up m t
@[simp] def oIdx : Val → Val → Option Val
  | (m, .lst l), (_, .int i) => (ixP l.length i).bind fun k => (l[k]?).map (sub m)
  | (m, .tup l), (_, .int i) => (ixP l.length i).bind fun k => (l[k]?).map (sub m)
  | (_, .scr l), (_, .int i) => (ixP l.length i).bind fun k => (l[k]?).map fun n => (.fr, .int n)
  | (_, .str l), (_, .int i) => (ixP l.length i).bind fun k => (l[k]?).map fun n => (.fr, .str [n])
  | _, _ => none
def oKey : Val → Val → Option Val
  | (m, .dct d l), (_, k) => if keyOk d k then (dget l k).map (sub m) else none
  | _, _ => none
/-- a slice's bound, put into 0 .. n -/
def clip (n : Nat) (i : Int) : Nat := if i < 0 then (i + n).toNat else min i.toNat n
def cut {α : Type} (l : List α) (a b : Option Int) : List α :=
  let lo := match a with | none => 0 | some i => clip l.length i
  let hi := match b with | none => l.length | some i => clip l.length i
  (l.drop lo).take (hi - lo)
@[simp] def oSl (v : Val) (a b : Option Int) : Option Val := match v with
  | (_, .str s) => some (.fr, .str (cut s a b))
  | (m, .lst l) => mkL m (cut l a b)
  | _ => none
/-- a bound of a slice: left out, or an int -/
@[simp] def partI (c : Option Ex) (η : Env) : Option (Option Int) := match c with
  | none => some none
  | some e => (e η).bind fun y => (int? y.2).map some
@[simp] def eSl (a : Ex) (lo hi : Option Ex) (η : Env) : Option Val := (a η).bind fun x => (partI lo η).bind fun l => (partI hi η).bind fun h => oSl x l h

/-! ### built-in functions -/
@[simp] def lenT : T → Option Nat
  | .lst l => some l.length
  | .tup l => some l.length
  | .str l => some l.length
  | .scr l => some l.length
  | .dct 0 l => some l.length
  | _ => none
@[simp] def bLen : List Val → Option Val
  | [x] => (lenT x.2).map fun n => (.fr, .int n)
  | _ => none
@[simp] def bMin2 : List Val → Option Val
  | [(_, .int i), (_, .int j)] => some (.fr, .int (if j < i then j else i))
  | _ => none
@[simp] def bMax2 : List Val → Option Val
  | [(_, .int i), (_, .int j)] => some (.fr, .int (if j > i then j else i))
  | _ => none
def ints? : List T → Option (List Int)
  | [] => some []
  | .int i :: r => (ints? r).map (i :: ·)
  | _ => none
def strs? : List T → Option (List Tx)
  | [] => some []
  | .str i :: r => (strs? r).map (i :: ·)
  | _ => none
def bools? : List T → Option (List Bool)
  | [] => some []
  | .bl i :: r => (bools? r).map (i :: ·)
  | _ => none
def bMax : List Val → Option Val
  | [(_, .lst l)] => (ints? l).bind fun
    | [] => none
    | i :: r => some (.fr, .int (r.foldl (fun a b => if b > a then b else a) i))
  | _ => none
def bMin : List Val → Option Val
  | [(_, .lst l)] => (ints? l).bind fun
    | [] => none
    | i :: r => some (.fr, .int (r.foldl (fun a b => if b < a then b else a) i))
  | _ => none
def bSum : List Val → Option Val
  | [(_, .lst l)] => (ints? l).bind fun is => some (.fr, .int is.sum)
  | _ => none
def bAll : List Val → Option Val
  | [(_, .lst l)] => (bools? l).bind fun bs => some (.fr, .bl (bs.all id))
  | _ => none
def bAny : List Val → Option Val
  | [(_, .lst l)] => (bools? l).bind fun bs => some (.fr, .bl (bs.any id))
  | _ => none
/-- the members that a walk of it meets -/
@[simp] def membs : T → Option (List T)
  | .lst l => some l
  | .tup l => some l
  | .scr l => some (l.map T.int)
  | .str l => some (l.map fun c => T.str [c])
  | .dct _ l => some (l.map (·.1))
  | _ => none
@[simp] def bList : List Val → Option Val
  | [(m, .lst l)] => mkL m l
  | [(m, .tup l)] => mkL m l
  | _ => none
def bTuple : List Val → Option Val
  | [(m, t)] => (membs t).bind fun l => if l.length ≤ LINE then some (up m (.tup l)) else none
  | _ => none
/-- tuple of a list -/
def bTupleL : List Val → Option Val
  | [(m, .lst l)] => if l.length ≤ LINE then some (up m (.tup l)) else none
  | _ => none
def insTx (x : Tx) : List Tx → List Tx
  | [] => [x]
  | y :: r => if ltx y x then y :: insTx x r else x :: y :: r
def sortTx (l : List Tx) : List Tx := l.foldr insTx []
def insInt (x : Int) : List Int → List Int
  | [] => [x]
  | y :: r => if y < x then y :: insInt x r else x :: y :: r
def sortInt (l : List Int) : List Int := l.foldr insInt []
/-- sorted: of texts, of ints -/
def bSorted : List Val → Option Val
  | [(_, t)] => (membs t).bind fun l => match strs? l with
    | some ss => some (.fr, .lst ((sortTx ss).map .str))
    | none => (ints? l).map fun is => (.fr, .lst ((sortInt is).map .int))
  | _ => none
def dedup : List Tx → List Tx
  | [] => []
  | x :: r => x :: (dedup r).filter (· ≠ x)
/-- sorted(set(..)) of texts -/
def bSortedSet : List Val → Option Val
  | [(_, t)] => (membs t).bind fun l => (strs? l).map fun ss => (.fr, .lst ((sortTx (dedup ss)).map .str))
  | _ => none
inductive Ty where | int | str | bool | list | tuple | dict
@[simp] def isTy : Ty → T → Bool
  | .int, .int _ => true
  | .int, .bl _ => true
  | .bool, .bl _ => true
  | .str, .str _ => true
  | .list, .lst _ => true
  | .tuple, .tup _ => true
  | .dict, .dct _ _ => true
  | _, _ => false
@[simp] def knownTy : T → Bool
  | .obj _ _ => false
  | .scr _ => false
  | _ => true
@[simp] def eIs (t : Ty) (a : Ex) (η : Env) : Option Val := (a η).bind fun x => if knownTy x.2 then some (.fr, .bl (isTy t x.2)) else none

/-! ### methods that change nothing -/
def total : List Tx → Nat
  | [] => 0
  | x :: r => x.length + total r
def joinTx (sep : Tx) : List Tx → Tx
  | [] => []
  | [x] => x
  | x :: r => x ++ sep ++ joinTx sep r
def mJoin : Val → List Val → Option Val
  | (_, .str sep), [(_, .lst l)] => (strs? l).bind fun ss => if total ss + ss.length * sep.length ≤ LINE then some (.fr, .str (joinTx sep ss)) else none
  | _, _ => none
def mEnds : Val → List Val → Option Val
  | (_, .str s), [(_, .str t)] => some (.fr, .bl (t.isSuffixOf s))
  | _, _ => none
def mStarts : Val → List Val → Option Val
  | (_, .str s), [(_, .str t)] => some (.fr, .bl (t.isPrefixOf s))
  | _, _ => none
def mGet : Val → List Val → Option Val
  | (m, .dct _ l), [k] => some (match dget l k.2 with | some v => sub m v | none => (.fr, .non))
  | (m, .dct _ l), [k, d] => some (match dget l k.2 with | some v => sub m v | none => d)
  | _, _ => none
@[simp] def eM (f : Val → List Val → Option Val) (o : Ex) (as : Exs) (η : Env) : Option Val := (o η).bind fun x => (as η).bind fun xs => f x xs

/-! ### calls of the text's own defs -/
abbrev Fn := List T → Option Val
@[simp] def eCall (g : Fn) (as : Exs) (η : Env) : Option Val := (as η).bind fun xs => (g (trees xs)).bind fun r => match r with
  | (.fr, t) => some (.fr, t)
  | (_, t) => some ((Md.pu).join (joins xs), t)

/-! ### what is walked -/
abbrev Its := Env → Option (Md × List T)
@[simp] def seqI : Val → Option (Md × List T)
  | (m, .lst l) => some (m, l)
  | (m, .tup l) => some (m, l)
  | (_, .str l) => some (.fr, l.map fun c => .str [c])
  | _ => none
@[simp] def iVal (a : Ex) (η : Env) : Option (Md × List T) := (a η).bind seqI
def rng (lo : Int) (n : Nat) : List T := (List.range n).map fun (k : Nat) => T.int (lo + k)
def iRange1 (a : Ex) (η : Env) : Option (Md × List T) := (a η).bind fun x => (int? x.2).bind fun j => if -B62 ≤ j ∧ j < B62 then some (.fr, rng 0 j.toNat) else none
def iRange2 (a b : Ex) (η : Env) : Option (Md × List T) := (a η).bind fun x => (b η).bind fun y => (int? x.2).bind fun i => (int? y.2).bind fun j =>
  if (-B62 ≤ i ∧ i < B62) ∧ -B62 ≤ j ∧ j < B62 then some (.fr, rng i (j - i).toNat) else none
def enumT (k : Nat) : List T → List T
  | [] => []
  | t :: r => .tup [.int k, t] :: enumT (k + 1) r
@[simp] def enumI : Val → Option (Md × List T)
  | (m, .lst l) => some (m, enumT 0 l)
  | _ => none
@[simp] def iEnum (a : Ex) (η : Env) : Option (Md × List T) := (a η).bind enumI
def iItems (a : Ex) (η : Env) : Option (Md × List T) := (a η).bind fun x => match x.2 with
  | .dct _ l => some (x.1, l.map fun p => .tup [p.1, p.2])
  | _ => none
abbrev Tg := T → Env → Option Env
@[simp] def gVar (i : Nat) (t : T) (η : Env) : Option Env := if i < η.length then some (η.set i (some (.pu t))) else none
@[simp] def gAll : List Tg → List T → Env → Option Env
  | [], [], η => some η
  | g :: gs, t :: ts, η => (g t η).bind fun η' => gAll gs ts η'
  | _, _, _ => none
@[simp] def gTup (gs : List Tg) (t : T) (η : Env) : Option Env := match t with
  | .tup l => gAll gs l η
  | _ => none
/-- what a walk may hand out -/
@[simp] def okI (m : Md) (l : List T) : Bool := match m with
  | .bo => imms l
  | _ => true
def compL (tg : Tg) (cond : Option Ex) (elt : Ex) (η : Env) : List T → Option (List Val)
  | [] => some []
  | t :: r => (tg t η).bind fun η' => (match cond with | none => some true | some c => (c η').bind fun x => tru x.2).bind fun b =>
    if b then (elt η').bind fun v => (compL tg cond elt η r).map (v :: ·) else compL tg cond elt η r
/-- [elt for tg in it if cond]: k names of its own ahead of the def's -/
def eComp (k : Nat) (tg : Tg) (it : Its) (cond : Option Ex) (elt : Ex) (η : Env) : Option Val := (it η).bind fun (m, l) => if okI m l then
  (compL tg cond elt (List.replicate k none ++ η) l).bind fun vs => mkL (joins vs) (trees vs) else none

/-! ### statements -/
@[simp] def sNil (η : Env) : Option Out := some (.nx η)
@[simp] def sCons (a b : Sx) (η : Env) : Option Out := (a η).bind fun o => match o with
  | .nx η' => b η'
  | o => some o
@[simp] def sSet (i : Nat) (e : Ex) (η : Env) : Option Out := (e η).bind fun v => (cellOf v).bind fun c => if i < η.length then some (.nx (η.set i (some c))) else none
/-- a name whose thing the def never changes -/
@[simp] def sSetP (i : Nat) (e : Ex) (η : Env) : Option Out := (e η).bind fun v => match v.1 with
  | .bo => none
  | _ => if i < η.length then some (.nx (η.set i (some (.pu v.2)))) else none
@[simp] def sRet (e : Ex) (η : Env) : Option Out := (e η).bind fun v => some (.rt (match v.1 with | .bo => .pu | m => m, v.2) η)
/-- return x, x a list of the def's own -/
@[simp] def sRetV (i : Nat) (η : Env) : Option Out := match η[i]? with
  | some (some (.ow t)) => some (.rt (.fr, t) (η.set i none))
  | some (some (.pu t)) => some (.rt (up .pu t) η)
  | _ => none
@[simp] def sRetN (η : Env) : Option Out := some (.rt (.fr, .non) η)
@[simp] def sBrk (η : Env) : Option Out := some (.bk η)
@[simp] def sCont (η : Env) : Option Out := some (.ct η)
@[simp] def sIf (c : Ex) (a b : Sx) (η : Env) : Option Out := (c η).bind fun x => (tru x.2).bind fun t => if t then a η else b η
def forL (tg : Tg) (body : Sx) : List T → Env → Option Out
  | [], η => some (.nx η)
  | t :: r, η => (tg t η).bind fun η1 => (body η1).bind fun o => match o with
    | .nx η2 => forL tg body r η2
    | .ct η2 => forL tg body r η2
    | .bk η2 => some (.nx η2)
    | .rt v η2 => some (.rt v η2)
@[simp] def okF : Md → Bool
  | .bo => false
  | _ => true
@[simp] def sFor (tg : Tg) (it : Its) (body : Sx) (η : Env) : Option Out := (it η).bind fun (m, l) => if okF m then forL tg body l η else none
def whileL (c : Ex) (body : Sx) : Nat → Env → Option Out
  | 0, _ => none
  | n + 1, η => (c η).bind fun x => (tru x.2).bind fun t => if t then (body η).bind fun o => match o with
    | .nx η2 => whileL c body n η2
    | .ct η2 => whileL c body n η2
    | .bk η2 => some (.nx η2)
    | .rt v η2 => some (.rt v η2)
    else some (.nx η)
def FUEL : Nat := 1000000
def sWhile (c : Ex) (body : Sx) (η : Env) : Option Out := whileL c body FUEL η
/-- a list of the def's own is changed no more -/
@[simp] def sFrz (i : Nat) (η : Env) : Option Out := match η[i]? with
  | some (some (.ow t)) => some (.nx (η.set i (some (.pu t))))
  | some (some (.pu _)) => some (.nx η)
  | _ => none

/-! ### changes -/
inductive Stp where | fld (k : Nat) | ix (e : Ex)
inductive Ky where | fld (k : Nat) | at (t : T)
@[simp] def keys : List Stp → Env → Option (List Ky)
  | [], _ => some []
  | .fld k :: r, η => (keys r η).map (.fld k :: ·)
  | .ix e :: r, η => (e η).bind fun x => (keys r η).map (.at x.2 :: ·)
def fget (fs : List (Nat × T)) (k : Nat) : Option T := fs.lookup k
def fput (fs : List (Nat × T)) (k : Nat) (v : T) : List (Nat × T) := if fs.any (fun p => p.1 == k) then fs.map (fun p => if p.1 == k then (p.1, v) else p) else fs ++ [(k, v)]
/-- at the end of a way into a tree -/
@[simp] def pmod {α : Type} (f : T → Option (T × α)) : List Ky → T → Option (T × α)
  | [], t => f t
  | .fld k :: r, .obj c fs => (fget fs k).bind fun x => (pmod f r x).map fun (y, a) => (.obj c (fput fs k y), a)
  | .at (.int i) :: r, .lst l => (ixP l.length i).bind fun j => (l[j]?).bind fun x => (pmod f r x).map fun (y, a) => (.lst (l.set j y), a)
  | .at k :: r, .dct d l => (dget l k).bind fun x => (pmod f r x).map fun (y, a) => (.dct d (dput l k y), a)
  | _, _ => none
abbrev Xx := Env → Option (Val × Env)
@[simp] def xP (e : Ex) (η : Env) : Option (Val × Env) := (e η).map fun v => (v, η)
/-- i.way.m(args) -/
@[simp] def xMut (i : Nat) (way : List Stp) (f : T → List Val → Option (T × Val)) (as : Exs) (η : Env) : Option (Val × Env) := match η[i]? with
  | some (some (.ow t)) => (keys way η).bind fun ks => (as η).bind fun xs => (pmod (fun x => f x xs) ks t).map fun (t', v) => (v, η.set i (some (.ow t')))
  | _ => none
@[simp] def fit (v : Val) : Option T := match v.1 with
  | .fr => some v.2
  | _ => none
def mAppend : T → List Val → Option (T × Val)
  | .lst l, [v] => (fit v).bind fun t => if l.length < LINE then some (.lst (l ++ [t]), (.fr, .non)) else none
  | _, _ => none
def mExtend : T → List Val → Option (T × Val)
  | .lst l, [v] => (fit v).bind fun t => match t with
    | .lst r => if l.length + r.length ≤ LINE then some (.lst (l ++ r), (.fr, .non)) else none
    | _ => none
  | _, _ => none
def mClear : T → List Val → Option (T × Val)
  | .lst _, [] => some (.lst [], (.fr, .non))
  | _, _ => none
def mPop : T → List Val → Option (T × Val)
  | .lst l, [] => (l.getLast?).map fun x => (.lst l.dropLast, (.fr, x))
  | .lst l, [(_, .int i)] => (ixP l.length i).bind fun k => (l[k]?).map fun x => (.lst (l.eraseIdx k), (.fr, x))
  | _, _ => none
def mInsert : T → List Val → Option (T × Val)
  | .lst l, [(_, .int i), v] => (fit v).bind fun t => if l.length < LINE then (let k := clip l.length i; some (.lst (l.take k ++ t :: l.drop k), (.fr, .non))) else none
  | _, _ => none
/-- d.setdefault(k, []).append(v) -/
def mSetApp : T → List Val → Option (T × Val)
  | .dct d l, [k, v] => if keyOk d k.2 then (fit v).bind fun t => match dget l k.2 with
    | none => if l.length < LINE then some (.dct d (l ++ [(k.2, .lst [t])]), (.fr, .non)) else none
    | some (.lst r) => if r.length < LINE then some (.dct d (dput l k.2 (.lst (r ++ [t]))), (.fr, .non)) else none
    | _ => none else none
  | _, _ => none
def mSetItem : T → List Val → Option (T × Val)
  | .lst l, [(_, .int i), v] => (fit v).bind fun t => (ixP l.length i).map fun k => (.lst (l.set k t), (.fr, .non))
  | .dct d l, [k, v] => if keyOk d k.2 then (fit v).bind fun t => if l.length < LINE then some (.dct d (dput l k.2 t), (.fr, .non)) else none else none
  | _, _ => none
@[simp] def sX (x : Xx) (η : Env) : Option Out := (x η).map fun r => .nx r.2
@[simp] def sSetX (i : Nat) (x : Xx) (η : Env) : Option Out := (x η).bind fun (v, η') => (cellOf v).bind fun c => if i < η'.length then some (.nx (η'.set i (some c))) else none
@[simp] def sRetX (x : Xx) (η : Env) : Option Out := (x η).bind fun (v, η') => some (.rt (match v.1 with | .bo => .pu | m => m, v.2) η')
/-- i.way[k] = e -/
def sPut (i : Nat) (way : List Stp) (k : Ex) (e : Xx) (η : Env) : Option Out := (e η).bind fun (v, η') => match η'[i]? with
  | some (some (.ow t)) => (keys way η').bind fun ks => (k η').bind fun kv => (pmod (fun x => mSetItem x [kv, v]) ks t).map fun (t', _) => .nx (η'.set i (some (.ow t')))
  | _ => none

/-- a def: the parameters' values, then room for the other names -/
@[simp] def fn (np nn : Nat) (body : Sx) : Fn := fun ts => if ts.length = np then
  (body (ts.map (fun t => some (.pu t)) ++ List.replicate (nn - np) none)).bind fun o => match o with
    | .rt v _ => some v
    | .nx _ => some (.fr, .non)
    | _ => none else none

/-! ### reckoning -/
@[simp] theorem oAdd_int {m n : Md} {i j : Int} : oAdd (m, .int i) (n, .int j) = some (.fr, .int (i + j)) := rfl
theorem oAdd_str {m n : Md} {s t : Tx} (h : s.length + t.length ≤ 16777216) : oAdd (m, .str s) (n, .str t) = some (.fr, .str (s ++ t)) := if_pos h
theorem oMul_l {m n : Md} {i j : Int} (h : -18446744073709551616 < i ∧ i < 18446744073709551616) : oMul (m, .int i) (n, .int j) = some (.fr, .int (i * j)) := if_pos (.inl h)
theorem oFdiv_ok {m n : Md} {i j : Int} (h : 0 < j ∧ j < 1073741824) : oFdiv (m, .int i) (n, .int j) = some (.fr, .int (i / j)) := if_pos h
theorem oMod_ok {m n : Md} {i j : Int} (h : 0 < j) : oMod (m, .int i) (n, .int j) = some (.fr, .int (i % j)) := if_pos h
theorem mAppend_ok {l : List T} {t : T} (h : l.length < 16777216) : mAppend (.lst l) [(.fr, t)] = some (.lst (l ++ [t]), (.fr, .non)) := by
  simp only [mAppend, fit, Option.bind_some]
  exact if_pos h
theorem mExtend_ok {l r : List T} (h : l.length + r.length ≤ 16777216) : mExtend (.lst l) [(.fr, .lst r)] = some (.lst (l ++ r), (.fr, .non)) := by
  simp only [mExtend, fit, Option.bind_some]
  exact if_pos h
theorem iRange1_ok {a : Ex} {η : Env} {m : Md} {j : Int} (e : a η = some (m, .int j)) (h : -4611686018427387904 ≤ j ∧ j < 4611686018427387904) : iRange1 a η = some (.fr, rng 0 j.toNat) := by
  simp only [iRange1, e, Option.bind_some, int?]
  exact if_pos h
theorem mkL_ok {m : Md} {l : List T} (h : l.length ≤ 16777216) : mkL m l = some (if imms l then .fr else m, .lst l) := if_pos h
theorem forL_nx {tg : Tg} {body : Sx} {t : T} {r : List T} {η η1 η2 : Env} (h1 : tg t η = some η1) (h2 : body η1 = some (.nx η2)) : forL tg body (t :: r) η = forL tg body r η2 := by
  simp [forL, h1, h2]
theorem forL_rt {tg : Tg} {body : Sx} {t : T} {r : List T} {η η1 η2 : Env} {v : Val} (h1 : tg t η = some η1) (h2 : body η1 = some (.rt v η2)) : forL tg body (t :: r) η = some (.rt v η2) := by
  simp [forL, h1, h2]
theorem strs_map {α : Type} (f : α → Tx) : ∀ l : List α, strs? (l.map fun x => T.str (f x)) = some (l.map f)
  | [] => rfl
  | a :: r => by simp [strs?, strs_map f r]
theorem ints_map {α : Type} (f : α → Int) : ∀ l : List α, ints? (l.map fun x => T.int (f x)) = some (l.map f)
  | [] => rfl
  | a :: r => by simp [ints?, ints_map f r]
theorem bools_map {α : Type} (f : α → Bool) : ∀ l : List α, bools? (l.map fun x => T.bl (f x)) = some (l.map f)
  | [] => rfl
  | a :: r => by simp [bools?, bools_map f r]
theorem joinTx_nil : ∀ ss : List Tx, joinTx [] ss = ss.flatten
  | [] => rfl
  | [x] => by simp [joinTx]
  | x :: y :: r => by
    have := joinTx_nil (y :: r)
    simp [joinTx] at this ⊢
    exact this
theorem total_flat : ∀ ss : List Tx, total ss = ss.flatten.length
  | [] => rfl
  | x :: r => by simp [total, total_flat r]
theorem mJoin_nil {m n : Md} {l : List T} {ss : List Tx} (e : strs? l = some ss) (h1 : ss.flatten.length ≤ 16777216) : mJoin (m, .str []) [(n, .lst l)] = some (.fr, .str ss.flatten) := by
  simp only [mJoin, Option.bind_some, e, joinTx_nil]
  refine if_pos ?_
  rw [total_flat]
  show _ ≤ 16777216
  simpa using h1
theorem flat_singles {α : Type} (l : List α) : (l.map fun x => [x]).flatten = l := by
  induction l with
  | nil => rfl
  | cons a r ih => rw [List.map_cons, List.flatten_cons, ih]; rfl
theorem rng_zero (n : Nat) : rng 0 n = (List.range n).map fun (k : Nat) => T.int (k : Int) := by
  unfold rng
  simp
theorem imms_map {α : Type} (f : α → T) (h : ∀ x, imm (f x) = true) : ∀ l : List α, imms (l.map f) = true
  | [] => rfl
  | a :: r => by simp [h, imms_map f h r]
theorem compL_map {α : Type} {tg : Tg} {elt : Ex} {η : Env} (g : α → T) (f : α → Val) : ∀ l : List α, (∀ a ∈ l, ∃ η', tg (g a) η = some η' ∧ elt η' = some (f a)) → compL tg none elt η (l.map g) = some (l.map f)
  | [], _ => rfl
  | a :: r, h => by
    obtain ⟨η', h1, h2⟩ := h a List.mem_cons_self
    simp [compL, h1, h2, compL_map g f r fun b hb => h b (List.mem_cons_of_mem _ hb)]
theorem compL_filter {α : Type} {tg : Tg} {c elt : Ex} {η : Env} (g : α → T) (p : α → Bool) (f : α → Val) : ∀ l : List α, (∀ a ∈ l, ∃ η' x, tg (g a) η = some η' ∧ c η' = some x ∧ tru x.2 = some (p a) ∧ (p a = true → elt η' = some (f a))) →
    compL tg (some c) elt η (l.map g) = some ((l.filter p).map f)
  | [], _ => rfl
  | a :: r, h => by
    obtain ⟨η', x, h1, h2, h3, h4⟩ := h a List.mem_cons_self
    have ih := compL_filter (c := c) g p f r fun b hb => h b (List.mem_cons_of_mem _ hb)
    cases e : p a with
    | true => simp [-tru, compL, h1, h2, h3, e, h4 e, ih]
    | false => simp [-tru, compL, h1, h2, h3, e, ih]
theorem joins_fr {α : Type} (f : α → T) : ∀ l : List α, joins (l.map fun a => (Md.fr, f a)) = .fr
  | [] => rfl
  | a :: r => by simp [joins_fr f r]
theorem trees_map {α : Type} (f : α → Val) (l : List α) : trees (l.map f) = l.map fun a => (f a).2 := by simp
/-- [elt for tg in it] of new or immutable things -/
theorem eComp_map {α : Type} {k : Nat} {tg : Tg} {it : Its} {elt : Ex} {η : Env} {m : Md} (g : α → T) (f : α → T) (l : List α) (hi : it η = some (m, l.map g)) (hk : okI m (l.map g) = true) (hl : l.length ≤ 16777216)
    (h : ∀ a ∈ l, ∃ η', tg (g a) (List.replicate k none ++ η) = some η' ∧ elt η' = some (.fr, f a)) : eComp k tg it none elt η = some (.fr, .lst (l.map f)) := by
  simp only [eComp, hi, Option.bind_some]
  rw [if_pos hk, compL_map g (fun a => (Md.fr, f a)) l h]
  simp only [Option.bind_some, joins_fr, trees_map]
  rw [mkL_ok (by rw [List.length_map]; exact hl)]
  simp
theorem eComp_filter {α : Type} {k : Nat} {tg : Tg} {it : Its} {c elt : Ex} {η : Env} {m : Md} (g : α → T) (p : α → Bool) (f : α → T) (l : List α) (hi : it η = some (m, l.map g)) (hk : okI m (l.map g) = true) (hl : l.length ≤ 16777216)
    (h : ∀ a ∈ l, ∃ η' x, tg (g a) (List.replicate k none ++ η) = some η' ∧ c η' = some x ∧ tru x.2 = some (p a) ∧ (p a = true → elt η' = some (.fr, f a))) : eComp k tg it (some c) elt η = some (.fr, .lst ((l.filter p).map f)) := by
  simp only [eComp, hi, Option.bind_some]
  rw [if_pos hk, compL_filter g p (fun a => (Md.fr, f a)) l h]
  simp only [Option.bind_some, joins_fr, trees_map]
  rw [mkL_ok (by rw [List.length_map]; exact Nat.le_trans (List.length_filter_le _ _) hl)]
  simp
theorem idx_at {α : Type} {m n : Md} (f : α → T) (l : List α) (i : Int) (d : α) (h0 : 0 ≤ i) (h1 : i < l.length) (hi : imm (f (l.getD i.toNat d)) = true) : oIdx (m, .lst (l.map f)) (n, .int i) = some (.fr, f (l.getD i.toNat d)) := by
  have b2 : i.toNat < l.length := by omega
  simp only [List.getD_eq_getElem?_getD, List.getElem?_eq_getElem b2, Option.getD_some] at hi ⊢
  simp [ixP, h0, h1, b2, hi]
theorem tupOf_ok {l : List Val} (h : l.length ≤ 16777216) : tupOf l = some (up (joins l) (.tup (trees l))) := if_pos h
end VS

-- CHANGE: your row's module here, as the last of these rows
set_option Elab.async false
set_option linter.all false
set_option maxRecDepth 100000
/-! THE HAND LAYER, for ints, bools, texts, own classes, LISTS and tuples (index, slices, in, append, pop ..), calls, loops. Paste it whole ahead of your own text; what your proof does not reach may be deleted. -/
namespace L2
open PySem PySem.Spec PyProof.Rows

/-- a key: an int or a str -/
abbrev Key := Sum Int Str
def keyIs : Key → Value → Bool
  | .inl k, v => Value.isInt k v
  | .inr x, v => Value.isStrOf x v
def keyH (w : World) : Key → Int
  | .inl k => hashInt k
  | .inr x => hashStr w x
theorem keyIs_shape : ∀ {k : Key} {v : Value}, keyIs k v = true → (∃ i t, k = Sum.inl i ∧ v = Value.int i t) ∨ (∃ x t, k = Sum.inr x ∧ v = Value.str x t)
  | .inl i, v, h => by
    obtain ⟨t, e⟩ := Value.isInt_shape (k := i) (v := v) h
    exact .inl ⟨i, t, rfl, e⟩
  | .inr x, v, h => by
    obtain ⟨t, e⟩ := Value.isStrOf_shape (x := x) (v := v) h
    exact .inr ⟨x, t, rfl, e⟩
theorem keyIs_int (i : Int) (t : Tok) : keyIs (.inl i) (.int i t) = true := by simp [keyIs, Value.isInt]
theorem keyIs_str (x : Str) (t : Tok) : keyIs (.inr x) (.str x t) = true := by simp [keyIs, Value.isStrOf]
theorem key_ll (a b : Int) : decide ((Sum.inl a : Key) = Sum.inl b) = (a == b) := by
  by_cases e : a = b
  · subst e; simp
  · have h : ¬ (Sum.inl a : Key) = Sum.inl b := fun q => e (Sum.inl.inj q)
    rw [decide_eq_false h]
    exact (beq_eq_false_iff_ne.mpr e).symm
theorem key_rr (a b : Str) : decide ((Sum.inr a : Key) = Sum.inr b) = decide (a = b) := by
  by_cases e : a = b
  · subst e; simp
  · have h : ¬ (Sum.inr a : Key) = Sum.inr b := fun q => e (Sum.inr.inj q)
    rw [decide_eq_false h, decide_eq_false e]
theorem key_lr (a : Int) (b : Str) : decide ((Sum.inl a : Key) = Sum.inr b) = false := decide_eq_false (fun q => nomatch q)
theorem key_rl (a : Str) (b : Int) : decide ((Sum.inr a : Key) = Sum.inl b) = false := decide_eq_false (fun q => nomatch q)

def mixKind (prog : Program) (w : World) : PySem.KeyKind prog w Key where
  is := keyIs
  hash := keyH w
  inj := fun v a b ha hb => by
    rcases keyIs_shape ha with ⟨i, t, rfl, rfl⟩ | ⟨x, t, rfl, rfl⟩
    · rcases keyIs_shape hb with ⟨j, u, rfl, e⟩ | ⟨y, u, rfl, e⟩
      · injection e with e1 _; rw [e1]
      · exact nomatch e
    · rcases keyIs_shape hb with ⟨j, u, rfl, e⟩ | ⟨y, u, rfl, e⟩
      · exact nomatch e
      · injection e with e1 _; rw [e1]
  byValue := fun k v h => by
    rcases keyIs_shape h with ⟨i, t, rfl, rfl⟩ | ⟨x, t, rfl, rfl⟩ <;> rfl
  pyHash := fun hv h => by
    rcases keyIs_shape hv with ⟨i, t, rfl, rfl⟩ | ⟨x, t, rfl, rfl⟩
    · exact wpAny_pyHash_int h
    · exact wpAny_pyHash_str h
  eqBool := fun hu hv h => by
    rcases keyIs_shape hu with ⟨i, t, rfl, rfl⟩ | ⟨x, t, rfl, rfl⟩
    · rcases keyIs_shape hv with ⟨j, u, rfl, rfl⟩ | ⟨y, u, rfl, rfl⟩
      · rw [key_ll] at h; exact wpAny_eqBool_int h
      · rw [key_lr] at h; exact SeqAt.EqAt.int_str i t y u _ _ _ _ h
    · rcases keyIs_shape hv with ⟨j, u, rfl, rfl⟩ | ⟨y, u, rfl, rfl⟩
      · rw [key_rl] at h; exact SeqAt.EqAt.str_int x t j u _ _ _ _ h
      · rw [key_rr] at h; exact wpAny_eqBool_str h
  «strs» := fun k x t v h => by
    rcases keyIs_shape h with ⟨i, u, rfl, e⟩ | ⟨y, u, rfl, e⟩
    · exact nomatch e
    · injection e with e1 _
      subst e1
      cases v <;> rfl

theorem mixKind_is (prog : Program) (w : World) (k : Key) (v : Value) : (mixKind prog w).is k v = keyIs k v := rfl
theorem mixKind_int (prog : Program) (w : World) (i : Int) (t : Tok) : (mixKind prog w).is (.inl i) (.int i t) = true := keyIs_int i t
theorem mixKind_str (prog : Program) (w : World) (x : Str) (t : Tok) : (mixKind prog w).is (.inr x) (.str x t) = true := keyIs_str x t
end L2

namespace L2
open PySem PySem.Spec PyProof.Rows

/-- a value, without the heap -/
inductive V where
  | non | bl (b : Bool) | int (i : Int) | str (x : Str) | byt (b : Array UInt8) | flt (b : UInt64) | ref (a : Addr) | ty (n : String)
  deriving DecidableEq

def RelV : V → Value → Prop
  | .non, u => u = Value.none
  | .bl b, u => u = Value.bool b
  | .int i, u => ∃ t, u = Value.int i t
  | .str x, u => ∃ t, u = Value.str x t
  | .byt b, u => ∃ t, u = Value.bytes b t
  | .flt b, u => ∃ t, u = Value.float b t
  | .ref a, u => u = Value.ref a
  | .ty n, u => u = Value.type n

abbrev Vals : List V → List Value → Prop := Paired RelV
theorem Vals.length {xs : List V} {us : List Value} (r : Vals xs us) : xs.length = us.length := Paired.length r
theorem Vals.get : ∀ {xs : List V} {us : List Value} {i : Nat} {x : V}, Vals xs us → xs[i]? = some x → ∃ u, us[i]? = some u ∧ RelV x u
  | _, _, _, _, .nil, e => by simp at e
  | _, _, 0, _, .cons r _, e => by simp at e; subst e; exact ⟨_, rfl, r⟩
  | _, _, i + 1, x, .cons _ t, e => by
    obtain ⟨u, h1, h2⟩ := Vals.get (i := i) (x := x) t (by simpa using e)
    exact ⟨u, by simpa using h1, h2⟩
theorem Vals.set {x : V} {u : Value} (r : RelV x u) : ∀ {xs : List V} {us : List Value} (i : Nat), Vals xs us → Vals (xs.set i x) (us.set i u)
  | _, _, _, .nil => .nil
  | _, _, 0, .cons _ t => .cons r t
  | _, _, i + 1, .cons q t => .cons q (Vals.set r i t)
theorem Vals.append : ∀ {xs ys : List V} {us ws : List Value}, Vals xs us → Vals ys ws → Vals (xs ++ ys) (us ++ ws)
  | _, _, _, _, .nil, s => s
  | _, _, _, _, .cons r t, s => .cons r (Vals.append t s)
theorem Vals.take : ∀ {xs : List V} {us : List Value} (n : Nat), Vals xs us → Vals (xs.take n) (us.take n)
  | _, _, 0, _ => .nil
  | _, _, _ + 1, .nil => .nil
  | _, _, n + 1, .cons r t => .cons r (Vals.take n t)
theorem Vals.drop : ∀ {xs : List V} {us : List Value} (n : Nat), Vals xs us → Vals (xs.drop n) (us.drop n)
  | _, _, 0, r => r
  | _, _, _ + 1, .nil => .nil
  | _, _, n + 1, .cons _ t => Vals.drop n t
theorem Vals.none_of : ∀ {xs : List V} {us : List Value} {i : Nat}, Vals xs us → xs[i]? = none → us[i]? = none := fun {xs us i} r e => by
  have h1 := r.length
  have h2 : xs.length ≤ i := List.getElem?_eq_none_iff.mp e
  exact List.getElem?_eq_none_iff.mpr (by omega)

def RelO : Option V → Option Value → Prop
  | some v, some u => RelV v u
  | none, none => True
  | _, _ => False
def KV {κ : Type} : List (κ × V) → List (κ × Value) → Prop := Paired fun (p : κ × V) (q : κ × Value) => p.1 = q.1 ∧ RelV p.2 q.2

/-- a key of a dict (00_mix): an int or a text -/
def kV : Key → V
  | .inl i => .int i
  | .inr x => .str x

/-- what stands at a tracked address -/
inductive HO where
  /-- a list -/
  | lst (xs : List V)
  /-- a tuple (never changes) -/
  | tup (xs : List V)
  /-- a dict whose keys are ints and texts; one whose keys are tuples of ints and texts (the empty one is both) -/
  | dK (kvs : List (Key × V)) | dT (kvs : List (List Key × V))
  /-- a set of ints: its members, its size -/
  | set (S : Int → Bool) (n : Nat)
  /-- an instance of the class at C, its dict at dx, its attributes -/
  | ins (C dx : Addr) (fs : List (Str × V))
  /-- the dict of the instance at x -/
  | own (x : Addr)
  /-- the dict of an exception -/
  | xd (fs : List (Str × V))
  /-- a bound method, f of x -/
  | met (f x : Addr)
  /-- a range object lo, lo + 1, .. below hi -/
  | rng (lo hi : Int)
  /-- a thing that is known to the object (the script; a dict while a loop walks it): read, never written while it is so -/
  | frz (o : Obj) (u : HO)
  /-- a code object's table -/
  | tbl (ps : Array Value)
  /-- any other thing, by what is true of its one object (a def of one's own: SetO a S n := HO.ext fun h => ..) -/
  | ext (φ : Heap → Prop)

abbrev Hp := Addr → Option HO
def upd (H : Hp) (a : Addr) (o : HO) : Hp := fun b => if b = a then some o else H b
theorem upd_same {H : Hp} {a : Addr} {o : HO} : upd H a o a = some o := by unfold upd; rw [if_pos rfl]
theorem upd_ne {H : Hp} {a b : Addr} {o : HO} (h : b ≠ a) : upd H a o b = H b := by unfold upd; rw [if_neg h]
theorem upd_upd {H : Hp} {a : Addr} {o u : HO} : upd (upd H a o) a u = upd H a u := by
  funext b; unfold upd; split <;> rfl
/-- two objects of different content stand apart -/
theorem ne_of {H : Hp} {a b : Addr} {o u : HO} (h : H a = some o) (h' : H b = some u) (d : o ≠ u) : a ≠ b := by
  intro e; subst e; rw [h] at h'; exact d (Option.some.inj h')
theorem ne_of_none {H : Hp} {a b : Addr} {o : HO} (h : H a = some o) (h' : H b = none) : a ≠ b := by
  intro e; subst e; rw [h] at h'; cases h'

section
variable (P : Program) (w : World)
def ObjOk (H : Hp) (h : Heap) (a : Addr) : HO → Prop
  | .lst xs => xs.length ≤ sizeLine ∧ ∃ (its : List Value) (n : Nat), Vals xs its ∧ h.get? a = some { cls := .type "list", data := .seq its.toArray n }
  | .tup xs => xs.length ≤ sizeLine ∧ ∃ its : List Value, Vals xs its ∧ IsTup h a its.toArray
  | .dK kvs => kvs.length ≤ sizeLine ∧ (a == sysModules) = false ∧ ∃ vs, KV kvs vs ∧ h.DictOf (mixKind P w) a vs
  | .dT kvs => kvs.length ≤ sizeLine ∧ (a == sysModules) = false ∧ ∃ xs : List (List Key × Addr × Value),
      Paired (fun (p : List Key × V) (q : List Key × Addr × Value) => p.1 = q.1 ∧ H q.2.1 = some (.tup (p.1.map kV)) ∧ RelV p.2 q.2.2) kvs xs ∧
      ∃ o es ep, h.get? a = some o ∧ o.ExactDict ∧ o.data = .dict es ep ∧ es.toList = xs.map (entryOfKey (tupleKind (mixKind P w))) ∧ (xs.map (·.1)).Nodup
  | .set S n => h.SetOf (intKind P w) a S n
  | .ins C dx fs => H dx = some (.own a) ∧ fs.length ≤ 1000 ∧ dx ≠ a ∧ h.get? a = some (PySem.W.instObj C dx) ∧
      ∃ mA, h.Ns1 dx mA ∧ (∀ f, RelO (fs.lookup f) (mA f)) ∧ PySem.Within mA (fs.map (·.1))
  | .own _ => ∃ o, h.get? a = some o
  | .xd fs => ∃ mA, h.Ns1 a mA ∧ ∀ f, RelO (fs.lookup f) (mA f)
  | .rng lo hi => ∃ t u v, h.get? a = some { cls := .type "range", data := .fields #[.int lo t, .int hi u, .int 1 v] }
  | .frz o u => h.get? a = some o ∧ ObjOk H h a u
  | .tbl ps => h.get? a = some { cls := .none, data := .fields ps }
  | .met f x => h.get? a = some (PySem.W.methodObj (.ref f) (.ref x))
  | .ext φ => φ h ∧ (∃ o, h.get? a = some o) ∧ ∀ h1 h2 : Heap, φ h1 → (∀ o, h1.get? a = some o → h2.get? a = some o) → φ h2
/-- the abstract heap is held -/
def HOk (H : Hp) (h : Heap) : Prop := ∀ a o, H a = some o → ObjOk P w H h a o
end

section
variable {P : Program} {w : World} {H H' : Hp} {h h' : Heap} {a : Addr} {o : HO}
theorem ObjOk.lt (x : ObjOk P w H h a o) : a < h.objs.size := by
  cases o with
  | lst xs => obtain ⟨_, _, _, _, e⟩ := x; exact Heap.lt_size e
  | tup xs => obtain ⟨_, _, _, p⟩ := x; exact p.lt
  | dK kvs => obtain ⟨_, _, _, _, o, _, _, e, _⟩ := x; exact Heap.lt_size e
  | dT kvs => obtain ⟨_, _, _, _, o, _, _, e, _⟩ := x; exact Heap.lt_size e
  | set S n => obtain ⟨o, _, _, _, e, _⟩ := x; exact Heap.lt_size e
  | ins C dx fs => obtain ⟨_, _, _, e, _⟩ := x; exact Heap.lt_size e
  | own y => obtain ⟨_, e⟩ := x; exact Heap.lt_size e
  | xd fs => obtain ⟨_, ⟨_, _, _, e, _⟩, _⟩ := x; exact Heap.lt_size e
  | rng lo hi => obtain ⟨_, _, _, e⟩ := x; exact Heap.lt_size e
  | frz ob u => obtain ⟨e, _⟩ := x; exact Heap.lt_size e
  | tbl ps => exact Heap.lt_size (show h.get? a = some _ from x)
  | met f y => exact Heap.lt_size (show h.get? a = some _ from x)
  | ext φ => obtain ⟨_, ⟨_, e⟩, _⟩ := x; exact Heap.lt_size e
theorem Paired.mapP {α β : Type} {F G : α → β → Prop} : ∀ {l₁ : List α} {l₂ : List β}, Paired F l₁ l₂ → (∀ a b, F a b → G a b) → Paired G l₁ l₂
  | _, _, .nil, _ => .nil
  | _, _, .cons r t, f => .cons (f _ _ r) (Paired.mapP t f)
theorem Paired.imp' {α β : Type} {F G : α → β → Prop} (f : ∀ a b, F a b → G a b) {l₁ : List α} {l₂ : List β} (r : Paired F l₁ l₂) : Paired G l₁ l₂ := Paired.mapP r f
/-- what an object's description leans on: its own object, its own dict, the tuples -/
theorem ObjOk.stay (x : ObjOk P w H h a o) (k : ∀ b u, (b = a ∨ H b = some (.own a)) → h.get? b = some u → h'.get? b = some u)
    (ho : ∀ b, H b = some (.own a) → H' b = some (.own a)) (ht : ∀ b xs, H b = some (.tup xs) → H' b = some (.tup xs)) : ObjOk P w H' h' a o := by
  induction o with
  | lst xs => obtain ⟨z, its, n, r, e⟩ := x; exact ⟨z, its, n, r, k _ _ (.inl rfl) e⟩
  | tup xs => obtain ⟨z, its, r, ob, e, c⟩ := x; exact ⟨z, its, r, ob, k _ _ (.inl rfl) e, c⟩
  | dK kvs => obtain ⟨z, y, vs, r, ob, es, ep, e, c⟩ := x; exact ⟨z, y, vs, r, ob, es, ep, k _ _ (.inl rfl) e, c⟩
  | dT kvs =>
    obtain ⟨z, y, xs, r, ob, es, ep, e, c⟩ := x
    exact ⟨z, y, xs, Paired.mapP r fun p q z => ⟨z.1, ht _ _ z.2.1, z.2.2⟩, ob, es, ep, k _ _ (.inl rfl) e, c⟩
  | set S n => obtain ⟨ob, es, ep, t, e, c⟩ := x; exact ⟨ob, es, ep, t, k _ _ (.inl rfl) e, c⟩
  | ins C dx fs =>
    obtain ⟨d, z, ne, e, mA, ⟨od, es, ep, e2, c⟩, r⟩ := x
    exact ⟨ho _ d, z, ne, k _ _ (.inl rfl) e, mA, ⟨od, es, ep, k _ _ (.inr d) e2, c⟩, r⟩
  | own y => obtain ⟨ob, e⟩ := x; exact ⟨ob, k _ _ (.inl rfl) e⟩
  | xd fs => obtain ⟨mA, ⟨od, es, ep, e, c⟩, r⟩ := x; exact ⟨mA, ⟨od, es, ep, k _ _ (.inl rfl) e, c⟩, r⟩
  | rng lo hi => obtain ⟨t, u, v, e⟩ := x; exact ⟨t, u, v, k _ _ (.inl rfl) e⟩
  | frz ob u ih => obtain ⟨e, q⟩ := x; exact ⟨k _ _ (.inl rfl) e, ih q⟩
  | tbl ps =>
    have e : h.get? a = some { cls := .none, data := .fields ps } := x
    show h'.get? a = some { cls := .none, data := .fields ps }
    exact k a _ (.inl rfl) e
  | met f y =>
    have e : h.get? a = some (PySem.W.methodObj (.ref f) (.ref y)) := x
    show h'.get? a = some (PySem.W.methodObj (.ref f) (.ref y))
    exact k a _ (.inl rfl) e
  | ext φ => obtain ⟨p, ⟨o, e⟩, st⟩ := x; exact ⟨st _ _ p fun o q => k _ _ (.inl rfl) q, ⟨o, k _ _ (.inl rfl) e⟩, st⟩
theorem HOk.lt (x : HOk P w H h) (e : H a = some o) : a < h.objs.size := (x a o e).lt
theorem HOk.fresh (x : HOk P w H h) (e : h.objs.size ≤ a) : H a = none := by
  cases q : H a with
  | none => rfl
  | some u => exact absurd (Nat.lt_of_lt_of_le (x.lt q) e) (Nat.lt_irrefl _)
/-- every object of the heap is kept -/
theorem HOk.kept (x : HOk P w H h) (k : ∀ b u, h.get? b = some u → h'.get? b = some u) : HOk P w H h' := fun a o e =>
  (x a o e).stay (fun b u _ q => k b u q) (fun _ q => q) fun _ _ q => q
/-- a new object is laid and tracked -/
theorem HOk.laid (x : HOk P w H h) (k : ∀ b u, h.get? b = some u → h'.get? b = some u) (hp : h.objs.size ≤ a) (new : ObjOk P w (upd H a o) h' a o) : HOk P w (upd H a o) h' := fun b u e => by
  have hn := x.fresh hp
  by_cases hb : b = a
  · subst hb; rw [upd_same] at e; cases e; exact new
  · rw [upd_ne hb] at e
    exact (x b u e).stay (fun c v _ q => k c v q) (fun c q => by rw [upd_ne (ne_of_none q hn)]; exact q) fun c xs q => by rw [upd_ne (ne_of_none q hn)]; exact q
end

/-- what may be read as u: it is u, or a known u -/
def Rd (H : Hp) (a : Addr) (u : HO) : Prop := H a = some u ∨ ∃ o, H a = some (.frz o u)
theorem Rd.of {H : Hp} {a : Addr} {u : HO} (h : H a = some u) : Rd H a u := .inl h
theorem Rd.ok {P : Program} {w : World} {H : Hp} {h : Heap} {a : Addr} {u : HO} (r : Rd H a u) (x : HOk P w H h) : ObjOk P w H h a u := by
  rcases r with r | ⟨o, r⟩
  · exact x a u r
  · obtain ⟨_, q⟩ := x a _ r
    exact q
/-- what may be written -/
def Mut : Option HO → Prop
  | some (.lst _) => True
  | some (.dK _) => True
  | some (.dT _) => True
  | some (.set _ _) => True
  | some (.ins _ _ _) => True
  | some (.ext _) => True
  | _ => False
section
variable {P : Program} {w : World} {H : Hp} {h h' : Heap} {x e : Addr} {o' : HO}
/-- the object at e is changed: x itself, or the dict of the instance x -/
theorem HOk.write (ok : HOk P w H h) (mu : Mut (H x)) (he : e = x ∨ H e = some (.own x)) (k : ∀ b u, b ≠ e → h.get? b = some u → h'.get? b = some u) (heo : ∃ u, h'.get? e = some u)
    (new : ObjOk P w (upd H x o') h' x o') : HOk P w (upd H x o') h' := fun b u q => by
  have nown : ∀ c y, H c = some (.own y) → c ≠ x := fun c y r z => by subst z; rw [r] at mu; exact mu
  have ntup : ∀ c xs, H c = some (.tup xs) → c ≠ x := fun c xs r z => by subst z; rw [r] at mu; exact mu
  by_cases hb : b = x
  · subst hb; rw [upd_same] at q; cases q; exact new
  · rw [upd_ne hb] at q
    by_cases hbe : b = e
    · have q' : H b = some (.own x) := by
        rcases he with z | z
        · exact absurd (hbe.trans z) hb
        · rw [hbe]; exact z
      rw [q] at q'; cases q'
      obtain ⟨v, hv⟩ := heo
      exact ⟨v, by rw [hbe]; exact hv⟩
    · refine (ok b u q).stay (fun c v hc r => k c v ?_ r) (fun c r => by rw [upd_ne (nown c b r)]; exact r) fun c xs r => by rw [upd_ne (ntup c xs r)]; exact r
      rcases hc with rfl | hc
      · exact hbe
      · rintro rfl
        rcases he with z | z
        · exact nown c b hc z
        · rw [hc] at z; cases z; exact hb rfl
end

/-! ### kept unless tracked; of the frames at fs (the callers') the slots may change (an exception that passes writes there); of the records at ex (iterators) nothing is said -/
structure Un (fs ex : List Addr) (H H' : Hp) (h h' : Heap) : Prop where
  keep : ∀ b o, h.get? b = some o → H b = none → b ∉ fs → b ∉ ex → h'.get? b = some o
  slot : ∀ b o, h.get? b = some o → H b = none → b ∈ fs → b ∉ ex → ∃ sl, h'.get? b = some { o with slots := sl }
  free : ∀ b o, h.get? b = some o → H b = none → b ∉ ex → H' b = none
  there : ∀ b o, h.get? b = some o → b ∉ ex → ∃ o', h'.get? b = some o'
  tups : ∀ b xs, H b = some (.tup xs) → H' b = some (.tup xs)
  frzs : ∀ b o u, H b = some (.frz o u) → H' b = some (.frz o u)
  tbls : ∀ b ps, H b = some (.tbl ps) → ∃ more, H' b = some (.tbl (ps ++ more))
section
variable {fs fs' ex ex' : List Addr} {H H1 H2 : Hp} {h h1 h2 h' : Heap} {a x e : Addr} {o : HO}
theorem Un.any (u : Un fs ex H H1 h h1) {b : Addr} {ob : Obj} (q : h.get? b = some ob) (n : H b = none) (hx : b ∉ ex) : ∃ sl, h1.get? b = some { ob with slots := sl } := by
  by_cases hb : b ∈ fs
  · exact u.slot b ob q n hb hx
  · exact ⟨ob.slots, u.keep b ob q n hb hx⟩
theorem Un.trans (a : Un fs ex H H1 h h1) (b : Un fs ex H1 H2 h1 h2) : Un fs ex H H2 h h2 where
  keep := fun c ob q n hc hx => b.keep c ob (a.keep c ob q n hc hx) (a.free c ob q n hx) hc hx
  slot := fun c ob q n hc hx => by
    obtain ⟨sl, e1⟩ := a.slot c ob q n hc hx
    obtain ⟨sl', e2⟩ := b.slot c _ e1 (a.free c ob q n hx) hc hx
    exact ⟨sl', e2⟩
  free := fun c ob q n hx => by
    obtain ⟨o', e1⟩ := a.there c ob q hx
    exact b.free c o' e1 (a.free c ob q n hx) hx
  there := fun c ob q hx => by
    obtain ⟨o', e1⟩ := a.there c ob q hx
    exact b.there c o' e1 hx
  tups := fun c xs q => b.tups c xs (a.tups c xs q)
  frzs := fun c ob xs q => b.frzs c ob xs (a.frzs c ob xs q)
  tbls := fun c ps q => by
    obtain ⟨m1, e1⟩ := a.tbls c ps q
    obtain ⟨m2, e2⟩ := b.tbls c _ e1
    exact ⟨m1 ++ m2, by rw [e2, Array.append_assoc]⟩
theorem Un.kept (k : ∀ b u, h.get? b = some u → h'.get? b = some u) : Un fs ex H H h h' :=
  ⟨fun b ob q _ _ _ => k b ob q, fun b ob q _ _ _ => ⟨ob.slots, k b ob q⟩, fun _ _ _ n _ => n, fun b ob q _ => ⟨ob, k b ob q⟩, fun _ _ q => q, fun _ _ _ q => q, fun _ ps q => ⟨#[], by rw [q]; simp⟩⟩
theorem Un.refl : Un fs ex H H h h := Un.kept fun _ _ q => q
theorem Un.laid (k : ∀ b u, h.get? b = some u → h'.get? b = some u) (hp : h.objs.size ≤ a) (hn : H a = none) : Un fs ex H (upd H a o) h h' where
  keep := fun b u q _ _ _ => k b u q
  slot := fun b u q _ _ _ => ⟨u.slots, k b u q⟩
  free := fun b u q n _ => by rw [upd_ne (Nat.ne_of_lt (Nat.lt_of_lt_of_le (Heap.lt_size q) hp))]; exact n
  there := fun b u q _ => ⟨u, k b u q⟩
  tups := fun b xs q => by rw [upd_ne (ne_of_none q hn)]; exact q
  frzs := fun b u xs q => by rw [upd_ne (ne_of_none q hn)]; exact q
  tbls := fun b ps q => ⟨#[], by rw [upd_ne (ne_of_none q hn), q]; simp⟩
theorem Un.write (mu : Mut (H x)) (he : e = x ∨ H e = some (.own x)) (k : ∀ b u, b ≠ e → h.get? b = some u → h'.get? b = some u) (heo : ∃ u, h'.get? e = some u) : Un fs ex H (upd H x o) h h' := by
  have hx : ∀ b, H b = none → b ≠ x := fun b n z => by subst z; rw [n] at mu; exact mu
  have hb : ∀ b, H b = none → b ≠ e := fun b n z => by
    subst z
    rcases he with r | r
    · exact hx b n r
    · rw [n] at r; cases r
  have hm : ∀ b u, H b = some u → ¬ Mut (some u) → b ≠ x := fun b u q nm z => by subst z; rw [q] at mu; exact nm mu
  refine ⟨fun b u q n _ _ => k b u (hb b n) q, fun b u q n _ _ => ⟨u.slots, k b u (hb b n) q⟩, fun b u q n _ => by rw [upd_ne (hx b n)]; exact n, fun b u q _ => ?_,
    fun b xs q => by rw [upd_ne (hm b _ q fun z => z)]; exact q, fun b u xs q => by rw [upd_ne (hm b _ q fun z => z)]; exact q, fun b ps q => ⟨#[], by rw [upd_ne (hm b _ q fun z => z), q]; simp⟩⟩
  by_cases hbe : b = e
  · subst hbe; exact heo
  · exact ⟨u, k b u hbe q⟩
theorem Un.mono (u : Un fs ex H H1 h h1) (hs : ∀ b ∈ fs, b ∈ fs') (hx : ∀ b ∈ ex, b ∈ ex') : Un fs' ex' H H1 h h1 :=
  ⟨fun b ob q n hb he => u.keep b ob q n (fun z => hb (hs b z)) fun z => he (hx b z), fun _ _ q n _ he => u.any q n fun z => he (hx _ z), fun b ob q n he => u.free b ob q n fun z => he (hx b z), fun b ob q he => u.there b ob q fun z => he (hx b z), u.tups, u.frzs, u.tbls⟩
end

/-! ### the heap without what is tracked -/
def trk (h : Heap) (H : Hp) : List Addr := (List.range h.objs.size).filter fun a => (H a).isSome
def hidT (h : Heap) (H : Hp) : Heap := PySem.W.hideAll h (trk h H)
theorem hidT_size (h : Heap) (H : Hp) : (hidT h H).objs.size = h.objs.size := PySem.W.hideAll_size _ _
theorem hidT_get {h : Heap} {H : Hp} {b : Addr} {o : Obj} (e : h.get? b = some o) (n : H b = none) : (hidT h H).get? b = some o :=
  PySem.W.hideAll_get _ e fun hm => by
    have q : (H b).isSome = true := (List.mem_filter.mp hm).2
    rw [n] at q; simp at q
theorem of_hidT {h : Heap} {H : Hp} {b : Addr} {o : Obj} (e : (hidT h H).get? b = some o) : h.get? b = some o ∧ H b = none := by
  have e' : h.get? b = some o := PySem.W.of_hideAll (trk h H) e
  refine ⟨e', ?_⟩
  cases q : H b with
  | none => rfl
  | some x =>
    have hm : b ∈ trk h H := List.mem_filter.mpr ⟨List.mem_range.mpr (Heap.lt_size e'), by simp [q]⟩
    have z : (hidT h H).get? b = none := PySem.W.hideAll_none (trk h H) hm
    rw [z] at e; cases e

/-! ### OpenK's ledger, filled with every new object but one -/
def allNews (g h : Heap) (L : Addr) : List (Addr × Obj) := (List.range h.objs.size).filterMap fun a => if a = L ∨ (g.get? a).isSome = true then none else (h.get? a).map fun o => (a, o)
theorem mem_allNews {g h : Heap} {L a : Addr} {o : Obj} (h1 : a ≠ L) (h2 : g.get? a = none) (h3 : h.get? a = some o) : (a, o) ∈ allNews g h L :=
  List.mem_filterMap.mpr ⟨a, List.mem_range.mpr (Heap.lt_size h3), by simp [h1, h2, h3]⟩
theorem of_mem_allNews {g h : Heap} {L : Addr} {p : Addr × Obj} (hp : p ∈ allNews g h L) : p.1 ≠ L ∧ g.get? p.1 = none ∧ h.get? p.1 = some p.2 := by
  obtain ⟨b, _, e⟩ := List.mem_filterMap.mp hp
  split at e
  · cases e
  · rename_i hn
    cases q : h.get? b with
    | none => rw [q] at e; simp at e
    | some u =>
      rw [q] at e
      simp only [Option.map_some, Option.some.injEq] at e
      subst e
      refine ⟨fun z => hn (.inl z), ?_, q⟩
      show g.get? b = none
      cases r : g.get? b with
      | none => rfl
      | some v => exact (hn (.inr (by simp [r]))).elim
def rest (g h : Heap) (L d : Addr) : List (Addr × Obj) := (allNews g h L).filter fun p => decide (p.1 ≠ d)
theorem rest_ne {g h : Heap} {L d : Addr} : ∀ p ∈ rest g h L d, p.1 ≠ d := fun p hp => of_decide_eq_true (List.mem_filter.mp hp).2
theorem mem_rest {g h : Heap} {L d a : Addr} {o : Obj} (h1 : a ≠ L) (h2 : g.get? a = none) (h3 : h.get? a = some o) (h4 : a ≠ d) : (a, o) ∈ rest g h L d :=
  List.mem_filter.mpr ⟨mem_allNews h1 h2 h3, decide_eq_true h4⟩
theorem news_all {g h : Heap} {L : Addr} : News g L h (allNews g h L) := fun p hp => let ⟨a, b, c⟩ := of_mem_allNews hp; ⟨c, a, b⟩
theorem news_at {g h : Heap} {L d : Addr} {o : Obj} (h1 : d ≠ L) (h2 : g.get? d = none) (h3 : h.get? d = some o) : News g L h ((d, o) :: rest g h L d) := fun p hp => by
  rcases List.mem_cons.mp hp with rfl | hp
  · exact ⟨h3, h1, h2⟩
  · exact news_all p (List.mem_filter.mp hp).1
/-- behind a rule that changed d alone: all else but the frame is kept -/
theorem kept_of_news {g h h' : Heap} {L d : Addr} {m : Str → Option Value} (k : ∀ b o, g.get? b = some o → h.get? b = some o) (F : Fr g L h' m) (N : News g L h' (rest g h L d)) :
    ∀ b o, b ≠ L → b ≠ d → h.get? b = some o → h'.get? b = some o := fun b o h1 h2 e => by
  cases q : g.get? b with
  | some u =>
    have := k b u q
    rw [e] at this; cases this
    exact F.keep b _ q
  | none => exact (N (b, o) (mem_rest h1 q e h2)).1
end L2

namespace L2
open PySem PySem.Spec PyProof.Rows

/-- the module's facts, over the base: the heap at the law's entry without what is tracked there -/
structure Mod (K : PySem.W.Frag) (mg : Str → Option Value) (base : Heap) : Prop where
  kin : K.In base
  glob : base.Ns mainGlobals mg
  blt : ∃ mb, base.Ns builtinsNs mb ∧ ∀ x : Str, x ≠ "__name__" → mb x = bootBuiltins x
  nolimit : base.NoLimit

/-- the context: a def's body (or a comprehension's block) running. base: fixed through the whole law; s₀, H₀: the entry; outer: the frames whose slots others may change (a def's callers); stack: all frames that run;
   ex: iterators that were made ahead of the entry and are walked here (a comprehension's); fn: the names whose cells were made at the entry (a def: all; a comprehension's block: its own); calm: not within an except suite; pn: pins that every state bears; xe: what is wanted of an exception that leaves the code -/
structure Cx where
  prog : Program
  w : World
  K : PySem.W.Frag
  mg : Str → Option Value
  base : Heap
  A : Around
  N : List Str
  s₀ : Shared
  H₀ : Hp
  env : Env
  outer : List Env
  stack : List Env
  ex : List Addr
  fn : Str → Bool
  calm : Bool
  pn : List (Addr × Obj)
  xe : Value → Shared → Prop
/-- the callers' frames -/
def frs (l : List Env) : List Addr := l.filterMap (·.frame)
abbrev Cx.fs (X : Cx) : List Addr := frs X.outer

def Vis (sc : Scope) (x : Str) : Prop := sc.names.lookup x = some .local ∨ sc.names.lookup x = some .cell ∨ sc.names.lookup x = some .free
def Loc (sc : Scope) (x : Str) : Prop := sc.names.lookup x = some .local ∨ sc.names.lookup x = some .cell
def Look (env : Env) (h : Heap) (m : Str → Option Value) (x : Str) (u : Value) : Prop :=
  (env.kindOf x = some .local ∧ m x = some u) ∨ ((env.kindOf x = some .cell ∨ env.kindOf x = some .free) ∧ ∃ c, env.cells.lookup x = some c ∧ h.IsCell c (some u))

structure Cx.Ok (X : Cx) : Prop where
  mod : Mod X.K X.mg X.base
  kind : X.env.scope.kind = .function
  glob : X.env.globals = mainGlobals
  blt : X.env.builtins = builtinsNs
  above : X.s₀.heap.objs.size ≤ X.env.locals
  inj : ∀ x y c, X.env.cells.lookup x = some c → X.env.cells.lookup y = some c → x = y
  has : ∀ x, (X.env.kindOf x = some .cell ∨ X.env.kindOf x = some .free) → ∃ c, X.env.cells.lookup x = some c
  cab : ∀ x c, X.fn x = true → X.env.cells.lookup x = some c → X.s₀.heap.objs.size ≤ c
  hd : X.calm = true → X.A.handled = none
  frames : X.A.frames = some X.stack
  stk : X.stack = X.outer ∨ (X.stack = X.env :: X.outer ∧ X.env.frame = some X.env.locals)
  exf : ∀ b ∈ X.ex, b ≠ X.env.locals ∧ ∀ x c, X.env.cells.lookup x = some c → c ≠ b
  bs : ∀ b o, X.base.get? b = some o → X.s₀.heap.get? b = some o ∧ X.H₀ b = none
  bsz : X.base.objs.size ≤ X.s₀.heap.objs.size
  noex : ∀ b o, X.base.get? b = some o → b ∉ X.ex
  exfs : ∀ b ∈ X.ex, b ∉ X.fs
  funs : X.s₀.heap.FunFrames X.base X.outer
  frf : ∀ b ∈ X.fs, X.H₀ b = none

structure Inv (X : Cx) (pins : List (Addr × Obj)) (σ : List (Option V)) (H : Hp) (s : Shared) : Prop where
  ok : X.Ok
  os : s.os = X.s₀.os
  bare : AllBare s.gens
  base : Un X.fs X.ex X.H₀ H X.s₀.heap s.heap
  loc : ∃ m, s.heap.Ns X.env.locals m ∧ ∀ (i : Nat) (x : Str) (v : V), X.N[i]? = some x → σ[i]? = some (some v) → Vis X.env.scope x → ∃ u, RelV v u ∧ Look X.env s.heap m x u
  cell : ∀ x c, X.env.cells.lookup x = some c → ∃ v, s.heap.IsCell c v
  free : H X.env.locals = none
  freeC : ∀ x c, X.env.cells.lookup x = some c → H c = none
  pin : ∀ p ∈ X.pn ++ pins, s.heap.get? p.1 = some p.2 ∧ H p.1 = none ∧ p.1 ≠ X.env.locals ∧ p.1 ∉ X.fs ∧ ∀ v, p.2.data ≠ .cell v
  hok : HOk X.prog X.w H s.heap
  len : σ.length = X.N.length

section
variable {X : Cx} {pins : List (Addr × Obj)} {σ : List (Option V)} {H H' : Hp} {s : Shared} {h' : Heap}

theorem Cx.Ok.nofr (ok : X.Ok) {b : Addr} {o : Obj} (e : X.base.get? b = some o) : b ∉ X.fs := fun hb => by
  have := (ok.funs.mem hb).1
  rw [e] at this; cases this
theorem Inv.bs (I : Inv X pins σ H s) : ∀ b o, X.base.get? b = some o → s.heap.get? b = some o ∧ H b = none := fun b o e =>
  ⟨I.base.keep b o (I.ok.bs b o e).1 (I.ok.bs b o e).2 (I.ok.nofr e) (I.ok.noex b o e), I.base.free b o (I.ok.bs b o e).1 (I.ok.bs b o e).2 (I.ok.noex b o e)⟩
theorem Inv.bk (I : Inv X pins σ H s) : ∀ b o, X.base.get? b = some o → s.heap.get? b = some o := fun b o e => (I.bs b o e).1
theorem Inv.mod (I : Inv X pins σ H s) : Mod X.K X.mg X.base := I.ok.mod
theorem Inv.kIn (I : Inv X pins σ H s) : X.K.In s.heap := I.ok.mod.kin.keeps I.bk
theorem Inv.nolimit (I : Inv X pins σ H s) : s.heap.NoLimit := I.ok.mod.nolimit.keeps I.bk
/-- the frame over the base: for OpenK's rules (K.In X.base is I.mod.kin) -/
theorem Inv.fr (I : Inv X pins σ H s) : ∃ m, Fr X.base X.env.locals s.heap m :=
  let ⟨m, hn, _⟩ := I.loc
  ⟨m, hn, I.bk, Nat.le_trans I.ok.bsz I.ok.above⟩
theorem Inv.lt (I : Inv X pins σ H s) : X.env.locals < s.heap.objs.size := let ⟨_, hn, _⟩ := I.loc; hn.lt
theorem Inv.sz (I : Inv X pins σ H s) : X.s₀.heap.objs.size ≤ s.heap.objs.size := Nat.le_trans I.ok.above (Nat.le_of_lt I.lt)
theorem Inv.nofs (I : Inv X pins σ H s) {a : Addr} (h : s.heap.objs.size ≤ a) : a ∉ X.fs := fun hb => by
  obtain ⟨_, o, ho, _⟩ := I.ok.funs.mem hb
  exact absurd (Nat.lt_of_lt_of_le (Heap.lt_size ho) (Nat.le_trans I.sz h)) (Nat.lt_irrefl _)
theorem Inv.cne (I : Inv X pins σ H s) : ∀ x c, X.env.cells.lookup x = some c → c ≠ X.env.locals := fun x c e z => by
  obtain ⟨v, o, ho, hd⟩ := I.cell x c e
  obtain ⟨m, ⟨o', es, ep, ho', hd', _⟩, _⟩ := I.loc
  rw [z, ho'] at ho; cases ho; rw [hd'] at hd; cases hd
theorem Inv.funs (I : Inv X pins σ H s) : s.heap.FunFrames X.base X.outer := by
  have all : ∀ (l : List Env), (∀ b ∈ frs l, b ∈ X.fs) → X.s₀.heap.FunFrames X.base l → s.heap.FunFrames X.base l := by
    intro l
    induction l with
    | nil => intro _ _; trivial
    | cons env r ih =>
      intro hs hl
      obtain ⟨hk, ⟨L, o, hf, hn, ho, hd⟩, hr⟩ := hl
      have hL : L ∈ X.fs := hs L (by unfold frs; rw [List.filterMap_cons, hf]; exact List.mem_cons_self)
      obtain ⟨sl, e⟩ := I.base.slot L o ho (I.ok.frf L hL) hL fun z => I.ok.exfs L z hL
      exact ⟨hk, ⟨L, _, hf, hn, e, hd⟩, ih (fun b hb => hs b (by unfold frs; rw [List.filterMap_cons, hf]; exact List.mem_cons_of_mem _ hb)) hr⟩
  exact all X.outer (fun _ hb => hb) I.ok.funs

/-- the frames that run, for a call -/
theorem Inv.stack (I : Inv X pins σ H s) : s.heap.FunFrames X.base X.stack := by
  rcases I.ok.stk with e | ⟨e, hf⟩
  · rw [e]; exact I.funs
  · rw [e]
    obtain ⟨m, hn, _⟩ := I.loc
    refine .cons (by rw [I.ok.kind]; decide) hf hn ?_ I.funs
    exact Heap.get?_none_of_le (Nat.le_trans I.ok.bsz I.ok.above)
theorem Inv.stkSub (I : Inv X pins σ H s) : ∀ b ∈ frs X.stack, b ∈ X.env.locals :: X.fs := fun b hb => by
  rcases I.ok.stk with e | ⟨e, hf⟩
  · rw [e] at hb; exact List.mem_cons_of_mem _ hb
  · rw [e] at hb
    unfold frs at hb
    rw [List.filterMap_cons, hf] at hb
    exact hb
theorem Inv.stkFree (I : Inv X pins σ H s) : ∀ b ∈ frs X.stack, H b = none := fun b hb => by
  rcases List.mem_cons.mp (I.stkSub b hb) with e | hb
  · rw [e]; exact I.free
  · obtain ⟨_, o, ho, _⟩ := I.ok.funs.mem hb
    exact I.base.free b o ho (I.ok.frf b hb) fun z => I.ok.exfs b z hb

/-- THE STEP: the untracked objects but the frame and the records at ch are kept (the callers' frames up to slots), the frame's map is kept, the new abstract heap is held -/
theorem Inv.step {g' : Array GenState} {t' : Nat} {d' : Drawn} {ch : List Addr} (I : Inv X pins σ H s)
    (hch : ∀ b ∈ ch, (b ∈ X.ex ∨ X.s₀.heap.objs.size ≤ b) ∧ b ≠ X.env.locals ∧ (∀ x c, X.env.cells.lookup x = some c → c ≠ b) ∧ ∀ p ∈ X.pn ++ pins, p.1 ≠ b)
    (keep : ∀ b o, b ≠ X.env.locals → b ∉ X.fs → b ∉ ch → s.heap.get? b = some o → H b = none → h'.get? b = some o)
    (slot : ∀ b o, b ≠ X.env.locals → b ∈ X.fs → b ∉ ch → s.heap.get? b = some o → H b = none → ∃ sl, h'.get? b = some { o with slots := sl }) (free : ∀ b o, b ∉ ch → s.heap.get? b = some o → H b = none → H' b = none)
    (there : ∀ b o, b ∉ ch → s.heap.get? b = some o → ∃ o', h'.get? b = some o')
    (tups : ∀ b xs, H b = some (.tup xs) → H' b = some (.tup xs)) (frzs : ∀ b o u, H b = some (.frz o u) → H' b = some (.frz o u)) (tbls : ∀ b ps, H b = some (.tbl ps) → ∃ more, H' b = some (.tbl (ps ++ more)))
    (ns : ∀ m, s.heap.Ns X.env.locals m → h'.Ns X.env.locals m) (hok : HOk X.prog X.w H' h') (hg : AllBare g') :
    Inv X pins σ H' { s with heap := h', gens := g', drawn := d', toks := t' } := by
  have neL : ∀ b o, X.s₀.heap.get? b = some o → b ≠ X.env.locals := fun b o e => Nat.ne_of_lt (Nat.lt_of_lt_of_le (Heap.lt_size e) I.ok.above)
  have neC : ∀ b o, X.s₀.heap.get? b = some o → b ∉ X.ex → b ∉ ch := fun b o e hx hb => by
    rcases (hch b hb).1 with z | z
    · exact hx z
    · exact absurd (Nat.lt_of_lt_of_le (Heap.lt_size e) z) (Nat.lt_irrefl _)
  have cellK : ∀ x c, X.env.cells.lookup x = some c → ∀ v, s.heap.IsCell c v → h'.IsCell c v := fun x c e v ⟨o, ho, hd⟩ => by
    have nch : c ∉ ch := fun z => (hch c z).2.2.1 x c e rfl
    by_cases hc : c ∈ X.fs
    · obtain ⟨sl, q⟩ := slot c o (I.cne x c e) hc nch ho (I.freeC x c e)
      exact ⟨_, q, hd⟩
    · exact ⟨o, keep c o (I.cne x c e) hc nch ho (I.freeC x c e), hd⟩
  refine ⟨I.ok, I.os, hg, ⟨fun b o e n hb hx => ?_, fun b o e n hb hx => ?_, fun b o e n hx => ?_, fun b o e hx => ?_, fun b xs e => tups b xs (I.base.tups b xs e), fun b o xs e => frzs b o xs (I.base.frzs b o xs e), fun b ps e => ?_⟩, ?_, fun x c e => ?_, ?_, fun x c e => ?_, fun p hp => ?_, hok, I.len⟩
  · exact keep b o (neL b o e) hb (neC b o e hx) (I.base.keep b o e n hb hx) (I.base.free b o e n hx)
  · obtain ⟨sl, e1⟩ := I.base.slot b o e n hb hx
    obtain ⟨sl', e2⟩ := slot b _ (neL b o e) hb (neC b o e hx) e1 (I.base.free b o e n hx)
    exact ⟨sl', e2⟩
  · obtain ⟨o', e1⟩ := I.base.there b o e hx
    exact free b o' (neC b o e hx) e1 (I.base.free b o e n hx)
  · obtain ⟨o', e1⟩ := I.base.there b o e hx
    exact there b o' (neC b o e hx) e1
  · obtain ⟨m1, e1⟩ := I.base.tbls b ps e
    obtain ⟨m2, e2⟩ := tbls b _ e1
    exact ⟨m1 ++ m2, by rw [e2, Array.append_assoc]⟩
  · obtain ⟨m, hn, hl⟩ := I.loc
    refine ⟨m, ns m hn, fun i x v e1 e2 e3 => ?_⟩
    obtain ⟨u, r, l⟩ := hl i x v e1 e2 e3
    refine ⟨u, r, ?_⟩
    rcases l with l | ⟨k, c, e, z⟩
    · exact .inl l
    · exact .inr ⟨k, c, e, cellK x c e _ z⟩
  · obtain ⟨v, z⟩ := I.cell x c e
    exact ⟨v, cellK x c e v z⟩
  · obtain ⟨m, ⟨o, _, _, ho, _⟩, _⟩ := I.loc
    exact free _ o (fun z => (hch _ z).2.1 rfl) ho I.free
  · obtain ⟨v, o, ho, hd⟩ := I.cell x c e
    exact free c o (fun z => (hch c z).2.2.1 x c e rfl) ho (I.freeC x c e)
  · obtain ⟨e, n, ne, nf, d⟩ := I.pin p hp
    have nch : p.1 ∉ ch := fun z => (hch p.1 z).2.2.2 p hp rfl
    exact ⟨keep p.1 p.2 ne nf nch e n, free p.1 p.2 nch e n, ne, nf, d⟩
/-- .. where the frame's own object is kept too -/
theorem Inv.un {t' : Nat} (I : Inv X pins σ H s) (u : Un X.fs [] H H' s.heap h') (hok : HOk X.prog X.w H' h') : Inv X pins σ H' { s with heap := h', toks := t' } := by
  obtain ⟨m, ⟨o, es, ep, ho, r⟩, _⟩ := id I.loc
  obtain ⟨sl, hL⟩ := u.any ho I.free (by simp)
  exact I.step (g' := s.gens) (d' := s.drawn) (ch := []) (fun _ z => nomatch z) (fun b o _ hb _ e n => u.keep b o e n hb (by simp)) (fun b o _ hb _ e n => u.slot b o e n hb (by simp)) (fun b o _ e n => u.free b o e n (by simp)) (fun b o _ e => u.there b o e (by simp)) u.tups u.frzs u.tbls (fun m' hm => by
    obtain ⟨o', es', ep', ho', r'⟩ := hm
    rw [ho] at ho'; cases ho'
    exact ⟨_, es', ep', hL, r'⟩) hok I.bare
/-- behind a call (or a comprehension's block): the slots of this frame may have changed too, the records at ch may have turned -/
theorem Inv.call {g' : Array GenState} {t' : Nat} {d' : Drawn} {ch : List Addr} (I : Inv X pins σ H s) (u : Un (frs X.stack) ch H H' s.heap h') (hok : HOk X.prog X.w H' h') (hg : AllBare g')
    (hch : ∀ b ∈ ch, (b ∈ X.ex ∨ X.s₀.heap.objs.size ≤ b) ∧ b ≠ X.env.locals ∧ (∀ x c, X.env.cells.lookup x = some c → c ≠ b) ∧ ∀ p ∈ X.pn ++ pins, p.1 ≠ b) :
    Inv X pins σ H' { s with heap := h', gens := g', drawn := d', toks := t' } := by
  obtain ⟨m, ⟨o, es, ep, ho, r⟩, _⟩ := id I.loc
  obtain ⟨sl, hL⟩ := u.any ho I.free fun z => (hch _ z).2.1 rfl
  exact I.step (ch := ch) hch (fun b o hL hb hc e n => u.keep b o e n (fun z => (List.mem_cons.mp (I.stkSub b z)).elim hL hb) hc) (fun b o _ _ hc e n => u.any e n hc) (fun b o hc e n => u.free b o e n hc) (fun b o hc e => u.there b o e hc) u.tups u.frzs u.tbls (fun m' hm => by
    obtain ⟨o', es', ep', ho', r'⟩ := hm
    rw [ho] at ho'; cases ho'
    exact ⟨_, es', ep', hL, r'⟩) hok hg
/-- an untracked record of ours (an iterator) has turned -/
theorem Inv.turned {t' : Nat} {it : Addr} (I : Inv X pins σ H s) (k : ∀ b o, b ≠ it → s.heap.get? b = some o → h'.get? b = some o) (hn : H it = none) (hL : it ≠ X.env.locals)
    (h1 : it ∈ X.ex ∨ X.s₀.heap.objs.size ≤ it) (h2 : ∀ x c, X.env.cells.lookup x = some c → c ≠ it) (h3 : ∀ p ∈ X.pn ++ pins, p.1 ≠ it) : Inv X pins σ H { s with heap := h', toks := t' } := by
  have nit : ∀ b u, H b = some u → b ≠ it := fun b u e z => by rw [z, hn] at e; cases e
  refine I.step (g' := s.gens) (d' := s.drawn) (ch := [it]) (fun b hb => ?_) (fun b o _ _ hc e _ => k b o (fun z => hc (by simp [z])) e) (fun b o _ _ hc e _ => ⟨o.slots, k b o (fun z => hc (by simp [z])) e⟩) (fun _ _ _ _ n => n)
    (fun b o hc e => ⟨o, k b o (fun z => hc (by simp [z])) e⟩) (fun _ _ e => e) (fun _ _ _ e => e) (fun b ps e => ⟨#[], by rw [e]; simp⟩) (fun m hm => ?_) (fun b u e => ?_) I.bare
  · have e : b = it := by simpa using hb
    subst e
    exact ⟨h1, hL, h2, h3⟩
  · obtain ⟨o, es, ep, ho, r⟩ := hm
    exact ⟨o, es, ep, k _ o (Ne.symm hL) ho, r⟩
  · refine (I.hok b u e).stay (fun c v hc q => k c v ?_ q) (fun _ q => q) fun _ _ q => q
    rcases hc with z | z
    · rw [z]; exact nit b u e
    · exact nit c _ z
theorem Inv.tok (I : Inv X pins σ H s) (t : Nat) : Inv X pins σ H { s with toks := t } := I.un (h' := s.heap) (t' := t) Un.refl I.hok
/-- all objects kept -/
theorem Inv.kept {t' : Nat} (I : Inv X pins σ H s) (k : ∀ b u, s.heap.get? b = some u → h'.get? b = some u) : Inv X pins σ H { s with heap := h', toks := t' } := I.un (Un.kept k) (I.hok.kept k)
/-- a new object laid and tracked -/
theorem Inv.laid {a : Addr} {o : HO} {t' : Nat} (I : Inv X pins σ H s) (k : ∀ b u, s.heap.get? b = some u → h'.get? b = some u) (hp : s.heap.objs.size ≤ a) (new : ObjOk X.prog X.w (upd H a o) h' a o) :
    Inv X pins σ (upd H a o) { s with heap := h', toks := t' } := I.un (Un.laid k hp (I.hok.fresh hp)) (I.hok.laid k hp new)
/-- an object written -/
theorem Inv.write {x e : Addr} {o : HO} {t' : Nat} (I : Inv X pins σ H s) (mu : Mut (H x)) (he : e = x ∨ H e = some (.own x)) (k : ∀ b u, b ≠ e → s.heap.get? b = some u → h'.get? b = some u) (heo : ∃ u, h'.get? e = some u)
    (new : ObjOk X.prog X.w (upd H x o) h' x o) : Inv X pins σ (upd H x o) { s with heap := h', toks := t' } := I.un (Un.write mu he k heo) (I.hok.write mu he k heo new)
/-- forgetting slots, pins -/
theorem Inv.weak {σ' : List (Option V)} (I : Inv X pins σ H s) (hl : σ'.length = σ.length) (w : ∀ (i : Nat) v, σ'[i]? = some (some v) → σ[i]? = some (some v)) : Inv X pins σ' H s :=
  ⟨I.ok, I.os, I.bare, I.base, let ⟨m, hn, hl'⟩ := I.loc; ⟨m, hn, fun i x v e1 e2 e3 => hl' i x v e1 (w i v e2) e3⟩, I.cell, I.free, I.freeC, I.pin, I.hok, hl.trans I.len⟩
theorem Inv.pins_of {pins' : List (Addr × Obj)} (I : Inv X pins σ H s) (h : ∀ p ∈ pins', s.heap.get? p.1 = some p.2 ∧ H p.1 = none ∧ p.1 ≠ X.env.locals ∧ p.1 ∉ X.fs ∧ ∀ v, p.2.data ≠ .cell v) : Inv X pins' σ H s :=
  ⟨I.ok, I.os, I.bare, I.base, I.loc, I.cell, I.free, I.freeC, fun p hp => (List.mem_append.mp hp).elim (fun z => I.pin p (List.mem_append_left _ z)) (h p), I.hok, I.len⟩

theorem nodup_ix {N : List Str} (hN : N.Nodup) {i j : Nat} {x : Str} (a : N[i]? = some x) (b : N[j]? = some x) : i = j := by
  obtain ⟨h1, e1⟩ := List.getElem?_eq_some_iff.mp a
  obtain ⟨h2, e2⟩ := List.getElem?_eq_some_iff.mp b
  exact (List.getElem_inj hN).mp (e1.trans e2.symm)

/-- a name is stored; what changed -/
theorem store_ok2 {M : Model} {A : Around} {E : Value → Shared → Prop} {i : Nat} {x : Str} {v : V} {u : Value} {Q : Unit → Shared → Prop} (I : Inv X pins σ H s) (hN : X.N.Nodup) (hi : X.N[i]? = some x) (hx : Loc X.env.scope x) (r : RelV v u)
    (h : ∀ s', Inv X pins (σ.set i (some v)) H s' → (∃ a, Heap.SameBut a s.heap s'.heap ∧ (a = X.env.locals ∨ X.env.cells.lookup x = some a)) → Q () s') (hf : X.fn x = true ∨ X.env.scope.names.lookup x = some .local := by first | exact .inl rfl | exact .inr rfl | assumption) : wpAny M A (storeName X.env x u) Q E s := by
  obtain ⟨m, hn, hl⟩ := id I.loc
  have hcls : (X.env.scope.kind == .class || (X.env.scope.kind == .module && X.env.locals != X.env.globals)) = false := by rw [I.ok.kind]; rfl
  have hiσ : i < σ.length := by rw [I.len]; exact (List.getElem?_eq_some_iff.mp hi).1
  have cne := I.cne
  have tracked : ∀ {a : Addr} {h' : Heap}, (∃ o, s.heap.get? a = some o ∧ H a = none) → Heap.SameBut a s.heap h' → HOk X.prog X.w H h' := fun {a h'} ha hs b ob e => by
    obtain ⟨_, _, hfree⟩ := ha
    refine (I.hok b ob e).stay (fun c w' hc q => (hs.2 c ?_).trans q) (fun _ q => q) fun _ _ q => q
    rintro rfl
    rcases hc with rfl | hc
    · rw [hfree] at e; cases e
    · rw [hfree] at hc; cases hc
  rcases hx with hk | hk
  · refine wpAny_storeName_local hk hn (fun h' hn' hs => ?_) hcls
    obtain ⟨oL, _, _, hoL, _⟩ := id hn
    refine h _ ⟨I.ok, I.os, I.bare, ⟨fun b o e n hb hx => ?_, fun b o e n hb hx => ?_, I.base.free, fun b o e hx => ?_, I.base.tups, I.base.frzs, I.base.tbls⟩, ⟨_, hn', fun j y v' e1 e2 e3 => ?_⟩, fun y c e => ?_, I.free, I.freeC, fun p hp => ?_, tracked ⟨oL, hoL, I.free⟩ hs, by simpa using I.len⟩ ⟨_, hs, .inl rfl⟩
    · exact (hs.2 b (Nat.ne_of_lt (Nat.lt_of_lt_of_le (Heap.lt_size e) I.ok.above))).trans (I.base.keep b o e n hb hx)
    · obtain ⟨sl, e1⟩ := I.base.slot b o e n hb hx
      exact ⟨sl, (hs.2 b (Nat.ne_of_lt (Nat.lt_of_lt_of_le (Heap.lt_size e) I.ok.above))).trans e1⟩
    · obtain ⟨o', e1⟩ := I.base.there b o e hx
      exact ⟨o', (hs.2 b (Nat.ne_of_lt (Nat.lt_of_lt_of_le (Heap.lt_size e) I.ok.above))).trans e1⟩
    · by_cases hj : j = i
      · subst hj
        rw [hi] at e1; cases e1
        rw [List.getElem?_set_self hiσ] at e2
        cases e2
        exact ⟨u, r, .inl ⟨hk, by simp⟩⟩
      · rw [List.getElem?_set_ne (Ne.symm hj)] at e2
        obtain ⟨u', r', q⟩ := hl j y v' e1 e2 e3
        refine ⟨u', r', ?_⟩
        rcases q with ⟨k, e⟩ | ⟨k, c, e, z⟩
        · refine .inl ⟨k, ?_⟩
          have : y ≠ x := fun e => hj (nodup_ix hN e1 (e ▸ hi))
          simp [this, e]
        · exact .inr ⟨k, c, e, z.sameBut hs (cne y c e)⟩
    · obtain ⟨w', z⟩ := I.cell y c e
      exact ⟨w', z.sameBut hs (cne y c e)⟩
    · obtain ⟨e, n, ne, nf, d⟩ := I.pin p hp
      exact ⟨(hs.2 p.1 ne).trans e, n, ne, nf, d⟩
  · have hfn : X.fn x = true := by
      rcases hf with z | z
      · exact z
      · rw [z] at hk; cases hk
    obtain ⟨c, hc⟩ := I.ok.has x (.inl hk)
    obtain ⟨w', z⟩ := I.cell x c hc
    refine wpAny_storeName_cell I.ok.kind hk hc z (fun h' hc' hs => ?_)
    obtain ⟨oc, hoc, hocd⟩ := id z
    refine h { s with heap := h' } ⟨I.ok, I.os, I.bare, ⟨fun b o e n hb hx => ?_, fun b o e n hb hx => ?_, I.base.free, fun b o e hx => ?_, I.base.tups, I.base.frzs, I.base.tbls⟩, ⟨m, hn.sameBut hs (Ne.symm (cne x c hc)), fun j y v' e1 e2 e3 => ?_⟩, fun y c' e => ?_, I.free, I.freeC, fun p hp => ?_, tracked ⟨oc, hoc, I.freeC x c hc⟩ hs, by simpa using I.len⟩ ⟨c, hs, .inr hc⟩
    · exact (hs.2 b (Nat.ne_of_lt (Nat.lt_of_lt_of_le (Heap.lt_size e) (I.ok.cab x c hfn hc)))).trans (I.base.keep b o e n hb hx)
    · obtain ⟨sl, e1⟩ := I.base.slot b o e n hb hx
      exact ⟨sl, (hs.2 b (Nat.ne_of_lt (Nat.lt_of_lt_of_le (Heap.lt_size e) (I.ok.cab x c hfn hc)))).trans e1⟩
    · obtain ⟨o', e1⟩ := I.base.there b o e hx
      exact ⟨o', (hs.2 b (Nat.ne_of_lt (Nat.lt_of_lt_of_le (Heap.lt_size e) (I.ok.cab x c hfn hc)))).trans e1⟩
    · by_cases hj : j = i
      · subst hj
        rw [hi] at e1; cases e1
        rw [List.getElem?_set_self hiσ] at e2
        cases e2
        exact ⟨u, r, .inr ⟨.inl hk, c, hc, hc'⟩⟩
      · rw [List.getElem?_set_ne (Ne.symm hj)] at e2
        obtain ⟨u', r', q⟩ := hl j y v' e1 e2 e3
        refine ⟨u', r', ?_⟩
        rcases q with q | ⟨k, c', e, z'⟩
        · exact .inl q
        · refine .inr ⟨k, c', e, z'.sameBut hs ?_⟩
          rintro rfl
          exact hj (nodup_ix hN e1 (I.ok.inj _ _ _ e hc ▸ hi))
    · by_cases hcc : c' = c
      · subst hcc; exact ⟨_, hc'⟩
      · obtain ⟨w2, z2⟩ := I.cell y c' e
        exact ⟨w2, z2.sameBut hs hcc⟩
    · obtain ⟨e, n, ne, nf, d⟩ := I.pin p hp
      refine ⟨(hs.2 p.1 ?_).trans e, n, ne, nf, d⟩
      intro q
      rw [q, hoc] at e
      have q' : oc = p.2 := Option.some.inj e
      exact d w' (by rw [← q']; exact hocd)
theorem store_ok {M : Model} {A : Around} {E : Value → Shared → Prop} {i : Nat} {x : Str} {v : V} {u : Value} {Q : Unit → Shared → Prop} (I : Inv X pins σ H s) (hN : X.N.Nodup) (hi : X.N[i]? = some x) (hx : Loc X.env.scope x) (r : RelV v u)
    (h : ∀ s', Inv X pins (σ.set i (some v)) H s' → Q () s') (hf : X.fn x = true ∨ X.env.scope.names.lookup x = some .local := by first | exact .inl rfl | exact .inr rfl | assumption) : wpAny M A (storeName X.env x u) Q E s :=
  store_ok2 I hN hi hx r (fun s' I' _ => h s' I') hf
/-- behind a call or a block, the state as it is -/
theorem Inv.call' {s' : Shared} {ch : List Addr} (I : Inv X pins σ H s) (ho : s'.os = s.os) (u : Un (frs X.stack) ch H H' s.heap s'.heap) (hok : HOk X.prog X.w H' s'.heap) (hg : AllBare s'.gens)
    (hch : ∀ b ∈ ch, (b ∈ X.ex ∨ X.s₀.heap.objs.size ≤ b) ∧ b ≠ X.env.locals ∧ (∀ x c, X.env.cells.lookup x = some c → c ≠ b) ∧ ∀ p ∈ X.pn ++ pins, p.1 ≠ b) : Inv X pins σ H' s' := by
  obtain ⟨h', g', d', t', o'⟩ := s'
  have e : o' = s.os := ho
  subst e
  exact I.call (g' := g') (t' := t') (d' := d') u hok hg hch
end

/-! ### the judgements -/
/-- an exception: its class, its own dict's address (where it has one), the abstract heap behind it -/
abbrev XK := Value → Option Addr → Hp → Prop
abbrev St := List (Option V)
abbrev VK := V → Hp → Prop
/-- an expression's reading; a test's; an argument list's -/
abbrev TE := St → Hp → VK → Prop
abbrev TT := St → Hp → (Bool → Hp → Prop) → Prop
abbrev TA := St → Hp → (List V → Hp → Prop) → Prop
/-- what is wanted behind a statement -/
structure Ends where
  nx : St → Hp → Prop
  rt : VK
  bk : St → Hp → Prop := fun _ _ => False
  ct : St → Hp → Prop := fun _ _ => False
abbrev TS := Ends → St → Hp → Prop

def EP (X : Cx) (pins : List (Addr × Obj)) (σ : St) (Q : VK) (u : Value) (s' : Shared) : Prop := ∃ v H', Inv X pins σ H' s' ∧ RelV v u ∧ Q v H'
def TP (X : Cx) (pins : List (Addr × Obj)) (σ : St) (Q : Bool → Hp → Prop) (b : Bool) (s' : Shared) : Prop := ∃ H', Inv X pins σ H' s' ∧ Q b H'
def AP (X : Cx) (pins : List (Addr × Obj)) (σ : St) (Q : List V → Hp → Prop) (us : List Value) (s' : Shared) : Prop := ∃ vs H', Inv X pins σ H' s' ∧ Vals vs us ∧ Q vs H'
def SP (X : Cx) (pins : List (Addr × Obj)) (D : Ends) (f : Flow) (s' : Shared) : Prop :=
  match f with
  | .next => ∃ σ' H', Inv X pins σ' H' s' ∧ D.nx σ' H'
  | .brk => ∃ σ' H', Inv X pins σ' H' s' ∧ D.bk σ' H'
  | .cont => ∃ σ' H', Inv X pins σ' H' s' ∧ D.ct σ' H'
  | .ret u => ∃ v σ' H', Inv X pins σ' H' s' ∧ RelV v u ∧ D.rt v H'

def PE (X : Cx) (e : Expr) (t : TE) : Prop :=
  ∀ (pins : List (Addr × Obj)) (s : Shared) (σ : St) (H : Hp) (Q : VK), Inv X pins σ H s → t σ H Q → wpAny (model X.prog X.w) X.A (eval e X.env) (EP X pins σ Q) X.xe s
def PT (X : Cx) (e : Expr) (t : TT) : Prop :=
  ∀ (pins : List (Addr × Obj)) (s : Shared) (σ : St) (H : Hp) (Q : Bool → Hp → Prop), Inv X pins σ H s → t σ H Q → wpAny (model X.prog X.w) X.A (isTrue e X.env (eval e X.env)) (TP X pins σ Q) X.xe s
/-- a test whatever its 'whole' is (and, or) -/
def PW (X : Cx) (e : Expr) (t : TT) : Prop :=
  ∀ (whole : Sem Value) (pins : List (Addr × Obj)) (s : Shared) (σ : St) (H : Hp) (Q : Bool → Hp → Prop), Inv X pins σ H s → t σ H Q → wpAny (model X.prog X.w) X.A (isTrue e X.env whole) (TP X pins σ Q) X.xe s
theorem PW.pt {X : Cx} {e : Expr} {t : TT} (h : PW X e t) : PT X e t := h _
/-- an argument list (no star), from the left -/
def PA (X : Cx) (es : List Expr) (t : TA) : Prop :=
  ∀ (pos : Pos) (pins : List (Addr × Obj)) (s : Shared) (σ : St) (H : Hp) (Q : List V → Hp → Prop), Inv X pins σ H s → t σ H Q → wpAny (model X.prog X.w) X.A (spliced (backTo pos (starEach es X.env))) (AP X pins σ Q) X.xe s
def PS (X : Cx) (st : Stmt) (t : TS) : Prop :=
  ∀ (pins : List (Addr × Obj)) (s : Shared) (σ : St) (H : Hp) (D : Ends), Inv X pins σ H s → t D σ H → wpAny (model X.prog X.w) X.A (exec st X.env) (SP X pins D) X.xe s
def PSs (X : Cx) (st : List Stmt) (t : TS) : Prop :=
  ∀ (pins : List (Addr × Obj)) (s : Shared) (σ : St) (H : Hp) (D : Ends), Inv X pins σ H s → t D σ H → wpAny (model X.prog X.w) X.A (execs st X.env) (SP X pins D) X.xe s
/-- weaken the end -/
theorem thn {α : Type} {t : Sem α} {Q Q' : α → Shared → Prop} {M : Model} {A : Around} {E : Value → Shared → Prop} {s : Shared} (h : wpAny M A t Q E s) (hQ : ∀ a s, Q a s → Q' a s) : wpAny M A t Q' E s := wpAny_mono h hQ fun _ _ x => x
end L2

namespace L2
open PySem PySem.Spec PyProof.Rows
section
variable {X : Cx}

/-- two expressions in a row -/
theorem bin {a b : Expr} {ta tb : TE} (ha : PE X a ta) (hb : PE X b tb) {pins : List (Addr × Obj)} {s : Shared} {σ : St} {H : Hp} {R : V → V → Hp → Prop} (I : Inv X pins σ H s) (h : ta σ H fun x H1 => tb σ H1 fun y H2 => R x y H2)
    {α : Type} {Q : α → Shared → Prop} {f : Value → Value → Sem α}
    (hf : ∀ v u s2 x y H2, Inv X pins σ H2 s2 → RelV x v → RelV y u → R x y H2 → wpAny (model X.prog X.w) X.A (f v u) Q X.xe s2) :
    wpAny (model X.prog X.w) X.A (eval a X.env) (fun v s₁ => wpAny (model X.prog X.w) X.A (eval b X.env) (fun u s₂ => wpAny (model X.prog X.w) X.A (f v u) Q X.xe s₂) X.xe s₁) X.xe s := by
  refine thn (ha pins s σ H _ I h) fun v s1 ⟨x, H1, I1, r1, q1⟩ => ?_
  refine thn (hb pins s1 σ H1 _ I1 q1) fun u s2 ⟨y, H2, I2, r2, q2⟩ => ?_
  exact hf v u s2 x y H2 I2 r1 r2 q2

/-! ### names and constants -/
def tVar (i : Nat) : TE := fun σ H Q => ∃ v, σ[i]? = some (some v) ∧ Q v H
def tC (v : V) : TE := fun _ H Q => Q v H
theorem pe_var {i : Nat} {x : Str} {pos : Pos} (hN : X.N[i]? = some x) (hv : Vis X.env.scope x) (hd : (x == ("__debug__" : Str)) = false := by decide) (hcd : (x == ("__classdict__" : Str)) = false := by decide) : PE X (.Name x pos) (tVar i) := by
  intro pins s σ H Q I h
  obtain ⟨v, e, h⟩ := h
  obtain ⟨m, hn, hl⟩ := I.loc
  obtain ⟨u, r, l⟩ := hl i x v hN e hv
  have fin : EP X pins σ Q u s := ⟨v, H, I, r, h⟩
  rcases l with ⟨hk, hm⟩ | ⟨hk, c, hc, hcell⟩
  · exact wpAny_Name (wpAny_loadName_local I.ok.kind hk hn hm fin) hd
  · rcases hk with hk | hk
    · exact wpAny_Name (wpAny_loadName_cell I.ok.kind hk hc hcell fin) hd
    · exact wpAny_Name (wpAny_loadName_free I.ok.kind hk hc hcell fin hcd) hd
theorem pe_int {i j pos} : PE X (.Constant (.int i) j pos) (tC (.int i)) := fun _ _ _ H _ I h => wpAny_Constant_int ⟨.int i, H, I.tok _, ⟨_, rfl⟩, h⟩
theorem pe_bl {b j pos} : PE X (.Constant (.bool b) j pos) (tC (.bl b)) := fun _ _ _ H _ I h => Constant_bool ⟨.bl b, H, I, rfl, h⟩
theorem pe_non {j pos} : PE X (.Constant .none j pos) (tC .non) := fun _ _ _ H _ I h => Constant_none ⟨.non, H, I, rfl, h⟩
theorem pe_str {x j pos} : PE X (.Constant (.str x) j pos) (tC (.str x)) := fun _ _ _ H _ I h => Calls.Constant_str ⟨.str x, H, I.tok _, ⟨_, rfl⟩, h⟩

/-- a global name of the def -/
def Gl (X : Cx) (x : Str) : Prop := X.env.kindOf x = some .globalImplicit
theorem ld_glob {E : Value → Shared → Prop} {pins : List (Addr × Obj)} {s : Shared} {σ : St} {H : Hp} {x : Str} {u : Value} {pos : Pos} {Q : Value → Shared → Prop} (I : Inv X pins σ H s) (hg : Gl X x) (hm : X.mg x = some u) (h : Q u s)
    (hd : (x == ("__debug__" : Str)) = false := by decide) : wpAny (model X.prog X.w) X.A (eval (.Name x pos) X.env) Q E s :=
  Calls.Name_function_global I.ok.kind hg (Calls.loadGlobal_global (by rw [I.ok.glob]; exact I.mod.glob.keeps I.bk) hm h) hd
theorem ld_blt {E : Value → Shared → Prop} {pins : List (Addr × Obj)} {s : Shared} {σ : St} {H : Hp} {x : Str} {u : Value} {pos : Pos} {Q : Value → Shared → Prop} (I : Inv X pins σ H s) (hg : Gl X x) (hm : X.mg x = none) (hv : bootBuiltins x = some u) (h : Q u s)
    (hn : x ≠ "__name__" := by decide) (hd : (x == ("__debug__" : Str)) = false := by decide) : wpAny (model X.prog X.w) X.A (eval (.Name x pos) X.env) Q E s := by
  obtain ⟨mb, h1, h2⟩ := I.mod.blt
  exact Calls.Name_function_global I.ok.kind hg (Calls.loadGlobal_builtin (by rw [I.ok.glob]; exact I.mod.glob.keeps I.bk) hm (by rw [I.ok.blt]; exact h1.keeps I.bk) ((h2 x hn).trans hv) h) hd
/-- a module's constant, a class, a function, as a value -/
theorem pe_glob {x : Str} {v : V} {u : Value} {pos : Pos} (hg : Gl X x) (hm : X.mg x = some u) (r : RelV v u) (hd : (x == ("__debug__" : Str)) = false := by decide) : PE X (.Name x pos) (tC v) :=
  fun _ _ _ H _ I h => ld_glob I hg hm ⟨v, H, I, r, h⟩ hd
theorem pe_bltn {x : Str} {v : V} {u : Value} {pos : Pos} (hg : Gl X x) (hm : X.mg x = none) (hv : bootBuiltins x = some u) (r : RelV v u) (hn : x ≠ "__name__" := by decide) (hd : (x == ("__debug__" : Str)) = false := by decide) : PE X (.Name x pos) (tC v) :=
  fun _ _ _ H _ I h => ld_blt I hg hm hv ⟨v, H, I, r, h⟩ hn hd

/-! ### arithmetic -/
/-- two ints -/
def t2I (ta tb : TE) (k : Int → Int → Hp → Prop) : St → Hp → Prop := fun σ H => ta σ H fun x H1 => tb σ H1 fun y H2 => ∃ i j, x = .int i ∧ y = .int j ∧ k i j H2
def tAdd (ta tb : TE) : TE := fun σ H Q => t2I ta tb (fun i j H2 => Q (.int (i + j)) H2) σ H
def tSub (ta tb : TE) : TE := fun σ H Q => t2I ta tb (fun i j H2 => Q (.int (i - j)) H2) σ H
/-- the left factor below 2^64 -/
def tMul (ta tb : TE) : TE := fun σ H Q => t2I ta tb (fun i j H2 => (-(2 ^ 64) < i ∧ i < 2 ^ 64) ∧ Q (.int (i * j)) H2) σ H
variable {a b : Expr} {ta tb : TE} {pos : Pos}
theorem pe_add (ha : PE X a ta) (hb : PE X b tb) : PE X (.BinOp a .Add b pos) (tAdd ta tb) := by
  intro pins s σ H Q I h
  refine wpAny_BinOp (bin ha hb I h fun v u s2 x y H2 I2 rx ry q => ?_)
  obtain ⟨i, j, rfl, rfl, q⟩ := q
  obtain ⟨t, rfl⟩ := rx
  obtain ⟨t', rfl⟩ := ry
  exact add_int ⟨.int _, H2, I2.tok _, ⟨_, rfl⟩, q⟩
theorem pe_sub (ha : PE X a ta) (hb : PE X b tb) : PE X (.BinOp a .Sub b pos) (tSub ta tb) := by
  intro pins s σ H Q I h
  refine wpAny_BinOp (bin ha hb I h fun v u s2 x y H2 I2 rx ry q => ?_)
  obtain ⟨i, j, rfl, rfl, q⟩ := q
  obtain ⟨t, rfl⟩ := rx
  obtain ⟨t', rfl⟩ := ry
  exact sub_int ⟨.int _, H2, I2.tok _, ⟨_, rfl⟩, q⟩
theorem pe_mul (ha : PE X a ta) (hb : PE X b tb) : PE X (.BinOp a .Mult b pos) (tMul ta tb) := by
  intro pins s σ H Q I h
  refine wpAny_BinOp (bin ha hb I h fun v u s2 x y H2 I2 rx ry q => ?_)
  obtain ⟨i, j, rfl, rfl, ⟨q1, q2⟩, q⟩ := q
  obtain ⟨t, rfl⟩ := rx
  obtain ⟨t', rfl⟩ := ry
  exact mul_int ⟨.int _, H2, I2.tok _, ⟨_, rfl⟩, q⟩ (.of_left (intBits_le_64 q1 q2))

/-! ### comparisons -/
def PC (X : Cx) (op : CmpOp) (a b : Expr) (t : TE) : Prop :=
  ∀ (pins : List (Addr × Obj)) (s : Shared) (σ : St) (H : Hp) (Q : VK), Inv X pins σ H s → t σ H Q →
    wpAny (model X.prog X.w) X.A (eval a X.env) (fun v s₁ => wpAny (model X.prog X.w) X.A (eval b X.env) (fun u s₂ => wpAny (model X.prog X.w) X.A (compareOp op v u) (EP X pins σ Q) X.xe s₂) X.xe s₁) X.xe s
theorem nobehind (b : Expr) {op : CmpOp} (h : op ≠ .In) (h2 : op ≠ .NotIn) : behindInMarks op b = false := by
  have e1 : (op == CmpOp.In) = false := by cases op <;> first | rfl | exact absurd rfl h
  have e2 : (op == CmpOp.NotIn) = false := by cases op <;> first | rfl | exact absurd rfl h2
  cases b <;> simp [behindInMarks, e1, e2]
def tCmp (p : Int → Int → Bool) (ta tb : TE) : TE := fun σ H Q => t2I ta tb (fun i j H2 => Q (.bl (p i j)) H2) σ H
abbrev tLt : TE → TE → TE := tCmp fun i j => decide (i < j)
abbrev tLe : TE → TE → TE := tCmp fun i j => decide (i ≤ j)
abbrev tGt : TE → TE → TE := tCmp fun i j => decide (j < i)
abbrev tGe : TE → TE → TE := tCmp fun i j => decide (j ≤ i)
abbrev tEqI : TE → TE → TE := tCmp fun i j => decide (i = j)
abbrev tNeI : TE → TE → TE := tCmp fun i j => !decide (i = j)
/-- a comparison of two ints, by its rule -/
theorem pc_int {op : CmpOp} {p : Int → Int → Bool} (ha : PE X a ta) (hb : PE X b tb)
    (rule : ∀ (i j : Int) (t u : Tok) (Q : Value → Shared → Prop) (s : Shared), Q (.bool (p i j)) s → wpAny (model X.prog X.w) X.A (compareOp op (.int i t) (.int j u)) Q X.xe s) : PC X op a b (tCmp p ta tb) := by
  intro pins s σ H Q I h
  refine bin ha hb I h fun v u s2 x y H2 I2 rx ry q => ?_
  obtain ⟨i, j, rfl, rfl, q⟩ := q
  obtain ⟨t, rfl⟩ := rx
  obtain ⟨t', rfl⟩ := ry
  exact rule i j t t' _ s2 ⟨.bl _, H2, I2, rfl, q⟩
theorem pc_lt (ha : PE X a ta) (hb : PE X b tb) : PC X .Lt a b (tLt ta tb) := pc_int ha hb fun _ _ _ _ _ _ h => lt_int h
theorem pc_le (ha : PE X a ta) (hb : PE X b tb) : PC X .LtE a b (tLe ta tb) := pc_int ha hb fun _ _ _ _ _ _ h => le_int h
theorem pc_gt (ha : PE X a ta) (hb : PE X b tb) : PC X .Gt a b (tGt ta tb) := pc_int ha hb fun _ _ _ _ _ _ h => gt_int h
theorem pc_ge (ha : PE X a ta) (hb : PE X b tb) : PC X .GtE a b (tGe ta tb) := pc_int ha hb fun _ _ _ _ _ _ h => ge_int h
theorem pc_eqI (ha : PE X a ta) (hb : PE X b tb) : PC X .Eq a b (tEqI ta tb) := pc_int ha hb fun _ _ _ _ _ _ h => eq_int (by rw [Bool.beq_eq_decide_eq]; exact h)
theorem pc_neI (ha : PE X a ta) (hb : PE X b tb) : PC X .NotEq a b (tNeI ta tb) := pc_int ha hb fun _ _ _ _ _ _ h => ne_int (by rw [bne, Bool.beq_eq_decide_eq]; exact h)
/-- is None -/
def tIsN (ta : TE) : TE := fun σ H Q => ta σ H fun x H1 => Q (.bl (decide (x = .non))) H1
def tNotN (ta : TE) : TE := fun σ H Q => ta σ H fun x H1 => Q (.bl (!decide (x = .non))) H1
theorem RelV.none_iff {x : V} {v : Value} (r : RelV x v) : (v == Value.none) = decide (x = .non) := by
  cases x with
  | non => cases r; rfl
  | bl _ => cases r; rfl
  | int _ => obtain ⟨t, rfl⟩ := r; rfl
  | str _ => obtain ⟨t, rfl⟩ := r; rfl
  | byt _ => obtain ⟨t, rfl⟩ := r; rfl
  | flt _ => obtain ⟨t, rfl⟩ := r; rfl
  | ref _ => cases r; rfl
  | ty _ => cases r; rfl
theorem pc_isN {j pos'} (ha : PE X a ta) : PC X .Is a (.Constant .none j pos') (tIsN ta) := by
  intro pins s σ H Q I h
  refine thn (ha pins s σ H _ I h) fun v s1 ⟨x, H1, I1, r1, q1⟩ => ?_
  exact Constant_none (is_none_gen ⟨.bl _, H1, I1, by rw [r1.none_iff]; rfl, q1⟩)
theorem pc_notN {j pos'} (ha : PE X a ta) : PC X .IsNot a (.Constant .none j pos') (tNotN ta) := by
  intro pins s σ H Q I h
  refine thn (ha pins s σ H _ I h) fun v s1 ⟨x, H1, I1, r1, q1⟩ => ?_
  exact Constant_none (isnot_none_gen ⟨.bl _, H1, I1, by rw [r1.none_iff]; rfl, q1⟩)
/-- a comparison as a value, as a test -/
def tB (t : TE) : TT := fun σ H Q => t σ H fun x H1 => ∃ c, x = .bl c ∧ Q c H1
theorem pe_cmp {op : CmpOp} {t : TE} (h : PC X op a b t) (h1 : behindInMarks op b = false := by first | exact nobehind _ (by decide) (by decide) | rfl) : PE X (.Compare a [op] [b] pos) t := fun pins s σ H Q I hw => wpAny_Compare1 (h pins s σ H Q I hw) h1
theorem pt_cmp {op : CmpOp} {t : TE} (h : PC X op a b t) (h1 : behindInMarks op b = false := by first | exact nobehind _ (by decide) (by decide) | rfl) : PT X (.Compare a [op] [b] pos) (tB t) := by
  intro pins s σ H Q I hw
  refine wpAny_isTrue_Compare1 (thn (h pins s σ H _ I hw) fun v s1 h1 => thn h1 fun u s2 h2 => thn h2 fun c s3 ⟨x, H1, I1, r1, q1⟩ => ?_) h1
  obtain ⟨d, rfl, q⟩ := q1
  cases r1
  exact wpAny_truthy_bool ⟨H1, I1, q⟩
/-- an expression whose value is a bool, as a test -/
theorem pt_val {e : Expr} {t : TE} (h : PE X e t) (he : ∀ whole, isTrue e X.env whole = (do let v ← whole; standAt e.pos; holding [v] (truthy v)) := by intro _; rfl) : PT X e (tB t) := by
  intro pins s σ H Q I hw
  refine isTrue_plain (thn (h pins s σ H _ I hw) fun v s1 ⟨x, H1, I1, r1, q1⟩ => ?_) (he _)
  obtain ⟨d, rfl, q⟩ := q1
  cases r1
  exact wpAny_truthy_bool ⟨H1, I1, q⟩

/-! ### and, or, not -/
variable {tA tB' : TT} {rest : List Expr}
def tAnd (t u : TT) : TT := fun σ H Q => t σ H fun c H1 => if c = true then u σ H1 Q else Q false H1
def tOr (t u : TT) : TT := fun σ H Q => t σ H fun c H1 => if c = true then Q true H1 else u σ H1 Q
def tNot (t : TT) : TT := fun σ H Q => t σ H fun c H1 => Q (!c) H1
theorem pw_and1 (ha : PT X a tA) : PW X (.BoolOp .And [a] pos) tA := by
  intro wh pins s σ H Q I h
  refine isTrue_and (thn (ha pins s σ H Q I h) fun c s1 e => ?_)
  cases c with
  | true => exact isTrue_and_nil e
  | false => exact e
theorem pw_or1 (ha : PT X a tA) : PW X (.BoolOp .Or [a] pos) tA := by
  intro wh pins s σ H Q I h
  refine isTrue_or (thn (ha pins s σ H Q I h) fun c s1 e => ?_)
  cases c with
  | false => exact isTrue_or_nil e
  | true => exact e
theorem pw_and (ha : PT X a tA) (hb : PW X (.BoolOp .And (b :: rest) pos) tB') : PW X (.BoolOp .And (a :: b :: rest) pos) (tAnd tA tB') := by
  intro wh pins s σ H Q I h
  refine isTrue_and (thn (ha pins s σ H _ I h) fun c s1 ⟨H1, I1, q1⟩ => ?_)
  cases c with
  | true => exact hb wh pins s1 σ H1 Q I1 q1
  | false => exact ⟨H1, I1, q1⟩
theorem pw_or (ha : PT X a tA) (hb : PW X (.BoolOp .Or (b :: rest) pos) tB') : PW X (.BoolOp .Or (a :: b :: rest) pos) (tOr tA tB') := by
  intro wh pins s σ H Q I h
  refine isTrue_or (thn (ha pins s σ H _ I h) fun c s1 ⟨H1, I1, q1⟩ => ?_)
  cases c with
  | true => exact ⟨H1, I1, q1⟩
  | false => exact hb wh pins s1 σ H1 Q I1 q1
theorem pt_not (ha : PT X a tA) : PT X (.UnaryOp .Not a pos) (tNot tA) := by
  intro pins s σ H Q I h
  exact isTrue_not (ha pins s σ H (fun c H1 => Q (!c) H1) I h)
/-- .. as values (bools) -/
def tAndV (ta tb : TE) : TE := fun σ H Q => ta σ H fun x H1 => ∃ c, x = .bl c ∧ if c = true then tb σ H1 Q else Q (.bl false) H1
def tOrV (ta tb : TE) : TE := fun σ H Q => ta σ H fun x H1 => ∃ c, x = .bl c ∧ if c = true then Q (.bl true) H1 else tb σ H1 Q
def tNotV (ta : TE) : TE := fun σ H Q => ta σ H fun x H1 => ∃ c, x = .bl c ∧ Q (.bl (!c)) H1
theorem pe_one {op} {t : TE} (h : PE X a t) : PE X (.BoolOp op [a] pos) t := fun pins s σ H Q I hw => BoolOp_one (h pins s σ H Q I hw)
theorem pe_and (ha : PE X a ta) (hb : PE X (.BoolOp .And (b :: rest) pos) tb) : PE X (.BoolOp .And (a :: b :: rest) pos) (tAndV ta tb) := by
  intro pins s σ H Q I h
  refine BoolOp_and (thn (ha pins s σ H _ I h) fun v s1 ⟨x, H1, I1, r1, q1⟩ => ?_)
  obtain ⟨c, rfl, q1⟩ := q1
  cases r1
  refine wpAny_truthy_bool ?_
  cases c with
  | true => exact hb pins s1 σ H1 Q I1 q1
  | false => exact ⟨.bl false, H1, I1, rfl, q1⟩
theorem pe_or (ha : PE X a ta) (hb : PE X (.BoolOp .Or (b :: rest) pos) tb) : PE X (.BoolOp .Or (a :: b :: rest) pos) (tOrV ta tb) := by
  intro pins s σ H Q I h
  refine BoolOp_or (thn (ha pins s σ H _ I h) fun v s1 ⟨x, H1, I1, r1, q1⟩ => ?_)
  obtain ⟨c, rfl, q1⟩ := q1
  cases r1
  refine wpAny_truthy_bool ?_
  cases c with
  | false => exact hb pins s1 σ H1 Q I1 q1
  | true => exact ⟨.bl true, H1, I1, rfl, q1⟩
theorem pe_not (ha : PE X a ta) : PE X (.UnaryOp .Not a pos) (tNotV ta) := by
  intro pins s σ H Q I h
  refine UnaryOp_ (thn (ha pins s σ H _ I h) fun v s1 ⟨x, H1, I1, r1, q1⟩ => ?_)
  obtain ⟨c, rfl, q1⟩ := q1
  cases r1
  exact not_of (wpAny_truthy_bool ⟨.bl (!c), H1, I1, rfl, q1⟩)
/-- a if t else b -/
def tIf (t : TT) (ta tb : TE) : TE := fun σ H Q => t σ H fun c H1 => if c = true then ta σ H1 Q else tb σ H1 Q
theorem pe_ifExp {c : Expr} (hc : PT X c tA) (ha : PE X a ta) (hb : PE X b tb) : PE X (.IfExp c a b pos) (tIf tA ta tb) := by
  intro pins s σ H Q I h
  refine wpAny_IfExp (thn (hc pins s σ H _ I h) fun d s1 ⟨H1, I1, q1⟩ => ?_)
  cases d with
  | true => exact ha pins s1 σ H1 Q I1 q1
  | false => exact hb pins s1 σ H1 Q I1 q1
end
end L2

namespace L2
open PySem PySem.Spec PyProof.Rows

/-! ### a list, a tuple that is read: tracked, frozen, or an object of the module -/
def SqL (K : PySem.W.Frag) (H : Hp) (a : Addr) (xs : List V) : Prop :=
  Rd H a (.lst xs) ∨
    ∃ (o : Obj) (its : Array Value) (n : Nat), K.lookup a = some o ∧ o.cls = .type "list" ∧ o.dict = none ∧ o.data = .seq its n ∧ its.size ≤ sizeLine ∧ Vals xs its.toList
def SqT (K : PySem.W.Frag) (H : Hp) (a : Addr) (xs : List V) : Prop :=
  Rd H a (.tup xs) ∨
    ∃ (o : Obj) (its : Array Value) (n : Nat), K.lookup a = some o ∧ o.cls = .type "tuple" ∧ o.data = .seq its n ∧ its.size ≤ sizeLine ∧ Vals xs its.toList
def absV : Value → Option V
  | .none => some .non
  | .bool b => some (.bl b)
  | .int i _ => some (.int i)
  | .str x _ => some (.str x)
  | .bytes b _ => some (.byt b)
  | .float b _ => some (.flt b)
  | .ref a => some (.ref a)
  | .type n => some (.ty n)
  | _ => none
theorem RelV.abs {x : V} {u : Value} (r : RelV x u) : absV u = some x := by
  cases x with
  | non => cases r; rfl
  | bl _ => cases r; rfl
  | int _ => obtain ⟨t, rfl⟩ := r; rfl
  | str _ => obtain ⟨t, rfl⟩ := r; rfl
  | byt _ => obtain ⟨t, rfl⟩ := r; rfl
  | flt _ => obtain ⟨t, rfl⟩ := r; rfl
  | ref _ => cases r; rfl
  | ty _ => cases r; rfl
theorem RelV.inj {x y : V} {u : Value} (r : RelV x u) (q : RelV y u) : x = y := Option.some.inj (r.abs.symm.trans q.abs)
theorem Vals.inj : ∀ {xs ys : List V} {us : List Value}, Vals xs us → Vals ys us → xs = ys
  | _, _, _, .nil, .nil => rfl
  | _, _, _, .cons r t, .cons r' t' => by rw [r.inj r', Vals.inj t t']
section
variable {X : Cx} {pins : List (Addr × Obj)} {σ : St} {H : Hp} {s : Shared} {a : Addr} {xs ys : List V}
theorem SqL.of {K : PySem.W.Frag} (h : H a = some (.lst xs)) : SqL K H a xs := .inl (.inl h)
theorem SqT.of {K : PySem.W.Frag} (h : H a = some (.tup xs)) : SqT K H a xs := .inl (.inl h)
theorem Inv.list (I : Inv X pins σ H s) (h : SqL X.K H a xs) : ∃ its : List Value, Vals xs its ∧ PlainL s.heap a its.toArray ∧ xs.length ≤ sizeLine := by
  rcases h with h | ⟨o, its, n, hk, hc, hd, hs, hz, r⟩
  · obtain ⟨z, its, n, r, e⟩ := h.ok I.hok
    exact ⟨its, r, ⟨_, n, e, rfl, rfl, rfl⟩, z⟩
  · refine ⟨its.toList, r, ⟨o, n, I.kIn a o hk, hc, hd, by simpa using hs⟩, ?_⟩
    have e := r.length
    simp only [Array.length_toList] at e
    omega
theorem Inv.tuple (I : Inv X pins σ H s) (h : SqT X.K H a xs) : ∃ its : List Value, Vals xs its ∧ IsTup s.heap a its.toArray ∧ xs.length ≤ sizeLine := by
  rcases h with h | ⟨o, its, n, hk, hc, hs, hz, r⟩
  · obtain ⟨z, its, r, p⟩ := h.ok I.hok
    exact ⟨its, r, p, z⟩
  · refine ⟨its.toList, r, ⟨o, I.kIn a o hk, hc, n, by simpa using hs⟩, ?_⟩
    have e := r.length
    simp only [Array.length_toList] at e
    omega
theorem Inv.list_inj (I : Inv X pins σ H s) (h : SqL X.K H a xs) (h' : SqL X.K H a ys) : xs = ys := by
  obtain ⟨its, r, ⟨o, n, e, _, _, d⟩, _⟩ := I.list h
  obtain ⟨its', r', ⟨o', n', e', _, _, d'⟩, _⟩ := I.list h'
  rw [e] at e'; cases e'
  rw [d] at d'
  injection d' with d1 _
  have : its = its' := by simpa using congrArg Array.toList d1
  subst this
  exact r.inj r'
theorem Inv.tuple_inj (I : Inv X pins σ H s) (h : SqT X.K H a xs) (h' : SqT X.K H a ys) : xs = ys := by
  obtain ⟨its, r, ⟨o, e, _, n, d⟩, _⟩ := I.tuple h
  obtain ⟨its', r', ⟨o', e', _, n', d'⟩, _⟩ := I.tuple h'
  rw [e] at e'; cases e'
  rw [d] at d'
  injection d' with d1 _
  have : its = its' := by simpa using congrArg Array.toList d1
  subst this
  exact r.inj r'
end

/-! ### another wish about exceptions -/
abbrev Cx.wish (X : Cx) (E : Value → Shared → Prop) : Cx := { X with xe := E }
/-- no exception leaves -/
abbrev Cx.nox (X : Cx) : Cx := X.wish fun _ _ => False
theorem Cx.Ok.wish {X : Cx} (ok : X.Ok) (E : Value → Shared → Prop) : (X.wish E).Ok :=
  ⟨ok.mod, ok.kind, ok.glob, ok.blt, ok.above, ok.inj, ok.has, ok.cab, ok.hd, ok.frames, ok.stk, ok.exf, ok.bs, ok.bsz, ok.noex, ok.exfs, ok.funs, ok.frf⟩
theorem Cx.Ok.unwish {X : Cx} {E : Value → Shared → Prop} (ok : (X.wish E).Ok) : X.Ok :=
  ⟨ok.mod, ok.kind, ok.glob, ok.blt, ok.above, ok.inj, ok.has, ok.cab, ok.hd, ok.frames, ok.stk, ok.exf, ok.bs, ok.bsz, ok.noex, ok.exfs, ok.funs, ok.frf⟩
section
variable {X : Cx} {pins : List (Addr × Obj)} {σ : St} {H : Hp} {s : Shared} {E : Value → Shared → Prop}
theorem Inv.wish (I : Inv X pins σ H s) (E : Value → Shared → Prop) : Inv (X.wish E) pins σ H s := ⟨I.ok.wish E, I.os, I.bare, I.base, I.loc, I.cell, I.free, I.freeC, I.pin, I.hok, I.len⟩
theorem Inv.unwish (I : Inv (X.wish E) pins σ H s) : Inv X pins σ H s := ⟨I.ok.unwish, I.os, I.bare, I.base, I.loc, I.cell, I.free, I.freeC, I.pin, I.hok, I.len⟩
theorem SP.unwish {D : Ends} {f : Flow} {s' : Shared} (h : SP (X.wish E) pins D f s') : SP X pins D f s' := by
  cases f with
  | next => obtain ⟨σ', H', I, q⟩ := h; exact ⟨σ', H', I.unwish, q⟩
  | brk => obtain ⟨σ', H', I, q⟩ := h; exact ⟨σ', H', I.unwish, q⟩
  | cont => obtain ⟨σ', H', I, q⟩ := h; exact ⟨σ', H', I.unwish, q⟩
  | ret u => obtain ⟨v, σ', H', I, r, q⟩ := h; exact ⟨v, σ', H', I.unwish, r, q⟩
theorem PE.nox {e : Expr} {t : TE} (h : PE X.nox e t) : PE X e t := fun pins s σ H Q I hw =>
  wpAny_mono (h pins s σ H Q (I.wish _) hw) (fun _ _ ⟨v, H', I', r, q⟩ => ⟨v, H', I'.unwish, r, q⟩) fun _ _ z => False.elim z
theorem PT.nox {e : Expr} {t : TT} (h : PT X.nox e t) : PT X e t := fun pins s σ H Q I hw =>
  wpAny_mono (h pins s σ H Q (I.wish _) hw) (fun _ _ ⟨H', I', q⟩ => ⟨H', I'.unwish, q⟩) fun _ _ z => False.elim z
theorem PSs.nox {st : List Stmt} {t : TS} (h : PSs X.nox st t) : PSs X st t := fun pins s σ H D I hw =>
  wpAny_mono (h pins s σ H D (I.wish _) hw) (fun _ _ q => q.unwish) fun _ _ z => False.elim z
end

/-! ### blocks and small statements -/
section
variable {X : Cx} {st : Stmt} {rest : List Stmt} {t u : TS} {e : Expr} {te : TE} {pos : Pos}
def tNext : TS := fun D σ H => D.nx σ H
def tSeq (t u : TS) : TS := fun D σ H => t { D with nx := u D } σ H
theorem pss_nil : PSs X [] tNext := fun _ _ σ H _ I h => wpAny_execs_nil ⟨σ, H, I, h⟩
theorem pss_cons (h1 : PS X st t) (h2 : PSs X rest u) : PSs X (st :: rest) (tSeq t u) := by
  intro pins s σ H D I h
  refine wpAny_execs_cons (thn (h1 pins s σ H { D with nx := u D } I h) fun f s1 q => ?_)
  cases f with
  | next =>
    obtain ⟨σ', H', I', q⟩ := q
    exact h2 pins s1 σ' H' D I' q
  | ret v => exact q
  | brk => exact q
  | cont => exact q
theorem pss_one (h1 : PS X st t) : PSs X [st] t := by
  intro pins s σ H D I h
  refine wpAny_execs_cons (thn (h1 pins s σ H D I h) fun f s1 q => ?_)
  cases f with
  | next => exact wpAny_execs_nil q
  | ret v => exact q
  | brk => exact q
  | cont => exact q
def tBreak : TS := fun D σ H => D.bk σ H
def tCont : TS := fun D σ H => D.ct σ H
theorem ps_pass : PS X (.Pass pos) tNext := fun _ _ σ H _ I h => wpAny_Pass ⟨σ, H, I, h⟩
theorem ps_break : PS X (.Break pos) tBreak := fun _ _ σ H _ I h => wpAny_Break ⟨σ, H, I, h⟩
theorem ps_continue : PS X (.Continue pos) tCont := fun _ _ σ H _ I h => wpAny_Continue ⟨σ, H, I, h⟩
/-- in a def's body nothing is shown -/
theorem Inv.quiet {pins : List (Addr × Obj)} {σ : St} {H : Hp} {s : Shared} (I : Inv X pins σ H s) : interactive X.env = false := by simp [interactive, I.ok.kind]
/-- a docstring -/
theorem ps_doc {x j pos pos'} : PS X (.Expr (.Constant (.str x) j pos) pos') tNext := fun _ s σ H _ I h => wpAny_Expr (Calls.Constant_str (show SP X _ _ .next { s with toks := s.toks + 1 } from ⟨σ, H, I.tok _, h⟩)) I.quiet
/-- an expression whose value is dropped -/
def tDrop (te : TE) : TS := fun D σ H => te σ H fun _ H1 => D.nx σ H1
theorem ps_expr (he : PE X e te) (hs : swapsWith e none pos.line X.env = pure false := by rfl) : PS X (.Expr e pos) (tDrop te) := by
  intro pins s σ H D I h
  exact wpAny_Expr_any (thn (he pins s σ H _ I h) fun v s1 ⟨x, H1, I1, r1, q1⟩ => ⟨σ, H1, I1, q1⟩) I.quiet hs
def tRet (te : TE) : TS := fun D σ H => te σ H D.rt
theorem ps_ret (he : PE X e te) : PS X (.Return (some e) pos) (tRet te) := by
  intro pins s σ H D I h
  exact wpAny_Return_some (thn (he pins s σ H _ I h) fun v s1 ⟨x, H1, I1, r1, q1⟩ => ⟨x, σ, H1, I1, r1, q1⟩)
def tRetN : TS := fun D _ H => D.rt .non H
theorem ps_retN : PS X (.Return none pos) tRetN := fun _ _ σ H _ I h => wpAny_Return_none ⟨.non, σ, H, I, rfl, h⟩
def tIfS (c : TT) (t u : TS) : TS := fun D σ H => c σ H fun b H1 => if b = true then t D σ H1 else u D σ H1
theorem ps_if {c : Expr} {a b : List Stmt} {tc : TT} (hc : PT X c tc) (ha : PSs X a t) (hb : PSs X b u) : PS X (.If c a b pos) (tIfS tc t u) := by
  intro pins s σ H D I h
  refine wpAny_If (thn (hc pins s σ H _ I h) fun d s1 ⟨H1, I1, q1⟩ => ?_)
  cases d with
  | true => exact ha pins s1 σ H1 D I1 q1
  | false => exact hb pins s1 σ H1 D I1 q1
/-- code that the proof never comes to -/
def tNever : TS := fun _ _ _ => False
theorem ps_never : PS X st tNever := fun _ _ _ _ _ _ h => h.elim
theorem pss_never {sts : List Stmt} : PSs X sts tNever := fun _ _ _ _ _ _ h => h.elim
end

/-! ### targets -/
abbrev TG := V → St → Hp → (St → Hp → Prop) → Prop
abbrev TGs := List V → St → Hp → (St → Hp → Prop) → Prop
def PG (X : Cx) (target : Expr) (t : TG) : Prop :=
  ∀ (pins : List (Addr × Obj)) (s : Shared) (σ : St) (H : Hp) (v : V) (u : Value) (Q : St → Hp → Prop), Inv X pins σ H s → RelV v u → t v σ H Q →
    wpAny (model X.prog X.w) X.A (assign target X.env u) (fun _ s' => ∃ σ' H', Inv X pins σ' H' s' ∧ Q σ' H') X.xe s
/-- several targets, one after another -/
def PGs (X : Cx) (ts : List Expr) (t : TGs) : Prop :=
  ∀ (pins : List (Addr × Obj)) (s : Shared) (σ : St) (H : Hp) (vs : List V) (us : List Value) (Q : St → Hp → Prop), Inv X pins σ H s → Vals vs us → t vs σ H Q →
    wpAny (model X.prog X.w) X.A (assignInOrder ((assignEach ts X.env).map (·.2)) us) (fun _ s' => ∃ σ' H', Inv X pins σ' H' s' ∧ Q σ' H') X.xe s
/-- o[i] = v, by values -/
abbrev TSet := V → V → V → Hp → (Hp → Prop) → Prop
def PSet (X : Cx) (t : TSet) : Prop :=
  ∀ (pins : List (Addr × Obj)) (s : Shared) (σ : St) (H : Hp) (o i v : V) (ov iv u : Value) (Q : Hp → Prop), Inv X pins σ H s → RelV o ov → RelV i iv → RelV v u → t o i v H Q →
    wpAny (model X.prog X.w) X.A (setItem ov iv u) (fun _ s' => ∃ H', Inv X pins σ H' s' ∧ Q H') X.xe s
/-- a op= b, by values -/
abbrev TIp := V → V → Hp → VK → Prop
def PIp (X : Cx) (op : Operator) (t : TIp) : Prop :=
  ∀ (pins : List (Addr × Obj)) (s : Shared) (σ : St) (H : Hp) (x y : V) (v u : Value) (Q : VK), Inv X pins σ H s → RelV x v → RelV y u → t x y H Q →
    wpAny (model X.prog X.w) X.A (inplaceOp op v u) (EP X pins σ Q) X.xe s
section
variable {X : Cx} {pos : Pos}
def gName (i : Nat) : TG := fun v σ H Q => Q (σ.set i (some v)) H
theorem pg_name {i : Nat} {x : Str} (hN : X.N.Nodup) (hi : X.N[i]? = some x) (hx : Loc X.env.scope x) (hf : X.fn x = true ∨ X.env.scope.names.lookup x = some .local := by first | exact .inl rfl | exact .inr rfl | assumption) : PG X (.Name x pos) (gName i) := by
  intro pins s σ H v u Q I r h
  exact wpAny_assign_Name (store_ok I hN hi hx r (fun s' I' => ⟨_, H, I', h⟩) hf)
def gNil : TGs := fun vs σ H Q => vs = [] ∧ Q σ H
def gCons (t : TG) (u : TGs) : TGs := fun vs σ H Q => ∃ v r, vs = v :: r ∧ t v σ H fun σ' H' => u r σ' H' Q
theorem pgs_nil : PGs X [] gNil := by
  intro pins s σ H vs us Q I r h
  obtain ⟨e, h⟩ := h
  subst e
  cases r
  exact assignInOrder_nil ⟨σ, H, I, h⟩
theorem pgs_cons {e : Expr} {es : List Expr} {t : TG} {u : TGs} (h1 : PG X e t) (h2 : PGs X es u)
    (hs : (assignEach (e :: es) X.env).map (·.2) = assign e X.env :: (assignEach es X.env).map (·.2) := by rfl) : PGs X (e :: es) (gCons t u) := by
  intro pins s σ H vs us Q I r h
  obtain ⟨v, vr, e1, h⟩ := h
  subst e1
  cases r with
  | cons r rr =>
    rw [hs]
    refine assignInOrder_cons (thn (h1 pins s σ H _ _ _ I r h) fun _ s1 ⟨σ1, H1, I1, q1⟩ => ?_)
    exact h2 pins s1 σ1 H1 _ _ Q I1 rr q1
/-- (a, b, ..) = a tuple of that length -/
def gTup (K : PySem.W.Frag) (n : Nat) (t : TGs) : TG := fun v σ H Q => ∃ a xs, v = .ref a ∧ SqT K H a xs ∧ xs.length = n ∧ t xs σ H Q
theorem pg_tup {es : List Expr} {k : Nat} {t : TGs} {n : Nat} (hc : X.calm = true) (h : PGs X es t)
    (hn : (assignEach es X.env).length = n := by rfl) (hst : (assignEach es X.env).findIdx? (·.1) = none := by rfl) : PG X (.Tuple es k pos) (gTup X.K n t) := by
  intro pins s σ H v u Q I r hw
  obtain ⟨a, xs, e1, hq, hl, hw⟩ := hw
  subst e1
  cases r
  obtain ⟨its, rv, ht, hz⟩ := I.tuple hq
  refine assign_Tuple_tuple (I.ok.hd hc) ht (by simp [hn, ← hl, rv.length]) hst fun h' hx => ?_
  have I1 : Inv X pins σ H { s with heap := h' } := I.kept (t' := s.toks) fun b o e => hx b o (Nat.ne_of_lt (Heap.lt_size e)) e
  exact h pins _ σ H xs _ Q I1 (by simpa using rv) hw
/-- o[i] = .. -/
def gSub (to ti : TE) (t : TSet) : TG := fun v σ H Q => to σ H fun o H1 => ti σ H1 fun i H2 => t o i v H2 fun H3 => Q σ H3
theorem pg_sub {o i : Expr} {to ti : TE} {t : TSet} (ho : PE X o to) (hi : PE X i ti) (hs : PSet X t)
    (ha : ∀ v, assign (.Subscript o i pos) X.env v = (do
      let ov ← holding [v] (eval o X.env)
      let iv ← holding [v, ov] (eval i X.env)
      standAt pos
      holding [v, ov, iv] (setItem ov iv v)
      release [v, ov, iv] []) := by intro _; rfl) : PG X (.Subscript o i pos) (gSub to ti t) := by
  intro pins s σ H v u Q I r h
  rw [ha]
  refine wpAny_bind (wpAny_holding (thn (ho pins s σ H _ I h) fun ov s1 ⟨x, H1, I1, r1, q1⟩ => ?_))
  refine wpAny_bind (wpAny_holding (thn (hi pins s1 σ H1 _ I1 q1) fun iv s2 ⟨y, H2, I2, r2, q2⟩ => ?_))
  refine wpAny_bind (wpAny_standAt (wpAny_bind (wpAny_holding (thn (hs pins s2 σ H2 x y v ov iv u _ I2 r1 r2 r q2) fun _ s3 ⟨H3, I3, q3⟩ => ?_))))
  exact wpAny_release ⟨σ, H3, I3, q3⟩
/-- target = value -/
def tAsg (te : TE) (g : TG) : TS := fun D σ H => te σ H fun x H1 => g x σ H1 D.nx
theorem ps_asg {tg e : Expr} {te : TE} {g : TG} (he : PE X e te) (hg : PG X tg g) (hs : swapsWithSole [tg] e pos.line X.env = pure false := by rfl) (hw : swappedStores [tg] e X.env = pure none := by rfl)
    (h1 : (assignEach [tg] X.env).map (·.2) = [assign tg X.env] := by rfl) : PS X (.Assign [tg] e pos) (tAsg te g) := by
  intro pins s σ H D I h
  refine wpAny_Assign_stores (thn (he pins s σ H _ I h) fun v s1 ⟨x, H1, I1, r1, q1⟩ => ?_) hs hw
  rw [h1]
  exact thn (hg pins s1 σ H1 x v _ I1 r1 q1) fun _ s2 q => q
/-- name = value -/
theorem ps_set {i : Nat} {x : Str} {e : Expr} {te : TE} {pos' : Pos} (hN : X.N.Nodup) (hi : X.N[i]? = some x) (hx : Loc X.env.scope x) (he : PE X e te) (hs : swapsWith e (some (.Name x pos')) pos.line X.env = pure false := by rfl) (hf : X.fn x = true ∨ X.env.scope.names.lookup x = some .local := by first | exact .inl rfl | exact .inr rfl | assumption) :
    PS X (.Assign [.Name x pos'] e pos) (tAsg te (gName i)) := by
  intro pins s σ H D I h
  refine wpAny_Assign_Name (thn (he pins s σ H _ I h) fun v s1 ⟨y, H1, I1, r1, q1⟩ => ?_) hs
  exact store_ok I1 hN hi hx r1 (fun s2 I2 => ⟨_, H1, I2, q1⟩) hf
/-- a, b = x, y with plain local names: stored from the right; the pair itself is not tracked (the opening rows as in PyProof/Rows/TupAssign.lean:23) -/
def tPar (i j : Nat) (ta : TA) : TS := fun D σ H => ta σ H fun vs H1 => ∃ v w, vs = [v, w] ∧ D.nx ((σ.set i (some v)).set j (some w)) H1
theorem ps_par {i j : Nat} {x y : Str} {a b : Expr} {ta : TA} {px py pt : Pos} {kt k2 pt2} (hc : X.calm = true) (hN : X.N.Nodup) (hi : X.N[i]? = some x) (hj : X.N[j]? = some y) (hij : i ≠ j)
    (hx : X.env.scope.names.lookup x = some .local) (hy : X.env.scope.names.lookup y = some .local) (ha : PA X [a, b] ta)
    (hw : swappedStores [.Tuple [.Name x px, .Name y py] kt pt] (.Tuple [a, b] k2 pt2) X.env = pure (some [x, y]))
    (hs : swapsWithSole [.Tuple [.Name x px, .Name y py] kt pt] (.Tuple [a, b] k2 pt2) pos.line X.env = pure false := by rfl) :
    PS X (.Assign [.Tuple [.Name x px, .Name y py] kt pt] (.Tuple [a, b] k2 pt2) pos) (tPar i j ta) := by
  intro pins s σ H D I h
  rw [exec_Assign_arm]
  refine wpAny_bind (wpAny_standAt ?_)
  rw [hs]
  refine wpAny_bind (wpAny_pure ?_)
  rw [if_neg (by decide)]
  refine wpAny_bind (Tuple_ (thn (ha _ pins s σ H _ I h) fun us s1 ⟨vs, H1, I1, r1, q1⟩ => ?_))
  obtain ⟨v, w, e1, q1⟩ := q1
  subst e1
  obtain ⟨u1, u2, rfl, rv, rw'⟩ : ∃ u1 u2, us = [u1, u2] ∧ RelV v u1 ∧ RelV w u2 := by
    cases r1 with
    | cons p q =>
      cases q with
      | cons p' q' =>
        cases q'
        exact ⟨_, _, rfl, p, p'⟩
  refine wpAny_newObj_type ?_ (by show 2 ≤ sizeLine; decide)
  have I2 : Inv X pins σ H1 { s1 with heap := s1.heap.push { cls := .type "tuple", data := .seq [u1, u2].toArray } } := I1.kept (t' := s1.toks) fun b o e => Heap.get?_push_of_some _ e
  rw [hw]
  refine wpAny_bind (wpAny_pure ?_)
  show wpAny (model X.prog X.w) X.A (do rule "assign.swapped-stores"; let items ← unpackItems (.ref s1.heap.objs.size) 2 none; assignInOrder [fun v => bindName X.env y v, fun v => bindName X.env x v] items.reverse; pure Flow.next) _ _ _
  refine wpAny_bind (wpAny_rule (wpAny_bind (unpackItems_tuple (items := #[u1, u2]) (I.ok.hd hc) (IsTup.new s1.heap _) fun h' hx' => ?_)))
  have I3 := I2.kept (h' := h') (t' := s1.toks) fun b o e => hx' b o (Nat.ne_of_lt (Heap.lt_size e)) e
  show wpAny _ _ (assignInOrder [fun v => bindName X.env y v, fun v => bindName X.env x v] [u2, u1] >>= fun _ => pure Flow.next) _ _ _
  refine wpAny_bind (assignInOrder_cons (wpAny_bindName (store_ok I3 hN hj (.inl hy) rw' (fun s2 I4 => ?_) (.inr hy))))
  refine assignInOrder_cons (wpAny_bindName (store_ok I4 hN hi (.inl hx) rv (fun s3 I5 => assignInOrder_nil (wpAny_pure ?_)) (.inr hx)))
  rw [List.set_comm _ _ (Ne.symm hij)] at I5
  exact ⟨_, H1, I5, q1⟩
/-- name op= e -/
def tAug (i : Nat) (te : TE) (ti : TIp) : TS := fun D σ H => ∃ x, σ[i]? = some (some x) ∧ te σ H fun y H1 => ti x y H1 fun z H2 => D.nx (σ.set i (some z)) H2
theorem ps_aug {i : Nat} {x : Str} {e : Expr} {te : TE} {op : Operator} {ti : TIp} {pos' : Pos} (hN : X.N.Nodup) (hi : X.N[i]? = some x) (hx : Loc X.env.scope x) (he : PE X e te) (ho : PIp X op ti) (hf : X.fn x = true ∨ X.env.scope.names.lookup x = some .local := by first | exact .inl rfl | exact .inr rfl | assumption) :
    PS X (.AugAssign (.Name x pos') op e pos) (tAug i te ti) := by
  intro pins s σ H D I h
  obtain ⟨v, e1, h⟩ := h
  obtain ⟨m, hn, hl⟩ := I.loc
  have vis : Vis X.env.scope x := by rcases hx with k | k; exact .inl k; exact .inr (.inl k)
  obtain ⟨u, r, l⟩ := hl i x v hi e1 vis
  refine wpAny_AugAssign_Name ?_
  have go : wpAny (model X.prog X.w) X.A (eval e X.env) (fun w s₂ => wpAny (model X.prog X.w) X.A (inplaceOp op u w) (fun r s₃ => wpAny (model X.prog X.w) X.A (storeName X.env x r) (fun _ => SP X pins D .next) X.xe s₃) X.xe s₂) X.xe s := by
    refine thn (he pins s σ H _ I h) fun w s1 ⟨y, H1, I1, r1, q1⟩ => ?_
    refine thn (ho pins s1 σ H1 v y u w _ I1 r r1 q1) fun z s2 ⟨zv, H2, I2, r2, q2⟩ => ?_
    exact store_ok I2 hN hi hx r2 (fun s3 I3 => ⟨_, H2, I3, q2⟩) hf
  rcases l with ⟨hk, hm⟩ | ⟨hk, c, hc, hcell⟩
  · exact wpAny_loadName_local I.ok.kind hk hn hm go
  · rcases hk with hk | hk
    · exact wpAny_loadName_cell I.ok.kind hk hc hcell go
    · rcases hx with k | k
      · have : X.env.scope.names.lookup x = some .free := hk
        rw [k] at this; cases this
      · have : X.env.scope.names.lookup x = some .free := hk
        rw [k] at this; cases this
/-- o[i] op= e -/
def tAugS (to ti te : TE) (tget : V → V → Hp → VK → Prop) (tip : TIp) (tset : TSet) : TS := fun D σ H => to σ H fun o H1 => ti σ H1 fun i H2 => tget o i H2 fun x H3 => te σ H3 fun y H4 => tip x y H4 fun z H5 => tset o i z H5 fun H6 => D.nx σ H6
/-- o[i], by values -/
def PGet (X : Cx) (t : V → V → Hp → VK → Prop) : Prop :=
  ∀ (pins : List (Addr × Obj)) (s : Shared) (σ : St) (H : Hp) (o i : V) (ov iv : Value) (Q : VK), Inv X pins σ H s → RelV o ov → RelV i iv → t o i H Q →
    wpAny (model X.prog X.w) X.A (getItem ov iv) (EP X pins σ Q) X.xe s
theorem ps_augS {o i e : Expr} {to ti te : TE} {tget : V → V → Hp → VK → Prop} {tip : TIp} {tset : TSet} {op : Operator} {tpos : Pos} (ho : PE X o to) (hi : PE X i ti) (hg : PGet X tget) (he : PE X e te) (hp : PIp X op tip) (hs : PSet X tset)
    (ha : ∀ ov iv new, augStore i ov iv new = (do holding [new, ov, iv] (setItem ov iv new); release [new, ov, iv] []; pure .next) := by intros; rfl) : PS X (.AugAssign (.Subscript o i tpos) op e pos) (tAugS to ti te tget tip tset) := by
  intro pins s σ H D I h
  refine wpAny_AugAssign_SubscriptAny (thn (ho pins s σ H _ I h) fun ov s1 ⟨x1, H1, I1, r1, q1⟩ => ?_) ha
  refine thn (hi pins s1 σ H1 _ I1 q1) fun iv s2 ⟨x2, H2, I2, r2, q2⟩ => ?_
  refine thn (hg pins s2 σ H2 x1 x2 ov iv _ I2 r1 r2 q2) fun old s3 ⟨x3, H3, I3, r3, q3⟩ => ?_
  refine thn (he pins s3 σ H3 _ I3 q3) fun v s4 ⟨x4, H4, I4, r4, q4⟩ => ?_
  refine thn (hp pins s4 σ H4 x3 x4 old v _ I4 r3 r4 q4) fun new s5 ⟨x5, H5, I5, r5, q5⟩ => ?_
  exact thn (hs pins s5 σ H5 x1 x2 x5 ov iv new _ I5 r1 r2 r5 q5) fun _ s6 ⟨H6, I6, q6⟩ => ⟨σ, H6, I6, q6⟩
/-- ints -/
def ipI (f : Int → Int → Int) : TIp := fun x y H Q => ∃ i j, x = .int i ∧ y = .int j ∧ Q (.int (f i j)) H
theorem ip_add : PIp X .Add (ipI fun i j => i + j) := by
  intro pins s σ H x y v u Q I r1 r2 h
  obtain ⟨i, j, e1, e2, q⟩ := h
  subst e1; subst e2
  obtain ⟨t, rfl⟩ := r1
  obtain ⟨t', rfl⟩ := r2
  exact iadd_int ⟨.int _, H, I.tok _, ⟨_, rfl⟩, q⟩
theorem ip_sub : PIp X .Sub (ipI fun i j => i - j) := by
  intro pins s σ H x y v u Q I r1 r2 h
  obtain ⟨i, j, e1, e2, q⟩ := h
  subst e1; subst e2
  obtain ⟨t, rfl⟩ := r1
  obtain ⟨t', rfl⟩ := r2
  exact isub_int ⟨.int _, H, I.tok _, ⟨_, rfl⟩, q⟩
end

/-! ### while -/
section
variable {X : Cx} {pos : Pos}
/-- the invariant W with its measure -/
def tWhile (c : TT) (tb : TS) : TS := fun D σ H => ∃ W : Nat → St → Hp → Prop, (∃ m, W m σ H) ∧ ∀ m σ H, W m σ H →
  c σ H fun b H1 => if b = true then ∃ N : St → Hp → Prop, (∀ σ' H', N σ' H' → ∃ m', m' < m ∧ W m' σ' H') ∧ tb { D with nx := N, ct := N, bk := D.nx } σ H1 else D.nx σ H1
theorem ps_while {c : Expr} {body : List Stmt} {tc : TT} {tb : TS} (hp : PassesOwn (model X.prog X.w) X.A X.env X.xe) (hc : PT X c tc) (hb : PSs X body tb) : PS X (.While c body [] pos) (tWhile tc tb) := by
  intro pins s σ H D I h
  obtain ⟨W, ⟨m0, w0⟩, turn⟩ := h
  refine wpAny_While (codeAny_whileLoop (fun n s' => ∃ σ' H', Inv X pins σ' H' s' ∧ W n σ' H') ?_ m0 ⟨σ, H, I, w0⟩)
  rintro n s1 ⟨σ1, H1, I1, w1⟩
  refine wpAny_passesOwn hp (thn (hc pins s1 σ1 H1 _ I1 (turn n σ1 H1 w1)) fun b s2 ⟨H2, I2, q2⟩ => ?_)
  cases b with
  | true =>
    obtain ⟨N, hN, q2⟩ := q2
    rw [if_pos rfl]
    refine wpAny_passesOwn hp (thn (hb pins s2 σ1 H2 _ I2 q2) fun f s3 q3 => ?_)
    cases f with
    | next =>
      obtain ⟨σ3, H3, I3, n3⟩ := q3
      obtain ⟨m', hm, w3⟩ := hN σ3 H3 n3
      exact ⟨m', hm, σ3, H3, I3, w3⟩
    | cont =>
      obtain ⟨σ3, H3, I3, n3⟩ := q3
      obtain ⟨m', hm, w3⟩ := hN σ3 H3 n3
      exact ⟨m', hm, σ3, H3, I3, w3⟩
    | brk => exact q3
    | ret v => exact q3
  | false =>
    rw [if_neg Bool.false_ne_true]
    exact wpAny_execs_nil ⟨σ1, H2, I2, q2⟩
end

/-! ### what a loop or a comprehension walks -/
/-- at turn i: it yields x (the heap may grow), or it stops -/
structure It where
  go : Nat → Hp → Prop
  yld : Nat → Hp → V → Hp → Prop
  stop : Nat → Hp → Prop
/-- the iterator's own objects may turn: they are not the frame's, not pinned, younger than the entry (or a comprehension's own) -/
def FpOk (X : Cx) (pins : List (Addr × Obj)) (H : Hp) (b : Addr) : Prop :=
  H b = none ∧ b ≠ X.env.locals ∧ b ∉ X.fs ∧ (b ∈ X.ex ∨ X.s₀.heap.objs.size ≤ b) ∧ (∀ x c, X.env.cells.lookup x = some c → c ≠ b) ∧ ∀ p ∈ X.pn ++ pins, p.1 ≠ b
theorem Inv.fpOk {X : Cx} {pins : List (Addr × Obj)} {σ : St} {H H' : Hp} {s : Shared} {b : Addr} (I : Inv X pins σ H s) (hb : s.heap.objs.size ≤ b) (hn : H' b = none) : FpOk X pins H' b := by
  refine ⟨hn, Nat.ne_of_gt (Nat.lt_of_lt_of_le I.lt hb), I.nofs hb, .inr (Nat.le_trans I.sz hb), fun x c e z => ?_, fun p hp z => ?_⟩
  · obtain ⟨v, q⟩ := I.cell x c e
    exact absurd (Nat.lt_of_lt_of_le q.lt (by rw [z]; exact hb)) (Nat.lt_irrefl _)
  · exact absurd (Nat.lt_of_lt_of_le (Heap.lt_size (I.pin p hp).1) (by rw [z]; exact hb)) (Nat.lt_irrefl _)
structure Turn (P : Program) (w : World) (K : PySem.W.Frag) (tg : Expr) (J : It) (fp : List Addr) (it : Addr) (tn : Nat → Heap → Prop) : Prop where
  mem : it ∈ fp
  obj : ∀ i h, tn i h → ∀ b ∈ fp, ∃ o, h.get? b = some o ∧ ∀ v, o.data ≠ .cell v
  keep : ∀ i h h', tn i h → (∀ b ∈ fp, ∀ o, h.get? b = some o → h'.get? b = some o) → tn i h'
  item : ∀ (X : Cx), X.prog = P → X.w = w → X.K = K → X.calm = true → ∀ (i : Nat) (pins : List (Addr × Obj)) (s : Shared) (σ : St) (H : Hp) (E : Value → Shared → Prop), Inv X pins σ H s → (∀ b ∈ fp, FpOk X pins H b) → tn i s.heap → J.go i H →
    wpAny (model P w) X.A (pyNext (.ref it)) (fun r s1 => ∃ u, r = some u ∧
      wpAny (model P w) X.A (letOwnedTupleGo tg (.ref it) u) (fun _ s2 => ∃ x H', Inv X pins σ H' s2 ∧ RelV x u ∧ J.yld i H x H' ∧ tn (i + 1) s2.heap ∧ ∀ b ∈ fp, H' b = none) E s1) E s
  done : ∀ (X : Cx), X.prog = P → X.w = w → X.K = K → X.calm = true → ∀ (i : Nat) (pins : List (Addr × Obj)) (s : Shared) (σ : St) (H : Hp) (E : Value → Shared → Prop), Inv X pins σ H s → (∀ b ∈ fp, FpOk X pins H b) → tn i s.heap → J.stop i H →
    wpAny (model P w) X.A (pyNext (.ref it)) (fun r s1 => r = none ∧ Inv X pins σ H s1) E s
  self : ∀ (A : Around) (i : Nat) (s : Shared) (Q : Value → Shared → Prop) (E : Value → Shared → Prop), tn i s.heap → Q (.ref it) s → wpAny (model P w) A (pyIter (.ref it)) Q E s
abbrev TI := St → Hp → (It → Hp → Prop) → Prop
/-- an iterator has come -/
def PIE (X : Cx) (pins : List (Addr × Obj)) (σ : St) (tg : Expr) (R : It → Hp → Prop) (itv : Value) (s2 : Shared) : Prop :=
  ∃ (it : Addr) (fp : List Addr) (tn : Nat → Heap → Prop) (J : It) (H' : Hp), itv = .ref it ∧ Inv X pins σ H' s2 ∧ Turn X.prog X.w X.K tg J fp it tn ∧ tn 0 s2.heap ∧ (∀ b ∈ fp, FpOk X pins H' b) ∧ R J H'
def PI (X : Cx) (tg iter : Expr) (wi : TI) : Prop :=
  ∀ (pins : List (Addr × Obj)) (s : Shared) (σ : St) (H : Hp) (R : It → Hp → Prop), Inv X pins σ H s → wi σ H R →
    wpAny (model X.prog X.w) X.A (eval iter X.env) (fun v s1 => wpAny (model X.prog X.w) X.A (pyIter v) (PIE X pins σ tg R) X.xe s1) X.xe s

/-- the step ahead of the store is nothing for an iterator that keeps no tuple -/
theorem go_of {M : Model} {A : Around} {E : Value → Shared → Prop} {s : Shared} {tg : Expr} {it : Addr} {u : Value} {o : Obj} {n : String} {vs : Array Value} {Q : Unit → Shared → Prop} (ho : s.heap.get? it = some o) (hc : o.cls = .type n) (hd : o.data = .fields vs)
    (hn : ["enumerate", "zip", "dict_itemiterator", "dict_reverseitemiterator", "odict_iterator", "itertools.zip_longest", "itertools.pairwise"].contains n = false) (hQ : Q () s) : wpAny M A (letOwnedTupleGo tg (.ref it) u) Q E s := by
  unfold letOwnedTupleGo
  cases tg <;> first
    | exact wpAny_pure hQ
    | (cases u <;> first
        | exact wpAny_pure hQ
        | (refine wpAny_bind (wpAny_load ho ?_)
           rw [hc, hd]
           show wpAny M A (if (["enumerate", "zip", "dict_itemiterator", "dict_reverseitemiterator", "odict_iterator", "itertools.zip_longest", "itertools.pairwise"].contains n && vs[0]? == some (rawInt _)) = true then _ else _) Q E s
           rw [if_neg (by intro h; rw [hn, Bool.false_and] at h; cases h)]
           exact wpAny_pure hQ))

/-- the list at a, as it stands at each turn (a loop may append to it) -/
def Itl (K : PySem.W.Frag) (a : Addr) : It :=
  ⟨fun i H => ∃ xs x, SqL K H a xs ∧ xs[i]? = some x, fun i H x H' => H' = H ∧ ∀ xs, SqL K H a xs → xs[i]? = some x, fun i H => ∃ xs, SqL K H a xs ∧ xs.length ≤ i⟩
def Itt (K : PySem.W.Frag) (a : Addr) : It :=
  ⟨fun i H => ∃ xs x, SqT K H a xs ∧ xs[i]? = some x, fun i H x H' => H' = H ∧ ∀ xs, SqT K H a xs → xs[i]? = some x, fun i H => ∃ xs, SqT K H a xs ∧ xs.length ≤ i⟩
/-- lo, lo + 1, .. (n of them) -/
def Itr (lo : Int) (n : Nat) : It := ⟨fun i _ => i < n, fun i H x H' => H' = H ∧ x = .int (lo + i), fun i _ => n ≤ i⟩
theorem turn_list {P : Program} {w : World} {K : PySem.W.Frag} {tg : Expr} (a it : Addr) : Turn P w K tg (Itl K a) [it] it (fun i h => h.IsListIter it a i) where
  mem := by simp
  obj := fun i h st b hb => by
    have e : b = it := by simpa using hb
    subst e
    obtain ⟨o, e, c, d⟩ := st
    exact ⟨o, e, fun v z => by rw [d] at z; cases z⟩
  keep := fun i h h' st k => st.at fun o e => k it (by simp) o e
  item := by
    intro X hP hw hK hc i pins s σ H E I hf st hg
    subst hP hw hK
    obtain ⟨xs, x, hq, hx⟩ := hg
    obtain ⟨its, rv, p, hz⟩ := I.list hq
    obtain ⟨u, hu, ru⟩ := rv.get hx
    obtain ⟨f0, f1, f2, f3, f4, f5⟩ := hf it (by simp)
    refine wpAny_pyNext_list_item st p.isList (x := u) (by simpa using hu) fun h' st' sb => ?_
    have I1 : Inv X pins σ H { s with heap := h' } := I.turned (t' := s.toks) (fun b o hb e => (sb.2 b hb).trans e) f0 f1 f3 f4 f5
    obtain ⟨o, e, c, d⟩ := id st'
    exact ⟨u, rfl, go_of (s := { s with heap := h' }) e c d (by decide) ⟨x, H, I1, ru, ⟨rfl, fun ys hy => by rw [I.list_inj hy hq]; exact hx⟩, st', fun b hb => (hf b hb).1⟩⟩
  done := by
    intro X hP hw hK hc i pins s σ H E I hf st hg
    subst hP hw hK
    obtain ⟨xs, hq, hx⟩ := hg
    obtain ⟨its, rv, p, hz⟩ := I.list hq
    obtain ⟨f0, f1, f2, f3, f4, f5⟩ := hf it (by simp)
    have hl := rv.length
    exact wpAny_pyNext_list_end (I.ok.hd hc) st p.isList (by simp; omega) fun h' eb => ⟨rfl, I.turned (t' := s.toks) (fun b o hb e => eb b o hb e) f0 f1 f3 f4 f5⟩
  self := fun _ _ _ _ _ st h => wpAny_pyIter_listiter st h
theorem turn_tuple {P : Program} {w : World} {K : PySem.W.Frag} {tg : Expr} (a it : Addr) : Turn P w K tg (Itt K a) [it] it (fun i h => h.IsTupleIter it a i) where
  mem := by simp
  obj := fun i h st b hb => by
    have e : b = it := by simpa using hb
    subst e
    obtain ⟨o, e, c, d⟩ := st
    exact ⟨o, e, fun v z => by rw [d] at z; cases z⟩
  keep := fun i h h' st k => st.at fun o e => k it (by simp) o e
  item := by
    intro X hP hw hK hc i pins s σ H E I hf st hg
    subst hP hw hK
    obtain ⟨xs, x, hq, hx⟩ := hg
    obtain ⟨its, rv, p, hz⟩ := I.tuple hq
    obtain ⟨u, hu, ru⟩ := rv.get hx
    obtain ⟨f0, f1, f2, f3, f4, f5⟩ := hf it (by simp)
    refine wpAny_pyNext_tuple_item st (show s.heap.IsTuple a its.toArray from p) (x := u) (by simpa using hu) fun h' st' sb => ?_
    have I1 : Inv X pins σ H { s with heap := h' } := I.turned (t' := s.toks) (fun b o hb e => (sb.2 b hb).trans e) f0 f1 f3 f4 f5
    obtain ⟨o, e, c, d⟩ := id st'
    exact ⟨u, rfl, go_of (s := { s with heap := h' }) e c d (by decide) ⟨x, H, I1, ru, ⟨rfl, fun ys hy => by rw [I.tuple_inj hy hq]; exact hx⟩, st', fun b hb => (hf b hb).1⟩⟩
  done := by
    intro X hP hw hK hc i pins s σ H E I hf st hg
    subst hP hw hK
    obtain ⟨xs, hq, hx⟩ := hg
    obtain ⟨its, rv, p, hz⟩ := I.tuple hq
    obtain ⟨f0, f1, f2, f3, f4, f5⟩ := hf it (by simp)
    have hl := rv.length
    exact wpAny_pyNext_tuple_end (I.ok.hd hc) st (show s.heap.IsTuple a its.toArray from p) (by simp; omega) fun h' eb => ⟨rfl, I.turned (t' := s.toks) (fun b o hb e => eb b o hb e) f0 f1 f3 f4 f5⟩
  self := fun _ _ _ _ _ st h => wpAny_pyIter_tupleiter st h
theorem turn_range {P : Program} {w : World} {K : PySem.W.Frag} {tg : Expr} (it : Addr) (lo : Int) (n : Nat) : Turn P w K tg (Itr lo n) [it] it (fun i h => IsRangeIter h it (lo + (i : Nat) * 1) ((n : Int) - (i : Nat)) 1) where
  mem := by simp
  obj := fun i h st b hb => by
    have e : b = it := by simpa using hb
    subst e
    exact ⟨_, st, fun v z => by
      have z' : Data.fields _ = Data.cell v := z
      cases z'⟩
  keep := fun i h h' st k => k it (by simp) _ st
  item := by
    intro X hP hw hK hc i pins s σ H E I hf st hg
    subst hP hw hK
    obtain ⟨f0, f1, f2, f3, f4, f5⟩ := hf it (by simp)
    have W := Walks.range (prog := X.prog) (w := X.w) (I.ok.hd hc) it lo 1 n
    refine W.item i s _ _ hg st fun v h' tk hv st' kk => ?_
    obtain ⟨t, rfl⟩ := hv
    have I1 : Inv X pins σ H { s with heap := h', toks := tk } := I.turned (fun b o hb e => kk b o (by simpa using hb) e) f0 f1 f3 f4 f5
    refine ⟨_, rfl, go_of (s := { s with heap := h', toks := tk }) (n := "range_iterator") st' rfl rfl (by decide) ⟨.int (lo + i), H, I1, ⟨t, ?_⟩, ⟨rfl, rfl⟩, st', fun b hb => (hf b hb).1⟩⟩
    rw [Int.mul_one]
  done := by
    intro X hP hw hK hc i pins s σ H E I hf st hg
    subst hP hw hK
    obtain ⟨f0, f1, f2, f3, f4, f5⟩ := hf it (by simp)
    exact wpAny_pyNext_range_end (I.ok.hd hc) st (by have : n ≤ i := hg; omega) fun h' eb => ⟨rfl, I.turned (t' := s.toks) (fun b o hb e => eb b o hb e) f0 f1 f3 f4 f5⟩
  self := fun _ _ _ _ _ st h => wpAny_pyIter_rangeiter st h
end L2

namespace L2
open PySem PySem.Spec PyProof.Rows
section
variable {X : Cx} {tg : Expr}
def iList (K : PySem.W.Frag) (tl : TE) : TI := fun σ H R => tl σ H fun x H1 => ∃ a, x = .ref a ∧ (∃ xs, SqL K H1 a xs) ∧ R (Itl K a) H1
def iTup (K : PySem.W.Frag) (tl : TE) : TI := fun σ H R => tl σ H fun x H1 => ∃ a, x = .ref a ∧ (∃ xs, SqT K H1 a xs) ∧ R (Itt K a) H1
theorem pi_list {l : Expr} {tl : TE} (hl : PE X l tl) : PI X tg l (iList X.K tl) := by
  intro pins s σ H R I h
  refine thn (hl pins s σ H _ I h) fun v s1 ⟨x, H1, I1, r1, q1⟩ => ?_
  obtain ⟨a, e, ⟨xs, hq⟩, q⟩ := q1
  subst e
  cases r1
  obtain ⟨its, rv, p, hz⟩ := I1.list hq
  refine wpAny_pyIter_list p.isList ?_
  refine ⟨s1.heap.objs.size, [s1.heap.objs.size], _, _, H1, rfl, I1.kept (t' := s1.toks) fun b o e => Heap.get?_push_of_some _ e, turn_list a _, ⟨_, Heap.get?_push_size _ rfl, rfl, rfl⟩, fun b hb => ?_, q⟩
  have e : b = s1.heap.objs.size := by simpa using hb
  subst e
  exact I1.fpOk (Nat.le_refl _) (I1.hok.fresh (Nat.le_refl _))
theorem pi_tup {l : Expr} {tl : TE} (hl : PE X l tl) : PI X tg l (iTup X.K tl) := by
  intro pins s σ H R I h
  refine thn (hl pins s σ H _ I h) fun v s1 ⟨x, H1, I1, r1, q1⟩ => ?_
  obtain ⟨a, e, ⟨xs, hq⟩, q⟩ := q1
  subst e
  cases r1
  obtain ⟨its, rv, p, hz⟩ := I1.tuple hq
  refine wpAny_pyIter_tuple (show s1.heap.IsTuple a its.toArray from p) ?_
  refine ⟨s1.heap.objs.size, [s1.heap.objs.size], _, _, H1, rfl, I1.kept (t' := s1.toks) fun b o e => Heap.get?_push_of_some _ e, turn_tuple a _, ⟨_, Heap.get?_push_size _ rfl, rfl, rfl⟩, fun b hb => ?_, q⟩
  have e : b = s1.heap.objs.size := by simpa using hb
  subst e
  exact I1.fpOk (Nat.le_refl _) (I1.hok.fresh (Nat.le_refl _))
/-- a range object just made, walked -/
theorem range_it {pins : List (Addr × Obj)} {σ : St} {H : Hp} {s : Shared} {R : It → Hp → Prop} {E : Value → Shared → Prop} {lo hi : Int} {t u v : Tok} {tk : Nat} (I : Inv X pins σ H s) (h1 : -(2 ^ 62) ≤ lo) (h2 : lo < 2 ^ 62) (h3 : -(2 ^ 62) ≤ hi) (h4 : hi < 2 ^ 62)
    (q : R (Itr lo (hi - lo).toNat) H) : wpAny (model X.prog X.w) X.A (pyIter (.ref s.heap.objs.size)) (PIE X pins σ tg R) E { s with heap := s.heap.push { cls := .type "range", data := .fields #[.int lo t, .int hi u, .int 1 v] }, toks := tk } := by
  refine wpAny_pyIter_range (IsRange.new ..) (small_one h1 h2 h3 h4) ?_
  have I1 : Inv X pins σ H { s with heap := s.heap.push { cls := .type "range", data := .fields #[.int lo t, .int hi u, .int 1 v] }, toks := tk } := I.kept fun b o e => Heap.get?_push_of_some _ e
  refine ⟨(s.heap.push { cls := .type "range", data := .fields #[.int lo t, .int hi u, .int 1 v] }).objs.size, [(s.heap.push { cls := .type "range", data := .fields #[.int lo t, .int hi u, .int 1 v] }).objs.size], _, _, H, rfl,
    I1.kept (t' := tk) fun b o e => Heap.get?_push_of_some _ e, turn_range _ lo (hi - lo).toNat, ?_, fun b hb => ?_, q⟩
  · have e1 : lo + ((0 : Nat) : Int) * 1 = lo := by simp
    have e2 : (((hi - lo).toNat : Nat) : Int) - ((0 : Nat) : Int) = Builtin.Range.rangeSize lo hi 1 := by rw [rangeSize_one]; split <;> omega
    show IsRangeIter _ _ (lo + ((0 : Nat) : Int) * 1) ((((hi - lo).toNat : Nat) : Int) - ((0 : Nat) : Int)) 1
    rw [e1, e2]
    exact Heap.get?_push_size _ rfl
  · have e : b = (s.heap.push { cls := .type "range", data := .fields #[.int lo t, .int hi u, .int 1 v] }).objs.size := by simpa using hb
    subst e
    exact I1.fpOk (Nat.le_refl _) (I1.hok.fresh (Nat.le_refl _))
def iRng1 (ta : TA) : TI := fun σ H R => ta σ H fun vs H1 => ∃ j : Int, vs = [.int j] ∧ -(2 ^ 62) ≤ j ∧ j < 2 ^ 62 ∧ R (Itr 0 j.toNat) H1
def iRng2 (ta : TA) : TI := fun σ H R => ta σ H fun vs H1 => ∃ i j : Int, vs = [.int i, .int j] ∧ (-(2 ^ 62) ≤ i ∧ i < 2 ^ 62 ∧ -(2 ^ 62) ≤ j ∧ j < 2 ^ 62) ∧ R (Itr i (j - i).toNat) H1
theorem pi_range1 {a : Expr} {ta : TA} {p pos : Pos} (hg : Gl X "range") (hm : X.mg "range" = none) (ha : PA X [a] ta) (hs : starEach [a] X.env = [(false, eval a X.env)] := by rfl) : PI X tg (.Call (.Name "range" p) [a] [] pos) (iRng1 ta) := by
  intro pins s σ H R I h
  refine Call_ (ld_blt I hg hm boot_range (PyProof.Rows.callWith_type1 (thn (ha pos pins s σ H _ I h) fun us s1 ⟨vs, H1, I1, r1, q1⟩ => ?_) hs rfl))
  obtain ⟨j, e, q1, q2, q⟩ := q1
  subst e
  cases r1 with
  | cons r rr =>
    cases rr
    obtain ⟨t, rfl⟩ := r
    exact call_range_1 (range_it I1 (by omega) (by omega) q1 q2 (by simpa using q))
theorem pi_range2 {a b : Expr} {ta : TA} {p pos : Pos} (hg : Gl X "range") (hm : X.mg "range" = none) (ha : PA X [a, b] ta) (hs : starEach [a, b] X.env = [(false, eval a X.env), (false, eval b X.env)] := by rfl) (hs2 : starEach [b] X.env = [(false, eval b X.env)] := by rfl) :
    PI X tg (.Call (.Name "range" p) [a, b] [] pos) (iRng2 ta) := by
  intro pins s σ H R I h
  refine Call_ (ld_blt I hg hm boot_range (PyProof.Rows.callWith_type1 (thn (ha pos pins s σ H _ I h) fun us s1 ⟨vs, H1, I1, r1, q1⟩ => ?_) (by rw [hs, hs2]) (by rw [hs2]; rfl)))
  obtain ⟨i, j, e, ⟨q1, q2, q3, q4⟩, q⟩ := q1
  subst e
  cases r1 with
  | cons r rr =>
    cases rr with
    | cons r' rr =>
      cases rr
      obtain ⟨t, rfl⟩ := r
      obtain ⟨t', rfl⟩ := r'
      exact call_range_2 (range_it I1 q1 q2 q3 q4 q)

/-! ### for -/
/-- W: the invariant by the turn and a measure; N: what the body is to reach -/
def tFor (wi : TI) (g : TG) (tb : TS) : TS := fun D σ H => wi σ H fun J H1 => ∃ W : Nat → Nat → St → Hp → Prop, (∃ m, W 0 m σ H1) ∧ ∀ i m σ H, W i m σ H →
  (J.stop i H ∧ D.nx σ H) ∨ (J.go i H ∧ ∃ N : St → Hp → Prop, (∀ σ' H', N σ' H' → ∃ m', m' < m ∧ W (i + 1) m' σ' H') ∧ ∀ x H', J.yld i H x H' → g x σ H' fun σ2 H2 => tb { D with nx := N, ct := N, bk := D.nx } σ2 H2)
/-- the records at fp as they stand -/
def pinsAt (fp : List Addr) (h : Heap) : List (Addr × Obj) := fp.filterMap fun b => (h.get? b).map fun o => (b, o)
theorem mem_pinsAt {fp : List Addr} {h : Heap} {b : Addr} {o : Obj} (hb : b ∈ fp) (e : h.get? b = some o) : (b, o) ∈ pinsAt fp h := List.mem_filterMap.mpr ⟨b, hb, by rw [e]; rfl⟩
theorem of_pinsAt {fp : List Addr} {h : Heap} {p : Addr × Obj} (hp : p ∈ pinsAt fp h) : p.1 ∈ fp ∧ h.get? p.1 = some p.2 := by
  obtain ⟨b, hb, e⟩ := List.mem_filterMap.mp hp
  cases q : h.get? b with
  | none => rw [q] at e; cases e
  | some o =>
    rw [q] at e
    have e' : (b, o) = p := Option.some.inj e
    subst e'
    exact ⟨hb, q⟩
theorem Inv.pinned {pins : List (Addr × Obj)} {σ : St} {H : Hp} {s : Shared} {fp : List Addr} (I : Inv X pins σ H s) (hf : ∀ b ∈ fp, FpOk X pins H b) (ho : ∀ b ∈ fp, ∃ o, s.heap.get? b = some o ∧ ∀ v, o.data ≠ .cell v) : Inv X (pins ++ pinsAt fp s.heap) σ H s :=
  I.pins_of fun p hp => (List.mem_append.mp hp).elim (fun z => I.pin p (List.mem_append_right _ z)) fun z => by
    obtain ⟨hb, e⟩ := of_pinsAt z
    obtain ⟨f0, f1, f2, _⟩ := hf p.1 hb
    obtain ⟨o, e', d⟩ := ho p.1 hb
    rw [e] at e'; cases e'
    exact ⟨e, f0, f1, f2, d⟩
theorem Inv.unpinned {pins pl : List (Addr × Obj)} {σ : St} {H : Hp} {s : Shared} (I : Inv X (pins ++ pl) σ H s) : Inv X pins σ H s := I.pins_of fun p hp => I.pin p (List.mem_append_right _ (List.mem_append_left _ hp))
theorem ps_for {iter : Expr} {body : List Stmt} {wi : TI} {g : TG} {tb : TS} {pos : Pos} (hp : PassesOwn (model X.prog X.w) X.A X.env X.xe) (hc : X.calm = true) (hi : PI X tg iter wi) (hg : PG X tg g) (hb : PSs X body tb)
    (hs : ∀ x, foldedSetIterable iter X.env x = pure x := by intro _; rfl) : PS X (.For tg iter body [] pos) (tFor wi g tb) := by
  intro pins s σ H D I h
  refine wpAny_For (thn (hi pins s σ H _ I h) fun v s1 h1 => thn h1 fun itv s2 h2 => ?_) hs
  obtain ⟨it, fp, tn, J, H2, e, I2, T, st2, f2, W, ⟨m0, w0⟩, turn⟩ := h2
  subst e
  -- what stays true of the iterator's objects through the loop
  have stat : ∀ {H' : Hp}, (∀ b ∈ fp, H' b = none) → ∀ b ∈ fp, FpOk X pins H' b := fun hn b hb => ⟨hn b hb, (f2 b hb).2⟩
  refine codeAny_forLoop_any (fun n s' => ∃ i σ' H', Inv X pins σ' H' s' ∧ tn i s'.heap ∧ (∀ b ∈ fp, H' b = none) ∧ W i n σ' H') ?_ m0 ⟨0, σ, H2, I2, st2, fun b hb => (f2 b hb).1, w0⟩
  rintro n s3 ⟨i, σ3, H3, I3, st3, fr3, w3⟩
  rcases turn i n σ3 H3 w3 with ⟨stop, qn⟩ | ⟨go, N, hN, step⟩
  · refine wpAny_passesOwn hp (thn (T.done X rfl rfl rfl hc i pins s3 σ3 H3 X.xe I3 (stat fr3) st3 stop) fun r s4 ⟨hr, I4⟩ => ?_)
    subst hr
    exact wpAny_execs_nil ⟨σ3, H3, I4, qn⟩
  · refine wpAny_passesOwn hp (thn (T.item X rfl rfl rfl hc i pins s3 σ3 H3 X.xe I3 (stat fr3) st3 go) fun r s4 ⟨u, hr, h4⟩ => ?_)
    subst hr
    refine wpAny_passesOwn hp (thn h4 fun _ s5 ⟨x, H5, I5, r5, y5, st5, fr5⟩ => ?_)
    have I5' := I5.pinned (stat fr5) (T.obj _ _ st5)
    refine wpAny_passesOwn hp (thn (hg _ s5 σ3 H5 x u _ I5' r5 (step x H5 y5)) fun _ s6 ⟨σ6, H6, I6, q6⟩ => ?_)
    refine wpAny_passesOwn hp (thn (hb _ s6 σ6 H6 _ I6 q6) fun f s7 q7 => ?_)
    have again : ∀ {σ7 : St} {H7 : Hp}, Inv X (pins ++ pinsAt fp s5.heap) σ7 H7 s7 → N σ7 H7 → ∃ m, m < n ∧ ∃ i σ' H', Inv X pins σ' H' s7 ∧ tn i s7.heap ∧ (∀ b ∈ fp, H' b = none) ∧ W i m σ' H' := fun {σ7 H7} I7 n7 => by
      obtain ⟨m', hm, w7⟩ := hN σ7 H7 n7
      refine ⟨m', hm, i + 1, σ7, H7, I7.unpinned, T.keep _ _ _ st5 fun b hb o e => (I7.pin (b, o) (List.mem_append_right _ (List.mem_append_right _ (mem_pinsAt hb e)))).1, fun b hb => ?_, w7⟩
      obtain ⟨o, e, d⟩ := T.obj _ _ st5 b hb
      exact (I7.pin (b, o) (List.mem_append_right _ (List.mem_append_right _ (mem_pinsAt hb e)))).2.1
    cases f with
    | next => obtain ⟨σ7, H7, I7, n7⟩ := q7; exact again I7 n7
    | cont => obtain ⟨σ7, H7, I7, n7⟩ := q7; exact again I7 n7
    | brk => obtain ⟨σ7, H7, I7, q7⟩ := q7; exact ⟨σ7, H7, I7.unpinned, q7⟩
    | ret v => obtain ⟨x7, σ7, H7, I7, r7, q7⟩ := q7; exact ⟨x7, σ7, H7, I7.unpinned, r7, q7⟩
end

/-! ### the forms one uses -/
/-- over a list that the body leaves as it is -/
theorem for_list {K : PySem.W.Frag} {a : Addr} {xs : List V} {g : TG} {tb : TS} {D : Ends} {σ : St} {H : Hp} (Pv : Nat → St → Hp → Prop) (h0 : Pv 0 σ H) (hl : ∀ i σ H, i ≤ xs.length → Pv i σ H → SqL K H a xs)
    (hs : ∀ i x σ H, xs[i]? = some x → Pv i σ H → g x σ H fun σ2 H2 => tb { D with nx := Pv (i + 1), ct := Pv (i + 1), bk := D.nx } σ2 H2) (hd : ∀ σ H, Pv xs.length σ H → D.nx σ H) :
    ∃ W : Nat → Nat → St → Hp → Prop, (∃ m, W 0 m σ H) ∧ ∀ i m σ H, W i m σ H →
      ((Itl K a).stop i H ∧ D.nx σ H) ∨ ((Itl K a).go i H ∧ ∃ N : St → Hp → Prop, (∀ σ' H', N σ' H' → ∃ m', m' < m ∧ W (i + 1) m' σ' H') ∧ ∀ x H', (Itl K a).yld i H x H' → g x σ H' fun σ2 H2 => tb { D with nx := N, ct := N, bk := D.nx } σ2 H2) := by
  refine ⟨fun i m σ H => m = xs.length - i ∧ i ≤ xs.length ∧ Pv i σ H, ⟨xs.length, by simp, Nat.zero_le _, h0⟩, ?_⟩
  rintro i m σ H ⟨rfl, hi, p⟩
  have q := hl i σ H hi p
  by_cases hlt : i < xs.length
  · refine .inr ⟨⟨xs, xs[i], q, by simp [hlt]⟩, Pv (i + 1), fun σ' H' p' => ⟨xs.length - (i + 1), by omega, rfl, hlt, p'⟩, fun x H' y => ?_⟩
    obtain ⟨e, y⟩ := y
    subst e
    exact hs i x σ _ (y xs q) p
  · have e : i = xs.length := by omega
    subst e
    exact .inl ⟨⟨xs, q, Nat.le_refl _⟩, hd σ H p⟩
theorem for_tup {K : PySem.W.Frag} {a : Addr} {xs : List V} {g : TG} {tb : TS} {D : Ends} {σ : St} {H : Hp} (Pv : Nat → St → Hp → Prop) (h0 : Pv 0 σ H) (hl : ∀ i σ H, i ≤ xs.length → Pv i σ H → SqT K H a xs)
    (hs : ∀ i x σ H, xs[i]? = some x → Pv i σ H → g x σ H fun σ2 H2 => tb { D with nx := Pv (i + 1), ct := Pv (i + 1), bk := D.nx } σ2 H2) (hd : ∀ σ H, Pv xs.length σ H → D.nx σ H) :
    ∃ W : Nat → Nat → St → Hp → Prop, (∃ m, W 0 m σ H) ∧ ∀ i m σ H, W i m σ H →
      ((Itt K a).stop i H ∧ D.nx σ H) ∨ ((Itt K a).go i H ∧ ∃ N : St → Hp → Prop, (∀ σ' H', N σ' H' → ∃ m', m' < m ∧ W (i + 1) m' σ' H') ∧ ∀ x H', (Itt K a).yld i H x H' → g x σ H' fun σ2 H2 => tb { D with nx := N, ct := N, bk := D.nx } σ2 H2) := by
  refine ⟨fun i m σ H => m = xs.length - i ∧ i ≤ xs.length ∧ Pv i σ H, ⟨xs.length, by simp, Nat.zero_le _, h0⟩, ?_⟩
  rintro i m σ H ⟨rfl, hi, p⟩
  have q := hl i σ H hi p
  by_cases hlt : i < xs.length
  · refine .inr ⟨⟨xs, xs[i], q, by simp [hlt]⟩, Pv (i + 1), fun σ' H' p' => ⟨xs.length - (i + 1), by omega, rfl, hlt, p'⟩, fun x H' y => ?_⟩
    obtain ⟨e, y⟩ := y
    subst e
    exact hs i x σ _ (y xs q) p
  · have e : i = xs.length := by omega
    subst e
    exact .inl ⟨⟨xs, q, Nat.le_refl _⟩, hd σ H p⟩
theorem for_range {lo : Int} {n : Nat} {g : TG} {tb : TS} {D : Ends} {σ : St} {H : Hp} (Pv : Nat → St → Hp → Prop) (h0 : Pv 0 σ H)
    (hs : ∀ i σ H, i < n → Pv i σ H → g (.int (lo + i)) σ H fun σ2 H2 => tb { D with nx := Pv (i + 1), ct := Pv (i + 1), bk := D.nx } σ2 H2) (hd : ∀ σ H, Pv n σ H → D.nx σ H) :
    ∃ W : Nat → Nat → St → Hp → Prop, (∃ m, W 0 m σ H) ∧ ∀ i m σ H, W i m σ H →
      ((Itr lo n).stop i H ∧ D.nx σ H) ∨ ((Itr lo n).go i H ∧ ∃ N : St → Hp → Prop, (∀ σ' H', N σ' H' → ∃ m', m' < m ∧ W (i + 1) m' σ' H') ∧ ∀ x H', (Itr lo n).yld i H x H' → g x σ H' fun σ2 H2 => tb { D with nx := N, ct := N, bk := D.nx } σ2 H2) := by
  refine ⟨fun i m σ H => m = n - i ∧ i ≤ n ∧ Pv i σ H, ⟨n, by simp, Nat.zero_le _, h0⟩, ?_⟩
  rintro i m σ H ⟨rfl, hi, p⟩
  by_cases hlt : i < n
  · refine .inr ⟨hlt, Pv (i + 1), fun σ' H' p' => ⟨n - (i + 1), by omega, rfl, hlt, p'⟩, fun x H' y => ?_⟩
    obtain ⟨e, y⟩ := y
    subst e y
    exact hs i σ _ hlt p
  · have e : i = n := by omega
    subst e
    exact .inl ⟨Nat.le_refl _, hd σ H p⟩
/-- while, by a word and a measure of the state -/
theorem while_by {c : TT} {tb : TS} {D : Ends} {σ : St} {H : Hp} (Pv : St → Hp → Prop) (μ : St → Hp → Nat) (h0 : Pv σ H)
    (hs : ∀ σ H, Pv σ H → c σ H fun b H1 => if b = true then tb { D with nx := fun σ' H' => Pv σ' H' ∧ μ σ' H' < μ σ H, ct := fun σ' H' => Pv σ' H' ∧ μ σ' H' < μ σ H, bk := D.nx } σ H1 else D.nx σ H1)
    (mono : ∀ σ H Q Q', (∀ b H1, Q b H1 → Q' b H1) → c σ H Q → c σ H Q') : tWhile c tb D σ H := by
  refine ⟨fun m σ H => m = μ σ H ∧ Pv σ H, ⟨_, rfl, h0⟩, ?_⟩
  rintro m σ H ⟨rfl, p⟩
  refine mono σ H _ _ (fun b H1 q => ?_) (hs σ H p)
  cases b with
  | true => exact ⟨_, fun σ' H' ⟨p', l⟩ => ⟨_, l, rfl, p'⟩, q⟩
  | false => exact q
end L2

namespace L2
open PySem PySem.Spec PyProof.Rows

abbrev R2 := V → V → Hp → VK → Prop
/-- a two-place operation on values: f is binaryOp op, inplaceOp op or compareOp op -/
def OpR (X : Cx) (f : Value → Value → Sem Value) (r : R2) : Prop :=
  ∀ (pins : List (Addr × Obj)) (s : Shared) (σ : St) (H : Hp) (x y : V) (v u : Value) (Q : VK), Inv X pins σ H s → RelV x v → RelV y u → r x y H Q →
    wpAny (model X.prog X.w) X.A (f v u) (EP X pins σ Q) X.xe s
/-- a one-place operation -/
def UnR (X : Cx) (f : Value → Sem Value) (r : V → Hp → VK → Prop) : Prop :=
  ∀ (pins : List (Addr × Obj)) (s : Shared) (σ : St) (H : Hp) (x : V) (v : Value) (Q : VK), Inv X pins σ H s → RelV x v → r x H Q →
    wpAny (model X.prog X.w) X.A (f v) (EP X pins σ Q) X.xe s
/-- a call of a value that is known (a builtin, a type) with values -/
def CallR (X : Cx) (f : Value) (r : List V → Hp → VK → Prop) : Prop :=
  ∀ (pins : List (Addr × Obj)) (s : Shared) (σ : St) (H : Hp) (xs : List V) (us : List Value) (Q : VK), Inv X pins σ H s → Vals xs us → r xs H Q →
    wpAny (model X.prog X.w) X.A (call f us) (EP X pins σ Q) X.xe s
/-- a value's truth -/
def TruR (X : Cx) (r : V → Hp → (Bool → Hp → Prop) → Prop) : Prop :=
  ∀ (pins : List (Addr × Obj)) (s : Shared) (σ : St) (H : Hp) (x : V) (v : Value) (Q : Bool → Hp → Prop), Inv X pins σ H s → RelV x v → r x H Q →
    wpAny (model X.prog X.w) X.A (truthy v) (TP X pins σ Q) X.xe s

def tOp (r : R2) (ta tb : TE) : TE := fun σ H Q => ta σ H fun x H1 => tb σ H1 fun y H2 => r x y H2 Q
def tUn (r : V → Hp → VK → Prop) (ta : TE) : TE := fun σ H Q => ta σ H fun x H1 => r x H1 Q
/-- ints in, under C, and a value out -/
def rI (C : Int → Int → Prop) (g : Int → Int → V) : R2 := fun x y H Q => ∃ i j, x = .int i ∧ y = .int j ∧ C i j ∧ Q (g i j) H
def rI0 (g : Int → Int → V) : R2 := fun x y H Q => ∃ i j, x = .int i ∧ y = .int j ∧ Q (g i j) H
def rU (g : Int → V) : V → Hp → VK → Prop := fun x H Q => ∃ i, x = .int i ∧ Q (g i) H

section
variable {X : Cx} {a b c : Expr} {ta tb tc : TE} {pos : Pos}

theorem binT (ha : PE X a ta) (hb : PE X b tb) {pins : List (Addr × Obj)} {s : Shared} {σ : St} {H : Hp} {R : V → V → Hp → Prop} (I : Inv X pins σ H s)
    (h : ta σ H fun x H1 => tb σ H1 fun y H2 => R x y H2) {Q : Value → Shared → Prop} {f : Value → Value → Sem Value}
    (hf : ∀ v u s2 x y H2, Inv X pins σ H2 s2 → RelV x v → RelV y u → R x y H2 → wpAny (model X.prog X.w) X.A (f v u) Q X.xe s2) :
    wpAny (model X.prog X.w) X.A (eval a X.env) (fun v s₁ => wpAny (model X.prog X.w) X.A (eval b X.env) (fun u s₂ => wpAny (model X.prog X.w) X.A (f v u) Q X.xe s₂) X.xe s₁) X.xe s := by
  refine thn (ha pins s σ H _ I h) fun v s1 ⟨x, H1, I1, r1, q1⟩ => ?_
  refine thn (hb pins s1 σ H1 _ I1 q1) fun u s2 ⟨y, H2, I2, r2, q2⟩ => ?_
  exact hf v u s2 x y H2 I2 r1 r2 q2

theorem pe_op {op : Operator} {r : R2} (ho : OpR X (binaryOp op) r) (ha : PE X a ta) (hb : PE X b tb) : PE X (.BinOp a op b pos) (tOp r ta tb) := by
  intro pins s σ H Q I h
  exact wpAny_BinOp (binT ha hb I h fun v u s2 x y H2 I2 rx ry q => ho pins s2 σ H2 x y v u Q I2 rx ry q)
theorem pe_un {op : UnaryOp} {r : V → Hp → VK → Prop} (ho : UnR X (unaryOp op) r) (ha : PE X a ta) : PE X (.UnaryOp op a pos) (tUn r ta) := by
  intro pins s σ H Q I h
  exact UnaryOp_ (thn (ha pins s σ H _ I h) fun v s1 ⟨x, H1, I1, r1, q1⟩ => ho pins s1 σ H1 x v Q I1 r1 q1)
/-- a op= e at a name: the name's slot i -/
theorem augR {op : Operator} {r : R2} (ho : OpR X (inplaceOp op) r) {pins : List (Addr × Obj)} {s : Shared} {σ : St} {H : Hp} {x y : V} {v u : Value} {Q : VK} (I : Inv X pins σ H s)
    (rx : RelV x v) (ry : RelV y u) (q : r x y H Q) : wpAny (model X.prog X.w) X.A (inplaceOp op v u) (EP X pins σ Q) X.xe s := ho pins s σ H x y v u Q I rx ry q

/-! ### ints -/
theorem opI {f : Value → Value → Sem Value} {C : Int → Int → Prop} {g : Int → Int → Int}
    (rule : ∀ (i j : Int) (t u : Tok) (s : Shared) (Q : Value → Shared → Prop) (E : Value → Shared → Prop), C i j → Q (.int (g i j) s.toks) { s with toks := s.toks + 1 } → wpAny (model X.prog X.w) X.A (f (.int i t) (.int j u)) Q E s) :
    OpR X f (rI C fun i j => .int (g i j)) := by
  intro pins s σ H x y v u Q I rx ry h
  obtain ⟨i, j, rfl, rfl, hc, q⟩ := h
  obtain ⟨t, rfl⟩ := rx
  obtain ⟨t', rfl⟩ := ry
  exact rule i j t t' s _ _ hc ⟨.int (g i j), H, I.tok _, ⟨_, rfl⟩, q⟩
theorem opI0 {f : Value → Value → Sem Value} {g : Int → Int → Int}
    (rule : ∀ (i j : Int) (t u : Tok) (s : Shared) (Q : Value → Shared → Prop) (E : Value → Shared → Prop), Q (.int (g i j) s.toks) { s with toks := s.toks + 1 } → wpAny (model X.prog X.w) X.A (f (.int i t) (.int j u)) Q E s) :
    OpR X f (rI0 fun i j => .int (g i j)) := by
  intro pins s σ H x y v u Q I rx ry h
  obtain ⟨i, j, rfl, rfl, q⟩ := h
  obtain ⟨t, rfl⟩ := rx
  obtain ⟨t', rfl⟩ := ry
  exact rule i j t t' s _ _ ⟨.int (g i j), H, I.tok _, ⟨_, rfl⟩, q⟩
theorem opB0 {f : Value → Value → Sem Value} {g : Int → Int → Bool}
    (rule : ∀ (i j : Int) (t u : Tok) (s : Shared) (Q : Value → Shared → Prop) (E : Value → Shared → Prop), Q (.bool (g i j)) s → wpAny (model X.prog X.w) X.A (f (.int i t) (.int j u)) Q E s) :
    OpR X f (rI0 fun i j => .bl (g i j)) := by
  intro pins s σ H x y v u Q I rx ry h
  obtain ⟨i, j, rfl, rfl, q⟩ := h
  obtain ⟨t, rfl⟩ := rx
  obtain ⟨t', rfl⟩ := ry
  exact rule i j t t' s _ _ ⟨.bl (g i j), H, I, rfl, q⟩

def CDiv (i j : Int) : Prop := 0 < j ∧ j < 1073741824
def CDivN (i j : Int) : Prop := j ≠ 0 ∧ j.natAbs < 1073741824
def CPow (i j : Int) : Prop := 0 ≤ j ∧ j ≤ 1000000 ∧ i.natAbs < 2 ^ 64
def CMul (i j : Int) : Prop := (-(2 ^ 64) < i ∧ i < 2 ^ 64) ∨ (-(2 ^ 64) < j ∧ j < 2 ^ 64)
theorem CMul.ok {i j : Int} (h : CMul i j) : IntMulOk i j := by
  rcases h with ⟨h1, h2⟩ | ⟨h1, h2⟩
  · exact .of_left (intBits_le_64 h1 h2)
  · exact .of_right (intBits_le_64 h1 h2)
theorem two_pow_nn (k : Nat) : (0 : Int) ≤ 2 ^ k := by
  rw [two_pow_cast]
  exact Int.natCast_nonneg _

theorem op_add : OpR X (binaryOp .Add) (rI0 fun i j => .int (i + j)) := opI0 fun _ _ _ _ _ _ _ q => add_int q
theorem op_sub : OpR X (binaryOp .Sub) (rI0 fun i j => .int (i - j)) := opI0 fun _ _ _ _ _ _ _ q => sub_int q
theorem op_mul : OpR X (binaryOp .Mult) (rI CMul fun i j => .int (i * j)) := opI fun _ _ _ _ _ _ _ hc q => mul_int q hc.ok
/-- // by a positive divisor -/
theorem op_fdiv : OpR X (binaryOp .FloorDiv) (rI CDiv fun i j => .int (i / j)) := opI fun i j _ _ _ _ _ hc q => by
  have h1 : (0 : Int) < j := hc.1
  have h2 : j < 1073741824 := hc.2
  exact floordiv_int (by omega) (by rw [Int.fdiv_eq_ediv_of_nonneg i (by omega)]; exact q) (.inl (PyProof.noPylong_small (by omega)))
theorem op_fdivN : OpR X (binaryOp .FloorDiv) (rI CDivN fun i j => .int (i.fdiv j)) := opI fun _ _ _ _ _ _ _ hc q => floordiv_int hc.1 q (.inl (PyProof.noPylong_small hc.2))
/-- % by a positive divisor of any size -/
theorem op_mod : OpR X (binaryOp .Mod) (rI (fun _ j => 0 < j) fun i j => .int (i % j)) := opI fun i j _ _ _ _ _ hc q => by
  have h1 : (0 : Int) < j := hc
  exact mod_int' (by omega) (by rw [Int.fmod_eq_emod_of_nonneg i (by omega)]; exact q)
theorem op_modN : OpR X (binaryOp .Mod) (rI (fun _ j => j ≠ 0) fun i j => .int (i.fmod j)) := opI fun _ _ _ _ _ _ _ hc q => mod_int' hc q
theorem op_pow : OpR X (binaryOp .Pow) (rI CPow fun i j => .int (i ^ j.toNat)) := opI fun _ _ _ _ _ _ _ hc q => pow_int_small hc.1 hc.2.1 hc.2.2 q
theorem op_shl : OpR X (binaryOp .LShift) (rI CPow fun i j => .int (i * 2 ^ j.toNat)) := opI fun _ _ _ _ _ _ _ hc q => lshift_int_small hc.1 hc.2.1 hc.2.2 q
theorem op_shr : OpR X (binaryOp .RShift) (rI (fun _ j => 0 ≤ j) fun i j => .int (i / 2 ^ j.toNat)) := opI fun i j _ _ _ _ _ hc q =>
  rshift_int hc (by rw [Int.fdiv_eq_ediv_of_nonneg i (two_pow_nn _)]; exact q)
theorem op_and : OpR X (binaryOp .BitAnd) (rI0 fun i j => .int (Builtin.bitAnd i j)) := opI0 fun _ _ _ _ _ _ _ q => and_int q
theorem op_or : OpR X (binaryOp .BitOr) (rI0 fun i j => .int (Builtin.bitOr i j)) := opI0 fun _ _ _ _ _ _ _ q => or_int q
theorem op_xor : OpR X (binaryOp .BitXor) (rI0 fun i j => .int (Builtin.bitXor i j)) := opI0 fun _ _ _ _ _ _ _ q => xor_int q

theorem iop_add : OpR X (inplaceOp .Add) (rI0 fun i j => .int (i + j)) := opI0 fun _ _ _ _ _ _ _ q => iadd_int q
theorem iop_sub : OpR X (inplaceOp .Sub) (rI0 fun i j => .int (i - j)) := opI0 fun _ _ _ _ _ _ _ q => isub_int q
theorem iop_mul : OpR X (inplaceOp .Mult) (rI CMul fun i j => .int (i * j)) := opI fun _ _ _ _ _ _ _ hc q => imul_int q hc.ok
theorem iop_fdiv : OpR X (inplaceOp .FloorDiv) (rI CDiv fun i j => .int (i / j)) := opI fun i j _ _ _ _ _ hc q => by
  have h1 : (0 : Int) < j := hc.1
  have h2 : j < 1073741824 := hc.2
  exact ifloordiv_int (by omega) (by rw [Int.fdiv_eq_ediv_of_nonneg i (by omega)]; exact q) (.inl (PyProof.noPylong_small (by omega)))
theorem iop_mod : OpR X (inplaceOp .Mod) (rI (fun _ j => 0 < j) fun i j => .int (i % j)) := opI fun i j _ _ _ _ _ hc q => by
  have h1 : (0 : Int) < j := hc
  exact imod_int (by omega) (by rw [Int.fmod_eq_emod_of_nonneg i (by omega)]; exact q)
theorem iop_shl : OpR X (inplaceOp .LShift) (rI CPow fun i j => .int (i * 2 ^ j.toNat)) := opI fun _ _ _ _ _ _ _ hc q => ilshift_int_small hc.1 hc.2.1 hc.2.2 q
theorem iop_shr : OpR X (inplaceOp .RShift) (rI (fun _ j => 0 ≤ j) fun i j => .int (i / 2 ^ j.toNat)) := opI fun i j _ _ _ _ _ hc q =>
  irshift_int hc (by rw [Int.fdiv_eq_ediv_of_nonneg i (two_pow_nn _)]; exact q)
theorem iop_and : OpR X (inplaceOp .BitAnd) (rI0 fun i j => .int (Builtin.bitAnd i j)) := opI0 fun _ _ _ _ _ _ _ q => iand_int q
theorem iop_or : OpR X (inplaceOp .BitOr) (rI0 fun i j => .int (Builtin.bitOr i j)) := opI0 fun _ _ _ _ _ _ _ q => ior_int q
theorem iop_xor : OpR X (inplaceOp .BitXor) (rI0 fun i j => .int (Builtin.bitXor i j)) := opI0 fun _ _ _ _ _ _ _ q => ixor_int q

theorem unI {f : Value → Sem Value} {g : Int → Int}
    (rule : ∀ (i : Int) (t : Tok) (s : Shared) (Q : Value → Shared → Prop) (E : Value → Shared → Prop), Q (.int (g i) s.toks) { s with toks := s.toks + 1 } → wpAny (model X.prog X.w) X.A (f (.int i t)) Q E s) :
    UnR X f (rU fun i => .int (g i)) := by
  intro pins s σ H x v Q I rx h
  obtain ⟨i, rfl, q⟩ := h
  obtain ⟨t, rfl⟩ := rx
  exact rule i t s _ _ ⟨.int (g i), H, I.tok _, ⟨_, rfl⟩, q⟩
theorem un_neg : UnR X (unaryOp .USub) (rU fun i => .int (-i)) := unI fun _ _ _ _ _ q => neg_int q
theorem un_inv : UnR X (unaryOp .Invert) (rU fun i => .int (Builtin.bitNot i)) := unI fun _ _ _ _ _ q => invert_int q

/-! ### bools among ints: n += (a < b) -/
theorem op_add_ib : OpR X (binaryOp .Add) (fun x y H Q => ∃ i k, x = .int i ∧ y = .bl k ∧ Q (.int (i + b2i k)) H) := by
  intro pins s σ H x y v u Q I rx ry h
  obtain ⟨i, k, rfl, rfl, q⟩ := h
  obtain ⟨t, rfl⟩ := rx
  cases ry
  exact add_int_bool ⟨.int (i + b2i k), H, I.tok _, ⟨_, rfl⟩, q⟩
end

/-! ### comparisons -/
/-- the scalars that == tells apart as data does -/
def scal : V → V → Bool
  | .non, .non => true | .non, .int _ => true | .int _, .non => true | .non, .bl _ => true | .bl _, .non => true | .non, .str _ => true | .str _, .non => true
  | .int _, .int _ => true | .bl _, .bl _ => true | .str _, .str _ => true | .byt _, .byt _ => true
  | .int _, .str _ => true | .str _, .int _ => true | .bl _, .str _ => true | .str _, .bl _ => true
  | _, _ => false
def rEq : R2 := fun x y H Q => scal x y = true ∧ Q (.bl (decide (x = y))) H
def rNe : R2 := fun x y H Q => scal x y = true ∧ Q (.bl (!decide (x = y))) H

theorem dec_int {i j : Int} : decide (V.int i = V.int j) = (i == j) := by
  rw [Bool.eq_iff_iff]
  simp
theorem dec_bl {i j : Bool} : decide (V.bl i = V.bl j) = (i == j) := by
  rw [Bool.eq_iff_iff]
  simp
theorem dec_str {i j : Str} : decide (V.str i = V.str j) = (i == j) := by
  rw [Bool.eq_iff_iff]
  simp
theorem dec_byt {i j : Array UInt8} : decide (V.byt i = V.byt j) = (i.toList == j.toList) := by
  rw [Bool.eq_iff_iff]
  cases i
  cases j
  simp

section
variable {X : Cx} {a b c : Expr} {ta tb tc : TE} {pos : Pos}
theorem fin_bl {pins : List (Addr × Obj)} {σ : St} {H : Hp} {s : Shared} {Q : VK} {k k' : Bool} (I : Inv X pins σ H s) (q : Q (.bl k) H) (e : k = k') : EP X pins σ Q (.bool k') s := by
  subst e
  exact ⟨.bl k, H, I, rfl, q⟩
theorem op_eq : OpR X (compareOp .Eq) rEq := by
  intro pins s σ H x y v u Q I rx ry h
  obtain ⟨hs, q⟩ := h
  cases x with
  | non =>
    cases rx
    cases y with
    | non => cases ry; exact PySem.EqNone.eq_none_none (fin_bl I q (by simp))
    | bl j => cases ry; exact PySem.EqNone.eq_none_bool (fin_bl I q (by simp))
    | int j => obtain ⟨t', rfl⟩ := ry; exact PySem.EqNone.eq_none_int (fin_bl I q (by simp))
    | str j => obtain ⟨t', rfl⟩ := ry; exact PySem.EqNone.eq_none_str (fin_bl I q (by simp))
    | _ => exact absurd (show false = true from hs) Bool.false_ne_true
  | bl i =>
    cases rx
    cases y with
    | non => cases ry; exact PySem.EqNone.eq_bool_none (fin_bl I q (by simp))
    | bl j => cases ry; exact eq_bool (fin_bl I q dec_bl)
    | str j => obtain ⟨t', rfl⟩ := ry; exact PySem.EqMixed.eq_bool_str (fin_bl I q (by simp))
    | _ => exact absurd (show false = true from hs) Bool.false_ne_true
  | int i =>
    obtain ⟨t, rfl⟩ := rx
    cases y with
    | non => cases ry; exact PySem.EqNone.eq_int_none (fin_bl I q (by simp))
    | int j => obtain ⟨t', rfl⟩ := ry; exact eq_int (fin_bl I q dec_int)
    | str j => obtain ⟨t', rfl⟩ := ry; exact PySem.EqMixed.eq_int_str (fin_bl I q (by simp))
    | _ => exact absurd (show false = true from hs) Bool.false_ne_true
  | str i =>
    obtain ⟨t, rfl⟩ := rx
    cases y with
    | non => cases ry; exact PySem.EqNone.eq_str_none (fin_bl I q (by simp))
    | bl j => cases ry; exact PySem.EqMixed.eq_str_bool (fin_bl I q (by simp))
    | int j => obtain ⟨t', rfl⟩ := ry; exact PySem.EqMixed.eq_str_int (fin_bl I q (by simp))
    | str j => obtain ⟨t', rfl⟩ := ry; exact eq_str (fin_bl I q dec_str)
    | _ => exact absurd (show false = true from hs) Bool.false_ne_true
  | byt i =>
    obtain ⟨t, rfl⟩ := rx
    cases y with
    | byt j => obtain ⟨t', rfl⟩ := ry; exact PySem.W.eq_bytes (fin_bl I q dec_byt)
    | _ => exact absurd (show false = true from hs) Bool.false_ne_true
  | _ => cases y <;> exact absurd (show false = true from hs) Bool.false_ne_true
theorem op_ne : OpR X (compareOp .NotEq) rNe := by
  intro pins s σ H x y v u Q I rx ry h
  obtain ⟨hs, q⟩ := h
  cases x with
  | non =>
    cases rx
    cases y with
    | non => cases ry; exact PySem.EqNone.ne_none_none (fin_bl I q (by simp))
    | bl j => cases ry; exact PySem.EqNone.ne_none_bool (fin_bl I q (by simp))
    | int j => obtain ⟨t', rfl⟩ := ry; exact PySem.EqNone.ne_none_int (fin_bl I q (by simp))
    | str j => obtain ⟨t', rfl⟩ := ry; exact PySem.EqNone.ne_none_str (fin_bl I q (by simp))
    | _ => exact absurd (show false = true from hs) Bool.false_ne_true
  | bl i =>
    cases rx
    cases y with
    | non => cases ry; exact PySem.EqNone.ne_bool_none (fin_bl I q (by simp))
    | bl j => cases ry; exact ne_bool (fin_bl I q (congrArg not dec_bl))
    | str j => obtain ⟨t', rfl⟩ := ry; exact PySem.EqMixed.ne_bool_str (fin_bl I q (by simp))
    | _ => exact absurd (show false = true from hs) Bool.false_ne_true
  | int i =>
    obtain ⟨t, rfl⟩ := rx
    cases y with
    | non => cases ry; exact PySem.EqNone.ne_int_none (fin_bl I q (by simp))
    | int j => obtain ⟨t', rfl⟩ := ry; exact ne_int (fin_bl I q (congrArg not dec_int))
    | str j => obtain ⟨t', rfl⟩ := ry; exact PySem.EqMixed.ne_int_str (fin_bl I q (by simp))
    | _ => exact absurd (show false = true from hs) Bool.false_ne_true
  | str i =>
    obtain ⟨t, rfl⟩ := rx
    cases y with
    | non => cases ry; exact PySem.EqNone.ne_str_none (fin_bl I q (by simp))
    | bl j => cases ry; exact PySem.EqMixed.ne_str_bool (fin_bl I q (by simp))
    | int j => obtain ⟨t', rfl⟩ := ry; exact PySem.EqMixed.ne_str_int (fin_bl I q (by simp))
    | str j => obtain ⟨t', rfl⟩ := ry; exact ne_str (fin_bl I q (congrArg not dec_str))
    | _ => exact absurd (show false = true from hs) Bool.false_ne_true
  | byt i =>
    obtain ⟨t, rfl⟩ := rx
    cases y with
    | byt j => obtain ⟨t', rfl⟩ := ry; exact PySem.W.ne_bytes (fin_bl I q (congrArg not dec_byt))
    | _ => exact absurd (show false = true from hs) Bool.false_ne_true
  | _ => cases y <;> exact absurd (show false = true from hs) Bool.false_ne_true

theorem op_lt : OpR X (compareOp .Lt) (rI0 fun i j => .bl (decide (i < j))) := opB0 fun _ _ _ _ _ _ _ q => lt_int q
theorem op_le : OpR X (compareOp .LtE) (rI0 fun i j => .bl (decide (i ≤ j))) := opB0 fun _ _ _ _ _ _ _ q => le_int q
theorem op_gt : OpR X (compareOp .Gt) (rI0 fun i j => .bl (decide (j < i))) := opB0 fun _ _ _ _ _ _ _ q => gt_int q
theorem op_ge : OpR X (compareOp .GtE) (rI0 fun i j => .bl (decide (j ≤ i))) := opB0 fun _ _ _ _ _ _ _ q => ge_int q
theorem op_lt_str : OpR X (compareOp .Lt) (fun x y H Q => ∃ i j, x = .str i ∧ y = .str j ∧ Q (.bl (decide (i.cps.toList < j.cps.toList))) H) := by
  intro pins s σ H x y v u Q I rx ry h
  obtain ⟨i, j, rfl, rfl, q⟩ := h
  obtain ⟨t, rfl⟩ := rx
  obtain ⟨t', rfl⟩ := ry
  exact lt_str (fin_bl I q rfl)
/-- the one string within the other -/
theorem op_in_str : OpR X (compareOp .In) (fun x y H Q => ∃ i j, x = .str i ∧ y = .str j ∧ Q (.bl (!(Builtin.Str.occurrences j i 0 j.length 1).isEmpty)) H) := by
  intro pins s σ H x y v u Q I rx ry h
  obtain ⟨i, j, rfl, rfl, q⟩ := h
  obtain ⟨t, rfl⟩ := rx
  obtain ⟨t', rfl⟩ := ry
  exact in_str (fin_bl I q rfl)

/-- is None, is not None: the right side a value none -/
theorem op_isN : OpR X (compareOp .Is) (fun x y H Q => y = .non ∧ Q (.bl (decide (x = .non))) H) := by
  intro pins s σ H x y v u Q I rx ry h
  obtain ⟨rfl, q⟩ := h
  cases ry
  refine is_none_gen (fin_bl I q ?_)
  cases x <;> first
    | (cases rx; rfl)
    | (obtain ⟨t, rfl⟩ := rx; rfl)
theorem op_notN : OpR X (compareOp .IsNot) (fun x y H Q => y = .non ∧ Q (.bl (!decide (x = .non))) H) := by
  intro pins s σ H x y v u Q I rx ry h
  obtain ⟨rfl, q⟩ := h
  cases ry
  refine isnot_none_gen (fin_bl I q ?_)
  cases x <;> first
    | (cases rx; rfl)
    | (obtain ⟨t, rfl⟩ := rx; rfl)

theorem op_notin_str : OpR X (compareOp .NotIn) (fun x y H Q => ∃ i j, x = .str i ∧ y = .str j ∧ Q (.bl (!(!(Builtin.Str.occurrences j i 0 j.length 1).isEmpty))) H) := by
  intro pins s σ H x y v u Q I rx ry h
  obtain ⟨i, j, rfl, rfl, q⟩ := h
  obtain ⟨t, rfl⟩ := rx
  obtain ⟨t', rfl⟩ := ry
  exact notIn_str (fin_bl I q rfl)
/-- is, is not of two objects that are tracked lists or instances -/
def isObj : HO → Bool
  | .lst _ => true
  | .ins _ _ _ => true
  | _ => false
theorem obj_there {pins : List (Addr × Obj)} {s : Shared} {σ : St} {H : Hp} {a : Addr} {o : HO} (I : Inv X pins σ H s) (h : H a = some o) (p : isObj o = true) : ∃ ob, s.heap.get? a = some ob ∧ ob.cls ≠ .type "tuple" := by
  cases o with
  | lst xs =>
    obtain ⟨_, its, n, _, e⟩ : xs.length ≤ sizeLine ∧ ∃ (its : List Value) (n : Nat), Vals xs its ∧ s.heap.get? a = some { cls := .type "list", data := .seq its.toArray n } := I.hok a _ h
    exact ⟨_, e, (by show Value.type "list" ≠ .type "tuple"; decide +kernel)⟩
  | ins C dx fs =>
    have x := I.hok a _ h
    obtain ⟨_, _, _, e, _⟩ := x
    exact ⟨_, e, (by show Value.ref C ≠ .type "tuple"; exact fun z => by cases z)⟩
  | _ => exact absurd (show false = true from p) Bool.false_ne_true
theorem op_is_ref : OpR X (compareOp .Is) (fun x y H Q => ∃ a b oa ob, x = .ref a ∧ y = .ref b ∧ H a = some oa ∧ isObj oa = true ∧ H b = some ob ∧ isObj ob = true ∧ Q (.bl (decide (a = b))) H) := by
  intro pins s σ H x y v u Q I rx ry h
  obtain ⟨a, b, oa, ob, rfl, rfl, ha, pa, hb, pb, q⟩ := h
  cases rx
  cases ry
  obtain ⟨o1, e1, n1⟩ := obj_there I ha pa
  obtain ⟨o2, e2, _⟩ := obj_there I hb pb
  by_cases z : a = b
  · subst z
    exact wpAny_is_ref_self (fin_bl I q (by simp))
  · exact wpAny_is_ref_other z e1 e2 n1 (fin_bl I q (by simp [z]))
theorem op_isnot_ref : OpR X (compareOp .IsNot) (fun x y H Q => ∃ a b oa ob, x = .ref a ∧ y = .ref b ∧ H a = some oa ∧ isObj oa = true ∧ H b = some ob ∧ isObj ob = true ∧ Q (.bl (!decide (a = b))) H) := by
  intro pins s σ H x y v u Q I rx ry h
  obtain ⟨a, b, oa, ob, rfl, rfl, ha, pa, hb, pb, q⟩ := h
  cases rx
  cases ry
  obtain ⟨o1, e1, n1⟩ := obj_there I ha pa
  obtain ⟨o2, e2, _⟩ := obj_there I hb pb
  by_cases z : a = b
  · subst z
    exact wpAny_isNot_ref_self (fin_bl I q (by simp))
  · exact wpAny_isNot_ref_other z e1 e2 n1 (fin_bl I q (by simp [z]))

/-- two rules for one operation: by cases -/
theorem OpR.or {f : Value → Value → Sem Value} {r r' : R2} (h : OpR X f r) (h' : OpR X f r') : OpR X f (fun x y H Q => r x y H Q ∨ r' x y H Q) := by
  intro pins s σ H x y v u Q I rx ry q
  rcases q with q | q
  · exact h pins s σ H x y v u Q I rx ry q
  · exact h' pins s σ H x y v u Q I rx ry q

theorem nomark (b : Expr) {op : CmpOp} (h : op ≠ .In := by decide) (h2 : op ≠ .NotIn := by decide) : behindInMarks op b = false := by
  have e1 : (op == CmpOp.In) = false := by cases op <;> first | rfl | exact absurd rfl h
  have e2 : (op == CmpOp.NotIn) = false := by cases op <;> first | rfl | exact absurd rfl h2
  cases b <;> simp [behindInMarks, e1, e2]
/-- a comparison as a value; hm: nomark b, or (for in, not in) by with_unfolding_all rfl -/
theorem pe_cmpR {op : CmpOp} {r : R2} (ho : OpR X (compareOp op) r) (ha : PE X a ta) (hb : PE X b tb) (hm : behindInMarks op b = false) : PE X (.Compare a [op] [b] pos) (tOp r ta tb) := by
  intro pins s σ H Q I h
  exact wpAny_Compare1 (binT ha hb I h fun v u s2 x y H2 I2 rx ry q => ho pins s2 σ H2 x y v u Q I2 rx ry q) hm
/-- a reading of a value as a test -/
def tTest (t : TE) : TT := fun σ H Q => t σ H fun x H' => ∃ k, x = .bl k ∧ Q k H'
theorem pt_cmpR {op : CmpOp} {r : R2} (ho : OpR X (compareOp op) r) (ha : PE X a ta) (hb : PE X b tb) (hm : behindInMarks op b = false) : PT X (.Compare a [op] [b] pos) (tTest (tOp r ta tb)) := by
  intro pins s σ H Q I h
  refine wpAny_isTrue_Compare1 (thn (ha pins s σ H _ I h) fun v s1 ⟨x, H1, I1, r1, q1⟩ => thn (hb pins s1 σ H1 _ I1 q1) fun u s2 ⟨y, H2, I2, r2, q2⟩ =>
    thn (ho pins s2 σ H2 x y v u _ I2 r1 r2 q2) fun c s3 ⟨z, H3, I3, r3, k, e, q3⟩ => ?_) hm
  subst e
  cases r3
  exact wpAny_truthy_bool ⟨H3, I3, q3⟩
/-- a op1 b op2 c -/
def tChain (r r' : R2) (ta tb tc : TE) : TE := fun σ H Q => ta σ H fun x H1 => tb σ H1 fun y H2 => r x y H2 fun z H3 => ∃ k, z = .bl k ∧
  (if k = true then tc σ H3 fun w' H4 => r' y w' H4 Q else Q (.bl false) H3)
theorem pe_chain {op op' : CmpOp} {r r' : R2} (ho : OpR X (compareOp op) r) (ho' : OpR X (compareOp op') r') (ha : PE X a ta) (hb : PE X b tb) (hc : PE X c tc)
    (hm : lastMarks [op, op'] [b, c] = false := by with_unfolding_all rfl) : PE X (.Compare a [op, op'] [b, c] pos) (tChain r r' ta tb tc) := by
  intro pins s σ H Q I h
  refine Compare_chain (thn (ha pins s σ H _ I h) fun v s1 ⟨x, H1, I1, r1, q1⟩ => chain_link (thn (hb pins s1 σ H1 _ I1 q1) fun u s2 ⟨y, H2, I2, r2, q2⟩ =>
    thn (ho pins s2 σ H2 x y v u _ I2 r1 r2 q2) fun d s3 ⟨z, H3, I3, r3, k, e, q3⟩ => ?_)) hm
  subst e
  cases r3
  refine wpAny_truthy_bool ?_
  cases k with
  | false => exact ite_ff ⟨.bl false, H3, I3, rfl, q3⟩
  | true => exact ite_tt (chain_last (thn (hc pins s3 σ H3 _ I3 q3) fun w' s4 ⟨z', H4, I4, r4, q4⟩ => ho' pins s4 σ H4 y z' u w' Q I4 r2 r4 q4))
theorem pt_chain {op op' : CmpOp} {r r' : R2} (ho : OpR X (compareOp op) r) (ho' : OpR X (compareOp op') r') (ha : PE X a ta) (hb : PE X b tb) (hc : PE X c tc)
    (hm : lastMarks [op, op'] [b, c] = false := by with_unfolding_all rfl) : PT X (.Compare a [op, op'] [b, c] pos) (tTest (tChain r r' ta tb tc)) := by
  intro pins s σ H Q I h
  refine isTrue_chain (thn (ha pins s σ H _ I h) fun v s1 ⟨x, H1, I1, r1, q1⟩ => test_link (thn (hb pins s1 σ H1 _ I1 q1) fun u s2 ⟨y, H2, I2, r2, q2⟩ =>
    thn (ho pins s2 σ H2 x y v u _ I2 r1 r2 q2) fun d s3 ⟨z, H3, I3, r3, k, e, q3⟩ => ?_)) hm
  subst e
  cases r3
  refine wpAny_truthy_bool ?_
  cases k with
  | false =>
    obtain ⟨k', e', q'⟩ := q3
    cases e'
    exact ite_ff ⟨H3, I3, q'⟩
  | true =>
    refine ite_tt (test_last (thn (hc pins s3 σ H3 _ I3 q3) fun w' s4 ⟨z', H4, I4, r4, q4⟩ => thn (ho' pins s4 σ H4 y z' u w' _ I4 r2 r4 q4) fun d' s5 ⟨z2, H5, I5, r5, k2, e2, q5⟩ => ?_))
    subst e2
    cases r5
    exact wpAny_truthy_bool ⟨H5, I5, q5⟩

/-! ### truth -/
/-- a value's truth by the abstract heap -/
def TruV (K : PySem.W.Frag) (x : V) (H : Hp) (k : Bool) : Prop :=
  match x with
  | .non => k = false
  | .bl b => k = b
  | .int i => k = (i != 0)
  | .str y => y.length ≤ sizeLine ∧ k = ((y.length : Int) != 0)
  | .byt y => y.size ≤ sizeLine ∧ k = ((y.size : Int) != 0)
  | .ref p => (∃ xs, SqL K H p xs ∧ k = !xs.isEmpty) ∨ (∃ xs, SqT K H p xs ∧ k = !xs.isEmpty) ∨ ∃ kvs, H p = some (.dK kvs) ∧ k = !kvs.isEmpty
  | _ => False
theorem isEmpty_kv {κ : Type} {kvs : List (κ × V)} {vs : List (κ × Value)} (r : KV kvs vs) : (!vs.isEmpty) = !kvs.isEmpty := by
  cases r <;> rfl
theorem isEmpty_of {xs : List V} {its : List Value} (r : Vals xs its) : (!its.toArray.isEmpty) = !xs.isEmpty := by
  cases r <;> simp
theorem line63 : (sizeLine : Nat) < 2 ^ 63 := by rw [sizeLine_eq]; decide
theorem tru_ok : TruR X (fun x H Q => ∃ k, TruV X.K x H k ∧ Q k H) := by
  intro pins s σ H x v Q I rx h
  obtain ⟨k, e, q⟩ := h
  have hl := line63
  have hs : sizeLine = 16777216 := sizeLine_eq
  cases x with
  | non =>
    cases rx
    have e' : k = false := e
    subst e'
    exact truthy_none ⟨H, I, q⟩
  | bl b =>
    cases rx
    have e' : k = b := e
    subst e'
    exact wpAny_truthy_bool ⟨H, I, q⟩
  | int i =>
    obtain ⟨t, rfl⟩ := rx
    have e' : k = (i != 0) := e
    subst e'
    exact PySem.P.truthy_int ⟨H, I, q⟩
  | str y =>
    obtain ⟨t, rfl⟩ := rx
    obtain ⟨hy, e'⟩ : y.length ≤ sizeLine ∧ k = ((y.length : Int) != 0) := e
    subst e'
    exact PySem.P.truthy_str (by omega) ⟨H, I.tok _, q⟩
  | byt y =>
    obtain ⟨t, rfl⟩ := rx
    obtain ⟨hy, e'⟩ : y.size ≤ sizeLine ∧ k = ((y.size : Int) != 0) := e
    subst e'
    exact PySem.W.truthy_bytes (by omega) ⟨H, I.tok _, q⟩
  | ref p =>
    cases rx
    have e' : (∃ xs, SqL X.K H p xs ∧ k = !xs.isEmpty) ∨ (∃ xs, SqT X.K H p xs ∧ k = !xs.isEmpty) ∨ ∃ kvs, H p = some (.dK kvs) ∧ k = !kvs.isEmpty := e
    rcases e' with ⟨xs, hx, e'⟩ | ⟨xs, hx, e'⟩ | ⟨kvs, hx, e'⟩
    · subst e'
      obtain ⟨its, r, pl, hz⟩ := I.list hx
      have hlen := r.length
      exact wpAny_truthy_list pl.isList (by simp only [List.size_toArray]; omega) ⟨H, I.tok _, by rw [isEmpty_of r]; exact q⟩
    · subst e'
      obtain ⟨its, r, pl, hz⟩ := I.tuple hx
      have hlen := r.length
      exact truthy_tuple pl (by simp only [List.size_toArray]; omega) ⟨H, I.tok _, by rw [isEmpty_of r]; exact q⟩
    · subst e'
      obtain ⟨hz, hS, vs, r, m⟩ : kvs.length ≤ sizeLine ∧ (p == sysModules) = false ∧ ∃ vs, KV kvs vs ∧ s.heap.DictOf (mixKind X.prog X.w) p vs := I.hok p _ hx
      have hlen : kvs.length = vs.length := Paired.length r
      exact wpAny_truthy_dict hS m (by omega) ⟨H, I.tok _, by rw [isEmpty_kv r]; exact q⟩
  | _ => exact (show False from e).elim
/-- any expression whose test is its value's truth (a name, a call, a subscript, a field ..: he by fun _ => rfl) -/
theorem pt_truth (ha : PE X a ta) (he : ∀ whole, isTrue a X.env whole = (do let v ← whole; standAt a.pos; holding [v] (truthy v))) :
    PT X a (fun σ H Q => ta σ H fun x H' => ∃ k, TruV X.K x H' k ∧ Q k H') := by
  intro pins s σ H Q I h
  exact isTrue_plain (thn (ha pins s σ H _ I h) fun v s1 ⟨x, H1, I1, r1, q1⟩ => tru_ok pins s1 σ H1 x v Q I1 r1 q1) (he _)

/-! ### strs and bytes -/
theorem pe_byt {x : List UInt8} {k : Nat} : PE X (.Constant (.bytes x) k pos) (fun _ H Q => Q (.byt x.toArray) H) := fun _ _ _ H _ I h => PySem.W.Constant_bytes ⟨.byt x.toArray, H, I.tok _, ⟨_, rfl⟩, h⟩
theorem op_add_str : OpR X (binaryOp .Add) (fun x y H Q => ∃ i j, x = .str i ∧ y = .str j ∧ i.length + j.length ≤ sizeLine ∧ Q (.str (i ++ j)) H) := by
  intro pins s σ H x y v u Q I rx ry h
  obtain ⟨i, j, rfl, rfl, hz, q⟩ := h
  obtain ⟨t, rfl⟩ := rx
  obtain ⟨t', rfl⟩ := ry
  exact add_str (fun t' tk => ⟨.str (i ++ j), H, I.tok _, ⟨_, rfl⟩, q⟩) hz
theorem iop_add_str : OpR X (inplaceOp .Add) (fun x y H Q => ∃ i j, x = .str i ∧ y = .str j ∧ i.length + j.length ≤ sizeLine ∧ Q (.str (i ++ j)) H) := by
  intro pins s σ H x y v u Q I rx ry h
  obtain ⟨i, j, rfl, rfl, hz, q⟩ := h
  obtain ⟨t, rfl⟩ := rx
  obtain ⟨t', rfl⟩ := ry
  exact iadd_str (fun t' tk => ⟨.str (i ++ j), H, I.tok _, ⟨_, rfl⟩, q⟩) hz
theorem op_add_byt : OpR X (binaryOp .Add) (fun x y H Q => ∃ i j, x = .byt i ∧ y = .byt j ∧ i.size + j.size ≤ 16777216 ∧ Q (.byt (i ++ j)) H) := by
  intro pins s σ H x y v u Q I rx ry h
  obtain ⟨i, j, rfl, rfl, hz, q⟩ := h
  obtain ⟨t, rfl⟩ := rx
  obtain ⟨t', rfl⟩ := ry
  exact PySem.W.KBy.add_bytes hz (fun t' tk => ⟨.byt (i ++ j), H, I.tok _, ⟨_, rfl⟩, q⟩)

def PlainIxT (b : Expr) : Prop := ∀ o i, subscripted b false o i = operate [o, i] (getItem o i)
/-- s[i], 0 ≤ i < len -/
theorem pe_item_str (ha : PE X a ta) (hb : PE X b tb) (hs : PlainIxT b) :
    PE X (.Subscript a b pos) (tOp (fun x y H Q => ∃ z i c, x = .str z ∧ y = .int i ∧ 0 ≤ i ∧ i < 2 ^ 63 ∧ i < z.length ∧ z.cps[i.toNat]? = some c ∧ Q (.str ⟨#[c]⟩) H) ta tb) := by
  intro pins s σ H Q I h
  refine Subscript_ (binT ha hb I h fun v u s2 x y H2 I2 rx ry q => ?_)
  obtain ⟨z, i, c, rfl, rfl, h0, h63, h1, hc, q⟩ := q
  obtain ⟨t, rfl⟩ := rx
  obtain ⟨t', rfl⟩ := ry
  have e : seqIndex? i z.length = some i.toNat := PySem.StrLaws.seqIndex_nonneg h0 h1
  exact tail_any (typeIs_str s2 z t) slot_str_getitem.lookup (getItem_str (c := c) (by
    have e1 : decide (i < -(2 ^ 63 : Int)) = false := decide_eq_false (by omega)
    have e2 : decide (i ≥ 2 ^ 63) = false := decide_eq_false (by omega)
    rw [e1, e2] <;> rfl) (by rw [e]; exact hc) ⟨.str ⟨#[c]⟩, H2, I2.tok _, ⟨_, rfl⟩, q⟩) (hs _ _)
/-- b[i], 0 ≤ i < len -/
theorem pe_item_byt (ha : PE X a ta) (hb : PE X b tb) (hs : PlainIxT b) :
    PE X (.Subscript a b pos) (tOp (fun x y H Q => ∃ (z : List UInt8) (i : Int), x = .byt z.toArray ∧ y = .int i ∧ z.length ≤ sizeLine ∧ 0 ≤ i ∧ i < z.length ∧ Q (.int ((z.getD i.toNat 0).toNat : Nat)) H) ta tb) := by
  intro pins s σ H Q I h
  refine Subscript_ (binT ha hb I h fun v u s2 x y H2 I2 rx ry q => ?_)
  obtain ⟨z, i, rfl, rfl, hz, h0, h1, q⟩ := q
  obtain ⟨t, rfl⟩ := rx
  obtain ⟨t', rfl⟩ := ry
  have hl : sizeLine = 16777216 := sizeLine_eq
  exact tail_any (PySem.W.typeIs_bytes s2 z.toArray t) PySem.W.FB.slot_bytes_getitem.lookup (PySem.W.getItem_bytes (by omega) h0 h1 ⟨.int ((z.getD i.toNat 0).toNat : Nat), H2, I2.tok _, ⟨_, rfl⟩, q⟩) (hs _ _)

/-! ### scalar builtins, by CallR -/
theorem vals1 {x : V} {us : List Value} (r : Vals [x] us) : ∃ u, us = [u] ∧ RelV x u := by
  cases r with
  | cons r1 r2 => cases r2; exact ⟨_, rfl, r1⟩
theorem vals2 {x y : V} {us : List Value} (r : Vals [x, y] us) : ∃ u w', us = [u, w'] ∧ RelV x u ∧ RelV y w' := by
  cases r with
  | cons r1 r2 =>
    cases r2 with
    | cons r3 r4 => cases r4; exact ⟨_, _, rfl, r1, r3⟩
theorem call_abs : CallR X (.builtin "abs") (fun xs H Q => ∃ i, xs = [.int i] ∧ Q (.int (if i < 0 then -i else i)) H) := by
  intro pins s σ H xs us Q I r h
  obtain ⟨i, rfl, q⟩ := h
  obtain ⟨u, rfl, t, rfl⟩ := vals1 r
  exact call_abs_int fun u tk => ⟨.int (if i < 0 then -i else i), H, I.tok _, ⟨_, rfl⟩, q⟩
theorem call_max2 (hc : X.calm = true) : CallR X (.builtin "max") (fun xs H Q => ∃ i j, xs = [.int i, .int j] ∧ Q (.int (if j > i then j else i)) H) := by
  intro pins s σ H xs us Q I r h
  obtain ⟨i, j, rfl, q⟩ := h
  obtain ⟨u, w', rfl, ⟨t, rfl⟩, ⟨t', rfl⟩⟩ := vals2 r
  refine max_two_ints (I.ok.hd hc) fun h' tk k => ⟨_, H, I.kept k, ?_, q⟩
  by_cases hj : j > i
  · rw [if_pos hj, if_pos hj]; exact ⟨_, rfl⟩
  · rw [if_neg hj, if_neg hj]; exact ⟨_, rfl⟩
theorem call_min2 (hc : X.calm = true) : CallR X (.builtin "min") (fun xs H Q => ∃ i j, xs = [.int i, .int j] ∧ Q (.int (if j < i then j else i)) H) := by
  intro pins s σ H xs us Q I r h
  obtain ⟨i, j, rfl, q⟩ := h
  obtain ⟨u, w', rfl, ⟨t, rfl⟩, ⟨t', rfl⟩⟩ := vals2 r
  refine min_two_ints (I.ok.hd hc) fun h' tk k => ⟨_, H, I.kept k, ?_, q⟩
  by_cases hj : j < i
  · rw [if_pos hj, if_pos hj]; exact ⟨_, rfl⟩
  · rw [if_neg hj, if_neg hj]; exact ⟨_, rfl⟩
theorem call_int1 : CallR X (.type "int") (fun xs H Q => (∃ i, xs = [.int i] ∧ Q (.int i) H) ∨ ∃ k, xs = [.bl k] ∧ Q (.int (if k then 1 else 0)) H) := by
  intro pins s σ H xs us Q I r h
  rcases h with ⟨i, rfl, q⟩ | ⟨k, rfl, q⟩
  · obtain ⟨u, rfl, t, rfl⟩ := vals1 r
    exact call_int_int ⟨.int i, H, I, ⟨_, rfl⟩, q⟩
  · obtain ⟨u, rfl, r1⟩ := vals1 r
    cases r1
    exact call_int_bool ⟨.int (if k then 1 else 0), H, I.tok _, ⟨_, rfl⟩, q⟩
theorem call_bool1 : CallR X (.type "bool") (fun xs H Q => (∃ i, xs = [.int i] ∧ Q (.bl (i != 0)) H) ∨ ∃ k, xs = [.bl k] ∧ Q (.bl k) H) := by
  intro pins s σ H xs us Q I r h
  rcases h with ⟨i, rfl, q⟩ | ⟨k, rfl, q⟩
  · obtain ⟨u, rfl, t, rfl⟩ := vals1 r
    exact call_bool_int ⟨.bl (i != 0), H, I, rfl, q⟩
  · obtain ⟨u, rfl, r1⟩ := vals1 r
    cases r1
    exact call_bool_bool ⟨.bl k, H, I, rfl, q⟩
theorem call_str_int : CallR X (.type "str") (fun xs H Q => ∃ i, xs = [.int i] ∧ i.natAbs.log2 < 1920 ∧ Q (.str (toString i)) H) := by
  intro pins s σ H xs us Q I r h
  obtain ⟨i, rfl, hz, q⟩ := h
  obtain ⟨u, rfl, t, rfl⟩ := vals1 r
  exact PySem.P.str_of_int hz ⟨.str _, H, I.tok _, ⟨_, rfl⟩, q⟩
theorem call_ord : CallR X (.builtin "ord") (fun xs H Q => ∃ x, xs = [.str x] ∧ x.length = 1 ∧ Q (.int (x.cps.getD 0 0 : Nat)) H) := by
  intro pins s σ H xs us Q I r h
  obtain ⟨x, rfl, hz, q⟩ := h
  obtain ⟨u, rfl, t, rfl⟩ := vals1 r
  exact ord_of_one hz ⟨.int _, H, I.tok _, ⟨_, rfl⟩, q⟩
theorem call_chr : CallR X (.builtin "chr") (fun xs H Q => ∃ i, xs = [.int i] ∧ 0 ≤ i ∧ i ≤ 1114111 ∧ Q (.str ⟨#[i.toNat]⟩) H) := by
  intro pins s σ H xs us Q I r h
  obtain ⟨i, rfl, h0, h1, q⟩ := h
  obtain ⟨u, rfl, t, rfl⟩ := vals1 r
  exact chr_of_range h0 h1 ⟨.str _, H, I.tok _, ⟨_, rfl⟩, q⟩
/-- len of a str, a bytes, a list, a tuple -/
def LenV (K : PySem.W.Frag) (x : V) (H : Hp) (n : Nat) : Prop :=
  match x with
  | .str y => y.length ≤ sizeLine ∧ n = y.length
  | .byt y => y.size ≤ sizeLine ∧ n = y.size
  | .ref p => (∃ xs, SqL K H p xs ∧ n = xs.length) ∨ ∃ xs, SqT K H p xs ∧ n = xs.length
  | _ => False
theorem call_len : CallR X (.builtin "len") (fun xs H Q => ∃ x n, xs = [x] ∧ LenV X.K x H n ∧ Q (.int n) H) := by
  intro pins s σ H xs us Q I r h
  obtain ⟨x, n, rfl, e, q⟩ := h
  obtain ⟨u, rfl, rx⟩ := vals1 r
  have hl := line63
  have hs : sizeLine = 16777216 := sizeLine_eq
  cases x with
  | str y =>
    obtain ⟨t, rfl⟩ := rx
    obtain ⟨hy, e'⟩ : y.length ≤ sizeLine ∧ n = y.length := e
    subst e'
    exact len_str (by omega) ⟨.int _, H, I.tok _, ⟨_, rfl⟩, q⟩
  | byt y =>
    obtain ⟨t, rfl⟩ := rx
    obtain ⟨hy, e'⟩ : y.size ≤ sizeLine ∧ n = y.size := e
    subst e'
    exact PySem.W.len_bytes (by omega) ⟨.int _, H, I.tok _, ⟨_, rfl⟩, q⟩
  | ref p =>
    cases rx
    have e' : (∃ xs, SqL X.K H p xs ∧ n = xs.length) ∨ ∃ xs, SqT X.K H p xs ∧ n = xs.length := e
    rcases e' with ⟨xs, hx, e'⟩ | ⟨xs, hx, e'⟩
    · subst e'
      obtain ⟨its, r', pl, hz⟩ := I.list hx
      have hlen := r'.length
      exact Calls.call_len_list pl.isList (by simp only [List.size_toArray]; omega) ⟨.int xs.length, H, I.tok _, ⟨_, by simp only [List.size_toArray]; rw [hlen]⟩, q⟩
    · subst e'
      obtain ⟨its, r', pl, hz⟩ := I.tuple hx
      have hlen := r'.length
      exact len_tuple pl (by simp only [List.size_toArray]; omega) ⟨.int xs.length, H, I.tok _, ⟨_, by simp only [List.size_toArray]; rw [hlen]⟩, q⟩
  | _ => exact (show False from e).elim
/-- divmod: a new tuple -/
theorem call_divmod : CallR X (.builtin "divmod") (fun xs H Q => ∃ i j, xs = [.int i, .int j] ∧ CDiv i j ∧ ∀ p, H p = none → Q (.ref p) (upd H p (.tup [.int (i / j), .int (i % j)]))) := by
  intro pins s σ H xs us Q I r h
  obtain ⟨i, j, rfl, ⟨h1, h2⟩, q⟩ := h
  obtain ⟨u, w', rfl, ⟨t, rfl⟩, ⟨t', rfl⟩⟩ := vals2 r
  refine divmod_int (by omega) ?_ (.inl (PyProof.noPylong_small (by omega)))
  rw [Int.fdiv_eq_ediv_of_nonneg i (by omega), Int.fmod_eq_emod_of_nonneg i (by omega)]
  have hn : H s.heap.objs.size = none := I.hok.fresh (Nat.le_refl _)
  refine ⟨.ref s.heap.objs.size, _, ?_, rfl, q _ hn⟩
  refine I.laid (fun b o e => Heap.get?_push_of_some _ e) (Nat.le_refl _) ⟨by simp only [List.length_cons, List.length_nil]; rw [sizeLine_eq]; decide, [.int (i / j) s.toks, .int (i % j) (s.toks + 1)], .cons ⟨_, rfl⟩ (.cons ⟨_, rfl⟩ .nil), ?_⟩
  exact ⟨_, Heap.get?_push_size s.heap rfl, rfl, 0, rfl⟩
end
end L2

namespace L2
open PySem PySem.Spec PyProof.Rows

/-! ### an instance, its attributes a map -/
structure ObjM (h : Heap) (x dx C : Addr) (mA : Str → Option Value) : Prop where
  obj : h.get? x = some (PySem.W.instObj C dx)
  ns : h.Ns1 dx mA
  ne : dx ≠ x

theorem lookIn_ns {h : Heap} {dx : Addr} {mA : Str → Option Value} (n : h.Ns1 dx mA) : ∃ od, h.get? dx = some od ∧ ∀ name, PySem.W.lookIn name od = some (mA name) := by
  obtain ⟨o, es, ep, ho, hd, hk, _, hm⟩ := n
  refine ⟨o, ho, fun name => ?_⟩
  have e := hm name
  unfold nsFind findBy at e
  rw [← Array.find?_toList] at e
  unfold PySem.W.lookIn
  rw [hd]
  dsimp only
  split
  · rename_i y q
    rw [q] at e
    exact congrArg some e
  · rename_i q
    rw [q] at e
    have a : es.toList.any (·.refKey) = false := by
      rw [List.any_eq_false]
      intro y hy
      obtain ⟨z, t, hkey⟩ := hk y (Array.mem_toList_iff.mp hy)
      simp [DictEntry.refKey, hkey]
    have a' : ¬ es.toList.any (·.refKey) = true := by rw [a]; exact Bool.false_ne_true
    rw [if_neg a']
    exact congrArg some e

theorem ObjM.look {h : Heap} {x dx C : Addr} {mA : Str → Option Value} (I : ObjM h x dx C mA) : ∃ od, PySem.W.InstAt h x (PySem.W.instObj C dx) C (some od) ∧ ∀ name, PySem.W.lookIn name od = some (mA name) :=
  let ⟨od, ho, hl⟩ := lookIn_ns I.ns
  ⟨od, ⟨I.obj, rfl, rfl, ho⟩, hl⟩

section
variable {prog : Program} {w : World} {A : Around} {E : Value → Shared → Prop} {s : Shared} {K : PySem.W.Frag} {x dx C f : Addr} {mA : Str → Option Value} {name : Str} {v : Value}

theorem get_map {expr : Bool} {Q : Value → Shared → Prop} (X : K.In s.heap) (I : ObjM s.heap x dx C mA) (hg : PySem.W.plainGet K C name = true) (hh : PySem.W.hasDictIn K C = true)
    (ha : PySem.W.findIn K (.ref C) name = some none) (hv : mA name = some v) (hv' : PySem.W.handedIn v = true) (h : Q v { s with toks := s.toks + 1 }) :
    wpAny (model prog w) A (getAttr (.ref x) name expr) Q E s := by
  obtain ⟨od, J, hl⟩ := I.look
  exact PySem.W.get_value X J (PySem.W.plainGet_of hg).1 (PySem.W.findObj_own hh ha rfl (by rw [hl, hv])) hv' h

theorem get_const {expr : Bool} {a : Value} {Q : Value → Shared → Prop} (X : K.In s.heap) (I : ObjM s.heap x dx C mA) (hg : PySem.W.plainGet K C name = true) (hh : PySem.W.hasDictIn K C = true)
    (ha : PySem.W.findIn K (.ref C) name = some (some a)) (hn : PySem.W.specialIn K a "__get__" = some none) (hc : PySem.W.copiedNames.contains name = false) (hv : mA name = none) (hv' : PySem.W.handedIn a = true)
    (h : Q a { s with toks := s.toks + 1 }) : wpAny (model prog w) A (getAttr (.ref x) name expr) Q E s := by
  obtain ⟨od, J, hl⟩ := I.look
  exact PySem.W.get_value X J (PySem.W.plainGet_of hg).1 (PySem.W.findObj_cls hh ha hn hv' hc (by rw [hl, hv])) hv' h

theorem get_meth {pl : Sem Bool} {Q : Value × List Value → Shared → Prop} (X : K.In s.heap) (I : ObjM s.heap x dx C mA) (hg : PySem.W.plainGet K C name = true)
    (hf : PySem.W.findIn K (.ref C) name = some (some (.ref f))) (ht : PySem.W.isFn K (.ref f) = true) (hv : mA name = none) (h : Q (.ref f, [.ref x]) s) :
    wpAny (model prog w) A (getMethod (.ref x) name pl) Q E s := by
  obtain ⟨od, J, hl⟩ := I.look
  exact PySem.W.method_fn X J (PySem.W.plainGet_of hg).1 (PySem.W.plainGet_of hg).2 hf (beq_iff_eq.mp ht) (by show (PySem.W.lookIn name od).map (·.isSome) = some false; rw [hl, hv]; rfl) h

theorem set_map {ns : List Str} {Q : Unit → Shared → Prop} (X : K.In s.heap) (I : ObjM s.heap x dx C mA)
    (hs : PySem.W.findIn K (.ref C) "__setattr__" = some (some (.builtin "object.__setattr__"))) (hp : PySem.W.plainOver K C = true) (ht : PySem.W.takerIn K C name = some none) (hh : PySem.W.hasDictIn K C = true)
    (hw : PySem.Within mA ns) (hsz : ns.length ≤ sizeLine)
    (h : ∀ h', ObjM h' x dx C (fun y => if y = name then some v else mA y) → Heap.SameBut dx s.heap h' → Q () { s with heap := h', toks := s.toks + 2 }) :
    wpAny (model prog w) A (setAttr (.ref x) name v) Q E s := by
  obtain ⟨od, J, hl⟩ := I.look
  refine PySem.W.set_plain X J hs (PySem.W.osa_open (s := { s with toks := s.toks + 1 }) (r := none) X J hp ht fun b => ?_)
  obtain ⟨cd, hc, hd'⟩ := PySem.W.any_some hh
  have hx : s.heap.get? x = some ⟨.ref C, some dx, .plain, #[]⟩ := I.obj
  refine wpAny_bind (wpAny_pure (wpAny_bind (wpAny_bind (wpAny_loadPart hx (wpAny_bind (PySem.W.Looks.here (s := { s with toks := s.toks + 1 }) (PySem.W.looks_clsIn X hc) ?_))))))
  rw [hd']
  refine wpAny_pure (a := some dx) (wpAny_bind (wpAny_pure (wpAny_bind ?_)))
  refine wpAny_nsSet1 (s := { s with toks := s.toks + 1 }) I.ns fun h' hn2 hs2 => ?_
  obtain ⟨oD, esD, epD, hoD, hdD, hcD⟩ := hn2.count (PySem.Within.cons name v hw)
  refine wpAny_bind (wpAny_lookBehind hoD (by rw [hdD]; exact pastItsLine_dict (Nat.le_trans hcD (by rw [List.length_cons]; omega))) ?_)
  exact wpAny_pure (h _ ⟨(hs2.2 _ (Ne.symm I.ne)).trans I.obj, hn2, I.ne⟩ hs2)

/-- C(..): the dict at the heap's end, the instance behind it; then its __init__ -/
theorem make_map {R : Result → Shared → Prop} {vs : List Value} {kw : List (Str × Value)} (X : K.In s.heap) (hm : PySem.W.makesIn K C = true)
    (hi : PySem.W.findIn K (.ref C) "__init__" = some (some (.ref f))) (hf : PySem.W.typeIn K (.ref f) = some (.type "function"))
    (h : codeAny (model prog w) (A.under (.builtin "type.__call__" ⟨.ref C :: vs, kw⟩)) (.call (.ref f) ⟨.ref (s.heap.objs.size + 1) :: vs, kw⟩) (PySem.W.InitBack (s.heap.objs.size + 1) R)
      { s with heap := (s.heap.push PySem.W.emptyDict).push (PySem.W.instObj C s.heap.objs.size) }) :
    codeAny (model prog w) A (.call (.ref C) ⟨vs, kw⟩) R s := by
  obtain ⟨hh, g, d, t, os⟩ := s
  exact PySem.W.make_core (PySem.W.makes_of X hm) (PySem.W.looks_findIn X hi) (fun self => PySem.W.bind_fn X self hf) (.inl rfl) h
/-- C() where there is no __init__ but object's -/
theorem make_map0 {R : Result → Shared → Prop} (X : K.In s.heap) (hm : PySem.W.makesIn K C = true)
    (hi : PySem.W.findIn K (.ref C) "__init__" = some (some (.builtin "object.__init__")))
    (hb : ∀ self, PySem.W.Looks (model prog w) s.heap (bindSpecial (.builtin "object.__init__") self) (.builtin "object.__init__", [self]))
    (h : codeAny (model prog w) (A.under (.builtin "type.__call__" ⟨[.ref C], []⟩)) (.call (.builtin "object.__init__") ⟨[.ref (s.heap.objs.size + 1)], []⟩) (PySem.W.InitBack (s.heap.objs.size + 1) R)
      { s with heap := (s.heap.push PySem.W.emptyDict).push (PySem.W.instObj C s.heap.objs.size) }) :
    codeAny (model prog w) A (.call (.ref C) ⟨[], []⟩) R s := by
  obtain ⟨hh, g, d, t, os⟩ := s
  exact PySem.W.make_core (PySem.W.makes_of X hm) (PySem.W.looks_findIn X hi) hb (.inr ⟨rfl, rfl⟩) h
end

/-! ### the attributes as a list of pairs -/
def putF (f : Str) (v : V) : List (Str × V) → List (Str × V)
  | [] => [(f, v)]
  | (g, x) :: r => if g = f then (g, v) :: r else (g, x) :: putF f v r
theorem lookup_putF (f g : Str) (v : V) : ∀ fs : List (Str × V), (putF f v fs).lookup g = if g = f then some v else fs.lookup g
  | [] => by
    show List.lookup g [(f, v)] = _
    by_cases h : g = f
    · have hb : (g == f) = true := beq_iff_eq.mpr h
      simp only [List.lookup, hb, if_pos h]
    · have hb : (g == f) = false := beq_eq_false_iff_ne.mpr h
      simp only [List.lookup, hb, if_neg h]
  | (k, x) :: r => by
    have ih := lookup_putF f g v r
    rw [show putF f v ((k, x) :: r) = (if k = f then (k, v) :: r else (k, x) :: putF f v r) from rfl]
    by_cases hk : k = f
    · rw [if_pos hk]
      by_cases h : g = k
      · have hb : (g == k) = true := beq_iff_eq.mpr h
        simp only [List.lookup, hb, if_pos (h.trans hk)]
      · have hb : (g == k) = false := beq_eq_false_iff_ne.mpr h
        simp only [List.lookup, hb, if_neg (fun e : g = f => h (e.trans hk.symm))]
    · rw [if_neg hk]
      by_cases h : g = k
      · have hb : (g == k) = true := beq_iff_eq.mpr h
        simp only [List.lookup, hb, if_neg (fun e : g = f => hk (h.symm.trans e))]
      · have hb : (g == k) = false := beq_eq_false_iff_ne.mpr h
        simp only [List.lookup, hb]
        exact ih
theorem keys_putF (f : Str) (v : V) : ∀ fs : List (Str × V), f ∈ (putF f v fs).map (·.1) ∧ ∀ g, g ∈ fs.map (·.1) → g ∈ (putF f v fs).map (·.1)
  | [] => ⟨by simp [putF], fun g h => by simp at h⟩
  | (k, x) :: r => by
    obtain ⟨i1, i2⟩ := keys_putF f v r
    rw [show putF f v ((k, x) :: r) = (if k = f then (k, v) :: r else (k, x) :: putF f v r) from rfl]
    by_cases hk : k = f
    · rw [if_pos hk]
      subst hk
      exact ⟨by simp, fun g h => by simpa using h⟩
    · rw [if_neg hk]
      refine ⟨?_, fun g h => ?_⟩
      · rw [List.map_cons]
        exact List.mem_cons_of_mem _ i1
      · rw [List.map_cons] at h ⊢
        rcases List.mem_cons.mp h with e | e
        · exact List.mem_cons.mpr (.inl e)
        · exact List.mem_cons_of_mem _ (i2 g e)
theorem length_putF (f : Str) (v : V) : ∀ fs : List (Str × V), (putF f v fs).length ≤ fs.length + 1
  | [] => by simp [putF]
  | (k, x) :: r => by
    have ih := length_putF f v r
    rw [show putF f v ((k, x) :: r) = (if k = f then (k, v) :: r else (k, x) :: putF f v r) from rfl]
    by_cases hk : k = f
    · rw [if_pos hk, List.length_cons, List.length_cons]; omega
    · rw [if_neg hk, List.length_cons, List.length_cons]; omega

theorem RelO.some_of {v : V} {o : Option Value} (r : RelO (some v) o) : ∃ u, o = some u ∧ RelV v u := by
  cases o with
  | none => exact (show False from r).elim
  | some u => exact ⟨u, rfl, r⟩
theorem RelO.none_of {o : Option Value} (r : RelO none o) : o = none := by
  cases o with
  | none => rfl
  | some u => exact (show False from r).elim
theorem handed_of {v : V} {u : Value} (r : RelV v u) : PySem.W.handedIn u = true := by
  cases v with
  | non => cases (show u = Value.none from r); rfl
  | bl b => cases (show u = Value.bool b from r); rfl
  | int i => obtain ⟨t, e⟩ := (show ∃ t, u = Value.int i t from r); cases e; rfl
  | str x => obtain ⟨t, e⟩ := (show ∃ t, u = Value.str x t from r); cases e; rfl
  | byt b => obtain ⟨t, e⟩ := (show ∃ t, u = Value.bytes b t from r); cases e; rfl
  | flt b => obtain ⟨t, e⟩ := (show ∃ t, u = Value.float b t from r); cases e; rfl
  | ref a => cases (show u = Value.ref a from r); rfl
  | ty n => cases (show u = Value.type n from r); rfl

section
variable {P : Program} {w : World} {H H' : Hp} {h h' : Heap} {a C dx : Addr} {fs fs' : List (Str × V)}
theorem ins_get (hok : HOk P w H h) (e : H a = some (.ins C dx fs)) : ∃ mA, ObjM h a dx C mA ∧ (∀ f, RelO (fs.lookup f) (mA f)) ∧ PySem.Within mA (fs.map (·.1)) ∧ fs.length ≤ 1000 ∧ H dx = some (.own a) := by
  obtain ⟨d, z, ne, ob, mA, n, r, q⟩ := (show ObjOk P w H h a (.ins C dx fs) from hok a _ e)
  exact ⟨mA, ⟨ob, n, ne⟩, r, q, z, d⟩
end

/-! ### what of the text a class must have -/
structure Cls (K : PySem.W.Frag) (C : Addr) : Prop where
  pg : PySem.W.plainGet K C Str.empty = true
  hd : PySem.W.hasDictIn K C = true
  po : PySem.W.plainOver K C = true
  sa : PySem.W.findIn K (.ref C) "__setattr__" = some (some (.builtin "object.__setattr__"))
theorem Cls.get {K : PySem.W.Frag} {C : Addr} (c : Cls K C) (f : Str) : PySem.W.plainGet K C f = true := c.pg
/-- no class of it has the name -/
def NoAttr (K : PySem.W.Frag) (C : Addr) (f : Str) : Prop := PySem.W.findIn K (.ref C) f = some none
theorem NoAttr.taker {K : PySem.W.Frag} {C : Addr} {f : Str} (n : NoAttr K C f) : PySem.W.takerIn K C f = some none := by
  unfold PySem.W.takerIn
  rw [show PySem.W.findIn K (.ref C) f = some none from n]
  rfl
/-- a constant of the class -/
structure Con (K : PySem.W.Frag) (C : Addr) (f : Str) (v : V) (u : Value) : Prop where
  at_ : PySem.W.findIn K (.ref C) f = some (some u)
  rel : RelV v u
  get : PySem.W.specialIn K u "__get__" = some none
  cp : PySem.W.copiedNames.contains f = false
/-- a method: a plain def of the class or of one above it -/
structure Meth (K : PySem.W.Frag) (C : Addr) (m : Str) (f : Addr) : Prop where
  at_ : PySem.W.findIn K (.ref C) m = some (some (.ref f))
  fn : PySem.W.isFn K (.ref f) = true
  kp : PySem.W.keepIn K (.ref f) = true

section
variable {X : Cx} {pins : List (Addr × Obj)} {σ : St} {H : Hp} {s : Shared} {a C dx : Addr} {fs : List (Str × V)} {f : Str} {v : V} {A : Around} {E : Value → Shared → Prop}

theorem getattr_ok {b : Bool} {Q : Value → Shared → Prop} (I : Inv X pins σ H s) (e : H a = some (.ins C dx fs)) (c : Cls X.K C) (n : NoAttr X.K C f) (l : fs.lookup f = some v)
    (h : ∀ u s', Inv X pins σ H s' → RelV v u → Q u s') : wpAny (model X.prog X.w) A (getAttr (.ref a) f b) Q E s := by
  obtain ⟨mA, O, r, _, _, _⟩ := ins_get I.hok e
  obtain ⟨u, hu, ru⟩ := RelO.some_of (v := v) (o := mA f) (by rw [← l]; exact r f)
  exact get_map I.kIn O (c.get f) c.hd n hu (handed_of ru) (h u _ (I.tok _) ru)

theorem getcon_ok {b : Bool} {u : Value} {Q : Value → Shared → Prop} (I : Inv X pins σ H s) (e : H a = some (.ins C dx fs)) (c : Cls X.K C) (k : Con X.K C f v u) (l : fs.lookup f = none)
    (h : ∀ s', Inv X pins σ H s' → Q u s') : wpAny (model X.prog X.w) A (getAttr (.ref a) f b) Q E s := by
  obtain ⟨mA, O, r, _, _, _⟩ := ins_get I.hok e
  have hn : mA f = none := RelO.none_of (by rw [← l]; exact r f)
  exact get_const I.kIn O (c.get f) c.hd k.at_ k.get k.cp hn (handed_of k.rel) (h _ (I.tok _))

theorem getmeth_ok {m : Str} {g : Addr} {pl : Sem Bool} {Q : Value × List Value → Shared → Prop} (I : Inv X pins σ H s) (e : H a = some (.ins C dx fs)) (c : Cls X.K C) (k : Meth X.K C m g) (l : fs.lookup m = none)
    (h : Q (.ref g, [.ref a]) s) : wpAny (model X.prog X.w) A (getMethod (.ref a) m pl) Q E s := by
  obtain ⟨mA, O, r, _, _, _⟩ := ins_get I.hok e
  have hn : mA m = none := RelO.none_of (by rw [← l]; exact r m)
  exact get_meth I.kIn O (c.get m) k.at_ k.fn hn h

theorem setattr_ok {y : V} {u : Value} {Q : Unit → Shared → Prop} (I : Inv X pins σ H s) (e : H a = some (.ins C dx fs)) (c : Cls X.K C) (n : NoAttr X.K C f) (hl : fs.length < 1000) (ry : RelV y u)
    (h : ∀ s', Inv X pins σ (upd H a (.ins C dx (putF f y fs))) s' → Q () s') : wpAny (model X.prog X.w) A (setAttr (.ref a) f u) Q E s := by
  obtain ⟨mA, O, r, wi, _, ho⟩ := ins_get I.hok e
  have hz : (fs.map (·.1)).length ≤ sizeLine := by rw [List.length_map, sizeLine_eq]; omega
  refine set_map I.kIn O c.sa c.po n.taker c.hd wi hz fun h' O' sb => h _ ?_
  have hd : ∃ o, h'.get? dx = some o := let ⟨o, _, _, e', _⟩ := O'.ns; ⟨o, e'⟩
  refine I.write (x := a) (e := dx) (by rw [e]; exact True.intro) (.inr ho) (fun b q hb z => (sb.2 b hb).trans z) hd ?_
  refine ⟨by rw [upd_ne O.ne]; exact ho, ?_, O.ne, O'.obj, _, O'.ns, fun g => ?_, fun g hg => ?_⟩
  · have := length_putF f y fs; omega
  · show RelO ((putF f y fs).lookup g) (if g = f then some u else mA g)
    rw [lookup_putF]
    by_cases q : g = f
    · rw [if_pos q, if_pos q]; exact ry
    · rw [if_neg q, if_neg q]; exact r g
  · by_cases q : g = f
    · rw [q]; exact (keys_putF f y fs).1
    · refine (keys_putF f y fs).2 g (wi g fun z => hg ?_)
      show (if g = f then some u else mA g) = none
      rw [if_neg q]; exact z

/-- a new instance, tracked, without attributes -/
theorem Inv.made (I : Inv X pins σ H s) : Inv X pins σ (upd (upd H s.heap.objs.size (.own (s.heap.objs.size + 1))) (s.heap.objs.size + 1) (.ins C s.heap.objs.size []))
    { s with heap := (s.heap.push PySem.W.emptyDict).push (PySem.W.instObj C s.heap.objs.size) } := by
  have e1 : (s.heap.push PySem.W.emptyDict).get? s.heap.objs.size = some PySem.W.emptyDict := Heap.get?_push_size s.heap rfl
  have e2 : ((s.heap.push PySem.W.emptyDict).push (PySem.W.instObj C s.heap.objs.size)).get? (s.heap.objs.size + 1) = some (PySem.W.instObj C s.heap.objs.size) := by
    have := Heap.get?_push_size (s.heap.push PySem.W.emptyDict) (o := PySem.W.instObj C s.heap.objs.size) rfl
    rwa [Heap.size_push] at this
  have e3 : (s.heap.push PySem.W.emptyDict).Ns s.heap.objs.size (fun _ => none) := ⟨PySem.W.emptyDict, #[], _, e1, rfl, (fun e he => absurd he (by simp)), fun _ => rfl⟩
  have I1 := I.laid (a := s.heap.objs.size) (o := .own (s.heap.objs.size + 1)) (h' := s.heap.push PySem.W.emptyDict) (t' := s.toks) (fun b u q => Heap.get?_push_of_some _ q) (Nat.le_refl _) ⟨_, e1⟩
  refine I1.laid (a := s.heap.objs.size + 1) (o := .ins C s.heap.objs.size []) (t' := s.toks) (fun b u q => Heap.get?_push_of_some _ q) (Nat.le_of_eq (Heap.size_push _ _)) ?_
  have ne : s.heap.objs.size ≠ s.heap.objs.size + 1 := Nat.ne_of_lt (Nat.lt_succ_self _)
  refine ⟨by rw [upd_ne ne, upd_same], Nat.zero_le _, ne, e2, fun _ => none, (Heap.Ns1.of_empty e3).at fun o q => Heap.get?_push_of_some _ q, fun _ => True.intro, fun y hy => absurd rfl hy⟩

/-- e.f where nothing but the object is asked: through attributeBase (super) and the last hold -/
theorem attr_of {prog : Program} {w : World} {env : Env} {e : Expr} {f : Str} {pos : Pos} {s : Shared} {Q : Value → Shared → Prop} (hb : attributeBase e f env (eval e env) = eval e env)
    (h : wpAny (model prog w) A (eval e env) (fun o s₁ => wpAny (model prog w) A (getAttr o f true) Q E s₁) E s) : wpAny (model prog w) A (eval (.Attribute e f pos) env) Q E s :=
  Attribute_any_ h (by rw [arm_eval_Attribute, hb])
end

/-! ### readings and rules -/
/-- e.f, an attribute of the instance -/
def tFld (K : PySem.W.Frag) (ta : TE) (f : Str) : TE := fun σ H Q => ta σ H fun x H1 => ∃ a C dx fs v, x = .ref a ∧ H1 a = some (.ins C dx fs) ∧ Cls K C ∧ NoAttr K C f ∧ fs.lookup f = some v ∧ Q v H1
/-- e.f, a constant of the class -/
def tCon (K : PySem.W.Frag) (ta : TE) (f : Str) : TE := fun σ H Q => ta σ H fun x H1 => ∃ a C dx fs v u, x = .ref a ∧ H1 a = some (.ins C dx fs) ∧ Cls K C ∧ Con K C f v u ∧ fs.lookup f = none ∧ Q v H1
/-- e.f = value -/
def sFld (K : PySem.W.Frag) (ta tv : TE) (f : Str) : TS := fun D σ H => tv σ H fun y H1 => ta σ H1 fun x H2 => ∃ a C dx fs, x = .ref a ∧ H2 a = some (.ins C dx fs) ∧ Cls K C ∧ NoAttr K C f ∧ fs.length < 1000 ∧
  D.nx σ (upd H2 a (.ins C dx (putF f y fs)))
/-- an augmented operator on two values -/
def InOp (X : Cx) (op : Operator) (rd : V → V → Hp → VK → Prop) : Prop :=
  ∀ (pins : List (Addr × Obj)) (s : Shared) (σ : St) (H : Hp) (x y : V) (u v : Value) (Q : VK), Inv X pins σ H s → RelV x u → RelV y v → rd x y H Q → wpAny (model X.prog X.w) X.A (inplaceOp op u v) (EP X pins σ Q) X.xe s
/-- e.f op= value -/
def sFldAug (K : PySem.W.Frag) (ta tv : TE) (rd : V → V → Hp → VK → Prop) (f : Str) : TS := fun D σ H => ta σ H fun x H1 => ∃ a C dx fs v, x = .ref a ∧ H1 a = some (.ins C dx fs) ∧ Cls K C ∧ NoAttr K C f ∧ fs.lookup f = some v ∧
  tv σ H1 fun y H2 => rd v y H2 fun z H3 => ∃ dx' fs', H3 a = some (.ins C dx' fs') ∧ fs'.length < 1000 ∧ D.nx σ (upd H3 a (.ins C dx' (putF f z fs')))

section
variable {X : Cx} {o e value : Expr} {f : Str} {pos pos' tpos : Pos} {ta tv : TE}
theorem pe_fld (he : PE X e ta) (hb : attributeBase e f X.env (eval e X.env) = eval e X.env) : PE X (.Attribute e f pos) (tFld X.K ta f) := by
  intro pins s σ H Q I h
  refine attr_of hb (thn (he pins s σ H _ I h) fun u s1 ⟨x, H1, I1, rx, a, C, dx, fs, v, ex, ea, c, n, l, q⟩ => ?_)
  subst ex
  obtain rfl : u = Value.ref a := rx
  exact getattr_ok I1 ea c n l fun u' s2 I2 ru => ⟨v, H1, I2, ru, q⟩
theorem pe_con (he : PE X e ta) (hb : attributeBase e f X.env (eval e X.env) = eval e X.env) : PE X (.Attribute e f pos) (tCon X.K ta f) := by
  intro pins s σ H Q I h
  refine attr_of hb (thn (he pins s σ H _ I h) fun u s1 ⟨x, H1, I1, rx, a, C, dx, fs, v, u0, ex, ea, c, k, l, q⟩ => ?_)
  subst ex
  obtain rfl : u = Value.ref a := rx
  exact getcon_ok I1 ea c k l fun s2 I2 => ⟨v, H1, I2, k.rel, q⟩
theorem ps_fld (ha : PE X o ta) (hv : PE X value tv) (hs : swapsWith value (some (.Attribute o f pos')) pos.line X.env = pure false) : PS X (.Assign [.Attribute o f pos'] value pos) (sFld X.K ta tv f) := by
  intro pins s σ H D I h
  refine plainObj_wpAny_Assign_Attribute (thn (hv pins s σ H _ I h) fun u s1 ⟨y, H1, I1, ry, q⟩ => thn (ha pins s1 σ H1 _ I1 q) fun ov s2 ⟨x, H2, I2, rx, a, C, dx, fs, ex, ea, c, n, l, q2⟩ => ?_) hs
  subst ex
  obtain rfl : ov = Value.ref a := rx
  exact setattr_ok I2 ea c n l ry fun s3 I3 => ⟨σ, _, I3, q2⟩
theorem ps_fldaug {op : Operator} {rd : V → V → Hp → VK → Prop} (ha : PE X o ta) (hv : PE X value tv) (hop : InOp X op rd) : PS X (.AugAssign (.Attribute o f tpos) op value pos) (sFldAug X.K ta tv rd f) := by
  intro pins s σ H D I h
  refine wpAny_AugAssign_AttributeAny (thn (ha pins s σ H _ I h) fun ov s1 ⟨x, H1, I1, rx, a, C, dx, fs, v, ex, ea, c, n, l, q⟩ => ?_)
  subst ex
  obtain rfl : ov = Value.ref a := rx
  refine getattr_ok I1 ea c n l fun u s2 I2 ru => thn (hv pins s2 σ H1 _ I2 q) fun w3 s3 ⟨y, H2, I3, ry, q3⟩ => thn (hop pins s3 σ H2 v y u w3 _ I3 ru ry q3) fun w4 s4 ⟨z, H3, I4, rz, dx', fs', ea', l', q4⟩ => ?_
  exact setattr_ok I4 ea' c n l' rz fun s5 I5 => ⟨σ, _, I5, q4⟩
def rAdd : V → V → Hp → VK → Prop := fun x y H Q => ∃ i j, x = .int i ∧ y = .int j ∧ Q (.int (i + j)) H
def rSub : V → V → Hp → VK → Prop := fun x y H Q => ∃ i j, x = .int i ∧ y = .int j ∧ Q (.int (i - j)) H
theorem in_add : InOp X .Add rAdd := by
  rintro pins s σ H x y u v Q I rx ry ⟨i, j, rfl, rfl, q⟩
  obtain ⟨t, rfl⟩ := (show ∃ t, u = Value.int i t from rx)
  obtain ⟨t', rfl⟩ := (show ∃ t', v = Value.int j t' from ry)
  exact PyProof.Rows.iadd_int ⟨.int (i + j), H, I.tok _, ⟨_, rfl⟩, q⟩
theorem in_sub : InOp X .Sub rSub := by
  rintro pins s σ H x y u v Q I rx ry ⟨i, j, rfl, rfl, q⟩
  obtain ⟨t, rfl⟩ := (show ∃ t, u = Value.int i t from rx)
  obtain ⟨t', rfl⟩ := (show ∃ t', v = Value.int j t' from ry)
  exact PyProof.Rows.isub_int ⟨.int (i - j), H, I.tok _, ⟨_, rfl⟩, q⟩

/-- what is between an instance and its method: the tree of a method call -/
theorem methcall_of {pl : Sem Bool} {m : Str} {apos : Pos} {args : List Expr} {pins : List (Addr × Obj)} {s : Shared} {σ : St} {H : Hp} {Q : Value → Shared → Prop} {te : TE} (he : PE X e te) (I : Inv X pins σ H s)
    (h : te σ H fun x H1 => ∃ a C dx fs g, x = .ref a ∧ H1 a = some (.ins C dx fs) ∧ Cls X.K C ∧ Meth X.K C m g ∧ fs.lookup m = none ∧
      ∀ s1, Inv X pins σ H1 s1 → wpAny (model X.prog X.w) X.A (callWith pos (.ref g) [.ref a] (backTo pos (starEach args X.env)) (backToKw pos (keywordEach [] X.env))) Q X.xe s1)
    (ht : eval (.Call (.Attribute e m apos) args [] pos) X.env = (do
      let ov ← eval e X.env
      standAt apos.atName
      let (f, first) ← holding [ov] (getMethod ov m pl)
      callWith pos f first (backTo pos (starEach args X.env)) (backToKw pos (keywordEach [] X.env)))) :
    wpAny (model X.prog X.w) X.A (eval (.Call (.Attribute e m apos) args [] pos) X.env) Q X.xe s := by
  refine PySem.W.methodCall_KW (pl := pl) (thn (he pins s σ H _ I h) fun u s1 ⟨x, H1, I1, rx, a, C, dx, fs, g, ex, ea, c, k, l, q⟩ => ?_) ht
  subst ex
  obtain rfl : u = Value.ref a := rx
  exact getmeth_ok I1 ea c k l (q s1 I1)
end

/-! ### isinstance -/
section
variable {X : Cx} {pins : List (Addr × Obj)} {σ : St} {H : Hp} {s : Shared} {A : Around} {E : Value → Shared → Prop} {Q : Value → Shared → Prop} {c : Value} {b : Bool}
/-- the type of a value, as the fragment's deciders take it; for an instance its class -/
inductive TyOf (K : PySem.W.Frag) (H : Hp) : V → Value → Prop where
  | non : TyOf K H .non (.type "NoneType")
  | bl (x : Bool) : TyOf K H (.bl x) (.type "bool")
  | int (i : Int) : TyOf K H (.int i) (.type "int")
  | str (x : Str) : TyOf K H (.str x) (.type "str")
  | flt (x : UInt64) : TyOf K H (.flt x) (.type "float")
  | lst {a : Addr} {xs : List V} (e : H a = some (.lst xs)) : TyOf K H (.ref a) (.type "list")
  | frz {a : Addr} {o : Obj} {xs : List V} (e : H a = some (.frz o (.lst xs))) : TyOf K H (.ref a) (.type "list")
  | tup {a : Addr} {xs : List V} (e : H a = some (.tup xs)) : TyOf K H (.ref a) (.type "tuple")
  | dK {a : Addr} {kvs : List (Key × V)} (e : H a = some (.dK kvs)) : TyOf K H (.ref a) (.type "dict")
  | dT {a : Addr} {kvs : List (List Key × V)} (e : H a = some (.dT kvs)) : TyOf K H (.ref a) (.type "dict")
  | ins {a C dx : Addr} {fs : List (Str × V)} (e : H a = some (.ins C dx fs)) (cl : Cls K C) (ha : PySem.W.findIn K (.ref C) "__class__" = some (some (.builtin "object.__class__")))
      (hn : PySem.W.specialIn K (.builtin "object.__class__") "__get__" = some (some (.builtin "getset_descriptor.__get__"))) (htk : PySem.W.takesIn K (.builtin "object.__class__") = some true)
      (hm : PySem.W.mroIn K C (.type "object") = some true) : TyOf K H (.ref a) (.ref C)
/-- isinstance(x, c) for one class c, a built-in or an own one: kitOne's answer -/
theorem isinst_ok {x : V} {u t : Value} (I : Inv X pins σ H s) (rx : RelV x u) (ty : TyOf X.K H x t) (e : PySem.W.kitOne X.K t c = some b) (h : ∀ tk, Q (.bool b) { s with toks := tk }) :
    wpAny (model X.prog X.w) A (call (.builtin "isinstance") [u, c]) Q E s := by
  cases ty with
  | non => cases (show u = Value.none from rx); exact PySem.W.kia_one PySem.W.kitx_none I.kIn True.intro e (fun z => nomatch z) h
  | bl y => cases (show u = Value.bool y from rx); exact PySem.W.kia_one PySem.W.kitx_bool I.kIn True.intro e (fun z => nomatch z) h
  | int i => obtain ⟨t, q⟩ := (show ∃ t, u = Value.int i t from rx); cases q; exact PySem.W.kia_one PySem.W.kitx_int I.kIn True.intro e (fun z => nomatch z) h
  | str y => obtain ⟨t, q⟩ := (show ∃ t, u = Value.str y t from rx); cases q; exact PySem.W.kia_one PySem.W.kitx_str I.kIn True.intro e (fun z => nomatch z) h
  | flt y => obtain ⟨t, q⟩ := (show ∃ t, u = Value.float y t from rx); cases q; exact PySem.W.kia_one PySem.W.kitx_float I.kIn True.intro e (fun z => nomatch z) h
  | @lst a xs ea =>
    cases (show u = Value.ref a from rx)
    obtain ⟨_, _, n, _, h1⟩ := (show ObjOk X.prog X.w H s.heap a (.lst xs) from I.hok a _ ea)
    exact PySem.W.kia_one PySem.W.kitx_list I.kIn ⟨_, h1, rfl⟩ e (fun z => nomatch z) h
  | @frz a ob xs ea =>
    cases (show u = Value.ref a from rx)
    obtain ⟨_, _, _, n, _, h1⟩ := (show ObjOk X.prog X.w H s.heap a (.frz ob (.lst xs)) from I.hok a _ ea)
    exact PySem.W.kia_one PySem.W.kitx_list I.kIn ⟨_, h1, rfl⟩ e (fun z => nomatch z) h
  | @tup a xs ea =>
    cases (show u = Value.ref a from rx)
    obtain ⟨_, _, _, p⟩ := (show ObjOk X.prog X.w H s.heap a (.tup xs) from I.hok a _ ea)
    obtain ⟨o, h1, h2, _⟩ := p
    exact PySem.W.kia_one PySem.W.kitx_tuple I.kIn ⟨o, h1, h2⟩ e (fun z => nomatch z) h
  | @dK a kvs ea =>
    cases (show u = Value.ref a from rx)
    obtain ⟨_, _, vs, _, p⟩ := (show ObjOk X.prog X.w H s.heap a (.dK kvs) from I.hok a _ ea)
    obtain ⟨o, es, ep, h1, h2, _⟩ := p
    exact PySem.W.kia_one PySem.W.kitx_dict I.kIn ⟨o, h1, h2.1⟩ e (fun z => nomatch z) h
  | @dT a kvs ea =>
    cases (show u = Value.ref a from rx)
    obtain ⟨_, _, xs, _, o, es, ep, h1, h2, _⟩ := (show ObjOk X.prog X.w H s.heap a (.dT kvs) from I.hok a _ ea)
    exact PySem.W.kia_one PySem.W.kitx_dict I.kIn ⟨o, h1, h2.1⟩ e (fun z => nomatch z) h
  | @ins a C dx fs ea cl ha hn htk hm =>
    cases (show u = Value.ref a from rx)
    obtain ⟨mA, O, _⟩ := ins_get I.hok ea
    obtain ⟨od, J, _⟩ := O.look
    exact PySem.W.kia_one (PySem.W.kitx_own (cl.get _) cl.hd ha hn htk hm) I.kIn J e (fun z => nomatch z) h
end
end L2

namespace L2
open PySem PySem.Spec PyProof.Rows

/-! ### room -/
structure Room (k : Nat) (A : Around) : Prop where
  hd : A.handled = none
  dp : A.depth + 3 * k + 5 < recursionLimit
  un : A.units + 16 * k + 200 < cLine
theorem Room.mono {j k : Nat} {A : Around} (r : Room k A) (h : j ≤ k) : Room j A := ⟨r.hd, by have := r.dp; omega, by have := r.un; omega⟩
theorem Room.deeper {k : Nat} {A : Around} (r : Room (k + 1) A) (env : Env) : Room k (A.deeper env) :=
  ⟨r.hd, by have := r.dp; show A.depth + 1 + 3 * k + 5 < _; omega, by have := r.un; show A.units + 3 + 16 * k + 200 < _; omega⟩
theorem Room.in1 {k : Nat} {A : Around} (r : Room (k + 1) A) : Room k A.in1 :=
  ⟨r.hd, by have := r.dp; show A.depth + 3 * k + 5 < _; omega, by have := r.un; show A.units + 1 + 16 * k + 200 < _; omega⟩
theorem make_depth {A : Around} {C : Addr} {us : List Value} {kw : List (Str × Value)} : (A.under (.builtin "type.__call__" ⟨.ref C :: us, kw⟩)).depth = A.depth + 1 := by
  first | rfl | simp [Around.under, Code.weight, Code.isCreation, Code.isGuard, Code.isCaller, Code.frames, Code.isFrame, guardIds]
theorem make_units {A : Around} {C : Addr} {us : List Value} {kw : List (Str × Value)} : (A.under (.builtin "type.__call__" ⟨.ref C :: us, kw⟩)).units = A.units + 1 := by
  first | rfl | simp [Around.under, Code.cUnits, Code.frames, Code.isFrame]
theorem Room.make {k : Nat} {A : Around} (r : Room (k + 1) A) (C : Addr) (us : List Value) (kw : List (Str × Value)) : Room k (A.under (.builtin "type.__call__" ⟨.ref C :: us, kw⟩)) :=
  ⟨r.hd, by have := r.dp; rw [make_depth]; omega, by have := r.un; rw [make_units]; omega⟩
theorem Room.depth {k : Nat} {A : Around} (r : Room k A) : A.depth < recursionLimit := by have := r.dp; omega
theorem Room.units {k : Nat} {A : Around} (r : Room k A) : A.units + 64 < cLine := by have := r.un; omega
theorem Room.units0 {k : Nat} {A : Around} (r : Room k A) : A.units < cLine := by have := r.un; omega

/-! ### argument lists and displays -/
def tNil : TA := fun _ H Q => Q [] H
def tCons (ta : TE) (tr : TA) : TA := fun σ H Q => ta σ H fun x H1 => tr σ H1 fun xs H2 => Q (x :: xs) H2
section
variable {X : Cx} {e : Expr} {es : List Expr} {te : TE} {t : TA} {pos : Pos}
theorem pa_nil : PA X [] tNil := fun _ _ _ _ H Q I h => Calls.spliced_nil ⟨[], H, I, .nil, h⟩
theorem pa_cons (ha : PE X e te) (hr : PA X es t) (hs : starEach (e :: es) X.env = (false, eval e X.env) :: starEach es X.env := by rfl) : PA X (e :: es) (tCons te t) := by
  intro pos pins s σ H Q I h
  rw [hs]
  show wpAny _ _ (spliced ((false, eval e X.env) :: backTo pos (starEach es X.env))) _ _ s
  refine Calls.spliced_cons (thn (ha pins s σ H _ I h) fun u s1 ⟨x, H1, I1, r1, q1⟩ => ?_)
  exact thn (hr pos pins s1 σ H1 _ I1 q1) fun us s2 ⟨xs, H2, I2, r2, q2⟩ => ⟨x :: xs, H2, I2, .cons r1 r2, q2⟩

/-- a tuple, a list of written items -/
def tTup (t : TA) : TE := fun σ H Q => t σ H fun xs H1 => xs.length ≤ sizeLine ∧ ∀ p, H1 p = none → Q (.ref p) (upd H1 p (.tup xs))
def tLst (t : TA) : TE := fun σ H Q => t σ H fun xs H1 => xs.length ≤ sizeLine ∧ ∀ p, H1 p = none → Q (.ref p) (upd H1 p (.lst xs))
theorem pe_tup {x1} (h : PA X es t) : PE X (.Tuple es x1 pos) (tTup t) := by
  intro pins s σ H Q I hq
  refine wpAny_Tuple_spliced (thn (h pos pins s σ H _ I hq) fun us s1 ⟨xs, H1, I1, r, z, q⟩ => ⟨by rw [← r.length]; exact z, ?_⟩)
  have hf : H1 s1.heap.objs.size = none := I1.hok.fresh (Nat.le_refl _)
  refine ⟨.ref s1.heap.objs.size, upd H1 s1.heap.objs.size (.tup xs), I1.laid (t' := s1.toks) (fun b u e => Heap.get?_push_of_some _ e) (Nat.le_refl _) ?_, rfl, q _ hf⟩
  exact ⟨z, us, r, ⟨_, Heap.get?_push_size _ rfl, rfl, _, rfl⟩⟩
theorem pe_lst (h : PA X es t) : PE X (.List es pos) (tLst t) := by
  intro pins s σ H Q I hq
  refine wpAny_List_spliced (thn (h pos pins s σ H _ I hq) fun us s1 ⟨xs, H1, I1, r, z, q⟩ => ⟨by rw [← r.length]; exact z, ?_⟩)
  have hf : H1 s1.heap.objs.size = none := I1.hok.fresh (Nat.le_refl _)
  refine ⟨.ref s1.heap.objs.size, upd H1 s1.heap.objs.size (.lst xs), I1.laid (t' := s1.toks) (fun b u e => Heap.get?_push_of_some _ e) (Nat.le_refl _) ?_, rfl, q _ hf⟩
  exact ⟨z, us, 0, r, Heap.get?_push_size _ rfl⟩
end

/-! ### what a def promises -/
/-- a def's promise: the bound arguments in the parameters' order, the heap, the wanted end, the wanted exception -/
abbrev Sp := List V → Hp → VK → XK → Prop
/-- how an exception lies behind a call (file 08 gives it): the callers' frames, abstract heap and state ahead of the call, the wish, the exception, the state -/
abbrev CXT := List Env → Hp → Shared → XK → Value → Shared → Prop

/-- the state at a call -/
structure Env0 (P : Program) (w : World) (K : PySem.W.Frag) (mg : Str → Option Value) (base : Heap) (A : Around) (outer : List Env) (s : Shared) (H : Hp) : Prop where
  frames : A.frames = some outer
  mod : Mod K mg base
  bs : ∀ b o, base.get? b = some o → s.heap.get? b = some o ∧ H b = none
  bsz : base.objs.size ≤ s.heap.objs.size
  funs : s.heap.FunFrames base outer
  frf : ∀ b ∈ frs outer, H b = none
  hok : HOk P w H s.heap
  bare : AllBare s.gens
/-- a call's end -/
def CE (outer : List Env) (P : Program) (w : World) (H : Hp) (s : Shared) (Q : VK) (u : Value) (s' : Shared) : Prop :=
  ∃ v H', s'.os = s.os ∧ AllBare s'.gens ∧ Un (frs outer) [] H H' s.heap s'.heap ∧ HOk P w H' s'.heap ∧ RelV v u ∧ Q v H'
def CR (CX : CXT) (outer : List Env) (P : Program) (w : World) (H : Hp) (s : Shared) (Q : VK) (E : XK) (r : Result) (s' : Shared) : Prop :=
  match r with
  | .ok (.ret u) => CE outer P w H s Q u s'
  | .ok _ => False
  | .error e => CX outer H s E e s'
structure FnOk (P : Program) (w : World) (K : PySem.W.Frag) (mg : Str → Option Value) (base : Heap) (CX : CXT) (k : Nat) (f : Addr) (fd : FuncData) (ps : List Str) (sp : Sp) : Prop where
  len : ∀ vs H Q E, sp vs H Q E → vs.length = ps.length
  run : ∀ (A : Around) (outer : List Env) (s : Shared) (H : Hp) (args : Args) (us : List Value) (vs : List V) (Q : VK) (E : XK), Room k A → Env0 P w K mg base A outer s H → BindsTo s fd args (ps.zip us) → Vals vs us → sp vs H Q E →
    codeAny (model P w) A (.call (.ref f) args) (CR CX outer P w H s Q E) s
theorem FnOk.mono {P : Program} {w : World} {K : PySem.W.Frag} {mg : Str → Option Value} {base : Heap} {CX : CXT} {j k : Nat} {f : Addr} {fd : FuncData} {ps : List Str} {sp : Sp} (F : FnOk P w K mg base CX j f fd ps sp) (h : j ≤ k) :
    FnOk P w K mg base CX k f fd ps sp := ⟨F.len, fun A outer s H args us vs Q E hr => F.run A outer s H args us vs Q E (hr.mono h)⟩
/-- a weaker promise -/
theorem FnOk.imp {P : Program} {w : World} {K : PySem.W.Frag} {mg : Str → Option Value} {base : Heap} {CX : CXT} {k : Nat} {f : Addr} {fd : FuncData} {ps : List Str} {sp sp' : Sp} (F : FnOk P w K mg base CX k f fd ps sp)
    (h : ∀ vs H Q E, sp' vs H Q E → sp vs H Q E) : FnOk P w K mg base CX k f fd ps sp' :=
  ⟨fun vs H Q E q => F.len vs H Q E (h _ _ _ _ q), fun A outer s H args us vs Q E hr he hb hv hs => F.run A outer s H args us vs Q E hr he hb hv (h _ _ _ _ hs)⟩

theorem Env0.make {P : Program} {w : World} {K : PySem.W.Frag} {mg : Str → Option Value} {base : Heap} {A : Around} {outer : List Env} {s : Shared} {H : Hp} (e : Env0 P w K mg base A outer s H) (C : Addr) (us : List Value) (kw : List (Str × Value)) :
    Env0 P w K mg base (A.under (.builtin "type.__call__" ⟨.ref C :: us, kw⟩)) outer s H := ⟨by first | exact e.frames | (simpa [Around.under, Code.envs, Code.isFrame, pushEnvs] using e.frames), e.mod, e.bs, e.bsz, e.funs, e.frf, e.hok, e.bare⟩
theorem Env0.in1 {P : Program} {w : World} {K : PySem.W.Frag} {mg : Str → Option Value} {base : Heap} {A : Around} {outer : List Env} {s : Shared} {H : Hp} (e : Env0 P w K mg base A outer s H) :
    Env0 P w K mg base A.in1 outer s H := ⟨e.frames, e.mod, e.bs, e.bsz, e.funs, e.frf, e.hok, e.bare⟩

section
variable {X : Cx} {pins : List (Addr × Obj)} {σ : St} {H : Hp} {s s' : Shared}
/-- from a body: what a callee wants -/
theorem Inv.env0 (I : Inv X pins σ H s) : Env0 X.prog X.w X.K X.mg X.base X.A X.stack s H :=
  ⟨I.ok.frames, I.ok.mod, I.bs, Nat.le_trans I.ok.bsz I.sz, I.stack, I.stkFree, I.hok, I.bare⟩
/-- behind a call -/
theorem Inv.after {Q : VK} {u : Value} (I : Inv X pins σ H s) (h : CE X.stack X.prog X.w H s Q u s') : EP X pins σ Q u s' := by
  obtain ⟨v, H', os, bare, un, hok, r, q⟩ := h
  obtain ⟨hh, g, d, t, os'⟩ := s'
  obtain rfl : os' = s.os := os
  exact ⟨v, H', I.call (h' := hh) (g' := g) (d' := d) (t' := t) (ch := []) un hok bare (fun b z => absurd z (by simp)), r, q⟩
end

/-! ### calls -/
/-- f(..): the written arguments, then the defaults dvs; E: what is wanted of an exception -/
def tCall (sp : Sp) (dvs : List V) (E : XK) (t : TA) : TE := fun σ H Q => t σ H fun vs H1 => sp (vs ++ dvs) H1 Q E
/-- o.m(..) of an instance of the class at C -/
def tMeth (C : Addr) (m : Str) (sp : Sp) (dvs : List V) (E : XK) (ta : TE) (t : TA) : TE := fun σ H Q => ta σ H fun x H1 => ∃ a dx fs, x = .ref a ∧ H1 a = some (.ins C dx fs) ∧ fs.lookup m = none ∧
  t σ H1 fun vs H2 => sp (x :: (vs ++ dvs)) H2 Q E
/-- C(..): a new instance and its dict, then __init__ -/
def tMake (C : Addr) (sp : Sp) (dvs : List V) (E : XK) (t : TA) : TE := fun σ H Q => t σ H fun vs H1 => ∀ x dx, H1 x = none → H1 dx = none → dx ≠ x →
  sp (.ref x :: (vs ++ dvs)) (upd (upd H1 dx (.own x)) x (.ins C dx [])) (fun v H2 => v = .non ∧ Q (.ref x) H2) E

/-- how the parameters are bound: us the positional arguments, kw the keywords' values by name, ds the defaults that fill up -/
def Binds (K : PySem.W.Frag) (fd : FuncData) (ps : List Str) (ds : List Value) : Prop :=
  ∀ (s : Shared) (us : List Value), K.In s.heap → (us ++ ds).length = ps.length → BindsTo s fd ⟨us, []⟩ (ps.zip (us ++ ds))
/-- every parameter is given -/
theorem Binds.all {K : PySem.W.Frag} {fd : FuncData} {ps : List Str} (h : ∀ us : List Value, us.length = ps.length → bindArgs fd ⟨us, []⟩ = pure (ps.zip us)) : Binds K fd ps [] := fun s us _ hl => by
  rw [List.append_nil] at hl ⊢
  exact .of_eq (h us hl)

/-- an exception of a callee reaches what this body wants of exceptions -/
def Passes (CX : CXT) (X : Cx) (E : XK) : Prop := ∀ (pins : List (Addr × Obj)) (σ : St) (H : Hp) (s : Shared) (e : Value) (s' : Shared), Inv X pins σ H s → CX X.stack H s E e s' → X.xe e s'

section
variable {X : Cx} {CX : CXT} {k : Nat} {f C : Addr} {fd : FuncData} {ps : List Str} {sp : Sp} {dvs : List V} {ds : List Value} {E : XK} {x m : Str} {p pos apos : Pos} {e o : Expr} {es : List Expr} {ta : TE} {t : TA}

/-- the callee runs -/
theorem run_fn {pins : List (Addr × Obj)} {σ : St} {H : Hp} {s : Shared} {Q : VK} {us : List Value} {vs : List V} (F : FnOk X.prog X.w X.K X.mg X.base CX k f fd ps sp) (hr : Room k X.A) (hb : Binds X.K fd ps ds) (hd : Vals dvs ds) (hx : Passes CX X E)
    (I : Inv X pins σ H s) (r : Vals vs us) (h : sp (vs ++ dvs) H Q E) : wpAny (model X.prog X.w) X.A (call (.ref f) us) (EP X pins σ Q) X.xe s := by
  have r2 : Vals (vs ++ dvs) (us ++ ds) := r.append hd
  have hl : (us ++ ds).length = ps.length := by rw [← r2.length]; exact F.len _ _ _ _ h
  refine wpAny_call (codeAny_mono (F.run X.A X.stack s H ⟨us, []⟩ (us ++ ds) (vs ++ dvs) Q E hr I.env0 (hb s us I.kIn hl) r2 h) fun r s' hq => ?_)
  cases r with
  | error e => exact hx pins σ H s e s' I hq
  | ok fl =>
    cases fl with
    | ret u => exact I.after hq
    | next => exact False.elim hq
    | brk => exact False.elim hq
    | cont => exact False.elim hq

theorem pe_call (F : FnOk X.prog X.w X.K X.mg X.base CX k f fd ps sp) (hr : Room k X.A) (hg : Gl X x) (hm : X.mg x = some (.ref f)) (hk : PySem.W.keepIn X.K (.ref f) = true) (hb : Binds X.K fd ps ds) (hd : Vals dvs ds) (hx : Passes CX X E)
    (ha : PA X (e :: es) t) (hdb : (x == ("__debug__" : Str)) = false := by decide) (he : starEach (e :: es) X.env = (false, eval e X.env) :: starEach es X.env := by rfl) (hpl : (backTo pos (starEach es X.env)).any (·.1) = false := by rfl) :
    PE X (.Call (.Name x p) (e :: es) [] pos) (tCall sp dvs E t) := by
  intro pins s σ H Q I h
  refine wpAny_Call_Name_kw (ld_glob I hg hm ?_ hdb)
  refine PySem.W.callWith_K (h₀ := X.base) I.ok.mod.kin hk (thn (ha pos pins s σ H _ I h) fun us s1 ⟨vs, H1, I1, r, q⟩ => ⟨I1.kIn, ?_⟩) he hpl
  exact run_fn F hr hb hd hx I1 r q
theorem pe_call0 (F : FnOk X.prog X.w X.K X.mg X.base CX k f fd ps sp) (hr : Room k X.A) (hg : Gl X x) (hm : X.mg x = some (.ref f)) (hk : PySem.W.keepIn X.K (.ref f) = true) (hb : Binds X.K fd ps ds) (hd : Vals dvs ds) (hx : Passes CX X E)
    (hdb : (x == ("__debug__" : Str)) = false := by decide) : PE X (.Call (.Name x p) [] [] pos) (tCall sp dvs E tNil) := by
  intro pins s σ H Q I h
  refine wpAny_Call_Name_kw (ld_glob I hg hm ?_ hdb)
  exact PySem.W.callWith_K0 I.kIn hk (run_fn (us := []) F hr hb hd hx I .nil h)

/-- o.m(e, ..) -/
theorem pe_meth {pl : Sem Bool} (he : PE X o ta) (c : Cls X.K C) (hm : Meth X.K C m f) (F : FnOk X.prog X.w X.K X.mg X.base CX k f fd ps sp) (hr : Room k X.A) (hb : Binds X.K fd ps ds) (hd : Vals dvs ds) (hx : Passes CX X E) (ha : PA X (e :: es) t)
    (hst : starEach (e :: es) X.env = (false, eval e X.env) :: starEach es X.env := by rfl) (hpl : (backTo pos (starEach es X.env)).any (·.1) = false := by rfl)
    (ht : eval (.Call (.Attribute o m apos) (e :: es) [] pos) X.env = (do
      let ov ← eval o X.env
      standAt apos.atName
      let (f, first) ← holding [ov] (getMethod ov m pl)
      callWith pos f first (backTo pos (starEach (e :: es) X.env)) (backToKw pos (keywordEach [] X.env))) := by rfl) :
    PE X (.Call (.Attribute o m apos) (e :: es) [] pos) (tMeth C m sp dvs E ta t) := by
  intro pins s σ H Q I h
  refine PySem.W.methodCall_KW (pl := pl) (thn (he pins s σ H _ I h) fun u s1 ⟨x, H1, I1, rx, a, dx, fs, ex, ea, l, q⟩ => ?_) ht
  subst ex
  obtain rfl : u = Value.ref a := rx
  refine getmeth_ok I1 ea c hm l ?_
  refine PySem.W.callWith_K (first := [.ref a]) (h₀ := X.base) I.ok.mod.kin hm.kp (thn (ha pos pins s1 σ H1 _ I1 q) fun us s2 ⟨vs, H2, I2, r, q2⟩ => ⟨I2.kIn, ?_⟩) hst hpl
  exact run_fn (us := .ref a :: us) (vs := .ref a :: vs) F hr hb hd hx I2 (.cons rfl r) q2
/-- o.m() -/
theorem pe_meth0 {pl : Sem Bool} (he : PE X o ta) (c : Cls X.K C) (hm : Meth X.K C m f) (F : FnOk X.prog X.w X.K X.mg X.base CX k f fd ps sp) (hr : Room k X.A) (hb : Binds X.K fd ps ds) (hd : Vals dvs ds) (hx : Passes CX X E)
    (ht : eval (.Call (.Attribute o m apos) [] [] pos) X.env = (do
      let ov ← eval o X.env
      standAt apos.atName
      let (f, first) ← holding [ov] (getMethod ov m pl)
      callWith pos f first (backTo pos (starEach [] X.env)) (backToKw pos (keywordEach [] X.env))) := by rfl) :
    PE X (.Call (.Attribute o m apos) [] [] pos) (tMeth C m sp dvs E ta tNil) := by
  intro pins s σ H Q I h
  refine PySem.W.methodCall_KW (pl := pl) (thn (he pins s σ H _ I h) fun u s1 ⟨x, H1, I1, rx, a, dx, fs, ex, ea, l, q⟩ => ?_) ht
  subst ex
  obtain rfl : u = Value.ref a := rx
  refine getmeth_ok I1 ea c hm l ?_
  exact PySem.W.callWith_K0 (first := [.ref a]) I1.kIn hm.kp (run_fn (us := [.ref a]) (vs := [.ref a]) F hr hb hd hx I1 (.cons rfl .nil) q)

/-- what a class must have to be made -/
structure Mk (K : PySem.W.Frag) (C f : Addr) : Prop where
  makes : PySem.W.makesIn K C = true
  init : PySem.W.findIn K (.ref C) "__init__" = some (some (.ref f))
  fn : PySem.W.isFn K (.ref f) = true
  kp : PySem.W.keepIn K (.ref C) = true

theorem run_make {pins : List (Addr × Obj)} {σ : St} {H : Hp} {s : Shared} {Q : VK} {us : List Value} {vs : List V} (M : Mk X.K C f) (F : FnOk X.prog X.w X.K X.mg X.base CX k f fd ps sp) (hr : Room (k + 1) X.A) (hb : Binds X.K fd ps ds) (hd : Vals dvs ds)
    (hx : Passes CX X E) (I : Inv X pins σ H s) (r : Vals vs us)
    (h : ∀ x dx, H x = none → H dx = none → dx ≠ x → sp (.ref x :: (vs ++ dvs)) (upd (upd H dx (.own x)) x (.ins C dx [])) (fun v H2 => v = .non ∧ Q (.ref x) H2) E) :
    wpAny (model X.prog X.w) X.A (call (.ref C) us) (EP X pins σ Q) X.xe s := by
  have hq := h (s.heap.objs.size + 1) s.heap.objs.size (I.hok.fresh (Nat.le_succ _)) (I.hok.fresh (Nat.le_refl _)) (Nat.ne_of_lt (Nat.lt_succ_self _))
  have I2 := Inv.made (C := C) I
  have r2 : Vals (V.ref (s.heap.objs.size + 1) :: (vs ++ dvs)) (Value.ref (s.heap.objs.size + 1) :: (us ++ ds)) := .cons rfl (r.append hd)
  have hl : (Value.ref (s.heap.objs.size + 1) :: us ++ ds).length = ps.length := by
    have e := r2.length
    rw [F.len _ _ _ _ hq] at e
    exact e.symm
  refine wpAny_call (make_map (f := f) I.kIn M.makes M.init (beq_iff_eq.mp M.fn) (codeAny_mono (F.run _ X.stack _ _ ⟨Value.ref (s.heap.objs.size + 1) :: us, []⟩ (Value.ref (s.heap.objs.size + 1) :: (us ++ ds)) _ _ E (hr.make C us [])
    (I2.env0.make C us []) (hb _ (Value.ref (s.heap.objs.size + 1) :: us) I2.kIn hl) r2 hq) fun r s' hq' => ?_))
  cases r with
  | error e => exact hx pins σ _ _ e s' I2 hq'
  | ok fl =>
    cases fl with
    | ret u =>
      obtain ⟨v, H', I3, rv, ev, q3⟩ := I2.after hq'
      subst ev
      exact ⟨rv, ⟨V.ref (s.heap.objs.size + 1), H', I3, rfl, q3⟩⟩
    | next => exact False.elim hq'
    | brk => exact False.elim hq'
    | cont => exact False.elim hq'
theorem pe_make (M : Mk X.K C f) (F : FnOk X.prog X.w X.K X.mg X.base CX k f fd ps sp) (hr : Room (k + 1) X.A) (hg : Gl X x) (hm : X.mg x = some (.ref C)) (hb : Binds X.K fd ps ds) (hd : Vals dvs ds) (hx : Passes CX X E)
    (ha : PA X (e :: es) t) (hdb : (x == ("__debug__" : Str)) = false := by decide) (he : starEach (e :: es) X.env = (false, eval e X.env) :: starEach es X.env := by rfl) (hpl : (backTo pos (starEach es X.env)).any (·.1) = false := by rfl) :
    PE X (.Call (.Name x p) (e :: es) [] pos) (tMake C sp dvs E t) := by
  intro pins s σ H Q I h
  refine wpAny_Call_Name_kw (ld_glob I hg hm ?_ hdb)
  refine PySem.W.callWith_K (h₀ := X.base) I.ok.mod.kin M.kp (thn (ha pos pins s σ H _ I h) fun us s1 ⟨vs, H1, I1, r, q⟩ => ⟨I1.kIn, ?_⟩) he hpl
  exact run_make M F hr hb hd hx I1 r q
theorem pe_make0 (M : Mk X.K C f) (F : FnOk X.prog X.w X.K X.mg X.base CX k f fd ps sp) (hr : Room (k + 1) X.A) (hg : Gl X x) (hm : X.mg x = some (.ref C)) (hb : Binds X.K fd ps ds) (hd : Vals dvs ds) (hx : Passes CX X E)
    (hdb : (x == ("__debug__" : Str)) = false := by decide) : PE X (.Call (.Name x p) [] [] pos) (tMake C sp dvs E tNil) := by
  intro pins s σ H Q I h
  refine wpAny_Call_Name_kw (ld_glob I hg hm ?_ hdb)
  exact PySem.W.callWith_K0 I.kIn M.kp (run_make (us := []) M F hr hb hd hx I .nil h)
end

/-! ### keywords -/
/-- the values of the keywords, from the left -/
def PK (X : Cx) (kws : List Keyword) (t : TA) : Prop :=
  ∀ (pos : Pos) (pins : List (Addr × Obj)) (s : Shared) (σ : St) (H : Hp) (Q : List V → Hp → Prop), Inv X pins σ H s → t σ H Q → wpAny (model X.prog X.w) X.A (evalAll ((backToKw pos (keywordEach kws X.env)).map (·.2))) (AP X pins σ Q) X.xe s
section
variable {X : Cx} {CX : CXT} {k : Nat} {f C : Addr} {fd : FuncData} {ps ks : List Str} {sp : Sp} {E : XK} {x m : Str} {p pos apos kpos : Pos} {e o : Expr} {es : List Expr} {kws : List Keyword} {te ta : TE} {t tk : TA} {nm : Option Str}
theorem pk_nil : PK X [] tNil := fun _ _ _ _ H Q I h => wpAny_evalAll_nil ⟨[], H, I, .nil, h⟩
theorem pk_cons (ha : PE X e te) (hr : PK X kws t) : PK X (⟨nm, e, kpos⟩ :: kws) (tCons te t) := by
  intro pos pins s σ H Q I h
  show wpAny _ _ (evalAll ((do let v ← eval e X.env; standAt pos; pure v) :: (backToKw pos (keywordEach kws X.env)).map (·.2))) _ _ s
  refine wpAny_evalAll_cons (wpAny_bind (thn (ha pins s σ H _ I h) fun u s1 ⟨x, H1, I1, r1, q1⟩ => wpAny_bind (wpAny_standAt (wpAny_pure ?_))))
  exact thn (hr pos pins s1 σ H1 _ I1 q1) fun us s2 ⟨xs, H2, I2, r2, q2⟩ => ⟨x :: xs, H2, I2, .cons r1 r2, q2⟩

/-- how a call with keywords binds: g puts the positional values us and the keywords' values ws (names ks) in the parameters' order, defaults among them -/
structure KBinds (K : PySem.W.Frag) (fd : FuncData) (ps ks : List Str) (g : List Value → List Value → List Value) (gV : List V → List V → List V) : Prop where
  to : ∀ (s : Shared) (us ws : List Value), K.In s.heap → (g us ws).length = ps.length → BindsTo s fd ⟨us, ks.zip ws⟩ (ps.zip (g us ws))
  rel : ∀ {vs : List V} {us : List Value} {zs : List V} {ws : List Value}, Vals vs us → Vals zs ws → Vals (gV vs zs) (g us ws)
def tCallK (sp : Sp) (gV : List V → List V → List V) (E : XK) (t tk : TA) : TE := fun σ H Q => t σ H fun vs H1 => tk σ H1 fun zs H2 => sp (gV vs zs) H2 Q E
variable {g : List Value → List Value → List Value} {gV : List V → List V → List V}
theorem run_fnk {pins : List (Addr × Obj)} {σ : St} {H : Hp} {s : Shared} {Q : VK} {us ws : List Value} {vs zs : List V} (F : FnOk X.prog X.w X.K X.mg X.base CX k f fd ps sp) (hr : Room k X.A) (hb : KBinds X.K fd ps ks g gV) (hx : Passes CX X E)
    (I : Inv X pins σ H s) (r : Vals vs us) (rz : Vals zs ws) (h : sp (gV vs zs) H Q E) : wpAny (model X.prog X.w) X.A (call (.ref f) us (ks.zip ws)) (EP X pins σ Q) X.xe s := by
  have r2 := hb.rel r rz
  have hl : (g us ws).length = ps.length := by rw [← r2.length]; exact F.len _ _ _ _ h
  refine wpAny_call (codeAny_mono (F.run X.A X.stack s H ⟨us, ks.zip ws⟩ (g us ws) (gV vs zs) Q E hr I.env0 (hb.to s us ws I.kIn hl) r2 h) fun r s' hq => ?_)
  cases r with
  | error e => exact hx pins σ H s e s' I hq
  | ok fl =>
    cases fl with
    | ret u => exact I.after hq
    | next => exact False.elim hq
    | brk => exact False.elim hq
    | cont => exact False.elim hq
/-- f(e, .., k = v, ..) -/
theorem pe_callK (F : FnOk X.prog X.w X.K X.mg X.base CX k f fd ps sp) (hr : Room k X.A) (hg : Gl X x) (hm : X.mg x = some (.ref f)) (hk : PySem.W.keepIn X.K (.ref f) = true) (hb : KBinds X.K fd ps ks g gV) (hx : Passes CX X E)
    (ha : PA X (e :: es) t) (hkw : PK X kws tk) (hall : (backToKw pos (keywordEach kws X.env)).all (·.1.isSome) = true := by rfl) (hks : (backToKw pos (keywordEach kws X.env)).filterMap (·.1) = ks := by rfl)
    (hdb : (x == ("__debug__" : Str)) = false := by decide) (he : starEach (e :: es) X.env = (false, eval e X.env) :: starEach es X.env := by rfl)
    (hpl : ((backTo pos (starEach (e :: es) X.env)).any (·.1) || (backToKw pos (keywordEach kws X.env)).any (·.1.isNone)) = false := by rfl) :
    PE X (.Call (.Name x p) (e :: es) kws pos) (tCallK sp gV E t tk) := by
  intro pins s σ H Q I h
  refine wpAny_Call_Name_kw (ld_glob I hg hm ?_ hdb)
  refine PySem.W.callWith_KW (h₀ := X.base) I.ok.mod.kin hk hall (thn (ha pos pins s σ H _ I h) fun us s1 ⟨vs, H1, I1, r, q⟩ => ?_) hpl he
  refine thn (hkw pos pins s1 σ H1 _ I1 q) fun ws s2 ⟨zs, H2, I2, rz, q2⟩ => ⟨I2.kIn, ?_⟩
  rw [hks]
  exact run_fnk F hr hb hx I2 r rz q2
end

/-! ### a def's body keeps its promise -/
/-- names: the parameters first -/
structure FnScope (N P : List Str) (sc : Scope) : Prop where
  kind : sc.kind = .function
  co : sc.isCoroutine = false
  gen : sc.isGenerator = false
  nd : N.Nodup
  pre : N.take P.length = P
  par : ∀ x ∈ P, sc.names.lookup x = some .local ∨ sc.names.lookup x = some .cell
  nofree : ∀ y ∈ sc.names, y.2 ≠ .free

theorem bindL_out {kindOf : Str → Option NameKind} {x : Str} : ∀ {binds : List (Str × Value)} {m : Str → Option Value}, (∀ v, (x, v) ∉ binds) → bindL kindOf binds m x = m x
  | [], _, _ => rfl
  | (n, v) :: r, m, h => by
    unfold bindL
    rw [bindL_out fun w hw => h w (List.mem_cons_of_mem _ hw)]
    split
    · have : x ≠ n := by rintro rfl; exact h v List.mem_cons_self
      simp [this]
    · rfl
theorem bindC_out {kindOf : Str → Option NameKind} {x : Str} : ∀ {binds : List (Str × Value)} {m : Str → Option Value}, (∀ v, (x, v) ∉ binds) → bindC kindOf binds m x = m x
  | [], _, _ => rfl
  | (n, v) :: r, m, h => by
    unfold bindC
    rw [bindC_out fun w hw => h w (List.mem_cons_of_mem _ hw)]
    split
    · rfl
    · have : x ≠ n := by rintro rfl; exact h v List.mem_cons_self
      simp [this]
theorem bindL_get {kindOf : Str → Option NameKind} {x : Str} {v : Value} : ∀ {P : List Str} {vs : List Value} {i : Nat} {m : Str → Option Value}, P.Nodup → P[i]? = some x → vs[i]? = some v → kindOf x = some .local →
    bindL kindOf (P.zip vs) m x = some v
  | [], _, _, _, _, h, _, _ => by simp at h
  | _ :: _, [], _, _, _, _, h, _ => by simp at h
  | p :: P, w :: vs, 0, m, nd, h1, h2, hk => by
    simp at h1 h2; subst h1; subst h2
    show bindL kindOf ((p, w) :: P.zip vs) m p = _
    unfold bindL
    rw [bindL_out fun v hv => (List.nodup_cons.mp nd).1 (List.of_mem_zip hv).1, if_pos hk]
    simp
  | p :: P, w :: vs, i + 1, m, nd, h1, h2, hk => by
    show bindL kindOf ((p, w) :: P.zip vs) m x = _
    unfold bindL
    exact bindL_get (i := i) (List.nodup_cons.mp nd).2 (by simpa using h1) (by simpa using h2) hk
theorem bindC_get {kindOf : Str → Option NameKind} {x : Str} {v : Value} : ∀ {P : List Str} {vs : List Value} {i : Nat} {m : Str → Option Value}, P.Nodup → P[i]? = some x → vs[i]? = some v → kindOf x ≠ some .local →
    bindC kindOf (P.zip vs) m x = some v
  | [], _, _, _, _, h, _, _ => by simp at h
  | _ :: _, [], _, _, _, _, h, _ => by simp at h
  | p :: P, w :: vs, 0, m, nd, h1, h2, hk => by
    simp at h1 h2; subst h1; subst h2
    show bindC kindOf ((p, w) :: P.zip vs) m p = _
    unfold bindC
    rw [bindC_out fun v hv => (List.nodup_cons.mp nd).1 (List.of_mem_zip hv).1, if_neg hk]
    simp
  | p :: P, w :: vs, i + 1, m, nd, h1, h2, hk => by
    show bindC kindOf ((p, w) :: P.zip vs) m x = _
    unfold bindC
    exact bindC_get (i := i) (List.nodup_cons.mp nd).2 (by simpa using h1) (by simpa using h2) hk

/-- the names' values at the entry -/
def start (N : List Str) (vs : List V) : St := vs.map some ++ List.replicate (N.length - vs.length) none

/-- the context of a def's body, at its entry; an exception leaves the frame, then lies as CX says -/
def cxOf (CX : CXT) (P : Program) (w : World) (K : PySem.W.Frag) (mg : Str → Option Value) (base : Heap) (N : List Str) (qual : Str) (scope : Scope) (f : Addr) (cd : Value) (A : Around) (outer : List Env) (s : Shared) (H : Hp) (E : XK) : Cx where
  prog := P
  w := w
  K := K
  mg := mg
  base := base
  A := A.deeper (envOfC qual scope s.heap.objs.size f cd)
  N := N
  s₀ := s
  H₀ := H
  env := envOfC qual scope s.heap.objs.size f cd
  outer := outer
  stack := envOfC qual scope s.heap.objs.size f cd :: outer
  ex := []
  calm := true
  fn := fun _ => true
  pn := []
  xe := fun e s' => wpAny (model P w) (A.deeper (envOfC qual scope s.heap.objs.size f cd)) (leaving (envOfC qual scope s.heap.objs.size f cd) e) (fun _ s'' => CX outer H s E e s'') (fun e' s'' => CX outer H s E e' s'') s'

theorem cell_has {sc : Scope} {n : Nat} {x : Str} (h : sc.names.lookup x = some .cell) : ∃ c, (cellsFrom n sc.names []).lookup x = some c := by
  have q := PySem.W.cellsFrom_some sc.names n [] (.inl h)
  exact Option.isSome_iff_exists.mp q

theorem inv_start {CX : CXT} {P : Program} {w : World} {K : PySem.W.Frag} {mg : Str → Option Value} {base : Heap} {N ps : List Str} {qual : Str} {scope : Scope} {f : Addr} {cd : Value} {A : Around} {outer : List Env} {s s1 : Shared} {H : Hp} {E : XK} {us : List Value} {vs : List V}
    (S : FnScope N ps scope) (hd : A.handled = none) (e0 : Env0 P w K mg base A outer s H) (hl : vs.length = ps.length) (r : Vals vs us)
    (x : InCallC s s.heap.objs.size (bindL (envOfC qual scope s.heap.objs.size f cd).kindOf (ps.zip us) fun _ => none) (cellsFrom (s.heap.objs.size + 1) scope.names []) (bindC (envOfC qual scope s.heap.objs.size f cd).kindOf (ps.zip us) fun _ => none) s1) :
    Inv (cxOf CX P w K mg base N qual scope f cd A outer s H E) [] (start N vs) H s1 := by
  have hpl : ps.length ≤ N.length := by have := congrArg List.length S.pre; rw [List.length_take] at this; omega
  obtain ⟨h1, tk, rfl, hk⟩ := x.done
  have noA : ∀ b : Addr, b ∉ (cxOf CX P w K mg base N qual scope f cd A outer s H E).ex := fun b z => absurd (show b ∈ ([] : List Addr) from z) (by simp)
  refine ⟨⟨e0.mod, S.kind, rfl, rfl, Nat.le_refl _, fun y z c h1 h2 => ?_, fun y hy => ?_, fun y c _ h => ?_, fun _ => hd, Around.frames_deeper e0.frames, .inr ⟨rfl, rfl⟩, fun b z => absurd z (noA b), e0.bs, e0.bsz, fun b _ _ => noA b, fun b z => absurd z (noA b), e0.funs, e0.frf⟩,
    rfl, e0.bare, Un.kept hk, ⟨_, x.toInCall.ns, fun i y v h1 h2 h3 => ?_⟩, fun y c h => ⟨_, x.cell y c h⟩, e0.hok.fresh (Nat.le_refl _), fun y c h => ?_, fun p hp => absurd (show p ∈ ([] : List (Addr × Obj)) from hp) (by simp), e0.hok.kept hk, ?_⟩
  · exact name_of_addr x.apart (PySem.mem_of_lookup h1) (PySem.mem_of_lookup h2)
  · have hy : scope.names.lookup y = some .cell ∨ scope.names.lookup y = some .free := hy
    rcases hy with hy | hy
    · exact cell_has hy
    · exact absurd rfl (S.nofree _ (PySem.mem_of_lookup hy))
  · exact Nat.le_of_lt (x.above y c (PySem.mem_of_lookup h))
  · have hi : i < vs.length := by
      unfold start at h2
      by_cases hi : i < vs.length
      · exact hi
      · rw [List.getElem?_append_right (by simpa using hi)] at h2
        rw [List.getElem?_replicate] at h2
        split at h2 <;> cases h2
    have ha : vs[i]? = some v := by
      unfold start at h2
      rw [List.getElem?_append_left (by simpa using hi), List.getElem?_map] at h2
      cases e : vs[i]? with
      | none => rw [e] at h2; cases h2
      | some a => rw [e] at h2; cases h2; rfl
    obtain ⟨u, hu, rv⟩ := r.get ha
    have hp : ps[i]? = some y := by
      rw [← S.pre, List.getElem?_take_of_lt (by omega)]; exact h1
    have ndP : ps.Nodup := by rw [← S.pre]; exact S.nd.sublist (List.take_sublist _ _)
    refine ⟨u, rv, ?_⟩
    rcases S.par y (List.mem_of_getElem? hp) with k | k
    · exact .inl ⟨k, bindL_get ndP hp hu k⟩
    · obtain ⟨c, e⟩ := cell_has (n := s.heap.objs.size + 1) k
      refine .inr ⟨.inl k, c, e, ?_⟩
      have q := x.cell y c e
      rw [bindC_get ndP hp hu (by show scope.names.lookup y ≠ _; rw [k]; decide)] at q
      exact q
  · exact e0.hok.fresh (Nat.le_of_lt (x.above y c (PySem.mem_of_lookup h)))
  · unfold start
    show _ = N.length
    rw [List.length_append, List.length_map, List.length_replicate]
    omega

/-- THE RULE: a def (or a method) of the text, by its body. The body's reading t is chosen for each entry; it is run at the parameters' values -/
theorem fn_of {CX : CXT} {P : Program} {w : World} {K : PySem.W.Frag} {mg : Str → Option Value} {base : Heap} {k : Nat} {f : Addr} {name qual : Str} {params : Arguments} {body : List Stmt} {scope : Scope} {dV kV doc pm cdv ct oc : Value} {an od : Option Addr}
    {osl : Array (Option Value)} {N ps : List Str} {sp : Sp} (lk : K.lookup f = some ⟨oc, od, .func (PySem.W.fnOf name qual params body scope dV kV doc pm an cdv ct), osl⟩) (hcd : PySem.W.codeIn K cdv qual = true) (S : FnScope N ps scope)
    (len : ∀ vs H Q E, sp vs H Q E → vs.length = ps.length)
    (hbody : ∀ (A : Around) (outer : List Env) (s : Shared) (H : Hp) (vs : List V) (Q : VK) (E : XK), Room k (A.deeper (envOfC qual scope s.heap.objs.size f cdv)) → sp vs H Q E →
      ∃ t, PSs (cxOf CX P w K mg base N qual scope f cdv A outer s H E) body t ∧ t { nx := fun _ H' => Q .non H', rt := Q } (start N vs) H) :
    FnOk P w K mg base CX (k + 1) f (PySem.W.fnOf name qual params body scope dV kV doc pm an cdv ct) ps sp := by
  refine ⟨len, fun A outer s H args us vs Q E hr e0 hb r hsp => ?_⟩
  have hl := len _ _ _ _ hsp
  have KX : K.In s.heap := e0.mod.kin.keeps fun b o e => (e0.bs b o e).1
  have lim : s.heap.NoLimit := e0.mod.nolimit.keeps fun b o e => (e0.bs b o e).1
  have hkind : ∀ y ∈ ps.zip us, scope.names.lookup y.1 = some .local ∨ (scope.names.lookup y.1 = some .cell ∧ ((cellsFrom (s.heap.objs.size + 1) scope.names []).lookup y.1).isSome = true) := fun ⟨n, v⟩ hy => by
    rcases S.par n (List.of_mem_zip hy).1 with q | q
    · exact .inl q
    · exact .inr ⟨q, PySem.W.cellsFrom_some _ _ _ (.inl q)⟩
  refine codeAny_call_function hr.depth (KX _ _ lk) rfl S.co S.gen rfl (PySem.W.codeRec_of KX hcd) (hb _ _ _ _ ?_)
  refine wpAny_newFunctionEnv_cells S.kind hkind fun env he s1 x => ?_
  subst he
  refine ⟨lim.keeps x.toInCall.keep, codeAny_func ?_⟩
  obtain ⟨t, ht, hq⟩ := hbody A outer s H vs Q E (hr.deeper _) hsp
  have I : Inv (cxOf CX P w K mg base N qual scope f cdv A outer s H E) [] (start N vs) H s1 := inv_start S hr.hd e0 hl r x
  refine wpAny_mono (ht [] s1 (start N vs) H _ I hq) (fun fl s' hs => ?_) fun e s' hs => hs
  have fin : ∀ {σ' : St} {H' : Hp} {v : V} {u : Value}, Inv (cxOf CX P w K mg base N qual scope f cdv A outer s H E) [] σ' H' s' → RelV v u → Q v H' → CE outer P w H s Q u s' :=
    fun {σ' H' v u} J rv q => ⟨v, H', J.os, J.bare, J.base, J.hok, rv, q⟩
  cases fl with
  | ret u =>
    obtain ⟨v, σ', H', J, rv, q⟩ := hs
    exact fin J rv q
  | next =>
    obtain ⟨σ', H', J, q⟩ := hs
    exact fin (v := V.non) (u := Value.none) J rfl q
  | brk =>
    obtain ⟨_, _, _, q⟩ := hs
    exact False.elim q
  | cont =>
    obtain ⟨_, _, _, q⟩ := hs
    exact False.elim q
end L2

namespace L2
open PySem PySem.Spec PyProof.Rows
section
variable {X : Cx} {x : Str} {p pos : Pos} {e : Expr} {es : List Expr} {t : TA} {id T : String} {r : List V → Hp → VK → Prop}

def tCB (r : List V → Hp → VK → Prop) (t : TA) : TE := fun σ H Q => t σ H fun vs H1 => r vs H1 Q
/-- f(e, ..), f a built-in function -/
theorem pe_callB (hc : CallR X (.builtin id) r) (hg : Gl X x) (hm : X.mg x = none) (hv : bootBuiltins x = some (.builtin id)) (ha : PA X (e :: es) t) (hn : x ≠ "__name__" := by decide) (hdb : (x == ("__debug__" : Str)) = false := by decide)
    (he : starEach (e :: es) X.env = (false, eval e X.env) :: starEach es X.env := by rfl) (hpl : (backTo pos (starEach es X.env)).any (·.1) = false := by rfl) : PE X (.Call (.Name x p) (e :: es) [] pos) (tCB r t) := by
  intro pins s σ H Q I h
  refine wpAny_Call_Name_kw (ld_blt I hg hm hv ?_ hn hdb)
  exact PyProof.Rows.callWith_builtin1 (thn (ha pos pins s σ H _ I h) fun us s1 ⟨vs, H1, I1, r1, q1⟩ => hc pins s1 σ H1 vs us Q I1 r1 q1) he hpl
/-- T(e, ..), T a built-in type -/
theorem pe_callTy (hc : CallR X (.type T) r) (hg : Gl X x) (hm : X.mg x = none) (hv : bootBuiltins x = some (.type T)) (ha : PA X (e :: es) t) (hn : x ≠ "__name__" := by decide) (hdb : (x == ("__debug__" : Str)) = false := by decide)
    (he : starEach (e :: es) X.env = (false, eval e X.env) :: starEach es X.env := by rfl) (hpl : (backTo pos (starEach es X.env)).any (·.1) = false := by rfl) : PE X (.Call (.Name x p) (e :: es) [] pos) (tCB r t) := by
  intro pins s σ H Q I h
  refine wpAny_Call_Name_kw (ld_blt I hg hm hv ?_ hn hdb)
  exact PyProof.Rows.callWith_type1 (thn (ha pos pins s σ H _ I h) fun us s1 ⟨vs, H1, I1, r1, q1⟩ => hc pins s1 σ H1 vs us Q I1 r1 q1) he hpl
/-- T() -/
theorem pe_callTy0 (hc : CallR X (.type T) r) (hg : Gl X x) (hm : X.mg x = none) (hv : bootBuiltins x = some (.type T)) (hn : x ≠ "__name__" := by decide) (hdb : (x == ("__debug__" : Str)) = false := by decide) :
    PE X (.Call (.Name x p) [] [] pos) (tCB r tNil) := by
  intro pins s σ H Q I h
  refine wpAny_Call_Name_kw (ld_blt I hg hm hv ?_ hn hdb)
  exact PyProof.Rows.callWith_type0 (hc pins s σ H [] [] Q I .nil h)
end
end L2

namespace HT
open PySem PyProof.Rows

/-- t < u of tuples of ints -/
def lexLt : List Int → List Int → Bool
  | [], [] => false
  | [], _ :: _ => true
  | _ :: _, [] => false
  | x :: xs, y :: ys => if x = y then lexLt xs ys else decide (x < y)
theorem lexLt_cons (x y : Int) (xs ys : List Int) : lexLt (x :: xs) (y :: ys) = if x = y then lexLt xs ys else decide (x < y) := rfl
theorem lexLt_nil_nil : lexLt [] [] = false := rfl
theorem lexLt_nil_cons (y : Int) (ys : List Int) : lexLt [] (y :: ys) = true := rfl
theorem lexLt_cons_nil (x : Int) (xs : List Int) : lexLt (x :: xs) [] = false := rfl

theorem eqAt_int (A : Around) (s : Shared) (a : Int) (t : Tok) (c : Int) (u : Tok) : ∃ e, SeqAt.EqAt A s (.int a t) (.int c u) e ∧ (e = true ↔ a = c) :=
  ⟨(a == c), SeqAt.EqAt.int_int a t c u, by simp⟩
theorem rcLt_int (A : Around) (s : Shared) (a : Int) (t : Tok) (c : Int) (u : Tok) (prog : Program) (w : World) (E : Value → Shared → Prop) (Q : Value → Shared → Prop) (h : Q (.bool (decide (a < c))) s) :
    wpAny (model prog w) A (richCompare .Lt (.int a t) (.int c u)) Q E s :=
  (PyProof.Rows.lt_int h : wpAny (model prog w) A (compareOp .Lt (.int a t) (.int c u)) Q E s)

section
open PySem.SeqAt
open PySem.AutoSeq1 (wpAny_loadPart')
open PySem.MeetsSeq PySem.MeetsSeq2 PySem.MeetsSeq3

theorem tuple_lt_ints (l b : Addr) (items items2 : Array Value) (n n2 : Nat) (dd dd2 : Option Addr) (sl sl2 : Array (Option Value)) (ns ms : List Int) (hi : IntsAre items.toList ns) (hj : IntsAre items2.toList ms) :
    Meets (Builtin.«tuple.__lt__» ⟨[.ref l, .ref b], []⟩)
      (fun _ R s => s.heap.get? l = some { cls := .type "tuple", dict := dd, data := .seq items n, slots := sl } ∧ s.heap.get? b = some { cls := .type "tuple", dict := dd2, data := .seq items2 n2, slots := sl2 } ∧
        R (.ok (.ret (.bool (lexLt ns ms)))) s) :=
  .of_wp fun prog w A R s h => by
    obtain ⟨hp, g, d, tk, os⟩ := s; obtain ⟨hl, hb, h⟩ := h
    have f2 := AutoSeq1.sub_tuple_tuple
    have z1 : items.size = ns.length := by rw [← hi.length]; simp
    have z2 : items2.size = ms.length := by rw [← hj.length]; simp
    wp_walk using wpAny_loadPart' hl, wpAny_loadPart' hb, wpAny_forIn_list _ (fun rest b s' => b.1 = none ∧ s' = ⟨hp, g, d, tk, os⟩ ∧ ∃ (vs ws : List Value) (ns' ms' : List Int), rest = vs.zip ws ∧
      IntsAre vs ns' ∧ IntsAre ws ms' ∧ ns'.length + items2.size = ms'.length + items.size ∧ R (.ok (.ret (.bool (lexLt ns' ms')))) ⟨hp, g, d, tk, os⟩) _
    case turn =>
      rintro ⟨y, x⟩ rest b s' ⟨hb', rfl, vs, ws, ns', ms', hz, hvi, hwi, hlen, hR⟩
      cases hvi with
      | nil => rw [List.zip_nil_left] at hz; cases hz
      | cons a t hvi' =>
        cases hwi with
        | nil => rw [List.zip_nil_right] at hz; cases hz
        | cons c u hwi' =>
          rw [List.zip_cons_cons] at hz
          injection hz with hyx hrest
          injection hyx with hy hx
          subst hy hx
          rw [lexLt_cons] at hR
          simp only [List.length_cons] at hlen
          obtain ⟨e, he, hiff⟩ := eqAt_int A.in1 ⟨hp, g, d, tk, os⟩ a t c u
          refine wpAny_bind (he prog w _ _ ?_)
          cases e with
          | true =>
            rw [if_pos (hiff.mp rfl)] at hR
            wp_walk
            exact ⟨rfl, rfl, _, _, _, _, hrest, hvi', hwi', by omega, hR⟩
          | false =>
            rw [if_neg (fun q => absurd (hiff.mpr q) Bool.false_ne_true)] at hR
            have hri := rcLt_int A.in1 ⟨hp, g, d, tk, os⟩ a t c u prog w
            wp_walk using hri
            exact ⟨_, rfl, by simpa using hR⟩
    case fin =>
      rintro ⟨b1, b2⟩ s' ⟨hb', rfl, vs, ws, ns', ms', hz, hvi, hwi, hlen, hR⟩
      simp only at hb'
      subst hb'
      have hv : lexLt ns' ms' = decide (items.size < items2.size) := by
        cases hvi with
        | nil =>
          cases hwi with
          | nil =>
            simp only [List.length_nil] at hlen
            rw [lexLt_nil_nil]
            exact (decide_eq_false (by omega)).symm
          | cons c u hw =>
            simp only [List.length_nil, List.length_cons] at hlen
            rw [lexLt_nil_cons]
            exact (decide_eq_true (by omega)).symm
        | cons a t hv =>
          cases hwi with
          | nil =>
            simp only [List.length_nil, List.length_cons] at hlen
            rw [lexLt_cons_nil]
            exact (decide_eq_false (by omega)).symm
          | cons c u hw =>
            rw [List.zip_cons_cons] at hz
            cases hz
      rw [hv] at hR
      wp_walk
      exact ⟨_, rfl, by simpa [Builtin.Tuple.tupleCompareSizes] using hR⟩
    case h =>
      exact ⟨rfl, rfl, items.toList, items2.toList, ns, ms, rfl, hi, hj, by omega, h⟩
end

section
variable {prog : Program} {w : World} {A : Around} {E : Value → Shared → Prop} {s : Shared}

theorem lt_tupInts {l b : Addr} {items items2 : Array Value} {ns ms : List Int} {Q : Value → Shared → Prop} (hl : IsTup s.heap l items) (hb : IsTup s.heap b items2) (hi : IntsAre items.toList ns) (hj : IntsAre items2.toList ms)
    (hu : A.units < cLine) (h : Q (.bool (lexLt ns ms)) s) : wpAny (model prog w) A (compareOp .Lt (.ref l) (.ref b)) Q E s := by
  obtain ⟨⟨cls, dd, data, sl⟩, ho, hc, n, hd⟩ := id hl
  obtain ⟨⟨cls2, dd2, data2, sl2⟩, ho2, hc2, n2, hd2⟩ := id hb
  simp only at hc hd hc2 hd2
  subst hc hd hc2 hd2
  exact richCompare_meets_room (op := .Lt) ⟨_, ho, rfl⟩ ⟨_, ho2, rfl⟩ PySem.F.slot_tuple_lt PySem.F.entry_tuple_lt (PySem.F.args_tuple_lt_2 _ _) (tuple_lt_ints l b items items2 n n2 dd dd2 sl sl2 ns ms hi hj)
    ⟨ho, ho2, show Value.bool (lexLt ns ms) ≠ Value.notImplemented ∧ Q (.bool (lexLt ns ms)) s from ⟨(fun x => nomatch x), h⟩⟩ hu

/-- t + u, t not empty -/
theorem cat_tup {t b : Addr} {vs ws : List Value} {Q : Value → Shared → Prop} (ht : IsTup s.heap t vs.toArray) (hb : IsTup s.heap b ws.toArray) (hv : vs ≠ [])
    (h1 : ws = [] → Q (.ref t) s) (h2 : ws ≠ [] → Q (.ref s.heap.objs.size) { s with heap := s.heap.push { cls := .type "tuple", data := .seq (vs ++ ws).toArray } })
    (hsz : vs.length + ws.length ≤ sizeLine) : wpAny (model prog w) A (binaryOp .Add (.ref t) (.ref b)) Q E s := by
  obtain ⟨⟨cls, dd, data, sl⟩, ho, hc, n, hd⟩ := id ht
  obtain ⟨⟨cls2, dd2, data2, sl2⟩, ho2, hc2, n2, hd2⟩ := id hb
  simp only at hc hd hc2 hd2
  subst hc hd hc2 hd2
  have e : vs.toArray ++ ws.toArray = (vs ++ ws).toArray := by simp
  by_cases hw : ws = []
  · exact concat_meets ⟨_, ho, rfl⟩ ⟨_, ho2, rfl⟩ noFill_tuple_add seq_tuple_add PySem.F.slot_tuple_add PySem.F.entry_tuple_add (PySem.F.args_tuple_add_2 _ _)
      (tuple_addW1 t b vs.toArray ws.toArray n n2 dd dd2 sl sl2 (by simpa using hv) (by simp [hw])) ⟨ho, ho2, h1 hw⟩
  · refine concat_meets ⟨_, ho, rfl⟩ ⟨_, ho2, rfl⟩ noFill_tuple_add seq_tuple_add PySem.F.slot_tuple_add PySem.F.entry_tuple_add (PySem.F.args_tuple_add_2 _ _)
      (tuple_addW2 t b vs.toArray ws.toArray n n2 dd dd2 sl sl2 (by simpa using hv) (by simpa using hw) (by rw [List.size_toArray, List.size_toArray]; exact hsz)) ⟨ho, ho2, ?_⟩
    rw [e]
    exact h2 hw

/-! ### t[a:b], not the whole -/
/-- a slice's bound as a place among n (d where it is left out) -/
def sIx (n d : Nat) : Option Int → Nat
  | none => d
  | some v => if v < 0 then (v + (n : Int)).toNat else min v.toNat n
theorem sIx_none (n d : Nat) : sIx n d none = d := rfl
theorem sIx_nat (n d k : Nat) : sIx n d (some (k : Int)) = min k n := by
  show (if (k : Int) < 0 then ((k : Int) + (n : Int)).toNat else min (k : Int).toNat n) = min k n
  rw [if_neg (by omega), Int.toNat_natCast]
theorem sIx_le (n d : Nat) (hd : d ≤ n) (o : Option Int) : sIx n d o ≤ n := by
  cases o with
  | none => exact hd
  | some v =>
    show (if v < 0 then (v + (n : Int)).toNat else min v.toNat n) ≤ n
    by_cases hv : v < 0
    · rw [if_pos hv]; omega
    · rw [if_neg hv]; exact Nat.min_le_right _ _
theorem clip_eq (v : Int) (n d : Nat) : (if v < 0 then max (v + (n : Int)) 0 else min v (n : Int)) = ((sIx n d (some v) : Nat) : Int) := by
  show (if v < 0 then max (v + (n : Int)) 0 else min v (n : Int)) = (((if v < 0 then (v + (n : Int)).toNat else min v.toNat n) : Nat) : Int)
  by_cases hv : v < 0
  · simp only [if_pos hv]; omega
  · simp only [if_neg hv]; omega
theorem adjust_gen (lo hi : Option Int) (n : Nat) : Builtin.Slice.sliceAdjust lo hi 1 (n : Int) = (((sIx n 0 lo : Nat) : Int), ((sIx n n hi : Nat) : Int)) := by
  have h1 : ¬ ((1 : Int) < 0) := by omega
  unfold Builtin.Slice.sliceAdjust
  simp only [h1, if_false]
  refine Prod.ext ?_ ?_
  · cases lo with
    | none => rfl
    | some v => exact clip_eq v n 0
  · cases hi with
    | none => rfl
    | some v => exact clip_eq v n n
theorem places_gen (i j : Nat) : Builtin.Slice.slicePlaces (i : Int) (j : Int) 1 = j - i := by
  unfold Builtin.Slice.slicePlaces
  have h1 : (1 : Int) > 0 := by omega
  simp only [h1, if_true, Int.ediv_one]
  split <;> omega
theorem slicePart_ {v : Value} {o : Option Int} {Q : Option Int → Shared → Prop} (p : IsPart v o) (h : Q o s) : wpAny (model prog w) A (Builtin.Slice.slicePartIndex v) Q E s := by
  cases p with
  | none => exact slicePart_none h
  | int i t => exact slicePart_int h
theorem sliceApplied_gen {sl : Addr} {vl vu : Value} {lo hi : Option Int} {n : Nat} {Q : Int × Int × Nat → Shared → Prop} (hs : s.heap.IsSliceOf sl vl vu .none) (pl : IsPart vl lo) (pu : IsPart vu hi)
    (h : Q (((sIx n 0 lo : Nat) : Int), 1, sIx n n hi - sIx n 0 lo) s) : wpAny (model prog w) A (Builtin.Slice.sliceApplied (.ref sl) (pure (n : Int))) Q E s := by
  obtain ⟨os, hos, hcs, hds⟩ := id hs
  unfold Builtin.Slice.sliceApplied Builtin.Slice.sliceFields
  refine wpAny_bind (wpAny_bind (wpAny_field hos hds (x := vl) rfl (wpAny_bind (wpAny_field hos hds (x := vu) rfl (wpAny_bind (wpAny_field hos hds (x := .none) rfl (wpAny_pure ?_)))))))
  refine wpAny_bind (slicePart_none ?_)
  show wpAny _ _ (if ((1 : Int) == 0) = true then _ else _) _ _ s
  rw [if_neg (by decide)]
  refine wpAny_bind (slicePart_ pl (wpAny_bind (slicePart_ pu (wpAny_bind (wpAny_pure ?_)))))
  show wpAny _ _ (match Builtin.Slice.sliceAdjust lo hi 1 (n : Int) with | (lo, hi) => pure (lo, (1 : Int), Builtin.Slice.slicePlaces lo hi 1)) _ _ s
  rw [adjust_gen lo hi n]
  show wpAny _ _ (pure (((sIx n 0 lo : Nat) : Int), (1 : Int), Builtin.Slice.slicePlaces ((sIx n 0 lo : Nat) : Int) ((sIx n n hi : Nat) : Int) 1)) _ _ s
  rw [places_gen]
  exact wpAny_pure h
theorem pick_gen (xs : Array Value) (i k : Nat) : ((List.range k).filterMap fun (m : Nat) => xs[((i : Int) + (m : Int) * 1).toNat]?).toArray = ((xs.toList.drop i).take k).toArray := by
  have e : (fun (m : Nat) => xs[((i : Int) + (m : Int) * 1).toNat]?) = fun m => xs[i + m]? := by
    funext m
    have : ((i : Int) + (m : Int) * 1).toNat = i + m := by omega
    rw [this]
  rw [e]
  have := pick_run xs i k
  rw [List.filterMap_map] at this
  have e2 : ((fun x => xs[x]?) ∘ fun x => i + x) = fun m => xs[i + m]? := rfl
  rw [e2] at this
  rw [this]

theorem getItem_tuple_cut {t sl : Addr} {items : Array Value} {vl vu : Value} {lo hi : Option Int} {Q : Value → Shared → Prop} (ht : IsTup s.heap t items) (hs : s.heap.IsSliceOf sl vl vu .none) (pl : IsPart vl lo) (pu : IsPart vu hi)
    (hw : ¬ (sIx items.size 0 lo = 0 ∧ sIx items.size items.size hi = items.size))
    (h : Q (.ref s.heap.objs.size) { s with heap := s.heap.push { cls := .type "tuple", data := .seq ((items.toList.drop (sIx items.size 0 lo)).take (sIx items.size items.size hi - sIx items.size 0 lo)).toArray } })
    (hsz : items.size ≤ sizeLine) : wpAny (model prog w) A (getItem (.ref t) (.ref sl)) Q E s := by
  have htake : sizeOk (.seq ((items.toList.drop (sIx items.size 0 lo)).take (sIx items.size items.size hi - sIx items.size 0 lo)).toArray) := by
    show ((items.toList.drop (sIx items.size 0 lo)).take (sIx items.size items.size hi - sIx items.size 0 lo)).toArray.size ≤ sizeLine
    rw [List.size_toArray, List.length_take, List.length_drop, Array.length_toList]
    omega
  have hj : sIx items.size items.size hi ≤ items.size := sIx_le _ _ (Nat.le_refl _) hi
  obtain ⟨os, hos, hcs, hds⟩ := id hs
  have hTs : s.TypeIs (.ref sl) "slice" := ⟨os, hos, hcs⟩
  unfold getItem
  try with_reducible refine wpAny_holding ?_
  first | refine wpAny_bind (wpAny_pure ?_) | skip
  refine wpAny_bind (wpAny_sequenceKey ht.typeIs (by decide) ?_)
  refine wpAny_bind (wpAny_callSpecial?_slot (name := Str.ofString "__getitem__") ht.typeIs PyProof.Rows.slot_tuple_getitem
    (wpAny_call_entry PyProof.Rows.slot_tuple_getitem ht.typeIs entry_tuple_getitem ?_ (args_tuple_getitem _ _)))
  show wpAny _ _ (Builtin.Tuple.tupleItemsOf (.ref t) >>= _) _ _ s
  refine wpAny_bind (tupleItemsOf_ ht ?_)
  refine wpAny_bind (wpAny_typeOf hTs ?_)
  rw [if_pos (by decide)]
  refine wpAny_bind (sliceApplied_gen hs pl pu ?_)
  have hno : ¬ ((((sIx items.size 0 lo : Nat) : Int) == 0 && (1 : Int) == 1 && (sIx items.size items.size hi - sIx items.size 0 lo) == items.size) = true) := by
    intro q
    rw [Bool.and_eq_true, Bool.and_eq_true] at q
    have q1 : ((sIx items.size 0 lo : Nat) : Int) = 0 := eq_of_beq q.1.1
    have q2 : sIx items.size items.size hi - sIx items.size 0 lo = items.size := eq_of_beq q.2
    exact hw ⟨by omega, by omega⟩
  show wpAny _ _ (if (((sIx items.size 0 lo : Nat) : Int) == 0 && (1 : Int) == 1 && (sIx items.size items.size hi - sIx items.size 0 lo) == items.size) = true then _ else _) _ _ s
  rw [if_neg hno, pick_gen]
  first
    | exact wpAny_bind (m := Builtin.Tuple.tupleExact _) (wpAny_newObj_type (wpAny_pure ⟨_, rfl, wpAny_pure h⟩) htake)
    | exact wpAny_bind (m := Builtin.Tuple.tupleExact _) (wpAny_newObj_type (wpAny_bind (wpAny_pure (wpAny_pure ⟨_, rfl, wpAny_pure h⟩))) htake)
    | exact wpAny_bind (wpAny_bind (m := Builtin.Tuple.tupleExact _) (wpAny_newObj_type (wpAny_pure (wpAny_pure ⟨_, rfl, wpAny_pure h⟩)) htake))
    | exact wpAny_bind (wpAny_bind (m := Builtin.Tuple.tupleExact _) (wpAny_newObj_type (wpAny_pure ⟨_, rfl, wpAny_pure h⟩) htake))
end
end HT

namespace L2
open PySem PySem.Spec PyProof.Rows

/-! ### the parts of a slice -/
abbrev TO := St → Hp → (Option Int → Hp → Prop) → Prop
/-- a slice's part (left out, or an int) -/
def PO (X : Cx) (e : Option Expr) (t : TO) : Prop :=
  ∀ (pins : List (Addr × Obj)) (s : Shared) (σ : St) (H : Hp) (Q : Option Int → Hp → Prop), Inv X pins σ H s → t σ H Q →
    wpAny (model X.prog X.w) X.A (evalPart e X.env) (fun u s' => ∃ o H', Inv X pins σ H' s' ∧ IsPart u o ∧ Q o H') X.xe s
def tNoPart : TO := fun _ H Q => Q none H
def tPart (t : TE) : TO := fun σ H Q => t σ H fun x H1 => ∃ i, x = .int i ∧ Q (some i) H1

theorem intsAre_of {ns : List Int} : ∀ {us : List Value}, Vals (ns.map V.int) us → IntsAre us ns := by
  induction ns with
  | nil => intro us r; rw [List.map_nil] at r; cases r; exact .nil
  | cons n ns ih =>
    intro us r
    rw [List.map_cons] at r
    cases r with
    | cons r1 r2 =>
      obtain ⟨t, e⟩ := r1
      subst e
      exact .cons n t (ih r2)

section
variable {X : Cx} {e : Expr} {te : TE} {lo hi : Option Expr} {tl th : TO} {pos p2 : Pos}

theorem po_none : PO X none tNoPart := by
  intro pins s σ H Q I h
  rw [evalPart_none]
  exact wpAny_pure ⟨none, H, I, .none, h⟩
theorem po_some (h : PE X e te) : PO X (some e) (tPart te) := by
  intro pins s σ H Q I hw
  rw [evalPart_some]
  refine thn (h pins s σ H _ I hw) fun u s1 ⟨x, H1, I1, r1, q1⟩ => ?_
  obtain ⟨i, rfl, q⟩ := q1
  obtain ⟨t, rfl⟩ := r1
  exact ⟨some i, H1, I1, .int i t, q⟩

/-- what a slice of a value is, by values: the slice object stands at sl -/
def SlR (X : Cx) (r : V → Option Int → Option Int → Hp → VK → Prop) : Prop :=
  ∀ (pins : List (Addr × Obj)) (s : Shared) (σ : St) (H : Hp) (x : V) (v vl vu : Value) (lo hi : Option Int) (sl : Addr) (Q : VK), Inv X pins σ H s → RelV x v → s.heap.IsSliceOf sl vl vu .none → IsPart vl lo → IsPart vu hi → r x lo hi H Q →
    ∃ T id, typeLookup (.type T) "__getitem__" = pure (some (.builtin id)) ∧ s.TypeIs v T ∧ wpAny (model X.prog X.w) X.A (getItem v (.ref sl)) (EP X pins σ Q) X.xe s
theorem SlR.or {r r' : V → Option Int → Option Int → Hp → VK → Prop} (h : SlR X r) (h' : SlR X r') : SlR X (fun x lo hi H Q => r x lo hi H Q ∨ r' x lo hi H Q) := by
  intro pins s σ H x v vl vu lo hi sl Q I rx hs pl pu q
  rcases q with q | q
  · exact h pins s σ H x v vl vu lo hi sl Q I rx hs pl pu q
  · exact h' pins s σ H x v vl vu lo hi sl Q I rx hs pl pu q
def tSl (r : V → Option Int → Option Int → Hp → VK → Prop) (te : TE) (tl th : TO) : TE := fun σ H Q => te σ H fun x H1 => tl σ H1 fun l H2 => th σ H2 fun u H3 => r x l u H3 Q
/-- a[lo:hi], any a -/
theorem pe_slice {r : V → Option Int → Option Int → Hp → VK → Prop} (hr : SlR X r) (he : PE X e te) (hl : PO X lo tl) (hu : PO X hi th) : PE X (.Subscript e (.Slice lo hi none p2) pos) (tSl r te tl th) := by
  intro pins s σ H Q I h
  refine Subscript_ (thn (he pins s σ H _ I h) fun v s1 ⟨x, H1, I1, r1, q1⟩ => ?_)
  refine wpAny_Slice (thn (hl pins s1 σ H1 _ I1 q1) fun vl s2 ⟨l, H2, I2, pl, q2⟩ => thn (hu pins s2 σ H2 _ I2 q2) fun vu s3 ⟨u, H3, I3, pu, q3⟩ => ?_)
  rw [evalPart_none]
  refine wpAny_pure ?_
  have I4 : Inv X pins σ H3 { s3 with heap := s3.heap.push { cls := .type "slice", data := .fields #[vl, vu, .none] } } := I3.kept (t' := s3.toks) fun b ob q => Heap.get?_push_of_some _ q
  obtain ⟨T, id, hT, ht, hg⟩ := hr pins { s3 with heap := s3.heap.push { cls := .type "slice", data := .fields #[vl, vu, .none] } } σ H3 x v vl vu l u s3.heap.objs.size Q I4 r1 (Heap.IsSliceOf.new ..) pl pu q3
  show wpAny (model X.prog X.w) X.A (subscriptTail e (.Slice lo hi none p2) v (.ref s3.heap.objs.size)) (EP X pins σ Q) X.xe { s3 with heap := s3.heap.push { cls := .type "slice", data := .fields #[vl, vu, .none] } }
  exact tail_any (ops := [.ref s3.heap.objs.size, v]) ht hT hg (by with_unfolding_all rfl)

/-- the items of xs[lo:hi] -/
def cutV (xs : List V) (lo hi : Option Int) : List V := (xs.drop (HT.sIx xs.length 0 lo)).take (HT.sIx xs.length xs.length hi - HT.sIx xs.length 0 lo)
theorem cutV_length (xs : List V) (lo hi : Option Int) : (cutV xs lo hi).length ≤ xs.length := by
  unfold cutV
  rw [List.length_take, List.length_drop]
  omega
/-- t[lo:hi], not the whole of it (the whole would be t itself) -/
def rSlT (K : PySem.W.Frag) : V → Option Int → Option Int → Hp → VK → Prop := fun x lo hi H Q => ∃ a xs, x = .ref a ∧ SqT K H a xs ∧
  ¬ (HT.sIx xs.length 0 lo = 0 ∧ HT.sIx xs.length xs.length hi = xs.length) ∧ ∀ p, H p = none → Q (.ref p) (upd H p (.tup (cutV xs lo hi)))
theorem sl_tup : SlR X (rSlT X.K) := by
  intro pins s σ H x v vl vu lo hi sl Q I rx hs pl pu h
  obtain ⟨a, xs, rfl, hx, hw, q⟩ := h
  cases rx
  obtain ⟨its, r, ht, hz⟩ := I.tuple hx
  have hlen : its.toArray.size = xs.length := by rw [List.size_toArray]; exact r.length.symm
  refine ⟨"tuple", _, PyProof.Rows.slot_tuple_getitem.lookup, ht.typeIs, ?_⟩
  refine HT.getItem_tuple_cut ht hs pl pu (by rw [hlen]; exact hw) ?_ (by rw [hlen]; exact hz)
  rw [hlen]
  refine ⟨.ref s.heap.objs.size, _, I.laid (t' := s.toks) (o := .tup (cutV xs lo hi)) (fun b ob q => Heap.get?_push_of_some _ q) (Nat.le_refl _) ?_, rfl, q _ (I.hok.fresh (Nat.le_refl _))⟩
  exact ⟨Nat.le_trans (cutV_length xs lo hi) hz, _, (r.drop (HT.sIx xs.length 0 lo)).take (HT.sIx xs.length xs.length hi - HT.sIx xs.length 0 lo), IsTup.new _ _⟩

/-! ### t < u, t + u -/
def rLtT (K : PySem.W.Frag) : R2 := fun x y H Q => ∃ a b ns ms, x = .ref a ∧ y = .ref b ∧ SqT K H a (ns.map V.int) ∧ SqT K H b (ms.map V.int) ∧ Q (.bl (HT.lexLt ns ms)) H
theorem op_ltT (hu : X.A.units < cLine) : OpR X (compareOp .Lt) (rLtT X.K) := by
  intro pins s σ H x y v u Q I rx ry h
  obtain ⟨a, b, ns, ms, rfl, rfl, ha, hb, q⟩ := h
  cases rx
  cases ry
  obtain ⟨its, r1, p1, _⟩ := I.tuple ha
  obtain ⟨its2, r2, p2, _⟩ := I.tuple hb
  have i1 : IntsAre its.toArray.toList ns := intsAre_of r1
  have i2 : IntsAre its2.toArray.toList ms := intsAre_of r2
  exact HT.lt_tupInts p1 p2 i1 i2 hu ⟨.bl (HT.lexLt ns ms), H, I, rfl, q⟩
/-- t + u, t not empty: u empty gives t itself -/
def rCatT (K : PySem.W.Frag) : R2 := fun x y H Q => ∃ a b xs ys, x = .ref a ∧ y = .ref b ∧ SqT K H a xs ∧ SqT K H b ys ∧ xs ≠ [] ∧ xs.length + ys.length ≤ sizeLine ∧
  (ys = [] → Q (.ref a) H) ∧ (ys ≠ [] → ∀ p, H p = none → Q (.ref p) (upd H p (.tup (xs ++ ys))))
theorem Vals.nil_iff {xs : List V} {us : List Value} (r : Vals xs us) : us = [] ↔ xs = [] := by
  cases r with
  | nil => simp
  | cons _ _ => simp
theorem op_catT : OpR X (binaryOp .Add) (rCatT X.K) := by
  intro pins s σ H x y v u Q I rx ry h
  obtain ⟨a, b, xs, ys, rfl, rfl, ha, hb, hx, hz, q1, q2⟩ := h
  cases rx
  cases ry
  obtain ⟨its, r1, p1, _⟩ := I.tuple ha
  obtain ⟨its2, r2, p2, _⟩ := I.tuple hb
  refine HT.cat_tup p1 p2 (fun z => hx (r1.nil_iff.mp z)) (fun z => ⟨.ref a, H, I, rfl, q1 (r2.nil_iff.mp z)⟩) (fun z => ?_) (by rw [← r1.length, ← r2.length]; exact hz)
  refine ⟨.ref s.heap.objs.size, _, I.laid (t' := s.toks) (o := .tup (xs ++ ys)) (fun b ob q => Heap.get?_push_of_some _ q) (Nat.le_refl _) ?_, rfl, q2 (fun w => z (r2.nil_iff.mpr w)) _ (I.hok.fresh (Nat.le_refl _))⟩
  exact ⟨by rw [List.length_append]; exact hz, _, r1.append r2, IsTup.new _ _⟩
/-- tuple(t) -/
theorem call_tupleT : CallR X (.type "tuple") (fun xs H Q => ∃ a ys, xs = [.ref a] ∧ SqT X.K H a ys ∧ Q (.ref a) H) := by
  intro pins s σ H xs us Q I r h
  obtain ⟨a, ys, rfl, ha, q⟩ := h
  obtain ⟨u, rfl, ru⟩ := vals1 r
  cases ru
  obtain ⟨its, _, p1, _⟩ := I.tuple ha
  exact call_tuple_same (items := its.toArray) p1 ⟨.ref a, H, I, rfl, q⟩
end
end L2

namespace L2
open PySem PySem.Spec PyProof.Rows

/-! ### places -/
/-- the place that an index of any sign means -/
def ixN (n : Nat) (i : Int) : Option Nat := if 0 ≤ i then (if i < n then some i.toNat else none) else if -(n : Int) ≤ i then some (i + n).toNat else none
def atI {α : Type} (xs : List α) (i : Int) : Option α := (ixN xs.length i).bind fun j => xs[j]?
theorem ixN_seq {n : Nat} {i : Int} {j : Nat} (h : ixN n i = some j) : seqIndex? i n = some j ∧ j < n ∧ -(n : Int) ≤ i ∧ i < n := by
  unfold ixN at h
  by_cases h0 : 0 ≤ i
  · rw [if_pos h0] at h
    by_cases h1 : i < n
    · rw [if_pos h1] at h
      have e : i.toNat = j := Option.some.inj h
      exact ⟨by rw [seqIndex_of h0 h1, e], by omega, by omega, h1⟩
    · rw [if_neg h1] at h; cases h
  · rw [if_neg h0] at h
    by_cases h1 : -(n : Int) ≤ i
    · rw [if_pos h1] at h
      have e : (i + n).toNat = j := Option.some.inj h
      exact ⟨by rw [seqIndex_neg (by omega) h1, e], by omega, h1, by omega⟩
    · rw [if_neg h1] at h; cases h
theorem atI_get {α : Type} {xs : List α} {i : Int} {v : α} (h : atI xs i = some v) : ∃ j, seqIndex? i xs.length = some j ∧ xs[j]? = some v ∧ j < xs.length ∧ -(xs.length : Int) ≤ i ∧ i < xs.length := by
  unfold atI at h
  cases e : ixN xs.length i with
  | none => rw [e] at h; cases h
  | some j =>
    rw [e] at h
    obtain ⟨h1, h2, h3, h4⟩ := ixN_seq e
    exact ⟨j, h1, h, h2, h3, h4⟩
theorem atI_nat {α : Type} {xs : List α} {j : Nat} {v : α} (h : xs[j]? = some v) : atI xs (j : Int) = some v := by
  have hj : j < xs.length := (List.getElem?_eq_some_iff.mp h).1
  have e : ixN xs.length (j : Int) = some j := by
    unfold ixN
    rw [if_pos (by omega), if_pos (by omega)]; simp
  unfold atI; rw [e]; exact h
theorem atI_last {α : Type} (xs : List α) (v : α) : atI (xs ++ [v]) (-1) = some v := by
  have hl : (xs ++ [v]).length = xs.length + 1 := by simp
  have e : ixN (xs ++ [v]).length (-1) = some xs.length := by
    unfold ixN
    rw [hl, if_neg (by decide), if_pos (by omega)]
    congr 1
    omega
  unfold atI
  rw [e]
  show (xs ++ [v])[xs.length]? = some v
  simp

/-! ### what may be subscripted -/
/-- what stands as an index of a plain subscript -/
def PlainIx (b : Expr) : Prop := ∀ o i, subscripted b false o i = operate [o, i] (getItem o i)
/-- a subscript by values -/
def IxR (X : Cx) (r : R2) : Prop :=
  ∀ (value slice : Expr) (pins : List (Addr × Obj)) (s : Shared) (σ : St) (H : Hp) (x y : V) (v u : Value) (Q : VK), Inv X pins σ H s → RelV x v → RelV y u → r x y H Q →
    subscripted slice false v u = operate [v, u] (getItem v u) → wpAny (model X.prog X.w) X.A (subscriptTail value slice v u) (EP X pins σ Q) X.xe s
/-- a call of a builtin's method by values: the receiver, the arguments -/
def MtR (X : Cx) (id : String) (r : V → List V → Hp → VK → Prop) : Prop :=
  ∀ (pins : List (Addr × Obj)) (s : Shared) (σ : St) (H : Hp) (x : V) (xs : List V) (v : Value) (us : List Value) (Q : VK), Inv X pins σ H s → RelV x v → Vals xs us → r x xs H Q →
    wpAny (model X.prog X.w) X.A (call (.builtin id) (v :: us)) (EP X pins σ Q) X.xe s
section
variable {X : Cx} {a b : Expr} {ta tb : TE} {pos : Pos}
theorem IxR.or {r r' : R2} (h : IxR X r) (h' : IxR X r') : IxR X (fun x y H Q => r x y H Q ∨ r' x y H Q) := by
  intro value slice pins s σ H x y v u Q I rx ry q hs
  rcases q with q | q
  · exact h value slice pins s σ H x y v u Q I rx ry q hs
  · exact h' value slice pins s σ H x y v u Q I rx ry q hs
theorem MtR.or {id : String} {r r' : V → List V → Hp → VK → Prop} (h : MtR X id r) (h' : MtR X id r') : MtR X id (fun x xs H Q => r x xs H Q ∨ r' x xs H Q) := by
  intro pins s σ H x xs v us Q I rx rs q
  rcases q with q | q
  · exact h pins s σ H x xs v us Q I rx rs q
  · exact h' pins s σ H x xs v us Q I rx rs q
/-- a[b] -/
theorem pe_ix {r : R2} (hr : IxR X r) (ha : PE X a ta) (hb : PE X b tb) (hs : PlainIx b) : PE X (.Subscript a b pos) (tOp r ta tb) := by
  intro pins s σ H Q I h
  exact Subscript_ (binT ha hb I h fun v u s2 x y H2 I2 rx ry q => hr a b pins s2 σ H2 x y v u Q I2 rx ry q (hs _ _))

def rIxL (K : PySem.W.Frag) : R2 := fun x y H Q => ∃ p xs i v, x = .ref p ∧ y = .int i ∧ SqL K H p xs ∧ atI xs i = some v ∧ Q v H
def rIxT (K : PySem.W.Frag) : R2 := fun x y H Q => ∃ p xs i v, x = .ref p ∧ y = .int i ∧ SqT K H p xs ∧ atI xs i = some v ∧ Q v H
def rIxS : R2 := fun x y H Q => ∃ z i c, x = .str z ∧ y = .int i ∧ z.length ≤ sizeLine ∧ atI z.cps.toList i = some c ∧ Q (.str ⟨#[c]⟩) H
theorem ix_list : IxR X (rIxL X.K) := by
  intro value slice pins s σ H x y v u Q I rx ry h hs
  obtain ⟨p, xs, i, z, rfl, rfl, hq, he, q⟩ := h
  cases rx
  obtain ⟨t, rfl⟩ := ry
  obtain ⟨its, r, pl, hz⟩ := I.list hq
  obtain ⟨j, h1, h2, h3, h4, h5⟩ := atI_get he
  obtain ⟨w, ew, rw'⟩ := r.get h2
  have hl := r.length
  have hn := line63
  have fin : EP X pins σ Q w s := ⟨z, H, I, rw', q⟩
  by_cases h0 : 0 ≤ i
  · have hj : i.toNat = j := by
      rw [seqIndex_of h0 h5] at h1
      exact Option.some.inj h1
    exact item_listR pl.isList h0 (by omega) (by rw [hj]; simpa using ew) fin hs
  · have hj : (i + (its.toArray.size : Int)).toNat = j := by
      rw [seqIndex_neg (by omega) h4] at h1
      rw [List.size_toArray, ← hl]
      exact Option.some.inj h1
    exact subscriptTail_builtinR (x := w) pl.isList.typeIs slot_list_getitem.lookup
      (wpAny_getItem_list_neg (Q := fun r s' => r = w ∧ EP X pins σ Q r s') pl.isList (by omega) (by rw [List.size_toArray] <;> omega) (by omega) (by rw [hj]; simpa using ew) ⟨rfl, fin⟩) hs
theorem ix_tup : IxR X (rIxT X.K) := by
  intro value slice pins s σ H x y v u Q I rx ry h hs
  obtain ⟨p, xs, i, z, rfl, rfl, hq, he, q⟩ := h
  cases rx
  obtain ⟨t, rfl⟩ := ry
  obtain ⟨its, r, pl, hz⟩ := I.tuple hq
  obtain ⟨j, h1, h2, h3, h4, h5⟩ := atI_get he
  obtain ⟨w, ew, rw'⟩ := r.get h2
  have hl := r.length
  have hn := line63
  have fin : EP X pins σ Q w s := ⟨z, H, I, rw', q⟩
  exact subscriptTail_builtinR (x := w) pl.typeIs slot_tuple_getitem.lookup
    (getItem_tuple (j := j) (Q := fun r s' => r = w ∧ EP X pins σ Q r s') pl (by omega) (by omega) (by rw [List.size_toArray, ← hl]; exact h1) (by simpa using ew) ⟨rfl, fin⟩) hs
theorem ix_str : IxR X rIxS := by
  intro value slice pins s σ H x y v u Q I rx ry h hs
  obtain ⟨z, i, c, rfl, rfl, hz, he, q⟩ := h
  obtain ⟨t, rfl⟩ := rx
  obtain ⟨t', rfl⟩ := ry
  obtain ⟨j, h1, h2, h3, h4, h5⟩ := atI_get he
  have hl : z.cps.toList.length = z.length := by simp [Str.length]
  rw [hl] at h1 h4 h5
  have hn := line63
  exact tail_any (typeIs_str s z t) slot_str_getitem.lookup (getItem_str (c := c) (by
    have e1 : decide (i < -(2 ^ 63 : Int)) = false := decide_eq_false (by omega)
    have e2 : decide (i ≥ 2 ^ 63) = false := decide_eq_false (by omega)
    rw [e1, e2, Bool.or_false]) (by rw [h1]; simpa using h2) ⟨.str ⟨#[c]⟩, H, I.tok _, ⟨_, rfl⟩, q⟩) hs
/-- list, tuple or str -/
def rIx (K : PySem.W.Frag) : R2 := fun x y H Q => rIxL K x y H Q ∨ rIxT K x y H Q ∨ rIxS x y H Q
theorem ix_seq : IxR X (rIx X.K) := ix_list.or (ix_tup.or ix_str)

/-! ### xs[i] = v, any sign -/
/-- the list's object behind a store -/
theorem mapSeq_set (its : List Value) (n j : Nat) (u : Value) : Obj.mapSeq (·.setIfInBounds j u) { cls := .type "list", data := .seq its.toArray n } = { cls := .type "list", data := .seq (its.set j u).toArray n } := by
  simp [Obj.mapSeq]
theorem Inv.lst {pins : List (Addr × Obj)} {σ : St} {H : Hp} {s : Shared} {p : Addr} {xs : List V} (I : Inv X pins σ H s) (h : H p = some (.lst xs)) :
    ∃ (its : List Value) (n : Nat), Vals xs its ∧ s.heap.get? p = some { cls := .type "list", data := .seq its.toArray n } ∧ xs.length ≤ sizeLine := by
  obtain ⟨z, its, n, r, e⟩ := I.hok p _ h
  exact ⟨its, n, r, e, z⟩
/-- the list at p is written by an update of its object -/
theorem Inv.lstUpd {pins : List (Addr × Obj)} {σ : St} {H : Hp} {s : Shared} {p : Addr} {xs ys : List V} {its its' : List Value} {n n' : Nat} {f : Obj → Obj} (I : Inv X pins σ H s) (h : H p = some (.lst xs))
    (ho : s.heap.get? p = some { cls := .type "list", data := .seq its.toArray n }) (hf : f { cls := .type "list", data := .seq its.toArray n } = { cls := .type "list", data := .seq its'.toArray n' }) (r : Vals ys its') (hz : ys.length ≤ sizeLine) (t : Nat) :
    Inv X pins σ (upd H p (.lst ys)) { s with heap := s.heap.update p f, toks := t } := by
  have e : (s.heap.update p f).get? p = some { cls := .type "list", data := .seq its'.toArray n' } := by
    rw [Heap.get?_update_self f ho (by rw [hf] <;> rfl), hf]
  refine I.write (x := p) (e := p) (by rw [h]; trivial) (.inl rfl) (fun b u hb q => (Heap.get?_update_other _ _ (Ne.symm hb)).trans q) ⟨_, e⟩ ?_
  exact ⟨hz, its', n', r, e⟩
def rSetL : V → V → V → Hp → (Hp → Prop) → Prop := fun o i v H Q => ∃ p xs k j, o = .ref p ∧ i = .int k ∧ H p = some (.lst xs) ∧ ixN xs.length k = some j ∧ Q (upd H p (.lst (xs.set j v)))
theorem set_list : PSet X rSetL := by
  intro pins s σ H o i v ov iv u Q I ro ri rv h
  obtain ⟨p, xs, k, j, rfl, rfl, hp, hj, q⟩ := h
  cases ro
  obtain ⟨t, rfl⟩ := ri
  obtain ⟨its, n, r, ho, hz⟩ := I.lst hp
  obtain ⟨h1, h2, h3, h4⟩ := ixN_seq hj
  have hl := r.length
  have hn := line63
  have I' : Inv X pins σ (upd H p (.lst (xs.set j v))) { s with heap := s.heap.update p (Obj.mapSeq (·.setIfInBounds j u)) } :=
    I.lstUpd hp ho (mapSeq_set its n j u) (r.set rv j) (by rw [List.length_set]; exact hz) s.toks
  by_cases h0 : 0 ≤ k
  · have hk : k.toNat = j := by
      rw [seqIndex_of h0 h4] at h1
      exact Option.some.inj h1
    exact PySem.W.ki_setAt ho h0 (by omega) (by rw [List.size_toArray, ← hl]; exact h4) (by rw [hk]; exact ⟨_, I', q⟩)
  · have hk : (k + (its.toArray.size : Int)).toNat = j := by
      rw [seqIndex_neg (by omega) h3] at h1
      rw [List.size_toArray, ← hl]
      exact Option.some.inj h1
    exact PySem.W.ki_setBack ho (by omega) (by rw [List.size_toArray, ← hl]; exact h3) (by omega) (by rw [hk]; exact ⟨_, I', q⟩)

/-! ### slices -/
theorem slice_bounds (lo hi : Option Int) (n : Nat) : (sliceBounds lo hi none n).1 = ((HT.sIx n 0 lo : Nat) : Int) ∧ (sliceBounds lo hi none n).2.1 = ((HT.sIx n n hi : Nat) : Int) ∧ (sliceBounds lo hi none n).2.2 = 1 := by
  refine ⟨?_, ?_, rfl⟩
  · cases lo with
    | none => simp [sliceBounds, HT.sIx]
    | some i =>
      simp only [sliceBounds, HT.sIx, Option.getD_none, show (1 : Int) > 0 by decide, if_true]
      by_cases h : i < 0
      · simp only [h, if_true] <;> omega
      · simp only [h, if_false] <;> omega
  · cases hi with
    | none => simp [sliceBounds, HT.sIx]
    | some i =>
      simp only [sliceBounds, HT.sIx, Option.getD_none, show (1 : Int) > 0 by decide, if_true]
      by_cases h : i < 0
      · simp only [h, if_true] <;> omega
      · simp only [h, if_false] <;> omega
theorem slicePick_cut (its : List Value) (lo hi : Option Int) : slicePick its.toArray lo hi none = ((its.drop (HT.sIx its.length 0 lo)).take (HT.sIx its.length its.length hi - HT.sIx its.length 0 lo)).toArray := by
  obtain ⟨h1, h2, h3⟩ := slice_bounds lo hi its.toArray.size
  unfold slicePick
  rw [h1, h2, h3]
  simp only [sliceRange_one, pick_run, List.size_toArray] <;> rfl
/-- xs[lo:hi] of a list: a new list -/
def rSlL (K : PySem.W.Frag) : V → Option Int → Option Int → Hp → VK → Prop := fun x lo hi H Q => ∃ a xs, x = .ref a ∧ SqL K H a xs ∧ ∀ p, H p = none → Q (.ref p) (upd H p (.lst (cutV xs lo hi)))
theorem sl_list : SlR X (rSlL X.K) := by
  intro pins s σ H x v vl vu lo hi sl Q I rx hs pl pu h
  obtain ⟨a, xs, rfl, hx, q⟩ := h
  cases rx
  obtain ⟨its, r, ht, hz⟩ := I.list hx
  have hlen := r.length
  refine ⟨"list", _, slot_list_getitem.lookup, ht.isList.typeIs, ?_⟩
  refine wpAny_getItem_list_slice ht.isList hs pl pu .none (by simp) ?_ (by rw [List.size_toArray] <;> omega)
  rw [slicePick_cut, ← hlen]
  refine ⟨.ref s.heap.objs.size, _, I.laid (t' := s.toks) (o := .lst (cutV xs lo hi)) (fun b ob q => Heap.get?_push_of_some _ q) (Nat.le_refl _) ?_, rfl, q _ (I.hok.fresh (Nat.le_refl _))⟩
  exact ⟨Nat.le_trans (cutV_length xs lo hi) hz, _, 0, (r.drop (HT.sIx xs.length 0 lo)).take (HT.sIx xs.length xs.length hi - HT.sIx xs.length 0 lo), Heap.get?_push_size _ rfl⟩

/-! ### in, not in: flat items -/
def flatV : V → Bool
  | .non => true
  | .bl _ => true
  | .int _ => true
  | .str _ => true
  | _ => false
/-- == of flat values -/
def eqV : V → V → Bool
  | .non, .non => true
  | .bl a, .bl b => a == b
  | .bl a, .int b => (if a then 1 else 0) == b
  | .int a, .bl b => a == (if b then 1 else 0)
  | .int a, .int b => a == b
  | .str a, .str b => a == b
  | _, _ => false
theorem eqAt_V {A : Around} {s : Shared} {y x : V} {u v : Value} (ry : RelV y u) (rx : RelV x v) (fy : flatV y = true) (fx : flatV x = true) : SeqAt.EqAt A s u v (eqV y x) := by
  cases y with
  | non =>
    cases ry
    cases x with
    | non => cases rx; exact SeqAt.EqAt.same _
    | bl b => cases rx; exact SeqAt.EqAt.none_bool b
    | int b => obtain ⟨t, rfl⟩ := rx; exact SeqAt.EqAt.none_int b t
    | str b => obtain ⟨t, rfl⟩ := rx; exact SeqAt.EqAt.none_str b t
    | _ => exact absurd (show false = true from fx) Bool.false_ne_true
  | bl a =>
    cases ry
    cases x with
    | non => cases rx; exact SeqAt.EqAt.bool_none a
    | bl b => cases rx; exact SeqAt.EqAt.bool_bool a b
    | int b => obtain ⟨t, rfl⟩ := rx; exact SeqAt.EqAt.bool_int a b t
    | str b => obtain ⟨t, rfl⟩ := rx; exact SeqAt.EqAt.bool_str a b t
    | _ => exact absurd (show false = true from fx) Bool.false_ne_true
  | int a =>
    obtain ⟨t', rfl⟩ := ry
    cases x with
    | non => cases rx; exact SeqAt.EqAt.int_none a t'
    | bl b => cases rx; exact SeqAt.EqAt.int_bool a t' b
    | int b => obtain ⟨t, rfl⟩ := rx; exact SeqAt.EqAt.int_int a t' b t
    | str b => obtain ⟨t, rfl⟩ := rx; exact SeqAt.EqAt.int_str a t' b t
    | _ => exact absurd (show false = true from fx) Bool.false_ne_true
  | str a =>
    obtain ⟨t', rfl⟩ := ry
    cases x with
    | non => cases rx; exact SeqAt.EqAt.str_none a t'
    | bl b => cases rx; exact SeqAt.EqAt.str_bool a t' b
    | int b => obtain ⟨t, rfl⟩ := rx; exact SeqAt.EqAt.str_int a t' b t
    | str b => obtain ⟨t, rfl⟩ := rx; exact SeqAt.EqAt.str_str a t' b t
    | _ => exact absurd (show false = true from fx) Bool.false_ne_true
  | _ => exact absurd (show false = true from fy) Bool.false_ne_true
/-- the items' answers, read off the values (a value's own answer does not lean on its token) -/
def eqU (x : V) (u : Value) : Bool := match u with
  | .none => eqV .non x
  | .bool b => eqV (.bl b) x
  | .int i _ => eqV (.int i) x
  | .str z _ => eqV (.str z) x
  | _ => false
theorem eqU_of {x y : V} {u : Value} (r : RelV y u) (f : flatV y = true) : eqU x u = eqV y x := by
  cases y with
  | non => cases r; rfl
  | bl b => cases r; rfl
  | int i => obtain ⟨t, rfl⟩ := r; rfl
  | str z => obtain ⟨t, rfl⟩ := r; rfl
  | _ => exact absurd (show false = true from f) Bool.false_ne_true
theorem any_eqU {x : V} : ∀ {xs : List V} {us : List Value}, Vals xs us → xs.all flatV = true → us.any (eqU x) = xs.any fun y => eqV y x
  | _, _, .nil, _ => rfl
  | y :: xs, u :: us, .cons r t, f => by
    rw [List.all_cons, Bool.and_eq_true] at f
    rw [List.any_cons, List.any_cons, eqU_of r f.1, any_eqU t f.2]
theorem mem_eqAt {A : Around} {s : Shared} {x : V} {v : Value} (rx : RelV x v) (fx : flatV x = true) : ∀ {xs : List V} {us : List Value}, Vals xs us → xs.all flatV = true → ∀ u ∈ us, SeqAt.EqAt A s u v (eqU x u)
  | _, _, .nil, _ => fun u hu => by cases hu
  | y :: xs, u :: us, .cons r t, f => fun u' hu => by
    rw [List.all_cons, Bool.and_eq_true] at f
    rcases List.mem_cons.mp hu with rfl | hu
    · rw [eqU_of r f.1]; exact eqAt_V r rx f.1 fx
    · exact mem_eqAt rx fx t f.2 u' hu
def inV (x : V) (xs : List V) : Bool := xs.any fun y => eqV y x
/-- x in a list or tuple of flat items -/
def rIn (K : PySem.W.Frag) (neg : Bool) : R2 := fun x y H Q => ∃ p xs, y = .ref p ∧ (SqL K H p xs ∨ SqT K H p xs) ∧ flatV x = true ∧ xs.all flatV = true ∧ Q (.bl (if neg then !inV x xs else inV x xs)) H
theorem op_in_seq : OpR X (compareOp .In) (rIn X.K false) := by
  intro pins s σ H x y v u Q I rx ry h
  obtain ⟨p, xs, rfl, hq, fx, fs, q⟩ := h
  cases ry
  rcases hq with hq | hq
  · obtain ⟨its, r, pl, hz⟩ := I.list hq
    refine SeqAt.in_listAt (eqU x) pl.isList (fun w hw => mem_eqAt rx fx r fs w (by simpa using hw)) ⟨.bl _, H, I, rfl, ?_⟩
    rw [show its.toArray.any (eqU x) = its.any (eqU x) by simp, any_eqU r fs]
    exact q
  · obtain ⟨its, r, pl, hz⟩ := I.tuple hq
    refine SeqAt.in_tupleAt (eqU x) pl (fun w hw => mem_eqAt rx fx r fs w (by simpa using hw)) ⟨.bl _, H, I, rfl, ?_⟩
    rw [show its.toArray.any (eqU x) = its.any (eqU x) by simp, any_eqU r fs]
    exact q
theorem op_notIn_seq : OpR X (compareOp .NotIn) (rIn X.K true) := by
  intro pins s σ H x y v u Q I rx ry h
  obtain ⟨p, xs, rfl, hq, fx, fs, q⟩ := h
  cases ry
  rcases hq with hq | hq
  · obtain ⟨its, r, pl, hz⟩ := I.list hq
    refine SeqAt.notIn_listAt (eqU x) pl.isList (fun w hw => mem_eqAt rx fx r fs w (by simpa using hw)) ⟨.bl _, H, I, rfl, ?_⟩
    rw [show its.toArray.any (eqU x) = its.any (eqU x) by simp, any_eqU r fs]
    exact q
  · obtain ⟨its, r, pl, hz⟩ := I.tuple hq
    refine SeqAt.notIn_tupleAt (eqU x) pl (fun w hw => mem_eqAt rx fx r fs w (by simpa using hw)) ⟨.bl _, H, I, rfl, ?_⟩
    rw [show its.toArray.any (eqU x) = its.any (eqU x) by simp, any_eqU r fs]
    exact q
theorem op_notIn_str : OpR X (compareOp .NotIn) (fun x y H Q => ∃ i j, x = .str i ∧ y = .str j ∧ Q (.bl (!(!(Builtin.Str.occurrences j i 0 j.length 1).isEmpty))) H) := by
  intro pins s σ H x y v u Q I rx ry h
  obtain ⟨i, j, rfl, rfl, q⟩ := h
  obtain ⟨t, rfl⟩ := rx
  obtain ⟨t', rfl⟩ := ry
  exact notIn_str ⟨.bl _, H, I, rfl, q⟩

/-! ### len, list(x), tuple(x) of any list or tuple that is read -/
theorem call_len_seq : CallR X (.builtin "len") (fun xs H Q => ∃ p ys, xs = [.ref p] ∧ (SqL X.K H p ys ∨ SqT X.K H p ys) ∧ Q (.int ys.length) H) := by
  intro pins s σ H xs us Q I r h
  obtain ⟨p, ys, rfl, hq, q⟩ := h
  obtain ⟨u, rfl, rx⟩ := vals1 r
  cases rx
  have hn := line63
  rcases hq with hq | hq
  · obtain ⟨its, r', pl, hz⟩ := I.list hq
    have hlen := r'.length
    exact Calls.call_len_list pl.isList (by simp only [List.size_toArray] <;> omega) ⟨.int ys.length, H, I.tok _, ⟨s.toks + 1, by rw [List.size_toArray, hlen]⟩, q⟩
  · obtain ⟨its, r', pl, hz⟩ := I.tuple hq
    have hlen := r'.length
    exact len_tuple pl (by simp only [List.size_toArray] <;> omega) ⟨.int ys.length, H, I.tok _, ⟨s.toks + 1, by rw [List.size_toArray, hlen]⟩, q⟩
theorem call_len_str : CallR X (.builtin "len") (fun xs H Q => ∃ z, xs = [.str z] ∧ z.length ≤ sizeLine ∧ Q (.int z.length) H) := by
  intro pins s σ H xs us Q I r h
  obtain ⟨z, rfl, hz, q⟩ := h
  obtain ⟨u, rfl, t, rfl⟩ := vals1 r
  have hn := line63
  exact len_str (by omega) ⟨.int z.length, H, I.tok _, ⟨_, rfl⟩, q⟩
theorem CallR.or {f : Value} {r r' : List V → Hp → VK → Prop} (h : CallR X f r) (h' : CallR X f r') : CallR X f (fun xs H Q => r xs H Q ∨ r' xs H Q) := by
  intro pins s σ H xs us Q I rs q
  rcases q with q | q
  · exact h pins s σ H xs us Q I rs q
  · exact h' pins s σ H xs us Q I rs q
theorem call_list_of : CallR X (.type "list") (fun xs H Q => ∃ p ys, xs = [.ref p] ∧ (SqL X.K H p ys ∨ SqT X.K H p ys) ∧ ∀ l, H l = none → Q (.ref l) (upd H l (.lst ys))) := by
  intro pins s σ H xs us Q I r h
  obtain ⟨p, ys, rfl, hq, q⟩ := h
  obtain ⟨u, rfl, rx⟩ := vals1 r
  cases rx
  have fin : ∀ (its : List Value), Vals ys its → ys.length ≤ sizeLine → ∀ (h' : Heap) (c' : Nat), (∀ b o', s.heap.get? b = some o' → h'.get? b = some o') →
      h'.get? s.heap.objs.size = some { cls := .type "list", dict := none, data := .seq its.toArray c', slots := #[] } → EP X pins σ Q (.ref s.heap.objs.size) { s with heap := h' } := fun its r' hz h' c' kp e =>
    ⟨.ref s.heap.objs.size, _, I.laid (t' := s.toks) kp (Nat.le_refl _) (show ObjOk X.prog X.w _ h' _ (.lst ys) from ⟨hz, its, c', r', e⟩), rfl, q _ (I.hok.fresh (Nat.le_refl _))⟩
  rcases hq with hq | hq
  · obtain ⟨its, r', pl, hz⟩ := I.list hq
    have hlen := r'.length
    obtain ⟨o, ho, hc, n, hd⟩ := pl.isList
    exact call_list_seq p (.inl rfl) ho hc hd (fun h' c' kp e => fin its r' hz h' c' kp e) (by simp only [List.size_toArray] <;> omega)
  · obtain ⟨its, r', pl, hz⟩ := I.tuple hq
    have hlen := r'.length
    obtain ⟨o, ho, hc, n, hd⟩ := pl
    exact call_list_seq p (.inr rfl) ho hc hd (fun h' c' kp e => fin its r' hz h' c' kp e) (by simp only [List.size_toArray] <;> omega)
theorem call_tuple_of : CallR X (.type "tuple") (fun xs H Q => ∃ p ys, xs = [.ref p] ∧ ((SqL X.K H p ys ∧ ∀ l, H l = none → Q (.ref l) (upd H l (.tup ys))) ∨ (SqT X.K H p ys ∧ Q (.ref p) H))) := by
  intro pins s σ H xs us Q I r h
  obtain ⟨p, ys, rfl, h⟩ := h
  obtain ⟨u, rfl, rx⟩ := vals1 r
  cases rx
  rcases h with ⟨hq, q⟩ | ⟨hq, q⟩
  · obtain ⟨its, r', pl, hz⟩ := I.list hq
    have hlen := r'.length
    refine call_tuple_list pl.isList (fun h' kp => ?_) (by simp only [List.size_toArray] <;> omega)
    have I1 : Inv X pins σ H { s with heap := h' } := I.kept (t' := s.toks) kp
    have I2 : Inv X pins σ (upd H h'.objs.size (.tup ys)) { s with heap := h'.push { cls := .type "tuple", data := .seq its.toArray } } :=
      I1.laid (t' := s.toks) (fun b o e => Heap.get?_push_of_some _ e) (Nat.le_refl _) (show ObjOk X.prog X.w _ _ _ (.tup ys) from ⟨hz, its, r', IsTup.new _ _⟩)
    exact ⟨.ref h'.objs.size, _, I2, rfl, q _ (I1.hok.fresh (Nat.le_refl _))⟩
  · obtain ⟨its, r', pl, hz⟩ := I.tuple hq
    exact call_tuple_same pl ⟨.ref p, H, I, rfl, q⟩

/-! ### the call of a builtin's method: o.m(..) -/
/-- the value is of that builtin type -/
def tyV (K : PySem.W.Frag) (T : String) (x : V) (H : Hp) : Prop := match x with
  | .str _ => T = "str"
  | .int _ => T = "int"
  | .ref p => (T = "list" ∧ ∃ xs, SqL K H p xs) ∨ (T = "tuple" ∧ ∃ o, K.lookup p = some o ∧ o.cls = .type "tuple" ∧ o.dict = none) ∨
      (T = "dict" ∧ ((∃ kvs, H p = some (.dK kvs)) ∨ ∃ kvs, H p = some (.dT kvs))) ∨ (T = "set" ∧ ∃ S n, H p = some (.set S n))
  | _ => False
theorem tyV_is {pins : List (Addr × Obj)} {σ : St} {H : Hp} {s : Shared} {T : String} {x : V} {v : Value} (I : Inv X pins σ H s) (r : RelV x v) (ty : tyV X.K T x H) :
    s.TypeIs v T ∧ ∀ a, v = .ref a → ∃ ob, s.heap.get? a = some ob ∧ ob.dict = none := by
  cases x with
  | str z =>
    obtain ⟨t, rfl⟩ := r
    cases (show T = "str" from ty)
    exact ⟨typeIs_str s z t, fun _ e => nomatch e⟩
  | int i =>
    obtain ⟨t, rfl⟩ := r
    cases (show T = "int" from ty)
    exact ⟨typeIs_int s i t, fun _ e => nomatch e⟩
  | ref p =>
    cases r
    rcases ty with ⟨rfl, xs, hq⟩ | ⟨rfl, o, hk, hc, hd⟩ | ⟨rfl, hk⟩ | ⟨rfl, S, n, hk⟩
    · obtain ⟨its, _, pl, _⟩ := I.list hq
      refine ⟨pl.isList.typeIs, fun a e => ?_⟩
      cases e
      obtain ⟨o, n, e, c, hd, _⟩ := pl
      exact ⟨o, e, hd⟩
    · refine ⟨⟨o, I.kIn p o hk, hc⟩, fun a e => ?_⟩
      cases e
      exact ⟨o, I.kIn _ o hk, hd⟩
    · have z : ∃ o, s.heap.get? p = some o ∧ o.ExactDict := by
        rcases hk with ⟨kvs, hk⟩ | ⟨kvs, hk⟩
        · obtain ⟨_, _, _, _, o, _, _, e, ex, _⟩ := I.hok p _ hk
          exact ⟨o, e, ex⟩
        · obtain ⟨_, _, _, _, o, _, _, e, ex, _⟩ := I.hok p _ hk
          exact ⟨o, e, ex⟩
      obtain ⟨o, e, ex⟩ := z
      refine ⟨⟨o, e, ex.1⟩, fun a e2 => ?_⟩
      cases e2
      exact ⟨o, e, ex.2.1⟩
    · obtain ⟨o, _, _, _, e, ex, _⟩ := I.hok p _ hk
      refine ⟨⟨o, e, ex.1⟩, fun a e2 => ?_⟩
      cases e2
      exact ⟨o, e, ex.2.1⟩
  | _ => exact False.elim ty
def tBM0 (K : PySem.W.Frag) (T : String) (r : V → List V → Hp → VK → Prop) (to : TE) : TE := fun σ H Q => to σ H fun x H1 => tyV K T x H1 ∧ r x [] H1 Q
def tBM (K : PySem.W.Frag) (T : String) (r : V → List V → Hp → VK → Prop) (to : TE) (t : TA) : TE := fun σ H Q => to σ H fun x H1 => tyV K T x H1 ∧ t σ H1 fun xs H2 => r x xs H2 Q
variable {o e : Expr} {es : List Expr} {to : TE} {t : TA} {name : Str} {apos cpos : Pos} {T id : String} {r : V → List V → Hp → VK → Prop}
theorem pe_bm0 (pa : PlainAttrs T) (slot : Slot T name id) (hty : typeOf (.builtin id) = pure (.type "method_descriptor")) (hm : MtR X id r) (ho : PE X o to)
    (hbase : attributeBase o name X.env (eval o X.env) = eval o X.env := by rfl) (hline : (apos.endLine == cpos.line) = true := by rfl) : PE X (.Call (.Attribute o name apos) [] [] cpos) (tBM0 X.K T r to) := by
  intro pins s σ H Q I h
  refine wpAny_Call_method0_late hbase hline (thn (ho pins s σ H _ I h) fun v s1 ⟨x, H1, I1, r1, ty, q1⟩ => ?_)
  obtain ⟨h1, h2⟩ := tyV_is I1 r1 ty
  exact ⟨T, id, pa, slot, hty, h1, h2, Calls.callWith_builtin rfl (PySem.evalArgs_none (hm pins s1 σ H1 x [] v [] Q I1 r1 .nil q1))⟩
theorem pe_bm (pa : PlainAttrs T) (slot : Slot T name id) (hty : typeOf (.builtin id) = pure (.type "method_descriptor")) (hm : MtR X id r) (ho : PE X o to) (ha : PA X (e :: es) t)
    (hbase : attributeBase o name X.env (eval o X.env) = eval o X.env := by rfl)
    (hfew : ((backTo cpos (starEach (e :: es) X.env)).all (fun x => !x.1) && (backToKw cpos (keywordEach [] X.env)).all (fun x => x.1.isSome)
      && decide ((e :: es).length + ([] : List Keyword).length + (if ([] : List Keyword).isEmpty then 0 else 1) < 30)) = true := by rfl)
    (hline : (apos.endLine == cpos.line) = true := by rfl) (hs : starEach (e :: es) X.env = (false, eval e X.env) :: starEach es X.env := by rfl) (hplain : (backTo cpos (starEach es X.env)).any (·.1) = false := by rfl) :
    PE X (.Call (.Attribute o name apos) (e :: es) [] cpos) (tBM X.K T r to t) := by
  intro pins s σ H Q I h
  refine wpAny_Call_method_late hbase hfew hline rfl (thn (ho pins s σ H _ I h) fun v s1 ⟨x, H1, I1, r1, ty, q1⟩ => ?_)
  obtain ⟨h1, h2⟩ := tyV_is I1 r1 ty
  refine ⟨T, id, pa, slot, hty, h1, h2, ?_⟩
  have hA := ha cpos pins s1 σ H1 _ I1 q1
  rw [hs] at hA ⊢
  refine Calls.callWith_builtin (by show (false || (backTo cpos (starEach es X.env)).any (·.1)) = false; rw [hplain] <;> rfl) (Calls.evalArgs_plain ?_)
  exact thn hA fun us s2 ⟨vs, H2, I2, r2, q2⟩ => hm pins s2 σ H2 x vs v us Q I2 r1 r2 q2
/- xs.append(e), list.index on a module's tuple .. are MtR facts of 06m -/
end
end L2

namespace L2
open PySem PySem.Spec PyProof.Rows

def MtM (X : Cx) (id : String) (r : V → List V → Hp → VK → Prop) : Prop :=
  ∀ (pins : List (Addr × Obj)) (s : Shared) (σ : St) (H : Hp) (x : V) (xs : List V) (v : Value) (us : List Value) (Q : VK), Inv X pins σ H s → RelV x v → Vals xs us → r x xs H Q →
    wpAny (model X.prog X.w) X.A (call (.builtin id) (v :: us)) (EP X pins σ Q) X.xe s

/-! ### lists of values -/
theorem Vals.one : ∀ {x : V} {us : List Value}, Vals [x] us → ∃ u, us = [u] ∧ RelV x u
  | _, _, .cons r .nil => ⟨_, rfl, r⟩
theorem Vals.two : ∀ {x y : V} {us : List Value}, Vals [x, y] us → ∃ u v, us = [u, v] ∧ RelV x u ∧ RelV y v
  | _, _, _, .cons r (.cons q .nil) => ⟨_, _, rfl, r, q⟩
theorem Vals.zero : ∀ {us : List Value}, Vals [] us → us = []
  | _, .nil => rfl
theorem Vals.dropLast {xs : List V} {us : List Value} (h : Vals xs us) : Vals xs.dropLast us.dropLast := by
  induction h with
  | nil => exact .nil
  | cons r t ih =>
    cases t with
    | nil => exact .nil
    | cons q t' => exact .cons r ih
theorem Vals.eraseIdx : ∀ {xs : List V} {us : List Value} (i : Nat), Vals xs us → Vals (xs.eraseIdx i) (us.eraseIdx i)
  | _, _, _, .nil => .nil
  | _, _, 0, .cons _ t => t
  | _, _, i + 1, .cons r t => .cons r (Vals.eraseIdx i t)
theorem Vals.reverse {xs : List V} {us : List Value} (h : Vals xs us) : Vals xs.reverse us.reverse := by
  induction h with
  | nil => exact .nil
  | cons r t ih => rw [List.reverse_cons, List.reverse_cons]; exact Vals.append ih (.cons r .nil)
theorem Vals.rep {xs : List V} {us : List Value} (h : Vals xs us) : ∀ k : Nat, Vals (List.replicate k xs).flatten (List.replicate k us).flatten
  | 0 => .nil
  | k + 1 => by
    rw [List.replicate_succ, List.replicate_succ, List.flatten_cons, List.flatten_cons]
    exact Vals.append h (Vals.rep h k)
theorem erase_last {α : Type} (l : List α) : l.eraseIdx (l.length - 1) = l.dropLast := by
  induction l with
  | nil => rfl
  | cons a r ih =>
    cases r with
    | nil => rfl
    | cons b r =>
      have e : (a :: b :: r).length - 1 = ((b :: r).length - 1) + 1 := by
        have h1 : (a :: b :: r).length = r.length + 2 := rfl
        have h2 : (b :: r).length = r.length + 1 := rfl
        omega
      rw [e, List.eraseIdx_cons_succ, ih]
      all_goals rfl
theorem len_erase {α : Type} : ∀ (l : List α) (i : Nat), (l.eraseIdx i).length ≤ l.length
  | [], _ => Nat.le_refl _
  | _ :: _, 0 => Nat.le_succ _
  | _ :: r, i + 1 => Nat.succ_le_succ (len_erase r i)
theorem foldl_rep (its : List Value) : ∀ (k : Nat) (acc : List Value),
    List.foldl (fun x1 x2 => x1 ++ x2) acc.toArray (List.replicate k its.toArray) = (acc ++ (List.replicate k its).flatten).toArray
  | 0, acc => by simp
  | k + 1, acc => by
    have e : acc.toArray ++ its.toArray = (acc ++ its).toArray := by simp
    have e2 : (acc ++ its) ++ (List.replicate k its).flatten = acc ++ (List.replicate (k + 1) its).flatten := by
      rw [List.replicate_succ, List.flatten_cons, List.append_assoc]
    rw [← e2, ← foldl_rep its k (acc ++ its), ← e, List.replicate_succ, List.foldl_cons]

section
variable {X : Cx} {pins : List (Addr × Obj)} {σ : St} {H : Hp} {s : Shared} {l b : Addr} {xs ys zs : List V}

/-! ### the two steps: a tracked list is rewritten, a new list is laid -/
theorem Inv.lset {its its' : List Value} {n : Nat} {f : Array Value → Array Value} {t' : Nat} (I : Inv X pins σ H s) (hH : H l = some (.lst xs))
    (e : s.heap.get? l = some { cls := .type "list", data := .seq its.toArray n }) (hf : f its.toArray = its'.toArray) (hv : Vals ys its') (hz : ys.length ≤ sizeLine) :
    Inv X pins σ (upd H l (.lst ys)) { s with heap := s.heap.update l (Obj.mapSeq f), toks := t' } := by
  have q := PySem.IsL.update e f
  rw [hf] at q
  refine I.write (x := l) (e := l) (by rw [hH]; exact trivial) (.inl rfl) (fun b' u hb hu => (Heap.get?_update_other s.heap (Obj.mapSeq f) (Ne.symm hb)).trans hu) ⟨_, q⟩ ?_
  exact ⟨hz, its', _, hv, q⟩
theorem Inv.lnew {its : List Value} {t' : Nat} (I : Inv X pins σ H s) (hv : Vals ys its) (hz : ys.length ≤ sizeLine) :
    Inv X pins σ (upd H s.heap.objs.size (.lst ys)) { s with heap := s.heap.push { cls := .type "list", data := .seq its.toArray }, toks := t' } :=
  I.laid (fun _ _ q => Heap.get?_push_of_some _ q) (Nat.le_refl _) ⟨hz, its, 0, hv, Heap.get?_push_size _ rfl⟩
theorem Inv.fresh (I : Inv X pins σ H s) : H s.heap.objs.size = none := I.hok.fresh (Nat.le_refl _)
theorem Inv.lstM (I : Inv X pins σ H s) (hH : H l = some (.lst xs)) : xs.length ≤ sizeLine ∧ ∃ (its : List Value) (n : Nat), Vals xs its ∧ xs.length = its.length ∧ s.heap.get? l = some { cls := .type "list", data := .seq its.toArray n } := by
  obtain ⟨z, its, n, r, e⟩ := I.hok l _ hH
  exact ⟨z, its, n, r, r.length, e⟩

theorem notLongL {n : Nat} (h : n ≤ sizeLine) : Builtin.List.listTooLong n = false := by
  unfold Builtin.List.listTooLong
  exact decide_eq_false (by omega)
end

section
variable {X : Cx}

/-! ### methods -/
def rAppend : V → List V → Hp → VK → Prop := fun x vs H Q => ∃ l xs y, x = .ref l ∧ vs = [y] ∧ H l = some (.lst xs) ∧ xs.length < sizeLine ∧ Q .non (upd H l (.lst (xs ++ [y])))
theorem mt_append : MtM X "list.append" rAppend := by
  intro pins s σ H x vs v us Q I rx rv h
  obtain ⟨l, xs, y, rfl, rfl, hH, hz, q⟩ := h
  cases rx
  obtain ⟨u, rfl, ru⟩ := rv.one
  obtain ⟨z, its, n, r, hl, e⟩ := I.lstM hH
  refine call_meets F.slot_list_append ⟨_, e, rfl⟩ F.entry_list_append (F.args_list_append_2 _ _) (PySem.list_append l its.toArray n u (by rw [List.size_toArray]; omega)) ⟨e, ?_⟩
  refine ⟨.non, _, I.lset (its' := its ++ [u]) hH e (by simp) (r.append (.cons ru .nil)) ?_, rfl, q⟩
  rw [List.length_append, List.length_singleton]
  omega

def rExtend : V → List V → Hp → VK → Prop := fun x vs H Q => ∃ l b xs zs, x = .ref l ∧ vs = [.ref b] ∧ H l = some (.lst xs) ∧ H b = some (.lst zs) ∧ xs.length + zs.length ≤ sizeLine ∧ Q .non (upd H l (.lst (xs ++ zs)))
theorem mt_extend : MtM X "list.extend" rExtend := by
  intro pins s σ H x vs v us Q I rx rv h
  obtain ⟨l, b, xs, zs, rfl, rfl, hH, hB, hz, q⟩ := h
  cases rx
  obtain ⟨u, rfl, ru⟩ := rv.one
  cases ru
  obtain ⟨z, its, n, r, hl, e⟩ := I.lstM hH
  obtain ⟨z2, its2, n2, r2, hl2, e2⟩ := I.lstM hB
  have hsz : its.toArray.size + its2.toArray.size ≤ sizeLine := by rw [List.size_toArray, List.size_toArray]; omega
  have hlong : ¬ (!its.toArray.isEmpty && Builtin.List.listTooLong (its.toArray.size + its2.toArray.size)) = true := by
    rw [notLongL hsz, Bool.and_false]
    exact Bool.false_ne_true
  refine call_meets F.slot_list_extend ⟨_, e, rfl⟩ F.entry_list_extend (F.args_list_extend_2 _ _)
    (AutoSeq1.list_extend_list_list_0 l its.toArray n b its2.toArray n2 hlong (by rw [List.size_toArray]; omega) (by omega)) ⟨e, e2, ?_⟩
  refine ⟨.non, _, I.lset (its' := its ++ its2) hH e (by simp) (r.append r2) ?_, rfl, q⟩
  rw [List.length_append]
  omega

def rPop : V → List V → Hp → VK → Prop := fun x vs H Q => ∃ l xs y, x = .ref l ∧ vs = [] ∧ H l = some (.lst xs) ∧ xs[xs.length - 1]? = some y ∧ Q y (upd H l (.lst xs.dropLast))
theorem mt_pop : MtM X "list.pop" rPop := by
  intro pins s σ H x vs v us Q I rx rv h
  obtain ⟨l, xs, y, rfl, rfl, hH, hy, q⟩ := h
  cases rx
  have hus := rv.zero
  subst hus
  obtain ⟨z, its, n, r, hl, e⟩ := I.lstM hH
  obtain ⟨u, hu, ru⟩ := r.get hy
  have hy' : its.toArray[its.toArray.size - 1]? = some u := by
    show its.toArray[its.length - 1]? = some u
    rw [← Array.getElem?_toList, ← hl]
    exact hu
  refine call_meets F.slot_list_pop ⟨_, e, rfl⟩ F.entry_list_pop (F.args_list_pop_1 _) (MeetsSeq.list_pop_last l its.toArray n u hy' (by rw [List.size_toArray]; omega)) ⟨e, ?_⟩
  refine ⟨y, _, I.lset (its' := its.dropLast) hH e ?_ r.dropLast ?_, ru, q⟩
  · show its.toArray.eraseIdxIfInBounds (its.toArray.size - 1) = its.dropLast.toArray
    rw [List.size_toArray, List.eraseIdxIfInBounds_toArray, erase_last]
  · rw [List.length_dropLast]
    omega

def rPopAt : V → List V → Hp → VK → Prop := fun x vs H Q => ∃ l xs i k y, x = .ref l ∧ vs = [.int i] ∧ H l = some (.lst xs) ∧ -(2 ^ 63) ≤ i ∧ i < 2 ^ 63 ∧ seqIndex? i xs.length = some k ∧ xs[k]? = some y ∧ Q y (upd H l (.lst (xs.eraseIdx k)))
theorem mt_popAt : MtM X "list.pop" rPopAt := by
  intro pins s σ H x vs v us Q I rx rv h
  obtain ⟨l, xs, i, k, y, rfl, rfl, hH, h1, h2, hk, hy, q⟩ := h
  cases rx
  obtain ⟨u, rfl, ru⟩ := rv.one
  obtain ⟨t, rfl⟩ := ru
  obtain ⟨z, its, n, r, hl, e⟩ := I.lstM hH
  obtain ⟨w, hw, rw'⟩ := r.get hy
  refine call_meets F.slot_list_pop ⟨_, e, rfl⟩ F.entry_list_pop (F.args_list_pop_2 _ _)
    (MeetsSeq.list_pop_at l its.toArray n i t k w (fitsIndex_both h1 h2) (by rw [List.size_toArray, ← hl]; exact hk) (by rw [← Array.getElem?_toList]; exact hw) (by rw [List.size_toArray]; omega)) ⟨e, ?_⟩
  refine ⟨y, _, I.lset (its' := its.eraseIdx k) hH e ?_ (r.eraseIdx k) ?_, rw', q⟩
  · show its.toArray.eraseIdxIfInBounds k = (its.eraseIdx k).toArray
    rw [List.eraseIdxIfInBounds_toArray]
  · have := len_erase xs k
    omega

def rReverse : V → List V → Hp → VK → Prop := fun x vs H Q => ∃ l xs, x = .ref l ∧ vs = [] ∧ H l = some (.lst xs) ∧ Q .non (upd H l (.lst xs.reverse))
theorem mt_reverse : MtM X "list.reverse" rReverse := by
  intro pins s σ H x vs v us Q I rx rv h
  obtain ⟨l, xs, rfl, rfl, hH, q⟩ := h
  cases rx
  have hus := rv.zero
  subst hus
  obtain ⟨z, its, n, r, hl, e⟩ := I.lstM hH
  refine call_meets F.slot_list_reverse ⟨_, e, rfl⟩ F.entry_list_reverse (F.args_list_reverse_1 _) (AutoSeq1.list_reverse_list_0 l its.toArray n (by rw [List.size_toArray]; omega)) ⟨e, ?_⟩
  refine ⟨.non, _, I.lset (its' := its.reverse) hH e (by simp) r.reverse ?_, rfl, q⟩
  rw [List.length_reverse]
  omega

def rClear : V → List V → Hp → VK → Prop := fun x vs H Q => ∃ l xs, x = .ref l ∧ vs = [] ∧ H l = some (.lst xs) ∧ Q .non (upd H l (.lst []))
theorem mt_clear : MtM X "list.clear" rClear := by
  intro pins s σ H x vs v us Q I rx rv h
  obtain ⟨l, xs, rfl, rfl, hH, q⟩ := h
  cases rx
  have hus := rv.zero
  subst hus
  obtain ⟨z, its, n, r, hl, e⟩ := I.lstM hH
  refine call_meets F.slot_list_clear ⟨_, e, rfl⟩ F.entry_list_clear (F.args_list_clear_1 _) (AutoSeq1.list_clear_list_0 l its.toArray n (by rw [List.size_toArray]; omega)) ⟨e, ?_⟩
  exact ⟨.non, _, I.lset (its' := []) (ys := []) hH e rfl .nil (Nat.zero_le _), rfl, q⟩

/-! ### list + list, list += list, list * int -/
def rCat : R2 := fun x y H Q => ∃ l b xs zs, x = .ref l ∧ y = .ref b ∧ H l = some (.lst xs) ∧ H b = some (.lst zs) ∧ xs.length + zs.length ≤ sizeLine ∧ ∀ p, H p = none → Q (.ref p) (upd H p (.lst (xs ++ zs)))
theorem op_cat : OpR X (binaryOp .Add) rCat := by
  intro pins s σ H x y v u Q I rx ry h
  obtain ⟨l, b, xs, zs, rfl, rfl, hH, hB, hz, q⟩ := h
  cases rx
  cases ry
  obtain ⟨z, its, n, r, hl, e⟩ := I.lstM hH
  obtain ⟨z2, its2, n2, r2, hl2, e2⟩ := I.lstM hB
  refine PySem.P.add_list e e2 ?_ (by rw [List.size_toArray, List.size_toArray]; omega)
  have ea : its.toArray ++ its2.toArray = (its ++ its2).toArray := by simp
  rw [ea]
  exact ⟨.ref _, _, I.lnew (t' := s.toks) (r.append r2) (by rw [List.length_append]; omega), rfl, q _ I.fresh⟩
/-- a list times an int (a negative one is nothing) -/
def rRep : R2 := fun x y H Q => ∃ l k xs, x = .ref l ∧ y = .int k ∧ H l = some (.lst xs) ∧ -(2 ^ 63) ≤ k ∧ k < 2 ^ 63 ∧ xs.length * k.toNat ≤ sizeLine ∧
  ∀ p, H p = none → Q (.ref p) (upd H p (.lst (List.replicate k.toNat xs).flatten))
theorem len_rep {α : Type} (xs : List α) (k : Nat) : (List.replicate k xs).flatten.length = k * xs.length := by
  induction k with
  | zero => simp
  | succ k ih => rw [List.replicate_succ, List.flatten_cons, List.length_append, ih, Nat.succ_mul, Nat.add_comm]
theorem op_rep : OpR X (binaryOp .Mult) rRep := by
  intro pins s σ H x y v u Q I rx ry h
  obtain ⟨l, k, xs, rfl, rfl, hH, h1, h2, hz, q⟩ := h
  cases rx
  obtain ⟨t, rfl⟩ := ry
  obtain ⟨z, its, n, r, hl, e⟩ := I.lstM hH
  have hlen : its.toArray.size * k.toNat ≤ sizeLine := by rw [List.size_toArray, ← hl]; exact hz
  have hcap : ¬ its.toArray.size * k.toNat > (2 ^ 63 - 1) / 8 := by
    have : (sizeLine : Nat) ≤ (2 ^ 63 - 1) / 8 := by decide
    omega
  have hfit : ¬ (!Builtin.List.listFitsIndex k) = true := by
    rw [fitsIndex_both h1 h2]
    exact Bool.false_ne_true
  have hlong : ¬ Builtin.List.listTooLong (its.toArray.size * k.toNat) = true := by
    rw [notLongL hlen]
    exact Bool.false_ne_true
  have hnew : List.foldl (fun x1 x2 => x1 ++ x2) #[] (List.replicate (if its.toArray.isEmpty = true then 0 else k.toNat) its.toArray) = (List.replicate k.toNat its).flatten.toArray := by
    have f0 : ∀ m : Nat, List.foldl (fun x1 x2 => x1 ++ x2) #[] (List.replicate m its.toArray) = (List.replicate m its).flatten.toArray := fun m => by
      have := foldl_rep its m []
      rw [List.nil_append] at this
      exact this
    rw [f0]
    cases its with
    | nil => simp
    | cons a r' => rw [if_neg (by simp)]
  refine wpAny_binaryOp_repeat_ref (T := "list") (U := "int") (by decide) ⟨_, e, rfl⟩ (fun s' => typeIs_int s' k t) noFill_list_mul F.fills_int_mul F.slot_int_rmul repeat_list F.slot_int_index.lookup
    (call_meets F.slot_int_rmul (typeIs_int s k t) F.entry_int_rmul (F.args_int_rmul_2 _ _) (int___rmul___int_list k t l its.toArray n)
      ⟨e, rfl, ⟨_, e, rfl⟩, call_meets F.slot_list_mul ⟨_, e, rfl⟩ F.entry_list_mul (F.args_list_mul_2 _ _) (AutoListH.list___mul___list_int_3 l its.toArray n k t hfit hcap hlong) ⟨e, ?_⟩⟩)
  rw [hnew]
  exact ⟨.ref _, _, I.lnew (t' := s.toks) (r.rep k.toNat) (by rw [len_rep, Nat.mul_comm]; exact hz), rfl, q _ I.fresh⟩

/-! ### del xs[i] -/
theorem del_list {pins : List (Addr × Obj)} {s : Shared} {σ : St} {H : Hp} {l : Addr} {xs : List V} {i : Int} {t : Tok} {k : Nat} {Q : Unit → Shared → Prop} (I : Inv X pins σ H s) (hH : H l = some (.lst xs))
    (h1 : -(2 ^ 63) ≤ i) (h2 : i < 2 ^ 63) (hk : seqIndex? i xs.length = some k) (h : ∀ s', Inv X pins σ (upd H l (.lst (xs.eraseIdx k))) s' → Q () s') :
    wpAny (model X.prog X.w) X.A (delItem (.ref l) (.int i t)) Q X.xe s := by
  obtain ⟨z, its, n, r, hl, e⟩ := I.lstM hH
  refine PySem.P.delItem_list (k := k) e (fitsIndex_both h1 h2) (by rw [List.size_toArray, ← hl]; exact hk) (h _ ?_) (by rw [List.size_toArray]; omega)
  refine I.lset (its' := its.eraseIdx k) (t' := s.toks) hH e ?_ (r.eraseIdx k) ?_
  · show its.toArray.eraseIdxIfInBounds k = (its.eraseIdx k).toArray
    rw [List.eraseIdxIfInBounds_toArray]
  · have := len_erase xs k
    omega
end

/-! ### xs[a:b] = ys -/
section
variable {prog : Program} {w : World} {A : Around} {E : Value → Shared → Prop} {s : Shared}
theorem splice_eq (its its2 : List Value) (a c : Nat) : its.toArray.extract 0 a ++ its2.toArray ++ its.toArray.extract c its.toArray.size = (its.take a ++ its2 ++ its.drop c).toArray := by
  apply Array.toList_inj.mp
  first
    | (simp
       exact List.take_of_length_le (by simp))
    | simp [List.take_of_length_le]
    | simp
theorem bounds_run {a c n : Nat} (hac : a ≤ c) (hc : c ≤ n) : sliceBounds (some (a : Int)) (some (c : Int)) none n = ((a : Int), (c : Int), 1) := by
  simp only [sliceBounds, Option.getD_none]
  have h1 : ¬ ((a : Int) < 0) := by omega
  have h2 : ¬ ((c : Int) < 0) := by omega
  simp only [h1, h2, if_false, show (1 : Int) > 0 by decide, if_true]
  congr 1
  · omega
  · congr 1; omega
set_option maxRecDepth 100000 in
/-- list.__setitem__ with a slice of step one and another list -/
theorem setItem_slice {l b sl : Addr} {items new : Array Value} {n n2 : Nat} {vl vu : Value} {a c : Nat} {Q : Unit → Shared → Prop}
    (e : s.heap.get? l = some { cls := .type "list", data := .seq items n }) (e2 : s.heap.get? b = some { cls := .type "list", data := .seq new n2 }) (hne : l ≠ b)
    (hs : s.heap.IsSliceOf sl vl vu .none) (pl : IsPart vl (some (a : Int))) (pu : IsPart vu (some (c : Int))) (hac : a ≤ c) (hc : c ≤ items.size)
    (hsz : items.size + new.size ≤ sizeLine) (h : Q () { s with heap := s.heap.update l (Obj.mapSeq fun xs => xs.extract 0 a ++ new ++ xs.extract c xs.size) }) :
    wpAny (model prog w) A (setItem (.ref l) (.ref sl) (.ref b)) Q E s := by
  have hl : s.heap.IsList l items := PySem.IsL.isList e
  have hb : s.heap.IsList b new := PySem.IsL.isList e2
  obtain ⟨os, hos, hcs, hds⟩ := id hs
  have hTs : s.TypeIs (.ref sl) "slice" := ⟨os, hos, hcs⟩
  have hstep : ¬ ((rawPart none == rawInt 0) = true) := Bool.false_ne_true
  have hsame : Builtin.List.listSameRef (.ref l) (.ref b) = false := by
    unfold Builtin.List.listSameRef
    exact beq_eq_false_iff_ne.mpr hne
  have hmax : (max (a : Int) (c : Int)).toNat = c := by omega
  have hz' : ((fun xs : Array Value => xs.extract 0 a ++ new ++ xs.extract c xs.size) items).size ≤ sizeLine + 1 := by
    simp only [Array.size_append, Array.size_extract]
    omega
  unfold setItem
  try with_reducible refine wpAny_holding ?_
  first | refine wpAny_bind (wpAny_pure ?_) | skip
  refine wpAny_bind (wpAny_sequenceKey hl.typeIs (by decide) ?_)
  refine wpAny_bind (wpAny_callSpecial?_slot (name := Str.ofString "__setitem__") hl.typeIs slot_list_setitem
    (wpAny_call_entry slot_list_setitem hl.typeIs entry_list_setitem ?_ (args_list_setitem _ _ _)))
  show wpAny _ _ (Builtin.List.listSubscript? (.ref sl) >>= _) _ _ s
  refine wpAny_bind ?_
  unfold Builtin.List.listSubscript?
  refine wpAny_bind (wpAny_specialOf hTs slice_no_index ?_)
  simp only [Option.isNone_none, if_true]
  refine wpAny_pure ?_
  show wpAny _ _ (typeOf (.ref sl) >>= _) _ _ s
  refine wpAny_bind (wpAny_typeOf hTs ?_)
  first
    | rw [if_neg (by decide)]
    | refine PySem.W.KFB.if_not (by decide) ?_
  rw [listSliceParts_eq]
  refine wpAny_bind (wpAny_bind (wpAny_field hos hds (x := .none) rfl (wpAny_bind (wpAny_listPart .none ?_))))
  rw [if_neg hstep]
  refine wpAny_bind (wpAny_field hos hds (x := vl) rfl (wpAny_bind (wpAny_listPart pl ?_)))
  refine wpAny_bind (wpAny_field hos hds (x := vu) rfl (wpAny_bind (wpAny_listPart pu (wpAny_pure ?_))))
  first
    | simp only [hsame, Bool.false_eq_true, if_false]
    | refine PySem.W.KFB.if_not hsame ?_
    | (dsimp only
       rw [if_neg (by rw [hsame]; exact Bool.false_ne_true)])
  refine wpAny_bind (m := Builtin.List.listAllItems (.ref b) "must assign iterable to extended slice") ?_
  unfold Builtin.List.listAllItems
  refine wpAny_bind (wpAny_typeOf hb.typeIs ?_)
  first
    | refine PySem.W.KFB.if_so (by decide) ?_
    | rw [if_pos (by decide)]
    | simp only [beq_self_eq_true, Bool.true_or, if_true]
  unfold Builtin.List.listItems
  refine wpAny_bind (wpAny_seqItems e2 rfl (wpAny_pure ?_))
  refine wpAny_bind (wpAny_bind (wpAny_seqItems e rfl (wpAny_pure ?_)))
  refine wpAny_bind (wpAny_of_eq ((sliceIndices_raw (some (a : Int)) (some (c : Int)) none items.size (by simp)).trans (congrArg (pure : Int × Int × Int → Sem (Int × Int × Int)) (bounds_run hac hc))) ?_)
  show wpAny _ _ (if ((1 : Int) == 1) = true then _ else _) _ _ s
  rw [if_pos (by decide)]
  refine wpAny_bind (wpAny_rule ?_)
  first
    | simp only [notLongL hsz, Bool.false_eq_true, if_false]
    | refine PySem.W.KFB.if_not (notLongL hsz) ?_
  first | refine wpAny_bind (wpAny_pure ?_) | skip
  show wpAny _ _ (updateSeq l (fun xs => xs.extract 0 ((a : Int)).toNat ++ new ++ xs.extract (max (a : Int) (c : Int)).toNat xs.size) >>= _) _ _ s
  rw [hmax, Int.toNat_natCast]
  refine wpAny_bind (wpAny_updateSeq (hz := Nat.le_trans (Nat.le_add_right _ _) hsz) (_hz' := hz') e rfl ?_)
  refine wpAny_bind (wpAny_letGo ?_)
  first
    | exact wpAny_bind (wpAny_pure (wpAny_pure ⟨.none, rfl, wpAny_pure h⟩))
    | exact wpAny_pure ⟨.none, rfl, wpAny_pure h⟩
end

section
variable {X : Cx}
/-- xs[a:c] = ys of another list, at the value level: sl is the slice object that was just made -/
theorem set_slice {pins : List (Addr × Obj)} {s : Shared} {σ : St} {H : Hp} {l b sl : Addr} {xs ys : List V} {a c : Int} {vl vu : Value} {Q : Unit → Shared → Prop} (I : Inv X pins σ H s)
    (hH : H l = some (.lst xs)) (hB : H b = some (.lst ys)) (hne : l ≠ b) (hs : s.heap.IsSliceOf sl vl vu .none) (ra : RelV (.int a) vl) (rc : RelV (.int c) vu) (h0 : 0 ≤ a) (hac : a ≤ c) (hc : c ≤ xs.length)
    (hz : xs.length + ys.length ≤ sizeLine) (h : ∀ s', Inv X pins σ (upd H l (.lst (xs.take a.toNat ++ ys ++ xs.drop c.toNat))) s' → Q () s') :
    wpAny (model X.prog X.w) X.A (setItem (.ref l) (.ref sl) (.ref b)) Q X.xe s := by
  obtain ⟨ta, rfl⟩ := ra
  obtain ⟨tc, rfl⟩ := rc
  obtain ⟨z, its, n, r, hl, e⟩ := I.lstM hH
  obtain ⟨z2, its2, n2, r2, hl2, e2⟩ := I.lstM hB
  obtain ⟨a', rfl⟩ := Int.eq_ofNat_of_zero_le h0
  obtain ⟨c', rfl⟩ := Int.eq_ofNat_of_zero_le (Int.le_trans h0 hac)
  simp only [Int.toNat_natCast] at h
  refine setItem_slice (a := a') (c := c') e e2 hne hs (.int _ _) (.int _ _) (by omega) (by rw [List.size_toArray]; omega) (by rw [List.size_toArray, List.size_toArray]; omega) (h _ ?_)
  refine I.lset (its' := its.take a' ++ its2 ++ its.drop c') (t' := s.toks) hH e ?_ (Vals.append (Vals.append (r.take _) r2) (r.drop _)) ?_
  · exact splice_eq its its2 a' c'
  · rw [List.length_append, List.length_append, List.length_take, List.length_drop]
    omega
end
end L2

namespace L2
open PySem PySem.Spec PyProof.Rows

/-! ### lists of pairs as tables -/
section
variable {κ : Type} [DecidableEq κ]
def valV (kvs : List (κ × V)) (k : κ) : Option V := (kvs.find? fun kv => decide (kv.1 = k)).map (·.2)
/-- in its place, or at the end -/
def putK (kvs : List (κ × V)) (k : κ) (v : V) : List (κ × V) :=
  if (kvs.any fun kv => decide (kv.1 = k)) = true then kvs.map (fun kv => if kv.1 = k then (kv.1, v) else kv) else kvs ++ [(k, v)]
def dropK (kvs : List (κ × V)) (k : κ) : List (κ × V) := kvs.filter fun kv => decide (kv.1 ≠ k)

theorem valV_nil {k : κ} : valV ([] : List (κ × V)) k = none := rfl
theorem valV_pos {p : κ × V} {r : List (κ × V)} {k : κ} (e : p.1 = k) : valV (p :: r) k = some p.2 := by simp [valV, List.find?_cons, e]
theorem valV_neg {p : κ × V} {r : List (κ × V)} {k : κ} (e : ¬ p.1 = k) : valV (p :: r) k = valV r k := by simp [valV, List.find?_cons, e]
theorem valV_any (k : κ) : ∀ kvs : List (κ × V), (kvs.any fun kv => decide (kv.1 = k)) = (valV kvs k).isSome
  | [] => rfl
  | p :: r => by
    rw [List.any_cons]
    by_cases e : p.1 = k
    · simp only [valV_pos e, decide_eq_true e, Bool.true_or, Option.isSome_some]
    · rw [valV_neg e, decide_eq_false e, Bool.false_or]; exact valV_any k r
theorem valV_map (k j : κ) (y : V) : ∀ kvs : List (κ × V), valV (kvs.map fun kv => if kv.1 = k then (kv.1, y) else kv) j = (valV kvs j).map fun x => if j = k then y else x
  | [] => rfl
  | p :: r => by
    have ih := valV_map k j y r
    rw [List.map_cons]
    by_cases h : p.1 = k
    · rw [if_pos h]
      by_cases e : p.1 = j
      · rw [valV_pos (p := (p.1, y)) e, valV_pos e, Option.map_some, if_pos (e.symm.trans h)]
      · rw [valV_neg (p := (p.1, y)) e, valV_neg e, ih]
    · rw [if_neg h]
      by_cases e : p.1 = j
      · rw [valV_pos (p := p) e, valV_pos e, Option.map_some, if_neg (fun z => h (e.trans z))]
      · rw [valV_neg (p := p) e, valV_neg e, ih]
theorem valV_snoc (k j : κ) (y : V) : ∀ kvs : List (κ × V), valV kvs k = none → valV (kvs ++ [(k, y)]) j = if j = k then some y else valV kvs j
  | [], _ => by
    by_cases e : k = j
    · rw [if_pos e.symm]; exact valV_pos (p := (k, y)) e
    · rw [if_neg (fun z => e z.symm)]; exact valV_neg (p := (k, y)) e
  | p :: r, hn => by
    rw [List.cons_append]
    have hk : ¬ p.1 = k := fun z => by rw [valV_pos z] at hn; cases hn
    rw [valV_neg hk] at hn
    have ih := valV_snoc k j y r hn
    by_cases e : p.1 = j
    · rw [valV_pos e, valV_pos e, if_neg (fun z => hk (e.trans z))]
    · rw [valV_neg e, valV_neg e, ih]
theorem valV_put (kvs : List (κ × V)) (k j : κ) (y : V) : valV (putK kvs k y) j = if j = k then some y else valV kvs j := by
  unfold putK
  by_cases a : (kvs.any fun kv => decide (kv.1 = k)) = true
  · rw [if_pos a, valV_map]
    rw [valV_any] at a
    by_cases e : j = k
    · obtain ⟨x, hx⟩ := Option.isSome_iff_exists.mp a
      rw [if_pos e, e, hx, Option.map_some, if_pos rfl]
    · rw [if_neg e]
      cases valV kvs j with
      | none => rfl
      | some x => rw [Option.map_some, if_neg e]
  · rw [if_neg a]
    refine valV_snoc k j y kvs ?_
    rw [valV_any] at a
    cases q : valV kvs k with
    | none => rfl
    | some x => rw [q] at a; exact (a rfl).elim
theorem length_putK (kvs : List (κ × V)) (k : κ) (v : V) : (putK kvs k v).length ≤ kvs.length + 1 := by
  unfold putK
  split
  · rw [List.length_map]; omega
  · rw [List.length_append, List.length_cons, List.length_nil]; omega
theorem putK_new {kvs : List (κ × V)} {k : κ} (v : V) (h : valV kvs k = none) : putK kvs k v = kvs ++ [(k, v)] := by
  unfold putK
  rw [valV_any, h]
  exact if_neg (by decide)

theorem RelO.isSome_eq {o : Option V} {u : Option Value} (r : RelO o u) : o.isSome = u.isSome := by
  cases o with
  | none => cases u with
    | none => rfl
    | some _ => exact (show False from r).elim
  | some _ => cases u with
    | none => exact (show False from r).elim
    | some _ => rfl
theorem RelO.getD {o : Option V} {u : Option Value} {d : V} {d' : Value} (r : RelO o u) (rd : RelV d d') : RelV (o.getD d) (u.getD d') := by
  cases o with
  | none => cases u with
    | none => exact rd
    | some _ => exact (show False from r).elim
  | some _ => cases u with
    | none => exact (show False from r).elim
    | some _ => exact r

/-- raw tables of the same keys -/
theorem KV.val {kvs : List (κ × V)} {vs : List (κ × Value)} (r : KV kvs vs) (k : κ) : RelO (valV kvs k) (valueAt vs k) := by
  unfold KV at r
  induction r with
  | nil => exact True.intro
  | @cons p q ps qs h t ih =>
    obtain ⟨h1, h2⟩ := h
    by_cases e : p.1 = k
    · have e' : q.1 = k := h1.symm.trans e
      have b : valueAt (q :: qs) k = some q.2 := by simp [valueAt, List.find?_cons, e']
      rw [valV_pos e, b]; exact h2
    · have e' : ¬ q.1 = k := fun z => e (h1.trans z)
      have b : valueAt (q :: qs) k = valueAt qs k := by simp [valueAt, List.find?_cons, e']
      rw [valV_neg e, b]; exact ih
theorem KV.any {kvs : List (κ × V)} {vs : List (κ × Value)} (r : KV kvs vs) (k : κ) : (kvs.any fun kv => decide (kv.1 = k)) = vs.any fun kv => decide (kv.1 = k) := by
  unfold KV at r
  induction r with
  | nil => rfl
  | cons h t ih => rw [List.any_cons, List.any_cons, ih, h.1]
theorem KV.repl {kvs : List (κ × V)} {vs : List (κ × Value)} (r : KV kvs vs) (k : κ) {y : V} {u : Value} (ry : RelV y u) :
    KV (kvs.map fun kv => if kv.1 = k then (kv.1, y) else kv) (vs.map fun kv => if kv.1 = k then (kv.1, u) else kv) := by
  unfold KV at r ⊢
  induction r with
  | nil => exact .nil
  | @cons p q ps qs h t ih =>
    rw [List.map_cons, List.map_cons]
    refine .cons ?_ ih
    obtain ⟨h1, h2⟩ := h
    by_cases e : p.1 = k
    · rw [if_pos e, if_pos (h1.symm.trans e)]; exact ⟨h1, ry⟩
    · rw [if_neg e, if_neg (fun z => e (h1.trans z))]; exact ⟨h1, h2⟩
theorem KV.put {kvs : List (κ × V)} {vs : List (κ × Value)} (r : KV kvs vs) (k : κ) {y : V} {u : Value} (ry : RelV y u) : KV (putK kvs k y) (stored vs k u) := by
  unfold putK stored
  rw [r.any k]
  by_cases e : (vs.any fun kv => decide (kv.1 = k)) = true
  · rw [if_pos e, if_pos e]; exact r.repl k ry
  · rw [if_neg e, if_neg e]; exact Paired.snoc r ⟨rfl, ry⟩
theorem KV.drop {kvs : List (κ × V)} {vs : List (κ × Value)} (r : KV kvs vs) (k : κ) : KV (dropK kvs k) (without vs k) := by
  unfold KV at r ⊢
  unfold dropK without
  induction r with
  | nil => exact .nil
  | @cons p q ps qs h t ih =>
    obtain ⟨h1, h2⟩ := h
    rw [List.filter_cons, List.filter_cons]
    by_cases e : p.1 = k
    · have a : ¬ decide (p.1 ≠ k) = true := by simp [e]
      have b : ¬ decide (q.1 ≠ k) = true := by simp [h1.symm.trans e]
      rw [if_neg a, if_neg b]; exact ih
    · have e' : ¬ q.1 = k := fun z => e (h1.trans z)
      have a : decide (p.1 ≠ k) = true := by simp [e]
      have b : decide (q.1 ≠ k) = true := by simp [e']
      rw [if_pos a, if_pos b]; exact .cons ⟨h1, h2⟩ ih
theorem KV.keys {kvs : List (κ × V)} {vs : List (κ × Value)} (r : KV kvs vs) : kvs.map (·.1) = vs.map (·.1) := by
  unfold KV at r
  induction r with
  | nil => rfl
  | cons h t ih => rw [List.map_cons, List.map_cons, ih, h.1]
theorem KV.length {kvs : List (κ × V)} {vs : List (κ × Value)} (r : KV kvs vs) : kvs.length = vs.length := Paired.length r
theorem dropK_le (kvs : List (κ × V)) (k : κ) : (dropK kvs k).length ≤ kvs.length := List.length_filter_le _ _
end


/-! ### a tracked dict, its keys ints and texts or tuples of these -/
theorem kV_is {P : Program} {w : World} {k : Key} {u : Value} (r : RelV (kV k) u) : (mixKind P w).is k u = true := by
  cases k with
  | inl i => obtain ⟨t, e⟩ := (show ∃ t, u = Value.int i t from r); subst e; exact mixKind_int P w i t
  | inr x => obtain ⟨t, e⟩ := (show ∃ t, u = Value.str x t from r); subst e; exact mixKind_str P w x t
theorem kV_inj {a b : Key} (e : kV a = kV b) : a = b := by
  cases a with
  | inl i => cases b with
    | inl j => have e' : V.int i = V.int j := e; injection e' with e'; rw [e']
    | inr y => exact nomatch (show V.int i = V.str y from e)
  | inr x => cases b with
    | inl j => exact nomatch (show V.str x = V.int j from e)
    | inr y => have e' : V.str x = V.str y := e; injection e' with e'; rw [e']
theorem kVs_inj : ∀ {a b : List Key}, a.map kV = b.map kV → a = b
  | [], [], _ => rfl
  | [], _ :: _, e => by simp at e
  | _ :: _, [], e => by simp at e
  | x :: xs, y :: ys, e => by
    rw [List.map_cons, List.map_cons] at e
    injection e with e1 e2
    rw [kV_inj e1, kVs_inj e2]
theorem items_are {P : Program} {w : World} : ∀ {ks : List Key} {us : List Value}, Vals (ks.map kV) us → ItemsAre (mixKind P w) ks us
  | [], _, r => by rw [List.map_nil] at r; cases r; exact .nil
  | k :: ks, _, r => by
    rw [List.map_cons] at r
    cases r with
    | cons h t => exact .cons (kV_is h) (items_are t)

/-- raw entries of a dict with tuple keys -/
abbrev KT (H : Hp) : List (List Key × V) → List (List Key × Addr × Value) → Prop := Paired fun p q => p.1 = q.1 ∧ H q.2.1 = some (.tup (p.1.map kV)) ∧ RelV p.2 q.2.2
theorem KT.val {H : Hp} {kvs : List (List Key × V)} {xs : List (List Key × Addr × Value)} (r : KT H kvs xs) (k : List Key) : RelO (valV kvs k) ((atKey xs k).map (·.2)) := by
  induction r with
  | nil => exact True.intro
  | @cons p q ps qs h t ih =>
    obtain ⟨h1, _, h2⟩ := h
    by_cases e : p.1 = k
    · have e' : q.1 = k := h1.symm.trans e
      have b : atKey (q :: qs) k = some q.2 := by simp [atKey, List.find?_cons, e']
      rw [valV_pos e, b]; exact h2
    · have e' : ¬ q.1 = k := fun z => e (h1.trans z)
      have b : atKey (q :: qs) k = atKey qs k := by simp [atKey, List.find?_cons, e']
      rw [valV_neg e, b]; exact ih
theorem KT.repl {H : Hp} {kvs : List (List Key × V)} {xs : List (List Key × Addr × Value)} (r : KT H kvs xs) (k : List Key) {y : V} {u : Value} (ry : RelV y u) :
    KT H (kvs.map fun kv => if kv.1 = k then (kv.1, y) else kv) (xs.map (putAt k u)) := by
  induction r with
  | nil => exact .nil
  | @cons p q ps qs h t ih =>
    rw [List.map_cons, List.map_cons]
    refine .cons ?_ ih
    obtain ⟨h1, h2, h3⟩ := h
    unfold putAt
    by_cases e : p.1 = k
    · rw [if_pos e, if_pos (h1.symm.trans e)]; exact ⟨h1, h2, ry⟩
    · rw [if_neg e, if_neg (fun z => e (h1.trans z))]; exact ⟨h1, h2, h3⟩
theorem KT.put {H : Hp} {kvs : List (List Key × V)} {xs : List (List Key × Addr × Value)} (r : KT H kvs xs) (k : List Key) {b : Addr} {y : V} {u : Value} (hb : H b = some (.tup (k.map kV))) (ry : RelV y u) :
    KT H (putK kvs k y) (storedH xs k b u) := by
  have e : (kvs.any fun kv => decide (kv.1 = k)) = (atKey xs k).isSome := by
    rw [valV_any, (r.val k).isSome_eq, Option.isSome_map]
  unfold putK storedH
  rw [e]
  by_cases q : (atKey xs k).isSome = true
  · rw [if_pos q, if_pos q]; exact r.repl k ry
  · rw [if_neg q, if_neg q]; exact Paired.snoc r ⟨rfl, hb, ry⟩
theorem KT.keeps {H H' : Hp} {kvs : List (List Key × V)} {xs : List (List Key × Addr × Value)} (r : KT H kvs xs) (ht : ∀ b ys, H b = some (.tup ys) → H' b = some (.tup ys)) : KT H' kvs xs :=
  Paired.mapP r fun _ _ z => ⟨z.1, ht _ _ z.2.1, z.2.2⟩

section
variable {P : Program} {w : World} {H : Hp} {h : Heap} {a : Addr}
theorem rd_of {u : HO} (ok : HOk P w H h) (e : Rd H a u) : ObjOk P w H h a u := e.ok ok
theorem dk_rd {kvs : List (Key × V)} (ok : HOk P w H h) (e : Rd H a (.dK kvs)) : kvs.length ≤ sizeLine ∧ (a == sysModules) = false ∧ ∃ vs, KV kvs vs ∧ h.DictOf (mixKind P w) a vs :=
  show ObjOk P w H h a (.dK kvs) from rd_of ok e
theorem dk_of {kvs : List (Key × V)} (ok : HOk P w H h) (e : H a = some (.dK kvs)) : kvs.length ≤ sizeLine ∧ (a == sysModules) = false ∧ ∃ vs, KV kvs vs ∧ h.DictOf (mixKind P w) a vs := dk_rd ok (.inl e)
/-- a tracked tuple of ints and texts is a key -/
theorem key_of {ks : List Key} (ok : HOk P w H h) (e : H a = some (.tup (ks.map kV))) : (tupleKind (mixKind P w)).is h ks a := by
  obtain ⟨_, its, r, o, h1, h2, n, h3⟩ := (show ObjOk P w H h a (.tup (ks.map kV)) from ok a _ e)
  exact ⟨o, its.toArray, n, h1, h2, h3, by simpa using items_are r⟩
theorem dt_rd {kvs : List (List Key × V)} (ok : HOk P w H h) (e : Rd H a (.dT kvs)) : kvs.length ≤ sizeLine ∧ (a == sysModules) = false ∧
    ∃ xs, KT H kvs xs ∧ h.DictOfH (tupleKind (mixKind P w)) a xs := by
  obtain ⟨z, y, xs, r, o, es, ep, h1, h2, h3, h4, h5⟩ := (show ObjOk P w H h a (.dT kvs) from rd_of ok e)
  refine ⟨z, y, xs, r, o, es, ep, h1, h2, h3, h4, fun x hx => ?_, h5⟩
  have all : ∀ {l : List (List Key × V)} {m : List (List Key × Addr × Value)}, KT H l m → ∀ x ∈ m, (tupleKind (mixKind P w)).is h x.1 x.2.1 := by
    intro l m q
    induction q with
    | nil => intro x hx; exact nomatch hx
    | @cons p q ps qs hq t ih =>
      intro x hx
      rcases List.mem_cons.mp hx with e | hx
      · subst e
        exact key_of ok (by rw [← hq.1]; exact hq.2.1)
      · exact ih x hx
  exact all r x hx
theorem dt_of {kvs : List (List Key × V)} (ok : HOk P w H h) (e : H a = some (.dT kvs)) : kvs.length ≤ sizeLine ∧ (a == sysModules) = false ∧
    ∃ xs, KT H kvs xs ∧ h.DictOfH (tupleKind (mixKind P w)) a xs := dt_rd ok (.inl e)
end

/-- what the dict at a holds at the key y -/
def DGet (H : Hp) (a : Addr) (y : V) (r : Option V) : Prop :=
  (∃ kvs k, Rd H a (.dK kvs) ∧ y = kV k ∧ r = valV kvs k) ∨ ∃ kvs k b, Rd H a (.dT kvs) ∧ y = .ref b ∧ H b = some (.tup (k.map kV)) ∧ r = valV kvs k
/-- the heap behind a[y] = v -/
def DPut (H : Hp) (a : Addr) (y v : V) (H' : Hp) : Prop :=
  (∃ kvs k, H a = some (.dK kvs) ∧ y = kV k ∧ kvs.length < sizeLine ∧ H' = upd H a (.dK (putK kvs k v))) ∨
  ∃ kvs k b, H a = some (.dT kvs) ∧ y = .ref b ∧ H b = some (.tup (k.map kV)) ∧ kvs.length < sizeLine ∧ H' = upd H a (.dT (putK kvs k v))
theorem DGet.k {H : Hp} {a : Addr} {kvs : List (Key × V)} {k : Key} (e : H a = some (.dK kvs)) : DGet H a (kV k) (valV kvs k) := .inl ⟨kvs, k, .inl e, rfl, rfl⟩
theorem DGet.t {H : Hp} {a b : Addr} {kvs : List (List Key × V)} {k : List Key} (e : H a = some (.dT kvs)) (eb : H b = some (.tup (k.map kV))) : DGet H a (.ref b) (valV kvs k) := .inr ⟨kvs, k, b, .inl e, rfl, eb, rfl⟩
theorem DPut.k {H : Hp} {a : Addr} {kvs : List (Key × V)} {k : Key} {v : V} (e : H a = some (.dK kvs)) (hl : kvs.length < sizeLine) : DPut H a (kV k) v (upd H a (.dK (putK kvs k v))) := .inl ⟨kvs, k, e, rfl, hl, rfl⟩
theorem DPut.t {H : Hp} {a b : Addr} {kvs : List (List Key × V)} {k : List Key} {v : V} (e : H a = some (.dT kvs)) (eb : H b = some (.tup (k.map kV))) (hl : kvs.length < sizeLine) :
    DPut H a (.ref b) v (upd H a (.dT (putK kvs k v))) := .inr ⟨kvs, k, b, e, rfl, eb, hl, rfl⟩


section
variable {X : Cx} {pins : List (Addr × Obj)} {σ : St} {H : Hp} {s : Shared} {a : Addr} {y v : V} {u r : Value} {o : Option V} {A : Around} {E : Value → Shared → Prop}

theorem Inv.big (I : Inv X pins σ H s) : sysModules < s.heap.objs.size := by
  have h : mainGlobals < s.heap.objs.size := (I.mod.glob.keeps I.bk).lt
  exact Nat.lt_trans (by decide) h

/-- d[y], there -/
theorem d_getItem {Q : Value → Shared → Prop} (hu : A.units + 1 < cLine) (I : Inv X pins σ H s) (g : DGet H a y (some v)) (ry : RelV y u) (h : ∀ w' s', Inv X pins σ H s' → RelV v w' → Q w' s') :
    wpAny (model X.prog X.w) A (getItem (.ref a) u) Q E s := by
  rcases g with ⟨kvs, k, e, ey, l⟩ | ⟨kvs, k, b, e, ey, eb, l⟩
  · subst ey
    obtain ⟨z, hd, vs, rel, dd⟩ := dk_rd I.hok e
    obtain ⟨w', hw, rw'⟩ := RelO.some_of (v := v) (o := valueAt vs k) (by rw [l]; exact rel.val k)
    exact wpAny_getItem_of (kV_is ry) dd.mapOf hw (h w' _ (I.tok _) rw')
  · subst ey
    cases (show u = Value.ref b from ry)
    obtain ⟨z, hd, xs, rel, dd⟩ := dt_rd I.hok e
    obtain ⟨w', hw, rw'⟩ := RelO.some_of (v := v) (o := (atKey xs k).map (·.2)) (by rw [l]; exact rel.val k)
    obtain ⟨p, hp, hp2⟩ := Option.map_eq_some_iff.mp hw
    refine wpAny_getItem_heap (tupleKind_room_in1 hu) (key_of I.hok eb) dd hp ?_
    rw [hp2]
    exact h w' _ (I.tok _) rw'
/-- y in d -/
theorem d_in {Q : Value → Shared → Prop} (hu : A.units + 1 < cLine) (I : Inv X pins σ H s) (g : DGet H a y o) (ry : RelV y u) (h : ∀ s', Inv X pins σ H s' → Q (.bool o.isSome) s') :
    wpAny (model X.prog X.w) A (compareOp .In u (.ref a)) Q E s := by
  rcases g with ⟨kvs, k, e, ey, l⟩ | ⟨kvs, k, b, e, ey, eb, l⟩
  · subst ey
    obtain ⟨z, hd, vs, rel, dd⟩ := dk_rd I.hok e
    refine wpAny_in_of (kV_is ry) hd dd.mapOf ?_
    rw [← (rel.val k).isSome_eq, ← l]
    exact h _ (I.tok _)
  · subst ey
    cases (show u = Value.ref b from ry)
    obtain ⟨z, hd, xs, rel, dd⟩ := dt_rd I.hok e
    refine wpAny_in_heap (tupleKind_room_in1 hu) (key_of I.hok eb) hd dd ?_
    have q := (rel.val k).isSome_eq
    rw [Option.isSome_map] at q
    rw [← q, ← l]
    exact h _ (I.tok _)
theorem d_notIn {Q : Value → Shared → Prop} (hu : A.units + 1 < cLine) (I : Inv X pins σ H s) (g : DGet H a y o) (ry : RelV y u) (h : ∀ s', Inv X pins σ H s' → Q (.bool (!o.isSome)) s') :
    wpAny (model X.prog X.w) A (compareOp .NotIn u (.ref a)) Q E s := by
  rcases g with ⟨kvs, k, e, ey, l⟩ | ⟨kvs, k, b, e, ey, eb, l⟩
  · subst ey
    obtain ⟨z, hd, vs, rel, dd⟩ := dk_rd I.hok e
    refine wpAny_notIn_of (kV_is ry) hd dd.mapOf ?_
    rw [← (rel.val k).isSome_eq, ← l]
    exact h _ (I.tok _)
  · subst ey
    cases (show u = Value.ref b from ry)
    obtain ⟨z, hd, xs, rel, dd⟩ := dt_rd I.hok e
    refine wpAny_notIn_heap (tupleKind_room_in1 hu) (key_of I.hok eb) hd dd ?_
    have q := (rel.val k).isSome_eq
    rw [Option.isSome_map] at q
    rw [← q, ← l]
    exact h _ (I.tok _)
/-- a dict's object is replaced -/
theorem d_write {h' : Heap} {t' : Nat} {ob : HO} (I : Inv X pins σ H s) (mu : Mut (H a)) (hs : Heap.SameBut a s.heap h') (he : ∃ q, h'.get? a = some q) (new : ObjOk X.prog X.w (upd H a ob) h' a ob) :
    Inv X pins σ (upd H a ob) { s with heap := h', toks := t' } :=
  I.write (x := a) (e := a) mu (.inl rfl) (fun b q hb z => (hs.2 b hb).trans z) he new
theorem dk_new {P : Program} {w : World} {H' : Hp} {h' : Heap} {kvs : List (Key × V)} {vs : List (Key × Value)} (z : kvs.length ≤ sizeLine) (hd : (a == sysModules) = false) (rel : KV kvs vs) (dd : h'.DictOf (mixKind P w) a vs) :
    ObjOk P w H' h' a (.dK kvs) := ⟨z, hd, vs, rel, dd⟩
/-- d[y] = v -/
theorem d_setItem {H' : Hp} {Q : Unit → Shared → Prop} (hu : A.units + 1 < cLine) (I : Inv X pins σ H s) (g : DPut H a y v H') (ry : RelV y u) (rv : RelV v r) (h : ∀ s', Inv X pins σ H' s' → Q () s') :
    wpAny (model X.prog X.w) A (setItem (.ref a) u r) Q E s := by
  rcases g with ⟨kvs, k, e, ey, l, eH⟩ | ⟨kvs, k, b, e, ey, eb, l, eH⟩
  · subst ey eH
    obtain ⟨z, hd, vs, rel, dd⟩ := dk_of I.hok e
    have hz : vs.length ≤ sizeLine := by rw [← rel.length]; exact z
    have hl : (putK kvs k v).length ≤ sizeLine := by have := length_putK kvs k v; omega
    refine wpAny_setItem_pairs (hsz := hz) (kV_is ry) dd fun h' dd' hs => h _ ?_
    have he : ∃ q, h'.get? a = some q := let ⟨q, _, _, hq, _⟩ := dd'; ⟨q, hq⟩
    exact d_write I (by rw [e]; exact True.intro) hs he (dk_new hl hd (rel.put k rv) dd')
  · subst ey eH
    cases (show u = Value.ref b from ry)
    obtain ⟨z, hd, xs, rel, dd⟩ := dt_of I.hok e
    have hz : xs.length ≤ sizeLine := by rw [← Paired.length rel]; exact z
    have hl : (putK kvs k v).length ≤ sizeLine := by have := length_putK kvs k v; omega
    refine wpAny_setItem_heap (hsz := hz) (tupleKind_room_in1 hu) (key_of I.hok eb) dd fun h' dd' hs => h _ ?_
    obtain ⟨q, es, ep, hq, h2, h3, h4, _, h5⟩ := dd'
    refine d_write I (by rw [e]; exact True.intro) hs ⟨q, hq⟩ ⟨hl, hd, _, (rel.put k eb rv).keeps fun c ys ec => ?_, q, es, ep, hq, h2, h3, h4, h5⟩
    rw [upd_ne (ne_of ec e (fun z => nomatch z))]
    exact ec
end

section
variable {X : Cx} {pins : List (Addr × Obj)} {σ : St} {H : Hp} {s : Shared} {a : Addr} {kvs : List (Key × V)} {k : Key} {u : Value} {A : Around} {E : Value → Shared → Prop}
/-- del d[k] -/
theorem d_delItem {Q : Unit → Shared → Prop} (I : Inv X pins σ H s) (e : H a = some (.dK kvs)) (ry : RelV (kV k) u) (l : (valV kvs k).isSome = true) (h : ∀ s', Inv X pins σ (upd H a (.dK (dropK kvs k))) s' → Q () s') :
    wpAny (model X.prog X.w) A (delItem (.ref a) u) Q E s := by
  obtain ⟨z, hd, vs, rel, dd⟩ := dk_of I.hok e
  refine wpAny_delItem_slot dd.typeIs (by decide) PySem.F.slot_dict_delitem
    (call_meetsIn PySem.F.slot_dict_delitem dd.typeIs PySem.F.entry_dict_delitem (PySem.F.args_dict_delitem_2 _ _) (meets_dict_delitem_pairs (mixKind X.prog X.w) a (kV_is ry)) ⟨vs, dd, by rw [← rel.length]; exact z, by rw [← (rel.val k).isSome_eq]; exact l, fun h' dd' hs => h _ ?_⟩)
  have he : ∃ q, h'.get? a = some q := let ⟨q, _, _, hq, _⟩ := dd'; ⟨q, hq⟩
  exact d_write I (by rw [e]; exact True.intro) hs he (dk_new (Nat.le_trans (dropK_le kvs k) z) hd (rel.drop k) dd')
/-- d.pop(k[, x]), there -/
theorem d_pop {v : V} {more : List Value} {Q : Value → Shared → Prop} (I : Inv X pins σ H s) (e : H a = some (.dK kvs)) (ry : RelV (kV k) u) (l : valV kvs k = some v) (hm : more = [] ∨ ∃ x, more = [x])
    (h : ∀ w' s', Inv X pins σ (upd H a (.dK (dropK kvs k))) s' → RelV v w' → Q w' s') : wpAny (model X.prog X.w) A (call (.builtin "dict.pop") (.ref a :: u :: more)) Q E s := by
  obtain ⟨z, hd, vs, rel, dd⟩ := dk_of I.hok e
  obtain ⟨w', hw, rw'⟩ := RelO.some_of (v := v) (o := valueAt vs k) (by rw [← l]; exact rel.val k)
  have hp : (keyPart u).isSome = true := by
    cases k with
    | inl i => obtain ⟨t, q⟩ := (show ∃ t, u = Value.int i t from ry); subst q; rfl
    | inr x => obtain ⟨t, q⟩ := (show ∃ t, u = Value.str x t from ry); subst q; rfl
  have ha : argsOk "dict.pop" ⟨.ref a :: u :: more, []⟩ := by
    rcases hm with q | ⟨x, q⟩
    · subst q; exact PySem.F.args_dict_pop_2 _ _
    · subst q; exact PySem.F.args_dict_pop_3 _ _ _
  refine call_meetsIn PySem.F.slot_dict_pop dd.typeIs PySem.F.entry_dict_pop ha (meets_dict_pop_there (mixKind X.prog X.w) a (kV_is ry) more hm hp)
    ⟨vs, w', dd, by rw [← rel.length]; exact z, hw, fun h' dd' hs => h w' _ ?_ rw'⟩
  have he : ∃ q, h'.get? a = some q := let ⟨q, _, _, hq, _⟩ := dd'; ⟨q, hq⟩
  exact d_write I (by rw [e]; exact True.intro) hs he (dk_new (Nat.le_trans (dropK_le kvs k) z) hd (rel.drop k) dd')
/-- d.pop(k, x), not there -/
theorem d_popD {r : Value} {Q : Value → Shared → Prop} (I : Inv X pins σ H s) (e : H a = some (.dK kvs)) (ry : RelV (kV k) u) (l : valV kvs k = none) (h : ∀ s', Inv X pins σ H s' → Q r s') :
    wpAny (model X.prog X.w) A (call (.builtin "dict.pop") [.ref a, u, r]) Q E s := by
  obtain ⟨z, hd, vs, rel, dd⟩ := dk_of I.hok e
  have hn : valueAt vs k = none := RelO.none_of (by rw [← l]; exact rel.val k)
  have hp : (keyPart u).isSome = true := by
    cases k with
    | inl i => obtain ⟨t, q⟩ := (show ∃ t, u = Value.int i t from ry); subst q; rfl
    | inr x => obtain ⟨t, q⟩ := (show ∃ t, u = Value.str x t from ry); subst q; rfl
  exact call_meetsIn PySem.F.slot_dict_pop dd.typeIs PySem.F.entry_dict_pop (PySem.F.args_dict_pop_3 _ _ _) (meets_dict_pop_default (mixKind X.prog X.w) a (kV_is ry) hd hp r) ⟨vs, dd, hn, h _ (I.tok _)⟩
/-- d.clear() -/
theorem d_clear {Q : Value → Shared → Prop} (I : Inv X pins σ H s) (e : H a = some (.dK kvs)) (h : ∀ s', Inv X pins σ (upd H a (.dK [])) s' → Q .none s') : wpAny (model X.prog X.w) A (call (.builtin "dict.clear") [.ref a]) Q E s := by
  obtain ⟨z, hd, vs, rel, dd⟩ := dk_of I.hok e
  refine call_meetsIn PySem.F.slot_dict_clear dd.typeIs PySem.F.entry_dict_clear (PySem.F.args_dict_clear_1 _) (meets_dict_clear (mixKind X.prog X.w) a) ⟨vs, dd, by rw [← rel.length]; exact z, fun h' dd' hs => h _ ?_⟩
  have he : ∃ q, h'.get? a = some q := let ⟨q, _, _, hq, _⟩ := dd'; ⟨q, hq⟩
  exact d_write (t' := s.toks) I (by rw [e]; exact True.intro) hs he (dk_new (Nat.zero_le _) hd .nil dd')
/-- len(d) -/
theorem d_len {Q : Value → Shared → Prop} (I : Inv X pins σ H s) (e : Rd H a (.dK kvs)) (h : ∀ t s', Inv X pins σ H s' → Q (.int kvs.length t) s') : wpAny (model X.prog X.w) A (call (.builtin "len") [.ref a]) Q E s := by
  obtain ⟨z, hd, vs, rel, dd⟩ := dk_rd I.hok e
  refine call_len_dict hd dd (by rw [← rel.length]; rw [sizeLine_eq] at z; omega) ?_
  rw [← rel.length]
  exact h _ _ (I.tok _)
/-- if d -/
theorem d_truth {Q : Bool → Shared → Prop} (I : Inv X pins σ H s) (e : Rd H a (.dK kvs)) (h : ∀ s', Inv X pins σ H s' → Q (!kvs.isEmpty) s') : wpAny (model X.prog X.w) A (truthy (.ref a)) Q E s := by
  obtain ⟨z, hd, vs, rel, dd⟩ := dk_rd I.hok e
  refine wpAny_truthy_dict hd dd (by rw [← rel.length]; rw [sizeLine_eq] at z; omega) ?_
  have q : kvs.isEmpty = vs.isEmpty := by cases rel <;> rfl
  rw [← q]
  exact h _ (I.tok _)
end


/-! ### readings and rules -/
/-- the element of a subscription, not a slice -/
def NoSl (i : Expr) : Prop := ∀ ov iv, subscripted i false ov iv = operate [ov, iv] (getItem ov iv)
theorem subD_of {prog : Program} {w : World} {A : Around} {E : Value → Shared → Prop} {s : Shared} {env : Env} {value slice : Expr} {pos : Pos} {T id : String} {Q : Value → Shared → Prop}
    (hl : typeLookup (.type T) "__getitem__" = pure (some (.builtin id))) (hs : NoSl slice)
    (h : wpAny (model prog w) A (eval value env) (fun o s₁ => wpAny (model prog w) A (eval slice env) (fun i s₂ => s₂.TypeIs o T ∧ wpAny (model prog w) A (getItem o i) Q E s₂) E s₁) E s) :
    wpAny (model prog w) A (eval (.Subscript value slice pos) env) Q E s := by
  refine Subscript_ (wpAny_mono h (fun o s₁ h₁ => wpAny_mono h₁ (fun i s₂ h₂ => ?_) fun _ _ x => x) fun _ _ x => x)
  obtain ⟨hT, h₂⟩ := h₂
  unfold subscriptTail
  refine wpAny_bind ?_
  rw [getitemInPython_of_ne hT.not_modules]
  refine wpAny_bind (wpAny_specialOf hT hl ?_)
  have fin : wpAny (model prog w) A (subscripted slice false o i) (fun r s₃ => wpAny (model prog w) A (letTemporaryGo value o r >>= fun _ => pure r) Q E s₃) E s₂ := by
    rw [hs o i]
    exact wpAny_operating (wpAny_mono h₂ (fun r s₃ h₃ => wpAny_bind (wpAny_letTemporaryGo (wpAny_pure h₃))) fun _ _ x => x)
  first
    | exact wpAny_pure (wpAny_bind fin)
    | exact wpAny_bind (wpAny_pure (wpAny_bind fin))
    | exact wpAny_bind fin

theorem dict_typeIs {X : Cx} {pins : List (Addr × Obj)} {σ : St} {H : Hp} {s : Shared} {a : Addr} {y : V} {o : Option V} (I : Inv X pins σ H s) (g : DGet H a y o) : s.TypeIs (.ref a) "dict" := by
  rcases g with ⟨kvs, k, e, _, _⟩ | ⟨kvs, k, b, e, _, _, _⟩
  · obtain ⟨_, _, vs, _, dd⟩ := dk_rd I.hok e
    exact dd.typeIs
  · obtain ⟨_, _, xs, _, dd⟩ := dt_rd I.hok e
    exact dd.typeIs
theorem dict_noDict {X : Cx} {pins : List (Addr × Obj)} {σ : St} {H : Hp} {s : Shared} {a : Addr} {y : V} {o : Option V} (I : Inv X pins σ H s) (g : DGet H a y o) :
    ∀ b, Value.ref a = .ref b → ∃ ob, s.heap.get? b = some ob ∧ ob.dict = none := fun b q => by
  cases q
  rcases g with ⟨kvs, k, e, _, _⟩ | ⟨kvs, k, b, e, _, _, _⟩
  · obtain ⟨_, _, vs, _, ob, _, _, h1, h2, _⟩ := dk_rd I.hok e
    exact ⟨ob, h1, h2.2.1⟩
  · obtain ⟨_, _, xs, _, ob, _, _, h1, h2, _⟩ := dt_rd I.hok e
    exact ⟨ob, h1, h2.2.1⟩

/-- d[y] -/
def tDGet (td ty : TE) : TE := fun σ H Q => td σ H fun x H1 => ty σ H1 fun y H2 => ∃ a v, x = .ref a ∧ DGet H2 a y (some v) ∧ Q v H2
/-- y in d, y not in d -/
def tDIn (ty td : TE) : TE := fun σ H Q => ty σ H fun y H1 => td σ H1 fun x H2 => ∃ a o, x = .ref a ∧ DGet H2 a y o ∧ Q (.bl o.isSome) H2
def tDNotIn (ty td : TE) : TE := fun σ H Q => ty σ H fun y H1 => td σ H1 fun x H2 => ∃ a o, x = .ref a ∧ DGet H2 a y o ∧ Q (.bl (!o.isSome)) H2
/-- d[y] = v -/
def sDPut (td ty tv : TE) : TS := fun D σ H => tv σ H fun v H1 => td σ H1 fun x H2 => ty σ H2 fun y H3 => ∃ a H4, x = .ref a ∧ DPut H3 a y v H4 ∧ D.nx σ H4
/-- d[y] op= v -/
def sDAug (td ty tv : TE) (rd : V → V → Hp → VK → Prop) : TS := fun D σ H => td σ H fun x H1 => ty σ H1 fun y H2 => ∃ a v, x = .ref a ∧ DGet H2 a y (some v) ∧
  tv σ H2 fun y2 H3 => rd v y2 H3 fun z H4 => ∃ H5, DPut H4 a y z H5 ∧ D.nx σ H5
/-- del d[y] -/
def sDDel (td ty : TE) : TS := fun D σ H => td σ H fun x H1 => ty σ H1 fun y H2 => ∃ a kvs k, x = .ref a ∧ H2 a = some (.dK kvs) ∧ y = kV k ∧ (valV kvs k).isSome = true ∧ D.nx σ (upd H2 a (.dK (dropK kvs k)))

section
variable {X : Cx} {o i e value : Expr} {pos pos' tpos : Pos} {td ty tv : TE}
theorem pe_dget (hu : X.A.units + 1 < cLine) (ho : PE X o td) (hi : PE X i ty) (hs : NoSl i) : PE X (.Subscript o i pos) (tDGet td ty) := by
  intro pins s σ H Q I h
  refine subD_of PySem.F.slot_dict_getitem.lookup hs (thn (ho pins s σ H _ I h) fun u s1 ⟨x, H1, I1, rx, q1⟩ => thn (hi pins s1 σ H1 _ I1 q1) fun iv s2 ⟨y, H2, I2, ry, a, v, ex, g, q2⟩ => ?_)
  subst ex
  obtain rfl : u = Value.ref a := rx
  exact ⟨dict_typeIs I2 g, d_getItem hu I2 g ry fun w' s3 I3 rw' => ⟨v, H2, I3, rw', q2⟩⟩
theorem pc_din (hu : X.A.units + 1 < cLine) (hi : PE X i ty) (ho : PE X o td) : PC X .In i o (tDIn ty td) := by
  intro pins s σ H Q I h
  refine thn (hi pins s σ H _ I h) fun iv s1 ⟨y, H1, I1, ry, q1⟩ => thn (ho pins s1 σ H1 _ I1 q1) fun u s2 ⟨x, H2, I2, rx, a, ov, ex, g, q2⟩ => ?_
  subst ex
  obtain rfl : u = Value.ref a := rx
  exact d_in hu I2 g ry fun s3 I3 => ⟨.bl ov.isSome, H2, I3, rfl, q2⟩
theorem pc_dnotin (hu : X.A.units + 1 < cLine) (hi : PE X i ty) (ho : PE X o td) : PC X .NotIn i o (tDNotIn ty td) := by
  intro pins s σ H Q I h
  refine thn (hi pins s σ H _ I h) fun iv s1 ⟨y, H1, I1, ry, q1⟩ => thn (ho pins s1 σ H1 _ I1 q1) fun u s2 ⟨x, H2, I2, rx, a, ov, ex, g, q2⟩ => ?_
  subst ex
  obtain rfl : u = Value.ref a := rx
  exact d_notIn hu I2 g ry fun s3 I3 => ⟨.bl (!ov.isSome), H2, I3, rfl, q2⟩
theorem ps_dput (hu : X.A.units + 1 < cLine) (ho : PE X o td) (hi : PE X i ty) (hv : PE X value tv) (hs : swapsWith value (some (.Subscript o i pos')) pos.line X.env = pure false) :
    PS X (.Assign [.Subscript o i pos'] value pos) (sDPut td ty tv) := by
  intro pins s σ H D I h
  refine wpAny_Assign_Subscript (thn (hv pins s σ H _ I h) fun r s1 ⟨v, H1, I1, rv, q1⟩ => thn (ho pins s1 σ H1 _ I1 q1) fun u s2 ⟨x, H2, I2, rx, q2⟩ => thn (hi pins s2 σ H2 _ I2 q2) fun iv s3 ⟨y, H3, I3, ry, a, H4, ex, g, q3⟩ => ?_) hs
  subst ex
  obtain rfl : u = Value.ref a := rx
  exact d_setItem hu I3 g ry rv fun s4 I4 => ⟨σ, H4, I4, q3⟩
theorem ps_daug {op : Operator} {rd : V → V → Hp → VK → Prop} (hu : X.A.units + 1 < cLine) (ho : PE X o td) (hi : PE X i ty) (hv : PE X value tv) (hop : InOp X op rd)
    (ha : ∀ ov iv new, augStore i ov iv new = (do holding [new, ov, iv] (setItem ov iv new); release [new, ov, iv] []; pure .next)) : PS X (.AugAssign (.Subscript o i tpos) op value pos) (sDAug td ty tv rd) := by
  intro pins s σ H D I h
  refine wpAny_AugAssign_SubscriptAny (thn (ho pins s σ H _ I h) fun u s1 ⟨x, H1, I1, rx, q1⟩ => thn (hi pins s1 σ H1 _ I1 q1) fun iv s2 ⟨y, H2, I2, ry, a, v, ex, g, q2⟩ => ?_) ha
  subst ex
  obtain rfl : u = Value.ref a := rx
  refine d_getItem hu I2 g ry fun w' s3 I3 rw' => thn (hv pins s3 σ H2 _ I3 q2) fun w2 s4 ⟨y2, H3, I4, ry2, q3⟩ => thn (hop pins s4 σ H3 v y2 w' w2 _ I4 rw' ry2 q3) fun w3 s5 ⟨z, H4, I5, rz, H5, g5, q4⟩ => ?_
  exact d_setItem hu I5 g5 ry rz fun s6 I6 => ⟨σ, H5, I6, q4⟩
theorem ps_ddel (ho : PE X o td) (hi : PE X i ty) : PS X (.Delete [.Subscript o i tpos] pos) (sDDel td ty) := by
  intro pins s σ H D I h
  refine wpAny_Delete (wpAny_deleteEach_cons (wpAny_delete_Subscript (thn (ho pins s σ H _ I h) fun u s1 ⟨x, H1, I1, rx, q1⟩ => thn (hi pins s1 σ H1 _ I1 q1) fun iv s2 ⟨y, H2, I2, ry, a, kvs, k, ex, e, ey, l, q2⟩ => ?_)))
  subst ex ey
  obtain rfl : u = Value.ref a := rx
  exact d_delItem I2 e ry l fun s3 I3 => wpAny_deleteEach_nil ⟨σ, _, I3, q2⟩
end


/-! ### displays -/
theorem dk_empty {P : Program} {w : World} {H : Hp} (h : Heap) (hb : sysModules < h.objs.size) : ObjOk P w H (h.push { cls := .type "dict", data := .dict #[] }) h.objs.size (.dK []) :=
  ⟨Nat.zero_le _, beq_eq_false_iff_ne.mpr (Ne.symm (Nat.ne_of_lt hb)), [], .nil, Heap.DictOf.new h⟩
theorem dt_empty {P : Program} {w : World} {H : Hp} (h : Heap) (hb : sysModules < h.objs.size) : ObjOk P w H (h.push { cls := .type "dict", data := .dict #[] }) h.objs.size (.dT []) :=
  ⟨Nat.zero_le _, beq_eq_false_iff_ne.mpr (Ne.symm (Nat.ne_of_lt hb)), [], .nil, _, #[], 0, Heap.get?_push_size _ rfl, ⟨rfl, rfl, rfl⟩, rfl, rfl, List.nodup_nil⟩
/-- {}, to be a dict of the kind that is wanted -/
def tDNewK : TE := fun _ H Q => ∀ p, H p = none → Q (.ref p) (upd H p (.dK []))
def tDNewT : TE := fun _ H Q => ∀ p, H p = none → Q (.ref p) (upd H p (.dT []))
section
variable {X : Cx} {pos : Pos}
theorem pe_dnewK : PE X (.Dict [] [] pos) tDNewK := fun pins s σ H Q I h =>
  wpAny_Dict_empty ⟨.ref s.heap.objs.size, _, I.laid (a := s.heap.objs.size) (o := .dK []) (t' := s.toks) (fun _ _ q => Heap.get?_push_of_some _ q) (Nat.le_refl _) (dk_empty s.heap I.big), rfl, h _ (I.hok.fresh (Nat.le_refl _))⟩
theorem pe_dnewT : PE X (.Dict [] [] pos) tDNewT := fun pins s σ H Q I h =>
  wpAny_Dict_empty ⟨.ref s.heap.objs.size, _, I.laid (a := s.heap.objs.size) (o := .dT []) (t' := s.toks) (fun _ _ q => Heap.get?_push_of_some _ q) (Nat.le_refl _) (dt_empty s.heap I.big), rfl, h _ (I.hok.fresh (Nat.le_refl _))⟩
end

/-- the pairs of a display, from the left -/
def tPairs : List (TE × TE) → St → Hp → (List (V × V) → Hp → Prop) → Prop
  | [], _, H, Q => Q [] H
  | (tk, tv) :: r, σ, H, Q => tk σ H fun x H1 => tv σ H1 fun y H2 => tPairs r σ H2 fun ps H3 => Q ((x, y) :: ps) H3
abbrev VV : List (V × V) → List (Value × Value) → Prop := Paired fun p q => RelV p.1 q.1 ∧ RelV p.2 q.2
def PPs (X : Cx) (pos : Pos) (keys : List (Option Expr)) (values : List Expr) (trs : List (TE × TE)) : Prop :=
  ∀ (pins : List (Addr × Obj)) (s : Shared) (σ : St) (H : Hp) (Q : List (V × V) → Hp → Prop), Inv X pins σ H s → tPairs trs σ H Q →
    wpAny (model X.prog X.w) X.A (evalPairs (pairTrees keys values X.env pos)) (fun vs s' => ∃ ps H', Inv X pins σ H' s' ∧ VV ps vs ∧ Q ps H') X.xe s
theorem pps_nil {X : Cx} {pos : Pos} : PPs X pos [] [] [] := fun pins s σ H Q I h => pairTrees_nil_walk ⟨[], H, I, .nil, h⟩
theorem pps_cons {X : Cx} {pos : Pos} {k v : Expr} {ks : List (Option Expr)} {vs : List Expr} {tk tv : TE} {trs : List (TE × TE)} (hk : PE X k tk) (hv : PE X v tv) (hr : PPs X pos ks vs trs) :
    PPs X pos (some k :: ks) (v :: vs) ((tk, tv) :: trs) := fun pins s σ H Q I h =>
  pairTrees_cons_walk (thn (hk pins s σ H _ I h) fun u s1 ⟨x, H1, I1, rx, q1⟩ => thn (hv pins s1 σ H1 _ I1 q1) fun w2 s2 ⟨y, H2, I2, ry, q2⟩ =>
    thn (hr pins s2 σ H2 _ I2 q2) fun ws s3 ⟨ps, H3, I3, rel, q3⟩ => ⟨(x, y) :: ps, H3, I3, .cons ⟨rx, ry⟩ rel, q3⟩)

def mergeK (kvs more : List (Key × V)) : List (Key × V) := more.foldl (fun acc kv => putK acc kv.1 kv.2) kvs
theorem KV.merge : ∀ {more : List (Key × V)} {rs : List (Key × Value)} {kvs : List (Key × V)} {vs : List (Key × Value)}, KV more rs → KV kvs vs → KV (mergeK kvs more) (merged vs rs) := by
  intro more rs kvs vs r
  unfold KV at r
  induction r generalizing kvs vs with
  | nil => intro q; exact q
  | @cons p q ps qs h t ih =>
    intro r0
    have e : KV (putK kvs p.1 p.2) (stored vs q.1 q.2) := by
      have := r0.put p.1 h.2
      rw [← h.1]; exact this
    exact ih e
theorem length_mergeK : ∀ (more kvs : List (Key × V)), (mergeK kvs more).length ≤ kvs.length + more.length
  | [], kvs => by show kvs.length ≤ kvs.length + 0; omega
  | p :: r, kvs => by
    have h1 := length_mergeK r (putK kvs p.1 p.2)
    have h2 := length_putK kvs p.1 p.2
    show (mergeK (putK kvs p.1 p.2) r).length ≤ _
    rw [List.length_cons]; omega
theorem carries_of {P : Program} {w : World} : ∀ {kvs : List (Key × V)} {ws : List (Value × Value)}, VV (kvs.map fun kv => (kV kv.1, kv.2)) ws → ∃ rs, Carries (mixKind P w) ws rs ∧ KV kvs rs
  | [], _, r => by rw [List.map_nil] at r; cases r; exact ⟨[], True.intro, .nil⟩
  | p :: kvs, _, r => by
    rw [List.map_cons] at r
    cases r with
    | @cons a b as bs h t =>
      obtain ⟨rs, c, q⟩ := carries_of (P := P) (w := w) t
      obtain ⟨b1, b2⟩ := b
      exact ⟨(p.1, b2) :: rs, ⟨kV_is h.1, rfl, c⟩, .cons ⟨rfl, h.2⟩ q⟩
/-- {k: v, ..} with keys ints and texts; the new dict stands empty while the pairs are made -/
def tDisp (trs : List (TE × TE)) : TE := fun σ H Q => ∀ p, H p = none → tPairs trs σ (upd H p (.dK [])) fun ps H2 => H2 p = some (.dK []) ∧ ∃ kvs : List (Key × V), ps = kvs.map (fun kv => (kV kv.1, kv.2)) ∧ kvs.length ≤ 15 ∧ Q (.ref p) (upd H2 p (.dK (mergeK [] kvs)))
theorem pe_disp {X : Cx} {pos : Pos} {keys : List (Option Expr)} {values : List Expr} {trs : List (TE × TE)} (h : PPs X pos keys values trs) (hall : keys.all (·.isSome) = true) (hl : keys.length = values.length) (h0 : keys ≠ [])
    (h15 : keys.length ≤ 15) : PE X (.Dict keys values pos) (tDisp trs) := by
  intro pins s σ H Q I q
  have hn := I.hok.fresh (Nat.le_refl s.heap.objs.size)
  have I1 := I.laid (a := s.heap.objs.size) (o := .dK []) (h' := s.heap.push { cls := .type "dict", data := .dict #[] }) (t' := s.toks) (fun _ _ q => Heap.get?_push_of_some _ q) (Nat.le_refl _) (dk_empty s.heap I.big)
  refine wpAny_Dict_walk (knd := mixKind X.prog X.w) hall hl h0 h15 (thn (h pins _ σ _ _ I1 (q _ hn)) fun ws s2 ⟨ps, H2, I2, rel, e, kvs, ep, lk, q2⟩ => ?_)
  subst ep
  obtain ⟨rs, c, rk⟩ := carries_of (P := X.prog) (w := X.w) rel
  obtain ⟨z, hd, vs0, r0, dd⟩ := dk_of I2.hok e
  cases r0
  refine ⟨rs, c, dd, fun h' dd' hs => ⟨.ref s.heap.objs.size, _, ?_, rfl, q2⟩⟩
  have hz : (mergeK [] kvs).length ≤ sizeLine := by
    have h1 := length_mergeK kvs []
    rw [List.length_nil] at h1
    rw [sizeLine_eq]; omega
  have he : ∃ q, h'.get? s.heap.objs.size = some q := let ⟨q, _, _, hq, _⟩ := dd'; ⟨q, hq⟩
  exact d_write I2 (by rw [e]; exact True.intro) hs he (dk_new hz hd (rk.merge .nil) dd')


/-! ### methods -/
/-- a method call o.m(e) of a built-in, with one argument: what must be seen of the text -/
structure M1 (X : Cx) (o : Expr) (m : Str) (apos : Pos) (e : Expr) (cpos : Pos) : Prop where
  base : attributeBase o m X.env (eval o X.env) = eval o X.env
  few : ((backTo cpos (starEach [e] X.env)).all (fun x => !x.1) && (backToKw cpos (keywordEach [] X.env)).all (fun x => x.1.isSome)
    && decide (([e] : List Expr).length + ([] : List Keyword).length + (if ([] : List Keyword).isEmpty then 0 else 1) < 30)) = true
  line : (apos.endLine == cpos.line) = true
  trees : backTo cpos (starEach [e] X.env) = [(false, eval e X.env)]
structure M2 (X : Cx) (o : Expr) (m : Str) (apos : Pos) (e f : Expr) (cpos : Pos) : Prop where
  base : attributeBase o m X.env (eval o X.env) = eval o X.env
  few : ((backTo cpos (starEach [e, f] X.env)).all (fun x => !x.1) && (backToKw cpos (keywordEach [] X.env)).all (fun x => x.1.isSome)
    && decide (([e, f] : List Expr).length + ([] : List Keyword).length + (if ([] : List Keyword).isEmpty then 0 else 1) < 30)) = true
  line : (apos.endLine == cpos.line) = true
  trees : backTo cpos (starEach [e, f] X.env) = [(false, eval e X.env), (false, eval f X.env)]

/-- a is a dict, whatever its keys -/
def IsD (H : Hp) (a : Addr) : Prop := (∃ kvs, Rd H a (.dK kvs)) ∨ ∃ kvs, Rd H a (.dT kvs)
theorem isD_at {X : Cx} {pins : List (Addr × Obj)} {σ : St} {H : Hp} {s : Shared} {a : Addr} (I : Inv X pins σ H s) (d : IsD H a) :
    s.TypeIs (.ref a) "dict" ∧ (∀ b, Value.ref a = .ref b → ∃ ob, s.heap.get? b = some ob ∧ ob.dict = none) ∧ (a == sysModules) = false := by
  rcases d with ⟨kvs, e⟩ | ⟨kvs, e⟩
  · obtain ⟨_, hd, vs, _, dd⟩ := dk_rd I.hok e
    refine ⟨dd.typeIs, fun b q => ?_, hd⟩
    cases q
    obtain ⟨ob, _, _, h1, h2, _⟩ := dd
    exact ⟨ob, h1, h2.2.1⟩
  · obtain ⟨_, hd, xs, _, dd⟩ := dt_rd I.hok e
    refine ⟨dd.typeIs, fun b q => ?_, hd⟩
    cases q
    obtain ⟨ob, _, _, h1, h2, _⟩ := dd
    exact ⟨ob, h1, h2.2.1⟩

section
variable {X : Cx} {pins : List (Addr × Obj)} {σ : St} {H : Hp} {s : Shared} {a : Addr} {y d : V} {u r : Value} {o : Option V} {A : Around} {E : Value → Shared → Prop}
/-- d.get(y) -/
theorem d_get1 {Q : Value → Shared → Prop} (hu : A.units + 1 < cLine) (I : Inv X pins σ H s) (g : DGet H a y o) (ry : RelV y u) (h : ∀ w' s', Inv X pins σ H s' → RelV (o.getD .non) w' → Q w' s') :
    wpAny (model X.prog X.w) A (call (.builtin "dict.get") [.ref a, u]) Q E s := by
  rcases g with ⟨kvs, k, e, ey, l⟩ | ⟨kvs, k, b, e, ey, eb, l⟩
  · subst ey
    obtain ⟨z, hd, vs, rel, dd⟩ := dk_rd I.hok e
    refine call_meetsIn PySem.F.slot_dict_get dd.typeIs PySem.F.entry_dict_get (PySem.F.args_dict_get_2 _ _) (meets_dict_get (mixKind X.prog X.w) a (kV_is ry) hd) ⟨_, dd.mapOf, h _ _ (I.tok _) ?_⟩
    rw [l]
    exact (rel.val k).getD rfl
  · subst ey
    cases (show u = Value.ref b from ry)
    obtain ⟨z, hd, xs, rel, dd⟩ := dt_rd I.hok e
    refine call_meetsIn PySem.F.slot_dict_get dd.typeIs PySem.F.entry_dict_get (PySem.F.args_dict_get_2 _ _) (meetsH_dict_get (tupleKind (mixKind X.prog X.w)) a b hd) ⟨tupleKind_room_in1 hu, k, xs, key_of I.hok eb, dd, h _ _ (I.tok _) ?_⟩
    rw [l]
    exact (rel.val k).getD rfl
/-- d.get(y, x) -/
theorem d_get2 {Q : Value → Shared → Prop} (hu : A.units + 1 < cLine) (I : Inv X pins σ H s) (g : DGet H a y o) (ry : RelV y u) (rd : RelV d r) (h : ∀ w' s', Inv X pins σ H s' → RelV (o.getD d) w' → Q w' s') :
    wpAny (model X.prog X.w) A (call (.builtin "dict.get") [.ref a, u, r]) Q E s := by
  rcases g with ⟨kvs, k, e, ey, l⟩ | ⟨kvs, k, b, e, ey, eb, l⟩
  · subst ey
    obtain ⟨z, hd, vs, rel, dd⟩ := dk_rd I.hok e
    refine call_meetsIn PySem.F.slot_dict_get dd.typeIs PySem.F.entry_dict_get (PySem.F.args_dict_get_3 _ _ _) (meets_dict_get_default (mixKind X.prog X.w) a (kV_is ry) hd r) ⟨_, dd.mapOf, h _ _ (I.tok _) ?_⟩
    rw [l]
    exact (rel.val k).getD rd
  · subst ey
    cases (show u = Value.ref b from ry)
    obtain ⟨z, hd, xs, rel, dd⟩ := dt_rd I.hok e
    refine call_meetsIn PySem.F.slot_dict_get dd.typeIs PySem.F.entry_dict_get (PySem.F.args_dict_get_3 _ _ _) (meetsH_dict_get_default (tupleKind (mixKind X.prog X.w)) a b hd r) ⟨tupleKind_room_in1 hu, k, xs, key_of I.hok eb, dd, h _ _ (I.tok _) ?_⟩
    rw [l]
    exact (rel.val k).getD rd
end

def tDGet1 (td ty : TE) : TE := fun σ H Q => td σ H fun x H1 => ∃ a, x = .ref a ∧ IsD H1 a ∧ ty σ H1 fun y H2 => ∃ o, DGet H2 a y o ∧ Q (o.getD .non) H2
def tDGet2 (td ty tx : TE) : TE := fun σ H Q => td σ H fun x H1 => ∃ a, x = .ref a ∧ IsD H1 a ∧ ty σ H1 fun y H2 => tx σ H2 fun z H3 => ∃ o, DGet H3 a y o ∧ Q (o.getD z) H3
/-- d.pop(k): there; d.pop(k, x): there or not -/
def tDPop1 (td ty : TE) : TE := fun σ H Q => td σ H fun x H1 => ∃ a, x = .ref a ∧ IsD H1 a ∧ ty σ H1 fun y H2 => ∃ kvs k v, H2 a = some (.dK kvs) ∧ y = kV k ∧ valV kvs k = some v ∧ Q v (upd H2 a (.dK (dropK kvs k)))
def tDPop2 (td ty tx : TE) : TE := fun σ H Q => td σ H fun x H1 => ∃ a, x = .ref a ∧ IsD H1 a ∧ ty σ H1 fun y H2 => tx σ H2 fun z H3 => ∃ kvs k, H3 a = some (.dK kvs) ∧ y = kV k ∧
  (∀ v, valV kvs k = some v → Q v (upd H3 a (.dK (dropK kvs k)))) ∧ (valV kvs k = none → Q z H3)
section
variable {X : Cx} {o e f : Expr} {apos cpos : Pos} {td ty tx : TE}
theorem pe_dget1 (hu : X.A.units + 1 < cLine) (ho : PE X o td) (he : PE X e ty) (m : M1 X o "get" apos e cpos) : PE X (.Call (.Attribute o "get" apos) [e] [] cpos) (tDGet1 td ty) := by
  intro pins s σ H Q I h
  refine wpAny_Call_method m.base m.few m.line PySem.F.plainAttrs_dict PySem.F.slot_dict_get PySem.F.type_dict_get (thn (ho pins s σ H _ I h) fun u s1 ⟨x, H1, I1, rx, a, ex, d, q1⟩ => ?_)
  subst ex
  obtain rfl : u = Value.ref a := rx
  obtain ⟨t1, t2, _⟩ := isD_at I1 d
  refine ⟨t1, t2, ?_⟩
  rw [m.trees]
  refine Calls.callWith_builtin rfl (Calls.evalArgs_plain (Calls.spliced_cons (thn (he pins s1 σ H1 _ I1 q1) fun iv s2 ⟨y, H2, I2, ry, ov, g, q2⟩ => Calls.spliced_nil ?_)))
  exact d_get1 hu I2 g ry fun w' s3 I3 rw' => ⟨_, H2, I3, rw', q2⟩
theorem pe_dget2 (hu : X.A.units + 1 < cLine) (ho : PE X o td) (he : PE X e ty) (hf : PE X f tx) (m : M2 X o "get" apos e f cpos) : PE X (.Call (.Attribute o "get" apos) [e, f] [] cpos) (tDGet2 td ty tx) := by
  intro pins s σ H Q I h
  refine wpAny_Call_method m.base m.few m.line PySem.F.plainAttrs_dict PySem.F.slot_dict_get PySem.F.type_dict_get (thn (ho pins s σ H _ I h) fun u s1 ⟨x, H1, I1, rx, a, ex, d, q1⟩ => ?_)
  subst ex
  obtain rfl : u = Value.ref a := rx
  obtain ⟨t1, t2, _⟩ := isD_at I1 d
  refine ⟨t1, t2, ?_⟩
  rw [m.trees]
  refine Calls.callWith_builtin rfl (Calls.evalArgs_plain (Calls.spliced_cons (thn (he pins s1 σ H1 _ I1 q1) fun iv s2 ⟨y, H2, I2, ry, q2⟩ =>
    Calls.spliced_cons (thn (hf pins s2 σ H2 _ I2 q2) fun fv s3 ⟨z, H3, I3, rz, ov, g, q3⟩ => Calls.spliced_nil ?_))))
  exact d_get2 hu I3 g ry rz fun w' s4 I4 rw' => ⟨_, H3, I4, rw', q3⟩
theorem pe_dpop1 (ho : PE X o td) (he : PE X e ty) (m : M1 X o "pop" apos e cpos) : PE X (.Call (.Attribute o "pop" apos) [e] [] cpos) (tDPop1 td ty) := by
  intro pins s σ H Q I h
  refine wpAny_Call_method m.base m.few m.line PySem.F.plainAttrs_dict PySem.F.slot_dict_pop PySem.F.type_dict_pop (thn (ho pins s σ H _ I h) fun u s1 ⟨x, H1, I1, rx, a, ex, d, q1⟩ => ?_)
  subst ex
  obtain rfl : u = Value.ref a := rx
  obtain ⟨t1, t2, _⟩ := isD_at I1 d
  refine ⟨t1, t2, ?_⟩
  rw [m.trees]
  refine Calls.callWith_builtin rfl (Calls.evalArgs_plain (Calls.spliced_cons (thn (he pins s1 σ H1 _ I1 q1) fun iv s2 ⟨y, H2, I2, ry, kvs, k, v, ea, ey, l, q2⟩ => Calls.spliced_nil ?_)))
  subst ey
  exact d_pop I2 ea ry l (.inl rfl) fun w' s3 I3 rw' => ⟨v, _, I3, rw', q2⟩
theorem pe_dpop2 (ho : PE X o td) (he : PE X e ty) (hf : PE X f tx) (m : M2 X o "pop" apos e f cpos) : PE X (.Call (.Attribute o "pop" apos) [e, f] [] cpos) (tDPop2 td ty tx) := by
  intro pins s σ H Q I h
  refine wpAny_Call_method m.base m.few m.line PySem.F.plainAttrs_dict PySem.F.slot_dict_pop PySem.F.type_dict_pop (thn (ho pins s σ H _ I h) fun u s1 ⟨x, H1, I1, rx, a, ex, d, q1⟩ => ?_)
  subst ex
  obtain rfl : u = Value.ref a := rx
  obtain ⟨t1, t2, _⟩ := isD_at I1 d
  refine ⟨t1, t2, ?_⟩
  rw [m.trees]
  refine Calls.callWith_builtin rfl (Calls.evalArgs_plain (Calls.spliced_cons (thn (he pins s1 σ H1 _ I1 q1) fun iv s2 ⟨y, H2, I2, ry, q2⟩ =>
    Calls.spliced_cons (thn (hf pins s2 σ H2 _ I2 q2) fun fv s3 ⟨z, H3, I3, rz, kvs, k, ea, ey, q3, q4⟩ => Calls.spliced_nil ?_))))
  subst ey
  cases l : valV kvs k with
  | some v => exact d_pop I3 ea ry l (.inr ⟨fv, rfl⟩) fun w' s4 I4 rw' => ⟨v, _, I4, rw', q3 v l⟩
  | none => exact d_popD I3 ea ry l fun s4 I4 => ⟨z, H3, I4, rz, q4 l⟩
end

/-! ### dict(d): a copy -/
section
variable {X : Cx} {pins : List (Addr × Obj)} {σ : St} {H : Hp} {s : Shared} {a : Addr} {kvs : List (Key × V)} {A : Around} {E : Value → Shared → Prop}
theorem d_copyOf {Q : Value → Shared → Prop} (I : Inv X pins σ H s) (e : Rd H a (.dK kvs)) (h : ∀ p s', H p = none → Inv X pins σ (upd H p (.dK kvs)) s' → Q (.ref p) s') : wpAny (model X.prog X.w) A (call (.type "dict") [.ref a]) Q E s := by
  obtain ⟨z, hd, vs, rel, dd⟩ := dk_rd I.hok e
  refine kt_call_dict hd dd (by rw [← rel.length]; exact z) fun h' dd' hs => ?_
  refine h _ _ (I.hok.fresh (Nat.le_refl _)) (I.laid (a := s.heap.objs.size) (o := .dK kvs) (t' := s.toks) (fun b q hq => ?_) (Nat.le_refl _) (dk_new z (beq_eq_false_iff_ne.mpr (Ne.symm (Nat.ne_of_lt I.big))) rel dd'))
  exact (hs.2 b (Nat.ne_of_lt (Heap.lt_size hq))).trans (Heap.get?_push_of_some _ hq)
end


section
variable {X : Cx} {pins : List (Addr × Obj)} {σ : St} {H : Hp} {s : Shared} {a : Addr} {y : V} {u : Value} {A : Around} {E : Value → Shared → Prop}
/-- d[y], not there: a KeyError -/
theorem d_missing {Q : Value → Shared → Prop} (hu : A.units + 1 < cLine) (hh : A.handled = none) (I : Inv X pins σ H s) (g : DGet H a y none) (ry : RelV y u)
    (h : ∀ h' e t', Heap.NewExc s.heap h' e "KeyError" → E (.ref e) { s with heap := h', toks := t' }) : wpAny (model X.prog X.w) A (getItem (.ref a) u) Q E s := by
  rcases g with ⟨kvs, k, e, ey, l⟩ | ⟨kvs, k, b, e, ey, eb, l⟩
  · subst ey
    obtain ⟨z, hd, vs, rel, dd⟩ := dk_rd I.hok e
    have hn : valueAt vs k = none := RelO.none_of (by rw [l]; exact rel.val k)
    exact wpAny_getItem_missing_of (kV_is ry) hd hh dd.mapOf hn fun h' ex ne => h h' ex _ ne
  · subst ey
    cases (show u = Value.ref b from ry)
    obtain ⟨z, hd, xs, rel, dd⟩ := dt_rd I.hok e
    have hn : (atKey xs k).map (·.2) = none := RelO.none_of (by rw [l]; exact rel.val k)
    exact wpAny_getItem_missing_heap (tupleKind_room_in1 hu) (key_of I.hok eb) hd hh dd (Option.map_eq_none_iff.mp hn) fun h' ex ne => h h' ex _ ne
end
end L2

namespace Att
open PySem PySem.W PySem.Calls PyProof.Rows

/-! ### the script -/
theorem ints_of_wellAll {P : Params} {h : Heap} : ∀ (ns : List Int) (vs : List Value), WellAll P h vs (ns.map WData.int) → IntsAre vs ns := by
  intro ns
  induction ns with
  | nil =>
    intro vs w
    rw [List.map_nil] at w
    cases w
    exact .nil
  | cons n ns ih =>
    intro vs w
    rw [List.map_cons] at w
    cases w with
    | cons a b =>
      cases a
      exact .cons _ _ (ih _ b)

theorem script_of {l : OpenLaw} {n : Nat} (hn : l.most = some n) {P : Params} {h : Heap} {args : List WData} {vals : List Value}
    (hpre : l.row.toRowW.claim.pre args = true) (hwl : WellAll P h vals args) :
    ∃ a vs ns, vals = [Value.ref a] ∧ args = [WData.list (ns.map WData.int)] ∧ h.get? a = some { cls := .type "list", data := .seq vs.toArray } ∧ IntsAre vs ns ∧ ns.length ≤ n := by
  have hsh : WShape.hasAll [] args [.list .int] = true := (pre_splitW hpre).1
  have hc : l.pre.holds [] { args := args } = true := (pre_splitW hpre).2
  obtain ⟨d, r, rfl, h1, h2⟩ := hasAllW_cons hsh
  obtain rfl := hasAllW_nil h2
  obtain ⟨xs, rfl, h3⟩ := hasW_list h1
  obtain ⟨ns, rfl⟩ := items_int h3
  have hlen : ns.length ≤ n := by
    unfold OpenLaw.pre at hc
    have h4 : (WTm.not (.lt (.lit (.int (n : Int))) (.len (.arg 0)))).holds [] { args := [.list (ns.map .int)] } = true := by
      have h4 := (holds_andW hc).1
      rw [hn] at h4
      exact h4
    have h5 := condW_of h4 (w_not (w_lt w_lit (w_len_list (w_arg rfl))))
    rw [List.length_map] at h5
    refine Nat.le_of_not_lt fun q => ?_
    have q' : (n : Int) < ((ns.length : Nat) : Int) := by omega
    first
      | (rw [decide_eq_true q'] at h5; exact absurd h5 (by decide))
      | (simp at h5; omega)
  cases hwl with
  | cons w1 w2 =>
    cases w2
    cases w1 with
    | list ho hall => exact ⟨_, _, ns, rfl, rfl, ho, ints_of_wellAll ns _ hall, hlen⟩

theorem post_true (l : OpenLaw) (args : List WData) : l.row.toRowW.claim.post args (.bool true) args = true :=
  postW_of (r := l.row.toRowW) (X := (true == true))
    (show WShape.has [] (.bool true) .bool = true by first | rfl | decide | simp [WShape.has, WShape.arms, WShape.armsAll])
    (show (WTm.eq .res (.lit (.bool true))).value [] { args := args, res := some (.bool true), after := args } = some (.bool (true == true)) from w_eq_bool (w_res rfl) w_lit) rfl

/-! ### the attachment: holds_open's last premise (the goal 'hc' behind k_head) from a wpAny of the law's body -/
theorem attach {l : OpenLaw} {n : Nat} {q : Program} {loose : List Str} {XP : (Str → Option Value) → Heap → Prop} {YP : World → Heap → Prop} {d : DefRec} {x : Str}
    (hn : l.most = some n) (hdf : d.params.defaults = [])
    (hbind : ∀ pm cd doc v : Value, bindArgs (docDef d.name d.params d.body d.scope pm cd doc) ⟨[v], []⟩ = pure [(x, v)])
    (hx : d.scope.names.lookup x = some .local ∨ d.scope.names.lookup x = some .cell)
    (hk : d.scope.kind = .function) (hco : d.scope.isCoroutine = false) (hgen : d.scope.isGenerator = false)
    (body : ∀ (w : World) (s₀ s₁ s : Shared) (mg mb : Str → Option Value) (fa : Addr) (o : Obj) (pm cd doc : Value) (a : Addr) (vs : List Value) (ns : List Int),
      Ground q loose [] XP w s₀ mg mb s₁.heap → YP w s₁.heap →
      s₁.heap.get? fa = some o → o.data = .func (docDef d.name d.params d.body d.scope pm cd doc) → s₁.heap.CodeRec cd d.name → mg d.name = some (.ref fa) →
      s₁.heap.get? a = some { cls := .type "list", data := .seq vs.toArray } → IntsAre vs ns → ns.length ≤ n →
      s.gens = #[] → s.os = s₁.os →
      Fr s₁.heap s₁.heap.objs.size s.heap (bindL (envOfC d.name d.scope s₁.heap.objs.size fa cd).kindOf [(x, .ref a)] fun _ => none) →
      Cl s₁.heap.objs.size (cellsFrom (s₁.heap.objs.size + 1) d.scope.names []) s.heap (bindC (envOfC d.name d.scope s₁.heap.objs.size fa cd).kindOf [(x, .ref a)] fun _ => none) →
      wpAny (model l.prog w) (callerA.deeper (envOfC d.name d.scope s₁.heap.objs.size fa cd)) (execs d.body (envOfC d.name d.scope s₁.heap.objs.size fa cd))
        (fun f s' => f = .ret (.bool true) ∧ OldK s₁.heap s'.heap ∧ s'.os = s₁.os ∧ AllBare s'.gens) (fun _ _ => False) s) :
    WalkO q loose XP YP l.row.toRowW d [] (fun f vs => PySem.call f vs) := by
  intro w s₀ s₁ mg mb G Y fa o pm cd doc dV kV ho hd hcd hD hmg hg args vals as hpre hlay hrd hwl hlo
  obtain rfl : dV = .none := Dflts.none hD hdf
  obtain rfl : kV = .none := Dflts.noKw hD
  obtain ⟨a, vs, ns, rfl, rfl, hobj, hints, hlen⟩ := script_of hn hpre hwl
  refine enter_call ?_
  refine call_cells_ret (o := o) (by rw [depth_caller]; decide) ho (fd_plain hd) G.T.nolimit hcd (hbind pm cd doc (.ref a)) (fun y hy => ?_) (fun h₁ tk F X => ?_) hco hgen hk
  · obtain rfl : y = (x, Value.ref a) := List.mem_singleton.mp hy
    rcases hx with e | e
    · exact .inl e
    · exact .inr ⟨e, cellsFrom_some _ _ _ (.inl e)⟩
  · refine wpAny_mono (body w s₀ s₁ { s₁ with heap := h₁, toks := tk } mg mb fa o pm cd doc a vs ns G Y ho (fd_plain hd) hcd hmg hobj hints hlen hg rfl F X) (fun f s' hq => ?_) (fun _ _ hq => hq)
    obtain ⟨rfl, h2, h3, h4⟩ := hq
    exact ⟨.inl ⟨.bool true, .bool true, [], rfl, fun _ => rfl, .bool true, post_true l _, fun _ => ⟨List.Pairwise.nil, fun _ hm => (nomatch hm)⟩⟩, h2, h3, h4⟩

/-- the same from a codeAny of the CALL (for a layer whose function contracts speak of calls) -/
theorem attach_call {l : OpenLaw} {n : Nat} {q : Program} {loose : List Str} {XP : (Str → Option Value) → Heap → Prop} {YP : World → Heap → Prop} {d : DefRec}
    (hn : l.most = some n) (hdf : d.params.defaults = [])
    (call : ∀ (w : World) (s₀ s₁ : Shared) (mg mb : Str → Option Value) (fa : Addr) (o : Obj) (pm cd doc : Value) (a : Addr) (vs : List Value) (ns : List Int),
      Ground q loose [] XP w s₀ mg mb s₁.heap → YP w s₁.heap →
      s₁.heap.get? fa = some o → o.data = .func (docDef d.name d.params d.body d.scope pm cd doc) → s₁.heap.CodeRec cd d.name → mg d.name = some (.ref fa) →
      s₁.heap.get? a = some { cls := .type "list", data := .seq vs.toArray } → IntsAre vs ns → ns.length ≤ n → s₁.gens = #[] →
      codeAny (model l.prog w) callerA (.call (.ref fa) ⟨[.ref a], []⟩) (fun r s' => r = .ok (.ret (.bool true)) ∧ OldK s₁.heap s'.heap ∧ s'.os = s₁.os ∧ AllBare s'.gens) s₁) :
    WalkO q loose XP YP l.row.toRowW d [] (fun f vs => PySem.call f vs) := by
  intro w s₀ s₁ mg mb G Y fa o pm cd doc dV kV ho hd hcd hD hmg hg args vals as hpre hlay hrd hwl hlo
  obtain rfl : dV = .none := Dflts.none hD hdf
  obtain rfl : kV = .none := Dflts.noKw hD
  obtain ⟨a, vs, ns, rfl, rfl, hobj, hints, hlen⟩ := script_of hn hpre hwl
  refine enter_call (codeAny_mono (call w s₀ s₁ mg mb fa o pm cd doc a vs ns G Y ho (fd_plain hd) hcd hmg hobj hints hlen hg) fun r s' hq => ?_)
  obtain ⟨rfl, h2, h3, h4⟩ := hq
  exact ⟨.inl ⟨.bool true, .bool true, [], rfl, fun _ => rfl, .bool true, post_true l _, fun _ => ⟨List.Pairwise.nil, fun _ hm => (nomatch hm)⟩⟩, h2, h3, h4⟩

/-- the same where the top left finished generators (o_head chose holds_openN): nothing may have changed at all and no generator may be left -/
theorem attachN {l : OpenLaw} {n : Nat} {q : Program} {loose : List Str} {XP : (Str → Option Value) → Heap → Prop} {YP : World → Heap → Prop} {d : DefRec} {x : Str}
    (hn : l.most = some n) (hdf : d.params.defaults = [])
    (hbind : ∀ pm cd doc v : Value, bindArgs (docDef d.name d.params d.body d.scope pm cd doc) ⟨[v], []⟩ = pure [(x, v)])
    (hx : d.scope.names.lookup x = some .local ∨ d.scope.names.lookup x = some .cell)
    (hk : d.scope.kind = .function) (hco : d.scope.isCoroutine = false) (hgen : d.scope.isGenerator = false)
    (body : ∀ (w : World) (s₀ s₁ s : Shared) (mg mb : Str → Option Value) (fa : Addr) (o : Obj) (pm cd doc : Value) (a : Addr) (vs : List Value) (ns : List Int),
      Ground q loose [] XP w s₀ mg mb s₁.heap → YP w s₁.heap →
      s₁.heap.get? fa = some o → o.data = .func (docDef d.name d.params d.body d.scope pm cd doc) → s₁.heap.CodeRec cd d.name → mg d.name = some (.ref fa) →
      s₁.heap.get? a = some { cls := .type "list", data := .seq vs.toArray } → IntsAre vs ns → ns.length ≤ n →
      s.gens = #[] → s.os = s₁.os →
      Fr s₁.heap s₁.heap.objs.size s.heap (bindL (envOfC d.name d.scope s₁.heap.objs.size fa cd).kindOf [(x, .ref a)] fun _ => none) →
      Cl s₁.heap.objs.size (cellsFrom (s₁.heap.objs.size + 1) d.scope.names []) s.heap (bindC (envOfC d.name d.scope s₁.heap.objs.size fa cd).kindOf [(x, .ref a)] fun _ => none) →
      wpAny (model l.prog w) (callerA.deeper (envOfC d.name d.scope s₁.heap.objs.size fa cd)) (execs d.body (envOfC d.name d.scope s₁.heap.objs.size fa cd))
        (fun f s' => f = .ret (.bool true) ∧ (∀ b o, s₁.heap.get? b = some o → s'.heap.get? b = some o) ∧ s'.os = s₁.os ∧ s'.gens = #[]) (fun _ _ => False) s) :
    WalkN q loose XP YP l.row.toRowW d [] (fun f vs => PySem.call f vs) := by
  intro w s₀ s₁ mg mb G Y fa o pm cd doc dV kV ho hd hcd hD hmg hg args vals as hpre hlay hrd hwl hlo
  obtain rfl : dV = .none := Dflts.none hD hdf
  obtain rfl : kV = .none := Dflts.noKw hD
  obtain ⟨a, vs, ns, rfl, rfl, hobj, hints, hlen⟩ := script_of hn hpre hwl
  refine enter_callW ?_
  refine call_cells_ret (o := o) (by rw [depth_caller]; decide) ho (fd_plain hd) G.T.nolimit hcd (hbind pm cd doc (.ref a)) (fun y hy => ?_) (fun h₁ tk F X => ?_) hco hgen hk
  · obtain rfl : y = (x, Value.ref a) := List.mem_singleton.mp hy
    rcases hx with e | e
    · exact .inl e
    · exact .inr ⟨e, cellsFrom_some _ _ _ (.inl e)⟩
  · refine wpAny_mono (body w s₀ s₁ { s₁ with heap := h₁, toks := tk } mg mb fa o pm cd doc a vs ns G Y ho (fd_plain hd) hcd hmg hobj hints hlen hg rfl F X) (fun f s' hq => ?_) (fun _ _ hq => hq)
    obtain ⟨rfl, h2, h3, h4⟩ := hq
    exact ⟨.inl ⟨.bool true, .bool true, [], rfl, fun _ => rfl, .bool true, post_true l _, fun _ => ⟨List.Pairwise.nil, fun _ hm => (nomatch hm)⟩⟩, h2, h3, h4⟩

/-! ### rules over ANY heap (no ledger) from facts about the written part K: the library's own take a ledger (News) for what they write -/
section
variable {prog : Program} {w : World} {A : Around} {E : Value → Shared → Prop} {s : Shared} {K : Frag}

/-- a def of the module, or a method (qual 'C.m'), entered: the frame is the next address; cells behind it -/
theorem call_fn {R : Result → Shared → Prop} {name qual : Str} {params : Arguments} {body : List Stmt} {scope : Scope} {dV kV doc pm cdv ct oc : Value} {an od : Option Addr} {osl : Array (Option Value)} {f : Addr} {args : Args} {binds : List (Str × Value)}
    (X : K.In s.heap) (hlim : s.heap.NoLimit) (ho : K.lookup f = some ⟨oc, od, .func (fnOf name qual params body scope dV kV doc pm an cdv ct), osl⟩) (hcd : codeIn K cdv qual = true) (hroom : A.depth < recursionLimit)
    (hbind : BindsTo s (fnOf name qual params body scope dV kV doc pm an cdv ct) args binds)
    (hkind : (binds.all fun y => scope.names.lookup y.1 == some .local || scope.names.lookup y.1 == some .cell) = true)
    (h : ∀ s₁, InCallC s s.heap.objs.size (bindL (envOfC qual scope s.heap.objs.size f cdv).kindOf binds fun _ => none) (cellsFrom (s.heap.objs.size + 1) scope.names [])
        (bindC (envOfC qual scope s.heap.objs.size f cdv).kindOf binds fun _ => none) s₁ →
      wpAny (model prog w) (A.deeper (envOfC qual scope s.heap.objs.size f cdv)) (execs body (envOfC qual scope s.heap.objs.size f cdv))
        (fun fl s' => R (.ok (.ret (match fl with | .ret v => v | _ => .none))) s')
        (fun e s' => wpAny (model prog w) (A.deeper (envOfC qual scope s.heap.objs.size f cdv)) (leaving (envOfC qual scope s.heap.objs.size f cdv) e) (fun _ s'' => R (.error e) s'') (fun e' s'' => R (.error e') s'') s') s₁)
    (hco : scope.isCoroutine = false) (hgen : scope.isGenerator = false) (hk : scope.kind = .function) : codeAny (model prog w) A (.call (.ref f) args) R s := by
  refine codeAny_call_function hroom (X _ _ ho) rfl hco hgen rfl (codeRec_of X hcd) (hbind _ _ _ _ ?_)
  refine wpAny_newFunctionEnv_cells hk (kindsX hkind _) fun env he s₁ x => ?_
  subst he
  exact ⟨hlim.keeps x.toInCall.keep, codeAny_func (h s₁ x)⟩

/-- C(..): dict at size, instance at size + 1, then __init__ -/
theorem make_obj {R : Result → Shared → Prop} {C fI : Addr} {rest : List Value} {kw : List (Str × Value)}
    (X : K.In s.heap) (hm : makesIn K C = true) (hi : findIn K (.ref C) "__init__" = some (some (.ref fI))) (hf : isFn K (.ref fI) = true)
    (h : codeAny (model prog w) (A.under (.builtin "type.__call__" ⟨.ref C :: rest, kw⟩)) (.call (.ref fI) ⟨.ref (s.heap.objs.size + 1) :: rest, kw⟩) (InitBack (s.heap.objs.size + 1) R)
      { s with heap := (s.heap.push emptyDict).push (instObj C s.heap.objs.size) }) : codeAny (model prog w) A (.call (.ref C) ⟨rest, kw⟩) R s := by
  obtain ⟨hh, g, d, t, os⟩ := s
  exact make_core (makes_of X hm) (looks_findIn X hi) (fun self => bind_fn X self (beq_iff_eq.mp hf)) (.inl rfl) h

/-- x.name where the instance's dict holds the name and the class does not -/
theorem get_field {x C : Addr} {ox : Obj} {es : List DictEntry} {n : Nat} {name : Str} {expr : Bool} {v : Value} {Q : Value → Shared → Prop}
    (X : K.In s.heap) (I : PySem.W.InstAt s.heap x ox C (some (dictOf es n))) (hg : plainGet K C name = true) (hh : hasDictIn K C = true) (ha : findIn K (.ref C) name = some none)
    (hl : getL name es = some (some v)) (hv : handedIn v = true) (h : Q v { s with toks := s.toks + 1 }) : wpAny (model prog w) A (getAttr (.ref x) name expr) Q E s :=
  get_value X I (plainGet_of hg).1 (findObj_own hh ha rfl hl) hv h

/-- x.m(..): the method found in the class -/
theorem get_method {x C f : Addr} {ox : Obj} {es : List DictEntry} {n : Nat} {name : Str} {pl : Sem Bool} {Q : Value × List Value → Shared → Prop}
    (X : K.In s.heap) (I : PySem.W.InstAt s.heap x ox C (some (dictOf es n))) (hg : plainGet K C name = true) (hf : findIn K (.ref C) name = some (some (.ref f))) (ht : isFn K (.ref f) = true)
    (hl : getL name es = some none) (h : Q (.ref f, [.ref x]) s) : wpAny (model prog w) A (getMethod (.ref x) name pl) Q E s :=
  method_fn X I (plainGet_of hg).1 (plainGet_of hg).2 hf (beq_iff_eq.mp ht) (by show (lookIn name (dictOf es n)).map _ = _; rw [lookIn_dict, hl]; rfl) h

/-! the whole heap as the ledger: makes every rule that writes through a ledger a rule over any heap -/
def noObjs (h : Heap) : Heap := { h with objs := #[] }
theorem noObjs_get (h : Heap) (b : Addr) : (noObjs h).get? b = none := by
  cases e : (noObjs h).get? b with
  | none => rfl
  | some o => exact absurd (Heap.lt_size e) (Nat.not_lt_zero _)
def ledger (h : Heap) (L d : Addr) : List (Addr × Obj) := (List.range h.objs.size).filterMap fun a => if a = L ∨ a = d then none else (h.get? a).map fun o => (a, o)
theorem mem_ledger {h : Heap} {L d a : Addr} {o : Obj} : (a, o) ∈ ledger h L d ↔ a ≠ L ∧ a ≠ d ∧ h.get? a = some o := by
  unfold ledger
  rw [List.mem_filterMap]
  constructor
  · rintro ⟨b, _, e⟩
    split at e
    · cases e
    · rename_i hb
      obtain ⟨o', ho, e'⟩ := Option.map_eq_some_iff.mp e
      cases e'
      exact ⟨fun q => hb (.inl q), fun q => hb (.inr q), ho⟩
  · rintro ⟨n1, n2, ho⟩
    refine ⟨a, List.mem_range.mpr (Heap.lt_size ho), ?_⟩
    rw [if_neg (show ¬ (a = L ∨ a = d) from fun q => q.elim n1 n2), ho] <;> rfl
theorem news_ledger {h : Heap} {L d : Addr} {od : Obj} (hne : d ≠ L) (ho : h.get? d = some od) : News (noObjs h) L h ([] ++ (d, od) :: ledger h L d) := by
  rintro ⟨a, o⟩ hp
  rcases List.mem_cons.mp hp with e | hp
  · cases e
    exact ⟨ho, hne, noObjs_get _ _⟩
  · obtain ⟨n1, n2, e⟩ := mem_ledger.mp hp
    exact ⟨e, n1, noObjs_get _ _⟩
theorem fr_all {h : Heap} {L : Addr} {m : Str → Option Value} (n : h.Ns L m) : Fr (noObjs h) L h m :=
  ⟨n, fun b o e => (by rw [noObjs_get] at e; cases e), Nat.zero_le _⟩
/-- Upd of the head entry (for append_K, setItem_K ..) -/
theorem upd_ledger {h : Heap} {L d : Addr} {o o' : Obj} : Upd d o o' ((d, o) :: ledger h L d) ((d, o') :: ledger h L d) :=
  .head fun ⟨_, _⟩ hp => (mem_ledger.mp hp).2.1

/-- x.name = v over any heap: L is any namespace of the heap (the frame's, say): its map stays, its object is not told; all else but the dict stays -/
theorem set_field {x C dx L : Addr} {ox : Obj} {m : Str → Option Value} {es es' : List DictEntry} {n n' : Nat} {name : Str} {v : Value} {Q : Unit → Shared → Prop}
    (X : K.In s.heap) (I : PySem.W.InstAt s.heap x ox C (some (dictOf es n))) (hd : ox.dict = some dx) (hL : s.heap.Ns L m) (hne : dx ≠ L)
    (hs : findIn K (.ref C) "__setattr__" = some (some (.builtin "object.__setattr__"))) (hp : plainOver K C = true) (ht : takerIn K C name = some none) (hh : hasDictIn K C = true) (hl : (getL name es).isSome = true)
    (e : (putL name (PyData.keyHash w.params name) (.str name (s.toks + 1)) v es, putN name es n) = (es', n')) (hz : es'.length ≤ 1000)
    (h : ∀ h' : Heap, h'.Ns L m → h'.get? dx = some (dictOf es' n') → (∀ b o, b ≠ dx → b ≠ L → s.heap.get? b = some o → h'.get? b = some o) → Q () { s with heap := h', toks := s.toks + 2 }) :
    wpAny (model prog w) A (setAttr (.ref x) name v) Q E s := by
  obtain ⟨e1, e2⟩ := Prod.mk.inj e
  have hdx : s.heap.get? dx = some (dictOf es n) := by
    have := I.dict
    rw [hd] at this
    exact this
  refine set_plain X I hs (osa_dict (s := { s with toks := s.toks + 1 }) (h₀ := noObjs s.heap) (L := L) (m := m) (od := dictOf es n) (od' := dictOf es' n') (es := es') (n := n') (pre := []) (post := ledger s.heap L dx)
    (fr_all hL) (news_ledger hne hdx) X I hd hp ht hh hl (fun _ q => nomatch q) (fun ⟨_, _⟩ q => (mem_ledger.mp q).2.1) (by rw [putName_dict, e1, e2]) rfl hz fun h' F' N' => ?_)
  exact h h' F'.ns (N'.get (List.Mem.head _)) fun b o n1 n2 ho => N'.get (List.Mem.tail _ (mem_ledger.mpr ⟨n2, n1, ho⟩))
end
end Att

namespace L2
open PySem PySem.Spec PyProof.Rows

theorem vals_ints : ∀ {vs : List Value} {ns : List Int}, IntsAre vs ns → Vals (ns.map V.int) vs
  | _, _, .nil => .nil
  | _, _, .cons n t h => .cons ⟨t, rfl⟩ (vals_ints h)

/-- nothing is tracked but the script, known to the object (or it is an object of the module) -/
def Only (H : Hp) : Prop := ∀ b, H b = none ∨ ∃ o xs, H b = some (.frz o (.lst xs))

/-- THE HEAD: the law's promise, at the heap behind the top. F, the promise of the law's def, may use that base is part of the heap (so K.In base, base.Ns mainGlobals mg stand in Mod) -/
theorem law_call {P : Program} {w : World} {K : PySem.W.Frag} {mg mb : Str → Option Value} {CX : CXT} {k : Nat} {fa a : Addr} {fd : FuncData} {x : Str} {sp : Sp} {s₁ : Shared} {vs : List Value} {ns : List Int}
    (KX : K.In s₁.heap) (hns : s₁.heap.Ns mainGlobals mg) (hb : s₁.heap.Ns builtinsNs mb) (hbb : ∀ x : Str, x ≠ "__name__" → mb x = bootBuiltins x) (hlim : s₁.heap.NoLimit) (hg : s₁.gens = #[])
    (ha : s₁.heap.get? a = some { cls := .type "list", data := .seq vs.toArray }) (hi : IntsAre vs ns) (hl : ns.length ≤ sizeLine) (hr : Room k callerA)
    (F : ∀ base : Heap, K.In base → base.Ns mainGlobals mg → FnOk P w K mg base CX k fa fd [x] sp) (hbind : ∀ (s : Shared) (u : Value), BindsTo s fd ⟨[u], []⟩ [(x, u)])
    (hsp : ∀ H : Hp, Only H → SqL K H a (ns.map V.int) → sp [.ref a] H (fun v _ => v = .bl true) fun _ _ _ => False)
    (hCX : ∀ H e s', CX [] H s₁ (fun _ _ _ => False) e s' → False) :
    codeAny (model P w) callerA (.call (.ref fa) ⟨[.ref a], []⟩) (fun r s' => r = .ok (.ret (.bool true)) ∧ OldK s₁.heap s'.heap ∧ s'.os = s₁.os ∧ AllBare s'.gens) s₁ := by
  have rv := vals_ints hi
  have lenV := hi.length
  -- from an abstract heap in which nothing but the script may be tracked
  have core : ∀ H : Hp, Only H → SqL K H a (ns.map V.int) → HOk P w H s₁.heap → (∀ b, H b ≠ none → b = a) → (H a ≠ none → K.lookup a = none) →
      codeAny (model P w) callerA (.call (.ref fa) ⟨[.ref a], []⟩) (fun r s' => r = .ok (.ret (.bool true)) ∧ OldK s₁.heap s'.heap ∧ s'.os = s₁.os ∧ AllBare s'.gens) s₁ := by
    intro H hO hS hok hA hK
    have base_of : ∀ {b : Addr} {o : Obj}, s₁.heap.get? b = some o → H b = none → (hidT s₁.heap H).get? b = some o := fun e n => hidT_get e n
    have noA : ∀ {b : Addr} {o : Obj} {es : Array DictEntry} {ep : Nat}, s₁.heap.get? b = some o → o.data = .dict es ep → H b = none := fun {b o es ep} e d => by
      cases q : H b with
      | none => rfl
      | some u =>
        have e' : b = a := hA b (by rw [q]; simp)
        subst e'
        rw [ha] at e; cases e
        have d' : Data.seq vs.toArray _ = Data.dict es ep := d
        cases d'
    have nsK : ∀ {b : Addr} {m : Str → Option Value}, s₁.heap.Ns b m → (hidT s₁.heap H).Ns b m := fun {b m} ⟨o, es, ep, e, d, r⟩ => ⟨o, es, ep, base_of e (noA e d), d, r⟩
    have hKb : K.In (hidT s₁.heap H) := fun b o e => base_of (KX b o e) (by
      cases q : H b with
      | none => rfl
      | some u =>
        have e' : b = a := hA b (by rw [q]; simp)
        subst e'
        rw [hK (by rw [q]; simp)] at e; cases e)
    have hM : Mod K mg (hidT s₁.heap H) := ⟨hKb, nsK hns, ⟨mb, nsK hb, hbb⟩, let ⟨mc, h1, h2⟩ := hlim; ⟨mc, nsK h1, h2⟩⟩
    have e0 : Env0 P w K mg (hidT s₁.heap H) callerA [] s₁ H := ⟨rfl, hM, fun b o e => of_hidT e, Nat.le_of_eq (hidT_size _ _), trivial, fun b hb => absurd (show b ∈ ([] : List Addr) from hb) (by simp), hok, .of_eq hg⟩
    refine codeAny_mono ((F _ hKb (nsK hns)).run callerA [] s₁ H ⟨[.ref a], []⟩ [.ref a] [.ref a] _ _ hr e0 (hbind s₁ (.ref a)) (.cons rfl .nil) (hsp H hO hS)) fun r s' h => ?_
    cases r with
    | error e => exact (hCX H e s' h).elim
    | ok fl =>
      cases fl with
      | next => exact False.elim h
      | brk => exact False.elim h
      | cont => exact False.elim h
      | ret u =>
        obtain ⟨v, H', os, bare, un, hok', r', q⟩ := h
        have q' : v = .bl true := q
        subst q'
        obtain rfl : u = Value.bool true := r'
        refine ⟨rfl, OldK.of_keep fun b o e => ?_, os, bare⟩
        cases q : H b with
        | none => exact un.keep b o e q (by intro z; exact absurd (show b ∈ ([] : List Addr) from z) (by simp)) (by simp)
        | some u =>
          rcases hO b with z | ⟨ob, xs, z⟩
          · rw [q] at z; cases z
          · have z2 := un.frzs b ob _ z
            obtain ⟨e1, _⟩ := hok b _ z
            obtain ⟨e2, _⟩ := hok' b _ z2
            rw [e] at e1; cases e1
            exact e2
  cases hk : K.lookup a with
  | some o =>
    -- the script is one of the module's own objects
    have e := KX a o hk
    rw [ha] at e
    cases e
    refine core (fun _ => none) (fun _ => .inl rfl) (.inr ⟨_, vs.toArray, _, hk, rfl, rfl, rfl, by rw [List.size_toArray, lenV]; exact hl, by simpa using rv⟩) (fun b u z => by have z' : (none : Option HO) = some u := z; cases z') (fun b z => absurd rfl z) fun z => absurd rfl z
  | none =>
    refine core (fun b => if b = a then some (.frz { cls := .type "list", data := .seq vs.toArray } (.lst (ns.map V.int))) else none) (fun b => ?_) (.inl (.inr ⟨{ cls := .type "list", data := .seq vs.toArray }, if_pos rfl⟩)) (fun b u z => ?_) (fun b z => ?_) fun _ => hk
    · by_cases hb : b = a
      · exact .inr ⟨_, _, if_pos hb⟩
      · exact .inl (if_neg hb)
    · by_cases hb : b = a
      · have z' := (if_pos hb).symm.trans z
        cases z'
        subst hb
        exact ⟨ha, by rw [List.length_map]; exact hl, vs, _, rv, ha⟩
      · have z' := (if_neg hb).symm.trans z
        cases z'
    · by_cases hb : b = a
      · exact hb
      · exact absurd (if_neg hb) z
end L2

namespace L2
open PySem PySem.Spec PyProof.Rows

abbrev KOf {K : PySem.W.Frag} {h : Heap} (_ : K.In h) : PySem.W.Frag := K

/-- the goal that k_head leaves (case hc), from the law's promise. F gives the function object fd (K's own) once, then the promise over every base -/
theorem walk_of {l : PySem.W.OpenLaw} {n k : Nat} {q : Program} {loose : List Str} {XP : (Str → Option Value) → Heap → Prop} {YP : World → Heap → Prop} {d : DefRec} {K : Params → PySem.W.Frag} {CX : World → CXT} {sp : World → Sp} {x : Str}
    (hn : l.most = some n) (hn2 : n ≤ sizeLine) (hdf : d.params.defaults = []) (hr : Room k callerA)
    (hY : ∀ (w : World) (h : Heap), YP w h → (K w.params).In h)
    (F : ∀ (w : World) (mg : Str → Option Value) (fa : Addr) (h : Heap), (K w.params).In h → h.Ns mainGlobals mg → mg d.name = some (.ref fa) →
      ∃ fd : FuncData, (∀ (s : Shared) (u : Value), BindsTo s fd ⟨[u], []⟩ [(x, u)]) ∧
        ∀ base : Heap, (K w.params).In base → base.Ns mainGlobals mg → FnOk l.prog w (K w.params) mg base (CX w) k fa fd [x] (sp w))
    (hsp : ∀ (w : World) (H : Hp) (a : Addr) (ns : List Int), ns.length ≤ n → Only H → SqL (K w.params) H a (ns.map V.int) → sp w [.ref a] H (fun v _ => v = .bl true) fun _ _ _ => False)
    (hCX : ∀ (w : World) (H : Hp) (s : Shared) (e : Value) (s' : Shared), CX w [] H s (fun _ _ _ => False) e s' → False) :
    PySem.W.WalkO q loose XP YP l.row.toRowW d [] (fun f vs => PySem.call f vs) := by
  refine Att.attach_call hn hdf fun w s₀ s₁ mg mb fa o pm cd doc a vs ns G Y ho hd hcd hmg hobj hints hlen hg => ?_
  have KX := hY w _ Y
  obtain ⟨fd, hb, hF⟩ := F w mg fa _ KX G.T.g hmg
  exact law_call KX G.T.g G.T.b G.T.builtins G.T.nolimit hg hobj hints (Nat.le_trans hlen hn2) hr hF hb (fun H hO hS => hsp w H a ns hlen hO hS) fun H e s' => hCX w H s₁ e s'
/-- the same where the promise hangs on the written part alone: (sp := My.sp_law), no hole under a binder -/
theorem walk_ofK {l : PySem.W.OpenLaw} {n k : Nat} {q : Program} {loose : List Str} {XP : (Str → Option Value) → Heap → Prop} {YP : World → Heap → Prop} {d : DefRec} {K : Params → PySem.W.Frag} {CX : CXT} {sp : PySem.W.Frag → Sp} {x : Str}
    (hn : l.most = some n) (hn2 : n ≤ sizeLine) (hdf : d.params.defaults = []) (hr : Room k callerA)
    (hY : ∀ (w : World) (h : Heap), YP w h → (K w.params).In h)
    (F : ∀ (w : World) (mg : Str → Option Value) (fa : Addr) (h : Heap), (K w.params).In h → h.Ns mainGlobals mg → mg d.name = some (.ref fa) →
      ∃ fd : FuncData, (∀ (s : Shared) (u : Value), BindsTo s fd ⟨[u], []⟩ [(x, u)]) ∧
        ∀ base : Heap, (K w.params).In base → base.Ns mainGlobals mg → FnOk l.prog w (K w.params) mg base CX k fa fd [x] (sp (K w.params)))
    (hsp : ∀ (K : PySem.W.Frag) (H : Hp) (a : Addr) (ns : List Int), ns.length ≤ n → Only H → SqL K H a (ns.map V.int) → sp K [.ref a] H (fun v _ => v = .bl true) fun _ _ _ => False)
    (hCX : ∀ (H : Hp) (s : Shared) (e : Value) (s' : Shared), CX [] H s (fun _ _ _ => False) e s' → False) :
    PySem.W.WalkO q loose XP YP l.row.toRowW d [] (fun f vs => PySem.call f vs) :=
  walk_of (K := K) (CX := fun _ => CX) (sp := fun w => sp (K w.params)) hn hn2 hdf hr hY F (fun w H a ns h1 h2 h3 => hsp (K w.params) H a ns h1 h2 h3) fun _ H s e s' => hCX H s e s'
end L2

/- THE LAST THEOREM (shape; LID, My.* are yours):
   My.Adr: a structure of the addresses that your layer names (classes, functions); My.Txt K t: a structure (Prop) of the equations over K;
   My.txt_mk : {K} {implicit addresses ..} (e1 : nsIn K mainGlobals "law" = some (some (.ref f))) (e2 : K.lookup f = some ⟨oc, od, .func (fnOf "law" "law" params body scope dV kV doc pm an cdv ct), sl⟩) (e3 : codeIn K cdv "law" = true) .. : ∃ t, My.Txt K t

set_option maxRecDepth 100000 in
set_option maxHeartbeats 0 in
theorem PySem.Challenge.cw_LID_holds : PySem.Challenge.rw_LID.Holds := by
  w_on; o_law; k_head; (case hw => w_witness2)
  k_fill
  refine L2.walk_of (l := PySem.Challenge.rw_LID) (n := 63) (k := 40) (x := "script") (CX := fun w => ..) (sp := fun _ => My.sp_law) rfl (by decide) rfl ⟨rfl, by decide, by decide⟩ (fun w h Y => PySem.W.kIn_of Y) ?F ?S ?C
  case F =>
    intro w mg fa h KX G hmg
    have T : ∃ t, My.Txt (L2.KOf KX) t := by
      dsimp only [L2.KOf]                          -- K must stand as «<heap const> w.params» for k_is
      refine' My.txt_mk ?e1 ?e2 ?e3 ..
      (case e1 => PySem.W.k_is)                    -- in the order: a name -> its address -> its object -> its parts
      (case e2 => PySem.W.k_is)
      ..
    obtain ⟨t, T⟩ := T
    have e0 := hmg.symm.trans (PySem.W.mg_of KX G T.law)
    cases e0                                       -- fa is the law's own address
    exact ⟨_, fun s u => .of_eq rfl, fun base kb nb => My.law_fn T kb nb⟩     -- if «.of_eq rfl» comes too early: refine' ⟨_, ?b, fun base kb nb => My.law_fn T kb nb⟩; exact fun s u => .of_eq rfl
  case S => exact fun w H a ns hl hO hS => ..
  case C => exact ..
(the tactic k_is has no namespace: write k_is) -/

/-! SHORT WORDS over the layer: a def of the text, its body, what a loop and a test want. -/
namespace L2
open PySem PySem.Spec PyProof.Rows

/-! ### the text by places -/
/-- the j-th statement of a class's body -/
def inClass (s : Stmt) (j : Nat) : Stmt := match s with
  | .ClassDef _ _ _ body _ _ _ _ _ _ _ => body.getD j (.Pass ⟨0, 0, 0, 0⟩)
  | _ => .Pass ⟨0, 0, 0, 0⟩
def defArgs (s : Stmt) : Arguments := match s with
  | .FunctionDef _ a _ _ _ _ _ _ _ _ => a
  | _ => { posonlyargs := [], args := [], vararg := none, kwonlyargs := [], kw_defaults := [], kwarg := none, defaults := [] }
def defBody (s : Stmt) : List Stmt := match s with
  | .FunctionDef _ _ b _ _ _ _ _ _ _ => b
  | _ => []
def defScope (s : Stmt) : Scope := match s with
  | .FunctionDef _ _ _ _ _ _ sc _ _ _ => sc
  | _ => { kind := .function, names := [], isGenerator := false, isCoroutine := false }

/-! ### no exception leaves a def -/
abbrev CX0 : CXT := fun _ _ _ _ _ _ => False
abbrev E0 : XK := fun _ _ _ => False
theorem pass0 {X : Cx} : Passes CX0 X E0 := fun _ _ _ _ _ _ _ h => h.elim

/-! ### a def (or method) of the text as it stands behind the top -/
structure Fun (K : PySem.W.Frag) (x qual : Str) (st : Stmt) (f : Addr) (fd : FuncData) : Prop where
  ex : ∃ (oc : Value) (od : Option Addr) (kV doc pm : Value) (an : Option Addr) (cdv ct : Value) (osl : Array (Option Value)),
    fd = PySem.W.fnOf x qual (defArgs st) (defBody st) (defScope st) .none kV doc pm an cdv ct ∧ K.lookup f = some ⟨oc, od, .func fd, osl⟩ ∧ PySem.W.codeIn K cdv qual = true
  kp : PySem.W.keepIn K (.ref f) = true
section
variable {P : Program} {w : World} {K : PySem.W.Frag} {mg : Str → Option Value} {base : Heap}
/-- THE RULE for a def: its body as a term of rules, and the reading of that term -/
theorem Fun.ok {x qual : Str} {st : Stmt} {f : Addr} {fd : FuncData} {N ps : List Str} {k : Nat} {sp : Sp} (F : Fun K x qual st f fd) (S : FnScope N ps (defScope st)) (len : ∀ vs H Q E, sp vs H Q E → vs.length = ps.length)
    (hbody : ∀ (cdv : Value) (A : Around) (outer : List Env) (s : Shared) (H : Hp) (vs : List V) (Q : VK) (E : XK), Room k (A.deeper (envOfC qual (defScope st) s.heap.objs.size f cdv)) → sp vs H Q E →
      ∃ t, PSs (cxOf CX0 P w K mg base N qual (defScope st) f cdv A outer s H E).nox (defBody st) t ∧ t { nx := fun _ H' => Q .non H', rt := Q } (start N vs) H) : FnOk P w K mg base CX0 (k + 1) f fd ps sp := by
  obtain ⟨oc, od, kV, doc, pm, an, cdv, ct, osl, rfl, lk, hcd⟩ := F.ex
  refine fn_of lk hcd S len fun A outer s H vs Q E hr hsp => ?_
  obtain ⟨t, h, q⟩ := hbody cdv A outer s H vs Q E hr hsp
  exact ⟨t, h.nox, q⟩
/-- how its arguments bind (no defaults): h is «fun _ _ _ _ _ _ us hl => match us, hl with | [_, _], _ => rfl», one _ a parameter -/
theorem Fun.binds {x qual : Str} {st : Stmt} {f : Addr} {fd : FuncData} {ps : List Str} (F : Fun K x qual st f fd)
    (h : ∀ (kV doc pm : Value) (an : Option Addr) (cdv ct : Value) (us : List Value), us.length = ps.length → bindArgs (PySem.W.fnOf x qual (defArgs st) (defBody st) (defScope st) .none kV doc pm an cdv ct) ⟨us, []⟩ = pure (ps.zip us)) : Binds K fd ps [] := by
  obtain ⟨oc, od, kV, doc, pm, an, cdv, ct, osl, rfl, lk, hcd⟩ := F.ex
  exact .all (h kV doc pm an cdv ct)
theorem fun_mk {x qual : Str} {st : Stmt} {f : Addr} {oc : Value} {od an : Option Addr} {osl : Array (Option Value)} {kV doc pm cdv ct : Value} (l : K.lookup f = some ⟨oc, od, .func (PySem.W.fnOf x qual (defArgs st) (defBody st) (defScope st) .none kV doc pm an cdv ct), osl⟩)
    (c : PySem.W.codeIn K cdv qual = true) (k : PySem.W.keepIn K (.ref f) = true) : Fun K x qual st f (PySem.W.fnOf x qual (defArgs st) (defBody st) (defScope st) .none kV doc pm an cdv ct) := ⟨⟨oc, od, kV, doc, pm, an, cdv, ct, osl, rfl, l, c⟩, k⟩
end
theorem hu_of {A : Around} {k : Nat} (hr : Room k A) : A.units + 1 < cLine := Nat.lt_of_le_of_lt (Nat.add_le_add_left (by decide : 1 ≤ 64) _) hr.units
theorem small1000 {n : Nat} (h : n ≤ 1000) : n < sizeLine := Nat.lt_of_le_of_lt h (by decide)

/-! ### expressions in short: the name that stands in the i-th slot -/
section
variable {X : Cx}
theorem pv (i : Nat) {x : Str} {pos : Pos} (hN : X.N[i]? = some x := by rfl) (hv : Vis X.env.scope x := by first | exact Or.inl rfl | exact Or.inr (Or.inl rfl) | exact Or.inr (Or.inr rfl)) (hd : (x == ("__debug__" : Str)) = false := by decide)
    (hcd : (x == ("__classdict__" : Str)) = false := by decide) : PE X (.Name x pos) (tVar i) := pe_var hN hv hd hcd
end

/-! ### tests -/
theorem iteF {A B : Prop} (h : B) : if false = true then A else B := by
  rw [if_neg Bool.false_ne_true]
  exact h
theorem iteT {A B : Prop} (h : A) : if true = true then A else B := by
  rw [if_pos rfl]
  exact h
theorem ite2 {c A B : Prop} [Decidable c] (h1 : c → A) (h2 : ¬ c → B) : if c then A else B := by
  by_cases h : c
  · rw [if_pos h]
    exact h1 h
  · rw [if_neg h]
    exact h2 h
theorem iteNS {c A B : Prop} [Decidable c] (hc : c) (h : B) : if (!decide c) = true then A else B := by
  rw [decide_eq_true hc]
  exact iteF h

/-! ### heaps -/
/-- all that was tracked is as it was -/
def Same (H H' : Hp) : Prop := ∀ b o, H b = some o → H' b = some o
theorem Same.refl (H : Hp) : Same H H := fun _ _ h => h
theorem Same.trans {H H1 H2 : Hp} (a : Same H H1) (b : Same H1 H2) : Same H H2 := fun c o h => b c o (a c o h)
theorem Same.free {H H' : Hp} (e : Same H H') {l : Addr} (h : H' l = Option.none) : H l = Option.none := by
  cases q : H l with
  | none => rfl
  | some o =>
    rw [e l o q] at h
    cases h
theorem Same.seq {K : PySem.W.Frag} {H H' : Hp} {a : Addr} {xs : List V} (e : Same H H') (h : SqL K H a xs) : SqL K H' a xs := by
  rcases h with (h | ⟨o, h⟩) | h
  · exact .inl (.inl (e _ _ h))
  · exact .inl (.inr ⟨o, e _ _ h⟩)
  · exact .inr h

end L2

set_option Elab.async false
set_option linter.all false
set_option maxRecDepth 100000
/-! What a heap must hold for a value to be a tree; what the names of a def hold. -/
namespace VS
open PySem PySem.Spec PyProof.Rows L2

def sx (s : Tx) : Str := ⟨s.toArray⟩
/-- a text as the heap may hold it -/
def TxOk (s : Tx) : Prop := s.length ≤ LINE ∧ ∀ c ∈ s, c < 1114112
structure Gx where
  K : PySem.W.Frag
  ct : Nat → Addr × (Nat → Str)
def keyT : Key → T
  | .inl i => .int i
  | .inr x => .str x.cps.toList
/-- the script: a list that nobody changes -/
def ScrAt (K : PySem.W.Frag) (H : Hp) (a : Addr) (ns : List Int) : Prop :=
  (∃ o, H a = some (.frz o (.lst (ns.map V.int)))) ∨
    ∃ (o : Obj) (its : Array Value) (n : Nat), K.lookup a = some o ∧ o.cls = .type "list" ∧ o.dict = none ∧ o.data = .seq its n ∧ its.size ≤ sizeLine ∧ Vals (ns.map V.int) its.toList
mutual
inductive Rp (G : Gx) (H : Hp) : V → T → List Addr → Prop
  | non : Rp G H .non .non []
  | bl (b : Bool) : Rp G H (.bl b) (.bl b) []
  | int (i : Int) : Rp G H (.int i) (.int i) []
  | str (s : Tx) : TxOk s → Rp G H (.str (sx s)) (.str s) []
  | scr {a : Addr} {ns : List Int} : ScrAt G.K H a ns → Rp G H (.ref a) (.scr ns) []
  | tup {a : Addr} {vs : List V} {ts : List T} {Fs : List (List Addr)} : H a = some (.tup vs) → RpL G H vs ts Fs → Rp G H (.ref a) (.tup ts) Fs.flatten
  | lst {a : Addr} {vs : List V} {ts : List T} {Fs : List (List Addr)} : H a = some (.lst vs) → RpL G H vs ts Fs → Rp G H (.ref a) (.lst ts) (a :: Fs.flatten)
  | dct {a : Addr} {ks : List Key} {vs : List V} {ts : List T} {Fs : List (List Addr)} : H a = some (.dK (ks.zip vs)) → ks.length = vs.length → RpL G H vs ts Fs → Rp G H (.ref a) (.dct 0 ((ks.map keyT).zip ts)) (a :: Fs.flatten)
  | dctT {a : Addr} {ks : List (List Key)} {vs : List V} {ts : List T} {Fs : List (List Addr)} : H a = some (.dT (ks.zip vs)) → ks.length = vs.length → RpL G H vs ts Fs → Rp G H (.ref a) (.dct 1 ((ks.map fun k => T.tup (k.map keyT)).zip ts)) (a :: Fs.flatten)
  | obj {c : Nat} {a dx : Addr} {ks : List Nat} {vs : List V} {ts : List T} {Fs : List (List Addr)} : H a = some (.ins (G.ct c).1 dx ((ks.map (G.ct c).2).zip vs)) → ks.length = vs.length → RpL G H vs ts Fs → Rp G H (.ref a) (.obj c (ks.zip ts)) (a :: Fs.flatten)
inductive RpL (G : Gx) (H : Hp) : List V → List T → List (List Addr) → Prop
  | nil : RpL G H [] [] []
  | cons {v : V} {t : T} {F : List Addr} {vs : List V} {ts : List T} {Fs : List (List Addr)} : Rp G H v t F → RpL G H vs ts Fs → RpL G H (v :: vs) (t :: ts) (F :: Fs)
end

/-- what never changes stays -/
structure Kept (H H' : Hp) : Prop where
  tup : ∀ a xs, H a = some (.tup xs) → H' a = some (.tup xs)
  frz : ∀ a o u, H a = some (.frz o u) → H' a = some (.frz o u)
theorem Kept.refl (H : Hp) : Kept H H := ⟨fun _ _ h => h, fun _ _ _ h => h⟩
theorem Kept.trans {H H1 H2 : Hp} (a : Kept H H1) (b : Kept H1 H2) : Kept H H2 := ⟨fun c x h => b.tup c x (a.tup c x h), fun c o u h => b.frz c o u (a.frz c o u h)⟩
theorem Kept.of {H H' : Hp} (e : Same H H') : Kept H H' := ⟨fun a _ h => e a _ h, fun a _ _ h => e a _ h⟩
theorem Kept.upd {H : Hp} {a : Addr} {o : HO} (mu : Mut (H a) ∨ H a = none) : Kept H (upd H a o) := by
  have ne : ∀ b u, H b = some u → ¬ Mut (some u) → b ≠ a := fun b u h nm e => by
    subst e
    rcases mu with m | m
    · rw [h] at m; exact nm m
    · rw [h] at m; cases m
  exact ⟨fun b xs h => by rw [upd_ne (ne b _ h fun z => z)]; exact h, fun b o u h => by rw [upd_ne (ne b _ h fun z => z)]; exact h⟩
theorem ScrAt.kept {K : PySem.W.Frag} {H H' : Hp} {a : Addr} {ns : List Int} (h : ScrAt K H a ns) (k : Kept H H') : ScrAt K H' a ns := by
  rcases h with ⟨o, e⟩ | h
  · exact .inl ⟨o, k.frz _ _ _ e⟩
  · exact .inr h
theorem ScrAt.seq {K : PySem.W.Frag} {H : Hp} {a : Addr} {ns : List Int} (h : ScrAt K H a ns) : SqL K H a (ns.map V.int) := by
  rcases h with ⟨o, e⟩ | h
  · exact .inl (.inr ⟨o, e⟩)
  · exact .inr h

mutual
theorem Rp.keep {G : Gx} {H H' : Hp} (k : Kept H H') : ∀ {v : V} {t : T} {F : List Addr}, Rp G H v t F → (∀ a ∈ F, ∀ o, H a = some o → H' a = some o) → Rp G H' v t F
  | _, _, _, .non, _ => .non
  | _, _, _, .bl b, _ => .bl b
  | _, _, _, .int i, _ => .int i
  | _, _, _, .str s h, _ => .str s h
  | _, _, _, .scr h, _ => .scr (h.kept k)
  | _, _, _, .tup h r, f => .tup (k.tup _ _ h) (RpL.keep k r f)
  | _, _, _, .lst h r, f => .lst (f _ List.mem_cons_self _ h) (RpL.keep k r fun a m => f a (List.mem_cons_of_mem _ m))
  | _, _, _, .dct h l r, f => .dct (f _ List.mem_cons_self _ h) l (RpL.keep k r fun a m => f a (List.mem_cons_of_mem _ m))
  | _, _, _, .dctT h l r, f => .dctT (f _ List.mem_cons_self _ h) l (RpL.keep k r fun a m => f a (List.mem_cons_of_mem _ m))
  | _, _, _, .obj h l r, f => .obj (f _ List.mem_cons_self _ h) l (RpL.keep k r fun a m => f a (List.mem_cons_of_mem _ m))
theorem RpL.keep {G : Gx} {H H' : Hp} (k : Kept H H') : ∀ {vs : List V} {ts : List T} {Fs : List (List Addr)}, RpL G H vs ts Fs → (∀ a ∈ Fs.flatten, ∀ o, H a = some o → H' a = some o) → RpL G H' vs ts Fs
  | _, _, _, .nil, _ => .nil
  | _, _, _, .cons r q, f => .cons (Rp.keep k r fun a m => f a (by simp [m])) (RpL.keep k q fun a m => f a (by
      rw [List.flatten_cons]
      exact List.mem_append_right _ m))
end
theorem Rp.same {G : Gx} {H H' : Hp} (e : Same H H') {v : V} {t : T} {F : List Addr} (r : Rp G H v t F) : Rp G H' v t F := r.keep (Kept.of e) fun a _ o h => e a o h
theorem RpL.same {G : Gx} {H H' : Hp} (e : Same H H') {v : List V} {t : List T} {F : List (List Addr)} (r : RpL G H v t F) : RpL G H' v t F := r.keep (Kept.of e) fun a _ o h => e a o h
mutual
theorem Rp.dom {G : Gx} {H : Hp} : ∀ {v : V} {t : T} {F : List Addr}, Rp G H v t F → ∀ a ∈ F, Mut (H a)
  | _, _, _, .non, _, m => by simp at m
  | _, _, _, .bl b, _, m => by simp at m
  | _, _, _, .int i, _, m => by simp at m
  | _, _, _, .str s _, _, m => by simp at m
  | _, _, _, .scr h, _, m => by simp at m
  | _, _, _, .tup h r, a, m => RpL.dom r a m
  | _, _, _, .lst h r, a, m => by
    rcases List.mem_cons.mp m with e | m
    · rw [e, h]; exact True.intro
    · exact RpL.dom r a m
  | _, _, _, .dct h l r, a, m => by
    rcases List.mem_cons.mp m with e | m
    · rw [e, h]; exact True.intro
    · exact RpL.dom r a m
  | _, _, _, .dctT h l r, a, m => by
    rcases List.mem_cons.mp m with e | m
    · rw [e, h]; exact True.intro
    · exact RpL.dom r a m
  | _, _, _, .obj h l r, a, m => by
    rcases List.mem_cons.mp m with e | m
    · rw [e, h]; exact True.intro
    · exact RpL.dom r a m
theorem RpL.dom {G : Gx} {H : Hp} : ∀ {vs : List V} {ts : List T} {Fs : List (List Addr)}, RpL G H vs ts Fs → ∀ a ∈ Fs.flatten, Mut (H a)
  | _, _, _, .nil, _, m => by simp at m
  | _, _, _, .cons r q, a, m => by
    rw [List.flatten_cons] at m
    rcases List.mem_append.mp m with m | m
    · exact Rp.dom r a m
    · exact RpL.dom q a m
end
theorem Mut.ne_none {o : Option HO} (m : Mut o) : o ≠ none := fun e => by subst e; exact m
mutual
theorem Rp.imm {G : Gx} {H : Hp} : ∀ {v : V} {t : T} {F : List Addr}, Rp G H v t F → VS.imm t = true → F = []
  | _, _, _, .non, _ => rfl
  | _, _, _, .bl b, _ => rfl
  | _, _, _, .int i, _ => rfl
  | _, _, _, .str s _, _ => rfl
  | _, _, _, .scr h, _ => rfl
  | _, _, _, .tup h r, i => RpL.imm r (by simpa [VS.imm] using i)
  | _, _, _, .lst h r, i => by simp [VS.imm] at i
  | _, _, _, .dct h l r, i => by simp [VS.imm] at i
  | _, _, _, .dctT h l r, i => by simp [VS.imm] at i
  | _, _, _, .obj h l r, i => by simp [VS.imm] at i
theorem RpL.imm {G : Gx} {H : Hp} : ∀ {vs : List V} {ts : List T} {Fs : List (List Addr)}, RpL G H vs ts Fs → VS.imms ts = true → Fs.flatten = []
  | _, _, _, .nil, _ => rfl
  | _, _, _, .cons r q, i => by
    simp only [VS.imms, Bool.and_eq_true] at i
    rw [List.flatten_cons, Rp.imm r i.1, RpL.imm q i.2]
    rfl
end
theorem RpL.len {G : Gx} {H : Hp} : ∀ {vs : List V} {ts : List T} {Fs : List (List Addr)}, RpL G H vs ts Fs → vs.length = ts.length ∧ Fs.length = ts.length
  | _, _, _, .nil => ⟨rfl, rfl⟩
  | _, _, _, .cons _ q => by
    have := RpL.len q
    simp only [List.length_cons]
    omega
theorem RpL.get {G : Gx} {H : Hp} : ∀ {vs : List V} {ts : List T} {Fs : List (List Addr)} (i : Nat) {t : T}, RpL G H vs ts Fs → ts[i]? = some t → ∃ v F, vs[i]? = some v ∧ Fs[i]? = some F ∧ Rp G H v t F
  | _, _, _, _, _, .nil, e => by simp at e
  | _, _, _, 0, _, .cons r _, e => by
    simp at e
    subst e
    exact ⟨_, _, rfl, rfl, r⟩
  | _, _, _, i + 1, _, .cons _ q, e => by
    obtain ⟨v, F, h1, h2, h3⟩ := RpL.get i q (by simpa using e)
    exact ⟨v, F, by simpa using h1, by simpa using h2, h3⟩
theorem RpL.append {G : Gx} {H : Hp} : ∀ {vs : List V} {ts : List T} {Fs : List (List Addr)} {us : List V} {rs : List T} {Gs : List (List Addr)}, RpL G H vs ts Fs → RpL G H us rs Gs → RpL G H (vs ++ us) (ts ++ rs) (Fs ++ Gs)
  | _, _, _, _, _, _, .nil, s => s
  | _, _, _, _, _, _, .cons r q, s => .cons r (RpL.append q s)
theorem RpL.take {G : Gx} {H : Hp} : ∀ {vs : List V} {ts : List T} {Fs : List (List Addr)} (n : Nat), RpL G H vs ts Fs → RpL G H (vs.take n) (ts.take n) (Fs.take n)
  | _, _, _, 0, _ => by simpa using RpL.nil
  | _, _, _, n + 1, .nil => .nil
  | _, _, _, n + 1, .cons r q => .cons r (RpL.take n q)
theorem RpL.drop {G : Gx} {H : Hp} : ∀ {vs : List V} {ts : List T} {Fs : List (List Addr)} (n : Nat), RpL G H vs ts Fs → RpL G H (vs.drop n) (ts.drop n) (Fs.drop n)
  | _, _, _, 0, q => q
  | _, _, _, n + 1, .nil => .nil
  | _, _, _, n + 1, .cons r q => RpL.drop n q

/-! ### the names of a def -/
def cellT : Cell → T
  | .pu t => t
  | .ow t => t
abbrev Fps := Nat → List Addr
structure SR (G : Gx) (Φ : Fps) (η : VS.Env) (σ : L2.St) (H : Hp) : Prop where
  len : η.length = σ.length
  rp : ∀ i c, η[i]? = some (some c) → ∃ v, σ[i]? = some (some v) ∧ Rp G H v (cellT c) (Φ i)
  nd : ∀ i t, η[i]? = some (some (.ow t)) → (Φ i).Nodup
  sep : ∀ i j t c, η[i]? = some (some (.ow t)) → η[j]? = some (some c) → i ≠ j → ∀ a ∈ Φ i, a ∉ Φ j
def InPu (Φ : Fps) (η : VS.Env) (a : Addr) : Prop := ∃ j t, η[j]? = some (some (.pu t)) ∧ a ∈ Φ j
def InOw (Φ : Fps) (η : VS.Env) (a : Addr) : Prop := ∃ j t, η[j]? = some (some (.ow t)) ∧ a ∈ Φ j
def Fp (Φ : Fps) (η : VS.Env) (H : Hp) : Md → List Addr → Prop
  | .fr, F => F.Nodup ∧ ∀ a ∈ F, H a = none
  | .pu, F => ∀ a ∈ F, H a = none ∨ InPu Φ η a
  | .bo, F => ∀ a ∈ F, H a = none ∨ InPu Φ η a ∨ InOw Φ η a
theorem SR.same {G : Gx} {Φ : Fps} {η : VS.Env} {σ : L2.St} {H H' : Hp} (s : SR G Φ η σ H) (e : Same H H') : SR G Φ η σ H' :=
  ⟨s.len, fun i c h => let ⟨v, h1, h2⟩ := s.rp i c h; ⟨v, h1, h2.same e⟩, s.nd, s.sep⟩
theorem SR.pu_dom {G : Gx} {Φ : Fps} {η : VS.Env} {σ : L2.St} {H : Hp} {a : Addr} (s : SR G Φ η σ H) (h : InPu Φ η a) : Mut (H a) := by
  obtain ⟨j, t, h1, h2⟩ := h
  obtain ⟨v, _, r⟩ := s.rp j _ h1
  exact r.dom a h2
theorem SR.ow_dom {G : Gx} {Φ : Fps} {η : VS.Env} {σ : L2.St} {H : Hp} {a : Addr} (s : SR G Φ η σ H) (h : InOw Φ η a) : Mut (H a) := by
  obtain ⟨j, t, h1, h2⟩ := h
  obtain ⟨v, _, r⟩ := s.rp j _ h1
  exact r.dom a h2
theorem Fp.nil {Φ : Fps} {η : VS.Env} {H : Hp} {m : Md} : Fp Φ η H m [] := by
  cases m
  · exact ⟨List.nodup_nil, fun a h => by simp at h⟩
  · exact fun a h => by simp at h
  · exact fun a h => by simp at h
theorem Fp.bo {Φ : Fps} {η : VS.Env} {H : Hp} {F : List Addr} : ∀ {m : Md}, Fp Φ η H m F → Fp Φ η H .bo F
  | .fr, h => fun a m => .inl (h.2 a m)
  | .pu, h => fun a m => (h a m).elim .inl fun z => .inr (.inl z)
  | .bo, h => h
theorem Fp.pu {Φ : Fps} {η : VS.Env} {H : Hp} {F : List Addr} : ∀ {m : Md}, m ≠ .bo → Fp Φ η H m F → Fp Φ η H .pu F
  | .fr, _, h => fun a m => .inl (h.2 a m)
  | .pu, _, h => h
  | .bo, n, _ => absurd rfl n
theorem none_of_same {H H' : Hp} (e : Same H H') {a : Addr} (h : H' a = none) : H a = none := e.free h
theorem Fp.back {Φ : Fps} {η : VS.Env} {H H' : Hp} (e : Same H H') {F : List Addr} : ∀ {m : Md}, Fp Φ η H' m F → Fp Φ η H m F
  | .fr, h => ⟨h.1, fun a m => e.free (h.2 a m)⟩
  | .pu, h => fun a m => (h a m).imp e.free id
  | .bo, h => fun a m => (h a m).imp e.free id
theorem Fp.up {G : Gx} {Φ : Fps} {η : VS.Env} {H H' : Hp} {m : Md} {v : V} {t : T} {F : List Addr} (f : Fp Φ η H m F) (r : Rp G H' v t F) : Fp Φ η H (VS.up m t).1 F := by
  unfold VS.up
  by_cases h : VS.imm t = true
  · rw [r.imm h]
    exact Fp.nil
  · simp only [h, if_false, Bool.false_eq_true]
    exact f

/-! ### the readings -/
/-- an expression as the function c tells it -/
def tE (G : Gx) (c : Ex) : TE := fun σ H Q => ∃ Φ η m r, SR G Φ η σ H ∧ c η = some (m, r) ∧ ∀ v H' F, Same H H' → Rp G H' v r F → Fp Φ η H m F → Q v H'
def PV (G : Gx) (X : Cx) (e : Expr) (c : Ex) : Prop := PE X e (tE G c)
theorem PE.weak {X : Cx} {e : Expr} {t t' : TE} (h : PE X e t) (w : ∀ σ H Q, t' σ H Q → t σ H Q) : PE X e t' := fun pins s σ H Q I q => h pins s σ H Q I (w σ H Q q)
theorem PT.weak {X : Cx} {e : Expr} {t t' : TT} (h : PT X e t) (w : ∀ σ H Q, t' σ H Q → t σ H Q) : PT X e t' := fun pins s σ H Q I q => h pins s σ H Q I (w σ H Q q)
theorem PA.weak {X : Cx} {e : List Expr} {t t' : TA} (h : PA X e t) (w : ∀ σ H Q, t' σ H Q → t σ H Q) : PA X e t' := fun pos pins s σ H Q I q => h pos pins s σ H Q I (w σ H Q q)
/-- a test -/
def tT (G : Gx) (c : Ex) : TT := fun σ H Q => ∃ Φ η m r b, SR G Φ η σ H ∧ c η = some (m, r) ∧ tru r = some b ∧ ∀ H', Same H H' → Q b H'
def PVT (G : Gx) (X : Cx) (e : Expr) (c : Ex) : Prop := PT X e (tT G c)
/-- some arguments: the new ones stand apart -/
def frs (l : List Val) (Fs : List (List Addr)) : List Addr := match l, Fs with
  | v :: l, F :: Fs => match v.1 with
    | .fr => F ++ frs l Fs
    | _ => frs l Fs
  | _, _ => []
structure FpL (Φ : Fps) (η : VS.Env) (H : Hp) (l : List Val) (Fs : List (List Addr)) : Prop where
  each : ∀ (i : Nat) v F, l[i]? = some v → Fs[i]? = some F → Fp Φ η H v.1 F
  nd : (frs l Fs).Nodup
def tEs (G : Gx) (c : Exs) : TA := fun σ H Q => ∃ Φ η l, SR G Φ η σ H ∧ c η = some l ∧ ∀ vs H' Fs, Same H H' → RpL G H' vs (trees l) Fs → FpL Φ η H l Fs → Q vs H'
def PVs (G : Gx) (X : Cx) (es : List Expr) (c : Exs) : Prop := PA X es (tEs G c)
end VS

set_option Elab.async false
set_option linter.all false
set_option maxRecDepth 100000
set_option maxHeartbeats 1000000
/-! The rules: an expression of the text does what its function tells. -/
namespace VS
open PySem PySem.Spec PyProof.Rows L2
section
variable {G : Gx} {X : Cx} {a b c : Expr} {ca cb cc : Ex} {pos : Pos}

/-! ### names, written values -/
theorem pv_int {i j pos} : PV G X (.Constant (.int i) j pos) (eC (.int i)) := PE.weak pe_int fun σ H Q ⟨Φ, η, m, r, s, e, k⟩ => by
  cases (show some (Md.fr, T.int i) = some (m, r) from e)
  exact k _ _ _ (Same.refl _) (.int i) Fp.nil
theorem pv_bl {i j pos} : PV G X (.Constant (.bool i) j pos) (eC (.bl i)) := PE.weak pe_bl fun σ H Q ⟨Φ, η, m, r, s, e, k⟩ => by
  cases (show some (Md.fr, T.bl i) = some (m, r) from e)
  exact k _ _ _ (Same.refl _) (.bl i) Fp.nil
theorem pv_non {j pos} : PV G X (.Constant .none j pos) (eC .non) := PE.weak pe_non fun σ H Q ⟨Φ, η, m, r, s, e, k⟩ => by
  cases (show some (Md.fr, T.non) = some (m, r) from e)
  exact k _ _ _ (Same.refl _) .non Fp.nil
theorem pv_str {x : Str} {t : Tx} {j pos} (h : x = sx t := by decide +kernel) (hl : TxOk t := by decide) : PV G X (.Constant (.str x) j pos) (eC (.str t)) := PE.weak pe_str fun σ H Q ⟨Φ, η, m, r, s, e, k⟩ => by
  cases (show some (Md.fr, T.str t) = some (m, r) from e)
  subst h
  exact k _ _ _ (Same.refl _) (.str t hl) Fp.nil
theorem pv_var (i : Nat) {x : Str} {pos : Pos} (hN : X.N[i]? = some x := by rfl) (hv : Vis X.env.scope x := by first | exact Or.inl rfl | exact Or.inr (Or.inl rfl) | exact Or.inr (Or.inr rfl)) (hd : (x == ("__debug__" : Str)) = false := by decide)
    (hcd : (x == ("__classdict__" : Str)) = false := by decide) : PV G X (.Name x pos) (eVar i) := PE.weak (pe_var hN hv hd hcd) fun σ H Q ⟨Φ, η, m, r, s, e, k⟩ => by
  unfold eVar at e
  split at e
  · rename_i t h
    obtain ⟨v, h1, h2⟩ := s.rp _ _ h
    have e' : VS.up .pu t = (m, r) := Option.some.inj e
    have er : t = r := congrArg Prod.snd e'
    have em : (VS.up .pu t).1 = m := congrArg Prod.fst e'
    rw [← er, ← em] at k
    refine ⟨v, h1, k v H (Φ i) (Same.refl _) h2 ?_⟩
    have f : Fp Φ η H .pu (Φ i) := fun a ha => .inr ⟨i, _, h, ha⟩
    exact f.up h2
  · rename_i t h
    obtain ⟨v, h1, h2⟩ := s.rp _ _ h
    cases e
    exact ⟨v, h1, k v H (Φ i) (Same.refl _) h2 fun a ha => .inr (.inr ⟨i, _, h, ha⟩)⟩
  · cases e
/-- a written value of the module -/
theorem pv_glob {x : Str} {u : Value} {v : V} {t : T} {pos : Pos} (hg : Gl X x) (hm : X.mg x = some u) (r : RelV v u) (hr : ∀ H, Rp G H v t []) (hd : (x == ("__debug__" : Str)) = false := by decide) : PV G X (.Name x pos) (eC t) :=
  PE.weak (pe_glob hg hm r hd) fun σ H Q ⟨Φ, η, m, t', s, e, k⟩ => by
    cases (show some (Md.fr, t) = some (m, t') from e)
    exact k _ _ _ (Same.refl _) (hr H) Fp.nil

/-! ### two operands -/
structure Two (G : Gx) (Φ : Fps) (η : VS.Env) (H0 H : Hp) (x y : Val) (u w : V) (F1 F2 : List Addr) : Prop where
  same : Same H0 H
  r1 : Rp G H u x.2 F1
  r2 : Rp G H w y.2 F2
  f1 : Fp Φ η H0 x.1 F1
  f2 : Fp Φ η H0 y.1 F2
  nd : x.1 = .fr → y.1 = .fr → (F1 ++ F2).Nodup
/-- the rule r does what f tells -/
def OpOk (G : Gx) (r : R2) (f : Val → Val → Option Val) : Prop := ∀ (Φ : Fps) (η : VS.Env) (H0 H : Hp) (x y : Val) (u w : V) (F1 F2 : List Addr) (m : Md) (t : T) (Q : VK), Two G Φ η H0 H x y u w F1 F2 → f x y = some (m, t) →
  (∀ v H' F, Same H H' → Rp G H' v t F → Fp Φ η H0 m F → Q v H') → r u w H Q
theorem two_of {σ : L2.St} {H : Hp} {Q : V → V → Hp → Prop} {Φ : Fps} {η : VS.Env} {x y : Val} (s : SR G Φ η σ H) (ea : ca η = some x) (eb : cb η = some y)
    (k : ∀ u w H2 F1 F2, Two G Φ η H H2 x y u w F1 F2 → Q u w H2) : tE G ca σ H fun u H1 => tE G cb σ H1 fun w H2 => Q u w H2 := by
  refine ⟨Φ, η, x.1, x.2, s, ea, fun u H1 F1 e1 r1 f1 => ⟨Φ, η, y.1, y.2, s.same e1, eb, fun w H2 F2 e2 r2 f2 => k u w H2 F1 F2 ⟨e1.trans e2, r1.same e2, r2, f1, f2.back e1, fun hx hy => ?_⟩⟩⟩
  rw [hx] at f1
  rw [hy] at f2
  refine List.nodup_append.mpr ⟨f1.1, f2.1, fun a ha b hb z => ?_⟩
  subst z
  exact Mut.ne_none (r1.dom a ha) (f2.2 a hb)
theorem tOp_of {r : R2} {f : Val → Val → Option Val} (ok : OpOk G r f) {σ : L2.St} {H : Hp} {Q : VK} (h : tE G (e2 f ca cb) σ H Q) : tOp r (tE G ca) (tE G cb) σ H Q := by
  obtain ⟨Φ, η, m, t, s, e, k⟩ := h
  unfold e2 at e
  obtain ⟨x, ea, e⟩ := Option.bind_eq_some_iff.mp e
  obtain ⟨y, eb, e⟩ := Option.bind_eq_some_iff.mp e
  exact two_of s ea eb fun u w H2 F1 F2 tw => ok Φ η H H2 x y u w F1 F2 m t Q tw e fun v H' F e1 r1 f1 => k v H' F (tw.same.trans e1) r1 f1
theorem pv_op {op : Operator} {r : R2} {f : Val → Val → Option Val} (ho : OpR X (binaryOp op) r) (ok : OpOk G r f) (ha : PV G X a ca) (hb : PV G X b cb) : PV G X (.BinOp a op b pos) (e2 f ca cb) :=
  PE.weak (pe_op ho ha hb) fun σ H Q h => tOp_of ok h
theorem pv_cmp {op : CmpOp} {r : R2} {f : Val → Val → Option Val} (ho : OpR X (compareOp op) r) (ok : OpOk G r f) (ha : PV G X a ca) (hb : PV G X b cb) (hm : behindInMarks op b = false) : PV G X (.Compare a [op] [b] pos) (e2 f ca cb) :=
  PE.weak (pe_cmpR ho ha hb hm) fun σ H Q h => tOp_of ok h
/-- what f tells is a truth -/
def Tells (f : Val → Val → Option Val) : Prop := ∀ x y m t, f x y = some (m, t) → ∃ b, t = .bl b
theorem Rp.bl_inv {H : Hp} {v : V} {b : Bool} {F : List Addr} (r : Rp G H v (.bl b) F) : v = .bl b := by cases r; rfl
theorem Rp.int_inv {H : Hp} {v : V} {b : Int} {F : List Addr} (r : Rp G H v (.int b) F) : v = .int b := by cases r; rfl
theorem Rp.str_inv {H : Hp} {v : V} {b : Tx} {F : List Addr} (r : Rp G H v (.str b) F) : v = .str (sx b) ∧ TxOk b := by cases r with | str _ h => exact ⟨rfl, h⟩
theorem Rp.non_inv {H : Hp} {v : V} {F : List Addr} (r : Rp G H v .non F) : v = .non := by cases r; rfl
theorem tTest_of {c : Ex} {t : TE} {σ : L2.St} {H : Hp} {Q : Bool → Hp → Prop} (h : tT G c σ H Q) (ht : ∀ η m r, c η = some (m, r) → ∃ b, r = .bl b) (w : ∀ Q, tE G c σ H Q → t σ H Q) : tTest t σ H Q := by
  obtain ⟨Φ, η, m, r, b, s, e, eb, k⟩ := h
  refine w _ ⟨Φ, η, m, r, s, e, fun v H' F e1 r1 f1 => ?_⟩
  obtain ⟨b', er⟩ := ht η m r e
  rw [er] at eb r1
  cases (show some b' = some b from eb)
  exact ⟨_, r1.bl_inv, k H' e1⟩
theorem pvt_cmp {op : CmpOp} {r : R2} {f : Val → Val → Option Val} (ho : OpR X (compareOp op) r) (ok : OpOk G r f) (ht : Tells f) (ha : PV G X a ca) (hb : PV G X b cb) (hm : behindInMarks op b = false) : PVT G X (.Compare a [op] [b] pos) (e2 f ca cb) :=
  PT.weak (pt_cmpR ho ha hb hm) fun σ H Q h => tTest_of h (fun η m r e => by
    unfold e2 at e
    obtain ⟨x, _, e⟩ := Option.bind_eq_some_iff.mp e
    obtain ⟨y, _, e⟩ := Option.bind_eq_some_iff.mp e
    exact ht x y m r e) fun Q h => tOp_of ok h

/-! ### ints, texts, lists: the operations -/
theorem fin_of {Φ : Fps} {η : VS.Env} {H0 H : Hp} {m : Md} {t : T} {v : V} {Q : VK} (k : ∀ v H' F, Same H H' → Rp G H' v t F → Fp Φ η H0 m F → Q v H') (r : Rp G H v t []) : Q v H := k v H [] (Same.refl _) r Fp.nil
theorem same_new {H : Hp} {p : Addr} {o : HO} (h : H p = none) : Same H (upd H p o) := fun b o' e => by rw [upd_ne (ne_of_none e h)]; exact e
theorem Fp.new {Φ : Fps} {η : VS.Env} {H0 : Hp} {p : Addr} {F : List Addr} (h0 : H0 p = none) (hp : p ∉ F) : ∀ {m : Md}, Fp Φ η H0 m F → Fp Φ η H0 m (p :: F)
  | .fr, f => ⟨List.nodup_cons.mpr ⟨hp, f.1⟩, fun a m => (List.mem_cons.mp m).elim (fun e => by rw [e]; exact h0) (f.2 a)⟩
  | .pu, f => fun a m => (List.mem_cons.mp m).elim (fun e => by rw [e]; exact .inl h0) (f a)
  | .bo, f => fun a m => (List.mem_cons.mp m).elim (fun e => by rw [e]; exact .inl h0) (f a)
theorem mkL_inv {mj m : Md} {l : List T} {t : T} (e : mkL mj l = some (m, t)) : t = .lst l ∧ l.length ≤ LINE ∧ m = (if imms l then .fr else mj) := by
  unfold mkL at e
  split at e
  · rename_i h
    cases e
    exact ⟨rfl, h, rfl⟩
  · cases e
/-- a new list -/
theorem new_lst {Φ : Fps} {η : VS.Env} {H0 H : Hp} {mj m : Md} {l : List T} {t : T} {vs : List V} {Fs : List (List Addr)} {Q : VK} (same : Same H0 H) (e : mkL mj l = some (m, t)) (r : RpL G H vs l Fs) (f : Fp Φ η H0 mj Fs.flatten)
    (k : ∀ v H' F, Same H H' → Rp G H' v t F → Fp Φ η H0 m F → Q v H') : ∀ p, H p = none → Q (.ref p) (upd H p (.lst vs)) := by
  intro p hp
  obtain ⟨rfl, hl, rfl⟩ := mkL_inv e
  refine k _ _ _ (same_new hp) (.lst upd_same (r.same (same_new hp))) ?_
  have np : p ∉ Fs.flatten := fun m => Mut.ne_none (r.dom p m) hp
  by_cases hi : imms l = true
  · rw [hi, if_pos rfl]
    rw [r.imm hi] at np ⊢
    exact Fp.nil.new (same.free hp) np
  · rw [if_neg hi]
    exact f.new (same.free hp) np
theorem Two.join {Φ : Fps} {η : VS.Env} {H0 H : Hp} {x y : Val} {u w : V} {F1 F2 : List Addr} (tw : Two G Φ η H0 H x y u w F1 F2) {F : List Addr} (hF : F.Sublist (F1 ++ F2)) : Fp Φ η H0 (x.1.join y.1) F := by
  obtain ⟨same, r1, r2, f1, f2, nd⟩ := tw
  have split : ∀ a ∈ F, a ∈ F1 ∨ a ∈ F2 := fun a ha => List.mem_append.mp (hF.subset ha)
  obtain ⟨m1, x⟩ := x
  obtain ⟨m2, y⟩ := y
  have both : ∀ {P : Addr → Prop}, (∀ a ∈ F1, P a) → (∀ a ∈ F2, P a) → ∀ a ∈ F, P a := fun h1 h2 a ha => (split a ha).elim (h1 a) (h2 a)
  cases m1 <;> cases m2
  · exact ⟨(nd rfl rfl).sublist hF, both f1.2 f2.2⟩
  · exact both (fun a ha => .inl (f1.2 a ha)) f2
  · exact both (fun a ha => .inl (f1.2 a ha)) f2
  · exact both f1 (fun a ha => .inl (f2.2 a ha))
  · exact both f1 f2
  · exact both (f1.bo) f2
  · exact both f1 (fun a ha => .inl (f2.2 a ha))
  · exact both f1 (f2.bo)
  · exact both f1 f2
theorem LINE_eq : LINE = sizeLine := by decide
theorem sx_len (s : Tx) : (sx s).length = s.length := by simp [sx, Str.length]
theorem sx_app (s t : Tx) : sx s ++ sx t = sx (s ++ t) := by
  show Str.append (sx s) (sx t) = _
  simp [sx, Str.append]
theorem Rp.lst_inv {H : Hp} {v : V} {l : List T} {F : List Addr} (r : Rp G H v (.lst l) F) : ∃ a vs Fs, v = .ref a ∧ F = a :: Fs.flatten ∧ H a = some (.lst vs) ∧ RpL G H vs l Fs := by
  cases r with
  | lst h q => exact ⟨_, _, _, rfl, rfl, h, q⟩
theorem Rp.tup_inv {H : Hp} {v : V} {l : List T} {F : List Addr} (r : Rp G H v (.tup l) F) : ∃ a vs Fs, v = .ref a ∧ F = Fs.flatten ∧ H a = some (.tup vs) ∧ RpL G H vs l Fs := by
  cases r with
  | tup h q => exact ⟨_, _, _, rfl, rfl, h, q⟩
theorem Rp.scr_inv {H : Hp} {v : V} {l : List Int} {F : List Addr} (r : Rp G H v (.scr l) F) : ∃ a, v = .ref a ∧ F = [] ∧ ScrAt G.K H a l := by
  cases r with
  | scr h => exact ⟨_, rfl, rfl, h⟩
theorem join_fr (m : Md) : Md.fr.join m = m := by cases m <;> rfl
end

section
variable {G : Gx} {X : Cx}
def rAdd : R2 := fun x y H Q => rI0 (fun i j => .int (i + j)) x y H Q ∨ (∃ i j, x = .str i ∧ y = .str j ∧ i.length + j.length ≤ sizeLine ∧ Q (.str (i ++ j)) H) ∨ rCat x y H Q
theorem op_addA : OpR X (binaryOp .Add) rAdd := op_add.or (op_add_str.or op_cat)
theorem ok_add : OpOk G rAdd oAdd := by
  intro Φ η H0 H x y u w F1 F2 m t Q tw e k
  have jn := fun {F : List Addr} (h : List.Sublist F (F1 ++ F2)) => tw.join h
  obtain ⟨m1, x⟩ := x
  obtain ⟨m2, y⟩ := y
  obtain ⟨same, r1, r2, f1, f2, nd⟩ := tw
  unfold oAdd at e
  split at e
  · rename_i i _ j e1 e2
    cases e1
    cases e2
    cases e
    exact .inl ⟨_, _, r1.int_inv, r2.int_inv, fin_of k (.int _)⟩
  · rename_i s _ s' e1 e2
    cases e1
    cases e2
    split at e
    · rename_i hl
      cases e
      refine .inr (.inl ⟨_, _, r1.str_inv.1, r2.str_inv.1, by rw [sx_len, sx_len, ← LINE_eq]; exact hl, ?_⟩)
      rw [sx_app]
      exact fin_of k (.str _ ⟨by rw [List.length_append]; exact hl, fun c hc => (List.mem_append.mp hc).elim (r1.str_inv.2.2 c) (r2.str_inv.2.2 c)⟩)
    · cases e
  · rename_i s _ s' e1 e2
    cases e1
    cases e2
    obtain ⟨a, vs, Fs, rfl, rfl, ha, ra⟩ := r1.lst_inv
    obtain ⟨b, us, Gs, rfl, rfl, hb, rb⟩ := r2.lst_inv
    obtain ⟨_, hl, _⟩ := mkL_inv e
    refine .inr (.inr ⟨a, b, vs, us, rfl, rfl, ha, hb, ?_, new_lst same e (ra.append rb) (jn ?_) k⟩)
    · rw [List.length_append] at hl
      rw [ra.len.1, rb.len.1, ← LINE_eq]
      exact hl
    · rw [List.flatten_append]
      exact (List.sublist_cons_self _ _).append (List.sublist_cons_self _ _)
  · cases e

theorem ok_sub : OpOk G (rI0 fun i j => .int (i - j)) oSub := by
  intro Φ η H0 H x y u w F1 F2 m t Q tw e k
  obtain ⟨m1, x⟩ := x
  obtain ⟨m2, y⟩ := y
  obtain ⟨same, r1, r2, f1, f2, nd⟩ := tw
  unfold oSub at e
  split at e
  · rename_i e1 e2
    cases e1
    cases e2
    cases e
    exact ⟨_, _, r1.int_inv, r2.int_inv, fin_of k (.int _)⟩
  · cases e
theorem ok_fdiv : OpOk G (rI CDiv fun i j => .int (i / j)) oFdiv := by
  intro Φ η H0 H x y u w F1 F2 m t Q tw e k
  obtain ⟨m1, x⟩ := x
  obtain ⟨m2, y⟩ := y
  obtain ⟨same, r1, r2, f1, f2, nd⟩ := tw
  unfold oFdiv at e
  split at e
  · rename_i e1 e2
    cases e1
    cases e2
    split at e
    · rename_i h
      cases e
      exact ⟨_, _, r1.int_inv, r2.int_inv, h, fin_of k (.int _)⟩
    · cases e
  · cases e
theorem ok_mod : OpOk G (rI (fun _ j => 0 < j) fun i j => .int (i % j)) oMod := by
  intro Φ η H0 H x y u w F1 F2 m t Q tw e k
  obtain ⟨m1, x⟩ := x
  obtain ⟨m2, y⟩ := y
  obtain ⟨same, r1, r2, f1, f2, nd⟩ := tw
  unfold oMod at e
  split at e
  · rename_i e1 e2
    cases e1
    cases e2
    split at e
    · rename_i h
      cases e
      exact ⟨_, _, r1.int_inv, r2.int_inv, h, fin_of k (.int _)⟩
    · cases e
  · cases e
theorem ltx_eq : ∀ (s t : Tx), ltx s t = decide (s < t)
  | [], [] => by simp [ltx]
  | [], _ :: _ => by simp [ltx]
  | _ :: _, [] => by simp [ltx]
  | a :: s, b :: t => by
    unfold ltx
    rw [ltx_eq s t]
    by_cases h1 : a < b
    · simp [h1, List.cons_lt_cons_iff]
    · by_cases h2 : b < a
      · have : ¬ a = b := by omega
        simp [h1, h2, List.cons_lt_cons_iff, this]
      · have : a = b := by omega
        subst this
        simp [List.cons_lt_cons_iff]
def rLt : R2 := fun x y H Q => rI0 (fun i j => .bl (decide (i < j))) x y H Q ∨ (∃ i j, x = .str i ∧ y = .str j ∧ Q (.bl (decide (i.cps.toList < j.cps.toList))) H)
theorem op_ltA : OpR X (compareOp .Lt) rLt := op_lt.or op_lt_str
theorem ok_lt : OpOk G rLt oLt := by
  intro Φ η H0 H x y u w F1 F2 m t Q tw e k
  obtain ⟨m1, x⟩ := x
  obtain ⟨m2, y⟩ := y
  obtain ⟨same, r1, r2, f1, f2, nd⟩ := tw
  unfold oLt at e
  split at e
  · rename_i e1 e2
    cases e1
    cases e2
    cases e
    exact .inl ⟨_, _, r1.int_inv, r2.int_inv, fin_of k (.bl _)⟩
  · rename_i s _ s' e1 e2
    cases e1
    cases e2
    cases e
    refine .inr ⟨_, _, r1.str_inv.1, r2.str_inv.1, ?_⟩
    have : decide ((sx s).cps.toList < (sx s').cps.toList) = ltx s s' := by rw [ltx_eq]; exact decide_eq_decide.mpr (by simp [sx])
    rw [this]
    exact fin_of k (.bl _)
  · cases e
theorem tells_lt : Tells oLt := by
  intro x y m t e
  unfold oLt at e
  split at e <;> first | (cases e; exact ⟨_, rfl⟩) | cases e

theorem B64_eq : B64 = 2 ^ 64 := by decide
theorem ok_mul : OpOk G (rI CMul fun i j => .int (i * j)) oMul := by
  intro Φ η H0 H x y u w F1 F2 m t Q tw e k
  obtain ⟨m1, x⟩ := x
  obtain ⟨m2, y⟩ := y
  obtain ⟨same, r1, r2, f1, f2, nd⟩ := tw
  unfold oMul at e
  split at e
  · rename_i e1 e2
    cases e1
    cases e2
    split at e
    · rename_i h
      cases e
      refine ⟨_, _, r1.int_inv, r2.int_inv, ?_, fin_of k (.int _)⟩
      rw [B64_eq] at h
      exact h
    · cases e
  · cases e
theorem op_le_str : OpR X (compareOp .LtE) (fun x y H Q => ∃ i j, x = .str i ∧ y = .str j ∧ Q (.bl (!decide (j.cps.toList < i.cps.toList))) H) := by
  intro pins s σ H x y v u Q I rx ry h
  obtain ⟨i, j, rfl, rfl, q⟩ := h
  obtain ⟨t, rfl⟩ := rx
  obtain ⟨t', rfl⟩ := ry
  exact PySem.P.le_str ⟨.bl _, H, I, rfl, q⟩
def rLe : R2 := fun x y H Q => rI0 (fun i j => .bl (decide (i ≤ j))) x y H Q ∨ (∃ i j, x = .str i ∧ y = .str j ∧ Q (.bl (!decide (j.cps.toList < i.cps.toList))) H)
theorem op_leA : OpR X (compareOp .LtE) rLe := op_le.or op_le_str
theorem ok_le : OpOk G rLe oLe := by
  intro Φ η H0 H x y u w F1 F2 m t Q tw e k
  obtain ⟨m1, x⟩ := x
  obtain ⟨m2, y⟩ := y
  obtain ⟨same, r1, r2, f1, f2, nd⟩ := tw
  unfold oLe at e
  split at e
  · rename_i e1 e2
    cases e1
    cases e2
    cases e
    exact .inl ⟨_, _, r1.int_inv, r2.int_inv, fin_of k (.bl _)⟩
  · rename_i s _ s' e1 e2
    cases e1
    cases e2
    cases e
    refine .inr ⟨_, _, r1.str_inv.1, r2.str_inv.1, ?_⟩
    have : decide ((sx s').cps.toList < (sx s).cps.toList) = ltx s' s := by rw [ltx_eq]; exact decide_eq_decide.mpr (by simp [sx])
    rw [this]
    exact fin_of k (.bl _)
  · cases e
theorem tells_le : Tells oLe := by
  intro x y m t e
  unfold oLe at e
  split at e <;> first | (cases e; exact ⟨_, rfl⟩) | cases e
theorem ixP_eq {n : Nat} {i : Int} : ixP n i = ixN n i := by
  unfold ixP ixN
  by_cases h : 0 ≤ i
  · rw [if_pos h, if_pos h]
  · rw [if_neg h, if_neg h]
    by_cases h2 : 0 ≤ i + n
    · rw [if_pos h2, if_pos (by omega)]
    · rw [if_neg h2, if_neg (by omega)]
theorem atI_of {α : Type} {l : List α} {i : Int} {k : Nat} {x : α} (h1 : ixP l.length i = some k) (h2 : l[k]? = some x) : atI l i = some x := by
  unfold atI
  rw [← ixP_eq, h1]
  exact h2
theorem mem_flat {Fs : List (List Addr)} {F : List Addr} {i : Nat} (h : Fs[i]? = some F) : F.Sublist Fs.flatten := by
  obtain ⟨hi, rfl⟩ := List.getElem?_eq_some_iff.mp h
  exact List.sublist_flatten_of_mem (List.getElem_mem hi)
theorem Fp.sub {Φ : Fps} {η : VS.Env} {H : Hp} {F F' : List Addr} (h : F.Sublist F') : ∀ {m : Md}, Fp Φ η H m F' → Fp Φ η H m F
  | .fr, f => ⟨f.1.sublist h, fun a ha => f.2 a (h.subset ha)⟩
  | .pu, f => fun a ha => f a (h.subset ha)
  | .bo, f => fun a ha => f a (h.subset ha)
theorem ok_idx : OpOk G (rIx G.K) oIdx := by
  intro Φ η H0 H x y u w F1 F2 m t Q tw e k
  obtain ⟨m1, x⟩ := x
  obtain ⟨m2, y⟩ := y
  obtain ⟨same, r1, r2, f1, f2, nd⟩ := tw
  unfold oIdx at e
  split at e
  · rename_i m3 l m4 i e1 e2
    cases e1
    cases e2
    obtain ⟨j, h1, e⟩ := Option.bind_eq_some_iff.mp e
    obtain ⟨x, h2, e⟩ := Option.map_eq_some_iff.mp e
    obtain ⟨a, vs, Fs, rfl, rfl, ha, ra⟩ := r1.lst_inv
    obtain ⟨v, F, g1, g2, g3⟩ := ra.get j h2
    refine .inl ⟨a, vs, i, v, rfl, r2.int_inv, SqL.of ha, atI_of (by rw [ra.len.1]; exact h1) g1, ?_⟩
    have f := ((f1.sub (List.sublist_cons_self _ _)).sub (mem_flat g2)).up g3
    unfold VS.sub at e
    rw [e] at f
    have et : x = t := congrArg Prod.snd e
    rw [et] at g3
    exact k v H F (Same.refl _) g3 f
  · rename_i m3 l m4 i e1 e2
    cases e1
    cases e2
    obtain ⟨j, h1, e⟩ := Option.bind_eq_some_iff.mp e
    obtain ⟨x, h2, e⟩ := Option.map_eq_some_iff.mp e
    obtain ⟨a, vs, Fs, rfl, rfl, ha, ra⟩ := r1.tup_inv
    obtain ⟨v, F, g1, g2, g3⟩ := ra.get j h2
    refine .inr (.inl ⟨a, vs, i, v, rfl, r2.int_inv, SqT.of ha, atI_of (by rw [ra.len.1]; exact h1) g1, ?_⟩)
    have f := (f1.sub (mem_flat g2)).up g3
    unfold VS.sub at e
    rw [e] at f
    have et : x = t := congrArg Prod.snd e
    rw [et] at g3
    exact k v H F (Same.refl _) g3 f
  · rename_i m3 l m4 i e1 e2
    cases e1
    cases e2
    obtain ⟨j, h1, e⟩ := Option.bind_eq_some_iff.mp e
    obtain ⟨x, h2, e⟩ := Option.map_eq_some_iff.mp e
    cases e
    obtain ⟨a, rfl, rfl, sa⟩ := r1.scr_inv
    refine .inl ⟨a, l.map V.int, i, .int x, rfl, r2.int_inv, sa.seq, atI_of (by rw [List.length_map]; exact h1) (by rw [List.getElem?_map, h2]; rfl), fin_of k (.int _)⟩
  · rename_i m3 l m4 i e1 e2
    cases e1
    cases e2
    obtain ⟨j, h1, e⟩ := Option.bind_eq_some_iff.mp e
    obtain ⟨x, h2, e⟩ := Option.map_eq_some_iff.mp e
    cases e
    obtain ⟨rfl, hl⟩ := r1.str_inv
    refine .inr (.inr ⟨sx l, i, x, rfl, r2.int_inv, by rw [sx_len, ← LINE_eq]; exact hl.1, atI_of (k := j) (by simpa [sx] using h1) (by simpa [sx] using h2), ?_⟩)
    exact fin_of k (.str [x] ⟨by show 1 ≤ LINE; decide, fun c hc => by rw [List.mem_singleton.mp hc]; exact hl.2 x (List.mem_of_getElem? h2)⟩)
  · cases e
end
end VS

set_option Elab.async false
set_option linter.all false
set_option maxRecDepth 100000
set_option maxHeartbeats 1000000
namespace VS
open PySem PySem.Spec PyProof.Rows L2
section
variable {G : Gx} {X : Cx} {a b c e : Expr} {es : List Expr} {ca cb cc : Ex} {cs : Exs} {pos p : Pos}

/-! ### arguments -/
theorem mem_frs {x : Addr} : ∀ {l : List Val} {Fs : List (List Addr)}, x ∈ frs l Fs → ∃ (i : Nat) (v : Val) (F : List Addr), l[i]? = some v ∧ v.1 = .fr ∧ Fs[i]? = some F ∧ x ∈ F
  | [], _, h => by simp [frs] at h
  | _ :: _, [], h => by simp [frs] at h
  | v :: l, F :: Fs, h => by
    have go : x ∈ frs l Fs → ∃ (i : Nat) (u : Val) (F' : List Addr), (v :: l)[i]? = some u ∧ u.1 = .fr ∧ (F :: Fs)[i]? = some F' ∧ x ∈ F' := fun m => by
      obtain ⟨i, u, F', h1, h2, h3, h4⟩ := mem_frs m
      exact ⟨i + 1, u, F', by simpa using h1, h2, by simpa using h3, h4⟩
    unfold frs at h
    split at h
    · rename_i hv
      rcases List.mem_append.mp h with h | h
      · exact ⟨0, v, F, rfl, hv, rfl, h⟩
      · exact go h
    · exact go h
theorem pvs_nil : PVs G X [] xNil := PA.weak pa_nil fun σ H Q ⟨Φ, η, l, s, e, k⟩ => by
  cases (show some ([] : List Val) = some l from e)
  exact k [] H [] (Same.refl _) .nil ⟨fun i v F h => by simp at h, by simp [frs]⟩
theorem pvs_cons (ha : PV G X e ca) (hr : PVs G X es cs) (hs : starEach (e :: es) X.env = (false, eval e X.env) :: starEach es X.env := by rfl) : PVs G X (e :: es) (xCons ca cs) := PA.weak (pa_cons ha hr hs) fun σ H Q ⟨Φ, η, l, s, e, k⟩ => by
  unfold xCons at e
  obtain ⟨x, ea, e⟩ := Option.bind_eq_some_iff.mp e
  obtain ⟨xs, er, e⟩ := Option.bind_eq_some_iff.mp e
  cases e
  refine ⟨Φ, η, x.1, x.2, s, ea, fun v H1 F e1 r1 f1 => ⟨Φ, η, xs, s.same e1, er, fun vs H2 Fs e2 r2 f2 => k (v :: vs) H2 (F :: Fs) (e1.trans e2) (.cons (r1.same e2) r2) ⟨fun i u F' h1 h2 => ?_, ?_⟩⟩⟩
  · cases i with
    | zero =>
      cases (show some x = some u from h1)
      cases (show some F = some F' from h2)
      exact f1
    | succ i => exact (f2.each i u F' (by simpa using h1) (by simpa using h2)).back e1
  · unfold frs
    split
    · rename_i hx
      rw [hx] at f1
      refine List.nodup_append.mpr ⟨f1.1, f2.nd, fun y hy z hz q => ?_⟩
      subst q
      obtain ⟨i, u, F', h1, h2, h3, h4⟩ := mem_frs hz
      have f := f2.each i u F' h1 h3
      rw [h2] at f
      exact Mut.ne_none (r1.dom y hy) (f.2 y h4)
    · exact f2.nd
theorem joins_fr_all : ∀ {l : List Val}, joins l = .fr → ∀ v ∈ l, v.1 = .fr
  | [], _, v, h => by simp at h
  | (m, t) :: r, e, v, h => by
    have e' : m.join (joins r) = .fr := e
    have h1 : m = .fr := by
      revert e'
      cases m <;> cases joins r <;> simp [Md.join]
    have h2 : joins r = .fr := by
      revert e'
      cases m <;> cases joins r <;> simp [Md.join]
    rcases List.mem_cons.mp h with rfl | h
    · exact h1
    · exact joins_fr_all h2 v h
theorem joins_not_bo : ∀ {l : List Val}, joins l ≠ .bo → ∀ v ∈ l, v.1 ≠ .bo
  | [], _, v, h => by simp at h
  | (m, t) :: r, e, v, h => by
    have e' : m.join (joins r) ≠ .bo := e
    have h1 : m ≠ .bo := by
      revert e'
      cases m <;> cases joins r <;> simp [Md.join]
    have h2 : joins r ≠ .bo := by
      revert e'
      cases m <;> cases joins r <;> simp [Md.join]
    rcases List.mem_cons.mp h with rfl | h
    · exact h1
    · exact joins_not_bo h2 v h
theorem frs_all : ∀ {l : List Val} {Fs : List (List Addr)}, l.length = Fs.length → (∀ v ∈ l, v.1 = .fr) → frs l Fs = Fs.flatten
  | [], [], _, _ => rfl
  | [], _ :: _, h, _ => by simp at h
  | _ :: _, [], h, _ => by simp at h
  | v :: l, F :: Fs, h, q => by
    unfold frs
    rw [q v List.mem_cons_self, frs_all (by simpa using h) fun u hu => q u (List.mem_cons_of_mem _ hu)]
    rfl
theorem mem_flatten_ix {x : Addr} {Fs : List (List Addr)} (h : x ∈ Fs.flatten) : ∃ (i : Nat) (F : List Addr), Fs[i]? = some F ∧ x ∈ F := by
  obtain ⟨F, hF, hx⟩ := List.mem_flatten.mp h
  obtain ⟨i, hi⟩ := List.mem_iff_getElem?.mp hF
  exact ⟨i, F, hi, hx⟩
theorem FpL.join {Φ : Fps} {η : VS.Env} {H : Hp} {l : List Val} {Fs : List (List Addr)} (f : FpL Φ η H l Fs) (hl : l.length = Fs.length) : Fp Φ η H (joins l) Fs.flatten := by
  have at' : ∀ x ∈ Fs.flatten, ∃ v F, v ∈ l ∧ x ∈ F ∧ Fp Φ η H v.1 F := fun x hx => by
    obtain ⟨i, F, hi, hxF⟩ := mem_flatten_ix hx
    have : i < l.length := by
      have := (List.getElem?_eq_some_iff.mp hi).1
      omega
    exact ⟨l[i], F, List.getElem_mem this, hxF, f.each i _ F (List.getElem?_eq_getElem this) hi⟩
  cases e : joins l with
  | fr =>
    have al := joins_fr_all e
    refine ⟨by rw [← frs_all hl al]; exact f.nd, fun x hx => ?_⟩
    obtain ⟨v, F, hv, hxF, q⟩ := at' x hx
    rw [al v hv] at q
    exact q.2 x hxF
  | pu =>
    have al := joins_not_bo (l := l) (by rw [e]; decide)
    intro x hx
    obtain ⟨v, F, hv, hxF, q⟩ := at' x hx
    exact Fp.pu (al v hv) q x hxF
  | bo =>
    intro x hx
    obtain ⟨v, F, hv, hxF, q⟩ := at' x hx
    exact q.bo x hxF
structure Args (G : Gx) (Φ : Fps) (η : VS.Env) (H0 H : Hp) (l : List Val) (vs : List V) (Fs : List (List Addr)) : Prop where
  same : Same H0 H
  rp : RpL G H vs (trees l) Fs
  fp : FpL Φ η H0 l Fs
theorem Args.len {Φ : Fps} {η : VS.Env} {H0 H : Hp} {l : List Val} {vs : List V} {Fs : List (List Addr)} (A : Args G Φ η H0 H l vs Fs) : l.length = Fs.length := by
  have := A.rp.len.2
  simp [trees] at this
  omega
def CallOk (G : Gx) (r : List V → Hp → VK → Prop) (f : List Val → Option Val) : Prop := ∀ (Φ : Fps) (η : VS.Env) (H0 H : Hp) (l : List Val) (vs : List V) (Fs : List (List Addr)) (m : Md) (t : T) (Q : VK), Args G Φ η H0 H l vs Fs → f l = some (m, t) →
  (∀ v H' F, Same H H' → Rp G H' v t F → Fp Φ η H0 m F → Q v H') → r vs H Q
theorem tN_of {r : List V → Hp → VK → Prop} {f : List Val → Option Val} (ok : CallOk G r f) {σ : L2.St} {H : Hp} {Q : VK} {η : VS.Env} {Φ : Fps} {l : List Val} {m : Md} {t : T} (s : SR G Φ η σ H) (el : cs η = some l) (e : f l = some (m, t))
    (k : ∀ v H' F, Same H H' → Rp G H' v t F → Fp Φ η H m F → Q v H') : tEs G cs σ H fun vs H1 => r vs H1 Q :=
  ⟨Φ, η, l, s, el, fun vs H' Fs e1 r1 f1 => ok Φ η H H' l vs Fs m t Q ⟨e1, r1, f1⟩ e fun v H2 F e2 r2 f2 => k v H2 F (e1.trans e2) r2 f2⟩
/-- a built-in function, a built-in type, called -/
theorem pv_callB {r : List V → Hp → VK → Prop} {f : List Val → Option Val} {id : String} {x : Str} (hc : CallR X (.builtin id) r) (ok : CallOk G r f) (hg : Gl X x) (hm : X.mg x = none) (hv : bootBuiltins x = some (.builtin id)) (ha : PVs G X (e :: es) cs)
    (hn : x ≠ "__name__" := by decide) (hdb : (x == ("__debug__" : Str)) = false := by decide)
    (he : starEach (e :: es) X.env = (false, eval e X.env) :: starEach es X.env := by rfl) (hpl : (backTo pos (starEach es X.env)).any (·.1) = false := by rfl) : PV G X (.Call (.Name x p) (e :: es) [] pos) (eN f cs) :=
  PE.weak (pe_callB hc hg hm hv ha hn hdb he hpl) fun σ H Q ⟨Φ, η, m, t, s, e, k⟩ => by
    unfold eN at e
    obtain ⟨l, el, e⟩ := Option.bind_eq_some_iff.mp e
    exact tN_of ok s el e k
theorem pv_callTy {r : List V → Hp → VK → Prop} {f : List Val → Option Val} {Ty : String} {x : Str} (hc : CallR X (.type Ty) r) (ok : CallOk G r f) (hg : Gl X x) (hm : X.mg x = none) (hv : bootBuiltins x = some (.type Ty)) (ha : PVs G X (e :: es) cs)
    (hn : x ≠ "__name__" := by decide) (hdb : (x == ("__debug__" : Str)) = false := by decide)
    (he : starEach (e :: es) X.env = (false, eval e X.env) :: starEach es X.env := by rfl) (hpl : (backTo pos (starEach es X.env)).any (·.1) = false := by rfl) : PV G X (.Call (.Name x p) (e :: es) [] pos) (eN f cs) :=
  PE.weak (pe_callTy hc hg hm hv ha hn hdb he hpl) fun σ H Q ⟨Φ, η, m, t, s, e, k⟩ => by
    unfold eN at e
    obtain ⟨l, el, e⟩ := Option.bind_eq_some_iff.mp e
    exact tN_of ok s el e k
theorem pv_lst (h : PVs G X es cs) : PV G X (.List es pos) (eLst cs) := PE.weak (pe_lst h) fun σ H Q ⟨Φ, η, m, t, s, e, k⟩ => by
  unfold eLst at e
  obtain ⟨l, el, e⟩ := Option.bind_eq_some_iff.mp e
  refine ⟨Φ, η, l, s, el, fun vs H' Fs e1 r1 f1 => ?_⟩
  have A : Args G Φ η H H' l vs Fs := ⟨e1, r1, f1⟩
  obtain ⟨_, hl, _⟩ := mkL_inv e
  refine ⟨by rw [r1.len.1, ← LINE_eq]; exact hl, new_lst e1 e r1 (f1.join A.len) fun v H2 F e2 r2 f2 => k v H2 F (e1.trans e2) r2 f2⟩
theorem pv_tup {x1} (h : PVs G X es cs) : PV G X (.Tuple es x1 pos) (eTup cs) := PE.weak (pe_tup h) fun σ H Q ⟨Φ, η, m, t, s, e, k⟩ => by
  unfold eTup at e
  obtain ⟨l, el, e⟩ := Option.bind_eq_some_iff.mp e
  refine ⟨Φ, η, l, s, el, fun vs H' Fs e1 r1 f1 => ?_⟩
  have A : Args G Φ η H H' l vs Fs := ⟨e1, r1, f1⟩
  unfold tupOf at e
  split at e
  · rename_i hl
    cases e
    refine ⟨by rw [r1.len.1, ← LINE_eq, trees, List.length_map]; exact hl, fun q hq => ?_⟩
    have r2 : Rp G (upd H' q (.tup vs)) (.ref q) (.tup (trees l)) Fs.flatten := .tup upd_same (r1.same (same_new hq))
    exact k _ _ _ (e1.trans (same_new hq)) r2 (Fp.up (f1.join A.len) r2)
  · cases e

/-! ### tests -/
theorem truV_of {H : Hp} {v : V} {t : T} {F : List Addr} {k : Bool} (r : Rp G H v t F) (h : tru t = some k) : TruV G.K v H k := by
  cases r with
  | non => cases h; rfl
  | bl b => cases h; rfl
  | int i => cases h; rfl
  | str s hl =>
    cases h
    refine ⟨by rw [sx_len, ← LINE_eq]; exact hl.1, ?_⟩
    rw [sx_len]
    cases s with
    | nil => rfl
    | cons a r =>
      have : ((List.length (a :: r) : Int) != 0) = true := by simp; omega
      rw [this]
      rfl
  | scr h' => simp [tru] at h
  | tup h' q =>
    cases h
    refine .inr (.inl ⟨_, SqT.of h', ?_⟩)
    have := q.len.1
    rename_i vs ts _
    cases vs <;> cases ts <;> simp_all
  | lst h' q =>
    cases h
    refine .inl ⟨_, SqL.of h', ?_⟩
    have := q.len.1
    rename_i vs ts _
    cases vs <;> cases ts <;> simp_all
  | dct h' hl q =>
    cases h
    refine .inr (.inr ⟨_, h', ?_⟩)
    have := q.len.1
    rename_i ks vs ts _
    cases ks <;> cases vs <;> cases ts <;> simp_all
  | dctT h' hl q => simp [tru] at h
  | obj h' hl q => simp [tru] at h
theorem pvt_val (h : PV G X a ca) (hK : X.K = G.K := by rfl) (he : ∀ whole, isTrue a X.env whole = (do let v ← whole; standAt a.pos; holding [v] (truthy v)) := by intro _; rfl) : PVT G X a ca :=
  PT.weak (pt_truth h he) fun σ H Q ⟨Φ, η, m, r, b, s, e, eb, k⟩ => ⟨Φ, η, m, r, s, e, fun v H' F e1 r1 f1 => ⟨b, by rw [hK]; exact truV_of r1 eb, k H' e1⟩⟩
def PVW (G : Gx) (X : Cx) (e : Expr) (c : Ex) : Prop := PW X e (tT G c)
theorem PW.weak {X : Cx} {e : Expr} {t t' : TT} (h : PW X e t) (w : ∀ σ H Q, t' σ H Q → t σ H Q) : PW X e t' := fun wh pins s σ H Q I q => h wh pins s σ H Q I (w σ H Q q)
theorem PVW.pvt (h : PVW G X e ca) : PVT G X e ca := PW.pt h
variable {rest : List Expr}
theorem pvw_and1 (ha : PVT G X a ca) : PVW G X (.BoolOp .And [a] pos) ca := pw_and1 ha
theorem pvw_or1 (ha : PVT G X a ca) : PVW G X (.BoolOp .Or [a] pos) ca := pw_or1 ha
theorem eAnd_inv {η : VS.Env} {m : Md} {r : T} (e : eAnd ca cb η = some (m, r)) : (∃ n, ca η = some (n, .bl true) ∧ cb η = some (m, r)) ∨ (∃ n, ca η = some (n, .bl false) ∧ m = .fr ∧ r = .bl false) := by
  unfold eAnd at e
  obtain ⟨⟨n, x⟩, ea, e⟩ := Option.bind_eq_some_iff.mp e
  split at e
  · rename_i h
    cases (show x = .bl true from h)
    exact .inl ⟨n, ea, e⟩
  · rename_i h
    cases (show x = .bl false from h)
    cases e
    exact .inr ⟨n, ea, rfl, rfl⟩
  · cases e
theorem eOr_inv {η : VS.Env} {m : Md} {r : T} (e : eOr ca cb η = some (m, r)) : (∃ n, ca η = some (n, .bl false) ∧ cb η = some (m, r)) ∨ (∃ n, ca η = some (n, .bl true) ∧ m = .fr ∧ r = .bl true) := by
  unfold eOr at e
  obtain ⟨⟨n, x⟩, ea, e⟩ := Option.bind_eq_some_iff.mp e
  split at e
  · rename_i h
    cases (show x = .bl true from h)
    cases e
    exact .inr ⟨n, ea, rfl, rfl⟩
  · rename_i h
    cases (show x = .bl false from h)
    exact .inl ⟨n, ea, e⟩
  · cases e
theorem pvw_and (ha : PVT G X a ca) (hb : PVW G X (.BoolOp .And (b :: rest) pos) cb) : PVW G X (.BoolOp .And (a :: b :: rest) pos) (eAnd ca cb) :=
  PW.weak (pw_and ha hb) fun σ H Q ⟨Φ, η, m, r, k, s, e, eb, q⟩ => by
    rcases eAnd_inv e with ⟨n, ea, e2⟩ | ⟨n, ea, rfl, rfl⟩
    · refine ⟨Φ, η, n, _, true, s, ea, rfl, fun H' e1 => ?_⟩
      refine iteT ?_
      exact ⟨Φ, η, m, r, k, s.same e1, e2, eb, fun H2 e2 => q H2 (e1.trans e2)⟩
    · refine ⟨Φ, η, n, _, false, s, ea, rfl, fun H' e1 => ?_⟩
      refine iteF ?_
      cases eb
      exact q H' e1
theorem pvw_or (ha : PVT G X a ca) (hb : PVW G X (.BoolOp .Or (b :: rest) pos) cb) : PVW G X (.BoolOp .Or (a :: b :: rest) pos) (eOr ca cb) :=
  PW.weak (pw_or ha hb) fun σ H Q ⟨Φ, η, m, r, k, s, e, eb, q⟩ => by
    rcases eOr_inv e with ⟨n, ea, e2⟩ | ⟨n, ea, rfl, rfl⟩
    · refine ⟨Φ, η, n, _, false, s, ea, rfl, fun H' e1 => ?_⟩
      refine iteF ?_
      exact ⟨Φ, η, m, r, k, s.same e1, e2, eb, fun H2 e2 => q H2 (e1.trans e2)⟩
    · refine ⟨Φ, η, n, _, true, s, ea, rfl, fun H' e1 => ?_⟩
      refine iteT ?_
      cases eb
      exact q H' e1
theorem eNot_inv {η : VS.Env} {m : Md} {r : T} (e : eNot ca η = some (m, r)) : ∃ n b, ca η = some (n, .bl b) ∧ m = .fr ∧ r = .bl (!b) := by
  unfold eNot at e
  obtain ⟨⟨n, x⟩, ea, e⟩ := Option.bind_eq_some_iff.mp e
  split at e
  · rename_i b h
    cases (show x = .bl b from h)
    cases e
    exact ⟨n, b, ea, rfl, rfl⟩
  · cases e
theorem pvt_not (ha : PVT G X a ca) : PVT G X (.UnaryOp .Not a pos) (eNot ca) := PT.weak (pt_not ha) fun σ H Q ⟨Φ, η, m, r, k, s, e, eb, q⟩ => by
  obtain ⟨n, b, ea, rfl, rfl⟩ := eNot_inv e
  cases eb
  exact ⟨Φ, η, n, _, b, s, ea, rfl, fun H' e1 => q H' e1⟩
theorem pv_not (ha : PV G X a ca) : PV G X (.UnaryOp .Not a pos) (eNot ca) := PE.weak (pe_not ha) fun σ H Q ⟨Φ, η, m, r, s, e, q⟩ => by
  obtain ⟨n, b, ea, rfl, rfl⟩ := eNot_inv e
  exact ⟨Φ, η, n, _, s, ea, fun v H' F e1 r1 f1 => ⟨b, r1.bl_inv, q _ H' _ e1 (.bl _) Fp.nil⟩⟩
theorem pv_one {op} (h : PV G X a ca) : PV G X (.BoolOp op [a] pos) ca := pe_one h
theorem pv_and (ha : PV G X a ca) (hb : PV G X (.BoolOp .And (b :: rest) pos) cb) : PV G X (.BoolOp .And (a :: b :: rest) pos) (eAnd ca cb) :=
  PE.weak (pe_and ha hb) fun σ H Q ⟨Φ, η, m, r, s, e, q⟩ => by
    rcases eAnd_inv e with ⟨n, ea, e2⟩ | ⟨n, ea, rfl, rfl⟩
    · refine ⟨Φ, η, n, _, s, ea, fun v H' F e1 r1 f1 => ⟨true, r1.bl_inv, ?_⟩⟩
      refine iteT ?_
      exact ⟨Φ, η, m, r, s.same e1, e2, fun v H2 F e2 r2 f2 => q v H2 F (e1.trans e2) r2 (f2.back e1)⟩
    · refine ⟨Φ, η, n, _, s, ea, fun v H' F e1 r1 f1 => ⟨false, r1.bl_inv, ?_⟩⟩
      refine iteF ?_
      exact q _ H' _ e1 (.bl _) Fp.nil
theorem pv_or (ha : PV G X a ca) (hb : PV G X (.BoolOp .Or (b :: rest) pos) cb) : PV G X (.BoolOp .Or (a :: b :: rest) pos) (eOr ca cb) :=
  PE.weak (pe_or ha hb) fun σ H Q ⟨Φ, η, m, r, s, e, q⟩ => by
    rcases eOr_inv e with ⟨n, ea, e2⟩ | ⟨n, ea, rfl, rfl⟩
    · refine ⟨Φ, η, n, _, s, ea, fun v H' F e1 r1 f1 => ⟨false, r1.bl_inv, ?_⟩⟩
      refine iteF ?_
      exact ⟨Φ, η, m, r, s.same e1, e2, fun v H2 F e2 r2 f2 => q v H2 F (e1.trans e2) r2 (f2.back e1)⟩
    · refine ⟨Φ, η, n, _, s, ea, fun v H' F e1 r1 f1 => ⟨true, r1.bl_inv, ?_⟩⟩
      refine iteT ?_
      exact q _ H' _ e1 (.bl _) Fp.nil
theorem pv_if (hc : PVT G X c cc) (ha : PV G X a ca) (hb : PV G X b cb) : PV G X (.IfExp c a b pos) (eIf cc ca cb) :=
  PE.weak (pe_ifExp hc ha hb) fun σ H Q ⟨Φ, η, m, r, s, e, q⟩ => by
    unfold eIf at e
    obtain ⟨⟨n, x⟩, ec, e⟩ := Option.bind_eq_some_iff.mp e
    obtain ⟨k, ek, e⟩ := Option.bind_eq_some_iff.mp e
    refine ⟨Φ, η, n, x, k, s, ec, ek, fun H' e1 => ?_⟩
    cases k with
    | true =>
      rw [if_pos rfl] at e
      refine iteT ?_
      exact ⟨Φ, η, m, r, s.same e1, e, fun v H2 F e2 r2 f2 => q v H2 F (e1.trans e2) r2 (f2.back e1)⟩
    | false =>
      rw [if_neg Bool.false_ne_true] at e
      refine iteF ?_
      exact ⟨Φ, η, m, r, s.same e1, e, fun v H2 F e2 r2 f2 => q v H2 F (e1.trans e2) r2 (f2.back e1)⟩
theorem isN_dec {H : Hp} {v : V} {t : T} {F : List Addr} (r : Rp G H v t F) : decide (v = .non) = isN t := by
  cases r <;> simp [isN]
theorem pv_isN {j pos'} (ha : PV G X a ca) : PV G X (.Compare a [.Is] [.Constant .none j pos'] pos) (eIsN ca) := PE.weak (pe_cmp (pc_isN ha)) fun σ H Q ⟨Φ, η, m, r, s, e, q⟩ => by
  unfold eIsN at e
  obtain ⟨⟨n, x⟩, ea, e⟩ := Option.bind_eq_some_iff.mp e
  cases e
  refine ⟨Φ, η, n, x, s, ea, fun v H' F e1 r1 f1 => ?_⟩
  show Q (.bl (decide (v = .non))) H'
  rw [isN_dec r1]
  exact q _ H' _ e1 (.bl _) Fp.nil
theorem pv_notN {j pos'} (ha : PV G X a ca) : PV G X (.Compare a [.IsNot] [.Constant .none j pos'] pos) (eNotN ca) := PE.weak (pe_cmp (pc_notN ha)) fun σ H Q ⟨Φ, η, m, r, s, e, q⟩ => by
  unfold eNotN at e
  obtain ⟨⟨n, x⟩, ea, e⟩ := Option.bind_eq_some_iff.mp e
  cases e
  refine ⟨Φ, η, n, x, s, ea, fun v H' F e1 r1 f1 => ?_⟩
  show Q (.bl (!decide (v = .non))) H'
  rw [isN_dec r1]
  exact q _ H' _ e1 (.bl _) Fp.nil
theorem tB_of {t : TE} {c : Ex} {σ : L2.St} {H : Hp} {Q : Bool → Hp → Prop} (h : tT G c σ H Q) (ht : ∀ η m r, c η = some (m, r) → ∃ b, r = .bl b) (w : ∀ Q, tE G c σ H Q → t σ H Q) : tB t σ H Q := by
  obtain ⟨Φ, η, m, r, b, s, e, eb, k⟩ := h
  refine w _ ⟨Φ, η, m, r, s, e, fun v H' F e1 r1 f1 => ?_⟩
  obtain ⟨b', er⟩ := ht η m r e
  rw [er] at eb r1
  cases (show some b' = some b from eb)
  exact ⟨_, r1.bl_inv, k H' e1⟩
end
end VS

set_option Elab.async false
set_option linter.all false
set_option maxRecDepth 100000
set_option maxHeartbeats 1000000
namespace VS
open PySem PySem.Spec PyProof.Rows L2
section
variable {G : Gx} {X : Cx} {a b c e : Expr} {es : List Expr} {ca cb cc : Ex} {cs : Exs} {pos p : Pos}

/-! ### len, min, max, list, isinstance -/
theorem trees1 {l : List Val} {x : T} (h : trees l = [x]) : ∃ m, l = [(m, x)] := by
  cases l with
  | nil => simp [trees] at h
  | cons v r =>
    cases r with
    | nil =>
      simp [trees] at h
      exact ⟨v.1, by rw [← h]⟩
    | cons w r => simp [trees] at h
theorem RpL.one {H : Hp} {vs : List V} {t : T} {Fs : List (List Addr)} (r : RpL G H vs [t] Fs) : ∃ v F, vs = [v] ∧ Fs = [F] ∧ Rp G H v t F := by
  cases r with
  | cons r q => cases q; exact ⟨_, _, rfl, rfl, r⟩
theorem RpL.two {H : Hp} {vs : List V} {t t' : T} {Fs : List (List Addr)} (r : RpL G H vs [t, t'] Fs) : ∃ v v' F F', vs = [v, v'] ∧ Fs = [F, F'] ∧ Rp G H v t F ∧ Rp G H v' t' F' := by
  cases r with
  | cons r q =>
    obtain ⟨v', F', rfl, rfl, r'⟩ := q.one
    exact ⟨_, _, _, _, rfl, rfl, r, r'⟩
def rLen (K : PySem.W.Frag) : List V → Hp → VK → Prop := fun xs H Q => (∃ x n, xs = [x] ∧ LenV K x H n ∧ Q (.int n) H) ∨ (∃ a kvs, xs = [V.ref a] ∧ H a = some (.dK kvs) ∧ Q (.int kvs.length) H)
theorem call_lenD' : CallR X (.builtin "len") (fun xs H Q => ∃ a kvs, xs = [V.ref a] ∧ H a = some (.dK kvs) ∧ Q (.int kvs.length) H) := by
  intro pins s σ H xs us Q I r h
  obtain ⟨a, kvs, rfl, ha, q⟩ := h
  obtain ⟨u, rfl, ru⟩ := vals1 r
  cases ru
  exact d_len I (.inl ha) fun t s' I' => ⟨.int kvs.length, H, I', ⟨t, rfl⟩, q⟩
theorem call_lenA : CallR X (.builtin "len") (rLen X.K) := call_len.or call_lenD'
theorem ok_len : CallOk G (rLen G.K) bLen := by
  intro Φ η H0 H l vs Fs m t Q A e k
  unfold bLen at e
  split at e
  · rename_i x
    obtain ⟨mx, x⟩ := x
    obtain ⟨n, en, e⟩ := Option.map_eq_some_iff.mp e
    cases e
    obtain ⟨v, F, rfl, rfl, r⟩ := (show RpL G H vs [x] Fs from A.rp).one
    have fin : Q (.int (n : Int)) H := fin_of k (.int _)
    cases r with
    | non => simp [lenT] at en
    | bl b => simp [lenT] at en
    | int i => simp [lenT] at en
    | str s hl =>
      cases en
      exact .inl ⟨_, _, rfl, ⟨by rw [sx_len, ← LINE_eq]; exact hl.1, rfl⟩, by rw [sx_len]; exact fin⟩
    | scr h =>
      cases en
      refine .inl ⟨_, _, rfl, .inl ⟨_, h.seq, rfl⟩, ?_⟩
      rw [List.length_map]
      exact fin
    | tup h q =>
      cases en
      refine .inl ⟨_, _, rfl, .inr ⟨_, SqT.of h, rfl⟩, ?_⟩
      rw [q.len.1]
      exact fin
    | lst h q =>
      cases en
      refine .inl ⟨_, _, rfl, .inl ⟨_, SqL.of h, rfl⟩, ?_⟩
      rw [q.len.1]
      exact fin
    | dct h hl q =>
      cases en
      refine .inr ⟨_, _, rfl, h, ?_⟩
      rename_i ks ws ts _
      have e1 := q.len.1
      rw [List.length_zip, List.length_map] at fin
      rw [List.length_zip, e1]
      exact fin
    | dctT h hl q => simp [lenT] at en
    | obj h hl q => simp [lenT] at en
  · cases e
theorem ok_max2 : CallOk G (fun xs H Q => ∃ i j, xs = [.int i, .int j] ∧ Q (.int (if j > i then j else i)) H) bMax2 := by
  intro Φ η H0 H l vs Fs m t Q A e k
  unfold bMax2 at e
  split at e
  · rename_i _ i _ j
    cases e
    obtain ⟨v, v', F, F', rfl, rfl, r, r'⟩ := (show RpL G H vs [.int i, .int j] Fs from A.rp).two
    exact ⟨i, j, by rw [r.int_inv, r'.int_inv], fin_of k (.int _)⟩
  · cases e
theorem ok_min2 : CallOk G (fun xs H Q => ∃ i j, xs = [.int i, .int j] ∧ Q (.int (if j < i then j else i)) H) bMin2 := by
  intro Φ η H0 H l vs Fs m t Q A e k
  unfold bMin2 at e
  split at e
  · rename_i _ i _ j
    cases e
    obtain ⟨v, v', F, F', rfl, rfl, r, r'⟩ := (show RpL G H vs [.int i, .int j] Fs from A.rp).two
    exact ⟨i, j, by rw [r.int_inv, r'.int_inv], fin_of k (.int _)⟩
  · cases e
def rList (K : PySem.W.Frag) : List V → Hp → VK → Prop := fun xs H Q => ∃ p ys, xs = [.ref p] ∧ (SqL K H p ys ∨ SqT K H p ys) ∧ ∀ l, H l = none → Q (.ref l) (upd H l (.lst ys))
/-- list of a list or tuple -/
theorem ok_list : CallOk G (rList G.K) bList := by
  intro Φ η H0 H l vs Fs m t Q A e k
  unfold bList at e
  split at e
  · rename_i mx x
    obtain ⟨v, F, rfl, rfl, rx⟩ := (show RpL G H vs [.lst x] Fs from A.rp).one
    obtain ⟨a, ys, Gs, rfl, rfl, ha, ra⟩ := rx.lst_inv
    have f := A.fp.each 0 _ _ rfl rfl
    exact ⟨a, ys, rfl, .inl (SqL.of ha), new_lst A.same e ra (f.sub (List.sublist_cons_self _ _)) k⟩
  · rename_i mx x
    obtain ⟨v, F, rfl, rfl, rx⟩ := (show RpL G H vs [.tup x] Fs from A.rp).one
    obtain ⟨a, ys, Gs, rfl, rfl, ha, ra⟩ := rx.tup_inv
    have f := A.fp.each 0 _ _ rfl rfl
    exact ⟨a, ys, rfl, .inr (SqT.of ha), new_lst A.same e ra f k⟩
  · cases e

/-! ### slices -/
def tO (G : Gx) (c : Option Ex) : TO := fun σ H Q => ∃ Φ η o, SR G Φ η σ H ∧ partI c η = some o ∧ ∀ H', Same H H' → Q o H'
def PVO (G : Gx) (X : Cx) (e : Option Expr) (c : Option Ex) : Prop := PO X e (tO G c)
theorem PO.weak {X : Cx} {e : Option Expr} {t t' : TO} (h : PO X e t) (w : ∀ σ H Q, t' σ H Q → t σ H Q) : PO X e t' := fun pins s σ H Q I q => h pins s σ H Q I (w σ H Q q)
theorem pvo_none : PVO G X none none := PO.weak po_none fun σ H Q ⟨Φ, η, o, s, e, k⟩ => by
  cases (show some (none : Option Int) = some o from e)
  exact k H (Same.refl _)
theorem pvo_some (h : PV G X a ca) : PVO G X (some a) (some ca) := PO.weak (po_some h) fun σ H Q ⟨Φ, η, o, s, e, k⟩ => by
  obtain ⟨⟨m, y⟩, ea, e⟩ := Option.bind_eq_some_iff.mp (show (ca η).bind (fun y => (int? y.2).map some) = some o from e)
  obtain ⟨i, ei, e⟩ := Option.map_eq_some_iff.mp e
  cases e
  refine ⟨Φ, η, m, y, s, ea, fun v H' F e1 r1 f1 => ?_⟩
  cases y with
  | int j =>
    cases ei
    exact ⟨_, r1.int_inv, k H' e1⟩
  | _ => cases ei
theorem cut_eq {α : Type} (l : List α) (lo hi : Option Int) : cut l lo hi = (l.drop (HT.sIx l.length 0 lo)).take (HT.sIx l.length l.length hi - HT.sIx l.length 0 lo) := by
  unfold cut
  cases lo <;> cases hi <;> rfl
theorem ssi_eq (lo hi : Option Int) (n : Nat) : Builtin.Str.strSliceIndices lo hi 1 n = Builtin.Str.strSliceIndices (some ((min (HT.sIx n 0 lo) n : Nat) : Int)) (some ((min (HT.sIx n n hi) n : Nat) : Int)) 1 n := by
  have e1 : ∀ k : Nat, ¬ ((k : Int) < 0) := fun k => by omega
  unfold Builtin.Str.strSliceIndices
  simp only [show (1 : Int) > 0 by decide, if_true, e1, if_false]
  congr 1
  · cases lo with
    | none => simp only [HT.sIx]; omega
    | some i =>
      simp only [HT.sIx]
      by_cases h : i < 0
      · simp only [h, if_true]; omega
      · simp only [h, if_false]; omega
  · cases hi with
    | none => simp only [HT.sIx]; omega
    | some i =>
      simp only [HT.sIx]
      by_cases h : i < 0
      · simp only [h, if_true]; omega
      · simp only [h, if_false]; omega
theorem sliceText_cut (s : Tx) (lo hi : Option Int) : PySem.StrLaws.sliceText (sx s) lo hi = sx (cut s lo hi) := by
  have key : PySem.StrLaws.sliceText (sx s) lo hi = PySem.StrLaws.sliceText (sx s) (some ((min (HT.sIx s.length 0 lo) s.length : Nat) : Int)) (some ((min (HT.sIx s.length s.length hi) s.length : Nat) : Int)) := by
    unfold PySem.StrLaws.sliceText
    rw [sx_len, ssi_eq]
  rw [key]
  have hd : ∀ a : Nat, s.drop (min a s.length) = s.drop a := fun a => by
    by_cases h : a ≤ s.length
    · rw [Nat.min_eq_left h]
    · rw [Nat.min_eq_right (by omega), List.drop_of_length_le (Nat.le_refl _), List.drop_of_length_le (by omega)]
  by_cases h : min (HT.sIx s.length 0 lo) s.length ≤ min (HT.sIx s.length s.length hi) s.length
  · rw [PySem.StrLaws.sliceText_nat (sx s) h (by rw [sx_len]; omega), cut_eq]
    show (⟨_⟩ : Str) = ⟨_⟩
    congr 2
    show ((sx s).cps.toList.drop _).take _ = _
    have : (sx s).cps.toList = s := by simp [sx]
    rw [this, hd]
    by_cases h2 : HT.sIx s.length 0 lo ≤ s.length
    · rw [Nat.min_eq_left h2]
      by_cases h3 : HT.sIx s.length s.length hi ≤ s.length
      · rw [Nat.min_eq_left h3]
      · rw [Nat.min_eq_right (by omega), List.take_of_length_le (by rw [List.length_drop]; omega), List.take_of_length_le (by rw [List.length_drop]; omega)]
    · rw [List.drop_of_length_le (by omega)]
      simp
  · have e0 : cut s lo hi = [] := by
      rw [cut_eq]
      have : HT.sIx s.length s.length hi - HT.sIx s.length 0 lo = 0 := by omega
      rw [this, List.take_zero]
    rw [e0]
    unfold PySem.StrLaws.sliceText
    have e2 : Builtin.Str.strSliceIndices (some ((min (HT.sIx s.length 0 lo) s.length : Nat) : Int)) (some ((min (HT.sIx s.length s.length hi) s.length : Nat) : Int)) 1 (sx s).length = [] := by
      have e1 : ∀ k : Nat, ¬ ((k : Int) < 0) := fun k => by omega
      unfold Builtin.Str.strSliceIndices sliceRange
      simp only [show (1 : Int) > 0 by decide, if_true, e1, if_false, sx_len]
      rw [if_neg (by omega)]
      rfl
    rw [e2]
    have : ¬ ((1 : Int) == 1 && ([] : List Nat).length == (sx s).length) = true := by
      rw [sx_len]
      simp
      omega
    rw [if_neg this]
    rfl
def rSlS : V → Option Int → Option Int → Hp → VK → Prop := fun x lo hi H Q => ∃ z, x = .str z ∧ z.length ≤ sizeLine ∧ Q (.str (PySem.StrLaws.sliceText z lo hi)) H
theorem part_of {v : Value} {o : Option Int} (h : IsPart v o) : ∃ q : Option (Int × Tok), v = partValue q ∧ o = q.map (·.1) := by
  cases h with
  | none => exact ⟨none, rfl, rfl⟩
  | int i t => exact ⟨some (i, t), rfl, rfl⟩
theorem filterMap_le {α β : Type} (f : α → Option β) (l : List α) : (l.filterMap f).length ≤ l.length := List.length_filterMap_le f l
theorem ssi_len (lo hi : Option Int) (n : Nat) : (Builtin.Str.strSliceIndices lo hi 1 n).length ≤ n := by
  rw [ssi_eq]
  by_cases h : min (HT.sIx n 0 lo) n ≤ min (HT.sIx n n hi) n
  · rw [PySem.StrLaws.strSliceIndices_plain h (by omega), List.length_map, List.length_range]
    omega
  · have e1 : ∀ k : Nat, ¬ ((k : Int) < 0) := fun k => by omega
    unfold Builtin.Str.strSliceIndices sliceRange
    simp only [show (1 : Int) > 0 by decide, if_true, e1, if_false]
    rw [if_neg (by omega)]
    simp
theorem sl_str : SlR X rSlS := by
  intro pins s σ H x v vl vu lo hi sl Q I rx hs pl pu h
  obtain ⟨z, rfl, hz, q⟩ := h
  obtain ⟨t, rfl⟩ := rx
  obtain ⟨l, rfl, rfl⟩ := part_of pl
  obtain ⟨u, rfl, rfl⟩ := part_of pu
  refine ⟨"str", _, F.slot_str_getitem.lookup, typeIs_str s z t, wpAny_getItem_str_slice (l := l) (u := u) (st := none) hs rfl ?_⟩
  unfold sliceMade
  split
  · rename_i hc
    refine ⟨.str z, H, I, ⟨t, rfl⟩, ?_⟩
    have e : PySem.StrLaws.sliceText z (l.map (·.1)) (u.map (·.1)) = z := by
      unfold PySem.StrLaws.sliceText
      exact if_pos hc
    rw [e] at q
    exact q
  · rename_i hc
    refine ⟨Nat.le_trans ?_ hz, .str _, H, I.tok _, ⟨_, rfl⟩, ?_⟩
    · show (List.filterMap _ _).toArray.size ≤ _
      rw [List.size_toArray]
      exact Nat.le_trans (filterMap_le _ _) (ssi_len _ _ _)
    · have e : PySem.StrLaws.sliceText z (l.map (·.1)) (u.map (·.1)) = ⟨((slicePicked z l u none).filterMap (z.cps[·]?)).toArray⟩ := by
        unfold PySem.StrLaws.sliceText
        exact if_neg hc
      rw [e] at q
      exact q
def rSl (K : PySem.W.Frag) : V → Option Int → Option Int → Hp → VK → Prop := fun x lo hi H Q => rSlS x lo hi H Q ∨ rSlL K x lo hi H Q
theorem sl_A : SlR X (rSl X.K) := sl_str.or sl_list
theorem cut_len {α : Type} (l : List α) (lo hi : Option Int) : (cut l lo hi).length ≤ l.length := by
  rw [cut_eq, List.length_take, List.length_drop]
  omega
theorem RpL.cut {H : Hp} {vs : List V} {ts : List T} {Fs : List (List Addr)} (r : RpL G H vs ts Fs) (lo hi : Option Int) : RpL G H (cutV vs lo hi) (VS.cut ts lo hi) (VS.cut Fs lo hi) := by
  have h := r.len
  rw [cut_eq, cut_eq, h.2]
  unfold cutV
  rw [h.1]
  exact (r.drop _).take _
theorem cut_sub {α : Type} (l : List α) (lo hi : Option Int) : (VS.cut l lo hi).Sublist l := by
  rw [cut_eq]
  exact (List.take_sublist _ _).trans (List.drop_sublist _ _)
theorem flat_sub {F G : List (List Addr)} (h : F.Sublist G) : F.flatten.Sublist G.flatten := by
  induction h with
  | slnil => exact List.Sublist.refl _
  | cons a _ ih => rw [List.flatten_cons]; exact ih.trans (List.sublist_append_right _ _)
  | cons_cons a _ ih => rw [List.flatten_cons, List.flatten_cons]; exact (List.Sublist.refl _).append ih
theorem pv_slice {lo hi : Option Expr} {cl ch : Option Ex} {p2 : Pos} (ha : PV G X a ca) (hl : PVO G X lo cl) (hh : PVO G X hi ch) (hK : X.K = G.K := by rfl) : PV G X (.Subscript a (.Slice lo hi none p2) pos) (eSl ca cl ch) :=
  PE.weak (pe_slice sl_A ha hl hh) fun σ H Q ⟨Φ, η, m, t, s, e, k⟩ => by
    unfold eSl at e
    obtain ⟨⟨mx, x⟩, ea, e'⟩ := Option.bind_eq_some_iff.mp e
    obtain ⟨l, el, e''⟩ := Option.bind_eq_some_iff.mp e'
    obtain ⟨h, eh, e4⟩ := Option.bind_eq_some_iff.mp e''
    clear e e' e''
    refine ⟨Φ, η, mx, x, s, ea, fun v H1 F e1 r1 f1 => ⟨Φ, η, l, s.same e1, el, fun H2 e2 => ⟨Φ, η, h, (s.same e1).same e2, eh, fun H3 e3 => ?_⟩⟩⟩
    have e03 : Same H H3 := (e1.trans e2).trans e3
    have r3 := (r1.same e2).same e3
    unfold oSl at e4
    split at e4
    · rename_i m' z q
      cases q
      cases e4
      obtain ⟨rfl, hl⟩ := r3.str_inv
      refine .inl ⟨_, rfl, by rw [sx_len, ← LINE_eq]; exact hl.1, ?_⟩
      rw [sliceText_cut]
      exact k _ H3 _ e03 (.str _ ⟨Nat.le_trans (cut_len _ _ _) hl.1, fun c hc => hl.2 c ((cut_sub _ _ _).subset hc)⟩) Fp.nil
    · rename_i m' z q
      cases q
      obtain ⟨a', vs, Fs, rfl, rfl, ha', ra⟩ := r3.lst_inv
      refine .inr ⟨a', vs, rfl, by rw [hK]; exact SqL.of ha', new_lst e03 e4 (ra.cut l h) ((f1.sub (List.sublist_cons_self _ _)).sub (flat_sub (cut_sub _ _ _))) fun v H4 F e5 r4 f4 => k v H4 F (e03.trans e5) r4 f4⟩
    · cases e4

/-! ### isinstance -/
def tyS : Ty → String
  | .int => "int"
  | .str => "str"
  | .bool => "bool"
  | .list => "list"
  | .tuple => "tuple"
  | .dict => "dict"
def rIs (K : PySem.W.Frag) : List V → Hp → VK → Prop := fun vs H Q => ∃ x c t b, vs = [x, .ty c] ∧ TyOf K H x t ∧ PySem.W.kitOne K t (.type c) = some b ∧ Q (.bl b) H
theorem call_is : CallR X (.builtin "isinstance") (rIs X.K) := by
  intro pins s σ H xs us Q I r h
  obtain ⟨x, c, t, b, rfl, ty, e, q⟩ := h
  obtain ⟨u, w', rfl, r1, r2⟩ := vals2 r
  cases r2
  exact isinst_ok I r1 ty e fun tk => ⟨.bl b, H, I.tok _, rfl, q⟩
theorem kit_all (K : PySem.W.Frag) (ty : Ty) : (PySem.W.kitOne K (.type "NoneType") (.type (tyS ty)) = some false) ∧ (PySem.W.kitOne K (.type "bool") (.type (tyS ty)) = some (isTy ty (.bl true))) ∧ (PySem.W.kitOne K (.type "int") (.type (tyS ty)) = some (isTy ty (.int 0))) ∧
    (PySem.W.kitOne K (.type "str") (.type (tyS ty)) = some (isTy ty (.str []))) ∧ (PySem.W.kitOne K (.type "list") (.type (tyS ty)) = some (isTy ty (.lst []))) ∧ (PySem.W.kitOne K (.type "tuple") (.type (tyS ty)) = some (isTy ty (.tup []))) ∧ (PySem.W.kitOne K (.type "dict") (.type (tyS ty)) = some (isTy ty (.dct 0 []))) := by
  cases ty <;> refine ⟨?_, ?_, ?_, ?_, ?_, ?_, ?_⟩ <;> kernel_rfl
theorem is_of {H : Hp} {v : V} {t : T} {F : List Addr} (ty : Ty) (r : Rp G H v t F) (h : knownTy t = true) : ∃ t', TyOf G.K H v t' ∧ PySem.W.kitOne G.K t' (.type (tyS ty)) = some (isTy ty t) := by
  obtain ⟨k1, k2, k3, k4, k5, k6, k7⟩ := kit_all G.K ty
  cases r with
  | non => exact ⟨_, .non, by rw [k1]; cases ty <;> rfl⟩
  | bl b => exact ⟨_, .bl b, by rw [k2]; cases ty <;> rfl⟩
  | int i => exact ⟨_, .int i, by rw [k3]; cases ty <;> rfl⟩
  | str s _ => exact ⟨_, .str _, by rw [k4]; cases ty <;> rfl⟩
  | scr _ => cases h
  | tup h' q => exact ⟨_, .tup h', by rw [k6]; cases ty <;> rfl⟩
  | lst h' q => exact ⟨_, .lst h', by rw [k5]; cases ty <;> rfl⟩
  | dct h' l q => exact ⟨_, .dK h', by rw [k7]; cases ty <;> rfl⟩
  | dctT h' l q => exact ⟨_, .dT h', by rw [k7]; cases ty <;> rfl⟩
  | obj _ _ _ => cases h
theorem pv_is (ty : Ty) {x : Str} {p1 p2 : Pos} (ha : PV G X a ca) (hg : Gl X "isinstance") (hm : X.mg "isinstance" = none) (hg2 : Gl X x) (hm2 : X.mg x = none) (hv : bootBuiltins x = some (.type (tyS ty))) (hK : X.K = G.K := by rfl)
    (hn : x ≠ "__name__" := by decide) (hdb : (x == ("__debug__" : Str)) = false := by decide) (hs : starEach [a, .Name x p2] X.env = (false, eval a X.env) :: starEach [.Name x p2] X.env := by rfl)
    (hs2 : starEach [.Name x p2] X.env = (false, eval (.Name x p2) X.env) :: starEach [] X.env := by rfl) (hpl : (backTo pos (starEach [Expr.Name x p2] X.env)).any (·.1) = false := by rfl) :
    PV G X (.Call (.Name "isinstance" p1) [a, .Name x p2] [] pos) (eIs ty ca) :=
  PE.weak (pe_callB call_is hg hm boot_isinstance (pa_cons ha (pa_cons (pe_bltn (v := .ty (tyS ty)) hg2 hm2 hv rfl hn hdb) pa_nil hs2) hs) (by decide) (by decide) hs hpl) fun σ H Q ⟨Φ, η, m, t, s, e, k⟩ => by
    unfold eIs at e
    obtain ⟨⟨mx, y⟩, ea, e'⟩ := Option.bind_eq_some_iff.mp e
    split at e'
    · rename_i hk
      cases e'
      refine ⟨Φ, η, mx, y, s, ea, fun v H' F e1 r1 f1 => ?_⟩
      obtain ⟨t', h1, h2⟩ := is_of ty r1 hk
      exact ⟨v, tyS ty, t', _, rfl, by rw [hK]; exact h1, by rw [hK]; exact h2, k _ H' _ e1 (.bl _) Fp.nil⟩
    · cases e'
end
end VS

set_option Elab.async false
set_option linter.all false
set_option maxRecDepth 100000
set_option maxHeartbeats 1000000
namespace VS
open PySem PySem.Spec PyProof.Rows L2
section
variable {G : Gx} {X : Cx} {a b c e : Expr} {es : List Expr} {ca cb cc : Ex} {cs : Exs} {pos p : Pos}

/-! ### methods of texts -/
def MtOk (G : Gx) (r : V → List V → Hp → VK → Prop) (f : Val → List Val → Option Val) : Prop := ∀ (Φ : Fps) (η : VS.Env) (H0 H1 H : Hp) (x : Val) (v : V) (F : List Addr) (l : List Val) (vs : List V) (Fs : List (List Addr)) (m : Md) (t : T) (Q : VK),
  Same H0 H1 → Rp G H v x.2 F → Fp Φ η H0 x.1 F → Args G Φ η H1 H l vs Fs → f x l = some (m, t) → (∀ v H' F, Same H H' → Rp G H' v t F → Fp Φ η H0 m F → Q v H') → r v vs H Q
theorem pv_mt {T' id : String} {name : Str} {r : V → List V → Hp → VK → Prop} {f : Val → List Val → Option Val} {apos cpos : Pos} (pa : PlainAttrs T') (slot : Slot T' name id) (hty : typeOf (.builtin id) = pure (.type "method_descriptor")) (hm : MtR X id r) (ok : MtOk G r f)
    (hT : ∀ H v (x : Val) F l z, Rp G H v x.2 F → f x l = some z → tyV G.K T' v H) (ho : PV G X a ca) (ha : PVs G X (e :: es) cs) (hK : X.K = G.K := by rfl)
    (hbase : attributeBase a name X.env (eval a X.env) = eval a X.env := by rfl)
    (hfew : ((backTo cpos (starEach (e :: es) X.env)).all (fun x => !x.1) && (backToKw cpos (keywordEach [] X.env)).all (fun x => x.1.isSome)
      && decide ((e :: es).length + ([] : List Keyword).length + (if ([] : List Keyword).isEmpty then 0 else 1) < 30)) = true := by rfl)
    (hline : (apos.endLine == cpos.line) = true := by rfl) (hs : starEach (e :: es) X.env = (false, eval e X.env) :: starEach es X.env := by rfl) (hplain : (backTo cpos (starEach es X.env)).any (·.1) = false := by rfl) :
    PV G X (.Call (.Attribute a name apos) (e :: es) [] cpos) (eM f ca cs) :=
  PE.weak (pe_bm pa slot hty hm ho ha hbase hfew hline hs hplain) fun σ H Q ⟨Φ, η, m, t, s, e, k⟩ => by
    unfold eM at e
    obtain ⟨x, ea, e'⟩ := Option.bind_eq_some_iff.mp e
    obtain ⟨l, el, e''⟩ := Option.bind_eq_some_iff.mp e'
    refine ⟨Φ, η, x.1, x.2, s, ea, fun v H1 F e1 r1 f1 => ⟨by rw [hK]; exact hT H1 v x F l _ r1 e'', Φ, η, l, s.same e1, el, fun vs H2 Fs e2 r2 f2 => ?_⟩⟩
    exact ok Φ η H H1 H2 x v F l vs Fs m t Q e1 (r1.same e2) f1 ⟨e2, r2, f2⟩ e'' fun v' H3 F' e3 r3 f3 => k v' H3 F' ((e1.trans e2).trans e3) r3 f3
theorem tx_join : ∀ (sep : Tx) (ss : List Tx), Txt.join (sx sep) (ss.map sx) = sx (joinTx sep ss) := by
  intro sep ss
  have fold : ∀ (l : List Tx) (acc : Tx), (l.map sx).foldl (fun acc p => acc ++ (sx sep).cps ++ p.cps) acc.toArray = (l.foldl (fun acc p => acc ++ sep ++ p) acc).toArray := by
    intro l
    induction l with
    | nil => intro acc; rfl
    | cons x r ih =>
      intro acc
      rw [List.map_cons, List.foldl_cons, List.foldl_cons, ← ih]
      congr 1
      simp [sx]
  have jf : ∀ (r : List Tx) (acc : Tx), r.foldl (fun acc p => acc ++ sep ++ p) acc = joinTx sep (acc :: r) := by
    intro r
    induction r with
    | nil => intro acc; rfl
    | cons x r ih =>
      intro acc
      rw [List.foldl_cons, ih]
      cases r with
      | nil => rfl
      | cons y r => simp [joinTx]
  cases ss with
  | nil => rfl
  | cons x r =>
    show (⟨_⟩ : Str) = ⟨_⟩
    congr 1
    show ((r.map sx).foldl _ x.toArray) = _
    rw [fold, jf]
theorem rp_strs {H : Hp} : ∀ {vs : List V} {l : List T} {Fs : List (List Addr)} {ss : List Tx}, RpL G H vs l Fs → strs? l = some ss → vs = ss.map fun s => V.str (sx s)
  | _, _, _, _, .nil, e => by cases e; rfl
  | _, _, _, _, .cons (t := t) r q, e => by
    cases t with
    | str s =>
      simp only [strs?] at e
      obtain ⟨ss', e1, e2⟩ := Option.map_eq_some_iff.mp e
      subst e2
      rw [rp_strs q e1, r.str_inv.1]
      rfl
    | _ => cases e
theorem strsAre_of : ∀ {ss : List Tx} {us : List Value}, Vals (ss.map fun s => V.str (sx s)) us → StrsAre us (ss.map sx)
  | [], _, h => by cases h; exact .nil
  | s :: ss, _, h => by
    cases h with
    | cons r q =>
      obtain ⟨t, rfl⟩ := r
      exact .cons _ _ (strsAre_of q)
def rJoin (K : PySem.W.Frag) : V → List V → Hp → VK → Prop := fun x vs H Q => ∃ sep p ss, x = .str (sx sep) ∧ vs = [.ref p] ∧ SqL K H p (ss.map fun s => V.str (sx s)) ∧ total ss + ss.length * sep.length ≤ 16777216 ∧ Q (.str (sx (joinTx sep ss))) H
theorem sum_len : ∀ ss : List Tx, ((ss.map sx).map (·.length)).sum = total ss
  | [] => rfl
  | s :: r => by
    rw [List.map_cons, List.map_cons, List.sum_cons, sum_len r, sx_len]
    rfl
theorem mt_join : MtR X "str.join" (rJoin X.K) := by
  intro pins s σ H x xs v us Q I rx rxs h
  obtain ⟨sep, p, ss, rfl, rfl, hq, hl, q⟩ := h
  obtain ⟨t, rfl⟩ := rx
  obtain ⟨u, rfl, ru⟩ := vals1 rxs
  cases ru
  obtain ⟨its, r, pl, hz⟩ := I.list hq
  refine join_list pl.isList (ys := ss.map sx) (by simpa using strsAre_of r) ?_ fun t' k => ⟨.str _, H, I.tok _, ⟨_, by rw [tx_join]⟩, q⟩
  rw [sum_len, List.length_map, sx_len]
  exact hl
theorem joinTx_len (sep : Tx) : ∀ ss : List Tx, (joinTx sep ss).length ≤ total ss + ss.length * sep.length
  | [] => by simp [joinTx, total]
  | [x] => by simp [joinTx, total]
  | x :: y :: r => by
    have := joinTx_len sep (y :: r)
    simp only [joinTx, total, List.length_append, List.length_cons] at this ⊢
    have e : (r.length + 1 + 1) * sep.length = (r.length + 1) * sep.length + sep.length := Nat.succ_mul _ _
    omega
theorem joinTx_mem (sep : Tx) : ∀ (ss : List Tx) (c : Nat), c ∈ joinTx sep ss → c ∈ sep ∨ ∃ s ∈ ss, c ∈ s
  | [], c, h => by simp [joinTx] at h
  | [x], c, h => .inr ⟨x, List.mem_cons_self, h⟩
  | x :: y :: r, c, h => by
    simp only [joinTx, List.mem_append] at h
    rcases h with (h | h) | h
    · exact .inr ⟨x, List.mem_cons_self, h⟩
    · exact .inl h
    · exact (joinTx_mem sep (y :: r) c h).imp id fun ⟨s, hs, hc⟩ => ⟨s, List.mem_cons_of_mem _ hs, hc⟩
theorem rp_strs_ok {H : Hp} : ∀ {vs : List V} {l : List T} {Fs : List (List Addr)} {ss : List Tx}, RpL G H vs l Fs → strs? l = some ss → ∀ s ∈ ss, ∀ c ∈ s, c < 1114112
  | _, _, _, _, .nil, e, s, hs => by cases e; simp at hs
  | _, _, _, _, .cons (t := t) r q, e, s, hs => by
    cases t with
    | str x =>
      simp only [strs?] at e
      obtain ⟨ss', e1, e2⟩ := Option.map_eq_some_iff.mp e
      subst e2
      rcases List.mem_cons.mp hs with rfl | hs
      · exact r.str_inv.2.2
      · exact rp_strs_ok q e1 s hs
    | _ => cases e
theorem ok_join : MtOk G (rJoin G.K) mJoin := by
  intro Φ η H0 H1 H x v F l vs Fs m t Q s01 r f A e k
  unfold mJoin at e
  split at e
  · rename_i mx sep ml l'
    obtain ⟨ss, es', e'⟩ := Option.bind_eq_some_iff.mp e
    split at e'
    · rename_i hl
      cases e'
      obtain ⟨w', F', rfl, rfl, rl⟩ := (show RpL G H vs [.lst l'] Fs from A.rp).one
      obtain ⟨a', ws, Gs, rfl, rfl, ha, ra⟩ := rl.lst_inv
      rw [rp_strs ra es'] at ha
      refine ⟨sep, a', ss, r.str_inv.1, rfl, SqL.of ha, hl, fin_of k (.str _ ⟨Nat.le_trans (joinTx_len sep ss) hl, fun c hc => (joinTx_mem sep ss c hc).elim (r.str_inv.2.2 c) fun ⟨s', hs', hc'⟩ => rp_strs_ok ra es' s' hs' c hc'⟩)⟩
    · cases e'
  · cases e
theorem str_recv {H : Hp} {v : V} {t : T} {F : List Addr} (r : Rp G H v t F) (h : ∃ s, t = .str s) : tyV G.K "str" v H := by
  obtain ⟨s, rfl⟩ := h
  rw [r.str_inv.1]
  rfl
theorem pv_join {apos cpos : Pos} (ho : PV G X a ca) (ha : PVs G X [e] cs) (hK : X.K = G.K := by rfl)
    (hbase : attributeBase a "join" X.env (eval a X.env) = eval a X.env := by rfl)
    (hfew : ((backTo cpos (starEach [e] X.env)).all (fun x => !x.1) && (backToKw cpos (keywordEach [] X.env)).all (fun x => x.1.isSome)
      && decide ([e].length + ([] : List Keyword).length + (if ([] : List Keyword).isEmpty then 0 else 1) < 30)) = true := by rfl)
    (hline : (apos.endLine == cpos.line) = true := by rfl) (hs : starEach [e] X.env = (false, eval e X.env) :: starEach [] X.env := by rfl) (hplain : (backTo cpos (starEach [] X.env)).any (·.1) = false := by rfl) :
    PV G X (.Call (.Attribute a "join" apos) [e] [] cpos) (eM mJoin ca cs) :=
  pv_mt PySem.F.plainAttrs_str PySem.F.slot_str_join PySem.F.type_str_join (hK ▸ mt_join) ok_join (fun H v x F l z r e => str_recv r (by
    unfold mJoin at e
    split at e
    · exact ⟨_, rfl⟩
    · cases e)) ho ha hK hbase hfew hline hs hplain
def rEnds : V → List V → Hp → VK → Prop := fun x vs H Q => ∃ z y, x = .str z ∧ vs = [.str y] ∧ Q (.bl (Txt.endswith z y)) H
theorem mt_ends : MtR X "str.endswith" rEnds := by
  intro pins s σ H x xs v us Q I rx rxs h
  obtain ⟨z, y, rfl, rfl, q⟩ := h
  obtain ⟨t, rfl⟩ := rx
  obtain ⟨u, rfl, ru⟩ := vals1 rxs
  obtain ⟨t', rfl⟩ := ru
  exact call_meets F.slot_str_endswith (typeIs_str s z t) F.entry_str_endswith (F.args_str_endswith_2 _ _) (gives_str_endswith z y t t').meets (show EP X pins σ Q _ s from ⟨.bl _, H, I, rfl, q⟩)
theorem ends_eq (s t : Tx) : Txt.endswith (sx s) (sx t) = t.isSuffixOf s := by
  unfold Txt.endswith
  rw [PySem.StrLaws.subAt_eq, sx_len, sx_len]
  have e1 : (sx s).cps.toList = s := by simp [sx]
  have e2 : (sx t).cps.toList = t := by simp [sx]
  rw [e1, e2]
  rw [Bool.eq_iff_iff, List.isSuffixOf_iff_suffix]
  simp only [Nat.zero_add, Bool.and_eq_true, decide_eq_true_eq, beq_iff_eq]
  constructor
  · rintro ⟨h1, h2⟩
    rw [List.take_of_length_le (by rw [List.length_drop]; omega)] at h2
    have h3 := List.take_append_drop (s.length - t.length) s
    rw [h2] at h3
    exact ⟨_, h3⟩
  · rintro ⟨u, rfl⟩
    simp
theorem ok_ends : MtOk G rEnds mEnds := by
  intro Φ η H0 H1 H x v F l vs Fs m t Q s01 r f A e k
  unfold mEnds at e
  split at e
  · rename_i mx z ml y
    cases e
    obtain ⟨w', F', rfl, rfl, rl⟩ := (show RpL G H vs [.str y] Fs from A.rp).one
    refine ⟨_, _, r.str_inv.1, by rw [rl.str_inv.1], ?_⟩
    rw [ends_eq]
    exact fin_of k (.bl _)
  · cases e
end
end VS

set_option Elab.async false
set_option linter.all false
set_option maxRecDepth 100000
set_option maxHeartbeats 1000000
namespace VS
open PySem PySem.Spec PyProof.Rows L2
section
variable {G : Gx} {X : Cx} {a b c e : Expr} {es : List Expr} {ca cb cc : Ex} {cs : Exs} {pos p : Pos}

/-! ### ==, in: by what the heap reads as -/
mutual
def toP : T → PyData
  | .non => .none
  | .bl b => .bool b
  | .int i => .int i
  | .str s => .str (sx s)
  | .tup l => .tuple (toPs l)
  | .lst l => .list (toPs l)
  | _ => .none
def toPs : List T → List PyData
  | [] => []
  | t :: r => toP t :: toPs r
end
theorem sx_ok {s : Tx} (h : TxOk s) : PyData.strOk (sx s) = true := by
  unfold PyData.strOk sx
  simp only [Array.all_eq_true, decide_eq_true_eq]
  intro i hi
  have : s.toArray[i] ∈ s := by simp
  have := h.2 _ this
  simpa using this
theorem sx_inj {s t : Tx} : (sx s == sx t) = (s == t) := by
  rw [Bool.eq_iff_iff, beq_iff_eq, beq_iff_eq]
  constructor
  · intro h
    have : (sx s).cps = (sx t).cps := by rw [h]
    simpa [sx] using this
  · intro h
    rw [h]
mutual
theorem eqv_toP : ∀ (n k : Nat) (t u : T), eqD n t = true → eqD k u = true → PyData.eqv (toP t) (toP u) = eqT t u
  | n, k, t, u, h1, h2 => by
    cases t with
    | scr _ => cases n <;> simp at h1
    | dct _ _ => cases n <;> simp at h1
    | obj _ _ => cases n <;> simp at h1
    | tup l =>
      cases n with
      | zero => simp at h1
      | succ n =>
        cases u with
        | tup r =>
          cases k with
          | zero => simp at h2
          | succ k =>
            simp only [toP, PyData.eqv, eqT]
            exact eqv_toPs n k l r (by simpa using h1) (by simpa using h2)
        | scr _ => cases k <;> simp at h2
        | dct _ _ => cases k <;> simp at h2
        | obj _ _ => cases k <;> simp at h2
        | _ => simp [toP, PyData.eqv, eqT]
    | lst l =>
      cases n with
      | zero => simp at h1
      | succ n =>
        cases u with
        | lst r =>
          cases k with
          | zero => simp at h2
          | succ k =>
            simp only [toP, PyData.eqv, eqT]
            exact eqv_toPs n k l r (by simpa using h1) (by simpa using h2)
        | scr _ => cases k <;> simp at h2
        | dct _ _ => cases k <;> simp at h2
        | obj _ _ => cases k <;> simp at h2
        | _ => simp [toP, PyData.eqv, eqT]
    | str s =>
      cases u with
      | str r => simp only [toP, PyData.eqv, eqT]; exact sx_inj
      | scr _ => cases k <;> simp at h2
      | dct _ _ => cases k <;> simp at h2
      | obj _ _ => cases k <;> simp at h2
      | _ => simp [toP, PyData.eqv, eqT]
    | _ =>
      cases u with
      | scr _ => cases k <;> simp at h2
      | dct _ _ => cases k <;> simp at h2
      | obj _ _ => cases k <;> simp at h2
      | _ => simp [toP, PyData.eqv, eqT]
theorem eqv_toPs : ∀ (n k : Nat) (l r : List T), (∀ t ∈ l, eqD n t = true) → (∀ t ∈ r, eqD k t = true) → PyData.eqvAll (toPs l) (toPs r) = eqTs l r
  | _, _, [], [], _, _ => rfl
  | _, _, [], _ :: _, _, _ => rfl
  | _, _, _ :: _, [], _, _ => rfl
  | n, k, t :: l, u :: r, h1, h2 => by
    simp only [toPs, PyData.eqvAll, eqTs]
    rw [eqv_toP n k t u (h1 t List.mem_cons_self) (h2 u List.mem_cons_self), eqv_toPs n k l r (fun x hx => h1 x (List.mem_cons_of_mem _ hx)) fun x hx => h2 x (List.mem_cons_of_mem _ hx)]
end
mutual
theorem reads_of {H : Hp} {pins : List (Addr × Obj)} {σ : L2.St} {s : Shared} (I : Inv X pins σ H s) : ∀ {v : V} {t : T} {F : List Addr} {u : Value} (n : Nat), Rp G H v t F → RelV v u → eqD n t = true → ∃ as, Reads s.heap u (toP t) as ∧ (toP t).canLay0 = true ∧ (toP t).depth ≤ n
  | _, _, _, _, n, .non, r, _ => by cases r; exact ⟨_, .none, rfl, Nat.zero_le _⟩
  | _, _, _, _, n, .bl b, r, _ => by cases r; exact ⟨_, .bool b, rfl, Nat.zero_le _⟩
  | _, _, _, _, n, .int i, r, _ => by obtain ⟨t, rfl⟩ := r; exact ⟨_, .int i t, rfl, Nat.zero_le _⟩
  | _, _, _, _, n, .str s h, r, _ => by obtain ⟨t, rfl⟩ := r; exact ⟨_, .str _ t, sx_ok h, Nat.zero_le _⟩
  | _, _, _, _, n, .scr _, _, h => by cases n <;> simp at h
  | _, _, _, _, 0, .tup _ _, _, h => by simp at h
  | _, _, _, _, n + 1, .tup e q, r, h => by
    cases r
    obtain ⟨its, rv, tp, hz⟩ := I.tuple (SqT.of e)
    obtain ⟨as, h1, h2, h3⟩ := reads_all I n q rv (by simpa using h)
    obtain ⟨o, ho, hc, n', hd⟩ := tp
    exact ⟨_, .tuple ho hc hd (by simpa using h1), h2, by simp only [toP, PyData.depth]; omega⟩
  | _, _, _, _, 0, .lst _ _, _, h => by simp at h
  | _, _, _, _, n + 1, .lst e q, r, h => by
    cases r
    obtain ⟨its, rv, pl, hz⟩ := I.list (SqL.of e)
    obtain ⟨as, h1, h2, h3⟩ := reads_all I n q rv (by simpa using h)
    obtain ⟨o, ho, hc, n', hd⟩ := pl.isList
    exact ⟨_, .list ho hc hd (by simpa using h1), h2, by simp only [toP, PyData.depth]; omega⟩
  | _, _, _, _, n, .dct _ _ _, _, h => by cases n <;> simp at h
  | _, _, _, _, n, .dctT _ _ _, _, h => by cases n <;> simp at h
  | _, _, _, _, n, .obj _ _ _, _, h => by cases n <;> simp at h
theorem reads_all {H : Hp} {pins : List (Addr × Obj)} {σ : L2.St} {s : Shared} (I : Inv X pins σ H s) : ∀ {vs : List V} {ts : List T} {Fs : List (List Addr)} {us : List Value} (n : Nat), RpL G H vs ts Fs → Vals vs us → (∀ t ∈ ts, eqD n t = true) →
    ∃ as, ReadsAll s.heap us (toPs ts) as ∧ PyData.canLayAll0 (toPs ts) = true ∧ PyData.depthAll (toPs ts) ≤ n
  | _, _, _, _, n, .nil, r, _ => by cases r; exact ⟨_, .nil, rfl, Nat.zero_le _⟩
  | _, _, _, _, n, .cons p q, r, h => by
    cases r with
    | cons r1 r2 =>
      obtain ⟨as, h1, h2, h3⟩ := reads_of I n p r1 (h _ List.mem_cons_self)
      obtain ⟨bs, g1, g2, g3⟩ := reads_all I n q r2 fun t ht => h t (List.mem_cons_of_mem _ ht)
      exact ⟨_, .cons h1 g1, by simp only [toPs, PyData.canLayAll0, h2, g2, Bool.and_self], by simp only [toPs, PyData.depthAll]; omega⟩
end
def rEqT (G : Gx) (neg : Bool) : R2 := fun x y H Q => ∃ t u F F', Rp G H x t F ∧ Rp G H y u F' ∧ eqD 60 t = true ∧ eqD 60 u = true ∧ Q (.bl (if neg then !eqT t u else eqT t u)) H
theorem shaped_of {d : PyData} (h : d.canLay0 = true) (h2 : d.depth ≤ 60) : SeqAt.shaped d = true := by
  unfold SeqAt.shaped
  rw [h, Bool.true_and]
  exact decide_eq_true (by omega)
theorem op_eqT (hu : X.A.units + 64 < cLine) : OpR X (compareOp .Eq) (rEqT G false) := by
  intro pins s σ H x y v u Q I rx ry h
  obtain ⟨t, w, F, F', r1, r2, h1, h2, q⟩ := h
  obtain ⟨as, a1, a2, a3⟩ := reads_of I 60 r1 rx h1
  obtain ⟨bs, b1, b2, b3⟩ := reads_of I 60 r2 ry h2
  refine eq_dataH a1 b1 (shaped_of a2 a3) (shaped_of b2 b3) hu ⟨.bl _, H, I, rfl, ?_⟩
  rw [eqv_toP 60 60 t w h1 h2]
  exact q
theorem op_neT (hu : X.A.units + 64 < cLine) : OpR X (compareOp .NotEq) (rEqT G true) := by
  intro pins s σ H x y v u Q I rx ry h
  obtain ⟨t, w, F, F', r1, r2, h1, h2, q⟩ := h
  obtain ⟨as, a1, a2, a3⟩ := reads_of I 60 r1 rx h1
  obtain ⟨bs, b1, b2, b3⟩ := reads_of I 60 r2 ry h2
  refine ne_dataH a1 b1 (shaped_of a2 a3) (shaped_of b2 b3) hu ⟨.bl _, H, I, rfl, ?_⟩
  rw [eqv_toP 60 60 t w h1 h2]
  exact q
theorem ok_eq : OpOk G (rEqT G false) oEq := by
  intro Φ η H0 H x y u w F1 F2 m t Q tw e k
  unfold oEq at e
  split at e
  · rename_i h
    cases e
    exact ⟨_, _, _, _, tw.r1, tw.r2, h.1, h.2, fin_of k (.bl _)⟩
  · cases e
theorem ok_ne : OpOk G (rEqT G true) oNe := by
  intro Φ η H0 H x y u w F1 F2 m t Q tw e k
  unfold oNe at e
  split at e
  · rename_i h
    cases e
    exact ⟨_, _, _, _, tw.r1, tw.r2, h.1, h.2, fin_of k (.bl _)⟩
  · cases e
theorem tells_eq : Tells oEq := by
  intro x y m t e
  unfold oEq at e
  split at e <;> first | (cases e; exact ⟨_, rfl⟩) | cases e
theorem tells_ne : Tells oNe := by
  intro x y m t e
  unfold oNe at e
  split at e <;> first | (cases e; exact ⟨_, rfl⟩) | cases e
end
end VS

set_option Elab.async false
set_option linter.all false
set_option maxRecDepth 100000
set_option maxHeartbeats 1000000
namespace VS
open PySem PySem.Spec PyProof.Rows L2

/-! ### what a statement leaves alone -/
structure Frm (Φ : Fps) (η : VS.Env) (H : Hp) (Φ' : Fps) (η' : VS.Env) (H' : Hp) : Prop where
  keep : ∀ a o, H a = some o → ¬ InOw Φ η a → H' a = some o ∧ ¬ InOw Φ' η' a
  dom : ∀ a, H a ≠ none → H' a ≠ none
  ow : ∀ a, InOw Φ' η' a → InOw Φ η a ∨ H a = none
  pu : ∀ a, InPu Φ' η' a → InPu Φ η a ∨ InOw Φ η a ∨ H a = none
  kept : Kept H H'
theorem Frm.refl (Φ : Fps) (η : VS.Env) (H : Hp) : Frm Φ η H Φ η H := ⟨fun a o h n => ⟨h, n⟩, fun _ h => h, fun _ h => .inl h, fun _ h => .inl h, Kept.refl H⟩
theorem Frm.none {Φ Φ' : Fps} {η η' : VS.Env} {H H' : Hp} (f : Frm Φ η H Φ' η' H') {a : Addr} (h : H' a = none) : H a = none := by
  cases e : H a with
  | none => rfl
  | some o => exact absurd h (f.dom a (by rw [e]; exact fun z => nomatch z))
theorem Frm.trans {Φ Φ1 Φ2 : Fps} {η η1 η2 : VS.Env} {H H1 H2 : Hp} (f : Frm Φ η H Φ1 η1 H1) (g : Frm Φ1 η1 H1 Φ2 η2 H2) : Frm Φ η H Φ2 η2 H2 where
  keep := fun a o h n => let ⟨h1, n1⟩ := f.keep a o h n; g.keep a o h1 n1
  dom := fun a h => g.dom a (f.dom a h)
  ow := fun a h => by
    rcases g.ow a h with h | h
    · exact f.ow a h
    · exact .inr (f.none h)
  pu := fun a h => by
    rcases g.pu a h with h | h | h
    · exact f.pu a h
    · rcases f.ow a h with h | h
      · exact .inr (.inl h)
      · exact .inr (.inr h)
    · exact .inr (.inr (f.none h))
  kept := f.kept.trans g.kept
theorem Frm.same {Φ : Fps} {η : VS.Env} {H H' : Hp} (e : Same H H') : Frm Φ η H Φ η H' :=
  ⟨fun a o h n => ⟨e a o h, n⟩, fun a h z => h (e.free z), fun _ h => .inl h, fun _ h => .inl h, Kept.of e⟩
/-- what is handed back -/
def RetFp (Φ : Fps) (η : VS.Env) (H : Hp) : Md → List Addr → Prop
  | .fr, F => F.Nodup ∧ ∀ a ∈ F, H a = none ∨ InOw Φ η a
  | _, F => ∀ a ∈ F, H a = none ∨ InPu Φ η a ∨ InOw Φ η a
theorem RetFp.back {Φ Φ1 : Fps} {η η1 : VS.Env} {H H1 : Hp} (f : Frm Φ η H Φ1 η1 H1) {F : List Addr} : ∀ {m : Md}, RetFp Φ1 η1 H1 m F → RetFp Φ η H m F
  | .fr, h => ⟨h.1, fun a ha => (h.2 a ha).elim (fun z => .inl (f.none z)) fun z => (f.ow a z).elim .inr .inl⟩
  | .pu, h => fun a ha => by
    rcases h a ha with z | z | z
    · exact .inl (f.none z)
    · rcases f.pu a z with z | z | z
      · exact .inr (.inl z)
      · exact .inr (.inr z)
      · exact .inl z
    · exact (f.ow a z).elim (fun z => .inr (.inr z)) .inl
  | .bo, h => fun a ha => by
    rcases h a ha with z | z | z
    · exact .inl (f.none z)
    · rcases f.pu a z with z | z | z
      · exact .inr (.inl z)
      · exact .inr (.inr z)
      · exact .inl z
    · exact (f.ow a z).elim (fun z => .inr (.inr z)) .inl

/-! ### the reading of a statement -/
def Nx (G : Gx) (Φ : Fps) (η : VS.Env) (H : Hp) (η' : VS.Env) (k : L2.St → Hp → Prop) : Prop := ∀ Φ' σ' H', SR G Φ' η' σ' H' → Frm Φ η H Φ' η' H' → k σ' H'
def OutOk (G : Gx) (Φ : Fps) (η : VS.Env) (H : Hp) (D : Ends) : Out → Prop
  | .nx η' => Nx G Φ η H η' D.nx
  | .bk η' => Nx G Φ η H η' D.bk
  | .ct η' => Nx G Φ η H η' D.ct
  | .rt v η' => ∀ u H' F Φ' σ', SR G Φ' η' σ' H' → Frm Φ η H Φ' η' H' → Rp G H' u v.2 F → RetFp Φ η H v.1 F → D.rt u H'
def tS (G : Gx) (c : Sx) : TS := fun D σ H => ∃ Φ η o, SR G Φ η σ H ∧ c η = some o ∧ OutOk G Φ η H D o
def PSV (G : Gx) (X : Cx) (st : Stmt) (c : Sx) : Prop := PS X st (tS G c)
def PSVs (G : Gx) (X : Cx) (st : List Stmt) (c : Sx) : Prop := PSs X st (tS G c)
theorem PS.weak {X : Cx} {e : Stmt} {t t' : TS} (h : PS X e t) (w : ∀ D σ H, t' D σ H → t D σ H) : PS X e t' := fun pins s σ H D I q => h pins s σ H D I (w D σ H q)
theorem PSs.weak {X : Cx} {e : List Stmt} {t t' : TS} (h : PSs X e t) (w : ∀ D σ H, t' D σ H → t D σ H) : PSs X e t' := fun pins s σ H D I q => h pins s σ H D I (w D σ H q)
theorem OutOk.back {G : Gx} {Φ Φ1 : Fps} {η η1 : VS.Env} {H H1 : Hp} {D : Ends} (f : Frm Φ η H Φ1 η1 H1) : ∀ {o : Out}, OutOk G Φ η H D o → OutOk G Φ1 η1 H1 D o
  | .nx η', h => fun Φ' σ' H' s g => h Φ' σ' H' s (f.trans g)
  | .bk η', h => fun Φ' σ' H' s g => h Φ' σ' H' s (f.trans g)
  | .ct η', h => fun Φ' σ' H' s g => h Φ' σ' H' s (f.trans g)
  | .rt v η', h => fun u H' F Φ' σ' s g r q => h u H' F Φ' σ' s (f.trans g) r (q.back f)
section
variable {G : Gx} {X : Cx} {st : Stmt} {sts : List Stmt} {c c1 c2 : Sx} {pos : Pos} {e : Expr} {ce : Ex}
theorem psv_nil : PSVs G X [] sNil := PSs.weak pss_nil fun D σ H ⟨Φ, η, o, s, e, k⟩ => by
  cases (show some (Out.nx η) = some o from e)
  exact k Φ σ H s (Frm.refl _ _ _)
theorem psv_cons (h1 : PSV G X st c1) (h2 : PSVs G X sts c2) : PSVs G X (st :: sts) (sCons c1 c2) := PSs.weak (pss_cons h1 h2) fun D σ H ⟨Φ, η, o, s, e, k⟩ => by
  unfold sCons at e
  obtain ⟨o1, e1, e2⟩ := Option.bind_eq_some_iff.mp e
  refine ⟨Φ, η, o1, s, e1, ?_⟩
  cases o1 with
  | nx η1 => exact fun Φ' σ' H' s' f => ⟨Φ', η1, o, s', e2, k.back f⟩
  | rt v η1 => cases e2; exact k
  | bk η1 => cases e2; exact k
  | ct η1 => cases e2; exact k
theorem psv_one (h1 : PSV G X st c1) : PSVs G X [st] c1 := pss_one h1
theorem psv_pass : PSV G X (.Pass pos) sNil := PS.weak ps_pass fun D σ H ⟨Φ, η, o, s, e, k⟩ => by
  cases (show some (Out.nx η) = some o from e)
  exact k Φ σ H s (Frm.refl _ _ _)
theorem psv_break : PSV G X (.Break pos) sBrk := PS.weak ps_break fun D σ H ⟨Φ, η, o, s, e, k⟩ => by
  cases (show some (Out.bk η) = some o from e)
  exact k Φ σ H s (Frm.refl _ _ _)
theorem psv_continue : PSV G X (.Continue pos) sCont := PS.weak ps_continue fun D σ H ⟨Φ, η, o, s, e, k⟩ => by
  cases (show some (Out.ct η) = some o from e)
  exact k Φ σ H s (Frm.refl _ _ _)
theorem psv_if {t : Expr} {ct : Ex} {a b : List Stmt} (hc : PVT G X t ct) (ha : PSVs G X a c1) (hb : PSVs G X b c2) : PSV G X (.If t a b pos) (sIf ct c1 c2) := PS.weak (ps_if hc ha hb) fun D σ H ⟨Φ, η, o, s, e, k⟩ => by
  unfold sIf at e
  obtain ⟨⟨m, x⟩, ec, e1⟩ := Option.bind_eq_some_iff.mp e
  obtain ⟨b', eb, e2⟩ := Option.bind_eq_some_iff.mp e1
  refine ⟨Φ, η, m, x, b', s, ec, eb, fun H' e3 => ?_⟩
  cases b' with
  | true =>
    rw [if_pos rfl] at e2
    exact iteT ⟨Φ, η, o, s.same e3, e2, k.back (Frm.same e3)⟩
  | false =>
    rw [if_neg Bool.false_ne_true] at e2
    exact iteF ⟨Φ, η, o, s.same e3, e2, k.back (Frm.same e3)⟩
/-- return -/
theorem psv_retN : PSV G X (.Return none pos) sRetN := PS.weak ps_retN fun D σ H ⟨Φ, η, o, s, e, k⟩ => by
  cases (show some (Out.rt (.fr, .non) η) = some o from e)
  exact k .non H [] Φ σ s (Frm.refl _ _ _) .non ⟨List.nodup_nil, fun a h => by simp at h⟩
theorem Fp.ret {Φ : Fps} {η : VS.Env} {H : Hp} {F : List Addr} : ∀ {m : Md}, Fp Φ η H m F → RetFp Φ η H (match m with | .bo => .pu | m => m) F
  | .fr, f => ⟨f.1, fun a ha => .inl (f.2 a ha)⟩
  | .pu, f => fun a ha => (f a ha).elim .inl fun z => .inr (.inl z)
  | .bo, f => f
theorem psv_ret (he : PV G X e ce) : PSV G X (.Return (some e) pos) (sRet ce) := PS.weak (ps_ret he) fun D σ H ⟨Φ, η, o, s, e, k⟩ => by
  unfold sRet at e
  obtain ⟨⟨m, x⟩, ec, e1⟩ := Option.bind_eq_some_iff.mp e
  cases e1
  exact ⟨Φ, η, m, x, s, ec, fun v H' F e1 r1 f1 => k v H' F Φ σ (s.same e1) (Frm.same e1) r1 f1.ret⟩
theorem set_none {η : VS.Env} {i j : Nat} {c : Cell} (h : (η.set i none)[j]? = some (some c)) : j ≠ i ∧ η[j]? = some (some c) := by
  rw [List.getElem?_set] at h
  split at h
  · split at h <;> cases h
  · rename_i n
    exact ⟨fun z => n z.symm, h⟩
theorem SR.drop {Φ : Fps} {η : VS.Env} {σ : L2.St} {H : Hp} (s : SR G Φ η σ H) (i : Nat) : SR G Φ (η.set i none) σ H :=
  ⟨by rw [List.length_set]; exact s.len, fun j c h => s.rp j c (set_none h).2, fun j t h => s.nd j t (set_none h).2, fun j k t c h1 h2 n => s.sep j k t c (set_none h1).2 (set_none h2).2 n⟩
theorem Frm.drop {Φ : Fps} {η : VS.Env} {H : Hp} (i : Nat) : Frm Φ η H Φ (η.set i Option.none) H :=
  ⟨fun a o h n => ⟨h, fun ⟨j, t, h1, h2⟩ => n ⟨j, t, (set_none h1).2, h2⟩⟩, fun _ h => h, fun a ⟨j, t, h1, h2⟩ => .inl ⟨j, t, (set_none h1).2, h2⟩, fun a ⟨j, t, h1, h2⟩ => .inl ⟨j, t, (set_none h1).2, h2⟩, Kept.refl H⟩
theorem psv_retV (i : Nat) {x : Str} {p : Pos} (hN : X.N[i]? = some x := by rfl) (hv : Vis X.env.scope x := by first | exact Or.inl rfl | exact Or.inr (Or.inl rfl) | exact Or.inr (Or.inr rfl)) (hd : (x == ("__debug__" : Str)) = false := by decide)
    (hcd : (x == ("__classdict__" : Str)) = false := by decide) : PSV G X (.Return (some (.Name x p)) pos) (sRetV i) := PS.weak (ps_ret (pe_var hN hv hd hcd)) fun D σ H ⟨Φ, η, o, s, e, k⟩ => by
  unfold sRetV at e
  split at e
  · rename_i t h
    obtain ⟨v, h1, h2⟩ := s.rp _ _ h
    cases e
    exact ⟨v, h1, k v H (Φ i) Φ σ (s.drop i) (Frm.drop i) h2 ⟨s.nd i t h, fun a ha => .inr ⟨i, t, h, ha⟩⟩⟩
  · rename_i t h
    obtain ⟨v, h1, h2⟩ := s.rp _ _ h
    cases e
    refine ⟨v, h1, k v H (Φ i) Φ σ s (Frm.refl _ _ _) h2 ?_⟩
    have f : Fp Φ η H .pu (Φ i) := fun a ha => .inr ⟨i, t, h, ha⟩
    have f2 := (f.up h2).ret
    have : (match (VS.up .pu (cellT (.pu t))).1 with | .bo => Md.pu | m => m) = (VS.up .pu t).1 := by
      show (match (VS.up .pu t).1 with | .bo => Md.pu | m => m) = _
      unfold VS.up
      split <;> (rename_i q; revert q; split <;> simp)
    rw [this] at f2
    exact f2
  · cases e

/-! ### a name is set -/
def setΦ (Φ : Fps) (i : Nat) (F : List Addr) : Fps := fun j => if j = i then F else Φ j
theorem setΦ_at {Φ : Fps} {i : Nat} {F : List Addr} : setΦ Φ i F i = F := if_pos rfl
theorem setΦ_ne {Φ : Fps} {i j : Nat} {F : List Addr} (h : j ≠ i) : setΦ Φ i F j = Φ j := if_neg h
theorem set_at {η : VS.Env} {i j : Nat} {c c' : Cell} (h : (η.set i (some c))[j]? = some (some c')) : (j = i ∧ c' = c) ∨ (j ≠ i ∧ η[j]? = some (some c')) := by
  rw [List.getElem?_set] at h
  split at h
  · rename_i e
    split at h
    · exact .inl ⟨e.symm, (Option.some.inj (Option.some.inj h)).symm⟩
    · cases h
  · rename_i n
    exact .inr ⟨fun z => n z.symm, h⟩
/-- a new thing at slot i: the others stand, and what is own stands apart -/
theorem SR.put {Φ : Fps} {η : VS.Env} {σ : L2.St} {H H' : Hp} {i : Nat} {v : V} {c : Cell} {F : List Addr} (s : SR G Φ η σ H) (hi : i < η.length) (r : Rp G H' v (cellT c) F)
    (hk : ∀ j c', j ≠ i → η[j]? = some (some c') → ∀ w, Rp G H w (cellT c') (Φ j) → Rp G H' w (cellT c') (Φ j))
    (hnd : ∀ t, c = .ow t → F.Nodup) (hown : ∀ t, c = .ow t → ∀ j c', j ≠ i → η[j]? = some (some c') → ∀ a ∈ F, a ∉ Φ j) (hpu : ∀ j t, j ≠ i → η[j]? = some (some (.ow t)) → ∀ a ∈ Φ j, a ∉ F) :
    SR G (setΦ Φ i F) (η.set i (some c)) (σ.set i (some v)) H' where
  len := by rw [List.length_set, List.length_set]; exact s.len
  rp := fun j c' h => by
    rcases set_at h with ⟨rfl, rfl⟩ | ⟨n, h⟩
    · exact ⟨v, by rw [List.getElem?_set_self (by rw [← s.len]; exact hi)], by rw [setΦ_at]; exact r⟩
    · obtain ⟨w, h1, h2⟩ := s.rp j c' h
      exact ⟨w, by rw [List.getElem?_set_ne (Ne.symm n)]; exact h1, by rw [setΦ_ne n]; exact hk j c' n h w h2⟩
  nd := fun j t h => by
    rcases set_at h with ⟨rfl, e⟩ | ⟨n, h⟩
    · rw [setΦ_at]; exact hnd t e.symm
    · rw [setΦ_ne n]; exact s.nd j t h
  sep := fun j k t c' h1 h2 n => by
    rcases set_at h1 with ⟨rfl, e⟩ | ⟨n1, g1⟩
    · rcases set_at h2 with ⟨rfl, e2⟩ | ⟨n2, g2⟩
      · exact absurd rfl n
      · rw [setΦ_at, setΦ_ne n2]
        exact hown t e.symm k c' n2 g2
    · rcases set_at h2 with ⟨rfl, e2⟩ | ⟨n2, g2⟩
      · rw [setΦ_at, setΦ_ne n1]
        exact hpu j t n1 g1
      · rw [setΦ_ne n1, setΦ_ne n2]
        exact s.sep j k t c' g1 g2 n
theorem ow_put {Φ : Fps} {η : VS.Env} {i : Nat} {c : Cell} {F : List Addr} {a : Addr} (h : InOw (setΦ Φ i F) (η.set i (some c)) a) : (∃ t, c = .ow t ∧ a ∈ F) ∨ InOw Φ η a := by
  obtain ⟨j, t, h1, h2⟩ := h
  rcases set_at h1 with ⟨rfl, e⟩ | ⟨n, h1⟩
  · rw [setΦ_at] at h2; exact .inl ⟨t, e.symm, h2⟩
  · rw [setΦ_ne n] at h2; exact .inr ⟨j, t, h1, h2⟩
theorem pu_put {Φ : Fps} {η : VS.Env} {i : Nat} {c : Cell} {F : List Addr} {a : Addr} (h : InPu (setΦ Φ i F) (η.set i (some c)) a) : (∃ t, c = .pu t ∧ a ∈ F) ∨ InPu Φ η a := by
  obtain ⟨j, t, h1, h2⟩ := h
  rcases set_at h1 with ⟨rfl, e⟩ | ⟨n, h1⟩
  · rw [setΦ_at] at h2; exact .inl ⟨t, e.symm, h2⟩
  · rw [setΦ_ne n] at h2; exact .inr ⟨j, t, h1, h2⟩
theorem SR.ow_pu {Φ : Fps} {η : VS.Env} {σ : L2.St} {H : Hp} (s : SR G Φ η σ H) {a : Addr} (h : InOw Φ η a) (h' : InPu Φ η a) : False := by
  obtain ⟨j, t, h1, h2⟩ := h
  obtain ⟨k, u, g1, g2⟩ := h'
  have n : j ≠ k := fun e => by subst e; rw [h1] at g1; cases g1
  exact s.sep j k t _ h1 g1 n a h2 g2
/-- a value that was reckoned is put into a slot -/
theorem SR.val {Φ : Fps} {η : VS.Env} {σ : L2.St} {H H' : Hp} {i : Nat} {v : V} {t : T} {m : Md} {F : List Addr} {c : Cell} (s : SR G Φ η σ H) (hi : i < η.length) (e : Same H H') (r : Rp G H' v t F) (f : Fp Φ η H m F)
    (hc : (c = .pu t ∧ m ≠ .bo) ∨ (c = .ow t ∧ m = .fr)) : SR G (setΦ Φ i F) (η.set i (some c)) (σ.set i (some v)) H' ∧ Frm Φ η H (setΦ Φ i F) (η.set i (some c)) H' := by
  have dom : ∀ {a}, H a = none → ∀ j c', η[j]? = some (some c') → a ∉ Φ j := fun {a} h j c' hj ha => by
    obtain ⟨w, _, q⟩ := s.rp j c' hj
    exact Mut.ne_none (q.dom a ha) h
  have ct : cellT c = t := by rcases hc with ⟨rfl, _⟩ | ⟨rfl, _⟩ <;> rfl
  have fpu : ∀ a ∈ F, H a = none ∨ InPu Φ η a := fun a ha => by
    rcases hc with ⟨_, n⟩ | ⟨_, n⟩
    · exact f.pu n a ha
    · rw [n] at f; exact .inl (f.2 a ha)
  constructor
  · refine s.put hi (by rw [ct]; exact r) (fun j c' n hj w q => q.same e) (fun u hu => ?_) (fun u hu j c' n hj a ha => ?_) fun j u n hj a ha hF => ?_
    · rcases hc with ⟨h, _⟩ | ⟨_, h⟩
      · rw [h] at hu; cases hu
      · rw [h] at f; exact f.1
    · rcases hc with ⟨h, _⟩ | ⟨_, h⟩
      · rw [h] at hu; cases hu
      · rw [h] at f; exact dom (f.2 a ha) j c' hj
    · rcases fpu a hF with z | z
      · exact dom z j _ hj ha
      · exact s.ow_pu ⟨j, u, hj, ha⟩ z
  · refine ⟨fun a o h n => ⟨e a o h, fun z => ?_⟩, fun a h z => h (e.free z), fun a h => ?_, fun a h => ?_, Kept.of e⟩
    · rcases ow_put z with ⟨u, hu, ha⟩ | z
      · rcases hc with ⟨h', _⟩ | ⟨_, h'⟩
        · rw [h'] at hu; cases hu
        · rw [h'] at f
          rw [f.2 a ha] at h; cases h
      · exact n z
    · rcases ow_put h with ⟨u, hu, ha⟩ | z
      · rcases hc with ⟨h', _⟩ | ⟨_, h'⟩
        · rw [h'] at hu; cases hu
        · rw [h'] at f
          exact .inr (f.2 a ha)
      · exact .inl z
    · rcases pu_put h with ⟨u, hu, ha⟩ | z
      · exact (fpu a ha).elim (fun z => .inr (.inr z)) .inl
      · exact .inl z
theorem psv_set {i : Nat} {x : Str} {pos' : Pos} (he : PV G X e ce) (hN : X.N.Nodup) (hi : X.N[i]? = some x := by rfl) (hx : Loc X.env.scope x := by first | exact Or.inl rfl | exact Or.inr rfl)
    (hs : swapsWith e (some (.Name x pos')) pos.line X.env = pure false := by rfl) (hf : X.fn x = true ∨ X.env.scope.names.lookup x = some .local := by first | exact .inl rfl | exact .inr rfl) :
    PSV G X (.Assign [.Name x pos'] e pos) (sSet i ce) := PS.weak (ps_set hN hi hx he hs hf) fun D σ H ⟨Φ, η, o, s, e, k⟩ => by
  unfold sSet at e
  obtain ⟨⟨m, t⟩, ec, e1⟩ := Option.bind_eq_some_iff.mp e
  obtain ⟨c, eC, e2⟩ := Option.bind_eq_some_iff.mp e1
  split at e2
  · rename_i hl
    cases e2
    refine ⟨Φ, η, m, t, s, ec, fun v H' F e3 r3 f3 => ?_⟩
    obtain ⟨q1, q2⟩ := s.val (c := c) hl e3 r3 f3 (by
      unfold cellOf at eC
      cases m with
      | fr =>
        simp only [Option.some.injEq] at eC
        split at eC
        · exact .inr ⟨eC.symm, rfl⟩
        · exact .inl ⟨eC.symm, by decide⟩
      | pu => cases eC; exact .inl ⟨rfl, by decide⟩
      | bo => cases eC)
    exact k _ _ H' q1 q2
  · cases e2
theorem psv_setP {i : Nat} {x : Str} {pos' : Pos} (he : PV G X e ce) (hN : X.N.Nodup) (hi : X.N[i]? = some x := by rfl) (hx : Loc X.env.scope x := by first | exact Or.inl rfl | exact Or.inr rfl)
    (hs : swapsWith e (some (.Name x pos')) pos.line X.env = pure false := by rfl) (hf : X.fn x = true ∨ X.env.scope.names.lookup x = some .local := by first | exact .inl rfl | exact .inr rfl) :
    PSV G X (.Assign [.Name x pos'] e pos) (sSetP i ce) := PS.weak (ps_set hN hi hx he hs hf) fun D σ H ⟨Φ, η, o, s, e, k⟩ => by
  unfold sSetP at e
  obtain ⟨⟨m, t⟩, ec, e1⟩ := Option.bind_eq_some_iff.mp e
  split at e1
  · cases e1
  · rename_i hm
    split at e1
    · rename_i hl
      cases e1
      refine ⟨Φ, η, m, t, s, ec, fun v H' F e3 r3 f3 => ?_⟩
      obtain ⟨q1, q2⟩ := s.val (c := .pu t) hl e3 r3 f3 (.inl ⟨rfl, hm⟩)
      exact k _ _ H' q1 q2
    · cases e1
/-- what is changed no more -/
theorem SR.frz {Φ : Fps} {η : VS.Env} {σ : L2.St} {H : Hp} {i : Nat} {t : T} (s : SR G Φ η σ H) (h : η[i]? = some (some (.ow t))) : SR G Φ (η.set i (some (.pu t))) σ H ∧ Frm Φ η H Φ (η.set i (some (.pu t))) H := by
  have back : ∀ {j c}, (η.set i (some (.pu t)))[j]? = some (some c) → ∃ c', η[j]? = some (some c') ∧ cellT c' = cellT c ∧ ∀ u, c = .ow u → c' = .ow u := fun {j c} hj => by
    rcases set_at hj with ⟨rfl, rfl⟩ | ⟨n, hj⟩
    · exact ⟨.ow t, h, rfl, fun u hu => nomatch hu⟩
    · exact ⟨c, hj, rfl, fun u hu => hu⟩
  refine ⟨⟨by rw [List.length_set]; exact s.len, fun j c hj => ?_, fun j u hj => ?_, fun j k u c h1 h2 n => ?_⟩, ⟨fun a o ha n => ⟨ha, fun ⟨j, u, h1, h2⟩ => ?_⟩, fun _ h => h, fun a ⟨j, u, h1, h2⟩ => ?_, fun a ⟨j, u, h1, h2⟩ => ?_, Kept.refl H⟩⟩
  · obtain ⟨c', h1, h2, _⟩ := back hj
    obtain ⟨v, g1, g2⟩ := s.rp j c' h1
    exact ⟨v, g1, by rw [← h2]; exact g2⟩
  · obtain ⟨c', h1, _, h3⟩ := back hj
    rw [h3 u rfl] at h1
    exact s.nd j u h1
  · obtain ⟨c1, g1, _, g3⟩ := back h1
    obtain ⟨c2, k1, _, _⟩ := back h2
    rw [g3 u rfl] at g1
    exact s.sep j k u c2 g1 k1 n
  · obtain ⟨c1, g1, _, g3⟩ := back h1
    rw [g3 u rfl] at g1
    exact n ⟨j, u, g1, h2⟩
  · obtain ⟨c1, g1, _, g3⟩ := back h1
    rw [g3 u rfl] at g1
    exact .inl ⟨j, u, g1, h2⟩
  · rcases set_at h1 with ⟨rfl, _⟩ | ⟨n, h1⟩
    · exact .inr (.inl ⟨j, t, h, h2⟩)
    · exact .inl ⟨j, u, h1, h2⟩
theorem psv_frz (i : Nat) (h : PSVs G X sts c) : PSVs G X sts (sCons (sFrz i) c) := PSs.weak h fun D σ H ⟨Φ, η, o, s, e, k⟩ => by
  unfold sCons at e
  obtain ⟨o1, e1, e2⟩ := Option.bind_eq_some_iff.mp e
  unfold sFrz at e1
  split at e1
  · rename_i t ht
    cases e1
    obtain ⟨q1, q2⟩ := s.frz ht
    exact ⟨Φ, _, o, q1, e2, k.back q2⟩
  · cases e1
    exact ⟨Φ, η, o, s, e2, k⟩
  · cases e1
end
end VS

set_option Elab.async false
set_option linter.all false
set_option maxRecDepth 100000
set_option maxHeartbeats 1000000
namespace VS
open PySem PySem.Spec PyProof.Rows L2
section
variable {G : Gx} {X : Cx} {st : Stmt} {sts : List Stmt} {c c1 c2 : Sx} {pos : Pos} {e : Expr} {es : List Expr} {ce : Ex} {cs : Exs}

/-! ### a list of the def's own is changed -/
/-- the tree at v, of the addresses F, has become t' in H2 -/
structure Chg (G : Gx) (H : Hp) (v : V) (F : List Addr) (t' : T) (H2 : Hp) (F' : List Addr) : Prop where
  kept : Kept H H2
  keep : ∀ b o, b ∉ F → H b = some o → H2 b = some o
  dom : ∀ b, H b ≠ none → H2 b ≠ none
  rp : Rp G H2 v t' F'
  nd : F'.Nodup
  sub : ∀ a ∈ F', a ∈ F ∨ H a = none
theorem SR.mut {Φ : Fps} {η : VS.Env} {σ : L2.St} {H H2 : Hp} {i : Nat} {v : V} {t t' : T} {F' : List Addr} (s : SR G Φ η σ H) (hi : η[i]? = some (some (.ow t))) (hv : σ[i]? = some (some v)) (g : Chg G H v (Φ i) t' H2 F') :
    SR G (setΦ Φ i F') (η.set i (some (.ow t'))) σ H2 ∧ Frm Φ η H (setΦ Φ i F') (η.set i (some (.ow t'))) H2 := by
  have hl : i < η.length := (List.getElem?_eq_some_iff.mp hi).1
  have off : ∀ j c', j ≠ i → η[j]? = some (some c') → ∀ a ∈ Φ j, a ∉ Φ i := fun j c' n hj a ha ha' => s.sep i j t c' hi hj (Ne.symm n) a ha' ha
  have es : σ.set i (some v) = σ := by
    obtain ⟨h, e⟩ := List.getElem?_eq_some_iff.mp hv
    rw [← e]
    exact List.set_getElem_self h
  have new : ∀ a ∈ F', ∀ j c', j ≠ i → η[j]? = some (some c') → a ∉ Φ j := fun a ha j c' n hj ha' => by
    rcases g.sub a ha with z | z
    · exact off j c' n hj a ha' z
    · obtain ⟨w, _, q⟩ := s.rp j c' hj
      exact Mut.ne_none (q.dom a ha') z
  constructor
  · have := s.put (c := .ow t') (F := F') (H' := H2) (v := v) hl g.rp (fun j c' n hj w q => q.keep g.kept fun a ha o ho => g.keep a o (off j c' n hj a ha) ho) (fun _ _ => g.nd) (fun u hu j c' n hj a ha => new a ha j c' n hj) fun j u n hj a ha ha' => new a ha' j _ n hj ha
    rw [es] at this
    exact this
  · refine ⟨fun a o h n => ⟨g.keep a o (fun z => n ⟨i, t, hi, z⟩) h, fun z => ?_⟩, g.dom, fun a h => ?_, fun a h => ?_, g.kept⟩
    · rcases ow_put z with ⟨u, _, ha⟩ | z
      · rcases g.sub a ha with z | z
        · exact n ⟨i, t, hi, z⟩
        · rw [z] at h; cases h
      · exact n z
    · rcases ow_put h with ⟨u, _, ha⟩ | z
      · rcases g.sub a ha with z | z
        · exact .inl ⟨i, t, hi, z⟩
        · exact .inr z
      · exact .inl z
    · rcases pu_put h with ⟨u, hu, ha⟩ | z
      · cases hu
      · exact .inl z
def MutOk (G : Gx) (r : V → List V → Hp → VK → Prop) (f : T → List Val → Option (T × Val)) : Prop := ∀ (Φ : Fps) (η : VS.Env) (H H1 : Hp) (v : V) (t t' : T) (F : List Addr) (l : List Val) (vs : List V) (Fs : List (List Addr)) (x : Val) (Q : VK),
  Rp G H v t F → F.Nodup → Args G Φ η H H1 l vs Fs → f t l = some (t', x) → (∀ u H2 F', Chg G H v F t' H2 F' → Q u H2) → r v vs H1 Q
theorem psv_mut0 {T' id : String} {name x : Str} {r : V → List V → Hp → VK → Prop} {f : T → List Val → Option (T × Val)} {apos cpos p1 : Pos} (i : Nat) (pa : PlainAttrs T') (slot : Slot T' name id) (hty : typeOf (.builtin id) = pure (.type "method_descriptor")) (hm : MtR X id r) (ok : MutOk G r f)
    (hT : ∀ H v t F l z, Rp G H v t F → f t l = some z → tyV G.K T' v H) (ha : PVs G X (e :: es) cs) (hK : X.K = G.K := by rfl)
    (hN : X.N[i]? = some x := by rfl) (hv : Vis X.env.scope x := by first | exact Or.inl rfl | exact Or.inr (Or.inl rfl) | exact Or.inr (Or.inr rfl)) (hd : (x == ("__debug__" : Str)) = false := by decide)
    (hcd : (x == ("__classdict__" : Str)) = false := by decide)
    (hbase : attributeBase (.Name x p1) name X.env (eval (.Name x p1) X.env) = eval (.Name x p1) X.env := by rfl)
    (hfew : ((backTo cpos (starEach (e :: es) X.env)).all (fun x => !x.1) && (backToKw cpos (keywordEach [] X.env)).all (fun x => x.1.isSome)
      && decide ((e :: es).length + ([] : List Keyword).length + (if ([] : List Keyword).isEmpty then 0 else 1) < 30)) = true := by rfl)
    (hline : (apos.endLine == cpos.line) = true := by rfl) (hs : starEach (e :: es) X.env = (false, eval e X.env) :: starEach es X.env := by rfl) (hplain : (backTo cpos (starEach es X.env)).any (·.1) = false := by rfl)
    (hsw : swapsWith (.Call (.Attribute (.Name x p1) name apos) (e :: es) [] cpos) none pos.line X.env = pure false := by rfl) :
    PSV G X (.Expr (.Call (.Attribute (.Name x p1) name apos) (e :: es) [] cpos) pos) (sX (xMut i [] f cs)) :=
  PS.weak (ps_expr (pe_bm pa slot hty hm (pe_var hN hv hd hcd) ha hbase hfew hline hs hplain) hsw) fun D σ H ⟨Φ, η, o, s, e, k⟩ => by
    unfold sX xMut at e
    obtain ⟨⟨x', η'⟩, e1, e2⟩ := Option.map_eq_some_iff.mp e
    split at e1
    · rename_i t ht
      obtain ⟨ks, ek, e3⟩ := Option.bind_eq_some_iff.mp e1
      cases (show some ([] : List Ky) = some ks from ek)
      obtain ⟨l, el, e4⟩ := Option.bind_eq_some_iff.mp e3
      obtain ⟨⟨t', x2⟩, e5, e6⟩ := Option.map_eq_some_iff.mp e4
      cases e6
      cases e2
      obtain ⟨v, h1, h2⟩ := s.rp _ _ ht
      have e7 : f t l = some (t', x') := e5
      refine ⟨v, h1, by rw [hK]; exact hT H v t _ l _ h2 e7, Φ, η, l, s, el, fun vs H' Fs q1 q2 q3 => ?_⟩
      refine ok Φ η H H' v t t' (Φ i) l vs Fs x' _ h2 (s.nd i t ht) ⟨q1, q2, q3⟩ e7 fun u H2 F' g => ?_
      obtain ⟨w1, w2⟩ := s.mut ht h1 g
      exact k _ σ H2 w1 w2
    · cases e1
theorem Chg.upd {H H1 : Hp} {v : V} {F : List Addr} {a : Addr} {o : HO} {t' : T} {F' : List Addr} (e : Same H H1) (ha : a ∈ F) (hm : Mut (H1 a)) (r : Rp G (upd H1 a o) v t' F') (nd : F'.Nodup) (sub : ∀ a ∈ F', a ∈ F ∨ H a = none) : Chg G H v F t' (upd H1 a o) F' :=
  ⟨(Kept.of e).trans (Kept.upd (.inl hm)), fun b o' hb h => by rw [upd_ne (fun z => hb (by rw [z]; exact ha))]; exact e b o' h,
    fun b h z => by
      by_cases q : b = a
      · subst q; rw [upd_same] at z; cases z
      · rw [upd_ne q] at z; exact h (e.free z), r, nd, sub⟩
theorem RpL.off {H : Hp} {vs : List V} {ts : List T} {Fs : List (List Addr)} {a : Addr} {o : HO} (r : RpL G H vs ts Fs) (hm : Mut (H a)) (h : a ∉ Fs.flatten) : RpL G (upd H a o) vs ts Fs :=
  r.keep (Kept.upd (.inl hm)) fun b hb o' ho => by rw [upd_ne (fun z => h (by rw [← z]; exact hb))]; exact ho
theorem fit_inv {v : Val} {t : T} (h : fit v = some t) : v = (.fr, t) := by
  obtain ⟨m, x⟩ := v
  unfold fit at h
  cases m <;> first | (cases h; rfl) | cases h
theorem ok_append : MutOk G rAppend mAppend := by
  intro Φ η H H1 v t t' F l vs Fs x Q r nd A e k
  unfold mAppend at e
  split at e
  · rename_i ts y
    obtain ⟨z, ez, e1⟩ := Option.bind_eq_some_iff.mp e
    have ey := fit_inv ez
    subst ey
    split at e1
    · rename_i hl
      cases e1
      obtain ⟨a, us, Gs, rfl, rfl, ha, ra⟩ := r.lst_inv
      obtain ⟨w, Fw, rfl, rfl, rw'⟩ := (show RpL G H1 vs [z] Fs from A.rp).one
      have fw : Fp Φ η H .fr Fw := A.fp.each 0 _ _ rfl rfl
      have ha1 : H1 a = some (.lst us) := A.same a _ ha
      have m1 : Mut (H1 a) := by rw [ha1]; exact True.intro
      have na : a ∉ Gs.flatten := (List.nodup_cons.mp nd).1
      have nw : a ∉ Fw := fun z => by rw [fw.2 a z] at ha; cases ha
      refine ⟨a, us, w, rfl, rfl, ha1, by rw [ra.len.1]; exact hl, k _ _ (a :: (Gs ++ [Fw]).flatten) ?_⟩
      have off : ∀ b ∈ Gs.flatten, b ∉ Fw := fun b hb hw => Mut.ne_none (ra.dom b hb) (fw.2 b hw)
      refine Chg.upd A.same List.mem_cons_self m1 (.lst upd_same (((ra.same A.same).off m1 na).append (.cons (rw'.keep (Kept.upd (.inl m1)) fun b hb o ho => by rw [upd_ne (fun z => nw (by rw [← z]; exact hb))]; exact ho) .nil))) ?_ ?_
      · rw [List.flatten_append]
        refine List.nodup_cons.mpr ⟨fun m => ?_, List.nodup_append.mpr ⟨(List.nodup_cons.mp nd).2, by simpa using fw.1, fun b hb c hc z => ?_⟩⟩
        · rcases List.mem_append.mp m with m | m
          · exact na m
          · exact nw (by simpa using m)
        · subst z; exact off b hb (by simpa using hc)
      · intro b hb
        rcases List.mem_cons.mp hb with rfl | hb
        · exact .inl List.mem_cons_self
        · rw [List.flatten_append] at hb
          rcases List.mem_append.mp hb with hb | hb
          · exact .inl (List.mem_cons_of_mem _ hb)
          · exact .inr (fw.2 b (by simpa using hb))
    · cases e1
  · cases e
theorem recv_lst {H : Hp} {v : V} {ts : List T} {F : List Addr} (r : Rp G H v (.lst ts) F) : tyV G.K "list" v H := by
  obtain ⟨a, us, Gs, rfl, rfl, ha, ra⟩ := r.lst_inv
  exact .inl ⟨rfl, _, SqL.of ha⟩
theorem recv_append {H : Hp} {v : V} {t : T} {F : List Addr} {l : List Val} {z : T × Val} (r : Rp G H v t F) (h : mAppend t l = some z) : tyV G.K "list" v H := by
  unfold mAppend at h
  split at h
  · exact recv_lst r
  · cases h
theorem recv_extend {H : Hp} {v : V} {t : T} {F : List Addr} {l : List Val} {z : T × Val} (r : Rp G H v t F) (h : mExtend t l = some z) : tyV G.K "list" v H := by
  unfold mExtend at h
  split at h
  · exact recv_lst r
  · cases h
theorem ok_extend : MutOk G rExtend mExtend := by
  intro Φ η H H1 v t t' F l vs Fs x Q r nd A e k
  unfold mExtend at e
  split at e
  · rename_i ts y
    obtain ⟨z, ez, e1⟩ := Option.bind_eq_some_iff.mp e
    have ey := fit_inv ez
    subst ey
    split at e1
    · rename_i _ zs
      split at e1
      · rename_i hl
        cases e1
        obtain ⟨a, us, Gs, rfl, rfl, ha, ra⟩ := r.lst_inv
        obtain ⟨w, Fw, rfl, rfl, rw'⟩ := (show RpL G H1 vs [.lst zs] Fs from A.rp).one
        have fw : Fp Φ η H .fr Fw := A.fp.each 0 _ _ rfl rfl
        have ha1 : H1 a = some (.lst us) := A.same a _ ha
        have m1 : Mut (H1 a) := by rw [ha1]; exact True.intro
        have na : a ∉ Gs.flatten := (List.nodup_cons.mp nd).1
        have nw : a ∉ Fw := fun z => by rw [fw.2 a z] at ha; cases ha
        obtain ⟨b, ws, Ws, rfl, rfl, hb, rb⟩ := rw'.lst_inv
        have nb : a ∉ Ws.flatten := fun m => nw (List.mem_cons_of_mem _ m)
        refine ⟨a, b, us, ws, rfl, rfl, ha1, hb, by rw [ra.len.1, rb.len.1]; exact hl, k _ _ (a :: (Gs ++ Ws).flatten) ?_⟩
        have off : ∀ b' ∈ Gs.flatten, b' ∉ Ws.flatten := fun b' hb' hw => Mut.ne_none (ra.dom b' hb') (fw.2 b' (List.mem_cons_of_mem _ hw))
        refine Chg.upd A.same List.mem_cons_self m1 (.lst upd_same (((ra.same A.same).off m1 na).append (rb.off m1 nb))) ?_ ?_
        · rw [List.flatten_append]
          refine List.nodup_cons.mpr ⟨fun m => ?_, List.nodup_append.mpr ⟨(List.nodup_cons.mp nd).2, (List.nodup_cons.mp fw.1).2, fun b hb c hc z => ?_⟩⟩
          · rcases List.mem_append.mp m with m | m
            · exact na m
            · exact nb m
          · subst z; exact off b hb hc
        · intro b' hb'
          rcases List.mem_cons.mp hb' with rfl | hb'
          · exact .inl List.mem_cons_self
          · rw [List.flatten_append] at hb'
            rcases List.mem_append.mp hb' with hb' | hb'
            · exact .inl (List.mem_cons_of_mem _ hb')
            · exact .inr (fw.2 b' (List.mem_cons_of_mem _ hb'))
      · cases e1
    · cases e1
  · cases e
end
end VS

set_option Elab.async false
set_option linter.all false
set_option maxRecDepth 100000
set_option maxHeartbeats 1000000
namespace VS
open PySem PySem.Spec PyProof.Rows L2

/-! ### what is walked -/
structure ItOk (G : Gx) (J : It) (l : List T) (C : List Addr) (H : Hp) : Prop where
  run : ∀ H2, Kept H H2 → (∀ a ∈ C, ∀ o, H a = some o → H2 a = some o) →
    (∀ (i : Nat) (t : T), l[i]? = some t → J.go i H2 ∧ ∀ x H3, J.yld i H2 x H3 → Same H2 H3 ∧ ∃ F, Rp G H3 x t F ∧ ∀ a ∈ F, a ∈ C ∨ H2 a = none) ∧ ∀ (i : Nat), l.length ≤ i → J.stop i H2
  dom : ∀ a ∈ C, H a ≠ none
def FpC (Φ : Fps) (η : VS.Env) (H : Hp) (m : Md) (C : List Addr) : Prop := ∀ a ∈ C, H a = none ∨ InPu Φ η a ∨ (m = .bo ∧ InOw Φ η a)
theorem Fp.c {Φ : Fps} {η : VS.Env} {H : Hp} {F : List Addr} : ∀ {m : Md}, Fp Φ η H m F → FpC Φ η H m F
  | .fr, f => fun a ha => .inl (f.2 a ha)
  | .pu, f => fun a ha => (f a ha).imp id .inl
  | .bo, f => fun a ha => (f a ha).imp id fun z => z.imp id fun z => ⟨rfl, z⟩
def tI (G : Gx) (c : Its) : TI := fun σ H R => ∃ Φ η m l, SR G Φ η σ H ∧ c η = some (m, l) ∧ ∀ J H' C, Same H H' → ItOk G J l C H' → FpC Φ η H m C → R J H'
def PVI (G : Gx) (X : Cx) (tg iter : Expr) (c : Its) : Prop := PI X tg iter (tI G c)
theorem PI.weak {X : Cx} {tg e : Expr} {t t' : TI} (h : PI X tg e t) (w : ∀ σ H Q, t' σ H Q → t σ H Q) : PI X tg e t' := fun pins s σ H Q I q => h pins s σ H Q I (w σ H Q q)
section
variable {G : Gx} {X : Cx} {tg e a b : Expr} {es : List Expr} {ca cb : Ex} {cs : Exs} {pos p : Pos}
theorem it_range (H : Hp) (lo : Int) (n : Nat) : ItOk G (Itr lo n) (rng lo n) [] H := by
  refine ⟨fun H2 _ _ => ⟨fun i t h => ?_, fun i h => (by simpa [rng] using h : n ≤ i)⟩, fun a h => by simp at h⟩
  unfold rng at h
  rw [List.getElem?_map] at h
  obtain ⟨k, hk, e⟩ := Option.map_eq_some_iff.mp h
  obtain ⟨hlt, e2⟩ := List.getElem?_eq_some_iff.mp hk
  rw [List.length_range] at hlt
  have ek : i = k := by simpa using e2
  subst ek
  refine ⟨hlt, fun x H3 ⟨e3, e4⟩ => ?_⟩
  subst e3
  subst e4
  rw [← e]
  exact ⟨Same.refl _, [], .int _, fun a h => by simp at h⟩
theorem pvi_range1 (ha : PV G X a ca) (hg : Gl X "range") (hm : X.mg "range" = none) (hs : starEach [a] X.env = (false, eval a X.env) :: starEach [] X.env := by rfl) (hs' : starEach [a] X.env = [(false, eval a X.env)] := by rfl) : PVI G X tg (.Call (.Name "range" p) [a] [] pos) (iRange1 ca) :=
  PI.weak (pi_range1 hg hm (pa_cons ha pa_nil hs) hs') fun σ H R ⟨Φ, η, m, l, s, e, k⟩ => by
    unfold iRange1 at e
    obtain ⟨⟨mx, x⟩, ea, e1⟩ := Option.bind_eq_some_iff.mp e
    obtain ⟨j, ej, e2⟩ := Option.bind_eq_some_iff.mp e1
    split at e2
    · rename_i hj
      cases e2
      refine ⟨Φ, η, mx, x, s, ea, fun v H' F e3 r3 f3 => ?_⟩
      cases x with
      | int j' =>
        cases ej
        refine ⟨j, by rw [r3.int_inv], ?_, ?_, k _ H' [] e3 (it_range H' 0 j.toNat) fun a h => by simp at h⟩
        · have := hj.1; unfold B62 at this; omega
        · have := hj.2; unfold B62 at this; omega
      | _ => cases ej
    · cases e2
theorem pvi_range2 (ha : PV G X a ca) (hb : PV G X b cb) (hg : Gl X "range") (hm : X.mg "range" = none) (hs : starEach [a, b] X.env = (false, eval a X.env) :: starEach [b] X.env := by rfl) (hs' : starEach [a, b] X.env = [(false, eval a X.env), (false, eval b X.env)] := by rfl) (hs1 : starEach [b] X.env = (false, eval b X.env) :: starEach [] X.env := by rfl) (hs2 : starEach [b] X.env = [(false, eval b X.env)] := by rfl) :
    PVI G X tg (.Call (.Name "range" p) [a, b] [] pos) (iRange2 ca cb) :=
  PI.weak (pi_range2 hg hm (pa_cons ha (pa_cons hb pa_nil hs1) hs) hs' hs2) fun σ H R ⟨Φ, η, m, l, s, e, k⟩ => by
    unfold iRange2 at e
    obtain ⟨⟨mx, x⟩, ea, e1⟩ := Option.bind_eq_some_iff.mp e
    obtain ⟨⟨my, y⟩, eb, e1⟩ := Option.bind_eq_some_iff.mp e1
    obtain ⟨i, ei, e2⟩ := Option.bind_eq_some_iff.mp e1
    obtain ⟨j, ej, e2⟩ := Option.bind_eq_some_iff.mp e2
    split at e2
    · rename_i hj
      cases e2
      refine ⟨Φ, η, mx, x, s, ea, fun v H' F e3 r3 f3 => ⟨Φ, η, my, y, s.same e3, eb, fun w H2 F2 e4 r4 f4 => ?_⟩⟩
      cases x with
      | int i' =>
        cases ei
        cases y with
        | int j' =>
          cases ej
          refine ⟨i, j, by rw [r3.int_inv, r4.int_inv], ?_, k _ H2 [] (e3.trans e4) (it_range H2 i (j - i).toNat) fun a h => by simp at h⟩
          unfold B62 at hj
          omega
        | _ => cases ej
      | _ => cases ei
    · cases e2
/-- a list or a tuple that is walked -/
def iSeq (K : PySem.W.Frag) (tl : TE) : TI := fun σ H R => tl σ H fun x H1 => (∃ a, x = .ref a ∧ (∃ xs, SqL K H1 a xs) ∧ R (Itl K a) H1) ∨ (∃ a, x = .ref a ∧ (∃ xs, SqT K H1 a xs) ∧ R (Itt K a) H1)
theorem pi_seq {l : Expr} {tl : TE} (hl : PE X l tl) : PI X tg l (iSeq X.K tl) := by
  intro pins s σ H R I h
  refine thn (hl pins s σ H _ I h) fun v s1 ⟨x, H1, I1, r1, q1⟩ => ?_
  rcases q1 with ⟨a, e, ⟨xs, hq⟩, q⟩ | ⟨a, e, ⟨xs, hq⟩, q⟩
  · subst e
    cases r1
    obtain ⟨its, rv, p, hz⟩ := I1.list hq
    refine wpAny_pyIter_list p.isList ?_
    refine ⟨s1.heap.objs.size, [s1.heap.objs.size], _, _, H1, rfl, I1.kept (t' := s1.toks) fun b o e => Heap.get?_push_of_some _ e, turn_list a _, ⟨_, Heap.get?_push_size _ rfl, rfl, rfl⟩, fun b hb => ?_, q⟩
    have e : b = s1.heap.objs.size := by simpa using hb
    subst e
    exact I1.fpOk (Nat.le_refl _) (I1.hok.fresh (Nat.le_refl _))
  · subst e
    cases r1
    obtain ⟨its, rv, p, hz⟩ := I1.tuple hq
    refine wpAny_pyIter_tuple (show s1.heap.IsTuple a its.toArray from p) ?_
    refine ⟨s1.heap.objs.size, [s1.heap.objs.size], _, _, H1, rfl, I1.kept (t' := s1.toks) fun b o e => Heap.get?_push_of_some _ e, turn_tuple a _, ⟨_, Heap.get?_push_size _ rfl, rfl, rfl⟩, fun b hb => ?_, q⟩
    have e : b = s1.heap.objs.size := by simpa using hb
    subst e
    exact I1.fpOk (Nat.le_refl _) (I1.hok.fresh (Nat.le_refl _))
theorem mem_fp {Fs : List (List Addr)} {i : Nat} {F : List Addr} (h : Fs[i]? = some F) {a : Addr} (ha : a ∈ F) : a ∈ Fs.flatten := (mem_flat h).subset ha
theorem it_list {H : Hp} {a : Addr} {vs : List V} {ts : List T} {Fs : List (List Addr)} (K : PySem.W.Frag) (ha : H a = some (.lst vs)) (r : RpL G H vs ts Fs) : ItOk G (Itl K a) ts (a :: Fs.flatten) H := by
  refine ⟨fun H2 k c => ?_, fun b hb => ?_⟩
  · have ha2 : H2 a = some (.lst vs) := c a List.mem_cons_self _ ha
    have r2 : RpL G H2 vs ts Fs := r.keep k fun b hb o ho => c b (List.mem_cons_of_mem _ hb) o ho
    refine ⟨fun i t h => ?_, fun i h => ⟨vs, SqL.of ha2, by rw [r.len.1]; exact h⟩⟩
    obtain ⟨v, F, h1, h2, h3⟩ := r2.get i h
    refine ⟨⟨vs, v, SqL.of ha2, h1⟩, fun x H3 ⟨e1, e2⟩ => ?_⟩
    subst e1
    have ex := e2 vs (SqL.of ha2)
    rw [h1] at ex
    cases ex
    exact ⟨Same.refl _, F, h3, fun b hb => .inl (List.mem_cons_of_mem _ (mem_fp h2 hb))⟩
  · rcases List.mem_cons.mp hb with rfl | hb
    · rw [ha]; exact fun z => nomatch z
    · exact Mut.ne_none (r.dom b hb)
theorem it_tup {H : Hp} {a : Addr} {vs : List V} {ts : List T} {Fs : List (List Addr)} (K : PySem.W.Frag) (ha : H a = some (.tup vs)) (r : RpL G H vs ts Fs) : ItOk G (Itt K a) ts Fs.flatten H := by
  refine ⟨fun H2 k c => ?_, fun b hb => Mut.ne_none (r.dom b hb)⟩
  have ha2 : H2 a = some (.tup vs) := k.tup a _ ha
  have r2 : RpL G H2 vs ts Fs := r.keep k fun b hb o ho => c b hb o ho
  refine ⟨fun i t h => ?_, fun i h => ⟨vs, SqT.of ha2, by rw [r.len.1]; exact h⟩⟩
  obtain ⟨v, F, h1, h2, h3⟩ := r2.get i h
  refine ⟨⟨vs, v, SqT.of ha2, h1⟩, fun x H3 ⟨e1, e2⟩ => ?_⟩
  subst e1
  have ex := e2 vs (SqT.of ha2)
  rw [h1] at ex
  cases ex
  exact ⟨Same.refl _, F, h3, fun b hb => .inl (mem_fp h2 hb)⟩
theorem sql_scr_inj {H : Hp} {a : Addr} {ns : List Int} {xs : List V} {pins : List (Addr × Obj)} {σ : L2.St} {s : Shared} (I : Inv X pins σ H s) (h : ScrAt X.K H a ns) (h' : SqL X.K H a xs) : xs = ns.map V.int := I.list_inj h' h.seq
/-! ### targets -/
def tG (G : Gx) (g : Tg) : TG := fun v σ H Q => ∃ Φ η t F η', SR G Φ η σ H ∧ Rp G H v t F ∧ (∀ a ∈ F, ¬ InOw Φ η a) ∧ g t η = some η' ∧
  ∀ Φ' σ', SR G Φ' η' σ' H → (∀ a, InOw Φ' η' a → InOw Φ η a) → (∀ a, InPu Φ' η' a → InPu Φ η a ∨ a ∈ F) → Q σ' H
def tGs (G : Gx) (gs : List Tg) : TGs := fun vs σ H Q => ∃ Φ η ts Fs η', SR G Φ η σ H ∧ RpL G H vs ts Fs ∧ (∀ a ∈ Fs.flatten, ¬ InOw Φ η a) ∧ gAll gs ts η = some η' ∧
  ∀ Φ' σ', SR G Φ' η' σ' H → (∀ a, InOw Φ' η' a → InOw Φ η a) → (∀ a, InPu Φ' η' a → InPu Φ η a ∨ a ∈ Fs.flatten) → Q σ' H
def PVG (G : Gx) (X : Cx) (e : Expr) (g : Tg) : Prop := PG X e (tG G g)
def PVGs (G : Gx) (X : Cx) (e : List Expr) (g : List Tg) : Prop := PGs X e (tGs G g)
theorem PG.weak {X : Cx} {e : Expr} {t t' : TG} (h : PG X e t) (w : ∀ v σ H Q, t' v σ H Q → t v σ H Q) : PG X e t' := fun pins s σ H v u Q I r q => h pins s σ H v u Q I r (w v σ H Q q)
theorem PGs.weak {X : Cx} {e : List Expr} {t t' : TGs} (h : PGs X e t) (w : ∀ v σ H Q, t' v σ H Q → t v σ H Q) : PGs X e t' := fun pins s σ H v u Q I r q => h pins s σ H v u Q I r (w v σ H Q q)
theorem pvg_name (i : Nat) {x : Str} (hN : X.N.Nodup) (hi : X.N[i]? = some x := by rfl) (hx : Loc X.env.scope x := by first | exact Or.inl rfl | exact Or.inr rfl)
    (hf : X.fn x = true ∨ X.env.scope.names.lookup x = some .local := by first | exact .inl rfl | exact .inr rfl) : PVG G X (.Name x pos) (gVar i) := PG.weak (pg_name hN hi hx hf) fun v σ H Q ⟨Φ, η, t, F, η', s, r, no, e, k⟩ => by
  unfold gVar at e
  split at e
  · rename_i hl
    cases e
    refine k (setΦ Φ i F) (σ.set i (some v)) (s.put (c := .pu t) hl r (fun j c' n hj w q => q) (fun u hu => nomatch hu) (fun u hu => nomatch hu) fun j u n hj a ha ha' => no a ha' ⟨j, u, hj, ha⟩) (fun a h => ?_) fun a h => ?_
    · rcases ow_put h with ⟨u, hu, _⟩ | z
      · cases hu
      · exact z
    · rcases pu_put h with ⟨u, hu, ha⟩ | z
      · exact .inr ha
      · exact .inl z
  · cases e
theorem pvgs_nil : PVGs G X [] [] := PGs.weak pgs_nil fun v σ H Q ⟨Φ, η, ts, Fs, η', s, r, no, e, k⟩ => by
  cases r with
  | nil =>
    cases (show some η = some η' from e)
    exact ⟨rfl, k Φ σ s (fun _ h => h) fun _ h => .inl h⟩
  | cons r q => cases (show (none : Option VS.Env) = some η' from e)
theorem pvgs_cons {g : Tg} {gs : List Tg} (h1 : PVG G X e g) (h2 : PVGs G X es gs) (hs : (assignEach (e :: es) X.env).map (·.2) = assign e X.env :: (assignEach es X.env).map (·.2) := by rfl) : PVGs G X (e :: es) (g :: gs) :=
  PGs.weak (pgs_cons h1 h2 hs) fun v σ H Q ⟨Φ, η, ts, Fs, η', s, r, no, e, k⟩ => by
    cases r with
    | nil => cases (show (none : Option VS.Env) = some η' from e)
    | cons r q =>
      rename_i v' t' F' vs' ts' Fs'
      obtain ⟨η1, e1, e2⟩ := Option.bind_eq_some_iff.mp e
      refine ⟨_, _, rfl, Φ, η, _, _, η1, s, r, fun a ha => no a (by rw [List.flatten_cons]; exact List.mem_append_left _ ha), e1, fun Φ1 σ1 s1 o1 p1 => ?_⟩
      refine ⟨Φ1, η1, _, _, η', s1, q, fun a ha z => no a (by rw [List.flatten_cons]; exact List.mem_append_right _ ha) (o1 a z), e2, fun Φ2 σ2 s2 o2 p2 => k Φ2 σ2 s2 (fun a h => o1 a (o2 a h)) fun a h => ?_⟩
      rcases p2 a h with h | h
      · rcases p1 a h with h | h
        · exact .inl h
        · exact .inr (by rw [List.flatten_cons]; exact List.mem_append_left _ h)
      · exact .inr (by rw [List.flatten_cons]; exact List.mem_append_right _ h)
theorem gAll_len : ∀ {gs : List Tg} {ts : List T} {η η' : VS.Env}, gAll gs ts η = some η' → ts.length = gs.length
  | [], [], _, _, _ => rfl
  | [], _ :: _, _, _, h => by simp [gAll] at h
  | _ :: _, [], _, _, h => by simp [gAll] at h
  | g :: gs, t :: ts, η, η', h => by
    obtain ⟨η1, _, e2⟩ := Option.bind_eq_some_iff.mp (show (g t η).bind (fun η' => gAll gs ts η') = some η' from h)
    simp [gAll_len e2]
theorem pvg_tup {gs : List Tg} {k : Nat} (hc : X.calm = true) (h : PVGs G X es gs) (hn : (assignEach es X.env).length = gs.length := by rfl) (hst : (assignEach es X.env).findIdx? (·.1) = none := by rfl) (hK : X.K = G.K := by rfl) : PVG G X (.Tuple es k pos) (gTup gs) :=
  PG.weak (pg_tup (n := gs.length) hc h hn hst) fun v σ H Q ⟨Φ, η, t, F, η', s, r, no, e, q⟩ => by
    unfold gTup at e
    split at e
    · rename_i l
      obtain ⟨a', vs, Fs, rfl, rfl, ha', ra⟩ := r.tup_inv
      exact ⟨a', vs, rfl, SqT.of ha', by rw [ra.len.1]; exact gAll_len e, Φ, η, l, Fs, η', s, ra, no, e, q⟩
    · cases e

/-! ### for -/
theorem forL_drop {tgt : Tg} {body : Sx} {l : List T} {η : VS.Env} {i : Nat} {t : T} (h : l[i]? = some t) : l.drop i = t :: l.drop (i + 1) := by
  obtain ⟨hi, e⟩ := List.getElem?_eq_some_iff.mp h
  rw [← e]
  exact List.drop_eq_getElem_cons hi
theorem psv_for {iter : Expr} {body : List Stmt} {ci : Its} {g : Tg} {cb : Sx} (hp : PassesOwn (model X.prog X.w) X.A X.env X.xe) (hc : X.calm = true) (hi : PVI G X tg iter ci) (hg : PVG G X tg g) (hb : PSVs G X body cb)
    (hs : ∀ x, foldedSetIterable iter X.env x = pure x := by intro _; rfl) : PSV G X (.For tg iter body [] pos) (sFor g ci cb) := PS.weak (ps_for hp hc hi hg hb hs) fun D σ H ⟨Φ, η, o, s, e, k⟩ => by
  unfold sFor at e
  obtain ⟨⟨m, l⟩, el, e1⟩ := Option.bind_eq_some_iff.mp e
  dsimp only at e1
  split at e1
  · rename_i hm
    have hm' : m ≠ .bo := fun z => by rw [z] at hm; cases hm
    refine ⟨Φ, η, m, l, s, el, fun J H' C e2 ok fc => ?_⟩
    have cno : ∀ a ∈ C, ¬ InOw Φ η a := fun a ha z => by
      rcases fc a ha with q | q | q
      · exact Mut.ne_none (s.ow_dom z) q
      · exact s.ow_pu z q
      · exact hm' q.1
    -- between the turns
    refine ⟨fun i n σ2 H2 => n = l.length - i ∧ ∃ Φ2 η2, SR G Φ2 η2 σ2 H2 ∧ Frm Φ η H Φ2 η2 H2 ∧ Kept H' H2 ∧ (∀ a ∈ C, ∀ o, H' a = some o → H2 a = some o ∧ ¬ InOw Φ2 η2 a) ∧ forL g cb (l.drop i) η2 = some o,
      ⟨l.length - 0, rfl, Φ, η, s.same e2, Frm.same e2, Kept.refl _, fun a ha o' ho => ⟨ho, cno a ha⟩, by rw [List.drop_zero]; exact e1⟩, ?_⟩
    rintro i n σ2 H2 ⟨rfl, Φ2, η2, s2, f2, kp, con, e3⟩
    obtain ⟨go, stop⟩ := ok.run H2 kp fun a ha o' ho => (con a ha o' ho).1
    cases hit : l[i]? with
    | none =>
      have hl : l.length ≤ i := List.getElem?_eq_none_iff.mp hit
      left
      rw [List.drop_of_length_le hl] at e3
      cases (show some (Out.nx η2) = some o from e3)
      exact ⟨stop i hl, k Φ2 σ2 H2 s2 f2⟩
    | some t =>
      have hl : i < l.length := (List.getElem?_eq_some_iff.mp hit).1
      right
      obtain ⟨g1, y1⟩ := go i t hit
      rw [forL_drop (tgt := g) (body := cb) (η := η2) hit] at e3
      obtain ⟨η3, e4, e5⟩ := Option.bind_eq_some_iff.mp (show (g t η2).bind (fun η1 => (cb η1).bind fun o => match o with
        | .nx η2 => forL g cb (l.drop (i + 1)) η2
        | .ct η2 => forL g cb (l.drop (i + 1)) η2
        | .bk η2 => some (.nx η2)
        | .rt v η2 => some (.rt v η2)) = some o from e3)
      obtain ⟨o', e6, e7⟩ := Option.bind_eq_some_iff.mp e5
      refine ⟨g1, fun σ4 H4 => ∃ Φ4 η4, SR G Φ4 η4 σ4 H4 ∧ Frm Φ η H Φ4 η4 H4 ∧ Kept H' H4 ∧ (∀ a ∈ C, ∀ o, H' a = some o → H4 a = some o ∧ ¬ InOw Φ4 η4 a) ∧ forL g cb (l.drop (i + 1)) η4 = some o, fun σ4 H4 ⟨Φ4, η4, q⟩ => ⟨l.length - (i + 1), by omega, rfl, Φ4, η4, q⟩, fun x H3 yl => ?_⟩
      obtain ⟨e8, F, rF, hF⟩ := y1 x H3 yl
      have s3 := s2.same e8
      have noF : ∀ a ∈ F, ¬ InOw Φ2 η2 a := fun a ha z => by
        rcases hF a ha with q | q
        · have hne := ok.dom a q
          cases ho : H' a with
          | none => exact hne ho
          | some o'' => exact (con a q o'' ho).2 z
        · exact Mut.ne_none (s2.ow_dom z) q
      refine ⟨Φ2, η2, t, F, η3, s3, rF, noF, e4, fun Φ3 σ3 s4 o3 p3 => ?_⟩
      have f3 : Frm Φ η H Φ3 η3 H3 := ⟨fun a o' h n => let ⟨h1, n1⟩ := f2.keep a o' h n; ⟨e8 a o' h1, fun z => n1 (o3 a z)⟩, fun a h z => f2.dom a h (e8.free z), fun a h => f2.ow a (o3 a h), fun a h => by
        rcases p3 a h with h | h
        · exact f2.pu a h
        · rcases hF a h with q | q
          · rcases fc a q with q | q | q
            · exact .inr (.inr q)
            · exact .inl q
            · exact .inr (.inl q.2)
          · exact .inr (.inr (f2.none q)), f2.kept.trans (Kept.of e8)⟩
      have next : ∀ {Φ4 η4 H4}, Frm Φ3 η3 H3 Φ4 η4 H4 → Kept H' H4 ∧ ∀ a ∈ C, ∀ o, H' a = some o → H4 a = some o ∧ ¬ InOw Φ4 η4 a := fun fb =>
        ⟨(kp.trans (Kept.of e8)).trans fb.kept, fun a ha o' ho => by
          obtain ⟨h1, n1⟩ := con a ha o' ho
          exact fb.keep a o' (e8 a o' h1) fun z => n1 (o3 a z)⟩
      refine ⟨Φ3, η3, o', s4, e6, ?_⟩
      cases o' with
      | nx η4 => exact fun Φ4 σ4 H4 s5 fb => ⟨Φ4, η4, s5, f3.trans fb, (next fb).1, (next fb).2, e7⟩
      | ct η4 => exact fun Φ4 σ4 H4 s5 fb => ⟨Φ4, η4, s5, f3.trans fb, (next fb).1, (next fb).2, e7⟩
      | bk η4 =>
        cases (show some (Out.nx η4) = some o from e7)
        exact fun Φ4 σ4 H4 s5 fb => k Φ4 σ4 H4 s5 (f3.trans fb)
      | rt v η4 =>
        cases (show some (Out.rt v η4) = some o from e7)
        exact fun u H4 F4 Φ4 σ4 s5 fb r5 q5 => k u H4 F4 Φ4 σ4 s5 (f3.trans fb) r5 (q5.back f3)
  · cases e1
end
end VS

set_option Elab.async false
set_option linter.all false
set_option maxRecDepth 100000
set_option maxHeartbeats 1000000
namespace VS
open PySem PySem.Spec PyProof.Rows L2

/-! ### defs of the text -/
def RetF (H : Hp) (Fs : List (List Addr)) : Md → List Addr → Prop
  | .fr, F => F.Nodup ∧ ∀ a ∈ F, H a = none
  | _, F => ∀ a ∈ F, H a = none ∨ a ∈ Fs.flatten
def spF (G : Gx) (g : Fn) : Sp := fun vs H Q _ => ∃ ts Fs m r, RpL G H vs ts Fs ∧ g ts = some (m, r) ∧ ∀ v H' F, Same H H' → Rp G H' v r F → RetF H Fs m F → Q v H'
section
variable {G : Gx} {X : Cx} {k : Nat} {f : Addr} {fd : FuncData} {ps : List Str} {x : Str} {p pos : Pos} {e : Expr} {es : List Expr} {cs : Exs} {g : Fn}
theorem call_of {σ : L2.St} {H : Hp} {Q : VK} {E : XK} (h : tE G (eCall g cs) σ H Q) : tCall (spF G g) [] E (tEs G cs) σ H Q := by
  obtain ⟨Φ, η, m, t, s, e, kk⟩ := h
  unfold eCall at e
  obtain ⟨l, el, e1⟩ := Option.bind_eq_some_iff.mp e
  obtain ⟨⟨n, r⟩, er, e2⟩ := Option.bind_eq_some_iff.mp e1
  refine ⟨Φ, η, l, s, el, fun vs H1 Fs q1 q2 q3 => ?_⟩
  have A : Args G Φ η H H1 l vs Fs := ⟨q1, q2, q3⟩
  have jn := q3.join A.len
  show spF G g (vs ++ []) H1 Q E
  rw [List.append_nil]
  refine ⟨trees l, Fs, n, r, q2, er, fun v H' F q4 q5 q6 => ?_⟩
  have wide : (∀ a ∈ F, H1 a = none ∨ a ∈ Fs.flatten) → Fp Φ η H ((Md.pu).join (joins l)) F := fun h => by
    cases ej : joins l with
    | fr =>
      rw [ej] at jn
      exact fun a ha => .inl ((h a ha).elim q1.free (jn.2 a))
    | pu =>
      rw [ej] at jn
      exact fun a ha => (h a ha).elim (fun z => .inl (q1.free z)) (jn a)
    | bo =>
      rw [ej] at jn
      exact fun a ha => (h a ha).elim (fun z => .inl (q1.free z)) (jn a)
  cases n with
  | fr =>
    cases e2
    exact kk v H' F (q1.trans q4) q5 ⟨q6.1, fun a ha => q1.free (q6.2 a ha)⟩
  | pu =>
    cases e2
    exact kk v H' F (q1.trans q4) q5 (wide q6)
  | bo =>
    cases e2
    exact kk v H' F (q1.trans q4) q5 (wide q6)
theorem pv_call (F : FnOk X.prog X.w X.K X.mg X.base CX0 k f fd ps (spF G g)) (hr : Room k X.A) (hg : Gl X x) (hm : X.mg x = some (.ref f)) (hk : PySem.W.keepIn X.K (.ref f) = true) (hb : Binds X.K fd ps [])
    (ha : PVs G X (e :: es) cs) (hdb : (x == ("__debug__" : Str)) = false := by decide) (he : starEach (e :: es) X.env = (false, eval e X.env) :: starEach es X.env := by rfl) (hpl : (backTo pos (starEach es X.env)).any (·.1) = false := by rfl) :
    PV G X (.Call (.Name x p) (e :: es) [] pos) (eCall g cs) :=
  PE.weak (pe_call F hr hg hm hk hb .nil pass0 ha hdb he hpl) fun σ H Q h => call_of h
theorem start_rp {H : Hp} {vs : List V} {ts : List T} {Fs : List (List Addr)} (r : RpL G H vs ts Fs) (n nv : Nat) (hv : nv = vs.length) : SR G (fun i => Fs.getD i []) (ts.map (fun t => some (.pu t)) ++ List.replicate (n - ts.length) none) (vs.map some ++ List.replicate (n - nv) none) H := by
  subst hv
  have hl := r.len
  have back : ∀ {i : Nat} {c : Cell}, (ts.map (fun t => some (Cell.pu t)) ++ List.replicate (n - ts.length) none)[i]? = some (some c) → ∃ t, ts[i]? = some t ∧ c = .pu t := fun {i c} h => by
    by_cases hi : i < ts.length
    · rw [List.getElem?_append_left (by rw [List.length_map]; exact hi), List.getElem?_map] at h
      obtain ⟨t, h1, h2⟩ := Option.map_eq_some_iff.mp h
      exact ⟨t, h1, (Option.some.inj h2).symm⟩
    · rw [List.getElem?_append_right (by rw [List.length_map]; omega), List.getElem?_replicate] at h
      split at h <;> cases h
  refine ⟨by simp; omega, fun i c h => ?_, fun i t h => ?_, fun i j t c h => ?_⟩
  · obtain ⟨t, h1, rfl⟩ := back h
    obtain ⟨v, F, g1, g2, g3⟩ := r.get i h1
    refine ⟨v, ?_, ?_⟩
    · have : i < vs.length := (List.getElem?_eq_some_iff.mp g1).1
      rw [List.getElem?_append_left (by rw [List.length_map]; exact this), List.getElem?_map, g1]
      rfl
    · show Rp G H v t (Fs.getD i [])
      rw [List.getD_eq_getElem?_getD, g2]
      exact g3
  · obtain ⟨t', _, h2⟩ := back h
    cases h2
  · obtain ⟨t', _, h2⟩ := back h
    cases h2
theorem start_no {ts : List T} {n : Nat} {Φ : Fps} {a : Addr} : ¬ InOw Φ (ts.map (fun t => some (Cell.pu t)) ++ List.replicate n none) a := by
  rintro ⟨i, t, h, _⟩
  by_cases hi : i < ts.length
  · rw [List.getElem?_append_left (by rw [List.length_map]; exact hi), List.getElem?_map] at h
    obtain ⟨t', _, h2⟩ := Option.map_eq_some_iff.mp h
    cases h2
  · rw [List.getElem?_append_right (by rw [List.length_map]; omega), List.getElem?_replicate] at h
    split at h <;> cases h
theorem start_pu {H : Hp} {vs : List V} {ts : List T} {Fs : List (List Addr)} {n : Nat} {a : Addr} (h : InPu (fun i => Fs.getD i []) (ts.map (fun t => some (Cell.pu t)) ++ List.replicate n none) a) : a ∈ Fs.flatten := by
  obtain ⟨i, t, _, h2⟩ := h
  simp only [List.getD_eq_getElem?_getD] at h2
  cases e : Fs[i]? with
  | none => rw [e] at h2; simp at h2
  | some F => rw [e] at h2; exact mem_fp e h2
end
section
variable {G : Gx} {P : Program} {w : World} {K : PySem.W.Frag} {mg : Str → Option Value} {base : Heap}
/-- THE RULE: a def does what its body's function tells -/
theorem fnV {x qual : Str} {st : Stmt} {f : Addr} {fd : FuncData} {N ps : List Str} {k np nn : Nat} {c : Sx} (F : Fun K x qual st f fd) (S : FnScope N ps (defScope st)) (hp : ps.length = np) (hn : N.length = nn)
    (hb : ∀ (cdv : Value) (A : Around) (outer : List PySem.Env) (s : Shared) (H : Hp) (E : XK), Room k (A.deeper (envOfC qual (defScope st) s.heap.objs.size f cdv)) → PSVs G (cxOf CX0 P w K mg base N qual (defScope st) f cdv A outer s H E).nox (defBody st) c) :
    FnOk P w K mg base CX0 (k + 1) f fd ps (spF G (fn np nn c)) := by
  refine F.ok S (fun vs H Q E h => ?_) fun cdv A outer s H vs Q E hr h => ⟨_, hb cdv A outer s H E hr, ?_⟩
  · obtain ⟨ts, Fs, m, r, h1, h2, _⟩ := h
    unfold fn at h2
    split at h2
    · rename_i hl
      rw [h1.len.1, hl, hp]
    · cases h2
  · obtain ⟨ts, Fs, m, r, h1, h2, q⟩ := h
    unfold fn at h2
    split at h2
    · rename_i hl
      obtain ⟨o, e1, e2⟩ := Option.bind_eq_some_iff.mp h2
      have s0 := start_rp h1 nn vs.length rfl
      rw [hl] at s0
      have e3 : L2.start N vs = vs.map some ++ List.replicate (nn - vs.length) none := by
        unfold L2.start
        rw [hn]
      rw [e3]
      refine ⟨_, _, o, s0, e1, ?_⟩
      cases o with
      | nx η' =>
        cases e2
        intro Φ' σ' H' s' fr
        exact q .non H' [] (fun a o h => (fr.keep a o h start_no).1) .non ⟨List.nodup_nil, fun a h => by simp at h⟩
      | rt v η' =>
        cases e2
        intro u H' F' Φ' σ' s' fr r' rf
        refine q u H' F' (fun a o h => (fr.keep a o h start_no).1) r' ?_
        cases m with
        | fr => exact ⟨rf.1, fun a ha => (rf.2 a ha).elim id fun z => absurd z start_no⟩
        | pu => exact fun a ha => (rf a ha).elim .inl fun z => z.elim (fun z => .inr (start_pu (H := H) (vs := vs) z)) fun z => absurd z start_no
        | bo => exact fun a ha => (rf a ha).elim .inl fun z => z.elim (fun z => .inr (start_pu (H := H) (vs := vs) z)) fun z => absurd z start_no
      | bk η' => cases e2
      | ct η' => cases e2
    · cases h2
end
end VS

set_option Elab.async false
set_option linter.all false
set_option maxRecDepth 100000
set_option maxHeartbeats 1000000
/-! A comprehension's block: a context of its own within the def's. -/
namespace L2
open PySem PySem.Spec PyProof.Rows

theorem clos_list (env : Env) : ∀ (l : List (Str × NameKind)) (acc : List (Str × Addr)), (∀ y ∈ l, y.2 = .free → ∃ c, env.cells.lookup y.1 = some c) → (∀ x c, acc.lookup x = some c → env.cells.lookup x = some c) →
    ∃ cl, (forIn l acc (fun x r => if (x.snd == NameKind.free) = true then (do let a ← cellOf env x.fst; pure (ForInStep.yield ((x.fst, a) :: r))) else pure (ForInStep.yield r)) : Sem (List (Str × Addr))) = pure cl ∧
      (∀ x c, cl.lookup x = some c → env.cells.lookup x = some c) ∧ (∀ x c, acc.lookup x = some c → ∃ c', cl.lookup x = some c') ∧ ∀ y ∈ l, y.2 = .free → ∃ c, cl.lookup y.1 = some c
  | [], acc, _, ha => ⟨acc, rfl, ha, fun x c h => ⟨c, h⟩, fun y hy => nomatch hy⟩
  | (n, k) :: l, acc, hf, ha => by
    by_cases hk : k = .free
    · subst hk
      obtain ⟨c, hc⟩ := hf (n, .free) List.mem_cons_self rfl
      have ec : cellOf env n = pure c := by unfold cellOf; dsimp only at hc; rw [hc]
      have ha' : ∀ x c', ((n, c) :: acc).lookup x = some c' → env.cells.lookup x = some c' := fun x c' h => by
        rw [List.lookup_cons] at h
        split at h
        · rename_i hx
          have : x = n := by simpa using hx
          rw [this, ← h]; exact hc
        · exact ha x c' h
      obtain ⟨cl, h1, h2, h3, h4⟩ := clos_list env l ((n, c) :: acc) (fun y hy => hf y (List.mem_cons_of_mem _ hy)) ha'
      refine ⟨cl, ?_, h2, fun x c' h => ?_, fun y hy hyf => ?_⟩
      · rw [List.forIn_cons]
        dsimp only
        rw [if_pos (show (NameKind.free == NameKind.free) = true from rfl), ec, pure_bind, pure_bind]
        exact h1
      · by_cases hx : x = n
        · exact h3 x c (by rw [List.lookup_cons, hx]; simp)
        · refine h3 x c' ?_
          rw [List.lookup_cons]
          have : (x == n) = false := by simpa using hx
          rw [this]; exact h
      · rcases List.mem_cons.mp hy with rfl | hy
        · exact h3 n c (by rw [List.lookup_cons]; simp)
        · exact h4 y hy hyf
    · obtain ⟨cl, h1, h2, h3, h4⟩ := clos_list env l acc (fun y hy => hf y (List.mem_cons_of_mem _ hy)) ha
      refine ⟨cl, ?_, h2, h3, fun y hy hyf => ?_⟩
      · rw [List.forIn_cons]
        dsimp only
        rw [if_neg (by simpa using hk), pure_bind]
        exact h1
      · rcases List.mem_cons.mp hy with rfl | hy
        · exact absurd hyf hk
        · exact h4 y hy hyf
theorem clos_ok {sc : Scope} {env : Env} (hf : ∀ y ∈ sc.names, y.2 = .free → ∃ c, env.cells.lookup y.1 = some c) :
    ∃ cl, closureFor sc env = pure cl ∧ (∀ x c, cl.lookup x = some c → env.cells.lookup x = some c) ∧ ∀ y ∈ sc.names, y.2 = .free → ∃ c, cl.lookup y.1 = some c := by
  obtain ⟨cl, h1, h2, _, h4⟩ := clos_list env sc.names [] hf (fun x c h => nomatch h)
  refine ⟨cl, ?_, h2, h4⟩
  simp only [closureFor]
  rw [h1]
  rfl
theorem mem_of_look {l : List (Str × NameKind)} {x : Str} {k : NameKind} (h : l.lookup x = some k) : (x, k) ∈ l := by
  induction l with
  | nil => cases h
  | cons p l ih =>
    rw [List.lookup_cons] at h
    split at h
    · rename_i hx
      have e : x = p.1 := by simpa using hx
      cases h
      rw [e]; exact List.mem_cons_self
    · exact List.mem_cons_of_mem _ (ih h)
theorem relabel_look {env : Env} {x : Str} {k : NameKind} : ∀ {l : List (Str × NameKind)}, (l.map fun (n, k) => if (k == NameKind.free && env.scope.kind == .function && env.kindOf n == some .cell) then (n, NameKind.cell) else (n, k)).lookup x = some k →
    ∃ k0, l.lookup x = some k0 ∧ (k = k0 ∨ (k0 = .free ∧ k = .cell))
  | [], h => nomatch h
  | (n, k1) :: l, h => by
    rw [List.map_cons, List.lookup_cons] at h
    by_cases hc : (k1 == NameKind.free && env.scope.kind == .function && env.kindOf n == some .cell) = true
    · simp only [hc, if_true] at h
      rw [List.lookup_cons]
      cases hx : x == n with
      | true =>
        rw [hx] at h
        have : k1 = .free := by
          have := (Bool.and_eq_true_iff.mp (Bool.and_eq_true_iff.mp hc).1).1
          simpa using this
        exact ⟨k1, rfl, .inr ⟨this, (Option.some.inj h).symm⟩⟩
      | false => rw [hx] at h; exact relabel_look h
    · simp only [hc, if_false, Bool.false_eq_true] at h
      rw [List.lookup_cons]
      cases hx : x == n with
      | true => rw [hx] at h; exact ⟨k1, rfl, .inl (Option.some.inj h).symm⟩
      | false => rw [hx] at h; exact relabel_look h

/-- the context of the block -/
def compCx (X : Cx) (N : List Str) (sc : Scope) (cl : List (Str × Addr)) (C : Addr) (s : Shared) (H : Hp) (fp : List Addr) : Cx :=
  { X with N := N, s₀ := s, H₀ := H, env := compEnvC sc cl C X.env, outer := X.stack, ex := fp, fn := fun _ => false, pn := [], xe := fun _ _ => False }
def scOk (env : Env) (sc : Scope) : Bool := sc.kind == .function && sc.names.all fun y => match y.2 with
  | .cell => false
  | .local => sc.names.lookup y.1 == some .local
  | .free => env.kindOf y.1 == some .cell || env.kindOf y.1 == some .free
  | _ => true
/-- the names ahead are the block's own, the others the def's (or a word that is no name of the block) -/
def nmOk (sc : Scope) : List Str → List Str → Bool
  | [], [] => true
  | a :: as, b :: bs => ((a == b && sc.names.lookup a == some .free) || sc.names.lookup a == none || sc.names.lookup a == some .globalImplicit) && nmOk sc as bs
  | _, _ => false
theorem nmOk_at {sc : Scope} : ∀ {as bs : List Str}, nmOk sc as bs = true → as.length = bs.length ∧ ∀ (i : Nat) (x : Str), as[i]? = some x → (bs[i]? = some x ∧ sc.names.lookup x = some .free) ∨ sc.names.lookup x = none ∨ sc.names.lookup x = some .globalImplicit
  | [], [], _ => ⟨rfl, fun i x h => by simp at h⟩
  | a :: as, b :: bs, h => by
    simp only [nmOk, Bool.and_eq_true] at h
    obtain ⟨h1, h2⟩ := h
    obtain ⟨l, r⟩ := nmOk_at h2
    refine ⟨by simp [l], fun i x e => ?_⟩
    cases i with
    | zero =>
      have : a = x := by simpa using e
      subst this
      simp only [Bool.or_eq_true, Bool.and_eq_true] at h1
      rcases h1 with (⟨z1, z2⟩ | z) | z
      · exact .inl ⟨by simpa using (by simpa using z1 : a = b).symm, by simpa using z2⟩
      · exact .inr (.inl (by simpa using z))
      · exact .inr (.inr (by simpa using z))
    | succ i => simpa using r i x (by simpa using e)
  | [], _ :: _, h => by simp [nmOk] at h
  | _ :: _, [], h => by simp [nmOk] at h
section
variable {X : Cx} {pins : List (Addr × Obj)} {σ : St} {H : Hp} {s : Shared}
theorem Inv.block {N : List Str} {sc : Scope} {cl : List (Str × Addr)} {C D : Addr} {fp : List Addr} {k : Nat} {h1 : Heap} {t : Nat} {m : Str → Option Value} (I : Inv X pins σ H s) (hsc : scOk X.env sc = true) (hnm : nmOk sc (N.drop k) X.N = true) (hNl : k ≤ N.length)
    (hc1 : ∀ x c, cl.lookup x = some c → X.env.cells.lookup x = some c) (hc2 : ∀ y ∈ sc.names, y.2 = .free → ∃ c, cl.lookup y.1 = some c) (hfp : ∀ b ∈ fp, FpOk X pins H b) (hD : s.heap.objs.size ≤ D) (hC : s.heap.objs.size ≤ C) (hDC : D ≠ C) (hfC : C ∉ fp)
    (keep : ∀ b u, s.heap.get? b = some u → h1.get? b = some u) (hns : h1.Ns C m) (hDo : h1.get? D = some { cls := .type "list", data := .seq ([] : List Value).toArray 0 }) :
    Inv (compCx X N sc cl C s H fp) [] (List.replicate k none ++ σ) (upd H D (.lst [])) { s with heap := h1, toks := t } := by
  unfold scOk at hsc
  rw [Bool.and_eq_true, List.all_eq_true] at hsc
  obtain ⟨hk, hall⟩ := hsc
  have hkind : sc.kind = .function := by simpa using hk
  obtain ⟨hlen, hat⟩ := nmOk_at hnm
  have hcell : ∀ y ∈ sc.names, y.2 ≠ .cell := fun y hy e => by have := hall y hy; rw [e] at this; cases this
  have frees : ∀ x k', (relabel sc X.env).names.lookup x = some k' → k' = .cell ∨ k' = .free → sc.names.lookup x = some .free := fun x k' h hk' => by
    obtain ⟨k0, h0, hk0⟩ := relabel_look h
    rcases hk0 with e | ⟨e, _⟩
    · subst e
      rcases hk' with e | e
      · subst e; exact absurd rfl (hcell _ (mem_of_look h0))
      · subst e; exact h0
    · subst e; exact h0
  have hHD : H D = none := I.hok.fresh hD
  have hHC : H C = none := I.hok.fresh hC
  refine ⟨⟨I.mod, hkind, I.ok.glob, I.ok.blt, hC, fun x y c e1 e2 => I.ok.inj x y c (hc1 x c e1) (hc1 y c e2), fun x hx => ?_, fun x c e => (nomatch e), I.ok.hd, I.ok.frames, .inl rfl, fun b hb => ⟨fun (e : b = C) => hfC (e ▸ hb), fun x c e => (hfp b hb).2.2.2.2.1 x c (hc1 x c e)⟩,
    I.bs, Nat.le_trans I.ok.bsz I.sz, fun b o e hb => ?_, fun b hb hb' => ?_, I.stack, I.stkFree⟩, rfl, I.bare, Un.laid keep hD hHD, ⟨m, hns, fun i x v e1 e2 e3 => ?_⟩, fun x c e => ?_, ?_, fun x c e => ?_, fun p hp => (nomatch hp), I.hok.laid keep hD ?_, ?_⟩
  · have h : ∃ k', (relabel sc X.env).names.lookup x = some k' ∧ (k' = .cell ∨ k' = .free) := by
      rcases hx with e | e
      · exact ⟨_, e, .inl rfl⟩
      · exact ⟨_, e, .inr rfl⟩
    obtain ⟨k', h1', h2'⟩ := h
    exact hc2 _ (mem_of_look (frees x k' h1' h2')) rfl
  · have hb' : b ∈ fp := hb
    rcases (hfp b hb').2.2.2.1 with z | z
    · exact I.ok.noex b o e z
    · exact absurd (Nat.lt_of_lt_of_le (Heap.lt_size e) (Nat.le_trans I.ok.bsz z)) (Nat.lt_irrefl _)
  · have hb0 : b ∈ frs X.stack := hb'
    rcases List.mem_cons.mp (I.stkSub b hb0) with z | z
    · exact (hfp b hb).2.1 z
    · exact (hfp b hb).2.2.1 z
  · -- a name that is seen
    have hik : k ≤ i := by
      rcases Nat.lt_or_ge i k with z | z
      · rw [List.getElem?_append_left (by simpa using z), List.getElem?_replicate] at e2
        split at e2 <;> cases e2
      · exact z
    rw [List.getElem?_append_right (by simpa using hik), List.length_replicate] at e2
    have e1' : (N.drop k)[i - k]? = some x := by
      rw [List.getElem?_drop, show k + (i - k) = i by omega]; exact e1
    have vis : sc.names.lookup x = some .free → ∃ k', (relabel sc X.env).names.lookup x = some k' ∧ (k' = .cell ∨ k' = .free) := fun h0 => by
      have e3' : Vis (relabel sc X.env) x := e3
      rcases e3' with z | z | z
      · obtain ⟨k0, h1', h2'⟩ := relabel_look z
        rw [h0] at h1'; cases h1'
        rcases h2' with q | ⟨_, q⟩ <;> cases q
      · exact ⟨_, z, .inl rfl⟩
      · exact ⟨_, z, .inr rfl⟩
    have no : ∀ k0, sc.names.lookup x = some k0 → ∃ k', (relabel sc X.env).names.lookup x = some k' → True := fun _ _ => ⟨.local, fun _ => trivial⟩
    rcases hat _ x e1' with ⟨hX, h0⟩ | h0 | h0
    · obtain ⟨k', hk1, hk2⟩ := vis h0
      have hf := hall _ (mem_of_look h0)
      have hf' : X.env.kindOf x = some .cell ∨ X.env.kindOf x = some .free := by
        simpa using hf
      obtain ⟨mX, hnX, hlX⟩ := I.loc
      have visX : Vis X.env.scope x := hf'.elim (fun z => .inr (.inl z)) fun z => .inr (.inr z)
      obtain ⟨u, r, l⟩ := hlX _ x v hX e2 visX
      refine ⟨u, r, .inr ⟨?_, ?_⟩⟩
      · rcases hk2 with z | z
        · subst z; exact .inl hk1
        · subst z; exact .inr hk1
      · obtain ⟨c, hc⟩ := hc2 _ (mem_of_look h0) rfl
        refine ⟨c, hc, ?_⟩
        rcases l with ⟨z, _⟩ | ⟨_, c', hc', hcell'⟩
        · rcases hf' with q | q <;> (rw [z] at q; cases q)
        · have := hc1 x c hc
          rw [hc'] at this; cases this
          exact hcell'.keeps keep
    · have e3' : Vis (relabel sc X.env) x := e3
      rcases e3' with z | z | z <;> (obtain ⟨k0, z1, _⟩ := relabel_look z; rw [h0] at z1; cases z1)
    · have e3' : Vis (relabel sc X.env) x := e3
      rcases e3' with z | z | z <;> (obtain ⟨k0, z1, z2⟩ := relabel_look z; rw [h0] at z1; cases z1; rcases z2 with q | ⟨q, _⟩ <;> cases q)
  · obtain ⟨v, z⟩ := I.cell x c (hc1 x c e)
    exact ⟨v, z.keeps keep⟩
  · show upd H D (.lst []) C = none
    rw [upd_ne (Ne.symm hDC)]; exact hHC
  · obtain ⟨v, z⟩ := I.cell x c (hc1 x c e)
    rw [upd_ne (Nat.ne_of_lt (Nat.lt_of_lt_of_le z.lt hD))]
    exact I.freeC x c (hc1 x c e)
  · exact ⟨Nat.zero_le _, [], 0, .nil, hDo⟩
  · show (List.replicate k none ++ σ).length = N.length
    rw [List.length_append, List.length_replicate, I.len, ← hlen, List.length_drop]
    omega

/-- the tests of a comprehension -/
def PIfs (X : Cx) (ifs : List Expr) (t : TT) : Prop :=
  ∀ (pins : List (Addr × Obj)) (s : Shared) (σ : St) (H : Hp) (Q : Bool → Hp → Prop), Inv X pins σ H s → t σ H Q →
    wpAny (model X.prog X.w) X.A (forIn ifs true fun c r => if r = true then (do let ok ← isTrue c X.env (eval c X.env); pure (ForInStep.yield ok)) else pure (ForInStep.yield r)) (TP X pins σ Q) X.xe s
theorem pifs_nil : PIfs X [] (fun σ H Q => Q true H) := fun pins s σ H Q I q => wpAny_pure ⟨H, I, q⟩
theorem pifs_one {c : Expr} {t : TT} (h : PT X c t) : PIfs X [c] t := fun pins s σ H Q I q => by
  rw [List.forIn_cons, if_pos rfl]
  refine wpAny_bind (wpAny_bind (thn (h pins s σ H Q I q) fun b s1 q1 => wpAny_pure ?_))
  exact wpAny_pure q1
section
variable {prog : Program} {w : World} {A : Around} {R : Result → Shared → Prop}
theorem compLoop_by {elt target iter : Expr} {ifs : List Expr} {scope : Scope} {pos : Pos} {it acc : Value} {env : Env} {s : Shared} (I : Nat → Shared → Prop)
    (turn : ∀ n s, I n s → wpAny (model prog w) A (pyNext it) (fun r s₁ => match r with
      | none => R (.ok .next) s₁
      | some v => wpAny (model prog w) A (letOwnedTupleGo target it v) (fun _ s₀ => wpAny (model prog w) A (assign target env v) (fun _ s₂ =>
          wpAny (model prog w) A (forIn ifs true fun c r => if r = true then (do let ok ← isTrue c env (eval c env); pure (ForInStep.yield ok)) else pure (ForInStep.yield r)) (fun ok s₃ =>
            if ok = true then wpAny (model prog w) A (eval elt env) (fun x s₄ =>
              wpAny (model prog w) A (call (.builtin "list.append") [acc, x]) (fun _ s₅ => ∃ m, m < n ∧ I m s₅) (fun _ _ => False) s₄) (fun _ _ => False) s₃
            else ∃ m, m < n ∧ I m s₃) (fun _ _ => False) s₂) (fun _ _ => False) s₀) (fun _ _ => False) s₁) (fun _ _ => False) s)
    (n : Nat) (h : I n s) :
    codeAny (model prog w) A (.compLoop (.ListComp elt [⟨target, iter, ifs, 0⟩] scope pos) 0 it acc env) R s := by
  refine codeAny_loop rfl I (fun n s hI => ?_) n h
  show wpAny _ A ((compTurn (.ListComp elt [⟨target, iter, ifs, 0⟩] scope pos) 0 it acc env).onRaise (fun x => do noteFrame x env; theTreesLotGoes x)) _ _ s
  refine wpAny_noted ?_
  rw [compTurn_list]
  refine wpAny_bind (wpAny_standAt (wpAny_bind (wpAny_mono (turn n s hI) (fun r s₁ h₁ => ?_) fun _ _ h' => h'.elim)))
  cases r with
  | none => exact wpAny_pure h₁
  | some v =>
    refine wpAny_bind (wpAny_mono h₁ (fun _ s₀ h₀ => ?_) fun _ _ h' => h'.elim)
    refine wpAny_bind (wpAny_mono h₀ (fun _ s₂ h₂ => wpAny_bind (wpAny_mono h₂ (fun ok s₃ h₃ => ?_) fun _ _ h' => h'.elim)) fun _ _ h' => h'.elim)
    cases ok with
    | false => exact wpAny_pure ⟨rfl, h₃⟩
    | true =>
      rw [if_pos rfl] at h₃
      exact wpAny_bind (wpAny_bind (wpAny_mono h₃ (fun x s₄ h₄ => wpAny_bind (wpAny_mono h₄ (fun _ s₅ h₅ => wpAny_pure (wpAny_pure ⟨rfl, h₅⟩)) fun _ _ h' => h'.elim)) fun _ _ h' => h'.elim))
end
/-- the reading: W is what holds between the turns -/
def tComp (k : Nat) (wi : TI) (g : TG) (tc : TT) (te : TE) (σ : St) (H : Hp) (Q : VK) : Prop := wi σ H fun J H1 => ∀ D, H1 D = none → ∃ W : Nat → Nat → St → Hp → Prop,
  (∃ m, W 0 m (List.replicate k none ++ σ) (upd H1 D (.lst []))) ∧ ∀ i m σ' H', W i m σ' H' → (J.stop i H' ∧ Q (.ref D) H') ∨ (J.go i H' ∧ ∀ x H2, J.yld i H' x H2 → g x σ' H2 fun σ3 H3 => tc σ3 H3 fun b H4 =>
    if b = true then te σ3 H4 fun y H5 => ∃ ys, H5 D = some (.lst ys) ∧ ys.length < sizeLine ∧ ∃ m', m' < m ∧ W (i + 1) m' σ3 (upd H5 D (.lst (ys ++ [y]))) else ∃ m', m' < m ∧ W (i + 1) m' σ3 H4)
theorem comp_core {elt tg iter : Expr} {ifs : List Expr} {sc : Scope} {pos pos' : Pos} {N : List Str} {k : Nat} {wi : TI} {g : TG} {tc : TT} {te : TE} {use : Option (Value → Sem Unit)} {QQ : Value → Shared → Prop} {Q : VK} (hcalm : X.calm = true) (hi : PI X tg iter wi) (hsc : scOk X.env sc = true)
    (hnm : nmOk sc (N.drop k) X.N = true) (hNl : k ≤ N.length) (hin : ∀ cl C s H fp, PG (compCx X N sc cl C s H fp) tg g ∧ PIfs (compCx X N sc cl C s H fp) ifs tc ∧ PE (compCx X N sc cl C s H fp) elt te)
    (hs : ∀ x, foldedSetIterable iter X.env x = pure x) (I : Inv X pins σ H s) (h : tComp k wi g tc te σ H Q)
    (hq : ∀ s' H' D C m, Inv X pins σ H' s' → Q (.ref D) H' → s'.heap.Ns C m → FpOk X pins H' C → compPost (model X.prog X.w) X.A X.xe use QQ (.ref D) C (.ok .next) s') :
    wpAny (model X.prog X.w) X.A (comprehension (.ListComp elt [⟨tg, iter, ifs, 0⟩] sc pos) sc X.env pos' (newList []) false (eval iter X.env) use) QQ X.xe s := by
  have hsc' := hsc
  unfold scOk at hsc'
  rw [Bool.and_eq_true, List.all_eq_true] at hsc'
  obtain ⟨hk, hall⟩ := hsc'
  have hkind : sc.kind = .function := by simpa using hk
  have hcell : ∀ y ∈ sc.names, y.2 ≠ .cell := fun y hy e => by have := hall y hy; rw [e] at this; cases this
  have hnames : ∀ y ∈ sc.names, y.2 = .local → sc.names.lookup y.1 = some .local := fun y hy e => by
    have := hall y hy
    rw [e] at this
    simpa using this
  obtain ⟨cl, hcl, hc1, hc2⟩ := clos_ok (sc := sc) (env := X.env) fun y hy e => I.ok.has y.1 (by
    have := hall y hy
    rw [e] at this
    simpa using this)
  refine wpAny_comprehension_free (use := use) rfl hs hcl hkind hnames (thn (hi pins s σ H _ I h) fun v s1 h1 => thn h1 fun itv s2 h2 => ?_)
  obtain ⟨it, fp, tn, J, H2, e, I2, T, st2, f2, hW⟩ := h2
  subst e
  refine wpAny_newObj_type (wpAny_newFunctionEnv hcell (by intro y hy; simp at hy) (fun h₁ hns₁ hsb₁ => ?_) hkind)
  dsimp only at hns₁ hsb₁ ⊢
  generalize hP : s2.heap.push { cls := .type "list", dict := none, data := .seq ([] : List Value).toArray } = P at hns₁ hsb₁ ⊢
  have hCs : P.objs.size = s2.heap.objs.size + 1 := by rw [← hP, Heap.size_push]
  have old : ∀ b o, s2.heap.get? b = some o → h₁.get? b = some o := fun b o e =>
    hsb₁.extBut b o (by rw [hCs]; exact Nat.ne_of_lt (Nat.lt_succ_of_lt (Heap.lt_size e))) (Heap.get?_push_of_some _ (hP ▸ Heap.get?_push_of_some _ e))
  have hDC : s2.heap.objs.size ≠ P.objs.size := by rw [hCs]; exact Nat.ne_of_lt (Nat.lt_succ_self _)
  have hDo : h₁.get? s2.heap.objs.size = some { cls := .type "list", data := .seq ([] : List Value).toArray 0 } := hsb₁.extBut _ _ hDC (Heap.get?_push_of_some _ (hP ▸ Heap.get?_push_size _ rfl))
  have hCle : s2.heap.objs.size ≤ P.objs.size := by rw [hCs]; exact Nat.le_succ _
  have lt_fp : ∀ b ∈ fp, b < s2.heap.objs.size := fun b hb => let ⟨o, ho, _⟩ := T.obj 0 _ st2 b hb; Heap.lt_size ho
  have hfC : P.objs.size ∉ fp := fun hb => absurd (Nat.lt_of_lt_of_le (lt_fp _ hb) hCle) (Nat.lt_irrefl _)
  have IY := I2.block (N := N) (sc := sc) (cl := cl) (C := P.objs.size) (D := s2.heap.objs.size) (fp := fp) (k := k) (t := s2.toks + ([] : List (Str × Value)).length) hsc hnm hNl hc1 hc2 f2 (Nat.le_refl _) hCle hDC hfC old hns₁ hDo
  obtain ⟨hG, hT, hE⟩ := hin cl P.objs.size s2 H2 fp
  generalize hY : compCx X N sc cl P.objs.size s2 H2 fp = Y at IY hG hT hE
  have hYm : Y.prog = X.prog ∧ Y.w = X.w ∧ Y.K = X.K ∧ Y.A = X.A ∧ Y.env = compEnvC sc cl P.objs.size X.env ∧ Y.calm = X.calm ∧ (Y.xe = fun _ _ => False) := by rw [← hY]; exact ⟨rfl, rfl, rfl, rfl, rfl, rfl, rfl⟩
  obtain ⟨y1, y2, y3, y4, y5, y6, y7⟩ := hYm
  have stat : ∀ {H' : Hp}, (∀ b ∈ fp, H' b = none) → ∀ b ∈ fp, FpOk Y [] H' b := fun {H'} hn b hb => by
    rw [← hY]
    refine ⟨hn b hb, fun (e : b = P.objs.size) => hfC (e ▸ hb), fun hb' => ?_, .inl hb, fun x c e => (f2 b hb).2.2.2.2.1 x c (hc1 x c e), fun p hp => (nomatch hp)⟩
    rcases List.mem_cons.mp (I2.stkSub b hb') with z | z
    · exact (f2 b hb).2.1 z
    · exact (f2 b hb).2.2.1 z
  obtain ⟨W, ⟨m0, w0⟩, turn⟩ := hW s2.heap.objs.size (I2.hok.fresh (Nat.le_refl _))
  have hfp0 : ∀ b ∈ fp, upd H2 s2.heap.objs.size (.lst []) b = none := fun b hb => by rw [upd_ne (Nat.ne_of_lt (lt_fp b hb))]; exact (f2 b hb).1
  have st3 : tn 0 h₁ := T.keep _ _ _ st2 fun b _ o e => old b o e
  have loop : codeAny (model X.prog X.w) X.A (.compLoop (.ListComp elt [⟨tg, iter, ifs, 0⟩] sc pos) 0 (.ref it) (.ref s2.heap.objs.size) (compEnvC sc cl P.objs.size X.env)) (compPost (model X.prog X.w) X.A X.xe use QQ (.ref s2.heap.objs.size) P.objs.size)
      { s2 with heap := h₁, toks := s2.toks + ([] : List (Str × Value)).length } := by
    refine compLoop_by (fun n s' => ∃ i σ' H', Inv Y [] σ' H' s' ∧ tn i s'.heap ∧ (∀ b ∈ fp, H' b = none) ∧ W i n σ' H') ?_ m0 ⟨0, _, _, IY, st3, hfp0, w0⟩
    rintro n s3 ⟨i, σ3, H3, I3, st3, fr3, w3⟩
    rcases turn i n σ3 H3 w3 with ⟨stop, qn⟩ | ⟨go, step⟩
    · have q := T.done Y y1 y2 y3 (y6.trans hcalm) i [] s3 σ3 H3 (fun _ _ => False) I3 (stat fr3) st3 stop
      rw [y4] at q
      refine thn q fun r s4 ⟨hr, I4⟩ => ?_
      subst hr
      have IX : Inv X pins σ H3 s4 := by
        have b4 := I4.base
        have o4 := I4.os
        have k4 := I4.hok
        rw [← hY] at b4 o4 k4
        refine I2.call' (ch := fp) o4 b4 k4 I4.bare fun b hb => ?_
        exact ⟨(f2 b hb).2.2.2.1, (f2 b hb).2.1, (f2 b hb).2.2.2.2.1, (f2 b hb).2.2.2.2.2⟩
      obtain ⟨mC, hmC, _⟩ := I4.loc
      have f4 := I4.free
      rw [y5] at hmC f4
      exact hq s4 H3 _ P.objs.size mC IX qn hmC (I2.fpOk hCle f4)
    · have q := T.item Y y1 y2 y3 (y6.trans hcalm) i [] s3 σ3 H3 (fun _ _ => False) I3 (stat fr3) st3 go
      rw [y4] at q
      refine thn q fun r s4 ⟨u, hr, h4⟩ => ?_
      subst hr
      refine thn h4 fun _ s5 ⟨x, H5, I5, r5, yl5, st5, fr5⟩ => ?_
      have I5' := I5.pinned (stat fr5) (T.obj _ _ st5)
      have again : ∀ {σ7 : St} {H7 : Hp} {s7 : Shared} {m : Nat}, Inv Y ([] ++ pinsAt fp s5.heap) σ7 H7 s7 → W (i + 1) m σ7 H7 → ∃ i σ' H', Inv Y [] σ' H' s7 ∧ tn i s7.heap ∧ (∀ b ∈ fp, H' b = none) ∧ W i m σ' H' := fun {σ7 H7 s7 m} I7 w7 => by
        refine ⟨i + 1, σ7, H7, I7.unpinned, T.keep _ _ _ st5 fun b hb o e => (I7.pin (b, o) (List.mem_append_right _ (List.mem_append_right _ (mem_pinsAt hb e)))).1, fun b hb => ?_, w7⟩
        obtain ⟨o, e, d⟩ := T.obj _ _ st5 b hb
        exact (I7.pin (b, o) (List.mem_append_right _ (List.mem_append_right _ (mem_pinsAt hb e)))).2.1
      have qa := hG _ s5 σ3 H5 x u _ I5' r5 (step x H5 yl5)
      rw [y1, y2, y4, y5, y7] at qa
      refine thn qa fun _ s6 ⟨σ6, H6, I6, q6⟩ => ?_
      have qt := hT _ s6 σ6 H6 _ I6 q6
      rw [y1, y2, y4, y5, y7] at qt
      refine thn qt fun b s7 ⟨H7, I7, q7⟩ => ?_
      cases b with
      | false =>
        rw [if_neg Bool.false_ne_true] at q7 ⊢
        obtain ⟨m', hm, w7⟩ := q7
        exact ⟨m', hm, again I7 w7⟩
      | true =>
        rw [if_pos rfl] at q7 ⊢
        have qe := hE _ s7 σ6 H7 _ I7 q7
        rw [y1, y2, y4, y5, y7] at qe
        refine thn qe fun yv s8 ⟨y, H8, I8, r8, ys, hD8, hl8, m', hm, w8⟩ => ?_
        have qp := mt_append (X := Y) _ s8 σ6 H8 (.ref s2.heap.objs.size) [y] (.ref s2.heap.objs.size) [yv] (fun _ H9 => W (i + 1) m' σ6 H9) I8 rfl (.cons r8 .nil) ⟨_, ys, y, rfl, rfl, hD8, hl8, w8⟩
        rw [y1, y2, y4, y7] at qp
        refine thn qp fun _ s9 ⟨_, H9, I9, _, w9⟩ => ?_
        exact ⟨m', hm, again I9 w9⟩
  exact codeAny_compStart_list loop (T.self _ 0 _ _ _ st3 loop)
theorem pe_comp {elt tg iter : Expr} {ifs : List Expr} {sc : Scope} {pos : Pos} {N : List Str} {k : Nat} {wi : TI} {g : TG} {tc : TT} {te : TE} (hcalm : X.calm = true) (hi : PI X tg iter wi) (hsc : scOk X.env sc = true)
    (hnm : nmOk sc (N.drop k) X.N = true) (hNl : k ≤ N.length) (hin : ∀ cl C s H fp, PG (compCx X N sc cl C s H fp) tg g ∧ PIfs (compCx X N sc cl C s H fp) ifs tc ∧ PE (compCx X N sc cl C s H fp) elt te)
    (hs : ∀ x, foldedSetIterable iter X.env x = pure x := by intro _; rfl) : PE X (.ListComp elt [⟨tg, iter, ifs, 0⟩] sc pos) (tComp k wi g tc te) := by
  intro pins s σ H Q I h
  rw [eval_ListComp]
  refine comp_core (use := none) hcalm hi hsc hnm hNl hin hs I h fun s' H' D C m I' q hn f => ⟨m, hn, fun h' hs' => ?_⟩
  exact ⟨.ref D, H', I'.turned (it := C) (t' := s'.toks) (fun b o hb e => hs'.extBut b o hb e) f.1 f.2.1 f.2.2.2.1 f.2.2.2.2.1 f.2.2.2.2.2, rfl, q⟩
theorem ps_setComp {elt tg iter : Expr} {ifs : List Expr} {sc : Scope} {pos pos' spos : Pos} {N : List Str} {k i : Nat} {x : Str} {wi : TI} {g : TG} {tc : TT} {te : TE} (hN : X.N.Nodup) (hiN : X.N[i]? = some x) (hx : Loc X.env.scope x) (hcalm : X.calm = true) (hi : PI X tg iter wi) (hsc : scOk X.env sc = true)
    (hnm : nmOk sc (N.drop k) X.N = true) (hNl : k ≤ N.length) (hin : ∀ cl C s H fp, PG (compCx X N sc cl C s H fp) tg g ∧ PIfs (compCx X N sc cl C s H fp) ifs tc ∧ PE (compCx X N sc cl C s H fp) elt te)
    (hsw : swapsWith (.ListComp elt [⟨tg, iter, ifs, 0⟩] sc pos) (some (.Name x pos')) spos.line X.env = pure true)
    (hf : X.fn x = true ∨ X.env.scope.names.lookup x = some .local) (hs : ∀ x, foldedSetIterable iter X.env x = pure x := by intro _; rfl) :
    PS X (.Assign [.Name x pos'] (.ListComp elt [⟨tg, iter, ifs, 0⟩] sc pos) spos) (fun D σ H => tComp k wi g tc te σ H fun v H1 => D.nx (σ.set i (some v)) H1) := by
  intro pins s σ H D I h
  rw [exec_Assign_Name_used _ _ _ _ hsw]
  refine wpAny_bind (wpAny_standAt (wpAny_bind ?_))
  show wpAny _ X.A (do let _ ← comprehension (.ListComp elt [⟨tg, iter, ifs, 0⟩] sc pos) sc X.env _ (newList []) false (eval iter X.env) (some (assign (.Name x pos') X.env))) _ _ s
  refine wpAny_bind (wpAny_mono (comp_core (use := some (assign (.Name x pos') X.env)) (QQ := fun _ s' => SP X pins D .next s') hcalm hi hsc hnm hNl hin hs I h fun s' H' D' C m I' q hn f => ?_) (fun _ s' hq => wpAny_pure (wpAny_pure hq)) fun _ _ e => e)
  show wpAny _ X.A (assign (.Name x pos') X.env (.ref D')) _ _ _
  refine wpAny_assign_Name (store_ok2 I' hN hiN hx (v := .ref D') rfl (fun s2 I2 ⟨a, hsb, ha⟩ => ?_) hf)
  have hCa : C ≠ a := fun e => by
    rcases ha with z | z
    · exact f.2.1 (e.trans z)
    · exact f.2.2.2.2.1 x a z e.symm
  refine ⟨m, hn.sameBut hsb hCa, fun h' hs' => ⟨_, H', ?_, q⟩⟩
  exact I2.turned (it := C) (t' := s2.toks) (fun b o hb e => hs'.extBut b o hb e) f.1 f.2.1 f.2.2.2.1 f.2.2.2.2.1 f.2.2.2.2.2
end
end L2

set_option Elab.async false
set_option linter.all false
set_option maxRecDepth 100000
set_option maxHeartbeats 1000000
namespace VS
open PySem PySem.Spec PyProof.Rows L2

/-- the target names the block's own slots alone -/
def TgIn (k : Nat) (g : Tg) : Prop := ∀ t η η', g t η = some η' → η'.length = η.length ∧ ∀ i, k ≤ i → η'[i]? = η[i]?
theorem tin_var {k i : Nat} (h : i < k) : TgIn k (gVar i) := fun t η η' e => by
  unfold gVar at e
  split at e
  · cases e
    exact ⟨by simp, fun j hj => by rw [List.getElem?_set_ne (by omega)]⟩
  · cases e
theorem tin_all {k : Nat} : ∀ {gs : List Tg}, (∀ g ∈ gs, TgIn k g) → ∀ ts η η', gAll gs ts η = some η' → η'.length = η.length ∧ ∀ i, k ≤ i → η'[i]? = η[i]?
  | [], _, [], η, η', e => by cases (show some η = some η' from e); exact ⟨rfl, fun _ _ => rfl⟩
  | [], _, _ :: _, η, η', e => by simp [gAll] at e
  | _ :: _, _, [], η, η', e => by simp [gAll] at e
  | g :: gs, h, t :: ts, η, η', e => by
    obtain ⟨η1, e1, e2⟩ := Option.bind_eq_some_iff.mp (show (g t η).bind (fun η' => gAll gs ts η') = some η' from e)
    obtain ⟨a1, a2⟩ := h g List.mem_cons_self t η η1 e1
    obtain ⟨b1, b2⟩ := tin_all (fun g' hg => h g' (List.mem_cons_of_mem _ hg)) ts η1 η' e2
    exact ⟨b1.trans a1, fun i hi => (b2 i hi).trans (a2 i hi)⟩
theorem tin_tup2 {k : Nat} {g1 g2 : Tg} (h1 : TgIn k g1) (h2 : TgIn k g2) : TgIn k (gTup [g1, g2]) := fun t η η' e => by
  unfold gTup at e
  split at e
  · refine tin_all (fun g hg => ?_) _ η η' e
    rcases List.mem_cons.mp hg with rfl | hg
    · exact h1
    · rw [List.mem_singleton.mp hg]; exact h2
  · cases e
theorem tin_tup3 {k : Nat} {g1 g2 g3 : Tg} (h1 : TgIn k g1) (h2 : TgIn k g2) (h3 : TgIn k g3) : TgIn k (gTup [g1, g2, g3]) := fun t η η' e => by
  unfold gTup at e
  split at e
  · refine tin_all (fun g hg => ?_) _ η η' e
    rcases List.mem_cons.mp hg with rfl | hg
    · exact h1
    · rcases List.mem_cons.mp hg with rfl | hg
      · exact h2
      · rw [List.mem_singleton.mp hg]; exact h3
  · cases e
theorem imms_at : ∀ (l : List T) {i : Nat} {t : T}, imms l = true → l[i]? = some t → imm t = true
  | [], _, _, _, h => by simp at h
  | x :: l, 0, t, h, e => by
    simp only [imms, Bool.and_eq_true] at h
    simp at e; rw [← e]; exact h.1
  | x :: l, i + 1, t, h, e => by
    simp only [imms, Bool.and_eq_true] at h
    exact imms_at l h.2 (by simpa using e)
/-- the test of a comprehension, if there is one -/
def tC (G : Gx) : Option Ex → TT
  | none => fun σ H Q => Q true H
  | some c => tT G c
section
variable {G : Gx} {Φ : Fps} {η : VS.Env} {σ : L2.St} {H : Hp} {k : Nat}
theorem sh_at {i : Nat} {c : Cell} : (List.replicate k none ++ η)[i]? = some (some c) ↔ k ≤ i ∧ η[i - k]? = some (some c) := by
  rcases Nat.lt_or_ge i k with h | h
  · rw [List.getElem?_append_left (by simpa using h), List.getElem?_replicate]
    constructor
    · intro e; split at e <;> cases e
    · intro ⟨e, _⟩; omega
  · rw [List.getElem?_append_right (by simpa using h), List.length_replicate]
    exact ⟨fun e => ⟨h, e⟩, fun e => e.2⟩
theorem sh_ow {a : Addr} : InOw (fun i => Φ (i - k)) (List.replicate k none ++ η) a ↔ InOw Φ η a := by
  constructor
  · rintro ⟨j, t, h1, h2⟩
    exact ⟨j - k, t, (sh_at.mp h1).2, h2⟩
  · rintro ⟨j, t, h1, h2⟩
    refine ⟨j + k, t, sh_at.mpr ⟨Nat.le_add_left _ _, by rw [Nat.add_sub_cancel]; exact h1⟩, ?_⟩
    show a ∈ Φ (j + k - k)
    rw [Nat.add_sub_cancel]; exact h2
theorem sh_pu {a : Addr} : InPu (fun i => Φ (i - k)) (List.replicate k none ++ η) a ↔ InPu Φ η a := by
  constructor
  · rintro ⟨j, t, h1, h2⟩
    exact ⟨j - k, t, (sh_at.mp h1).2, h2⟩
  · rintro ⟨j, t, h1, h2⟩
    refine ⟨j + k, t, sh_at.mpr ⟨Nat.le_add_left _ _, by rw [Nat.add_sub_cancel]; exact h1⟩, ?_⟩
    show a ∈ Φ (j + k - k)
    rw [Nat.add_sub_cancel]; exact h2
theorem SR.sh (s : SR G Φ η σ H) : SR G (fun i => Φ (i - k)) (List.replicate k none ++ η) (List.replicate k none ++ σ) H := by
  refine ⟨by simp [s.len], fun i c h => ?_, fun i t h => ?_, fun i j t c h1 h2 n => ?_⟩
  · obtain ⟨h1, h2⟩ := sh_at.mp h
    obtain ⟨v, g1, g2⟩ := s.rp _ c h2
    refine ⟨v, ?_, g2⟩
    rw [List.getElem?_append_right (by simpa using h1), List.length_replicate]
    exact g1
  · exact s.nd _ t (sh_at.mp h).2
  · obtain ⟨a1, a2⟩ := sh_at.mp h1
    obtain ⟨b1, b2⟩ := sh_at.mp h2
    exact s.sep _ _ t c a2 b2 (by omega)
/-- fewer names -/
theorem SR.less {η' : VS.Env} (s : SR G Φ η' σ H) (hl : η.length = η'.length) (h : ∀ (i : Nat) c, η[i]? = some (some c) → η'[i]? = some (some c)) : SR G Φ η σ H :=
  ⟨hl.trans s.len, fun i c e => s.rp i c (h i c e), fun i t e => s.nd i t (h i _ e), fun i j t c e1 e2 n => s.sep i j t c (h i _ e1) (h j _ e2) n⟩
/-- a change at D, which no name reaches -/
theorem SR.off {D : Addr} {o : HO} (s : SR G Φ η σ H) (m : Mut (H D) ∨ H D = none) (n1 : ¬ InPu Φ η D) (n2 : ¬ InOw Φ η D) : SR G Φ η σ (upd H D o) := by
  refine ⟨s.len, fun i c e => ?_, s.nd, s.sep⟩
  obtain ⟨v, g1, g2⟩ := s.rp i c e
  refine ⟨v, g1, g2.keep (Kept.upd m) fun b hb o' ho => ?_⟩
  rw [upd_ne fun z => ?_]
  · exact ho
  · subst z
    cases c with
    | pu t => exact n1 ⟨i, t, e, hb⟩
    | ow t => exact n2 ⟨i, t, e, hb⟩
theorem joins_snoc : ∀ (l : List Val) (v : Val), joins (l ++ [v]) = (joins l).join v.1
  | [], (m, t) => by cases m <;> rfl
  | (m, t) :: l, v => by
    show m.join (joins (l ++ [v])) = (m.join (joins l)).join v.1
    rw [joins_snoc l v]
    generalize joins l = q
    generalize v.1 = r
    cases m <;> cases q <;> cases r <;> rfl
theorem Fp.join2 {m n : Md} {F F' : List Addr} (f : Fp Φ η H m F) (g : Fp Φ η H n F') (d : n = .fr → ∀ a ∈ F, a ∉ F') : Fp Φ η H (m.join n) (F ++ F') := by
  have both : ∀ {P : Addr → Prop}, (∀ a ∈ F, P a) → (∀ a ∈ F', P a) → ∀ a ∈ F ++ F', P a := fun p q a h => (List.mem_append.mp h).elim (p a) (q a)
  cases m <;> cases n
  · exact ⟨List.nodup_append.mpr ⟨f.1, g.1, fun a ha b hb e => d rfl a ha (e ▸ hb)⟩, both f.2 g.2⟩
  · exact both (fun a ha => .inl (f.2 a ha)) g
  · exact both (fun a ha => .inl (f.2 a ha)) g
  · exact both f fun a ha => .inl (g.2 a ha)
  · exact both f g
  · exact both (fun a ha => (f a ha).imp id .inl) g
  · exact both f fun a ha => .inl (g.2 a ha)
  · exact both f fun a ha => (g a ha).imp id .inl
  · exact both f g
theorem Fp.cons1 {m : Md} {F : List Addr} {D : Addr} (f : Fp Φ η H m F) (h : H D = none) (d : D ∉ F) : Fp Φ η H m (D :: F) := by
  have all : ∀ {P : Addr → Prop}, P D → (∀ a ∈ F, P a) → ∀ a ∈ D :: F, P a := fun p q a ha => (List.mem_cons.mp ha).elim (fun e => e ▸ p) (q a)
  cases m
  · exact ⟨List.nodup_cons.mpr ⟨d, f.1⟩, all h f.2⟩
  · exact all (.inl h) f
  · exact all (.inl h) f
end
section
variable {G : Gx} {k : Nat} {tg : Tg} {ci : Its} {cond : Option Ex} {ce : Ex}
theorem comp_of {σ : L2.St} {H : Hp} {Q : VK} (hin : TgIn k tg) (h : tE G (eComp k tg ci cond ce) σ H Q) : tComp k (tI G ci) (tG G tg) (tC G cond) (tE G ce) σ H Q := by
  obtain ⟨Φ, η, m, r, s, e, kq⟩ := h
  unfold eComp at e
  obtain ⟨⟨mi, l⟩, el, e1⟩ := Option.bind_eq_some_iff.mp e
  dsimp only at e1
  split at e1
  · rename_i hok
    obtain ⟨all, ea, e2⟩ := Option.bind_eq_some_iff.mp e1
    unfold mkL at e2
    split at e2
    · rename_i hlen
      cases e2
      refine ⟨Φ, η, mi, l, s, el, fun J H1 C e3 ok fc D hD => ?_⟩
      have hHD : H D = none := e3.free hD
      let η0 : VS.Env := List.replicate k none ++ η
      have good : ∀ {t : T} {i : Nat} {H' H2 : Hp} {v : V} {F : List Addr}, l[i]? = some t → Rp G H2 v t F → (∀ a, H1 a ≠ none → H' a ≠ none) → (∀ a ∈ F, a ∈ C ∨ H' a = none) → ∀ a ∈ F, (H a = none ∨ InPu Φ η a) ∧ ¬ InOw Φ η a := fun {t i H' H2 v F} hi rF keep hF a ha => by
        have dom : ∀ {b}, H b ≠ none → H' b ≠ none := fun {b} hb => keep b fun z => hb (e3.free z)
        rcases hF a ha with z | z
        · rcases fc a z with q | q | ⟨q, w⟩
          · exact ⟨.inl q, fun w => Mut.ne_none (s.ow_dom w) q⟩
          · exact ⟨.inr q, fun w => s.ow_pu w q⟩
          · subst q
            have : imm t = true := by
              exact imms_at l hok hi
            rw [rF.imm this] at ha
            simp at ha
        · have hz : H a = none := Classical.byContradiction fun q => dom q z
          exact ⟨.inl hz, fun w => Mut.ne_none (s.ow_dom w) hz⟩
      refine ⟨fun i n σ' H' => n = l.length - i ∧ ∃ Φ1 vs Fs xs rest, SR G Φ1 η0 σ' H' ∧ (∀ a, InOw Φ1 η0 a → InOw Φ η a) ∧ (∀ a, InPu Φ1 η0 a → H a = none ∨ InPu Φ η a) ∧ ¬ InPu Φ1 η0 D ∧ ¬ InOw Φ1 η0 D ∧ Kept H1 H' ∧
          (∀ a o, a ≠ D → H1 a = some o → H' a = some o) ∧ H' D = some (.lst xs) ∧ RpL G H' xs (trees vs) Fs ∧ D ∉ Fs.flatten ∧ Fp Φ η H (joins vs) Fs.flatten ∧ compL tg cond ce η0 (l.drop i) = some rest ∧ vs ++ rest = all, ?_, ?_⟩
      · refine ⟨l.length - 0, rfl, fun i => Φ (i - k), [], [], [], all, ?_, fun a h => sh_ow.mp h, fun a h => .inr (sh_pu.mp h), fun h => ?_, fun h => ?_, Kept.upd (.inr hD), fun a o n h => by rw [upd_ne n]; exact h, upd_same, .nil, by simp, Fp.nil, by rw [List.drop_zero]; exact ea, rfl⟩
        · exact ((s.same e3).sh).off (.inr hD) (fun h => Mut.ne_none (s.pu_dom (sh_pu.mp h)) hHD) fun h => Mut.ne_none (s.ow_dom (sh_ow.mp h)) hHD
        · exact Mut.ne_none (s.pu_dom (sh_pu.mp h)) hHD
        · exact Mut.ne_none (s.ow_dom (sh_ow.mp h)) hHD
      · rintro i n σ' H' ⟨rfl, Φ1, vs, Fs, xs, rest, s1, ow1, pu1, np1, no1, kp, old, hD', rp, nD, fp, er, ev⟩
        have keepdom : ∀ a, H1 a ≠ none → H' a ≠ none := fun a ha z => by
          by_cases q : a = D
          · subst q; rw [hD'] at z; cases z
          · cases e : H1 a with
            | none => exact ha e
            | some o => rw [old a o q e] at z; cases z
        obtain ⟨go, stop⟩ := ok.run H' kp fun a ha o ho => old a o (fun z => ok.dom a ha (z ▸ hD)) ho
        cases hit : l[i]? with
        | none =>
          have hl : l.length ≤ i := List.getElem?_eq_none_iff.mp hit
          left
          refine ⟨stop i hl, ?_⟩
          rw [List.drop_of_length_le hl] at er
          cases (show some ([] : List Val) = some rest from er)
          rw [List.append_nil] at ev
          subst ev
          refine kq (.ref D) H' (D :: Fs.flatten) (fun a o h => old a o (fun z => by rw [z, hHD] at h; cases h) (e3 a o h)) (.lst hD' rp) ?_
          by_cases hi : imms (trees vs) = true
          · rw [if_pos hi, rp.imm hi]
            exact ⟨by simp, fun a ha => by rw [List.mem_singleton.mp ha]; exact hHD⟩
          · rw [if_neg hi]
            exact fp.cons1 hHD nD
        | some t =>
          have hl : i < l.length := (List.getElem?_eq_some_iff.mp hit).1
          right
          obtain ⟨g1, y1⟩ := go i t hit
          refine ⟨g1, fun x H2 yl => ?_⟩
          obtain ⟨e8, F, rF, hF⟩ := y1 x H2 yl
          rw [forL_drop (tgt := tg) (body := sNil) (η := η) hit] at er
          rw [compL] at er
          obtain ⟨η3, e4, e5⟩ := Option.bind_eq_some_iff.mp er
          obtain ⟨b, eb, e6⟩ := Option.bind_eq_some_iff.mp e5
          have gd := good hit rF keepdom hF
          have s2 := s1.same e8
          have DF : D ∉ F := fun h => by
            rcases hF D h with z | z
            · exact ok.dom D z hD
            · rw [hD'] at z; cases z
          refine ⟨Φ1, η0, t, F, η3, s2, rF, fun a ha z => (gd a ha).2 (ow1 a z), e4, fun Φ3 σ3 s3 o3 p3 => ?_⟩
          obtain ⟨tl, tsame⟩ := hin t η0 η3 e4
          have low : ∀ j c, η0[j]? = some (some c) → η3[j]? = some (some c) := fun j c h => by rw [tsame j (sh_at.mp h).1]; exact h
          have pu3 : ∀ a, InPu Φ3 η3 a → H a = none ∨ InPu Φ η a := fun a h => (p3 a h).elim (pu1 a) fun h => (gd a h).1
          have ow3 : ∀ a, InOw Φ3 η3 a → InOw Φ η a := fun a h => ow1 a (o3 a h)
          have np3 : ¬ InPu Φ3 η3 D := fun h => (p3 D h).elim np1 DF
          have no3 : ¬ InOw Φ3 η3 D := fun h => no1 (o3 D h)
          have pul : ∀ a, InPu Φ3 η0 a → InPu Φ3 η3 a := fun a ⟨j, u, h1, h2⟩ => ⟨j, u, low j _ h1, h2⟩
          have owl : ∀ a, InOw Φ3 η0 a → InOw Φ3 η3 a := fun a ⟨j, u, h1, h2⟩ => ⟨j, u, low j _ h1, h2⟩
          -- behind the test
          have rest' : ∀ H4, Same H2 H4 → (if b = true then tE G ce σ3 H4 fun y H5 => ∃ ys, H5 D = some (.lst ys) ∧ ys.length < sizeLine ∧ ∃ m', m' < l.length - i ∧ (m' = l.length - (i + 1) ∧ ∃ Φ1 vs Fs xs rest, SR G Φ1 η0 σ3 (upd H5 D (.lst (ys ++ [y]))) ∧ (∀ a, InOw Φ1 η0 a → InOw Φ η a) ∧ (∀ a, InPu Φ1 η0 a → H a = none ∨ InPu Φ η a) ∧ ¬ InPu Φ1 η0 D ∧ ¬ InOw Φ1 η0 D ∧ Kept H1 (upd H5 D (.lst (ys ++ [y]))) ∧
              (∀ a o, a ≠ D → H1 a = some o → (upd H5 D (.lst (ys ++ [y]))) a = some o) ∧ (upd H5 D (.lst (ys ++ [y]))) D = some (.lst xs) ∧ RpL G (upd H5 D (.lst (ys ++ [y]))) xs (trees vs) Fs ∧ D ∉ Fs.flatten ∧ Fp Φ η H (joins vs) Fs.flatten ∧ compL tg cond ce η0 (l.drop (i + 1)) = some rest ∧ vs ++ rest = all)
              else ∃ m', m' < l.length - i ∧ (m' = l.length - (i + 1) ∧ ∃ Φ1 vs Fs xs rest, SR G Φ1 η0 σ3 H4 ∧ (∀ a, InOw Φ1 η0 a → InOw Φ η a) ∧ (∀ a, InPu Φ1 η0 a → H a = none ∨ InPu Φ η a) ∧ ¬ InPu Φ1 η0 D ∧ ¬ InOw Φ1 η0 D ∧ Kept H1 H4 ∧
              (∀ a o, a ≠ D → H1 a = some o → H4 a = some o) ∧ H4 D = some (.lst xs) ∧ RpL G H4 xs (trees vs) Fs ∧ D ∉ Fs.flatten ∧ Fp Φ η H (joins vs) Fs.flatten ∧ compL tg cond ce η0 (l.drop (i + 1)) = some rest ∧ vs ++ rest = all)) := fun H4 e9 => by
            have eo : ∀ {H5}, Same H4 H5 → ∀ a o, H' a = some o → H5 a = some o := fun {H5} e10 a o h => e10 a o (e9 a o (e8 a o h))
            cases b with
            | false =>
              rw [if_neg Bool.false_ne_true] at e6 ⊢
              have same := eo (Same.refl H4)
              exact ⟨_, by omega, rfl, Φ3, vs, Fs, xs, rest, (s3.same e9).less (by rw [tl]) low, fun a h => ow3 a (owl a h), fun a h => pu3 a (pul a h), fun h => np3 (pul D h), fun h => no3 (owl D h), kp.trans ((Kept.of e8).trans (Kept.of e9)), fun a o n h => same a o (old a o n h), same D _ hD', rp.same (Same.trans e8 e9), nD, fp, e6, ev⟩
            | true =>
              rw [if_pos rfl] at e6 ⊢
              obtain ⟨⟨mv, tv⟩, ece, e7⟩ := Option.bind_eq_some_iff.mp e6
              obtain ⟨rest1, er1, e7'⟩ := Option.map_eq_some_iff.mp e7
              refine ⟨Φ3, η3, mv, tv, s3.same e9, ece, fun y H5 Fy e10 ry fy => ?_⟩
              have same := eo e10
              have hD5 := same D _ hD'
              have mD5 : Mut (H5 D) := by rw [hD5]; exact True.intro
              have hD4 : H4 D = some (.lst xs) := e9 D _ (e8 D _ hD')
              have none4 : ∀ a, H4 a = none → H a = none := fun a h => Classical.byContradiction fun q => keepdom a (fun z => q (e3.free z)) (e8.free (e9.free h))
              have fyo : Fp Φ η H mv Fy := by
                cases mv with
                | fr => exact ⟨fy.1, fun a ha => none4 a (fy.2 a ha)⟩
                | pu => exact fun a ha => (fy a ha).elim (fun z => .inl (none4 a z)) (pu3 a)
                | bo => exact fun a ha => (fy a ha).elim (fun z => .inl (none4 a z)) fun z => z.elim (fun z => (pu3 a z).imp id .inl) fun z => .inr (.inr (ow3 a z))
              have DFy : D ∉ Fy := fun h => by
                cases mv with
                | fr => have := fy.2 D h; rw [hD4] at this; cases this
                | pu => exact (fy D h).elim (fun z => by rw [hD4] at z; cases z) np3
                | bo => exact (fy D h).elim (fun z => by rw [hD4] at z; cases z) fun z => z.elim np3 no3
              have rp5 : RpL G H5 xs (trees vs) Fs := rp.same ((e8.trans e9).trans e10)
              have lenx : xs.length = vs.length := by rw [rp.len.1]; simp
              have lenv : vs.length < all.length := by rw [← ev, ← e7']; simp
              refine ⟨xs, hD5, ?_, _, by omega, rfl, Φ3, vs ++ [(mv, tv)], Fs ++ [Fy], xs ++ [y], rest1, (((s3.same e9).same e10).off (.inl mD5) np3 no3).less (by rw [tl]) low, fun a h => ow3 a (owl a h), fun a h => pu3 a (pul a h), fun h => np3 (pul D h), fun h => no3 (owl D h), ?_, fun a o n h => ?_, upd_same, ?_, ?_, ?_, er1, ?_⟩
              · have hlen' : all.length ≤ LINE := by simpa using hlen
                have : sizeLine = LINE := rfl
                omega
              · exact (kp.trans ((Kept.of e8).trans ((Kept.of e9).trans (Kept.of e10)))).trans (Kept.upd (.inl mD5))
              · rw [upd_ne n]; exact same a o (old a o n h)
              · have : trees (vs ++ [(mv, tv)]) = trees vs ++ [tv] := by simp
                rw [this]
                exact (rp5.off mD5 nD).append (.cons (ry.keep (Kept.upd (.inl mD5)) fun b hb o ho => by rw [upd_ne (fun z => DFy (by rw [← z]; exact hb))]; exact ho) .nil)
              · rw [List.flatten_append]
                intro h
                rcases List.mem_append.mp h with z | z
                · exact nD z
                · exact DFy (by simpa using z)
              · rw [List.flatten_append, joins_snoc]
                have : ([Fy] : List (List Addr)).flatten = Fy := by simp
                rw [this]
                refine fp.join2 fyo fun hm a ha hb => ?_
                subst hm
                have h4 := fy.2 a hb
                have : Mut (H4 a) := (rp.same (e8.trans e9)).dom a ha
                rw [h4] at this; exact this
              · rw [List.append_assoc, ← ev, ← e7']; rfl
          cases cond with
          | none =>
            cases (show some true = some b from eb)
            exact rest' H2 (Same.refl H2)
          | some c =>
            obtain ⟨⟨mc, xc⟩, ec1, ec2⟩ := Option.bind_eq_some_iff.mp eb
            exact ⟨Φ3, η3, mc, xc, b, s3, ec1, ec2, fun H4 e9 => rest' H4 e9⟩
    · cases e2
  · cases e1
end
end VS
namespace VS
open PySem PySem.Spec PyProof.Rows L2
section
variable {G : Gx} {X : Cx} {elt tg iter c : Expr} {sc : Scope} {pos pos' spos : Pos} {N : List Str} {k i : Nat} {x : Str} {ci : Its} {g : Tg} {cc ce : Ex}
/-- [elt for tg in iter] -/
theorem pv_comp (k : Nat) (N : List Str) (hcalm : X.calm = true) (hi : PVI G X tg iter ci) (hin : TgIn k g) (hg : ∀ cl C s H fp, PVG G (compCx X N sc cl C s H fp) tg g) (he : ∀ cl C s H fp, PV G (compCx X N sc cl C s H fp) elt ce)
    (hsc : scOk X.env sc = true := by rfl) (hnm : nmOk sc (N.drop k) X.N = true := by rfl) (hNl : k ≤ N.length := by decide) (hs : ∀ x, foldedSetIterable iter X.env x = pure x := by intro _; rfl) :
    PV G X (.ListComp elt [⟨tg, iter, [], 0⟩] sc pos) (eComp k g ci none ce) :=
  PE.weak (pe_comp hcalm hi hsc hnm hNl (fun cl C s H fp => ⟨hg cl C s H fp, pifs_nil, he cl C s H fp⟩) hs) fun σ H Q h => comp_of (cond := none) hin h
/-- [elt for tg in iter if c] -/
theorem pv_compIf (k : Nat) (N : List Str) (hcalm : X.calm = true) (hi : PVI G X tg iter ci) (hin : TgIn k g) (hg : ∀ cl C s H fp, PVG G (compCx X N sc cl C s H fp) tg g) (hc : ∀ cl C s H fp, PVT G (compCx X N sc cl C s H fp) c cc) (he : ∀ cl C s H fp, PV G (compCx X N sc cl C s H fp) elt ce)
    (hsc : scOk X.env sc = true := by rfl) (hnm : nmOk sc (N.drop k) X.N = true := by rfl) (hNl : k ≤ N.length := by decide) (hs : ∀ x, foldedSetIterable iter X.env x = pure x := by intro _; rfl) :
    PV G X (.ListComp elt [⟨tg, iter, [c], 0⟩] sc pos) (eComp k g ci (some cc) ce) :=
  PE.weak (pe_comp hcalm hi hsc hnm hNl (fun cl C s H fp => ⟨hg cl C s H fp, pifs_one (hc cl C s H fp), he cl C s H fp⟩) hs) fun σ H Q h => comp_of (cond := some cc) hin h
theorem set_of {D : Ends} {σ : L2.St} {H : Hp} {ce : Ex} (h : tS G (sSet i ce) D σ H) : tE G ce σ H fun v H1 => D.nx (σ.set i (some v)) H1 := by
  obtain ⟨Φ, η, o, s, e, k⟩ := h
  unfold sSet at e
  obtain ⟨⟨m, t⟩, ec, e1⟩ := Option.bind_eq_some_iff.mp e
  obtain ⟨c, eC, e2⟩ := Option.bind_eq_some_iff.mp e1
  split at e2
  · rename_i hl
    cases e2
    refine ⟨Φ, η, m, t, s, ec, fun v H' F e3 r3 f3 => ?_⟩
    obtain ⟨q1, q2⟩ := s.val (c := c) hl e3 r3 f3 (by
      unfold cellOf at eC
      cases m with
      | fr =>
        simp only [Option.some.injEq] at eC
        split at eC
        · exact .inr ⟨eC.symm, rfl⟩
        · exact .inl ⟨eC.symm, by decide⟩
      | pu => cases eC; exact .inl ⟨rfl, by decide⟩
      | bo => cases eC)
    exact k _ _ H' q1 q2
  · cases e2
theorem setP_of {D : Ends} {σ : L2.St} {H : Hp} {ce : Ex} (h : tS G (sSetP i ce) D σ H) : tE G ce σ H fun v H1 => D.nx (σ.set i (some v)) H1 := by
  obtain ⟨Φ, η, o, s, e, k⟩ := h
  unfold sSetP at e
  obtain ⟨⟨m, t⟩, ec, e1⟩ := Option.bind_eq_some_iff.mp e
  split at e1
  · cases e1
  · rename_i hm
    split at e1
    · rename_i hl
      cases e1
      refine ⟨Φ, η, m, t, s, ec, fun v H' F e3 r3 f3 => ?_⟩
      obtain ⟨q1, q2⟩ := s.val (c := .pu t) hl e3 r3 f3 (.inl ⟨rfl, hm⟩)
      exact k _ _ H' q1 q2
    · cases e1
/-- x = [elt for tg in iter], in one row -/
theorem psv_setC (k : Nat) (N : List Str) {cS : Sx} (hS : ∀ D σ H, tS G cS D σ H → tE G (eComp k g ci none ce) σ H fun v H1 => D.nx (σ.set i (some v)) H1) (hcalm : X.calm = true) (hi : PVI G X tg iter ci) (hin : TgIn k g) (hg : ∀ cl C s H fp, PVG G (compCx X N sc cl C s H fp) tg g)
    (he : ∀ cl C s H fp, PV G (compCx X N sc cl C s H fp) elt ce) (hN : X.N.Nodup) (hiN : X.N[i]? = some x := by rfl) (hx : Loc X.env.scope x := by first | exact Or.inl rfl | exact Or.inr rfl)
    (hsc : scOk X.env sc = true := by rfl) (hnm : nmOk sc (N.drop k) X.N = true := by rfl) (hNl : k ≤ N.length := by decide) (hsw : swapsWith (.ListComp elt [⟨tg, iter, [], 0⟩] sc pos) (some (.Name x pos')) spos.line X.env = pure true := by rfl)
    (hf : X.fn x = true ∨ X.env.scope.names.lookup x = some .local := by first | exact .inl rfl | exact .inr rfl) (hs : ∀ x, foldedSetIterable iter X.env x = pure x := by intro _; rfl) :
    PSV G X (.Assign [.Name x pos'] (.ListComp elt [⟨tg, iter, [], 0⟩] sc pos) spos) cS :=
  PS.weak (ps_setComp hN hiN hx hcalm hi hsc hnm hNl (fun cl C s H fp => ⟨hg cl C s H fp, pifs_nil, he cl C s H fp⟩) hsw hf hs) fun D σ H h => comp_of (cond := none) hin (hS D σ H h)
/-- x = [elt for tg in iter if c], in one row -/
theorem psv_setCIf (k : Nat) (N : List Str) {cS : Sx} (hS : ∀ D σ H, tS G cS D σ H → tE G (eComp k g ci (some cc) ce) σ H fun v H1 => D.nx (σ.set i (some v)) H1) (hcalm : X.calm = true) (hi : PVI G X tg iter ci) (hin : TgIn k g) (hg : ∀ cl C s H fp, PVG G (compCx X N sc cl C s H fp) tg g)
    (hc : ∀ cl C s H fp, PVT G (compCx X N sc cl C s H fp) c cc) (he : ∀ cl C s H fp, PV G (compCx X N sc cl C s H fp) elt ce) (hN : X.N.Nodup) (hiN : X.N[i]? = some x := by rfl) (hx : Loc X.env.scope x := by first | exact Or.inl rfl | exact Or.inr rfl)
    (hsc : scOk X.env sc = true := by rfl) (hnm : nmOk sc (N.drop k) X.N = true := by rfl) (hNl : k ≤ N.length := by decide) (hsw : swapsWith (.ListComp elt [⟨tg, iter, [c], 0⟩] sc pos) (some (.Name x pos')) spos.line X.env = pure true := by rfl)
    (hf : X.fn x = true ∨ X.env.scope.names.lookup x = some .local := by first | exact .inl rfl | exact .inr rfl) (hs : ∀ x, foldedSetIterable iter X.env x = pure x := by intro _; rfl) :
    PSV G X (.Assign [.Name x pos'] (.ListComp elt [⟨tg, iter, [c], 0⟩] sc pos) spos) cS :=
  PS.weak (ps_setComp hN hiN hx hcalm hi hsc hnm hNl (fun cl C s H fp => ⟨hg cl C s H fp, pifs_one (hc cl C s H fp), he cl C s H fp⟩) hsw hf hs) fun D σ H h => comp_of (cond := some cc) hin (hS D σ H h)
end
end VS

set_option Elab.async false
set_option linter.all false
set_option maxRecDepth 100000
set_option maxHeartbeats 1000000
namespace L2
open PySem PySem.Spec PyProof.Rows
/-- the list at a, each item with its number -/
def Ite (K : PySem.W.Frag) (a : Addr) : It :=
  ⟨fun i H => ∃ xs x, SqL K H a xs ∧ xs[i]? = some x, fun i H v H' => ∃ p x, H p = none ∧ v = .ref p ∧ H' = upd H p (.tup [.int i, x]) ∧ ∀ xs, SqL K H a xs → xs[i]? = some x, fun i H => ∃ xs, SqL K H a xs ∧ xs.length ≤ i⟩
theorem turn_enum {P : Program} {w : World} {K : PySem.W.Frag} {elts : List Expr} {n : Nat} {pos : Pos} (a e it : Addr) (hne : e ≠ it) : Turn P w K (.Tuple elts n pos) (Ite K a) [e, it] e (fun i h => (∃ old, IsEnum h e it i old) ∧ h.IsListIter it a i) where
  mem := by simp
  obj := fun i h st b hb => by
    obtain ⟨⟨old, he⟩, o, ho, c, d⟩ := st
    rcases List.mem_cons.mp hb with rfl | hb
    · exact ⟨_, he, fun v z => by cases (show Data.fields _ = Data.cell v from z)⟩
    · rw [List.mem_singleton.mp hb]
      exact ⟨o, ho, fun v z => by rw [d] at z; cases z⟩
  keep := fun i h h' st k => ⟨let ⟨old, he⟩ := st.1; ⟨old, k e (by simp) _ he⟩, st.2.at fun o x => k it (by simp) o x⟩
  item := by
    intro X hP hw hK hc i pins s σ H E I hf st hg
    subst hP hw hK
    obtain ⟨xs, x, hq, hx⟩ := hg
    obtain ⟨its, rv, p, hz⟩ := I.list hq
    obtain ⟨u, hu, ru⟩ := rv.get hx
    obtain ⟨⟨old, he⟩, hit⟩ := st
    refine wpAny_pyNext_enum_item he hit p.isList (x := u) (by simpa using hu) hne fun h1 ho hit1 hT hsz hk => ⟨_, rfl, ?_⟩
    refine wpAny_letOwnedTupleGo_enum ho fun h2 he2 hs2 => ?_
    have hs2 : Heap.SameBut e h1 h2 := hs2
    have ltE : e < s.heap.objs.size := Heap.lt_size he
    have ltI : it < s.heap.objs.size := let ⟨_, z, _⟩ := hit; Heap.lt_size z
    have hHT : H s.heap.objs.size = none := I.hok.fresh (Nat.le_refl _)
    have kk : ∀ b o, b ∉ [e, it] → s.heap.get? b = some o → h2.get? b = some o := fun b o hb q => by
      have h1b : b ≠ e := fun z => hb (by simp [z])
      have h2b : b ≠ it := fun z => hb (by simp [z])
      exact (hs2.2 b h1b).trans (hk b o h1b h2b q)
    have hT2 : h2.get? s.heap.objs.size = some { cls := .type "tuple", data := .seq #[.int i s.toks, u] } := (hs2.2 _ (Nat.ne_of_gt ltE)).trans hT
    have nfp : ∀ b o, H b = some o → b ∉ [e, it] := fun b o q hb => by rw [(hf b hb).1] at q; cases q
    have lt : ∀ b o, s.heap.get? b = some o → b ≠ s.heap.objs.size := fun b o q => Nat.ne_of_lt (Heap.lt_size q)
    have up : ∀ b o, H b = some o → upd H s.heap.objs.size (.tup [.int i, x]) b = some o := fun b o q => by rw [upd_ne (ne_of_none q hHT)]; exact q
    have hok2 : HOk X.prog X.w (upd H s.heap.objs.size (.tup [.int i, x])) h2 := fun b ob q => by
      by_cases hb : b = s.heap.objs.size
      · subst hb
        rw [upd_same] at q
        cases q
        exact ⟨by show 2 ≤ sizeLine; decide, [.int i s.toks, u], .cons ⟨_, rfl⟩ (.cons ru .nil), ⟨_, hT2, rfl, _, rfl⟩⟩
      · rw [upd_ne hb] at q
        refine (I.hok b ob q).stay (fun c v hc' r => kk c v ?_ r) (fun c r => up c _ r) fun c ys r => up c _ r
        rcases hc' with z | z
        · rw [z]; exact nfp b ob q
        · exact nfp c _ z
    refine ⟨.ref s.heap.objs.size, upd H s.heap.objs.size (.tup [.int i, x]), ?_, rfl, ⟨_, x, hHT, rfl, rfl, fun ys hy => by rw [I.list_inj hy hq]; exact hx⟩, ⟨⟨u, by simpa using he2⟩, hit1.at fun o y => (hs2.2 it hne.symm).trans y⟩, fun b hb => ?_⟩
    · show Inv X pins σ _ { s with heap := h2, gens := s.gens, drawn := s.drawn, toks := s.toks + 1 }
      refine I.step (g' := s.gens) (d' := s.drawn) (t' := s.toks + 1) (ch := [e, it]) (fun b hb => ?_) (fun b o _ _ hc' q _ => kk b o hc' q) (fun b o _ _ hc' q _ => ⟨o.slots, kk b o hc' q⟩) (fun b o _ q r => by rw [upd_ne (lt b o q)]; exact r) (fun b o hc' q => ⟨o, kk b o hc' q⟩)
        (fun b ys q => up b _ q) (fun b o v q => up b _ q) (fun b ps q => ⟨#[], by rw [up b _ q]; simp⟩) (fun m hm => ?_) hok2 I.bare
      · obtain ⟨f0, f1, f2, f3, f4, f5⟩ := hf b hb
        exact ⟨f3, f1, f4, f5⟩
      · obtain ⟨o, es, ep, ho', r⟩ := hm
        refine ⟨o, es, ep, kk _ o (fun z => ?_) ho', r⟩
        exact (hf _ z).2.1 rfl
    · have : b ≠ s.heap.objs.size := by
        rcases List.mem_cons.mp hb with rfl | hb
        · exact Nat.ne_of_lt ltE
        · rw [List.mem_singleton.mp hb]; exact Nat.ne_of_lt ltI
      rw [upd_ne this]
      exact (hf b hb).1
  done := by
    intro X hP hw hK hc i pins s σ H E I hf st hg
    subst hP hw hK
    obtain ⟨xs, hq, hx⟩ := hg
    obtain ⟨its, rv, p, hz⟩ := I.list hq
    obtain ⟨⟨old, he⟩, hit⟩ := st
    obtain ⟨f0, f1, f2, f3, f4, f5⟩ := hf it (by simp)
    have hl := rv.length
    exact wpAny_pyNext_enum_end (I.ok.hd hc) he hit p.isList (by simp; omega) fun h' eb => ⟨rfl, I.turned (t' := s.toks) (fun b o hb q => eb b o hb q) f0 f1 f3 f4 f5⟩
  self := fun _ _ _ _ _ st h => let ⟨_, he⟩ := st.1; wpAny_pyIter_enum he h
section
variable {X : Cx} {tg a : Expr} {ta : TA} {p pos : Pos}
def iEnm (K : PySem.W.Frag) (ta : TA) : TI := fun σ H R => ta σ H fun vs H1 => ∃ l, vs = [.ref l] ∧ (∃ xs, SqL K H1 l xs) ∧ R (Ite K l) H1
theorem pi_enum {elts : List Expr} {n : Nat} {tpos : Pos} (hg : Gl X "enumerate") (hm : X.mg "enumerate" = none) (ha : PA X [a] ta) (hs : starEach [a] X.env = [(false, eval a X.env)] := by rfl) : PI X (.Tuple elts n tpos) (.Call (.Name "enumerate" p) [a] [] pos) (iEnm X.K ta) := by
  intro pins s σ H R I h
  refine Call_ (ld_blt I hg hm boot_enumerate (PyProof.Rows.callWith_type1 (thn (ha pos pins s σ H _ I h) fun us s1 ⟨vs, H1, I1, r1, q1⟩ => ?_) hs rfl))
  obtain ⟨l, e, ⟨xs, hq⟩, q⟩ := q1
  subst e
  cases r1 with
  | cons r rr =>
    cases rr
    cases r
    obtain ⟨its, rv, pl, hz⟩ := I1.list hq
    refine call_enumerate_list pl.isList fun h' he hit hsz hk => ?_
    refine wpAny_pyIter_enum he ?_
    refine ⟨_, _, _, _, H1, rfl, I1.kept (t' := s1.toks) hk, turn_enum l (s1.heap.objs.size + 1) s1.heap.objs.size (Nat.succ_ne_self _), ⟨⟨_, he⟩, hit⟩, fun b hb => ?_, q⟩
    have hb' : s1.heap.objs.size ≤ b := by
      rcases List.mem_cons.mp hb with rfl | hb
      · omega
      · rw [List.mem_singleton.mp hb]; exact Nat.le_refl _
    exact I1.fpOk hb' (I1.hok.fresh hb')
end
end L2
namespace VS
open PySem PySem.Spec PyProof.Rows L2
section
variable {G : Gx} {X : Cx} {a : Expr} {ca : Ex} {pos p tpos : Pos} {elts : List Expr} {n : Nat}
theorem enumT_at : ∀ (l : List T) (k i : Nat) {t : T}, (enumT k l)[i]? = some t → ∃ x, l[i]? = some x ∧ t = .tup [.int ((k + i : Nat) : Int), x]
  | [], _, _, _, h => by simp [enumT] at h
  | x :: l, k, 0, t, h => by
    simp [enumT] at h
    exact ⟨x, rfl, by rw [← h]; rfl⟩
  | x :: l, k, i + 1, t, h => by
    obtain ⟨y, h1, h2⟩ := enumT_at l (k + 1) i (by simpa [enumT] using h)
    refine ⟨y, by simpa using h1, ?_⟩
    rw [h2, show k + 1 + i = k + (i + 1) by omega]
theorem enumT_len : ∀ (l : List T) (k : Nat), (enumT k l).length = l.length
  | [], _ => rfl
  | x :: l, k => by simp [enumT, enumT_len l (k + 1)]
theorem it_enum {H : Hp} {a : Addr} {vs : List V} {ts : List T} {Fs : List (List Addr)} (K : PySem.W.Frag) (ha : H a = some (.lst vs)) (r : RpL G H vs ts Fs) : ItOk G (Ite K a) (enumT 0 ts) (a :: Fs.flatten) H := by
  refine ⟨fun H2 k c => ?_, fun b hb => ?_⟩
  · have ha2 : H2 a = some (.lst vs) := c a List.mem_cons_self _ ha
    have r2 : RpL G H2 vs ts Fs := r.keep k fun b hb o ho => c b (List.mem_cons_of_mem _ hb) o ho
    refine ⟨fun i t h => ?_, fun i h => ⟨vs, SqL.of ha2, by rw [enumT_len] at h; rw [r.len.1]; exact h⟩⟩
    obtain ⟨y, hy, et⟩ := enumT_at ts 0 i h
    rw [Nat.zero_add] at et
    obtain ⟨v, F, h1, h2, h3⟩ := r2.get i hy
    refine ⟨⟨vs, v, SqL.of ha2, h1⟩, fun x H3 ⟨p, z, hp, e1, e2, e3⟩ => ?_⟩
    subst e1 e2
    have ex := e3 vs (SqL.of ha2)
    rw [h1] at ex
    cases ex
    have sm : Same H2 (upd H2 p (.tup [.int i, v])) := fun b o q => by rw [upd_ne (ne_of_none q hp)]; exact q
    refine ⟨sm, F, ?_, fun b hb => .inl (List.mem_cons_of_mem _ (mem_fp h2 hb))⟩
    rw [et]
    have : F = ([[], F] : List (List Addr)).flatten := by simp
    rw [this]
    exact .tup upd_same (.cons (.int _) (.cons (h3.same sm) .nil))
  · rcases List.mem_cons.mp hb with rfl | hb
    · rw [ha]; exact fun z => nomatch z
    · exact Mut.ne_none (r.dom b hb)
/-- enumerate(list), its pairs unpacked -/
theorem pvi_enum (ha : PV G X a ca) (hg : Gl X "enumerate") (hm : X.mg "enumerate" = none) (hs : starEach [a] X.env = (false, eval a X.env) :: starEach [] X.env := by rfl) (hs' : starEach [a] X.env = [(false, eval a X.env)] := by rfl) :
    PVI G X (.Tuple elts n tpos) (.Call (.Name "enumerate" p) [a] [] pos) (iEnum ca) :=
  PI.weak (pi_enum hg hm (pa_cons ha pa_nil hs) hs') fun σ H R ⟨Φ, η, m, l, s, e, k⟩ => by
    unfold iEnum at e
    obtain ⟨⟨mx, x⟩, ea, e1⟩ := Option.bind_eq_some_iff.mp e
    refine ⟨Φ, η, mx, x, s, ea, fun v H' F e3 r3 f3 => ?_⟩
    cases x with
    | lst ts =>
      cases e1
      obtain ⟨a', vs, Fs, rfl, rfl, ha', ra⟩ := r3.lst_inv
      exact ⟨a', rfl, ⟨vs, SqL.of ha'⟩, k _ H' _ e3 (it_enum X.K ha' ra) f3.c⟩
    | _ => cases e1
end
end VS

set_option Elab.async false
set_option linter.all false
set_option maxRecDepth 100000
set_option maxHeartbeats 1000000
/-! The rules in short, as the printer of links writes them. -/
namespace VS
open PySem PySem.Spec PyProof.Rows L2
instance {s : Tx} : Decidable (TxOk s) := inferInstanceAs (Decidable (_ ∧ _))
section
variable {G : Gx} {X : Cx} {a b c e : Expr} {es : List Expr} {ca cb cc : Ex} {cs : Exs} {pos p p1 p2 apos cpos : Pos} {k k' : Nat}
theorem w_add (ha : PV G X a ca) (hb : PV G X b cb) : PV G X (.BinOp a .Add b pos) (e2 oAdd ca cb) := pv_op op_addA ok_add ha hb
theorem w_sub (ha : PV G X a ca) (hb : PV G X b cb) : PV G X (.BinOp a .Sub b pos) (e2 oSub ca cb) := pv_op op_sub ok_sub ha hb
theorem w_mul (ha : PV G X a ca) (hb : PV G X b cb) : PV G X (.BinOp a .Mult b pos) (e2 oMul ca cb) := pv_op op_mul ok_mul ha hb
theorem w_fdiv (ha : PV G X a ca) (hb : PV G X b cb) : PV G X (.BinOp a .FloorDiv b pos) (e2 oFdiv ca cb) := pv_op op_fdiv ok_fdiv ha hb
theorem w_mod (ha : PV G X a ca) (hb : PV G X b cb) : PV G X (.BinOp a .Mod b pos) (e2 oMod ca cb) := pv_op op_mod ok_mod ha hb
theorem w_lt (ha : PV G X a ca) (hb : PV G X b cb) : PV G X (.Compare a [.Lt] [b] pos) (e2 oLt ca cb) := pv_cmp op_ltA ok_lt ha hb (nomark _)
theorem wt_lt (ha : PV G X a ca) (hb : PV G X b cb) : PVT G X (.Compare a [.Lt] [b] pos) (e2 oLt ca cb) := pvt_cmp op_ltA ok_lt tells_lt ha hb (nomark _)
theorem w_le (ha : PV G X a ca) (hb : PV G X b cb) : PV G X (.Compare a [.LtE] [b] pos) (e2 oLe ca cb) := pv_cmp op_leA ok_le ha hb (nomark _)
theorem wt_le (ha : PV G X a ca) (hb : PV G X b cb) : PVT G X (.Compare a [.LtE] [b] pos) (e2 oLe ca cb) := pvt_cmp op_leA ok_le tells_le ha hb (nomark _)
theorem w_eq (hr : Room k X.A) (ha : PV G X a ca) (hb : PV G X b cb) : PV G X (.Compare a [.Eq] [b] pos) (e2 oEq ca cb) := pv_cmp (op_eqT hr.units) ok_eq ha hb (nomark _)
theorem wt_eq (hr : Room k X.A) (ha : PV G X a ca) (hb : PV G X b cb) : PVT G X (.Compare a [.Eq] [b] pos) (e2 oEq ca cb) := pvt_cmp (op_eqT hr.units) ok_eq tells_eq ha hb (nomark _)
theorem w_ne (hr : Room k X.A) (ha : PV G X a ca) (hb : PV G X b cb) : PV G X (.Compare a [.NotEq] [b] pos) (e2 oNe ca cb) := pv_cmp (op_neT hr.units) ok_ne ha hb (nomark _)
theorem wt_ne (hr : Room k X.A) (ha : PV G X a ca) (hb : PV G X b cb) : PVT G X (.Compare a [.NotEq] [b] pos) (e2 oNe ca cb) := pvt_cmp (op_neT hr.units) ok_ne tells_ne ha hb (nomark _)
theorem w_idx (ha : PV G X a ca) (hb : PV G X b cb) (hs : PlainIx b := by intro _ _; rfl) (hK : X.K = G.K := by rfl) : PV G X (.Subscript a b pos) (e2 oIdx ca cb) :=
  PE.weak (pe_ix ix_seq ha hb hs) fun σ H Q h => by rw [hK]; exact tOp_of ok_idx h
theorem w_len (hm : X.mg "len" = none) (ha : PVs G X [e] cs) (hg : Gl X "len" := by rfl) (hK : X.K = G.K := by rfl) (he : starEach [e] X.env = (false, eval e X.env) :: starEach [] X.env := by rfl) : PV G X (.Call (.Name "len" p) [e] [] pos) (eN bLen cs) :=
  pv_callB (hK ▸ call_lenA) ok_len hg hm PySem.boot_len ha (he := he) (hpl := rfl)
theorem bt_max : bootBuiltins ("max" : Str) = some (.builtin "max") := by decide +kernel
theorem bt_min : bootBuiltins ("min" : Str) = some (.builtin "min") := by decide +kernel
theorem bt_list : bootBuiltins ("list" : Str) = some (.type "list") := by decide +kernel
theorem w_max2 (hm : X.mg "max" = none) (ha : PVs G X [a, b] cs) (hc : X.calm = true := by rfl) (hg : Gl X "max" := by rfl) (he : starEach [a, b] X.env = (false, eval a X.env) :: starEach [b] X.env := by rfl) (hpl : (backTo pos (starEach [b] X.env)).any (·.1) = false := by rfl) : PV G X (.Call (.Name "max" p) [a, b] [] pos) (eN bMax2 cs) :=
  pv_callB (call_max2 hc) ok_max2 hg hm bt_max ha (he := he) (hpl := hpl)
theorem w_min2 (hm : X.mg "min" = none) (ha : PVs G X [a, b] cs) (hc : X.calm = true := by rfl) (hg : Gl X "min" := by rfl) (he : starEach [a, b] X.env = (false, eval a X.env) :: starEach [b] X.env := by rfl) (hpl : (backTo pos (starEach [b] X.env)).any (·.1) = false := by rfl) : PV G X (.Call (.Name "min" p) [a, b] [] pos) (eN bMin2 cs) :=
  pv_callB (call_min2 hc) ok_min2 hg hm bt_min ha (he := he) (hpl := hpl)
theorem w_list (hm : X.mg "list" = none) (ha : PVs G X [e] cs) (hg : Gl X "list" := by rfl) (hK : X.K = G.K := by rfl) (he : starEach [e] X.env = (false, eval e X.env) :: starEach [] X.env := by rfl) : PV G X (.Call (.Name "list" p) [e] [] pos) (eN bList cs) :=
  pv_callTy (hK ▸ call_list_of) ok_list hg hm bt_list ha (he := he) (hpl := rfl)
def tyN : Ty → Str
  | .int => "int" | .str => "str" | .bool => "bool" | .list => "list" | .tuple => "tuple" | .dict => "dict"
theorem bt_ty (t : Ty) : bootBuiltins (tyN t) = some (.type (tyS t)) := by cases t <;> decide +kernel
theorem w_is (t : Ty) (hm : X.mg "isinstance" = none) (hm2 : X.mg (tyN t) = none) (ha : PV G X a ca) (hg : Gl X "isinstance" := by rfl) (hg2 : Gl X (tyN t) := by rfl) (hK : X.K = G.K := by rfl)
    (hs : starEach [a, .Name (tyN t) p2] X.env = (false, eval a X.env) :: starEach [.Name (tyN t) p2] X.env := by rfl) : PV G X (.Call (.Name "isinstance" p1) [a, .Name (tyN t) p2] [] pos) (eIs t ca) :=
  pv_is t ha hg hm hg2 hm2 (bt_ty t) hK (by cases t <;> decide) (by cases t <;> decide) hs rfl rfl
theorem w_ends (ho : PV G X a ca) (ha : PVs G X [e] cs) (hK : X.K = G.K := by rfl) (hbase : attributeBase a "endswith" X.env (eval a X.env) = eval a X.env := by rfl)
    (hfew : ((backTo cpos (starEach [e] X.env)).all (fun x => !x.1) && (backToKw cpos (keywordEach [] X.env)).all (fun x => x.1.isSome)
      && decide ([e].length + ([] : List Keyword).length + (if ([] : List Keyword).isEmpty then 0 else 1) < 30)) = true := by rfl)
    (hline : (apos.endLine == cpos.line) = true := by rfl) (hs : starEach [e] X.env = (false, eval e X.env) :: starEach [] X.env := by rfl) (hplain : (backTo cpos (starEach [] X.env)).any (·.1) = false := by rfl) :
    PV G X (.Call (.Attribute a "endswith" apos) [e] [] cpos) (eM mEnds ca cs) :=
  pv_mt PySem.F.plainAttrs_str PySem.F.slot_str_endswith PySem.F.type_str_endswith mt_ends ok_ends (fun H v x F l z r e => str_recv r (by
    unfold mEnds at e
    split at e
    · exact ⟨_, rfl⟩
    · cases e)) ho ha hK hbase hfew hline hs hplain
/-- xs.append(e), xs.extend(e): xs a list of the def's own -/
theorem w_append (i : Nat) {x : Str} (ha : PVs G X [e] cs) (hK : X.K = G.K := by rfl)
    (hN : X.N[i]? = some x := by rfl) (hv : Vis X.env.scope x := by first | exact Or.inl rfl | exact Or.inr (Or.inl rfl) | exact Or.inr (Or.inr rfl)) (hd : (x == ("__debug__" : Str)) = false := by decide)
    (hcd : (x == ("__classdict__" : Str)) = false := by decide) (hfew : ((backTo cpos (starEach [e] X.env)).all (fun x => !x.1) && (backToKw cpos (keywordEach [] X.env)).all (fun x => x.1.isSome)
      && decide ([e].length + ([] : List Keyword).length + (if ([] : List Keyword).isEmpty then 0 else 1) < 30)) = true := by rfl)
    (hline : (apos.endLine == cpos.line) = true := by rfl) (hs : starEach [e] X.env = (false, eval e X.env) :: starEach [] X.env := by rfl) :
    PSV G X (.Expr (.Call (.Attribute (.Name x p1) "append" apos) [e] [] cpos) pos) (sX (xMut i [] mAppend cs)) :=
  psv_mut0 i PySem.F.plainAttrs_list PySem.F.slot_list_append PySem.F.type_list_append mt_append ok_append (fun H v t F l z r h => recv_append r h) ha hK hN hv hd hcd rfl hfew hline hs rfl rfl
theorem w_extend (i : Nat) {x : Str} (ha : PVs G X [e] cs) (hK : X.K = G.K := by rfl)
    (hN : X.N[i]? = some x := by rfl) (hv : Vis X.env.scope x := by first | exact Or.inl rfl | exact Or.inr (Or.inl rfl) | exact Or.inr (Or.inr rfl)) (hd : (x == ("__debug__" : Str)) = false := by decide)
    (hcd : (x == ("__classdict__" : Str)) = false := by decide) (hfew : ((backTo cpos (starEach [e] X.env)).all (fun x => !x.1) && (backToKw cpos (keywordEach [] X.env)).all (fun x => x.1.isSome)
      && decide ([e].length + ([] : List Keyword).length + (if ([] : List Keyword).isEmpty then 0 else 1) < 30)) = true := by rfl)
    (hline : (apos.endLine == cpos.line) = true := by rfl) (hs : starEach [e] X.env = (false, eval e X.env) :: starEach [] X.env := by rfl) :
    PSV G X (.Expr (.Call (.Attribute (.Name x p1) "extend" apos) [e] [] cpos) pos) (sX (xMut i [] mExtend cs)) :=
  psv_mut0 i PySem.F.plainAttrs_list PySem.F.slot_list_extend PySem.F.type_list_extend mt_extend ok_extend (fun H v t F l z r h => recv_extend r h) ha hK hN hv hd hcd rfl hfew hline hs rfl rfl
end
/-! ### defs -/
structure FnAt (P : Program) (w : World) (K : PySem.W.Frag) (mg : Str → Option Value) (base : Heap) (k : Nat) (x : Str) (ps : List Str) (G : Gx) (g : Fn) : Prop where
  ex : ∃ f fd, FnOk P w K mg base CX0 k f fd ps (spF G g) ∧ mg x = some (.ref f) ∧ PySem.W.keepIn K (.ref f) = true ∧ Binds K fd ps []
section
variable {G : Gx} {X : Cx} {e : Expr} {es : List Expr} {cs : Exs} {pos p : Pos} {k k' : Nat} {x : Str} {ps : List Str} {g : Fn}
theorem w_call (F : FnAt X.prog X.w X.K X.mg X.base k x ps G g) (hr : Room k' X.A) (ha : PVs G X (e :: es) cs) (hk : k ≤ k' := by decide) (hg : Gl X x := by rfl) (hdb : (x == ("__debug__" : Str)) = false := by decide)
    (he : starEach (e :: es) X.env = (false, eval e X.env) :: starEach es X.env := by rfl) (hpl : (backTo pos (starEach es X.env)).any (·.1) = false := by rfl) :
    PV G X (.Call (.Name x p) (e :: es) [] pos) (eCall g cs) := by
  obtain ⟨f, fd, h1, h2, h3, h4⟩ := F.ex
  exact pv_call h1 (hr.mono hk) hg h2 h3 h4 ha hdb he hpl
theorem w_call0 (F : FnAt X.prog X.w X.K X.mg X.base k x ps G g) (hr : Room k' X.A) (hk : k ≤ k' := by decide) (hg : Gl X x := by rfl) (hdb : (x == ("__debug__" : Str)) = false := by decide) :
    PV G X (.Call (.Name x p) [] [] pos) (eCall g xNil) := by
  obtain ⟨f, fd, h1, h2, h3, h4⟩ := F.ex
  exact PE.weak (pe_call0 (E := fun _ _ _ => False) h1 (hr.mono hk) hg h2 h3 h4 .nil pass0 hdb) fun σ H Q h => by
    obtain ⟨Φ, η, l, s, el, kq⟩ := call_of (E := fun _ _ _ => False) h
    cases (show some ([] : List Val) = some l from el)
    exact kq [] H [] (Same.refl _) .nil ⟨fun i v F h => by simp at h, by simp [frs]⟩
end
section
variable {G : Gx} {P : Program} {w : World} {K : PySem.W.Frag} {mg : Str → Option Value} {base : Heap}
/-- a def of the text -/
theorem w_def {x : Str} {st : Stmt} {f : Addr} {fd : FuncData} {N ps : List Str} {k np nn : Nat} {c : Sx} (F : Fun K x x st f fd) (hm : mg x = some (.ref f)) (S : FnScope N ps (defScope st)) (hp : ps.length = np) (hn : N.length = nn)
    (hbd : ∀ (kV doc pm : Value) (an : Option Addr) (cdv ct : Value) (us : List Value), us.length = ps.length → bindArgs (PySem.W.fnOf x x (defArgs st) (defBody st) (defScope st) .none kV doc pm an cdv ct) ⟨us, []⟩ = pure (ps.zip us))
    (hb : ∀ (cdv : Value) (A : Around) (outer : List PySem.Env) (s : Shared) (H : Hp) (E : XK), Room k (A.deeper (envOfC x (defScope st) s.heap.objs.size f cdv)) → PSVs G (cxOf CX0 P w K mg base N x (defScope st) f cdv A outer s H E).nox (defBody st) c) :
    FnAt P w K mg base (k + 1) x ps G (fn np nn c) :=
  ⟨f, fd, fnV F S hp hn hb, hm, F.kp, F.binds hbd⟩
end
end VS

set_option Elab.async false
set_option linter.all false
set_option maxRecDepth 100000
set_option maxHeartbeats 1000000
namespace L2
open PySem PySem.Spec PyProof.Rows
/-! ### the signs of a text, one by one -/
def Its (x : Str) : It := ⟨fun i _ => i < x.cps.size, fun i H v H' => H' = H ∧ ∃ c, x.cps[i]? = some c ∧ v = .str ⟨#[c]⟩, fun i _ => x.cps.size ≤ i⟩
theorem turn_strT {P : Program} {w : World} {K : PySem.W.Frag} {tg : Expr} (x : Str) (t : Tok) (it : Addr) (ty : String) (hn : ["enumerate", "zip", "dict_itemiterator", "dict_reverseitemiterator", "odict_iterator", "itertools.zip_longest", "itertools.pairwise"].contains ty = false)
    (W : ∀ A : Around, A.handled = none → Walks P w A it [it] [it] x.cps.size (fun i v => ∃ c u, x.cps[i]? = some c ∧ v = .str ⟨#[c]⟩ u) (fun i h => h.IsStrIter it ty x t i)) (hend : ∀ (A : Around), A.handled = none → ∀ (i : Nat) (s : Shared) (Q : Option Value → Shared → Prop) (E : Value → Shared → Prop), s.heap.IsStrIter it ty x t i → x.cps[i]? = none → (∀ h', Heap.ExtBut it s.heap h' → Q none { s with heap := h' }) → wpAny (model P w) A (pyNext (.ref it)) Q E s)
    (hself : ∀ (A : Around) (i : Nat) (s : Shared) (Q : Value → Shared → Prop) (E : Value → Shared → Prop), s.heap.IsStrIter it ty x t i → Q (.ref it) s → wpAny (model P w) A (pyIter (.ref it)) Q E s) :
    Turn P w K tg (Its x) [it] it (fun i h => h.IsStrIter it ty x t i) where
  mem := by simp
  obj := fun i h st b hb => by
    rw [List.mem_singleton.mp hb]
    obtain ⟨o, e, c, d⟩ := st
    exact ⟨o, e, fun v z => by rw [d] at z; cases z⟩
  keep := fun i h h' st k => let ⟨o, e, r⟩ := st; ⟨o, k it (by simp) o e, r⟩
  item := by
    intro X hP hw hK hc i pins s σ H E I hf st hg
    subst hP hw hK
    obtain ⟨f0, f1, f2, f3, f4, f5⟩ := hf it (by simp)
    refine (W X.A (I.ok.hd hc)).item i s _ _ hg st fun v h' tk hv st' kk => ?_
    obtain ⟨c, u, hc', rfl⟩ := hv
    have I1 : Inv X pins σ H { s with heap := h', toks := tk } := I.turned (fun b o hb e => kk b o (by simpa using hb) e) f0 f1 f3 f4 f5
    obtain ⟨o, e, c1, d⟩ := id st'
    exact ⟨_, rfl, go_of (s := { s with heap := h', toks := tk }) e c1 d hn ⟨.str ⟨#[c]⟩, H, I1, ⟨u, rfl⟩, ⟨rfl, c, hc', rfl⟩, st', fun b hb => (hf b hb).1⟩⟩
  done := by
    intro X hP hw hK hc i pins s σ H E I hf st hg
    subst hP hw hK
    obtain ⟨f0, f1, f2, f3, f4, f5⟩ := hf it (by simp)
    have hx : x.cps.size ≤ i := hg
    exact hend X.A (I.ok.hd hc) i s _ _ st (by simp [hx]) fun h' eb => ⟨rfl, I.turned (t' := s.toks) (fun b o hb e => eb b o hb e) f0 f1 f3 f4 f5⟩
  self := fun A i s Q E st h => hself A i s Q E st h
theorem turn_str {P : Program} {w : World} {K : PySem.W.Frag} {tg : Expr} (x : Str) (t : Tok) (it : Addr) : Turn P w K tg (Its x) [it] it (fun i h => h.IsStrIter it (strIterType x) x t i) := by
  cases ha : x.cps.all (· < 128)
  · have e : strIterType x = "str_iterator" := by simp [strIterType, ha]
    rw [e]
    exact turn_strT x t it "str_iterator" (by decide) (fun A hA => Walks.strWide hA it x t) (fun A hA i s Q E st hx q => wpAny_pyNext_wide_end hA st hx q) fun A i s Q E st q => wpAny_pyIter_striter_wide st q
  · have e : strIterType x = "str_ascii_iterator" := by simp [strIterType, ha]
    rw [e]
    exact turn_strT x t it "str_ascii_iterator" (by decide) (fun A hA => Walks.strAscii hA it x t) (fun A hA i s Q E st hx q => wpAny_pyNext_ascii_end hA st hx q) fun A i s Q E st q => wpAny_pyIter_striter_ascii st q
section
variable {X : Cx} {tg l a b c : Expr} {tl ta tb tc : TE} {pos : Pos}
/-- a list, a tuple or a text that is walked -/
def iSeqA (K : PySem.W.Frag) (tl : TE) : TI := fun σ H R => tl σ H fun x H1 => (∃ a, x = .ref a ∧ (∃ xs, SqL K H1 a xs) ∧ R (Itl K a) H1) ∨ (∃ a, x = .ref a ∧ (∃ xs, SqT K H1 a xs) ∧ R (Itt K a) H1) ∨ ∃ z, x = .str z ∧ R (Its z) H1
theorem pi_seqA (hl : PE X l tl) : PI X tg l (iSeqA X.K tl) := by
  intro pins s σ H R I h
  refine thn (hl pins s σ H _ I h) fun v s1 ⟨x, H1, I1, r1, q1⟩ => ?_
  have fp1 : ∀ b ∈ [s1.heap.objs.size], FpOk X pins H1 b := fun b hb => by
    rw [List.mem_singleton.mp hb]
    exact I1.fpOk (Nat.le_refl _) (I1.hok.fresh (Nat.le_refl _))
  rcases q1 with ⟨a, e, ⟨xs, hq⟩, q⟩ | ⟨a, e, ⟨xs, hq⟩, q⟩ | ⟨z, e, q⟩
  · subst e
    cases r1
    obtain ⟨its, rv, p, hz⟩ := I1.list hq
    exact wpAny_pyIter_list p.isList ⟨s1.heap.objs.size, [s1.heap.objs.size], _, _, H1, rfl, I1.kept (t' := s1.toks) fun b o e => Heap.get?_push_of_some _ e, turn_list a _, ⟨_, Heap.get?_push_size _ rfl, rfl, rfl⟩, fp1, q⟩
  · subst e
    cases r1
    obtain ⟨its, rv, p, hz⟩ := I1.tuple hq
    exact wpAny_pyIter_tuple (show s1.heap.IsTuple a its.toArray from p) ⟨s1.heap.objs.size, [s1.heap.objs.size], _, _, H1, rfl, I1.kept (t' := s1.toks) fun b o e => Heap.get?_push_of_some _ e, turn_tuple a _, ⟨_, Heap.get?_push_size _ rfl, rfl, rfl⟩, fp1, q⟩
  · subst e
    obtain ⟨t, rfl⟩ := r1
    exact wpAny_pyIter_strU ⟨s1.heap.objs.size, [s1.heap.objs.size], _, _, H1, rfl, I1.kept (t' := s1.toks) fun b o e => Heap.get?_push_of_some _ e, turn_str z t _, ⟨_, Heap.get?_push_size _ rfl, rfl, rfl⟩, fp1, q⟩

/-! ### sum, all, any of a list -/
theorem kept_it {s : Shared} {h' : Heap} {o : Obj} (hk : ∀ b x, b ∉ [s.heap.objs.size] → (s.heap.push o).get? b = some x → h'.get? b = some x) (b : Addr) (x : Obj) (e : s.heap.get? b = some x) : h'.get? b = some x :=
  hk b x (fun hm => Nat.lt_irrefl _ (by have := Heap.lt_size e; rw [List.mem_singleton.mp hm] at this; exact this)) (Heap.get?_push_of_some _ e)
theorem call_sum (hc : X.calm = true) : CallR X (.builtin "sum") (fun xs H Q => ∃ p, ∃ ns : List Int, xs = [.ref p] ∧ SqL X.K H p (ns.map V.int) ∧ Q (.int ns.sum) H) := by
  intro pins s σ H xs us Q I rx h
  obtain ⟨p, ns, rfl, hq, q⟩ := h
  obtain ⟨u, rfl, ru⟩ := rx.one
  cases ru
  obtain ⟨its, rv, pl, hz⟩ := I.list hq
  have hl : p < s.heap.objs.size := by obtain ⟨_, e, _⟩ := pl.isList; exact Heap.lt_size e
  refine call_sum_walkG (wpAny_pyIter_list pl.isList ⟨s.heap.objs.size, [s.heap.objs.size, p], [s.heap.objs.size], its.toArray.size, _, _, fun i => (ns[i]?).getD 0, rfl, Walks.list (A := X.A.in1) (I.ok.hd hc) _ p (Nat.ne_of_lt hl) its.toArray,
    ⟨⟨_, Heap.get?_push_size _ rfl, rfl, rfl⟩, pl.isList.push _⟩, fun b hb => ?_, fun i v hP => ?_, fun h' tk t' hk => ⟨.int ns.sum, H, I.kept (kept_it hk), ⟨t', ?_⟩, q⟩⟩)
  · rw [Heap.size_push]
    rcases List.mem_cons.mp hb with rfl | hb
    · exact Nat.lt_succ_self _
    · rw [List.mem_singleton.mp hb]; exact Nat.lt_succ_of_lt hl
  · have hv : its[i]? = some v := by simpa using hP
    cases e : ns[i]? with
    | none =>
      have := rv.none_of (i := i) (by rw [List.getElem?_map, e]; rfl)
      rw [this] at hv; cases hv
    | some n =>
      obtain ⟨u, hu, ru⟩ := rv.get (i := i) (x := .int n) (by rw [List.getElem?_map, e]; rfl)
      rw [hu] at hv; cases hv
      obtain ⟨t, rfl⟩ := ru
      exact ⟨t, by simp [e]⟩
  · have hlen : its.toArray.size = ns.length := by have := rv.length; simp at this ⊢; omega
    have : ∀ k, k ≤ ns.length → preSum (fun i => (ns[i]?).getD 0) k = (ns.take k).sum := fun k => by
      induction k with
      | zero => intro _; simp [preSum]
      | succ k ih =>
        intro hk
        rw [List.take_succ, List.sum_append, preSum, ih (by omega)]
        cases e : ns[k]? <;> simp
    rw [hlen, this _ (Nat.le_refl _), List.take_length]
theorem call_all (hc : X.calm = true) : CallR X (.builtin "all") (fun xs H Q => ∃ p, ∃ bs : List Bool, xs = [.ref p] ∧ SqL X.K H p (bs.map V.bl) ∧ Q (.bl (bs.all id)) H) := by
  intro pins s σ H xs us Q I rx h
  obtain ⟨p, bs, rfl, hq, q⟩ := h
  obtain ⟨u, rfl, ru⟩ := rx.one
  cases ru
  obtain ⟨its, rv, pl, hz⟩ := I.list hq
  have hl : p < s.heap.objs.size := by obtain ⟨_, e, _⟩ := pl.isList; exact Heap.lt_size e
  refine call_all_walk (wpAny_pyIter_list pl.isList ⟨s.heap.objs.size, [s.heap.objs.size, p], [s.heap.objs.size], its.toArray.size, _, _, fun i => (bs[i]?).getD true, rfl, Walks.list (A := X.A.in1) (I.ok.hd hc) _ p (Nat.ne_of_lt hl) its.toArray,
    ⟨⟨_, Heap.get?_push_size _ rfl, rfl, rfl⟩, pl.isList.push _⟩, fun i v s' Q' E' hP hQ => ?_, fun h' tk hk => ⟨.bl (bs.all id), H, I.kept (kept_it hk), ?_, q⟩⟩)
  · have hv : its[i]? = some v := by simpa using hP
    cases e : bs[i]? with
    | none =>
      have := rv.none_of (i := i) (by rw [List.getElem?_map, e]; rfl)
      rw [this] at hv; cases hv
    | some n =>
      obtain ⟨u, hu, ru⟩ := rv.get (i := i) (x := .bl n) (by rw [List.getElem?_map, e]; rfl)
      rw [hu] at hv; cases hv
      cases ru
      simp only [e, Option.getD_some] at hQ
      exact wpAny_truthy_bool hQ
  · have hlen : its.toArray.size = bs.length := by have := rv.length; simp at this ⊢; omega
    rw [hlen, LSm.range_all]
    rfl
theorem call_any (hc : X.calm = true) : CallR X (.builtin "any") (fun xs H Q => ∃ p, ∃ bs : List Bool, xs = [.ref p] ∧ SqL X.K H p (bs.map V.bl) ∧ Q (.bl (bs.any id)) H) := by
  intro pins s σ H xs us Q I rx h
  obtain ⟨p, bs, rfl, hq, q⟩ := h
  obtain ⟨u, rfl, ru⟩ := rx.one
  cases ru
  obtain ⟨its, rv, pl, hz⟩ := I.list hq
  have hl : p < s.heap.objs.size := by obtain ⟨_, e, _⟩ := pl.isList; exact Heap.lt_size e
  refine call_any_walk (wpAny_pyIter_list pl.isList ⟨s.heap.objs.size, [s.heap.objs.size, p], [s.heap.objs.size], its.toArray.size, _, _, fun i => (bs[i]?).getD false, rfl, Walks.list (A := X.A.in1) (I.ok.hd hc) _ p (Nat.ne_of_lt hl) its.toArray,
    ⟨⟨_, Heap.get?_push_size _ rfl, rfl, rfl⟩, pl.isList.push _⟩, fun i v s' Q' E' hP hQ => ?_, fun h' tk hk => ⟨.bl (bs.any id), H, I.kept (kept_it hk), ?_, q⟩⟩)
  · have hv : its[i]? = some v := by simpa using hP
    cases e : bs[i]? with
    | none =>
      have := rv.none_of (i := i) (by rw [List.getElem?_map, e]; rfl)
      rw [this] at hv; cases hv
    | some n =>
      obtain ⟨u, hu, ru⟩ := rv.get (i := i) (x := .bl n) (by rw [List.getElem?_map, e]; rfl)
      rw [hu] at hv; cases hv
      cases ru
      simp only [e, Option.getD_some] at hQ
      exact wpAny_truthy_bool hQ
  · have hlen : its.toArray.size = bs.length := by have := rv.length; simp at this ⊢; omega
    rw [hlen, LSm.range_any]
    rfl
theorem op_gt_str : OpR X (compareOp .Gt) (fun x y H Q => ∃ i j, x = .str i ∧ y = .str j ∧ Q (.bl (decide (j.cps.toList < i.cps.toList))) H) := by
  intro pins s σ H x y v u Q I rx ry h
  obtain ⟨i, j, rfl, rfl, q⟩ := h
  obtain ⟨t, rfl⟩ := rx
  obtain ⟨t', rfl⟩ := ry
  exact PySem.P.gt_str ⟨.bl _, H, I, rfl, q⟩
theorem op_ge_str : OpR X (compareOp .GtE) (fun x y H Q => ∃ i j, x = .str i ∧ y = .str j ∧ Q (.bl (!decide (i.cps.toList < j.cps.toList))) H) := by
  intro pins s σ H x y v u Q I rx ry h
  obtain ⟨i, j, rfl, rfl, q⟩ := h
  obtain ⟨t, rfl⟩ := rx
  obtain ⟨t', rfl⟩ := ry
  exact PySem.P.ge_str ⟨.bl _, H, I, rfl, q⟩
end
end L2

set_option Elab.async false
set_option linter.all false
set_option maxRecDepth 100000
set_option maxHeartbeats 1000000
namespace VS
open PySem PySem.Spec PyProof.Rows L2
section
variable {G : Gx} {X : Cx} {a b c e tg : Expr} {es : List Expr} {ca cb cc : Ex} {cs : Exs} {pos p p1 p2 apos cpos : Pos} {k k' : Nat}
theorem it_str (H : Hp) (s : Tx) (ok : TxOk s) : ItOk G (L2.Its (sx s)) (s.map fun c => T.str [c]) [] H := by
  have sz : (sx s).cps.size = s.length := by simp [sx]
  refine ⟨fun H2 _ _ => ⟨fun i t h => ?_, fun i h => (by rw [List.length_map] at h; show (sx s).cps.size ≤ i; omega)⟩, fun a h => by simp at h⟩
  rw [List.getElem?_map] at h
  obtain ⟨c, hc, rfl⟩ := Option.map_eq_some_iff.mp h
  refine ⟨(by show i < (sx s).cps.size; have := (List.getElem?_eq_some_iff.mp hc).1; omega), fun x H3 ⟨e1, c', hc', e2⟩ => ?_⟩
  subst e1
  have : c' = c := by
    have h1 : (sx s).cps[i]? = some c := by simp [sx, hc]
    rw [h1] at hc'; exact (Option.some.inj hc').symm
  subst this
  rw [e2]
  exact ⟨Same.refl _, [], .str [c'] ⟨(by show 1 ≤ LINE; decide), fun d hd => by rw [List.mem_singleton.mp hd]; exact ok.2 c' (List.mem_of_getElem? hc)⟩, fun a h => by simp at h⟩
/-- lists, tuples, texts -/
theorem pvi_val (ha : PV G X a ca) (hK : X.K = G.K := by rfl) : PVI G X tg a (iVal ca) :=
  PI.weak (pi_seqA ha) fun σ H R ⟨Φ, η, m, l, s, e, k⟩ => by
    unfold iVal at e
    obtain ⟨⟨mx, x⟩, ea, e1⟩ := Option.bind_eq_some_iff.mp e
    refine ⟨Φ, η, mx, x, s, ea, fun v H' F e3 r3 f3 => ?_⟩
    cases x with
    | lst ts =>
      cases e1
      obtain ⟨a', vs, Fs, rfl, rfl, ha', ra⟩ := r3.lst_inv
      exact .inl ⟨a', rfl, ⟨vs, SqL.of ha'⟩, k _ H' _ e3 (it_list X.K ha' ra) f3.c⟩
    | tup ts =>
      cases e1
      obtain ⟨a', vs, Fs, rfl, rfl, ha', ra⟩ := r3.tup_inv
      exact .inr (.inl ⟨a', rfl, ⟨vs, SqT.of ha'⟩, k _ H' _ e3 (it_tup X.K ha' ra) f3.c⟩)
    | str z =>
      cases e1
      obtain ⟨rfl, ok⟩ := r3.str_inv
      exact .inr (.inr ⟨_, rfl, k _ H' [] e3 (it_str H' z ok) fun a h => by simp at h⟩)
    | _ => cases e1
/-! ### sum, all, any -/
theorem rp_ints {H : Hp} : ∀ {vs : List V} {l : List T} {Fs : List (List Addr)} {ss : List Int}, RpL G H vs l Fs → ints? l = some ss → vs = ss.map V.int
  | _, _, _, _, .nil, e => by cases e; rfl
  | _, _, _, _, .cons (t := t) r q, e => by
    cases t with
    | int s =>
      simp only [ints?] at e
      obtain ⟨ss', e1, e2⟩ := Option.map_eq_some_iff.mp e
      subst e2
      rw [rp_ints q e1, r.int_inv]
      rfl
    | _ => cases e
theorem rp_bools {H : Hp} : ∀ {vs : List V} {l : List T} {Fs : List (List Addr)} {ss : List Bool}, RpL G H vs l Fs → bools? l = some ss → vs = ss.map V.bl
  | _, _, _, _, .nil, e => by cases e; rfl
  | _, _, _, _, .cons (t := t) r q, e => by
    cases t with
    | bl s =>
      simp only [bools?] at e
      obtain ⟨ss', e1, e2⟩ := Option.map_eq_some_iff.mp e
      subst e2
      rw [rp_bools q e1, r.bl_inv]
      rfl
    | _ => cases e
theorem ok_sum : CallOk G (fun xs H Q => ∃ p, ∃ ns : List Int, xs = [.ref p] ∧ SqL G.K H p (ns.map V.int) ∧ Q (.int ns.sum) H) bSum := by
  intro Φ η H0 H l vs Fs m t Q A e k
  unfold bSum at e
  split at e
  · rename_i mx x
    obtain ⟨is, e1, e2⟩ := Option.bind_eq_some_iff.mp e
    cases e2
    obtain ⟨v, F, rfl, rfl, rx⟩ := (show RpL G H vs [.lst x] Fs from A.rp).one
    obtain ⟨a, ys, Gs, rfl, rfl, ha, ra⟩ := rx.lst_inv
    exact ⟨a, is, rfl, by rw [← rp_ints ra e1]; exact SqL.of ha, fin_of k (.int _)⟩
  · cases e
theorem ok_all : CallOk G (fun xs H Q => ∃ p, ∃ bs : List Bool, xs = [.ref p] ∧ SqL G.K H p (bs.map V.bl) ∧ Q (.bl (bs.all id)) H) bAll := by
  intro Φ η H0 H l vs Fs m t Q A e k
  unfold bAll at e
  split at e
  · rename_i mx x
    obtain ⟨is, e1, e2⟩ := Option.bind_eq_some_iff.mp e
    cases e2
    obtain ⟨v, F, rfl, rfl, rx⟩ := (show RpL G H vs [.lst x] Fs from A.rp).one
    obtain ⟨a, ys, Gs, rfl, rfl, ha, ra⟩ := rx.lst_inv
    exact ⟨a, is, rfl, by rw [← rp_bools ra e1]; exact SqL.of ha, fin_of k (.bl _)⟩
  · cases e
theorem ok_any : CallOk G (fun xs H Q => ∃ p, ∃ bs : List Bool, xs = [.ref p] ∧ SqL G.K H p (bs.map V.bl) ∧ Q (.bl (bs.any id)) H) bAny := by
  intro Φ η H0 H l vs Fs m t Q A e k
  unfold bAny at e
  split at e
  · rename_i mx x
    obtain ⟨is, e1, e2⟩ := Option.bind_eq_some_iff.mp e
    cases e2
    obtain ⟨v, F, rfl, rfl, rx⟩ := (show RpL G H vs [.lst x] Fs from A.rp).one
    obtain ⟨a, ys, Gs, rfl, rfl, ha, ra⟩ := rx.lst_inv
    exact ⟨a, is, rfl, by rw [← rp_bools ra e1]; exact SqL.of ha, fin_of k (.bl _)⟩
  · cases e
theorem bt_sum : bootBuiltins ("sum" : Str) = some (.builtin "sum") := by decide +kernel
theorem bt_all : bootBuiltins ("all" : Str) = some (.builtin "all") := by decide +kernel
theorem bt_any : bootBuiltins ("any" : Str) = some (.builtin "any") := by decide +kernel
theorem bt_tuple : bootBuiltins ("tuple" : Str) = some (.type "tuple") := by decide +kernel
theorem w_sum (hm : X.mg "sum" = none) (ha : PVs G X [e] cs) (hg : Gl X "sum" := by rfl) (hK : X.K = G.K := by rfl) (hc : X.calm = true := by rfl) (he : starEach [e] X.env = (false, eval e X.env) :: starEach [] X.env := by rfl) : PV G X (.Call (.Name "sum" p) [e] [] pos) (eN bSum cs) :=
  pv_callB (call_sum hc) (hK ▸ ok_sum) hg hm bt_sum ha (he := he) (hpl := rfl)
theorem w_all (hm : X.mg "all" = none) (ha : PVs G X [e] cs) (hg : Gl X "all" := by rfl) (hK : X.K = G.K := by rfl) (hc : X.calm = true := by rfl) (he : starEach [e] X.env = (false, eval e X.env) :: starEach [] X.env := by rfl) : PV G X (.Call (.Name "all" p) [e] [] pos) (eN bAll cs) :=
  pv_callB (call_all hc) (hK ▸ ok_all) hg hm bt_all ha (he := he) (hpl := rfl)
theorem w_any (hm : X.mg "any" = none) (ha : PVs G X [e] cs) (hg : Gl X "any" := by rfl) (hK : X.K = G.K := by rfl) (hc : X.calm = true := by rfl) (he : starEach [e] X.env = (false, eval e X.env) :: starEach [] X.env := by rfl) : PV G X (.Call (.Name "any" p) [e] [] pos) (eN bAny cs) :=
  pv_callB (call_any hc) (hK ▸ ok_any) hg hm bt_any ha (he := he) (hpl := rfl)
/-! ### tuple(list) -/
theorem ok_tuple : CallOk G (fun xs H Q => ∃ p ys, xs = [.ref p] ∧ ((SqL G.K H p ys ∧ ∀ l, H l = none → Q (.ref l) (upd H l (.tup ys))) ∨ (SqT G.K H p ys ∧ Q (.ref p) H))) bTupleL := by
  intro Φ η H0 H l vs Fs m t Q A e k
  unfold bTupleL at e
  split at e
  · rename_i mx x
    split at e
    · rename_i hl
      cases e
      obtain ⟨v, F, rfl, rfl, rx⟩ := (show RpL G H vs [.lst x] Fs from A.rp).one
      obtain ⟨a, ys, Gs, rfl, rfl, ha, ra⟩ := rx.lst_inv
      have f := (A.fp.each 0 _ _ rfl rfl).sub (List.sublist_cons_self _ _)
      refine ⟨a, ys, rfl, .inl ⟨SqL.of ha, fun q hq => ?_⟩⟩
      have sm : Same H (upd H q (.tup ys)) := same_new hq
      have r : Rp G (upd H q (.tup ys)) (.ref q) (.tup x) Gs.flatten := .tup upd_same (ra.same sm)
      exact k _ _ _ sm r (f.up r)
    · cases e
  · cases e
theorem w_tuple (hm : X.mg "tuple" = none) (ha : PVs G X [e] cs) (hg : Gl X "tuple" := by rfl) (hK : X.K = G.K := by rfl) (he : starEach [e] X.env = (false, eval e X.env) :: starEach [] X.env := by rfl) : PV G X (.Call (.Name "tuple" p) [e] [] pos) (eN bTupleL cs) :=
  pv_callTy call_tuple_of (hK ▸ ok_tuple) hg hm bt_tuple ha (he := he) (hpl := rfl)
/-! ### >, >=, a <= b <= c -/
def rGt : R2 := fun x y H Q => rI0 (fun i j => .bl (decide (j < i))) x y H Q ∨ (∃ i j, x = .str i ∧ y = .str j ∧ Q (.bl (decide (j.cps.toList < i.cps.toList))) H)
def rGe : R2 := fun x y H Q => rI0 (fun i j => .bl (decide (j ≤ i))) x y H Q ∨ (∃ i j, x = .str i ∧ y = .str j ∧ Q (.bl (!decide (i.cps.toList < j.cps.toList))) H)
theorem ltx_sx (s t : Tx) : decide ((sx s).cps.toList < (sx t).cps.toList) = ltx s t := by rw [ltx_eq]; exact decide_eq_decide.mpr (by simp [sx])
theorem ok_gt : OpOk G rGt oGt := by
  intro Φ η H0 H x y u w F1 F2 m t Q tw e k
  obtain ⟨m1, x⟩ := x
  obtain ⟨m2, y⟩ := y
  obtain ⟨same, r1, r2, f1, f2, nd⟩ := tw
  unfold oGt oLt at e
  split at e
  · rename_i e1 e2
    cases e1
    cases e2
    cases e
    exact .inl ⟨_, _, r1.int_inv, r2.int_inv, fin_of k (.bl _)⟩
  · rename_i s _ s' e1 e2
    cases e1
    cases e2
    cases e
    refine .inr ⟨_, _, r1.str_inv.1, r2.str_inv.1, ?_⟩
    rw [ltx_sx]
    exact fin_of k (.bl _)
  · cases e
theorem ok_ge : OpOk G rGe oGe := by
  intro Φ η H0 H x y u w F1 F2 m t Q tw e k
  obtain ⟨m1, x⟩ := x
  obtain ⟨m2, y⟩ := y
  obtain ⟨same, r1, r2, f1, f2, nd⟩ := tw
  unfold oGe oLe at e
  split at e
  · rename_i e1 e2
    cases e1
    cases e2
    cases e
    exact .inl ⟨_, _, r1.int_inv, r2.int_inv, fin_of k (.bl _)⟩
  · rename_i s _ s' e1 e2
    cases e1
    cases e2
    cases e
    refine .inr ⟨_, _, r1.str_inv.1, r2.str_inv.1, ?_⟩
    rw [ltx_sx]
    exact fin_of k (.bl _)
  · cases e
theorem tells_gt : Tells oGt := fun x y m t e => tells_lt y x m t e
theorem tells_ge : Tells oGe := fun x y m t e => tells_le y x m t e
theorem w_gt (ha : PV G X a ca) (hb : PV G X b cb) : PV G X (.Compare a [.Gt] [b] pos) (e2 oGt ca cb) := pv_cmp (r := rGt) (op_gt.or op_gt_str) ok_gt ha hb (nomark _)
theorem wt_gt (ha : PV G X a ca) (hb : PV G X b cb) : PVT G X (.Compare a [.Gt] [b] pos) (e2 oGt ca cb) := pvt_cmp (r := rGt) (op_gt.or op_gt_str) ok_gt tells_gt ha hb (nomark _)
theorem w_ge (ha : PV G X a ca) (hb : PV G X b cb) : PV G X (.Compare a [.GtE] [b] pos) (e2 oGe ca cb) := pv_cmp (r := rGe) (op_ge.or op_ge_str) ok_ge ha hb (nomark _)
theorem wt_ge (ha : PV G X a ca) (hb : PV G X b cb) : PVT G X (.Compare a [.GtE] [b] pos) (e2 oGe ca cb) := pvt_cmp (r := rGe) (op_ge.or op_ge_str) ok_ge tells_ge ha hb (nomark _)
theorem chain_of {r r' : R2} {f g : Val → Val → Option Val} (ok : OpOk G r f) (ok' : OpOk G r' g) {σ : L2.St} {H : Hp} {Q : VK} (h : tE G (eChain f g ca cb cc) σ H Q) : tChain r r' (tE G ca) (tE G cb) (tE G cc) σ H Q := by
  obtain ⟨Φ, η, m, t, s, e, k⟩ := h
  unfold eChain at e
  obtain ⟨x, ea, e⟩ := Option.bind_eq_some_iff.mp e
  obtain ⟨y, eb, e⟩ := Option.bind_eq_some_iff.mp e
  obtain ⟨⟨mz, z⟩, ez, e⟩ := Option.bind_eq_some_iff.mp e
  refine two_of s ea eb fun u w H2 F1 F2 tw => ok Φ η H H2 x y u w F1 F2 mz z _ tw ez fun v H3 F e1 r1 f1 => ?_
  cases z with
  | bl q =>
    refine ⟨q, r1.bl_inv, ?_⟩
    cases q with
    | false =>
      cases e
      rw [if_neg Bool.false_ne_true]
      exact k _ H3 [] (tw.same.trans e1) (.bl false) Fp.nil
    | true =>
      rw [if_pos rfl]
      obtain ⟨z2, ec, e⟩ := Option.bind_eq_some_iff.mp (show (cc η).bind (fun z => g y z) = some (m, t) from e)
      have sm := tw.same.trans e1
      refine ⟨Φ, η, z2.1, z2.2, s.same sm, ec, fun w2 H4 F4 e4 r4 f4 => ?_⟩
      refine ok' Φ η H H4 y z2 w w2 F2 F4 m t Q ⟨sm.trans e4, (tw.r2.same e1).same e4, r4, tw.f2, f4.back sm, fun hx hy => ?_⟩ e fun v' H5 F5 e5 r5 f5 => k v' H5 F5 ((sm.trans e4).trans e5) r5 f5
      have f2 := tw.f2
      rw [hx] at f2
      rw [hy] at f4
      refine List.nodup_append.mpr ⟨f2.1, f4.1, fun a ha b hb z => ?_⟩
      subst z
      exact Mut.ne_none ((tw.r2.same e1).dom a ha) (f4.2 a hb)
  | _ => cases e
theorem w_chain_le_le (ha : PV G X a ca) (hb : PV G X b cb) (hc : PV G X c cc) (hm : lastMarks [.LtE, .LtE] [b, c] = false := by with_unfolding_all rfl) : PV G X (.Compare a [.LtE, .LtE] [b, c] pos) (eChain oLe oLe ca cb cc) :=
  PE.weak (pe_chain op_leA op_leA ha hb hc hm) fun σ H Q h => chain_of ok_le ok_le h
theorem w_chain_le_lt (ha : PV G X a ca) (hb : PV G X b cb) (hc : PV G X c cc) (hm : lastMarks [.LtE, .Lt] [b, c] = false := by with_unfolding_all rfl) : PV G X (.Compare a [.LtE, .Lt] [b, c] pos) (eChain oLe oLt ca cb cc) :=
  PE.weak (pe_chain op_leA op_ltA ha hb hc hm) fun σ H Q h => chain_of ok_le ok_lt h
/-! ### module constants -/
theorem w_const {x : Str} {i : Int} (h : ∃ t, X.mg x = some (.int i t)) (hg : Gl X x := by rfl) (hd : (x == ("__debug__" : Str)) = false := by decide) : PV G X (.Name x pos) (eC (.int i)) := by
  obtain ⟨t, ht⟩ := h
  exact pv_glob (v := .int i) hg ht ⟨t, rfl⟩ (fun H => .int i) hd
/-! ### list * int, text * int -/
theorem RpL.rep {H : Hp} {vs : List V} {ts : List T} {Fs : List (List Addr)} (r : RpL G H vs ts Fs) (hF : Fs.flatten = []) : ∀ n : Nat, ∃ Gs, RpL G H (List.replicate n vs).flatten (List.replicate n ts).flatten Gs ∧ Gs.flatten = []
  | 0 => ⟨[], .nil, rfl⟩
  | n + 1 => by
    obtain ⟨Gs, h1, h2⟩ := RpL.rep r hF n
    exact ⟨Fs ++ Gs, by simpa [List.replicate_succ] using r.append h1, by rw [List.flatten_append, hF, h2]; rfl⟩
theorem imms_app : ∀ (a b : List T), imms (a ++ b) = (imms a && imms b)
  | [], b => by simp
  | x :: a, b => by simp [imms_app a b, Bool.and_assoc]
theorem imms_rep (s : List T) (h : imms s = true) : ∀ n : Nat, imms (List.replicate n s).flatten = true
  | 0 => rfl
  | n + 1 => by rw [List.replicate_succ, List.flatten_cons, imms_app, h, imms_rep s h n]; rfl
theorem ok_repL : OpOk G rRep oRepL := by
  intro Φ η H0 H x y u w F1 F2 m t Q tw e k
  obtain ⟨m1, x⟩ := x
  obtain ⟨m2, y⟩ := y
  obtain ⟨same, r1, r2, f1, f2, nd⟩ := tw
  unfold oRepL at e
  split at e
  · rename_i ts j e1 e2
    cases e1
    cases e2
    split at e
    · rename_i hc
      cases e
      obtain ⟨a, vs, Fs, rfl, rfl, ha, ra⟩ := r1.lst_inv
      obtain ⟨Gs, h1, h2⟩ := ra.rep (ra.imm hc.1) j.toNat
      have b1 := hc.2.2.1
      have b2 := hc.2.2.2
      unfold B62 at b1 b2
      refine ⟨a, j, vs, rfl, r2.int_inv, ha, by omega, by omega, by rw [ra.len.1]; exact hc.2.1, fun q hq => ?_⟩
      refine k _ _ (q :: Gs.flatten) (same_new hq) (.lst upd_same (h1.same (same_new hq))) ?_
      rw [h2]
      exact ⟨by simp, fun b hb => by rw [List.mem_singleton.mp hb]; exact same.free hq⟩
    · cases e
  · cases e
theorem w_repL (ha : PV G X a ca) (hb : PV G X b cb) : PV G X (.BinOp a .Mult b pos) (e2 oRepL ca cb) := pv_op op_rep ok_repL ha hb
end
end VS

set_option Elab.async false
set_option linter.all false
set_option maxRecDepth 100000
set_option maxHeartbeats 1000000
namespace L2
open PySem PySem.Spec PyProof.Rows
section
variable {X : Cx}
theorem foldl_arr {α : Type} (l : List α) (n : Nat) : ∀ acc : List α, List.foldl (fun x1 x2 => x1 ++ x2) acc.toArray (List.replicate n l.toArray) = (acc ++ (List.replicate n l).flatten).toArray := by
  induction n with
  | zero => intro acc; simp
  | succ n ih =>
    intro acc
    rw [List.replicate_succ, List.foldl_cons]
    have e : acc.toArray ++ l.toArray = (acc ++ l).toArray := by simp
    rw [e, ih (acc ++ l), List.replicate_succ, List.flatten_cons, List.append_assoc]
/-- a text times an int -/
theorem op_repS : OpR X (binaryOp .Mult) (fun x y H Q => ∃ (l : List Nat) (k : Int), x = .str ⟨l.toArray⟩ ∧ y = .int k ∧ -(2 ^ 62) ≤ k ∧ k < 2 ^ 62 ∧ l.length * k.toNat ≤ sizeLine ∧ Q (.str ⟨(List.replicate k.toNat l).flatten.toArray⟩) H) := by
  intro pins s σ H x y v u Q I rx ry h
  obtain ⟨l, k, rfl, rfl, h1, h2, hz, q⟩ := h
  obtain ⟨t, rfl⟩ := rx
  obtain ⟨t', rfl⟩ := ry
  have hlen : (⟨l.toArray⟩ : Str).length = l.length := by simp [Str.length]
  refine PySem.P.mul_str ?_ ?_ ?_ ?_
  · rw [Bool.or_eq_false_iff]
    exact ⟨decide_eq_false (by omega), decide_eq_false (by omega)⟩
  · intro h3 _ hh
    rw [hlen] at hh
    have hk : 0 < k := by omega
    have : (l.length : Int) * k ≤ 16777216 := by
      have hz' : l.length * k.toNat ≤ 16777216 := hz
      have : ((l.length * k.toNat : Nat) : Int) ≤ 16777216 := by omega
      rw [Int.natCast_mul] at this
      rwa [Int.toNat_of_nonneg (by omega)] at this
    have h5 : (l.length : Int) * k ≤ 2 ^ 63 - 1 := by omega
    have := (Int.le_ediv_iff_mul_le hk).mpr h5
    omega
  · intro _ _
    rw [hlen]
    exact decide_eq_false (by show ¬ _ > _; exact Nat.not_lt.mpr hz)
  · by_cases h3 : k < 1
    · rw [if_pos h3]
      have e : k.toNat = 0 := by omega
      rw [e] at q
      exact ⟨by decide, ⟨.str ⟨#[]⟩, H, I.tok _, ⟨_, rfl⟩, q⟩⟩
    · rw [if_neg h3]
      split
      · rename_i hc
        have e : (List.replicate k.toNat l).flatten = l := by
          rw [Bool.or_eq_true] at hc
          rcases hc with hc | hc
          · have : k = 1 := by simpa using hc
            subst this
            show (List.replicate 1 l).flatten = l
            simp
          · have : l = [] := by
              rw [hlen] at hc
              exact List.eq_nil_of_length_eq_zero (by simpa using hc)
            subst this
            simp
        rw [e] at q
        exact ⟨.str ⟨l.toArray⟩, H, I, ⟨t, rfl⟩, q⟩
      · have e := foldl_arr l k.toNat []
        rw [List.nil_append] at e
        rw [show (⟨l.toArray⟩ : Str).cps = l.toArray from rfl, e]
        refine ⟨?_, ⟨.str ⟨(List.replicate k.toNat l).flatten.toArray⟩, H, I.tok _, ⟨s.toks, rfl⟩, q⟩⟩
        have hl := len_rep l k.toNat
        show (⟨(List.replicate k.toNat l).flatten.toArray⟩ : Str).length ≤ sizeLine
        show ((List.replicate k.toNat l).flatten.toArray).size ≤ sizeLine
        rw [List.size_toArray, hl, Nat.mul_comm]
        exact hz
end
end L2
namespace VS
open PySem PySem.Spec PyProof.Rows L2
section
variable {G : Gx} {X : Cx} {a b c e tg : Expr} {es : List Expr} {ca cb cc : Ex} {cs : Exs} {pos p p1 p2 apos cpos : Pos} {k k' : Nat}
theorem ok_repS : OpOk G (fun x y H Q => ∃ (l : List Nat) (k : Int), x = .str ⟨l.toArray⟩ ∧ y = .int k ∧ -(2 ^ 62) ≤ k ∧ k < 2 ^ 62 ∧ l.length * k.toNat ≤ sizeLine ∧ Q (.str ⟨(List.replicate k.toNat l).flatten.toArray⟩) H) oRepS := by
  intro Φ η H0 H x y u w F1 F2 m t Q tw e k
  obtain ⟨m1, x⟩ := x
  obtain ⟨m2, y⟩ := y
  obtain ⟨same, r1, r2, f1, f2, nd⟩ := tw
  unfold oRepS at e
  split at e
  · rename_i _ ts _ j e1 e2
    cases e1
    cases e2
    split at e
    · rename_i hc
      cases e
      have b1 := hc.2.1
      have b2 := hc.2.2
      unfold B62 at b1 b2
      refine ⟨ts, j, r1.str_inv.1, r2.int_inv, by omega, by omega, hc.1, fin_of k (.str _ ⟨?_, fun c hc' => ?_⟩)⟩
      · rw [len_rep, Nat.mul_comm]; exact hc.1
      · obtain ⟨x, hx, hcx⟩ := List.mem_flatten.mp hc'
        rw [(List.mem_replicate.mp hx).2] at hcx
        exact r1.str_inv.2.2 c hcx
    · cases e
  · cases e
theorem w_repS (ha : PV G X a ca) (hb : PV G X b cb) : PV G X (.BinOp a .Mult b pos) (e2 oRepS ca cb) := pv_op op_repS ok_repS ha hb
/-- {} -/
theorem w_dct0 : PV G X (.Dict [] [] pos) (eDct 0 []) := PE.weak pe_dnewK fun σ H Q ⟨Φ, η, m, t, s, e, k⟩ => by
  cases (show some (Md.fr, T.dct 0 []) = some (m, t) from e)
  intro q hq
  have : Rp G (upd H q (.dK [])) (.ref q) (.dct 0 ((([] : List Key).map keyT).zip [])) (q :: ([] : List (List Addr)).flatten) := .dct upd_same rfl .nil
  exact k _ _ [q] (same_new hq) this ⟨by simp, fun b hb => by rw [List.mem_singleton.mp hb]; exact hq⟩
/-- {'a': 1} -/
theorem w_dct1 {x : Str} {t : Tx} {i : Int} {j j' : Nat} {q q' : Pos} (h : x = sx t) (hl : TxOk t) : PV G X (.Dict [some (.Constant (.str x) j q)] [.Constant (.int i) j' q'] pos) (eDct 0 [(eC (.str t), eC (.int i))]) :=
  PE.weak (pe_disp (pps_cons pe_str pe_int pps_nil) rfl rfl (by simp) (by show 1 ≤ 15; decide)) fun σ H Q ⟨Φ, η, m, r, s, e, k⟩ => by
    subst h
    cases (show some (Md.fr, T.dct 0 [(.str t, .int i)]) = some (m, r) from e)
    intro p hp
    refine ⟨upd_same, [(Sum.inr (sx t), .int i)], rfl, (by show 1 ≤ 15; decide), ?_⟩
    rw [upd_upd]
    have hk : keyT (Sum.inr (sx t)) = .str t := by simp [keyT, sx]
    have : Rp G (upd H p (.dK [(Sum.inr (sx t), V.int i)])) (.ref p) (.dct 0 ((([Sum.inr (sx t)] : List Key).map keyT).zip [.int i])) (p :: ([[]] : List (List Addr)).flatten) :=
      .dct (ks := [Sum.inr (sx t)]) (vs := [V.int i]) upd_same rfl (.cons (.int i) .nil)
    simp only [List.map_cons, List.map_nil, hk, List.zip_cons_cons, List.zip_nil_right] at this
    exact k _ _ _ (same_new hp) this ⟨by simp, fun b hb => by simp at hb; rw [hb]; exact hp⟩
end
end VS

set_option Elab.async false
set_option linter.all false
set_option maxRecDepth 100000
set_option maxHeartbeats 1000000
namespace VS
open PySem PySem.Spec PyProof.Rows L2
theorem scr_of {K : PySem.W.Frag} {H : Hp} {a : Addr} {ns : List Int} (hO : Only H) (hS : SqL K H a (ns.map V.int)) : ScrAt K H a ns := by
  rcases hS with h | h
  · rcases h with h | h
    · rcases hO a with z | ⟨o, xs, z⟩
      · rw [z] at h; cases h
      · rw [z] at h; cases h
    · exact .inl h
  · exact .inr h
theorem law_sp {G : Gx} {g : Fn} {H : Hp} {a : Addr} {ns : List Int} {E : XK} (hg : g [.scr ns] = some (.fr, .bl true)) (hO : Only H) (hS : SqL G.K H a (ns.map V.int)) : spF G g [.ref a] H (fun v _ => v = .bl true) E :=
  ⟨[.scr ns], [[]], .fr, .bl true, .cons (.scr (scr_of hO hS)) .nil, hg, fun v H' F _ r _ => r.bl_inv⟩
def gx0 (K : PySem.W.Frag) : Gx := ⟨K, fun _ => (0, fun _ => "")⟩
theorem vs_walk {l : PySem.W.OpenLaw} {q : Program} {loose : List Str} {XP : (Str → Option Value) → Heap → Prop} {YP : World → Heap → Prop} {d : DefRec} {K : Params → PySem.W.Frag} {g : Fn} {x : Str} {k : Nat} (hn : l.most = some 63) (hdf : d.params.defaults = []) (hr : Room k callerA)
    (hY : ∀ (w : World) (h : Heap), YP w h → (K w.params).In h) (hg : ∀ ns : List Int, g [.scr ns] = some (.fr, .bl true))
    (F : ∀ (w : World) (mg : Str → Option Value) (fa : Addr) (h : Heap), (K w.params).In h → h.Ns mainGlobals mg → mg d.name = some (.ref fa) →
      ∃ fd : FuncData, (∀ (s : Shared) (u : Value), BindsTo s fd ⟨[u], []⟩ [(x, u)]) ∧ ∀ base : Heap, (K w.params).In base → base.Ns mainGlobals mg → FnOk l.prog w (K w.params) mg base CX0 k fa fd [x] (spF (gx0 (K w.params)) g)) :
    PySem.W.WalkO q loose XP YP l.row.toRowW d [] (fun f vs => PySem.call f vs) :=
  L2.walk_of (n := 63) (k := k) (x := x) (CX := fun _ => CX0) (sp := fun w => spF (gx0 (K w.params)) g) hn (by decide) hdf hr hY F (fun w H a ns _ hO hS => law_sp (G := gx0 (K w.params)) (hg ns) hO hS) fun _ _ _ _ _ z => z
end VS

set_option Elab.async false
set_option linter.all false
set_option maxRecDepth 100000
set_option maxHeartbeats 1000000
/-! The rules once more, each judgement in a box, so that no type is opened while a link is read. -/
namespace VS
open PySem PySem.Spec PyProof.Rows L2
structure Q (p : Prop) : Prop where h : p
section
variable {G : Gx} {X : Cx} {a b c e tg iter elt : Expr} {es rest : List Expr} {ca cb cc ce : Ex} {cs : Exs} {pos pos' spos p p1 p2 apos cpos tpos : Pos} {k k' n i : Nat} {x : Str} {st : Stmt} {sts : List Stmt} {c1 c2 : Sx} {sc : Scope} {N : List Str} {ci : Its} {g : Tg} {elts : List Expr} {ps : List Str}
theorem q_pv_int {i j pos} : Q (PV G X (.Constant (.int i) j pos) (eC (.int i))) := ⟨pv_int⟩
theorem q_pv_bl {i j pos} : Q (PV G X (.Constant (.bool i) j pos) (eC (.bl i))) := ⟨pv_bl⟩
theorem q_pv_non {j pos} : Q (PV G X (.Constant .none j pos) (eC .non)) := ⟨pv_non⟩
theorem q_pv_str {x : Str} {t : Tx} {j pos} (h : x = sx t) (hl : TxOk t) : Q (PV G X (.Constant (.str x) j pos) (eC (.str t))) := ⟨pv_str h hl⟩
theorem q_pv_var (i : Nat) {x : Str} {pos : Pos} (hN : X.N[i]? = some x) (hv : Vis X.env.scope x) (hd : (x == ("__debug__" : Str)) = false) (hcd : (x == ("__classdict__" : Str)) = false) : Q (PV G X (.Name x pos) (eVar i)) := ⟨pv_var i hN hv hd hcd⟩
theorem q_pvs_nil  : Q (PVs G X [] xNil) := ⟨pvs_nil⟩
theorem q_pvs_cons (ha : Q (PV G X e ca)) (hr : Q (PVs G X es cs)) (hs : starEach (e :: es) X.env = (false, eval e X.env) :: starEach es X.env) : Q (PVs G X (e :: es) (xCons ca cs)) := ⟨pvs_cons ha.h hr.h hs⟩
theorem q_pv_lst (h : Q (PVs G X es cs)) : Q (PV G X (.List es pos) (eLst cs)) := ⟨pv_lst h.h⟩
theorem q_pv_tup {x1} (h : Q (PVs G X es cs)) : Q (PV G X (.Tuple es x1 pos) (eTup cs)) := ⟨pv_tup h.h⟩
theorem q_pvt_val (h : Q (PV G X a ca)) (hK : X.K = G.K) (he : ∀ whole, isTrue a X.env whole = (do let v ← whole; standAt a.pos; holding [v] (truthy v))) : Q (PVT G X a ca) := ⟨pvt_val h.h hK he⟩
theorem q_PVW_pvt (h : Q (PVW G X e ca)) : Q (PVT G X e ca) := ⟨PVW.pvt h.h⟩
theorem q_pvw_and1 (ha : Q (PVT G X a ca)) : Q (PVW G X (.BoolOp .And [a] pos) ca) := ⟨pvw_and1 ha.h⟩
theorem q_pvw_or1 (ha : Q (PVT G X a ca)) : Q (PVW G X (.BoolOp .Or [a] pos) ca) := ⟨pvw_or1 ha.h⟩
theorem q_pvw_and (ha : Q (PVT G X a ca)) (hb : Q (PVW G X (.BoolOp .And (b :: rest) pos) cb)) : Q (PVW G X (.BoolOp .And (a :: b :: rest) pos) (eAnd ca cb)) := ⟨pvw_and ha.h hb.h⟩
theorem q_pvw_or (ha : Q (PVT G X a ca)) (hb : Q (PVW G X (.BoolOp .Or (b :: rest) pos) cb)) : Q (PVW G X (.BoolOp .Or (a :: b :: rest) pos) (eOr ca cb)) := ⟨pvw_or ha.h hb.h⟩
theorem q_pvt_not (ha : Q (PVT G X a ca)) : Q (PVT G X (.UnaryOp .Not a pos) (eNot ca)) := ⟨pvt_not ha.h⟩
theorem q_pv_not (ha : Q (PV G X a ca)) : Q (PV G X (.UnaryOp .Not a pos) (eNot ca)) := ⟨pv_not ha.h⟩
theorem q_pv_one {op} (h : Q (PV G X a ca)) : Q (PV G X (.BoolOp op [a] pos) ca) := ⟨pv_one h.h⟩
theorem q_pv_and (ha : Q (PV G X a ca)) (hb : Q (PV G X (.BoolOp .And (b :: rest) pos) cb)) : Q (PV G X (.BoolOp .And (a :: b :: rest) pos) (eAnd ca cb)) := ⟨pv_and ha.h hb.h⟩
theorem q_pv_or (ha : Q (PV G X a ca)) (hb : Q (PV G X (.BoolOp .Or (b :: rest) pos) cb)) : Q (PV G X (.BoolOp .Or (a :: b :: rest) pos) (eOr ca cb)) := ⟨pv_or ha.h hb.h⟩
theorem q_pv_if (hc : Q (PVT G X c cc)) (ha : Q (PV G X a ca)) (hb : Q (PV G X b cb)) : Q (PV G X (.IfExp c a b pos) (eIf cc ca cb)) := ⟨pv_if hc.h ha.h hb.h⟩
theorem q_pv_isN {j pos'} (ha : Q (PV G X a ca)) : Q (PV G X (.Compare a [.Is] [.Constant .none j pos'] pos) (eIsN ca)) := ⟨pv_isN ha.h⟩
theorem q_pv_notN {j pos'} (ha : Q (PV G X a ca)) : Q (PV G X (.Compare a [.IsNot] [.Constant .none j pos'] pos) (eNotN ca)) := ⟨pv_notN ha.h⟩
theorem q_pvo_none  : Q (PVO G X none none) := ⟨pvo_none⟩
theorem q_pvo_some (h : Q (PV G X a ca)) : Q (PVO G X (some a) (some ca)) := ⟨pvo_some h.h⟩
theorem q_pv_slice {lo hi : Option Expr} {cl ch : Option Ex} {p2 : Pos} (ha : Q (PV G X a ca)) (hl : Q (PVO G X lo cl)) (hh : Q (PVO G X hi ch)) (hK : X.K = G.K) : Q (PV G X (.Subscript a (.Slice lo hi none p2) pos) (eSl ca cl ch)) := ⟨pv_slice ha.h hl.h hh.h hK⟩
theorem q_pv_join {apos cpos : Pos} (ho : Q (PV G X a ca)) (ha : Q (PVs G X [e] cs)) (hK : X.K = G.K) (hbase : attributeBase a "join" X.env (eval a X.env) = eval a X.env) (hfew : ((backTo cpos (starEach [e] X.env)).all (fun x => !x.1) && (backToKw cpos (keywordEach [] X.env)).all (fun x => x.1.isSome)
      && decide ([e].length + ([] : List Keyword).length + (if ([] : List Keyword).isEmpty then 0 else 1) < 30)) = true) (hline : (apos.endLine == cpos.line) = true) (hs : starEach [e] X.env = (false, eval e X.env) :: starEach [] X.env) (hplain : (backTo cpos (starEach [] X.env)).any (·.1) = false) : Q (PV G X (.Call (.Attribute a "join" apos) [e] [] cpos) (eM mJoin ca cs)) := ⟨pv_join ho.h ha.h hK hbase hfew hline hs hplain⟩
theorem q_psv_nil  : Q (PSVs G X [] sNil) := ⟨psv_nil⟩
theorem q_psv_cons (h1 : Q (PSV G X st c1)) (h2 : Q (PSVs G X sts c2)) : Q (PSVs G X (st :: sts) (sCons c1 c2)) := ⟨psv_cons h1.h h2.h⟩
theorem q_psv_one (h1 : Q (PSV G X st c1)) : Q (PSVs G X [st] c1) := ⟨psv_one h1.h⟩
theorem q_psv_pass  : Q (PSV G X (.Pass pos) sNil) := ⟨psv_pass⟩
theorem q_psv_break  : Q (PSV G X (.Break pos) sBrk) := ⟨psv_break⟩
theorem q_psv_continue  : Q (PSV G X (.Continue pos) sCont) := ⟨psv_continue⟩
theorem q_psv_if {t : Expr} {ct : Ex} {a b : List Stmt} (hc : Q (PVT G X t ct)) (ha : Q (PSVs G X a c1)) (hb : Q (PSVs G X b c2)) : Q (PSV G X (.If t a b pos) (sIf ct c1 c2)) := ⟨psv_if hc.h ha.h hb.h⟩
theorem q_psv_retN  : Q (PSV G X (.Return none pos) sRetN) := ⟨psv_retN⟩
theorem q_psv_ret (he : Q (PV G X e ce)) : Q (PSV G X (.Return (some e) pos) (sRet ce)) := ⟨psv_ret he.h⟩
theorem q_psv_retV (i : Nat) {x : Str} {p : Pos} (hN : X.N[i]? = some x) (hv : Vis X.env.scope x) (hd : (x == ("__debug__" : Str)) = false) (hcd : (x == ("__classdict__" : Str)) = false) : Q (PSV G X (.Return (some (.Name x p)) pos) (sRetV i)) := ⟨psv_retV i hN hv hd hcd⟩
theorem q_psv_set {i : Nat} {x : Str} {pos' : Pos} (he : Q (PV G X e ce)) (hN : X.N.Nodup) (hi : X.N[i]? = some x) (hx : Loc X.env.scope x) (hs : swapsWith e (some (.Name x pos')) pos.line X.env = pure false) (hf : X.fn x = true ∨ X.env.scope.names.lookup x = some .local) : Q (PSV G X (.Assign [.Name x pos'] e pos) (sSet i ce)) := ⟨psv_set he.h hN hi hx hs hf⟩
theorem q_psv_setP {i : Nat} {x : Str} {pos' : Pos} (he : Q (PV G X e ce)) (hN : X.N.Nodup) (hi : X.N[i]? = some x) (hx : Loc X.env.scope x) (hs : swapsWith e (some (.Name x pos')) pos.line X.env = pure false) (hf : X.fn x = true ∨ X.env.scope.names.lookup x = some .local) : Q (PSV G X (.Assign [.Name x pos'] e pos) (sSetP i ce)) := ⟨psv_setP he.h hN hi hx hs hf⟩
theorem q_psv_frz {c : Sx} (i : Nat) (h : Q (PSVs G X sts c)) : Q (PSVs G X sts (sCons (sFrz i) c)) := ⟨psv_frz i h.h⟩
theorem q_pvi_range1 (ha : Q (PV G X a ca)) (hg : Gl X "range") (hm : X.mg "range" = none) (hs : starEach [a] X.env = (false, eval a X.env) :: starEach [] X.env) (hs' : starEach [a] X.env = [(false, eval a X.env)]) : Q (PVI G X tg (.Call (.Name "range" p) [a] [] pos) (iRange1 ca)) := ⟨pvi_range1 ha.h hg hm hs hs'⟩
theorem q_pvi_range2 (ha : Q (PV G X a ca)) (hb : Q (PV G X b cb)) (hg : Gl X "range") (hm : X.mg "range" = none) (hs : starEach [a, b] X.env = (false, eval a X.env) :: starEach [b] X.env) (hs' : starEach [a, b] X.env = [(false, eval a X.env), (false, eval b X.env)]) (hs1 : starEach [b] X.env = (false, eval b X.env) :: starEach [] X.env) (hs2 : starEach [b] X.env = [(false, eval b X.env)]) : Q (PVI G X tg (.Call (.Name "range" p) [a, b] [] pos) (iRange2 ca cb)) := ⟨pvi_range2 ha.h hb.h hg hm hs hs' hs1 hs2⟩
theorem q_pvg_name (i : Nat) {x : Str} (hN : X.N.Nodup) (hi : X.N[i]? = some x) (hx : Loc X.env.scope x) (hf : X.fn x = true ∨ X.env.scope.names.lookup x = some .local) : Q (PVG G X (.Name x pos) (gVar i)) := ⟨pvg_name i hN hi hx hf⟩
theorem q_pvgs_nil  : Q (PVGs G X [] []) := ⟨pvgs_nil⟩
theorem q_pvgs_cons {g : Tg} {gs : List Tg} (h1 : Q (PVG G X e g)) (h2 : Q (PVGs G X es gs)) (hs : (assignEach (e :: es) X.env).map (·.2) = assign e X.env :: (assignEach es X.env).map (·.2)) : Q (PVGs G X (e :: es) (g :: gs)) := ⟨pvgs_cons h1.h h2.h hs⟩
theorem q_pvg_tup {gs : List Tg} {k : Nat} (hc : X.calm = true) (h : Q (PVGs G X es gs)) (hn : (assignEach es X.env).length = gs.length) (hst : (assignEach es X.env).findIdx? (·.1) = none) (hK : X.K = G.K) : Q (PVG G X (.Tuple es k pos) (gTup gs)) := ⟨pvg_tup hc h.h hn hst hK⟩
theorem q_psv_for {iter : Expr} {body : List Stmt} {ci : Its} {g : Tg} {cb : Sx} (hp : PassesOwn (model X.prog X.w) X.A X.env X.xe) (hc : X.calm = true) (hi : Q (PVI G X tg iter ci)) (hg : Q (PVG G X tg g)) (hb : Q (PSVs G X body cb)) (hs : ∀ x, foldedSetIterable iter X.env x = pure x) : Q (PSV G X (.For tg iter body [] pos) (sFor g ci cb)) := ⟨psv_for hp hc hi.h hg.h hb.h hs⟩
theorem q_pv_comp (k : Nat) (N : List Str) (hcalm : X.calm = true) (hi : Q (PVI G X tg iter ci)) (hin : TgIn k g) (hg : ∀ cl C s H fp, Q (PVG G (compCx X N sc cl C s H fp) tg g)) (he : ∀ cl C s H fp, Q (PV G (compCx X N sc cl C s H fp) elt ce)) (hsc : scOk X.env sc = true) (hnm : nmOk sc (N.drop k) X.N = true) (hNl : k ≤ N.length) (hs : ∀ x, foldedSetIterable iter X.env x = pure x) : Q (PV G X (.ListComp elt [⟨tg, iter, [], 0⟩] sc pos) (eComp k g ci none ce)) := ⟨pv_comp k N hcalm hi.h hin (fun cl C s H fp => (hg cl C s H fp).h) (fun cl C s H fp => (he cl C s H fp).h) hsc hnm hNl hs⟩
theorem q_pv_compIf (k : Nat) (N : List Str) (hcalm : X.calm = true) (hi : Q (PVI G X tg iter ci)) (hin : TgIn k g) (hg : ∀ cl C s H fp, Q (PVG G (compCx X N sc cl C s H fp) tg g)) (hc : ∀ cl C s H fp, Q (PVT G (compCx X N sc cl C s H fp) c cc)) (he : ∀ cl C s H fp, Q (PV G (compCx X N sc cl C s H fp) elt ce)) (hsc : scOk X.env sc = true) (hnm : nmOk sc (N.drop k) X.N = true) (hNl : k ≤ N.length) (hs : ∀ x, foldedSetIterable iter X.env x = pure x) : Q (PV G X (.ListComp elt [⟨tg, iter, [c], 0⟩] sc pos) (eComp k g ci (some cc) ce)) := ⟨pv_compIf k N hcalm hi.h hin (fun cl C s H fp => (hg cl C s H fp).h) (fun cl C s H fp => (hc cl C s H fp).h) (fun cl C s H fp => (he cl C s H fp).h) hsc hnm hNl hs⟩
theorem q_psv_setC (k : Nat) (N : List Str) {cS : Sx} (hS : ∀ D σ H, tS G cS D σ H → tE G (eComp k g ci none ce) σ H fun v H1 => D.nx (σ.set i (some v)) H1) (hcalm : X.calm = true) (hi : Q (PVI G X tg iter ci)) (hin : TgIn k g) (hg : ∀ cl C s H fp, Q (PVG G (compCx X N sc cl C s H fp) tg g)) (he : ∀ cl C s H fp, Q (PV G (compCx X N sc cl C s H fp) elt ce)) (hN : X.N.Nodup) (hiN : X.N[i]? = some x) (hx : Loc X.env.scope x) (hsc : scOk X.env sc = true) (hnm : nmOk sc (N.drop k) X.N = true) (hNl : k ≤ N.length) (hsw : swapsWith (.ListComp elt [⟨tg, iter, [], 0⟩] sc pos) (some (.Name x pos')) spos.line X.env = pure true) (hf : X.fn x = true ∨ X.env.scope.names.lookup x = some .local) (hs : ∀ x, foldedSetIterable iter X.env x = pure x) : Q (PSV G X (.Assign [.Name x pos'] (.ListComp elt [⟨tg, iter, [], 0⟩] sc pos) spos) cS) := ⟨psv_setC k N hS hcalm hi.h hin (fun cl C s H fp => (hg cl C s H fp).h) (fun cl C s H fp => (he cl C s H fp).h) hN hiN hx hsc hnm hNl hsw hf hs⟩
theorem q_psv_setCIf (k : Nat) (N : List Str) {cS : Sx} (hS : ∀ D σ H, tS G cS D σ H → tE G (eComp k g ci (some cc) ce) σ H fun v H1 => D.nx (σ.set i (some v)) H1) (hcalm : X.calm = true) (hi : Q (PVI G X tg iter ci)) (hin : TgIn k g) (hg : ∀ cl C s H fp, Q (PVG G (compCx X N sc cl C s H fp) tg g)) (hc : ∀ cl C s H fp, Q (PVT G (compCx X N sc cl C s H fp) c cc)) (he : ∀ cl C s H fp, Q (PV G (compCx X N sc cl C s H fp) elt ce)) (hN : X.N.Nodup) (hiN : X.N[i]? = some x) (hx : Loc X.env.scope x) (hsc : scOk X.env sc = true) (hnm : nmOk sc (N.drop k) X.N = true) (hNl : k ≤ N.length) (hsw : swapsWith (.ListComp elt [⟨tg, iter, [c], 0⟩] sc pos) (some (.Name x pos')) spos.line X.env = pure true) (hf : X.fn x = true ∨ X.env.scope.names.lookup x = some .local) (hs : ∀ x, foldedSetIterable iter X.env x = pure x) : Q (PSV G X (.Assign [.Name x pos'] (.ListComp elt [⟨tg, iter, [c], 0⟩] sc pos) spos) cS) := ⟨psv_setCIf k N hS hcalm hi.h hin (fun cl C s H fp => (hg cl C s H fp).h) (fun cl C s H fp => (hc cl C s H fp).h) (fun cl C s H fp => (he cl C s H fp).h) hN hiN hx hsc hnm hNl hsw hf hs⟩
theorem q_pvi_enum (ha : Q (PV G X a ca)) (hg : Gl X "enumerate") (hm : X.mg "enumerate" = none) (hs : starEach [a] X.env = (false, eval a X.env) :: starEach [] X.env) (hs' : starEach [a] X.env = [(false, eval a X.env)]) : Q (PVI G X (.Tuple elts n tpos) (.Call (.Name "enumerate" p) [a] [] pos) (iEnum ca)) := ⟨pvi_enum ha.h hg hm hs hs'⟩
theorem q_w_add (ha : Q (PV G X a ca)) (hb : Q (PV G X b cb)) : Q (PV G X (.BinOp a .Add b pos) (e2 oAdd ca cb)) := ⟨w_add ha.h hb.h⟩
theorem q_w_sub (ha : Q (PV G X a ca)) (hb : Q (PV G X b cb)) : Q (PV G X (.BinOp a .Sub b pos) (e2 oSub ca cb)) := ⟨w_sub ha.h hb.h⟩
theorem q_w_mul (ha : Q (PV G X a ca)) (hb : Q (PV G X b cb)) : Q (PV G X (.BinOp a .Mult b pos) (e2 oMul ca cb)) := ⟨w_mul ha.h hb.h⟩
theorem q_w_fdiv (ha : Q (PV G X a ca)) (hb : Q (PV G X b cb)) : Q (PV G X (.BinOp a .FloorDiv b pos) (e2 oFdiv ca cb)) := ⟨w_fdiv ha.h hb.h⟩
theorem q_w_mod (ha : Q (PV G X a ca)) (hb : Q (PV G X b cb)) : Q (PV G X (.BinOp a .Mod b pos) (e2 oMod ca cb)) := ⟨w_mod ha.h hb.h⟩
theorem q_w_lt (ha : Q (PV G X a ca)) (hb : Q (PV G X b cb)) : Q (PV G X (.Compare a [.Lt] [b] pos) (e2 oLt ca cb)) := ⟨w_lt ha.h hb.h⟩
theorem q_wt_lt (ha : Q (PV G X a ca)) (hb : Q (PV G X b cb)) : Q (PVT G X (.Compare a [.Lt] [b] pos) (e2 oLt ca cb)) := ⟨wt_lt ha.h hb.h⟩
theorem q_w_le (ha : Q (PV G X a ca)) (hb : Q (PV G X b cb)) : Q (PV G X (.Compare a [.LtE] [b] pos) (e2 oLe ca cb)) := ⟨w_le ha.h hb.h⟩
theorem q_wt_le (ha : Q (PV G X a ca)) (hb : Q (PV G X b cb)) : Q (PVT G X (.Compare a [.LtE] [b] pos) (e2 oLe ca cb)) := ⟨wt_le ha.h hb.h⟩
theorem q_w_eq (hr : Room k X.A) (ha : Q (PV G X a ca)) (hb : Q (PV G X b cb)) : Q (PV G X (.Compare a [.Eq] [b] pos) (e2 oEq ca cb)) := ⟨w_eq hr ha.h hb.h⟩
theorem q_wt_eq (hr : Room k X.A) (ha : Q (PV G X a ca)) (hb : Q (PV G X b cb)) : Q (PVT G X (.Compare a [.Eq] [b] pos) (e2 oEq ca cb)) := ⟨wt_eq hr ha.h hb.h⟩
theorem q_w_ne (hr : Room k X.A) (ha : Q (PV G X a ca)) (hb : Q (PV G X b cb)) : Q (PV G X (.Compare a [.NotEq] [b] pos) (e2 oNe ca cb)) := ⟨w_ne hr ha.h hb.h⟩
theorem q_wt_ne (hr : Room k X.A) (ha : Q (PV G X a ca)) (hb : Q (PV G X b cb)) : Q (PVT G X (.Compare a [.NotEq] [b] pos) (e2 oNe ca cb)) := ⟨wt_ne hr ha.h hb.h⟩
theorem q_w_idx (ha : Q (PV G X a ca)) (hb : Q (PV G X b cb)) (hs : PlainIx b) (hK : X.K = G.K) : Q (PV G X (.Subscript a b pos) (e2 oIdx ca cb)) := ⟨w_idx ha.h hb.h hs hK⟩
theorem q_w_len (hm : X.mg "len" = none) (ha : Q (PVs G X [e] cs)) (hg : Gl X "len") (hK : X.K = G.K) (he : starEach [e] X.env = (false, eval e X.env) :: starEach [] X.env) : Q (PV G X (.Call (.Name "len" p) [e] [] pos) (eN bLen cs)) := ⟨w_len hm ha.h hg hK he⟩
theorem q_w_max2 (hm : X.mg "max" = none) (ha : Q (PVs G X [a, b] cs)) (hc : X.calm = true) (hg : Gl X "max") (he : starEach [a, b] X.env = (false, eval a X.env) :: starEach [b] X.env) (hpl : (backTo pos (starEach [b] X.env)).any (·.1) = false) : Q (PV G X (.Call (.Name "max" p) [a, b] [] pos) (eN bMax2 cs)) := ⟨w_max2 hm ha.h hc hg he hpl⟩
theorem q_w_min2 (hm : X.mg "min" = none) (ha : Q (PVs G X [a, b] cs)) (hc : X.calm = true) (hg : Gl X "min") (he : starEach [a, b] X.env = (false, eval a X.env) :: starEach [b] X.env) (hpl : (backTo pos (starEach [b] X.env)).any (·.1) = false) : Q (PV G X (.Call (.Name "min" p) [a, b] [] pos) (eN bMin2 cs)) := ⟨w_min2 hm ha.h hc hg he hpl⟩
theorem q_w_list (hm : X.mg "list" = none) (ha : Q (PVs G X [e] cs)) (hg : Gl X "list") (hK : X.K = G.K) (he : starEach [e] X.env = (false, eval e X.env) :: starEach [] X.env) : Q (PV G X (.Call (.Name "list" p) [e] [] pos) (eN bList cs)) := ⟨w_list hm ha.h hg hK he⟩
theorem q_w_is (t : Ty) (hm : X.mg "isinstance" = none) (hm2 : X.mg (tyN t) = none) (ha : Q (PV G X a ca)) (hg : Gl X "isinstance") (hg2 : Gl X (tyN t)) (hK : X.K = G.K) (hs : starEach [a, .Name (tyN t) p2] X.env = (false, eval a X.env) :: starEach [.Name (tyN t) p2] X.env) : Q (PV G X (.Call (.Name "isinstance" p1) [a, .Name (tyN t) p2] [] pos) (eIs t ca)) := ⟨w_is t hm hm2 ha.h hg hg2 hK hs⟩
theorem q_w_ends (ho : Q (PV G X a ca)) (ha : Q (PVs G X [e] cs)) (hK : X.K = G.K) (hbase : attributeBase a "endswith" X.env (eval a X.env) = eval a X.env) (hfew : ((backTo cpos (starEach [e] X.env)).all (fun x => !x.1) && (backToKw cpos (keywordEach [] X.env)).all (fun x => x.1.isSome)
      && decide ([e].length + ([] : List Keyword).length + (if ([] : List Keyword).isEmpty then 0 else 1) < 30)) = true) (hline : (apos.endLine == cpos.line) = true) (hs : starEach [e] X.env = (false, eval e X.env) :: starEach [] X.env) (hplain : (backTo cpos (starEach [] X.env)).any (·.1) = false) : Q (PV G X (.Call (.Attribute a "endswith" apos) [e] [] cpos) (eM mEnds ca cs)) := ⟨w_ends ho.h ha.h hK hbase hfew hline hs hplain⟩
theorem q_w_append (i : Nat) {x : Str} (ha : Q (PVs G X [e] cs)) (hK : X.K = G.K) (hN : X.N[i]? = some x) (hv : Vis X.env.scope x) (hd : (x == ("__debug__" : Str)) = false) (hcd : (x == ("__classdict__" : Str)) = false) (hfew : ((backTo cpos (starEach [e] X.env)).all (fun x => !x.1) && (backToKw cpos (keywordEach [] X.env)).all (fun x => x.1.isSome)
      && decide ([e].length + ([] : List Keyword).length + (if ([] : List Keyword).isEmpty then 0 else 1) < 30)) = true) (hline : (apos.endLine == cpos.line) = true) (hs : starEach [e] X.env = (false, eval e X.env) :: starEach [] X.env) : Q (PSV G X (.Expr (.Call (.Attribute (.Name x p1) "append" apos) [e] [] cpos) pos) (sX (xMut i [] mAppend cs))) := ⟨w_append i ha.h hK hN hv hd hcd hfew hline hs⟩
theorem q_w_extend (i : Nat) {x : Str} (ha : Q (PVs G X [e] cs)) (hK : X.K = G.K) (hN : X.N[i]? = some x) (hv : Vis X.env.scope x) (hd : (x == ("__debug__" : Str)) = false) (hcd : (x == ("__classdict__" : Str)) = false) (hfew : ((backTo cpos (starEach [e] X.env)).all (fun x => !x.1) && (backToKw cpos (keywordEach [] X.env)).all (fun x => x.1.isSome)
      && decide ([e].length + ([] : List Keyword).length + (if ([] : List Keyword).isEmpty then 0 else 1) < 30)) = true) (hline : (apos.endLine == cpos.line) = true) (hs : starEach [e] X.env = (false, eval e X.env) :: starEach [] X.env) : Q (PSV G X (.Expr (.Call (.Attribute (.Name x p1) "extend" apos) [e] [] cpos) pos) (sX (xMut i [] mExtend cs))) := ⟨w_extend i ha.h hK hN hv hd hcd hfew hline hs⟩
theorem q_w_call {g : Fn} (F : FnAt X.prog X.w X.K X.mg X.base k x ps G g) (hr : Room k' X.A) (ha : Q (PVs G X (e :: es) cs)) (hk : k ≤ k') (hg : Gl X x) (hdb : (x == ("__debug__" : Str)) = false) (he : starEach (e :: es) X.env = (false, eval e X.env) :: starEach es X.env) (hpl : (backTo pos (starEach es X.env)).any (·.1) = false) : Q (PV G X (.Call (.Name x p) (e :: es) [] pos) (eCall g cs)) := ⟨w_call F hr ha.h hk hg hdb he hpl⟩
theorem q_w_call0 {g : Fn} (F : FnAt X.prog X.w X.K X.mg X.base k x ps G g) (hr : Room k' X.A) (hk : k ≤ k') (hg : Gl X x) (hdb : (x == ("__debug__" : Str)) = false) : Q (PV G X (.Call (.Name x p) [] [] pos) (eCall g xNil)) := ⟨w_call0 F hr hk hg hdb⟩
theorem q_pvi_val (ha : Q (PV G X a ca)) (hK : X.K = G.K) : Q (PVI G X tg a (iVal ca)) := ⟨pvi_val ha.h hK⟩
theorem q_w_sum (hm : X.mg "sum" = none) (ha : Q (PVs G X [e] cs)) (hg : Gl X "sum") (hK : X.K = G.K) (hc : X.calm = true) (he : starEach [e] X.env = (false, eval e X.env) :: starEach [] X.env) : Q (PV G X (.Call (.Name "sum" p) [e] [] pos) (eN bSum cs)) := ⟨w_sum hm ha.h hg hK hc he⟩
theorem q_w_all (hm : X.mg "all" = none) (ha : Q (PVs G X [e] cs)) (hg : Gl X "all") (hK : X.K = G.K) (hc : X.calm = true) (he : starEach [e] X.env = (false, eval e X.env) :: starEach [] X.env) : Q (PV G X (.Call (.Name "all" p) [e] [] pos) (eN bAll cs)) := ⟨w_all hm ha.h hg hK hc he⟩
theorem q_w_any (hm : X.mg "any" = none) (ha : Q (PVs G X [e] cs)) (hg : Gl X "any") (hK : X.K = G.K) (hc : X.calm = true) (he : starEach [e] X.env = (false, eval e X.env) :: starEach [] X.env) : Q (PV G X (.Call (.Name "any" p) [e] [] pos) (eN bAny cs)) := ⟨w_any hm ha.h hg hK hc he⟩
theorem q_w_tuple (hm : X.mg "tuple" = none) (ha : Q (PVs G X [e] cs)) (hg : Gl X "tuple") (hK : X.K = G.K) (he : starEach [e] X.env = (false, eval e X.env) :: starEach [] X.env) : Q (PV G X (.Call (.Name "tuple" p) [e] [] pos) (eN bTupleL cs)) := ⟨w_tuple hm ha.h hg hK he⟩
theorem q_w_gt (ha : Q (PV G X a ca)) (hb : Q (PV G X b cb)) : Q (PV G X (.Compare a [.Gt] [b] pos) (e2 oGt ca cb)) := ⟨w_gt ha.h hb.h⟩
theorem q_wt_gt (ha : Q (PV G X a ca)) (hb : Q (PV G X b cb)) : Q (PVT G X (.Compare a [.Gt] [b] pos) (e2 oGt ca cb)) := ⟨wt_gt ha.h hb.h⟩
theorem q_w_ge (ha : Q (PV G X a ca)) (hb : Q (PV G X b cb)) : Q (PV G X (.Compare a [.GtE] [b] pos) (e2 oGe ca cb)) := ⟨w_ge ha.h hb.h⟩
theorem q_wt_ge (ha : Q (PV G X a ca)) (hb : Q (PV G X b cb)) : Q (PVT G X (.Compare a [.GtE] [b] pos) (e2 oGe ca cb)) := ⟨wt_ge ha.h hb.h⟩
theorem q_w_chain_le_le (ha : Q (PV G X a ca)) (hb : Q (PV G X b cb)) (hc : Q (PV G X c cc)) (hm : lastMarks [.LtE, .LtE] [b, c] = false) : Q (PV G X (.Compare a [.LtE, .LtE] [b, c] pos) (eChain oLe oLe ca cb cc)) := ⟨w_chain_le_le ha.h hb.h hc.h hm⟩
theorem q_w_chain_le_lt (ha : Q (PV G X a ca)) (hb : Q (PV G X b cb)) (hc : Q (PV G X c cc)) (hm : lastMarks [.LtE, .Lt] [b, c] = false) : Q (PV G X (.Compare a [.LtE, .Lt] [b, c] pos) (eChain oLe oLt ca cb cc)) := ⟨w_chain_le_lt ha.h hb.h hc.h hm⟩
theorem q_w_const {x : Str} {i : Int} (h : ∃ t, X.mg x = some (.int i t)) (hg : Gl X x) (hd : (x == ("__debug__" : Str)) = false) : Q (PV G X (.Name x pos) (eC (.int i))) := ⟨w_const h hg hd⟩
theorem q_w_repL (ha : Q (PV G X a ca)) (hb : Q (PV G X b cb)) : Q (PV G X (.BinOp a .Mult b pos) (e2 oRepL ca cb)) := ⟨w_repL ha.h hb.h⟩
theorem q_w_repS (ha : Q (PV G X a ca)) (hb : Q (PV G X b cb)) : Q (PV G X (.BinOp a .Mult b pos) (e2 oRepS ca cb)) := ⟨w_repS ha.h hb.h⟩
theorem q_w_dct0  : Q (PV G X (.Dict [] [] pos) (eDct 0 [])) := ⟨w_dct0⟩
theorem q_w_dct1 {x : Str} {t : Tx} {i : Int} {j j' : Nat} {q q' : Pos} (h : x = sx t) (hl : TxOk t) : Q (PV G X (.Dict [some (.Constant (.str x) j q)] [.Constant (.int i) j' q'] pos) (eDct 0 [(eC (.str t), eC (.int i))])) := ⟨w_dct1 h hl⟩
end
section
variable {G : Gx} {P : Program} {w : World} {K : PySem.W.Frag} {mg : Str → Option Value} {base : Heap}
theorem q_def {x : Str} {st : Stmt} {f : Addr} {fd : FuncData} {N ps : List Str} {k np nn : Nat} {c : Sx} (F : Fun K x x st f fd) (hm : mg x = some (.ref f)) (S : FnScope N ps (defScope st)) (hp : ps.length = np) (hn : N.length = nn)
    (hbd : ∀ (kV doc pm : Value) (an : Option Addr) (cdv ct : Value) (us : List Value), us.length = ps.length → bindArgs (PySem.W.fnOf x x (defArgs st) (defBody st) (defScope st) .none kV doc pm an cdv ct) ⟨us, []⟩ = pure (ps.zip us))
    (hb : ∀ (cdv : Value) (A : Around) (outer : List PySem.Env) (s : Shared) (H : Hp) (E : XK), Room k (A.deeper (envOfC x (defScope st) s.heap.objs.size f cdv)) → Q (PSVs G (cxOf CX0 P w K mg base N x (defScope st) f cdv A outer s H E).nox (defBody st) c)) :
    FnAt P w K mg base (k + 1) x ps G (fn np nn c) := w_def F hm S hp hn hbd fun cdv A outer s H E hr => (hb cdv A outer s H E hr).h
theorem q_fn {x qual : Str} {st : Stmt} {f : Addr} {fd : FuncData} {N ps : List Str} {k np nn : Nat} {c : Sx} (F : Fun K x qual st f fd) (S : FnScope N ps (defScope st)) (hp : ps.length = np) (hn : N.length = nn)
    (hb : ∀ (cdv : Value) (A : Around) (outer : List PySem.Env) (s : Shared) (H : Hp) (E : XK), Room k (A.deeper (envOfC qual (defScope st) s.heap.objs.size f cdv)) → Q (PSVs G (cxOf CX0 P w K mg base N qual (defScope st) f cdv A outer s H E).nox (defBody st) c)) :
    FnOk P w K mg base CX0 (k + 1) f fd ps (spF G (fn np nn c)) := fnV F S hp hn fun cdv A outer s H E hr => (hb cdv A outer s H E hr).h
end
end VS

set_option linter.all false
/-! Reckoning with the functions: loops, lists. -/
namespace VS
/-- a loop whose turns all go on, by what holds behind each -/
theorem forL_by {tg : Tg} {body : Sx} (P : Nat → Env → Prop) : ∀ (l : List T) (k : Nat) (η : Env), (∀ i t η, l[i]? = some t → P (k + i) η → ∃ η1 η2, tg t η = some η1 ∧ (body η1 = some (.nx η2) ∨ body η1 = some (.ct η2)) ∧ P (k + i + 1) η2) → P k η →
    ∃ η', forL tg body l η = some (.nx η') ∧ P (k + l.length) η'
  | [], k, η, _, h => ⟨η, rfl, h⟩
  | t :: r, k, η, st, h => by
    obtain ⟨η1, η2, h1, h2, h3⟩ := st 0 t η rfl h
    obtain ⟨η', e, q⟩ := forL_by P r (k + 1) η2 (fun i t η hi hp => by
      have := st (i + 1) t η (by simpa using hi) (by rw [show k + (i + 1) = k + 1 + i by omega]; exact hp)
      rw [show k + (i + 1) = k + 1 + i by omega] at this
      exact this) h3
    refine ⟨η', ?_, by rw [List.length_cons, show k + (r.length + 1) = k + 1 + r.length by omega]; exact q⟩
    rcases h2 with h2 | h2 <;> simp [forL, h1, h2, e]
/-- a loop that looks for the first a with p a -/
theorem forL_scan {α : Type} {tg : Tg} {body : Sx} (g : α → T) (p : α → Bool) (v : Val) (I : Env → Prop) : ∀ (l : List α), (∀ a ∈ l, ∀ η, I η → ∃ η1 η2, tg (g a) η = some η1 ∧ I η2 ∧ body η1 = some (if p a then .rt v η2 else .nx η2)) → ∀ η, I η →
    ∃ η', I η' ∧ forL tg body (l.map g) η = some (if l.any p then .rt v η' else .nx η')
  | [], _, η, h => ⟨η, h, rfl⟩
  | a :: l, st, η, h => by
    obtain ⟨η1, η2, h1, h2, h3⟩ := st a List.mem_cons_self η h
    cases hp : p a with
    | true =>
      rw [hp] at h3
      exact ⟨η2, h2, by simp [forL, h1, h3, hp]⟩
    | false =>
      rw [hp] at h3
      obtain ⟨η', q1, q2⟩ := forL_scan g p v I l (fun b hb => st b (List.mem_cons_of_mem _ hb)) η2 h2
      exact ⟨η', q1, by simp [forL, h1, h3, hp, q2]⟩
theorem enumT_get : ∀ (l : List T) (k i : Nat), (enumT k l)[i]? = (l[i]?).map fun t => .tup [.int ((k + i : Nat) : Int), t]
  | [], _, _ => by simp [enumT]
  | x :: l, k, 0 => by simp [enumT]
  | x :: l, k, i + 1 => by
    have := enumT_get l (k + 1) i
    simp only [enumT, List.getElem?_cons_succ, this]
    rw [show k + 1 + i = k + (i + 1) by omega]
theorem rng_get (lo : Int) (n i : Nat) : (rng lo n)[i]? = if i < n then some (T.int (lo + i)) else none := by
  unfold rng
  by_cases h : i < n
  · simp [h]
  · simp [h]
theorem ixP_nat {n k : Nat} (h : k < n) : ixP n (k : Int) = some k := by
  unfold ixP
  rw [if_pos (by omega), if_pos (by omega), Int.toNat_natCast]
theorem rng_len (lo : Int) (n : Nat) : (rng lo n).length = n := by simp [rng]
mutual
theorem eqT_self : ∀ (n : Nat) (t : T), eqD n t = true → eqT t t = true
  | n, .non, _ => by simp
  | n, .bl _, _ => by simp
  | n, .int _, _ => by simp
  | n, .str _, _ => by simp
  | n + 1, .tup l, h => by
    simp only [eqD, List.all_eq_true] at h
    simp only [eqT]
    exact eqTs_self n l h
  | n + 1, .lst l, h => by
    simp only [eqD, List.all_eq_true] at h
    simp only [eqT]
    exact eqTs_self n l h
  | 0, .tup _, h => by simp at h
  | 0, .lst _, h => by simp at h
  | _, .scr _, h => by simp at h
  | _, .dct _ _, h => by simp at h
  | _, .obj _ _, h => by simp at h
theorem eqTs_self : ∀ (n : Nat) (l : List T), (∀ t ∈ l, eqD n t = true) → eqTs l l = true
  | _, [], _ => rfl
  | n, t :: r, h => by
    simp only [eqTs, Bool.and_eq_true]
    exact ⟨eqT_self n t (h t List.mem_cons_self), eqTs_self n r fun u hu => h u (List.mem_cons_of_mem _ hu)⟩
end
theorem oEq_self {m n : Md} {t : T} (h : eqD 60 t = true) : oEq (m, t) (n, t) = some (.fr, .bl true) := by
  show (if eqD 60 t ∧ eqD 60 t then some (Md.fr, T.bl (eqT t t)) else none) = _
  rw [if_pos ⟨h, h⟩, eqT_self 60 t h]
theorem oNe_self {m n : Md} {t : T} (h : eqD 60 t = true) : oNe (m, t) (n, t) = some (.fr, .bl false) := by
  show (if eqD 60 t ∧ eqD 60 t then some (Md.fr, T.bl (!eqT t t)) else none) = _
  rw [if_pos ⟨h, h⟩, eqT_self 60 t h]
  rfl
theorem cut_le {α : Type} (l : List α) (a b : Option Int) : (cut l a b).length ≤ l.length := by
  unfold cut
  simp only [List.length_take, List.length_drop]
  omega
theorem cut_mem {α : Type} (l : List α) (a b : Option Int) {x : α} (h : x ∈ cut l a b) : x ∈ l := by
  unfold cut at h
  exact List.mem_of_mem_drop (List.mem_of_mem_take h)
theorem cut_to {α : Type} (l : List α) (k : Nat) : cut l none (some (k : Int)) = l.take k := by
  have h : ¬ ((k : Int) < 0) := by omega
  by_cases h2 : k ≤ l.length
  · simp [cut, clip, h, Nat.min_eq_left h2]
  · rw [List.take_of_length_le (by omega)]
    simp [cut, clip, h, Nat.min_eq_right (Nat.le_of_not_le h2)]
theorem cut_map {α β : Type} (f : α → β) (l : List α) (a b : Option Int) : cut (l.map f) a b = (cut l a b).map f := by
  unfold cut
  simp only [List.length_map, List.map_take, List.map_drop]
theorem eCall_pu {g : Fn} {as : Exs} {η : Env} {xs : List Val} {t : T} (h : as η = some xs) (h2 : g (trees xs) = some (.pu, t)) : eCall g as η = some ((Md.pu).join (joins xs), t) := by
  simp only [eCall, h, Option.bind_some, h2]
theorem idx_mem {m n : Md} (l : List T) (y k : Int) (h : (l.length : Int) = k) (hk : 0 < k) : ∃ t, t ∈ l ∧ oIdx (m, .lst l) (n, .int (y % k)) = some (sub m t) := by
  have b0 := Int.emod_nonneg y (b := k) (by omega)
  have b1 := Int.emod_lt_of_pos y (b := k) hk
  have b2 : (y % k).toNat < l.length := by omega
  have e : y % k = (((y % k).toNat : Nat) : Int) := by omega
  have ix : ixP l.length (y % k) = some (y % k).toNat := by
    have := ixP_nat b2
    rw [← e] at this
    exact this
  refine ⟨l[(y % k).toNat], List.getElem_mem b2, ?_⟩
  simp [ix, List.getElem?_eq_getElem b2]
theorem oRepS_ok {m n : Md} {s : Tx} {j : Int} (h1 : s.length * j.toNat ≤ 16777216) (h2 : -4611686018427387904 ≤ j ∧ j < 4611686018427387904) : oRepS (m, .str s) (n, .int j) = some (.fr, .str (List.replicate j.toNat s).flatten) := if_pos ⟨h1, h2⟩
theorem iVal_lst {a : Ex} {η : Env} {m : Md} {l : List T} (e : a η = some (m, .lst l)) : iVal a η = some (m, l) := by
  simp [iVal, e]
theorem sFor_ok {tg : Tg} {it : Its} {body : Sx} {η : Env} {m : Md} {l : List T} (e : it η = some (m, l)) (h : okF m = true) : sFor tg it body η = forL tg body l η := by
  unfold sFor
  rw [e]
  exact if_pos h
/-- a call, by what the def answers -/
theorem eCall_fr {g : Fn} {as : Exs} {η : Env} {xs : List Val} {t : T} (h : as η = some xs) (h2 : g (trees xs) = some (.fr, t)) : eCall g as η = some (.fr, t) := by
  simp only [eCall, h, Option.bind_some, h2]
theorem sSetP_ok {i : Nat} {e : Ex} {η : Env} {m : Md} {t : T} (h : e η = some (m, t)) (hm : m ≠ .bo) (hi : i < η.length) : sSetP i e η = some (.nx (η.set i (some (.pu t)))) := by
  simp only [sSetP, h, Option.bind_some]
  cases m with
  | bo => exact absurd rfl hm
  | _ => simp [hi]
theorem sSet_ow {i : Nat} {e : Ex} {η : Env} {t : T} (h : e η = some (.fr, t)) (hm : isMut t = true) (hi : i < η.length) : sSet i e η = some (.nx (η.set i (some (.ow t)))) := by
  simp only [sSet, h, Option.bind_some, cellOf, hm, if_true, if_pos hi]
theorem oAdd_lst {m n : Md} {s t : List T} : oAdd (m, .lst s) (n, .lst t) = mkL (m.join n) (s ++ t) := rfl
theorem sCons_nx {a b : Sx} {η η' : Env} (h : a η = some (.nx η')) : sCons a b η = b η' := by simp only [sCons, h, Option.bind_some]
theorem sCons_rt {a b : Sx} {η η' : Env} {v : Val} (h : a η = some (.rt v η')) : sCons a b η = some (.rt v η') := by simp only [sCons, h, Option.bind_some]
theorem sFor_run {tg : Tg} {it : Its} {body : Sx} {η : Env} {m : Md} {l : List T} {o : Out} (e : it η = some (m, l)) (h : okF m = true) (h2 : forL tg body l η = some o) : sFor tg it body η = some o := (sFor_ok e h).trans h2
/-- a def's answer -/
theorem fn_ok {np nn : Nat} {body : Sx} {ts : List T} {v : Val} (η : Env) {η' : Env} (hl : ts.length = np) (he : ts.map (fun t => some (Cell.pu t)) ++ List.replicate (nn - np) none = η) (h : body η = some (.rt v η')) : fn np nn body ts = some v := by
  unfold fn
  rw [if_pos hl, he, h]
  rfl
end VS

namespace T01
open VS
/-- has_only_signs: 0 thing -/
def c_has_only_signs : Fn := fn 1 1
    (sRet (eAnd (eIs .str (eVar 0)) (eN bAll (xCons (eComp 1 (gVar 0) (iVal (eVar 0)) none (eChain oLe oLe (eC (.str [97])) (eVar 0) (eC (.str [122])))) xNil))))

/-- is_word: 0 thing -/
def c_is_word : Fn := fn 1 1
    (sRet (eAnd (eCall c_has_only_signs (xCons (eVar 0) xNil)) (e2 oLe (eN bLen (xCons (eVar 0) xNil)) (eC (.int 200)))))

/-- signs_in: 0 book -/
def c_signs_in : Fn := fn 1 1
    (sRet (eN bSum (xCons (eComp 1 (gVar 0) (iVal (eVar 0)) none (eN bLen (xCons (eVar 0) xNil))) xNil)))

/-- is_book: 0 thing -/
def c_is_book : Fn := fn 1 1
    (sCons (sIf (eOr (eNot (eIs .list (eVar 0))) (e2 oGt (eN bLen (xCons (eVar 0) xNil)) (eC (.int 8)))) (sRet (eC (.bl false))) sNil)
    (sRet (eAnd (eN bAll (xCons (eComp 1 (gVar 0) (iVal (eVar 0)) none (eCall c_has_only_signs (xCons (eVar 0) xNil))) xNil)) (e2 oLe (eCall c_signs_in (xCons (eVar 0) xNil)) (eC (.int 120))))))

/-- _law_cell_at: 0 _law_script 1 _law_k -/
def c_law_cell_at : Fn := fn 2 2
    (sCons (sIf (e2 oLt (eVar 1) (eN bLen (xCons (eVar 0) xNil))) (sRet (e2 oIdx (eVar 0) (eVar 1))) sNil)
    (sRet (eC (.int 0))))

/-- _law_mixed: 0 _law_cell 1 _law_k 2 _law_number -/
def c_law_mixed : Fn := fn 2 3
    (sCons (sSetP 2 (e2 oMod (e2 oAdd (e2 oAdd (e2 oMod (eVar 0) (eC (.int 2147483629))) (e2 oMul (eC (.int 48271)) (eVar 1))) (eC (.int 11))) (eC (.int 2147483629))))
    (sCons (sSetP 2 (e2 oAdd (e2 oMod (e2 oMul (eVar 2) (eVar 2)) (eC (.int 2147483629))) (e2 oMul (eC (.int 7919)) (eVar 1))))
    (sRet (e2 oMod (e2 oMul (eVar 2) (eVar 2)) (eC (.int 2147483587))))))

def c_law_text_L1 : Sx :=
    (sIf (e2 oEq (e2 oMod (eCall c_law_cell_at (xCons (eVar 0) (xCons (eC (.int 0)) xNil))) (eC (.int 2))) (eC (.int 0))) (sCons (sX (xMut 6 [] mAppend (xCons (e2 oIdx (eVar 1) (e2 oMod (eVar 4) (eN bLen (xCons (eVar 1) xNil)))) xNil)))
    (sSetP 4 (e2 oFdiv (eVar 4) (eN bLen (xCons (eVar 1) xNil))))) (sX (xMut 6 [] mAppend (xCons (e2 oIdx (eVar 1) (e2 oMod (e2 oFdiv (eCall c_law_mixed (xCons (eVar 4) (xCons (e2 oAdd (e2 oMul (eC (.int 30)) (eVar 3)) (eVar 7)) xNil))) (eC (.int 7))) (eN bLen (xCons (eVar 1) xNil)))) xNil))))
/-- _law_text: 0 _law_script 1 _law_letters 2 _law_most 3 _law_j 4 _law_cell 5 _law_size 6 _law_signs 7 _law_k -/
def c_law_text : Fn := fn 4 8
    (sCons (sSetP 4 (eCall c_law_cell_at (xCons (eVar 0) (xCons (e2 oAdd (eC (.int 1)) (eVar 3)) xNil))))
    (sCons (sSetP 5 (e2 oMod (eVar 4) (e2 oAdd (eVar 2) (eC (.int 1)))))
    (sCons (sSetP 4 (e2 oFdiv (eVar 4) (e2 oAdd (eVar 2) (eC (.int 1)))))
    (sCons (sSet 6 (eLst xNil))
    (sCons (sFor (gVar 7) (iRange1 (eVar 5)) c_law_text_L1)
    (sCons (sFrz 6)
    (sRet (eM mJoin (eC (.str [])) (xCons (eVar 6) xNil)))))))))

/-- _law_book: 0 _law_script 1 _law_cell 2 _law_letters 3 _law_count 4 _law_most -/
def c_law_book : Fn := fn 1 5
    (sCons (sSetP 1 (eCall c_law_cell_at (xCons (eVar 0) (xCons (eC (.int 0)) xNil))))
    (sCons (sSetP 2 (e2 oIdx (eLst (xCons (eC (.str [97, 98])) (xCons (eC (.str [97, 98, 99])) (xCons (eC (.str [97, 98, 99, 100])) (xCons (eC (.str [97, 122])) (xCons (eC (.str [97])) (xCons (eC (.str [97, 98, 99, 100, 101, 102, 103, 104, 105, 106, 107, 108, 109, 110, 111, 112, 113, 114, 115, 116, 117, 118, 119, 120, 121, 122])) xNil))))))) (e2 oMod (e2 oFdiv (eVar 1) (eC (.int 2))) (eC (.int 6)))))
    (sCons (sSetP 3 (e2 oIdx (eLst (xCons (eC (.int 1)) (xCons (eC (.int 2)) (xCons (eC (.int 3)) (xCons (eC (.int 4)) (xCons (eC (.int 2)) (xCons (eC (.int 1)) (xCons (eC (.int 0)) (xCons (eC (.int 8)) xNil))))))))) (e2 oMod (e2 oFdiv (eVar 1) (eC (.int 12))) (eC (.int 8)))))
    (sCons (sSetP 4 (e2 oIdx (eLst (xCons (eC (.int 24)) (xCons (eC (.int 12)) (xCons (eC (.int 8)) (xCons (eC (.int 6)) xNil))))) (e2 oSub (eN bMin2 (xCons (eVar 3) (xCons (eC (.int 4)) xNil))) (eC (.int 1)))))
    (sCons (sIf (e2 oEq (e2 oMod (e2 oFdiv (eVar 1) (eC (.int 96))) (eC (.int 8))) (eC (.int 5))) (sSetP 4 (e2 oFdiv (eC (.int 60)) (eN bMax2 (xCons (eC (.int 1)) (xCons (eVar 3) xNil))))) sNil)
    (sCons (sIf (eAnd (e2 oEq (eVar 3) (eC (.int 8))) (e2 oNe (e2 oMod (e2 oFdiv (eVar 1) (eC (.int 96))) (eC (.int 8))) (eC (.int 5)))) (sSetP 4 (eC (.int 3))) sNil)
    (sRet (eComp 1 (gVar 0) (iRange1 (eVar 3)) none (eCall c_law_text (xCons (eVar 1) (xCons (eVar 3) (xCons (eVar 5) (xCons (eVar 0) xNil)))))))))))))

/-- _law_odd_sign: 0 _law_cell -/
def c_law_odd_sign : Fn := fn 1 1
    (sRet (e2 oIdx (eLst (xCons (eC (.str [65])) (xCons (eC (.str [126])) (xCons (eC (.str [32])) (xCons (eC (.str [45])) (xCons (eC (.str [46])) (xCons (eC (.str [49])) (xCons (eC (.str [123])) (xCons (eC (.str [96])) (xCons (eC (.str [90])) (xCons (eC (.str [97, 98, 32])) xNil))))))))))) (e2 oMod (eVar 0) (eC (.int 10)))))

/-- _law_spoiled: 0 _law_book_here 1 _law_cell 2 _law_at 3 _law_text_here 4 _law_place 5 _law_odd 6 _law_thing 7 _law_some 8 _law_great -/
def c_law_spoiled : Fn := fn 2 9
    (sCons (sSetP 2 (e2 oMod (e2 oFdiv (eVar 1) (eC (.int 16))) (e2 oAdd (eN bLen (xCons (eVar 0) xNil)) (eC (.int 1)))))
    (sCons (sSetP 3 (eM mJoin (eC (.str [])) (xCons (eSl (eVar 0) (some (eVar 2)) (some (e2 oAdd (eVar 2) (eC (.int 1))))) xNil)))
    (sCons (sSetP 4 (e2 oMod (e2 oFdiv (eVar 1) (eC (.int 256))) (e2 oAdd (eN bLen (xCons (eVar 3) xNil)) (eC (.int 1)))))
    (sCons (sSetP 5 (e2 oAdd (e2 oAdd (eSl (eVar 3) none (some (eVar 4))) (eCall c_law_odd_sign (xCons (e2 oFdiv (eVar 1) (eC (.int 4096))) xNil))) (eSl (eVar 3) (some (eVar 4)) none)))
    (sCons (sSetP 6 (e2 oIdx (eLst (xCons (eC .non) (xCons (eC (.int 5)) (xCons (eC (.bl true)) (xCons (eLst (xCons (eC (.str [97])) xNil)) (xCons (eTup (xCons (eC (.str [97])) xNil)) (xCons (eDct 0 [((eC (.str [97])), (eC (.int 1)))]) (xCons (eDct 0 []) (xCons (eC (.int 0)) xNil))))))))) (e2 oMod (e2 oFdiv (eVar 1) (eC (.int 4096))) (eC (.int 8)))))
    (sCons (sSetP 7 (eLst (xCons (e2 oAdd (e2 oAdd (eSl (eVar 0) none (some (eVar 2))) (eLst (xCons (eVar 5) xNil))) (eSl (eVar 0) (some (e2 oAdd (eVar 2) (eC (.int 1)))) none)) (xCons (e2 oAdd (e2 oAdd (eSl (eVar 0) none (some (eVar 2))) (eLst (xCons (eVar 6) xNil))) (eSl (eVar 0) (some (e2 oAdd (eVar 2) (eC (.int 1)))) none)) (xCons (eSl (e2 oAdd (eVar 0) (e2 oRepL (eLst (xCons (eC (.str [97])) xNil)) (eC (.int 9)))) none (some (eC (.int 9)))) xNil)))))
    (sCons (sSetP 8 (eLst (xCons (e2 oRepS (eC (.str [97])) (e2 oSub (eC (.int 121)) (eN bSum (xCons (eComp 1 (gVar 0) (iVal (eSl (eVar 0) none (some (eC (.int 7))))) none (eN bLen (xCons (eVar 0) xNil))) xNil)))) xNil)))
    (sCons (sSetP 7 (e2 oAdd (eVar 7) (eLst (xCons (e2 oIdx (eLst (xCons (e2 oAdd (eSl (eVar 0) none (some (eC (.int 7)))) (eVar 8)) (xCons (e2 oAdd (eVar 8) (eSl (eVar 0) none (some (eC (.int 7))))) xNil))) (e2 oMod (e2 oFdiv (eVar 1) (eC (.int 16))) (eC (.int 2)))) (xCons (eN bTupleL (xCons (eVar 0) xNil)) (xCons (eM mJoin (eC (.str [])) (xCons (eVar 0) xNil)) xNil))))))
    (sRet (e2 oIdx (e2 oAdd (eVar 7) (eLst (xCons (eC .non) (xCons (eDct 0 []) (xCons (eC (.int 7)) (xCons (eC (.bl true)) (xCons (eTup (xCons (eC (.str [97])) xNil)) (xCons (eLst (xCons (eVar 0) xNil)) xNil)))))))) (e2 oMod (eVar 1) (eC (.int 12)))))))))))))

/-- _law_is: 0 _law_got 1 _law_due -/
def c_law_is : Fn := fn 2 2
    (sRet (eAnd (eIs .bool (eVar 0)) (e2 oEq (eVar 0) (eVar 1))))

def c_law_L1 : Sx :=
    (sCons (sSetP 6 (e2 oAdd (eCall c_law_cell_at (xCons (eVar 0) (xCons (e2 oAdd (eC (.int 12)) (eVar 5)) xNil))) (e2 oMul (eC (.int 65537)) (eVar 5))))
    (sCons (sIf (eNot (eCall c_law_is (xCons (eCall c_is_book (xCons (eCall c_law_spoiled (xCons (eVar 1) (xCons (eVar 6) xNil))) xNil)) (xCons (eC (.bl false)) xNil)))) (sRet (eC (.bl false))) sNil)
    (sCons (sSetP 7 (eSl (e2 oAdd (eM mJoin (eC (.str [])) (xCons (eVar 1) xNil)) (e2 oRepS (eC (.str [120, 121, 122])) (eC (.int 70)))) none (some (e2 oIdx (eLst (xCons (eC (.int 0)) (xCons (eC (.int 199)) (xCons (eC (.int 200)) (xCons (eC (.int 201)) (xCons (eC (.int 7)) xNil)))))) (e2 oMod (eVar 6) (eC (.int 5)))))))
    (sCons (sIf (eNot (eCall c_law_is (xCons (eCall c_is_word (xCons (eVar 7) xNil)) (xCons (e2 oLt (eN bLen (xCons (eVar 7) xNil)) (eC (.int 201))) xNil)))) (sRet (eC (.bl false))) sNil)
    (sCons (sSetP 8 (e2 oMod (e2 oFdiv (eVar 6) (eC (.int 5))) (e2 oAdd (eN bLen (xCons (eVar 7) xNil)) (eC (.int 1)))))
    (sCons (sIf (eNot (eCall c_law_is (xCons (eCall c_is_word (xCons (e2 oAdd (e2 oAdd (eSl (eVar 7) none (some (eVar 8))) (eCall c_law_odd_sign (xCons (e2 oFdiv (eVar 6) (eC (.int 7))) xNil))) (eSl (eVar 7) (some (eVar 8)) none)) xNil)) (xCons (eC (.bl false)) xNil)))) (sRet (eC (.bl false))) sNil)
    (sIf (eNot (eCall c_law_is (xCons (eCall c_is_word (xCons (e2 oIdx (eLst (xCons (eC .non) (xCons (eC (.int 5)) (xCons (eC (.bl true)) (xCons (eLst (xCons (eC (.str [97])) xNil)) (xCons (eTup (xCons (eC (.str [97])) xNil)) (xCons (eDct 0 []) (xCons (eLst (xCons (eVar 7) xNil)) (xCons (eC (.int 0)) xNil))))))))) (e2 oMod (eVar 6) (eC (.int 8)))) xNil)) (xCons (eC (.bl false)) xNil)))) (sRet (eC (.bl false))) sNil)))))))
/-- law: 0 _law_script 1 _law_book_here 2 _law_handed 3 _law_size 4 _law_longest_one 5 _law_k 6 _law_cell 7 _law_word 8 _law_at -/
def c_law : Fn := fn 1 9
    (sCons (sSetP 1 (eCall c_law_book (xCons (eVar 0) xNil)))
    (sCons (sSetP 2 (eN bList (xCons (eVar 1) xNil)))
    (sCons (sSetP 3 (eCall c_signs_in (xCons (eVar 2) xNil)))
    (sCons (sIf (eOr (eNot (eCall c_law_is (xCons (eCall c_is_book (xCons (eVar 2) xNil)) (xCons (eC (.bl true)) xNil)))) (eOr (eIs .bool (eVar 3)) (eNot (eIs .int (eVar 3))))) (sRet (eC (.bl false))) sNil)
    (sCons (sIf (eOr (e2 oNe (eVar 3) (eN bLen (xCons (eM mJoin (eC (.str [])) (xCons (eVar 1) xNil)) xNil))) (eOr (e2 oNe (eVar 2) (eVar 1)) (eNot (eCall c_law_is (xCons (eCall c_is_book (xCons (eSl (e2 oAdd (eVar 1) (e2 oRepL (eLst (xCons (eC (.str [])) xNil)) (eC (.int 8)))) none (some (eC (.int 8)))) xNil)) (xCons (eC (.bl true)) xNil)))))) (sRet (eC (.bl false))) sNil)
    (sCons (sSetP 4 (e2 oAdd (eSl (eVar 1) none (some (eC (.int 7)))) (eLst (xCons (e2 oRepS (eC (.str [98])) (e2 oSub (eC (.int 120)) (eN bLen (xCons (eM mJoin (eC (.str [])) (xCons (eSl (eVar 1) none (some (eC (.int 7)))) xNil)) xNil)))) xNil))))
    (sCons (sIf (eOr (eNot (eCall c_law_is (xCons (eCall c_is_book (xCons (eVar 4) xNil)) (xCons (eC (.bl true)) xNil)))) (e2 oNe (eCall c_signs_in (xCons (eVar 4) xNil)) (eC (.int 120)))) (sRet (eC (.bl false))) sNil)
    (sCons (sFor (gVar 5) (iRange1 (eC (.int 8))) c_law_L1)
    (sRet (eC (.bl true)))))))))))

end T01

set_option linter.all false
namespace T01
open VS
def cellAt (ns : List Int) (k : Nat) : Int := (ns[k]?).getD 0
theorem l_cell_at (ns : List Int) (k : Nat) : c_law_cell_at [.scr ns, .int k] = some (.fr, .int (cellAt ns k)) := by
  by_cases h : k < ns.length
  · have h2 : (k : Int) < (ns.length : Int) := by omega
    simp [c_law_cell_at, h, h2, ixP, cellAt]
  · have h2 : ¬ (k : Int) < (ns.length : Int) := by omega
    simp [c_law_cell_at, h2, cellAt, List.getElem?_eq_none (Nat.le_of_not_lt h)]
def mixed (c k : Int) : Int :=
  let n := (c % 2147483629 + 48271 * k + 11) % 2147483629
  let n := n * n % 2147483629 + 7919 * k
  n * n % 2147483587
theorem l_mixed (c k : Int) (h0 : 0 ≤ k) (h1 : k < 1000000) : c_law_mixed [.int c, .int k] = some (.fr, .int (mixed c k)) := by
  have e0 := Int.emod_nonneg (c % 2147483629 + 48271 * k + 11) (b := 2147483629) (by decide)
  have e1 := Int.emod_lt_of_pos (c % 2147483629 + 48271 * k + 11) (b := 2147483629) (by decide)
  have e2 := Int.emod_nonneg ((c % 2147483629 + 48271 * k + 11) % 2147483629 * ((c % 2147483629 + 48271 * k + 11) % 2147483629)) (b := 2147483629) (by decide)
  have e3 := Int.emod_lt_of_pos ((c % 2147483629 + 48271 * k + 11) % 2147483629 * ((c % 2147483629 + 48271 * k + 11) % 2147483629)) (b := 2147483629) (by decide)
  simp [c_law_mixed, mixed, oMod_ok, oMul_l (i := 48271) (by decide), oMul_l (i := 7919) (by decide)]
  rw [oMul_l (by omega)]
  simp [oMod_ok]
  rw [oMul_l (by omega)]
  simp [oMod_ok]
def txt (ns : List Int) (letters : Tx) (j : Nat) : Int → List Nat → Tx
  | _, [] => []
  | c, k :: r => if cellAt ns 0 % 2 = 0 then letters.getD (c % letters.length).toNat 0 :: txt ns letters j (c / letters.length) r
    else letters.getD (mixed c (30 * j + k) / 7 % letters.length).toNat 0 :: txt ns letters j c r
theorem txt_len (ns : List Int) (letters : Tx) (j : Nat) : ∀ (l : List Nat) (c : Int), (txt ns letters j c l).length = l.length
  | [], _ => rfl
  | k :: r, c => by
    unfold txt
    split <;> simp [txt_len ns letters j r]
theorem txt_mem (ns : List Int) (letters : Tx) (j : Nat) (h : 0 < letters.length) : ∀ (l : List Nat) (c : Int), ∀ x ∈ txt ns letters j c l, x ∈ letters
  | [], _ => fun x hx => by simp [txt] at hx
  | k :: r, c => fun x hx => by
    have g : ∀ y : Int, letters.getD (y % letters.length).toNat 0 ∈ letters := fun y => by
      have b0 := Int.emod_nonneg y (b := (letters.length : Int)) (by omega)
      have b1 := Int.emod_lt_of_pos y (b := (letters.length : Int)) (by omega)
      have : (y % letters.length).toNat < letters.length := by omega
      rw [List.getD_eq_getElem?_getD, List.getElem?_eq_getElem this]
      exact List.getElem_mem this
    unfold txt at hx
    split at hx
    · rcases List.mem_cons.mp hx with e | e
      · rw [e]; exact g c
      · exact txt_mem ns letters j h r _ x e
    · rcases List.mem_cons.mp hx with e | e
      · rw [e]; exact g _
      · exact txt_mem ns letters j h r _ x e
theorem idx_letter {m n : Md} (letters : Tx) (h : 0 < letters.length) (y : Int) : oIdx (m, .str letters) (n, .int (y % letters.length)) = some (.fr, .str [letters.getD (y % letters.length).toNat 0]) := by
  have b0 := Int.emod_nonneg y (b := (letters.length : Int)) (by omega)
  have b1 := Int.emod_lt_of_pos y (b := (letters.length : Int)) (by omega)
  have b2 : (y % letters.length).toNat < letters.length := by omega
  simp [ixP, b0, b1, List.getD_eq_getElem?_getD, b2]

theorem txt_loop (ns : List Int) (letters : Tx) (most j size : Int) (jn : Nat) (hj : j = jn) (hjn : jn ≤ 1000) (hl : 0 < letters.length) (hl2 : letters.length < 1000) : ∀ (ks : List Nat) (c : Int) (signs : List T) (z : Option Cell), (∀ k ∈ ks, k < 1000) → signs.length + ks.length ≤ 1000 →
    ∃ c' z', forL (gVar 7) c_law_text_L1 (ks.map fun (k : Nat) => T.int (k : Int)) [some (.pu (.scr ns)), some (.pu (.str letters)), some (.pu (.int most)), some (.pu (.int j)), some (.pu (.int c)), some (.pu (.int size)), some (.ow (.lst signs)), z] =
      some (.nx [some (.pu (.scr ns)), some (.pu (.str letters)), some (.pu (.int most)), some (.pu (.int j)), some (.pu (.int c')), some (.pu (.int size)), some (.ow (.lst (signs ++ (txt ns letters jn c ks).map fun x => .str [x]))), z'])
  | [], c, signs, z, _, _ => ⟨c, z, by simp [forL, txt]⟩
  | k :: ks, c, signs, z, hk, hs => by
    have h1 : k < 1000 := hk k List.mem_cons_self
    have hs' : signs.length + ks.length < 1000 := by simp only [List.length_cons] at hs; omega
    have ll : (0 : Int) < letters.length := by omega
    have l0 := l_cell_at ns 0
    simp only [Int.natCast_zero] at l0
    subst hj
    have mx := l_mixed c (30 * (jn : Int) + k) (by omega) (by omega)
    by_cases p : cellAt ns 0 % 2 = 0
    · obtain ⟨c', z', e⟩ := txt_loop ns letters most jn size jn rfl hjn hl hl2 ks (c / letters.length) (signs ++ [.str [letters.getD (c % letters.length).toNat 0]]) (some (.pu (.int k))) (fun k hk' => hk k (List.mem_cons_of_mem _ hk')) (by simp only [List.length_append, List.length_singleton]; omega)
      refine ⟨c', z', ?_⟩
      rw [List.map_cons, forL_nx (η1 := [some (.pu (.scr ns)), some (.pu (.str letters)), some (.pu (.int most)), some (.pu (.int jn)), some (.pu (.int c)), some (.pu (.int size)), some (.ow (.lst signs)), some (.pu (.int k))]) (by simp)
        (η2 := [some (.pu (.scr ns)), some (.pu (.str letters)), some (.pu (.int most)), some (.pu (.int jn)), some (.pu (.int (c / letters.length))), some (.pu (.int size)), some (.ow (.lst (signs ++ [.str [letters.getD (c % letters.length).toNat 0]]))), some (.pu (.int k))]) (by
          simp [-oIdx, -List.getD_eq_getElem?_getD, c_law_text_L1, l0, oMod_ok (j := 2) (by decide), oMod_ok ll, p, idx_letter letters hl, mAppend_ok (show signs.length < 16777216 by omega), oFdiv_ok (show (0 : Int) < letters.length ∧ (letters.length : Int) < 1073741824 by omega)]), e]
      simp [txt, p]
    · obtain ⟨c', z', e⟩ := txt_loop ns letters most jn size jn rfl hjn hl hl2 ks c (signs ++ [.str [letters.getD (mixed c (30 * jn + k) / 7 % letters.length).toNat 0]]) (some (.pu (.int k))) (fun k hk' => hk k (List.mem_cons_of_mem _ hk')) (by simp only [List.length_append, List.length_singleton]; omega)
      refine ⟨c', z', ?_⟩
      rw [List.map_cons, forL_nx (η1 := [some (.pu (.scr ns)), some (.pu (.str letters)), some (.pu (.int most)), some (.pu (.int jn)), some (.pu (.int c)), some (.pu (.int size)), some (.ow (.lst signs)), some (.pu (.int k))]) (by simp)
        (η2 := [some (.pu (.scr ns)), some (.pu (.str letters)), some (.pu (.int most)), some (.pu (.int jn)), some (.pu (.int c)), some (.pu (.int size)), some (.ow (.lst (signs ++ [.str [letters.getD (mixed c (30 * jn + k) / 7 % letters.length).toNat 0]]))), some (.pu (.int k))]) (by
          simp [-oIdx, -List.getD_eq_getElem?_getD, c_law_text_L1, l0, oMod_ok (j := 2) (by decide), oMod_ok ll, p, mx, oMul_l (i := 30) (by decide), idx_letter letters hl, mAppend_ok (show signs.length < 16777216 by omega), oFdiv_ok (j := 7) (by decide)]), e]
      simp [txt, p]

def textOf (ns : List Int) (letters : Tx) (most : Int) (j : Nat) : Tx := txt ns letters j (cellAt ns (1 + j) / (most + 1)) (List.range (cellAt ns (1 + j) % (most + 1)).toNat)
theorem l_text (ns : List Int) (letters : Tx) (most : Int) (j : Nat) (hj : j ≤ 1000) (hl : 0 < letters.length) (hl2 : letters.length < 1000) (h0 : 0 ≤ most) (h1 : most < 1000) :
    c_law_text [.scr ns, .str letters, .int most, .int j] = some (.fr, .str (textOf ns letters most j)) := by
  have c := l_cell_at ns (1 + j)
  have e1 : ((1 + j : Nat) : Int) = 1 + (j : Int) := by omega
  rw [e1] at c
  have b0 := Int.emod_nonneg (cellAt ns (1 + j)) (b := most + 1) (by omega)
  have b1 := Int.emod_lt_of_pos (cellAt ns (1 + j)) (b := most + 1) (by omega)
  obtain ⟨c', z', e⟩ := txt_loop ns letters most j (cellAt ns (1 + j) % (most + 1)) j rfl hj hl hl2 (List.range (cellAt ns (1 + j) % (most + 1)).toNat) (cellAt ns (1 + j) / (most + 1)) [] none (fun k hk => by have := List.mem_range.mp hk; omega) (by rw [List.length_range]; simp; omega)
  have rg : ∀ (a : Ex) (η : Env) (m : Md), a η = some (m, .int (cellAt ns (1 + j) % (most + 1))) → iRange1 a η = some (.fr, rng 0 (cellAt ns (1 + j) % (most + 1)).toNat) := fun a η m e => iRange1_ok e (by omega)
  have jn : ∀ m n, mJoin (m, .str []) [(n, .lst ((txt ns letters j (cellAt ns (1 + j) / (most + 1)) (List.range (cellAt ns (1 + j) % (most + 1)).toNat)).map fun x => .str [x]))] = some (.fr, .str (textOf ns letters most j)) := fun m n => by
    rw [mJoin_nil (strs_map (fun x => [x]) _) (by rw [flat_singles, txt_len, List.length_range]; omega), flat_singles]
    rfl
  simp [c_law_text, c, oMod_ok (show (0 : Int) < most + 1 by omega), oFdiv_ok (show (0 : Int) < most + 1 ∧ most + 1 < 1073741824 by omega), mkL_ok]
  rw [rg _ _ .fr (by simp)]
  simp [rng_zero]
  rw [e]
  simp [imms_map, jn]
theorem textOf_len (ns : List Int) (letters : Tx) (most : Int) (j : Nat) (h0 : 0 ≤ most) : (textOf ns letters most j).length ≤ most.toNat := by
  unfold textOf
  rw [txt_len, List.length_range]
  have b0 := Int.emod_nonneg (cellAt ns (1 + j)) (b := most + 1) (by omega)
  have b1 := Int.emod_lt_of_pos (cellAt ns (1 + j)) (b := most + 1) (by omega)
  omega
theorem textOf_mem (ns : List Int) (letters : Tx) (most : Int) (j : Nat) (h : 0 < letters.length) : ∀ x ∈ textOf ns letters most j, x ∈ letters := txt_mem ns letters j h _ _

def lettersAll : List Tx := [[97, 98], [97, 98, 99], [97, 98, 99, 100], [97, 122], [97], [97, 98, 99, 100, 101, 102, 103, 104, 105, 106, 107, 108, 109, 110, 111, 112, 113, 114, 115, 116, 117, 118, 119, 120, 121, 122]]
theorem lettersAll_ok (i : Int) (h0 : 0 ≤ i) (h1 : i < 6) : 0 < (lettersAll.getD i.toNat []).length ∧ (lettersAll.getD i.toNat []).length < 1000 ∧ ∀ c ∈ lettersAll.getD i.toNat [], 97 ≤ c ∧ c ≤ 122 := by
  have : ∀ k, k < 6 → 0 < (lettersAll.getD k []).length ∧ (lettersAll.getD k []).length < 1000 ∧ ∀ c ∈ lettersAll.getD k [], 97 ≤ c ∧ c ≤ 122 := by decide
  exact this i.toNat (by omega)
def bookL (ns : List Int) (letters : Tx) (most : Int) (count : Nat) : List Tx := (List.range count).map fun j => textOf ns letters most j
theorem bookL_ok (ns : List Int) (letters : Tx) (most : Int) (count : Nat) (h0 : 0 ≤ most) : (bookL ns letters most count).length = count ∧ (bookL ns letters most count).flatten.length ≤ count * most.toNat ∧ (0 < letters.length → ∀ t ∈ bookL ns letters most count, ∀ c ∈ t, c ∈ letters) := by
  refine ⟨by simp [bookL], ?_, fun hl t ht c hc => ?_⟩
  · induction count with
    | zero => simp [bookL]
    | succ n ih =>
      have := textOf_len ns letters most n h0
      simp only [bookL, List.range_succ, List.map_append, List.flatten_append, List.length_append, List.map_cons, List.map_nil, List.flatten_cons, List.flatten_nil, List.append_nil] at ih ⊢
      rw [Nat.succ_mul]
      omega
  · obtain ⟨j, _, rfl⟩ := List.mem_map.mp ht
    exact textOf_mem ns letters most j hl c hc
theorem book_comp (ns : List Int) (letters : Tx) (most count : Int) (cell : T) (h0 : 0 ≤ most) (h1 : most < 1000) (c0 : 0 ≤ count) (c1 : count ≤ 8) (hl : 0 < letters.length) (hl2 : letters.length < 1000) :
    eComp 1 (gVar 0) (iRange1 (eVar 3)) none (eCall c_law_text (xCons (eVar 1) (xCons (eVar 3) (xCons (eVar 5) (xCons (eVar 0) xNil))))) [some (.pu (.scr ns)), some (.pu cell), some (.pu (.str letters)), some (.pu (.int count)), some (.pu (.int most))] =
      some (.fr, .lst ((bookL ns letters most count.toNat).map .str)) := by
  have := eComp_map (k := 1) (tg := gVar 0) (it := iRange1 (eVar 3)) (elt := eCall c_law_text (xCons (eVar 1) (xCons (eVar 3) (xCons (eVar 5) (xCons (eVar 0) xNil)))))
    (η := [some (.pu (.scr ns)), some (.pu cell), some (.pu (.str letters)), some (.pu (.int count)), some (.pu (.int most))]) (m := .fr) (fun (j : Nat) => T.int (j : Int)) (fun j => T.str (textOf ns letters most j)) (List.range count.toNat)
    (by rw [iRange1_ok (m := .fr) (j := count) (by simp) (by omega), rng_zero]) rfl (by rw [List.length_range]; omega) (fun j hj => ⟨_, by simp; rfl, by
      have := List.mem_range.mp hj
      simp [l_text ns letters most j (by omega) hl hl2 h0 h1]⟩)
  rw [this]
  simp [bookL]
set_option maxHeartbeats 8000000 in
theorem l_book (ns : List Int) : ∃ bk : List Tx, c_law_book [.scr ns] = some (.fr, .lst (bk.map .str)) ∧ bk.length ≤ 8 ∧ bk.flatten.length ≤ 60 ∧ ∀ t ∈ bk, ∀ c ∈ t, 97 ≤ c ∧ c ≤ 122 := by
  have l0 := l_cell_at ns 0
  simp only [Int.natCast_zero] at l0
  generalize cellAt ns 0 = cell at l0
  have a0 := Int.emod_nonneg (cell / 2) (b := 6) (by decide)
  have a1 := Int.emod_lt_of_pos (cell / 2) (b := 6) (by decide)
  have li := idx_at (m := .fr) (n := .fr) T.str lettersAll (cell / 2 % 6) [] a0 (by simpa [lettersAll] using a1) rfl
  simp only [lettersAll, List.map_cons, List.map_nil] at li
  obtain ⟨k1, k2, k3⟩ := lettersAll_ok (cell / 2 % 6) a0 a1
  simp only [lettersAll] at k1 k2 k3
  generalize hL : (List.getD [[97, 98], [97, 98, 99], [97, 98, 99, 100], [97, 122], [97], [97, 98, 99, 100, 101, 102, 103, 104, 105, 106, 107, 108, 109, 110, 111, 112, 113, 114, 115, 116, 117, 118, 119, 120, 121, 122]] (cell / 2 % 6).toNat []) = L at li k1 k2 k3
  have main : ∀ (count most : Int), 0 ≤ most → most < 1000 → 0 ≤ count → count ≤ 8 → count.toNat * most.toNat ≤ 60 →
      c_law_book [.scr ns] = some (.fr, .lst ((bookL ns L most count.toNat).map .str)) → ∃ bk : List Tx, c_law_book [.scr ns] = some (.fr, .lst (bk.map .str)) ∧ bk.length ≤ 8 ∧ bk.flatten.length ≤ 60 ∧ ∀ t ∈ bk, ∀ c ∈ t, 97 ≤ c ∧ c ≤ 122 := fun count most h0 h1 h2 h3 h4 e => by
    obtain ⟨b1, b2, b3⟩ := bookL_ok ns L most count.toNat h0
    exact ⟨_, e, by omega, by omega, fun t ht c hc => k3 c (b3 k1 t ht c hc)⟩
  have b0 := Int.emod_nonneg (cell / 12) (b := 8) (by decide)
  have b1 := Int.emod_lt_of_pos (cell / 12) (b := 8) (by decide)
  have bc := fun most count h0 h1 c0 c1 => book_comp ns L most count (.int cell) h0 h1 c0 c1 k1 k2
  have e8 : cell / 12 % 8 = 0 ∨ cell / 12 % 8 = 1 ∨ cell / 12 % 8 = 2 ∨ cell / 12 % 8 = 3 ∨ cell / 12 % 8 = 4 ∨ cell / 12 % 8 = 5 ∨ cell / 12 % 8 = 6 ∨ cell / 12 % 8 = 7 := by omega
  by_cases five : cell / 96 % 8 = 5
  · rcases e8 with h | h | h | h | h | h | h | h
    · refine main 1 60 (by omega) (by omega) (by omega) (by omega) (by decide) ?_
      simp [-oIdx, c_law_book, l0, oMod_ok, oFdiv_ok, mkL_ok, li]
      simp [h, five, ixP, bc, oMod_ok, oFdiv_ok]
    · refine main 2 30 (by omega) (by omega) (by omega) (by omega) (by decide) ?_
      simp [-oIdx, c_law_book, l0, oMod_ok, oFdiv_ok, mkL_ok, li]
      simp [h, five, ixP, bc, oMod_ok, oFdiv_ok]
    · refine main 3 20 (by omega) (by omega) (by omega) (by omega) (by decide) ?_
      simp [-oIdx, c_law_book, l0, oMod_ok, oFdiv_ok, mkL_ok, li]
      simp [h, five, ixP, bc, oMod_ok, oFdiv_ok]
    · refine main 4 15 (by omega) (by omega) (by omega) (by omega) (by decide) ?_
      simp [-oIdx, c_law_book, l0, oMod_ok, oFdiv_ok, mkL_ok, li]
      simp [h, five, ixP, bc, oMod_ok, oFdiv_ok]
    · refine main 2 30 (by omega) (by omega) (by omega) (by omega) (by decide) ?_
      simp [-oIdx, c_law_book, l0, oMod_ok, oFdiv_ok, mkL_ok, li]
      simp [h, five, ixP, bc, oMod_ok, oFdiv_ok]
    · refine main 1 60 (by omega) (by omega) (by omega) (by omega) (by decide) ?_
      simp [-oIdx, c_law_book, l0, oMod_ok, oFdiv_ok, mkL_ok, li]
      simp [h, five, ixP, bc, oMod_ok, oFdiv_ok]
    · refine main 0 60 (by omega) (by omega) (by omega) (by omega) (by decide) ?_
      simp [-oIdx, c_law_book, l0, oMod_ok, oFdiv_ok, mkL_ok, li]
      simp [h, five, ixP, bc, oMod_ok, oFdiv_ok]
    · refine main 8 7 (by omega) (by omega) (by omega) (by omega) (by decide) ?_
      simp [-oIdx, c_law_book, l0, oMod_ok, oFdiv_ok, mkL_ok, li]
      simp [h, five, ixP, bc, oMod_ok, oFdiv_ok]
  · rcases e8 with h | h | h | h | h | h | h | h
    · refine main 1 24 (by omega) (by omega) (by omega) (by omega) (by decide) ?_
      simp [-oIdx, c_law_book, l0, oMod_ok, oFdiv_ok, mkL_ok, li]
      simp [h, five, ixP, bc, oMod_ok, oFdiv_ok]
    · refine main 2 12 (by omega) (by omega) (by omega) (by omega) (by decide) ?_
      simp [-oIdx, c_law_book, l0, oMod_ok, oFdiv_ok, mkL_ok, li]
      simp [h, five, ixP, bc, oMod_ok, oFdiv_ok]
    · refine main 3 8 (by omega) (by omega) (by omega) (by omega) (by decide) ?_
      simp [-oIdx, c_law_book, l0, oMod_ok, oFdiv_ok, mkL_ok, li]
      simp [h, five, ixP, bc, oMod_ok, oFdiv_ok]
    · refine main 4 6 (by omega) (by omega) (by omega) (by omega) (by decide) ?_
      simp [-oIdx, c_law_book, l0, oMod_ok, oFdiv_ok, mkL_ok, li]
      simp [h, five, ixP, bc, oMod_ok, oFdiv_ok]
    · refine main 2 12 (by omega) (by omega) (by omega) (by omega) (by decide) ?_
      simp [-oIdx, c_law_book, l0, oMod_ok, oFdiv_ok, mkL_ok, li]
      simp [h, five, ixP, bc, oMod_ok, oFdiv_ok]
    · refine main 1 24 (by omega) (by omega) (by omega) (by omega) (by decide) ?_
      simp [-oIdx, c_law_book, l0, oMod_ok, oFdiv_ok, mkL_ok, li]
      simp [h, five, ixP, bc, oMod_ok, oFdiv_ok]
    · refine main 0 6 (by omega) (by omega) (by omega) (by omega) (by decide) ?_
      simp [-oIdx, c_law_book, l0, oMod_ok, oFdiv_ok, mkL_ok, li]
      simp [h, five, ixP, bc, oMod_ok, oFdiv_ok]
    · refine main 8 3 (by omega) (by omega) (by omega) (by omega) (by decide) ?_
      simp [-oIdx, c_law_book, l0, oMod_ok, oFdiv_ok, mkL_ok, li]
      simp [h, five, ixP, bc, oMod_ok, oFdiv_ok]
end T01

set_option linter.all false
set_option maxHeartbeats 1000000
namespace T01
open VS
def okC (c : Nat) : Bool := decide (97 ≤ c) && decide (c ≤ 122)
def hasS : T → Bool
  | .str s => s.all okC
  | _ => false
theorem le1 {m n : Md} (a b : Nat) : oLe (m, .str [a]) (n, .str [b]) = some (.fr, .bl (decide (a ≤ b))) := by
  have : (!ltx [b] [a]) = decide (a ≤ b) := by
    simp only [ltx]
    by_cases h : b < a
    · simp [h]
    · by_cases h2 : a < b
      · simp [h, h2]; omega
      · simp [h, h2]; omega
  show some (Md.fr, T.bl (!ltx [b] [a])) = _
  rw [this]
theorem all_okC (s : Tx) : (s.map okC).all id = s.all okC := by rw [List.all_map]; rfl
/-- a thing whose kind is seen, and no giant -/
def okT (t : T) : Prop := knownTy t = true ∧ ∀ s, t = .str s → s.length ≤ 16777216
theorem l_has (t : T) (h : okT t) : c_has_only_signs [t] = some (.fr, .bl (hasS t)) := by
  unfold c_has_only_signs
  refine fn_ok [some (.pu t)] (η' := [some (.pu t)]) rfl rfl ?_
  cases t with
  | str s =>
    have hl := h.2 s rfl
    have c := eComp_map (k := 1) (tg := gVar 0) (it := iVal (eVar 0)) (elt := eChain oLe oLe (eC (.str [97])) (eVar 0) (eC (.str [122]))) (η := [some (.pu (.str s))]) (m := .fr) (fun (c : Nat) => T.str [c]) (fun c => T.bl (okC c)) s
      (by simp) rfl hl (fun c _ => ⟨[some (.pu (.str [c])), some (.pu (.str s))], by simp, by
        by_cases h1 : 97 ≤ c
        · simp [-oLe, le1, h1, okC]
        · simp [-oLe, le1, h1, okC]⟩)
    have ba : bAll [(.fr, .lst (s.map fun c => T.bl (okC c)))] = some (.fr, .bl (s.all okC)) := by
      simp only [bAll, bools_map okC s, Option.bind_some, all_okC]
    simp [c, ba, hasS]
  | obj c fs => simp [okT] at h
  | scr ns => simp [okT] at h
  | _ => simp [hasS]
def len200 : T → Bool
  | .str s => decide (s.length ≤ 200)
  | _ => false
theorem l_is_word (t : T) (h : okT t) : c_is_word [t] = some (.fr, .bl (hasS t && len200 t)) := by
  have e := l_has t h
  unfold c_is_word
  have hc : eCall c_has_only_signs (xCons (eVar 0) xNil) [some (.pu t)] = some (.fr, .bl (hasS t)) := eCall_fr rfl e
  refine fn_ok [some (.pu t)] (η' := [some (.pu t)]) rfl rfl ?_
  cases hh : hasS t with
  | false => simp [-eCall, hc, hh]
  | true =>
    cases t with
    | str s =>
      have : (decide ((s.length : Int) ≤ 200)) = decide (s.length ≤ 200) := decide_eq_decide.mpr (by omega)
      simp [-eCall, hc, hh, this, len200]
    | _ => simp [hasS] at hh
def lenS : T → Nat
  | .str s => s.length
  | _ => 0
theorem sum_cast : ∀ l : List Nat, (l.map fun (n : Nat) => (n : Int)).sum = ((l.sum : Nat) : Int)
  | [] => rfl
  | a :: l => by rw [List.map_cons, List.sum_cons, sum_cast l, List.sum_cons]; omega
theorem l_signs (bk : List Tx) (h : bk.length ≤ 16777216) : c_signs_in [.lst (bk.map .str)] = some (.fr, .int (bk.flatten.length : Int)) := by
  have c := eComp_map (k := 1) (tg := gVar 0) (it := iVal (eVar 0)) (elt := eN bLen (xCons (eVar 0) xNil)) (η := [some (.pu (.lst (bk.map .str)))]) (m := .pu) T.str (fun t => T.int (t.length : Int)) bk
    (by simp) rfl h (fun t _ => ⟨[some (.pu (.str t)), some (.pu (.lst (bk.map .str)))], by simp, by simp⟩)
  have bs : bSum [(.fr, .lst (bk.map fun t => T.int (t.length : Int)))] = some (.fr, .int (bk.flatten.length : Int)) := by
    simp only [bSum, ints_map (fun (t : Tx) => (t.length : Int)) bk, Option.bind_some]
    have : bk.map (fun (t : Tx) => (t.length : Int)) = (bk.map List.length).map fun (n : Nat) => (n : Int) := by rw [List.map_map]; rfl
    rw [this, sum_cast, List.length_flatten]
  unfold c_signs_in
  refine fn_ok [some (.pu (.lst (bk.map .str)))] (η' := [some (.pu (.lst (bk.map .str)))]) rfl rfl ?_
  simp [c, bs]
def isB : T → Bool
  | .lst l => decide (l.length ≤ 8) && l.all hasS && decide ((l.map lenS).sum ≤ 120)
  | _ => false
theorem strs_of : ∀ l : List T, l.all hasS = true → ∃ ss : List Tx, l = ss.map .str
  | [], _ => ⟨[], rfl⟩
  | t :: l, h => by
    rw [List.all_cons, Bool.and_eq_true] at h
    obtain ⟨ss, rfl⟩ := strs_of l h.2
    cases t with
    | str s => exact ⟨s :: ss, rfl⟩
    | _ => simp [hasS] at h
theorem l_is_book (t : T) (h : okT t) (hl : ∀ l, t = .lst l → ∀ x ∈ l, okT x) : c_is_book [t] = some (.fr, .bl (isB t)) := by
  unfold c_is_book
  refine fn_ok [some (.pu t)] (η' := [some (.pu t)]) rfl rfl ?_
  cases t with
  | obj c fs => simp [okT] at h
  | scr ns => simp [okT] at h
  | lst l =>
    by_cases h8 : l.length ≤ 8
    · have g8 : ¬ (8 : Int) < (l.length : Int) := by omega
      rw [sCons_nx (η' := [some (.pu (.lst l))]) (by simp [g8])]
      have c : eComp 1 (gVar 0) (iVal (eVar 0)) none (eCall c_has_only_signs (xCons (eVar 0) xNil)) [some (.pu (.lst l))] = some (.fr, .lst (l.map fun t => T.bl (hasS t))) := by
        have := eComp_map (k := 1) (tg := gVar 0) (it := iVal (eVar 0)) (elt := eCall c_has_only_signs (xCons (eVar 0) xNil)) (η := [some (.pu (.lst l))]) (m := .pu) (fun t : T => t) (fun t => T.bl (hasS t)) l
          (by simp) rfl (by omega) (fun t ht => ⟨[some (.pu t), some (.pu (.lst l))], by simp, eCall_fr rfl (l_has t (hl l rfl t ht))⟩)
        exact this
      have ba : bAll [(.fr, .lst (l.map fun t => T.bl (hasS t)))] = some (.fr, .bl (l.all hasS)) := by
        simp only [bAll, bools_map hasS l, Option.bind_some]
        rw [List.all_map]; rfl
      cases hh : l.all hasS with
      | false => simp [-eCall, c, ba, hh, isB]
      | true =>
        obtain ⟨ss, rfl⟩ := strs_of l hh
        have hs : eCall c_signs_in (xCons (eVar 0) xNil) [some (.pu (.lst (ss.map .str)))] = some (.fr, .int (ss.flatten.length : Int)) := eCall_fr rfl (l_signs ss (by simp at h8; omega))
        have e1 : ((ss.map T.str).map lenS).sum = ss.flatten.length := by rw [List.map_map, List.length_flatten]; rfl
        have e2 : decide ((ss.flatten.length : Int) ≤ 120) = decide (ss.flatten.length ≤ 120) := decide_eq_decide.mpr (by omega)
        simp only [isB, hh, e1]
        have h8' : decide ((ss.map T.str).length ≤ 8) = true := decide_eq_true h8
        rw [h8', Bool.true_and, Bool.true_and, ← e2]
        simp [-eCall, c, ba, hh, hs, -List.map_map, -List.length_flatten, -List.all_map]
    · have g8 : (8 : Int) < (l.length : Int) := by omega
      rw [sCons_rt (v := (.fr, .bl false)) (η' := [some (.pu (.lst l))]) (by simp [g8])]
      simp [isB, h8]
  | non => rw [sCons_rt (v := (.fr, .bl false)) (η' := [some (.pu (.non))]) (by simp)]; simp [isB]
  | bl b => rw [sCons_rt (v := (.fr, .bl false)) (η' := [some (.pu (.bl b))]) (by simp)]; simp [isB]
  | int i => rw [sCons_rt (v := (.fr, .bl false)) (η' := [some (.pu (.int i))]) (by simp)]; simp [isB]
  | str s => rw [sCons_rt (v := (.fr, .bl false)) (η' := [some (.pu (.str s))]) (by simp)]; simp [isB]
  | tup l => rw [sCons_rt (v := (.fr, .bl false)) (η' := [some (.pu (.tup l))]) (by simp)]; simp [isB]
  | dct k l => rw [sCons_rt (v := (.fr, .bl false)) (η' := [some (.pu (.dct k l))]) (by simp)]; simp [isB]
def odds : List Tx := [[65], [126], [32], [45], [46], [49], [123], [96], [90], [97, 98, 32]]
theorem l_odd (c : Int) : ∃ o : Tx, c_law_odd_sign [.int c] = some (.fr, .str o) ∧ o.length ≤ 3 ∧ o.all okC = false := by
  have b0 := Int.emod_nonneg c (b := 10) (by decide)
  have b1 := Int.emod_lt_of_pos c (b := 10) (by decide)
  have i := idx_at (m := .fr) (n := .fr) T.str odds (c % 10) [] b0 (by simpa [odds] using b1) rfl
  have : ∀ k, k < 10 → (odds.getD k []).length ≤ 3 ∧ (odds.getD k []).all okC = false := by decide
  obtain ⟨h1, h2⟩ := this (c % 10).toNat (by omega)
  refine ⟨odds.getD (c % 10).toNat [], ?_, h1, h2⟩
  unfold c_law_odd_sign
  refine fn_ok [some (.pu (.int c))] (η' := [some (.pu (.int c))]) rfl rfl ?_
  simp only [odds, List.map_cons, List.map_nil] at i
  simp [-oIdx, -List.getD_eq_getElem?_getD, oMod_ok, mkL_ok, i, odds]
theorem l_is (b : Bool) : c_law_is [.bl b, .bl b] = some (.fr, .bl true) := by
  cases b <;> simp [c_law_is]
end T01

set_option linter.all false
set_option maxHeartbeats 1000000
namespace T01
open VS
structure Bk (bk : List Tx) : Prop where
  n8 : bk.length ≤ 8
  n60 : bk.flatten.length ≤ 60
  ok : ∀ t ∈ bk, t.all okC = true
theorem flat_cut (bk : List Tx) (a b : Option Int) : (cut bk a b).flatten.length ≤ bk.flatten.length := by
  obtain ⟨lo, n, e⟩ : ∃ lo n, cut bk a b = (bk.drop lo).take n := ⟨_, _, rfl⟩
  rw [e]
  have h1 := congrArg (fun x => (List.flatten x).length) (List.take_append_drop lo bk)
  have h2 := congrArg (fun x => (List.flatten x).length) (List.take_append_drop n (bk.drop lo))
  simp only [List.flatten_append, List.length_append] at h1 h2
  omega
theorem len_le_flat {bk : List Tx} {t : Tx} (h : t ∈ bk) : t.length ≤ bk.flatten.length := by
  obtain ⟨a, b, rfl⟩ := List.append_of_mem h
  simp only [List.flatten_append, List.flatten_cons, List.length_append]
  omega
def things : List T := [.non, .int 5, .bl true, .lst [.str [97]], .tup [.str [97]], .dct 0 [(.str [97], .int 1)], .dct 0 [], .int 0]
theorem thing_ok : ∀ t ∈ things, okT t ∧ hasS t = false := by
  intro t ht
  simp only [things, List.mem_cons, List.not_mem_nil, or_false] at ht
  rcases ht with rfl | rfl | rfl | rfl | rfl | rfl | rfl | rfl <;> exact ⟨⟨rfl, fun s hs => by cases hs⟩, rfl⟩
/-- what is_book must tell False of -/
structure Bad (t : T) : Prop where
  ok : okT t
  all : ∀ l, t = .lst l → ∀ x ∈ l, okT x
  no : isB t = false
theorem okT_str {s : Tx} (h : s.length ≤ 1000) : okT (.str s) := ⟨rfl, fun s' e => by cases e; omega⟩
theorem okT_lst (l : List T) : okT (.lst l) := ⟨rfl, fun s e => by cases e⟩
theorem bad_of (pre post : List Tx) (x : T) (hx : okT x) (hn : hasS x = false) (h1 : ∀ t ∈ pre, t.length ≤ 1000) (h2 : ∀ t ∈ post, t.length ≤ 1000) : Bad (.lst (pre.map .str ++ [x] ++ post.map .str)) := by
  refine ⟨okT_lst _, fun l e y hy => ?_, ?_⟩
  · cases e
    rcases List.mem_append.mp hy with hy | hy
    · rcases List.mem_append.mp hy with hy | hy
      · obtain ⟨t, ht, rfl⟩ := List.mem_map.mp hy
        exact okT_str (h1 t ht)
      · rw [List.mem_singleton.mp hy]; exact hx
    · obtain ⟨t, ht, rfl⟩ := List.mem_map.mp hy
      exact okT_str (h2 t ht)
  · simp only [isB]
    have : (pre.map T.str ++ [x] ++ post.map T.str).all hasS = false := by
      rw [Bool.eq_false_iff]
      intro h
      have := List.all_eq_true.mp h x (by simp)
      rw [hn] at this; cases this
    rw [this]
    simp
theorem bad_not {t : T} (h : okT t) (hn : isTy .list t = false) : Bad t := by
  refine ⟨h, fun l e => ?_, ?_⟩
  · subst e; simp at hn
  · cases t <;> first | rfl | simp at hn
theorem mem_cut_len {bk : List Tx} (B : Bk bk) {a b : Option Int} {t : Tx} (h : t ∈ cut bk a b) : t.length ≤ 60 := Nat.le_trans (len_le_flat (cut_mem _ _ _ h)) B.n60
theorem l_spoiled (bk : List Tx) (B : Bk bk) (c : Int) : ∃ m t, c_law_spoiled [.lst (bk.map .str), .int c] = some (m, t) ∧ m ≠ .bo ∧ Bad t := by
  have n8 := B.n8
  have n60 := B.n60
  obtain ⟨o, ho, ol, on⟩ := l_odd (c / 4096)
  generalize ha : c / 16 % ((bk.length : Int) + 1) = at'
  generalize hx : (cut bk (some at') (some (at' + 1))).flatten = tx
  have txl : tx.length ≤ 60 := by rw [← hx]; exact Nat.le_trans (flat_cut _ _ _) n60
  generalize hp : c / 256 % ((tx.length : Int) + 1) = pl
  have c1 := cut_le tx none (some pl)
  have c2 := cut_le tx (some pl) none
  obtain ⟨th, hth, hti⟩ := idx_mem (m := .fr) (n := .fr) things (c / 4096) 8 rfl (by decide)
  obtain ⟨tok, tno⟩ := thing_ok th hth
  let odd : Tx := cut tx none (some pl) ++ o ++ cut tx (some pl) none
  have oddl : odd.length ≤ 123 := by simp only [odd, List.length_append]; omega
  have oddn : odd.all okC = false := by
    simp only [odd, List.all_append, on]
    simp
  let pre := cut bk none (some at')
  let post := cut bk (some (at' + 1)) none
  let h7 := cut bk none (some 7)
  have f7 := flat_cut bk none (some 7)
  have l7 : h7.length ≤ 7 := by
    have e : h7 = bk.take 7 := cut_to bk 7
    rw [e, List.length_take]; omega
  let gr : Tx := List.replicate (121 - h7.flatten.length) 97
  have grl : gr.length + h7.flatten.length = 121 := by simp only [gr, List.length_replicate]; have : h7.flatten.length ≤ 60 := Nat.le_trans f7 n60; omega
  let vA : T := .lst (pre.map .str ++ [.str odd] ++ post.map .str)
  let vB : T := .lst (pre.map .str ++ [th] ++ post.map .str)
  let vC : T := .lst ((cut (bk ++ List.replicate 9 [97]) none (some 9)).map .str)
  obtain ⟨vD, hD, hDi⟩ := idx_mem (m := .fr) (n := .fr) [T.lst ((h7 ++ [gr]).map .str), T.lst ((gr :: h7).map .str)] (c / 16) 2 rfl (by decide)
  let L : List T := [vA, vB, vC, vD, .tup (bk.map .str), .str bk.flatten, .non, .dct 0 [], .int 7, .bl true, .tup [.str [97]], .lst [.lst (bk.map .str)]]
  have bad : ∀ t ∈ L, Bad t := by
    intro t ht
    simp only [L, List.mem_cons, List.not_mem_nil, or_false] at ht
    rcases ht with rfl | rfl | rfl | rfl | rfl | rfl | rfl | rfl | rfl | rfl | rfl | rfl
    · exact bad_of pre post (.str odd) (okT_str (by omega)) oddn (fun t ht => Nat.le_trans (mem_cut_len B ht) (by decide)) fun t ht => Nat.le_trans (mem_cut_len B ht) (by decide)
    · exact bad_of pre post th tok tno (fun t ht => Nat.le_trans (mem_cut_len B ht) (by decide)) fun t ht => Nat.le_trans (mem_cut_len B ht) (by decide)
    · have e : cut (bk ++ List.replicate 9 [97]) none (some 9) = (bk ++ List.replicate 9 [97]).take 9 := cut_to _ 9
      refine ⟨okT_lst _, fun l el x hx => ?_, ?_⟩
      · cases (show T.lst ((cut (bk ++ List.replicate 9 [97]) none (some 9)).map .str) = .lst l from el)
        obtain ⟨t, ht, rfl⟩ := List.mem_map.mp hx
        refine okT_str ?_
        rw [e] at ht
        rcases List.mem_append.mp (List.mem_of_mem_take ht) with h | h
        · exact Nat.le_trans (len_le_flat h) (by omega)
        · rw [(List.mem_replicate.mp h).2]; decide
      · simp only [vC, isB, e, List.length_map, List.length_take, List.length_append, List.length_replicate]
        have : ¬ min 9 (bk.length + 9) ≤ 8 := by omega
        simp [this]
    · simp only [List.mem_cons, List.not_mem_nil, or_false] at hD
      have tot : ∀ l : List Tx, l.flatten.length = 121 → (∀ t ∈ l, t.length ≤ 1000) → Bad (.lst (l.map .str)) := fun l hl h => by
        refine ⟨okT_lst _, fun l' el x hx => ?_, ?_⟩
        · cases el
          obtain ⟨t, ht, rfl⟩ := List.mem_map.mp hx
          exact okT_str (h t ht)
        · simp only [isB]
          have e1 : ((l.map T.str).map lenS).sum = l.flatten.length := by rw [List.map_map, List.length_flatten]; rfl
          rw [e1, hl]
          simp
      have sm : ∀ t ∈ h7, t.length ≤ 1000 := fun t ht => Nat.le_trans (mem_cut_len B ht) (by decide)
      rcases hD with rfl | rfl
      · refine tot _ (by simp only [List.flatten_append, List.flatten_cons, List.flatten_nil, List.append_nil, List.length_append]; omega) fun t ht => ?_
        rcases List.mem_append.mp ht with h | h
        · exact sm t h
        · rw [List.mem_singleton.mp h]; omega
      · refine tot _ (by simp only [List.flatten_cons, List.length_append]; omega) fun t ht => ?_
        rcases List.mem_cons.mp ht with h | h
        · rw [h]; omega
        · exact sm t h
    · exact bad_not ⟨rfl, fun s e => by cases e⟩ rfl
    · exact bad_not (okT_str (by omega)) rfl
    · exact bad_not ⟨rfl, fun s e => by cases e⟩ rfl
    · exact bad_not ⟨rfl, fun s e => by cases e⟩ rfl
    · exact bad_not ⟨rfl, fun s e => by cases e⟩ rfl
    · exact bad_not ⟨rfl, fun s e => by cases e⟩ rfl
    · exact bad_not ⟨rfl, fun s e => by cases e⟩ rfl
    · refine ⟨okT_lst _, fun l el x hx => ?_, ?_⟩
      · cases el
        rw [List.mem_singleton.mp hx]
        exact okT_lst _
      · simp [isB, hasS]
  obtain ⟨t, ht, hti2⟩ := idx_mem (m := .pu) (n := .fr) L c 12 rfl (by decide)
  refine ⟨(sub .pu t).1, t, ?_, by simp only [sub, up]; split <;> decide, bad t ht⟩
  have sB : ∀ (m : Md) (a b : Option Int), oSl (m, .lst (bk.map .str)) a b = some (.fr, .lst ((cut bk a b).map .str)) := fun m a b => by
    show mkL m (cut (bk.map T.str) a b) = _
    rw [cut_map, mkL_ok (by rw [List.length_map]; exact Nat.le_trans (cut_le _ _ _) (by omega)), imms_map _ (fun _ => rfl)]
    rfl
  have cl : ∀ a b, (cut bk a b).length ≤ 8 := fun a b => Nat.le_trans (cut_le _ _ _) n8
  unfold c_law_spoiled
  let e0 : Option Cell := some (.pu (.lst (bk.map .str)))
  let e1 : Option Cell := some (.pu (.int c))
  refine fn_ok [e0, e1, none, none, none, none, none, none, none] (η' := [e0, e1, some (.pu (.int at')), some (.pu (.str tx)), some (.pu (.int pl)), some (.pu (.str odd)), some (.pu th), some (.pu (.lst [vA, vB, vC, vD, .tup (bk.map .str), .str bk.flatten])), some (.pu (.lst [.str gr]))]) rfl rfl ?_
  rw [sCons_nx (η' := [e0, e1, some (.pu (.int at')), none, none, none, none, none, none]) (by simp [e0, e1, oFdiv_ok, oMod_ok (show (0 : Int) < (bk.length : Int) + 1 by omega), ha])]
  rw [sCons_nx (η' := [e0, e1, some (.pu (.int at')), some (.pu (.str tx)), none, none, none, none, none]) (by
    have j := fun m n => mJoin_nil (m := m) (n := n) (strs_map (fun x => x) (cut bk (some at') (some (at' + 1)))) (by rw [List.map_id', hx]; omega)
    simp [-oSl, e0, e1, sB, j, hx])]
  rw [sCons_nx (η' := [e0, e1, some (.pu (.int at')), some (.pu (.str tx)), some (.pu (.int pl)), none, none, none, none]) (by simp [e0, e1, oFdiv_ok, oMod_ok (show (0 : Int) < (tx.length : Int) + 1 by omega), hp])]
  have hodd : eCall c_law_odd_sign (xCons (e2 oFdiv (eVar 1) (eC (.int 4096))) xNil) [e0, e1, some (.pu (.int at')), some (.pu (.str tx)), some (.pu (.int pl)), none, none, none, none] = some (.fr, .str o) := eCall_fr (xs := [(.fr, .int (c / 4096))]) (by simp [e1, oFdiv_ok]) ho
  rw [sCons_nx (η' := [e0, e1, some (.pu (.int at')), some (.pu (.str tx)), some (.pu (.int pl)), some (.pu (.str odd)), none, none, none]) (by
    have a1 := fun m n => oAdd_str (m := m) (n := n) (s := cut tx none (some pl)) (t := o) (by omega)
    have a2 := fun m n => oAdd_str (m := m) (n := n) (s := cut tx none (some pl) ++ o) (t := cut tx (some pl) none) (by rw [List.length_append]; omega)
    simp [-eCall, hodd, a1, a2, odd])]
  rw [sCons_nx (η' := [e0, e1, some (.pu (.int at')), some (.pu (.str tx)), some (.pu (.int pl)), some (.pu (.str odd)), some (.pu th), none, none]) (by
    have hti' := hti
    simp only [things] at hti'
    have d1 : ∀ η, eDct 0 [(eC (.str [97]), eC (.int 1))] η = some (.fr, .dct 0 [(.str [97], .int 1)]) := fun η => rfl
    have d0 : ∀ η, eDct 0 [] η = some (.fr, .dct 0 []) := fun η => rfl
    have hm : ∀ η, (sSetP 6 (eC th)) η = (sSetP 6 (eC th)) η := fun _ => rfl
    simp [-oIdx, e0, e1, oFdiv_ok, oMod_ok, mkL_ok, tupOf_ok, d1, d0, hti'])]
  have imB : ∀ l : List Tx, imms (l.map T.str) = true := fun l => imms_map _ (fun _ => rfl) l
  have kk : ∀ (m : Md) (l : List T), l.length ≤ 1000 → mkL m l = some (if imms l then .fr else m, .lst l) := fun m l h => mkL_ok (by omega)
  have pl8 : pre.length ≤ 8 := cl _ _
  have po8 : post.length ≤ 8 := cl _ _
  have addS : ∀ (m n : Md) (l r : List Tx), l.length + r.length ≤ 1000 → oAdd (m, .lst (l.map .str)) (n, .lst (r.map .str)) = some (.fr, .lst ((l ++ r).map .str)) := fun m n l r h => by
    rw [oAdd_lst, kk _ _ (by simp; omega), ← List.map_append, imB]; rfl
  have fA1 : ∀ m n, oAdd (m, .lst (pre.map .str)) (n, .lst [.str odd]) = some (.fr, .lst ((pre ++ [odd]).map .str)) := fun m n => addS m n pre [odd] (by simp; omega)
  have fA2 : ∀ m n, oAdd (m, .lst ((pre ++ [odd]).map .str)) (n, .lst (post.map .str)) = some (.fr, vA) := fun m n => by
    rw [addS m n _ post (by simp; omega)]; simp [vA]
  have im1 : ∀ (l : List Tx) (x : T) (r : List Tx), imms (l.map T.str ++ [x] ++ r.map T.str) = imm x := fun l x r => by
    have app : ∀ a b : List T, imms (a ++ b) = (imms a && imms b) := fun a b => by
      induction a with
      | nil => simp
      | cons y a ih => simp [ih, Bool.and_assoc]
    rw [app, app, imB, imB]; simp
  have im2 : ∀ (l : List Tx) (x : T), imms (l.map T.str ++ [x]) = imm x := fun l x => by simpa using im1 l x []
  let mB : Md := if imm th then .fr else .pu
  have vBe : e2 oAdd (e2 oAdd (eSl (eVar 0) none (some (eVar 2))) (eLst (xCons (eVar 6) xNil))) (eSl (eVar 0) (some (e2 oAdd (eVar 2) (eC (.int 1)))) none) [e0, e1, some (.pu (.int at')), some (.pu (.str tx)), some (.pu (.int pl)), some (.pu (.str odd)), some (.pu th), none, none] = some (mB, vB) := by
    have g1 : ∀ m n, oAdd (m, .lst (pre.map .str)) (n, .lst [th]) = some (if imm th then .fr else m.join n, .lst (pre.map .str ++ [th])) := fun m n => by
      rw [oAdd_lst, kk _ _ (by simp; omega), im2]
    have g2 : ∀ m n, oAdd (m, .lst (pre.map .str ++ [th])) (n, .lst (post.map .str)) = some (if imm th then .fr else m.join n, vB) := fun m n => by
      rw [oAdd_lst, kk _ _ (by simp; omega), im1]
    by_cases hi : imm th = true
    · simp [-oSl, e0, sB, mkL_ok, hi, mB]
      rw [g1]; simp [-oSl, sB, hi]; rw [g2]; simp [hi]
    · simp [-oSl, e0, sB, mkL_ok, hi, mB]
      rw [g1]; simp [-oSl, sB, hi]; rw [g2]; simp [hi]
  have vCe : eSl (e2 oAdd (eVar 0) (e2 oRepL (eLst (xCons (eC (.str [97])) xNil)) (eC (.int 9)))) none (some (eC (.int 9))) [e0, e1, some (.pu (.int at')), some (.pu (.str tx)), some (.pu (.int pl)), some (.pu (.str odd)), some (.pu th), none, none] = some (.fr, vC) := by
    have r9 : ∀ m n, oRepL (m, .lst [.str [97]]) (n, .int 9) = some (.fr, .lst ((List.replicate 9 [97]).map .str)) := fun m n => rfl
    have s9 : ∀ m, oSl (m, .lst ((bk ++ List.replicate 9 [97]).map .str)) none (some 9) = some (.fr, vC) := fun m => by
      show mkL m (cut ((bk ++ List.replicate 9 [97]).map T.str) none (some 9)) = _
      rw [cut_map, kk _ _ (by rw [List.length_map]; exact Nat.le_trans (cut_le _ _ _) (by simp; omega)), imB]
      rfl
    have a9 := fun m n => addS m n bk (List.replicate 9 [97]) (by simp; omega)
    simp only [eSl, e2, eVar, eLst, xCons, xNil, eC, e0, List.getElem?_cons_zero, Option.bind_some, up, imm, Bool.false_eq_true, if_false, trees, List.map_cons, List.map_nil, joins, mkL_ok (show ([T.str [97]] : List T).length ≤ 16777216 by decide)]
    rw [r9]
    simp only [Option.bind_some]
    rw [a9]
    exact s9 _
  rw [sCons_nx (η' := [e0, e1, some (.pu (.int at')), some (.pu (.str tx)), some (.pu (.int pl)), some (.pu (.str odd)), some (.pu th), some (.pu (.lst [vA, vB, vC])), none]) (sSetP_ok (m := mB) (by
    have vAe : e2 oAdd (e2 oAdd (eSl (eVar 0) none (some (eVar 2))) (eLst (xCons (eVar 5) xNil))) (eSl (eVar 0) (some (e2 oAdd (eVar 2) (eC (.int 1)))) none) [e0, e1, some (.pu (.int at')), some (.pu (.str tx)), some (.pu (.int pl)), some (.pu (.str odd)), some (.pu th), none, none] = some (.fr, vA) := by
      simp [-oSl, e0, sB, mkL_ok]
      rw [fA1]; simp [-oSl, -List.map_append, sB]; rw [fA2]
    have nim : imms [vA, vB, vC] = false := rfl
    rw [eLst, xCons, vAe, Option.bind_some, xCons, vBe, Option.bind_some, xCons, vCe]
    simp only [xNil, Option.bind_some, joins, trees, List.map_cons, List.map_nil]
    rw [kk _ _ (by simp), nim]
    cases hmB : mB <;> rfl) (by simp only [mB]; split <;> decide) (by simp))]
  have sum7 : eN bSum (xCons (eComp 1 (gVar 0) (iVal (eSl (eVar 0) none (some (eC (.int 7))))) none (eN bLen (xCons (eVar 0) xNil))) xNil) [e0, e1, some (.pu (.int at')), some (.pu (.str tx)), some (.pu (.int pl)), some (.pu (.str odd)), some (.pu th), some (.pu (.lst [vA, vB, vC])), none] = some (.fr, .int (h7.flatten.length : Int)) := by
    have cc := eComp_map (k := 1) (tg := gVar 0) (it := iVal (eSl (eVar 0) none (some (eC (.int 7))))) (elt := eN bLen (xCons (eVar 0) xNil)) (η := [e0, e1, some (.pu (.int at')), some (.pu (.str tx)), some (.pu (.int pl)), some (.pu (.str odd)), some (.pu th), some (.pu (.lst [vA, vB, vC])), none]) (m := .fr) T.str (fun t => T.int (t.length : Int)) h7
      (by
        have : eSl (eVar 0) none (some (eC (.int 7))) [e0, e1, some (.pu (.int at')), some (.pu (.str tx)), some (.pu (.int pl)), some (.pu (.str odd)), some (.pu th), some (.pu (.lst [vA, vB, vC])), none] = some (.fr, .lst (h7.map .str)) := sB _ _ _
        rw [iVal_lst this]) rfl (by omega) (fun t _ => ⟨[some (.pu (.str t)), e0, e1, some (.pu (.int at')), some (.pu (.str tx)), some (.pu (.int pl)), some (.pu (.str odd)), some (.pu th), some (.pu (.lst [vA, vB, vC])), none], by simp, by simp⟩)
    have bs : bSum [(.fr, .lst (h7.map fun t => T.int (t.length : Int)))] = some (.fr, .int (h7.flatten.length : Int)) := by
      simp only [bSum, ints_map (fun (t : Tx) => (t.length : Int)) h7, Option.bind_some]
      have : h7.map (fun (t : Tx) => (t.length : Int)) = (h7.map List.length).map fun (n : Nat) => (n : Int) := by rw [List.map_map]; rfl
      rw [this, sum_cast, List.length_flatten]
    rw [eN, xCons, cc]
    exact bs
  have f60 : h7.flatten.length ≤ 60 := Nat.le_trans f7 n60
  rw [sCons_nx (η' := [e0, e1, some (.pu (.int at')), some (.pu (.str tx)), some (.pu (.int pl)), some (.pu (.str odd)), some (.pu th), some (.pu (.lst [vA, vB, vC])), some (.pu (.lst [.str gr]))]) (sSetP_ok (m := .fr) (by
    have rp : ∀ m n, oRepS (m, .str [97]) (n, .int (121 - (h7.flatten.length : Int))) = some (.fr, .str gr) := fun m n => by
      have e : (121 - (h7.flatten.length : Int)).toNat = 121 - h7.flatten.length := by omega
      have fl : ∀ k : Nat, (List.replicate k [97]).flatten = List.replicate k 97 := fun k => by
        induction k with
        | zero => rfl
        | succ k ih => rw [List.replicate_succ, List.flatten_cons, ih]; rfl
      show (if _ then _ else none) = _
      rw [if_pos ⟨by rw [e]; show 1 * _ ≤ 16777216; omega, by unfold B62; omega, by unfold B62; omega⟩, e, fl]
    rw [eLst, xCons, e2, eC, Option.bind_some, e2, eC, Option.bind_some, sum7]
    simp only [Option.bind_some, oSub]
    rw [rp]
    rfl) (by decide) (by simp))]
  have l4 : e2 oIdx (eLst (xCons (e2 oAdd (eSl (eVar 0) none (some (eC (.int 7)))) (eVar 8)) (xCons (e2 oAdd (eVar 8) (eSl (eVar 0) none (some (eC (.int 7))))) xNil))) (e2 oMod (e2 oFdiv (eVar 1) (eC (.int 16))) (eC (.int 2))) [e0, e1, some (.pu (.int at')), some (.pu (.str tx)), some (.pu (.int pl)), some (.pu (.str odd)), some (.pu th), some (.pu (.lst [vA, vB, vC])), some (.pu (.lst [.str gr]))] = some (.fr, vD) := by
    have p1 : e2 oAdd (eSl (eVar 0) none (some (eC (.int 7)))) (eVar 8) [e0, e1, some (.pu (.int at')), some (.pu (.str tx)), some (.pu (.int pl)), some (.pu (.str odd)), some (.pu th), some (.pu (.lst [vA, vB, vC])), some (.pu (.lst [.str gr]))] = some (.fr, .lst ((h7 ++ [gr]).map .str)) := by
      have s7 : eSl (eVar 0) none (some (eC (.int 7))) [e0, e1, some (.pu (.int at')), some (.pu (.str tx)), some (.pu (.int pl)), some (.pu (.str odd)), some (.pu th), some (.pu (.lst [vA, vB, vC])), some (.pu (.lst [.str gr]))] = some (.fr, .lst (h7.map .str)) := sB _ _ _
      rw [e2, s7]
      exact addS _ _ h7 [gr] (by simp; omega)
    have p2 : e2 oAdd (eVar 8) (eSl (eVar 0) none (some (eC (.int 7)))) [e0, e1, some (.pu (.int at')), some (.pu (.str tx)), some (.pu (.int pl)), some (.pu (.str odd)), some (.pu th), some (.pu (.lst [vA, vB, vC])), some (.pu (.lst [.str gr]))] = some (.fr, .lst ((gr :: h7).map .str)) := by
      have s7 : eSl (eVar 0) none (some (eC (.int 7))) [e0, e1, some (.pu (.int at')), some (.pu (.str tx)), some (.pu (.int pl)), some (.pu (.str odd)), some (.pu th), some (.pu (.lst [vA, vB, vC])), some (.pu (.lst [.str gr]))] = some (.fr, .lst (h7.map .str)) := sB _ _ _
      have v8 : eVar 8 [e0, e1, some (.pu (.int at')), some (.pu (.str tx)), some (.pu (.int pl)), some (.pu (.str odd)), some (.pu th), some (.pu (.lst [vA, vB, vC])), some (.pu (.lst [.str gr]))] = some (.pu, .lst ([gr].map .str)) := rfl
      rw [e2, v8, Option.bind_some, s7]
      exact addS _ _ [gr] h7 (by simp; omega)
    have nim : imms [T.lst ((h7 ++ [gr]).map .str), T.lst ((gr :: h7).map .str)] = false := rfl
    rw [e2, eLst, xCons, p1, Option.bind_some, xCons, p2]
    simp only [xNil, Option.bind_some, joins, trees, List.map_cons, List.map_nil]
    simp only [List.map_cons] at hDi nim
    rw [kk _ _ (by simp), nim]
    simp [-oIdx, e1, oFdiv_ok, oMod_ok]
    simp only [List.map_append, List.map_cons, List.map_nil] at hDi
    rw [hDi]
    simp
  have tu : eN bTupleL (xCons (eVar 0) xNil) [e0, e1, some (.pu (.int at')), some (.pu (.str tx)), some (.pu (.int pl)), some (.pu (.str odd)), some (.pu th), some (.pu (.lst [vA, vB, vC])), some (.pu (.lst [.str gr]))] = some (.fr, .tup (bk.map .str)) := by
    have : bTupleL [(.pu, .lst (bk.map .str))] = some (.fr, .tup (bk.map .str)) := by
      show (if _ then _ else none) = _
      rw [if_pos (by rw [List.length_map]; show _ ≤ 16777216; omega)]
      simp only [up, imm, imB]
      rfl
    simp [e0, this]
  have jo : eM mJoin (eC (.str [])) (xCons (eVar 0) xNil) [e0, e1, some (.pu (.int at')), some (.pu (.str tx)), some (.pu (.int pl)), some (.pu (.str odd)), some (.pu th), some (.pu (.lst [vA, vB, vC])), some (.pu (.lst [.str gr]))] = some (.fr, .str bk.flatten) := by
    have j := fun m n => mJoin_nil (m := m) (n := n) (strs_map (fun x => x) bk) (by rw [List.map_id']; omega)
    simp [e0, j]
  rw [sCons_nx (η' := [e0, e1, some (.pu (.int at')), some (.pu (.str tx)), some (.pu (.int pl)), some (.pu (.str odd)), some (.pu th), some (.pu (.lst [vA, vB, vC, vD, .tup (bk.map .str), .str bk.flatten])), some (.pu (.lst [.str gr]))]) (sSetP_ok (m := .pu) (by
    have v7 : eVar 7 [e0, e1, some (.pu (.int at')), some (.pu (.str tx)), some (.pu (.int pl)), some (.pu (.str odd)), some (.pu th), some (.pu (.lst [vA, vB, vC])), some (.pu (.lst [.str gr]))] = some (.pu, .lst [vA, vB, vC]) := rfl
    rw [e2, v7, Option.bind_some, eLst, xCons, l4, Option.bind_some, xCons, tu, Option.bind_some, xCons, jo]
    simp only [xNil, Option.bind_some, joins, trees, List.map_cons, List.map_nil]
    rw [kk _ _ (by simp)]
    simp only [Option.bind_some, oAdd_lst]
    rw [kk _ _ (by simp)]
    have nim : imms ([vA, vB, vC] ++ [vD, .tup (bk.map .str), .str bk.flatten]) = false := rfl
    rw [nim]
    cases hi : imms [vD, .tup (bk.map .str), .str bk.flatten] <;> rfl) (by decide) (by simp))]
  have lastE : e2 oAdd (eVar 7) (eLst (xCons (eC .non) (xCons (eDct 0 []) (xCons (eC (.int 7)) (xCons (eC (.bl true)) (xCons (eTup (xCons (eC (.str [97])) xNil)) (xCons (eLst (xCons (eVar 0) xNil)) xNil))))))) [e0, e1, some (.pu (.int at')), some (.pu (.str tx)), some (.pu (.int pl)), some (.pu (.str odd)), some (.pu th), some (.pu (.lst [vA, vB, vC, vD, .tup (bk.map .str), .str bk.flatten])), some (.pu (.lst [.str gr]))] = some (.pu, .lst L) := by
    have v7 : eVar 7 [e0, e1, some (.pu (.int at')), some (.pu (.str tx)), some (.pu (.int pl)), some (.pu (.str odd)), some (.pu th), some (.pu (.lst [vA, vB, vC, vD, .tup (bk.map .str), .str bk.flatten])), some (.pu (.lst [.str gr]))] = some (.pu, .lst [vA, vB, vC, vD, .tup (bk.map .str), .str bk.flatten]) := rfl
    have lb : eLst (xCons (eVar 0) xNil) [e0, e1, some (.pu (.int at')), some (.pu (.str tx)), some (.pu (.int pl)), some (.pu (.str odd)), some (.pu th), some (.pu (.lst [vA, vB, vC, vD, .tup (bk.map .str), .str bk.flatten])), some (.pu (.lst [.str gr]))] = some (.pu, .lst [.lst (bk.map .str)]) := by
      have v0 : eVar 0 [e0, e1, some (.pu (.int at')), some (.pu (.str tx)), some (.pu (.int pl)), some (.pu (.str odd)), some (.pu th), some (.pu (.lst [vA, vB, vC, vD, .tup (bk.map .str), .str bk.flatten])), some (.pu (.lst [.str gr]))] = some (.pu, .lst (bk.map .str)) := rfl
      rw [eLst, xCons, v0]
      rfl
    have le : eLst (xCons (eC .non) (xCons (eDct 0 []) (xCons (eC (.int 7)) (xCons (eC (.bl true)) (xCons (eTup (xCons (eC (.str [97])) xNil)) (xCons (eLst (xCons (eVar 0) xNil)) xNil)))))) [e0, e1, some (.pu (.int at')), some (.pu (.str tx)), some (.pu (.int pl)), some (.pu (.str odd)), some (.pu th), some (.pu (.lst [vA, vB, vC, vD, .tup (bk.map .str), .str bk.flatten])), some (.pu (.lst [.str gr]))] = some (.pu, .lst [.non, .dct 0 [], .int 7, .bl true, .tup [.str [97]], .lst [.lst (bk.map .str)]]) := by
      rw [eLst]
      simp only [xCons, xNil, lb, eC, Option.bind_some]
      rfl
    rw [e2, v7, Option.bind_some, le, Option.bind_some, oAdd_lst, kk _ _ (by simp)]
    rfl
  rw [sRet, e2, lastE, Option.bind_some]
  simp only [e2, eVar, e1, List.getElem?_cons_succ, List.getElem?_cons_zero, up, imm, if_true, eC, Option.bind_some, oMod_ok (show (0 : Int) < 12 by decide)]
  rw [hti2]
  simp only [Option.bind_some, sub, up]
  cases hi : imm t <;> rfl
end T01

set_option linter.all false
set_option maxHeartbeats 2000000
namespace T01
open VS
theorem isB_ok (l : List Tx) (h8 : l.length ≤ 8) (ha : ∀ t ∈ l, t.all okC = true) (hn : l.flatten.length ≤ 120) : isB (.lst (l.map .str)) = true := by
  have e1 : ((l.map T.str).map lenS).sum = l.flatten.length := by rw [List.map_map, List.length_flatten]; rfl
  have e2 : (l.map T.str).all hasS = true := by
    rw [List.all_eq_true]
    intro t ht
    obtain ⟨x, hx, rfl⟩ := List.mem_map.mp ht
    exact ha x hx
  simp only [isB, e1, e2, List.length_map, h8, hn, decide_true, Bool.and_self]
theorem book_ok (l : List Tx) (h8 : l.length ≤ 8) (ha : ∀ t ∈ l, t.all okC = true) (hn : l.flatten.length ≤ 120) : c_is_book [.lst (l.map .str)] = some (.fr, .bl true) := by
  rw [l_is_book _ (okT_lst _) fun l' e x hx => ?_, isB_ok l h8 ha hn]
  cases e
  obtain ⟨t, ht, rfl⟩ := List.mem_map.mp hx
  exact okT_str (Nat.le_trans (len_le_flat ht) (by omega))
def E0 (ns : List Int) (bk : List Tx) (z4 z5 z6 z7 z8 : Option Cell) : Env := [some (.pu (.scr ns)), some (.pu (.lst (bk.map .str))), some (.pu (.lst (bk.map .str))), some (.pu (.int (bk.flatten.length : Int))), z4, z5, z6, z7, z8]
theorem len_flat_rep (k : Nat) (s : Tx) : (List.replicate k s).flatten.length = k * s.length := by
  induction k with
  | zero => simp
  | succ k ih => rw [List.replicate_succ, List.flatten_cons, List.length_append, ih, Nat.succ_mul, Nat.add_comm]
theorem l_turn (ns : List Int) (bk : List Tx) (B : Bk bk) (i : Nat) (hi : i < 8) (z4 z6 z7 z8 : Option Cell) : ∃ z6' z7' z8', c_law_L1 (E0 ns bk z4 (some (.pu (.int i))) z6 z7 z8) = some (.nx (E0 ns bk z4 (some (.pu (.int i))) z6' z7' z8')) := by
  have n8 := B.n8
  have n60 := B.n60
  have cc := l_cell_at ns (12 + i)
  rw [show ((12 + i : Nat) : Int) = 12 + (i : Int) by omega] at cc
  generalize hcell : cellAt ns (12 + i) + 65537 * (i : Int) = cell
  obtain ⟨ms, sp, hsp, hms, bad⟩ := l_spoiled bk B cell
  have hb := l_is_book sp bad.ok bad.all
  rw [bad.no] at hb
  -- the word
  obtain ⟨xyz, hxyz⟩ : ∃ x : Tx, x = (List.replicate 70 [120, 121, 122]).flatten := ⟨_, rfl⟩
  have xl : xyz.length = 210 := by rw [hxyz]; exact len_flat_rep 70 [120, 121, 122]
  have xok : xyz.all okC = true := by
    rw [List.all_eq_true]
    intro c hc
    rw [hxyz] at hc
    obtain ⟨s, hs, hcs⟩ := List.mem_flatten.mp hc
    rw [(List.mem_replicate.mp hs).2] at hcs
    simp only [List.mem_cons, List.not_mem_nil, or_false] at hcs
    rcases hcs with rfl | rfl | rfl <;> rfl
  obtain ⟨sz, _, hszi⟩ := idx_mem (m := .fr) (n := .fr) [.int 0, .int 199, .int 200, .int 201, .int 7] cell 5 rfl (by decide)
  obtain ⟨si, rfl⟩ : ∃ si : Int, sz = .int si := by
    rename_i hm
    simp only [List.mem_cons, List.not_mem_nil, or_false] at hm
    rcases hm with rfl | rfl | rfl | rfl | rfl <;> exact ⟨_, rfl⟩
  let w : Tx := cut (bk.flatten ++ xyz) none (some si)
  have wl : w.length ≤ 270 := Nat.le_trans (cut_le _ _ _) (by rw [List.length_append]; omega)
  have wok : w.all okC = true := by
    rw [List.all_eq_true]
    intro c hc
    rcases List.mem_append.mp (cut_mem _ _ _ hc) with h | h
    · obtain ⟨t, ht, hct⟩ := List.mem_flatten.mp h
      exact List.all_eq_true.mp (B.ok t ht) c hct
    · exact List.all_eq_true.mp xok c h
  have hw := l_is_word (.str w) (okT_str (by omega))
  have wd : (hasS (.str w) && len200 (.str w)) = decide ((w.length : Int) < 201) := by
    show (w.all okC && _) = _
    rw [wok, Bool.true_and]
    exact decide_eq_decide.mpr (by omega)
  simp only [wd] at hw
  generalize hat : cell / 5 % ((w.length : Int) + 1) = at'
  obtain ⟨o, ho, ol, on⟩ := l_odd (cell / 7)
  have c1 := cut_le w none (some at')
  have c2 := cut_le w (some at') none
  let wo : Tx := cut w none (some at') ++ o ++ cut w (some at') none
  have wol : wo.length ≤ 1000 := by simp only [wo, List.length_append]; omega
  have won : wo.all okC = false := by
    simp only [wo, List.all_append, on]
    simp
  have hwo := l_is_word (.str wo) (okT_str wol)
  have e3 : hasS (.str wo) = false := won
  rw [e3, Bool.false_and] at hwo
  obtain ⟨th, hth, hti⟩ := idx_mem (m := .fr) (n := .fr) [.non, .int 5, .bl true, .lst [.str [97]], .tup [.str [97]], .dct 0 [], .lst [.str w], .int 0] cell 8 rfl (by decide)
  have thn : okT th ∧ hasS th = false := by
    simp only [List.mem_cons, List.not_mem_nil, or_false] at hth
    rcases hth with rfl | rfl | rfl | rfl | rfl | rfl | rfl | rfl <;> exact ⟨⟨rfl, fun s hs => by cases hs⟩, rfl⟩
  have hth2 := l_is_word th thn.1
  rw [thn.2, Bool.false_and] at hth2
  refine ⟨some (.pu (.int cell)), some (.pu (.str w)), some (.pu (.int at')), ?_⟩
  unfold c_law_L1
  rw [sCons_nx (η' := E0 ns bk z4 (some (.pu (.int i))) (some (.pu (.int cell))) z7 z8) (sSetP_ok (m := .fr) (by
    have hc1 : eCall c_law_cell_at (xCons (eVar 0) (xCons (e2 oAdd (eC (.int 12)) (eVar 5)) xNil)) (E0 ns bk z4 (some (.pu (.int i))) z6 z7 z8) = some (.fr, .int (cellAt ns (12 + i))) := eCall_fr (xs := [(.fr, .scr ns), (.fr, .int (12 + (i : Int)))]) rfl cc
    rw [e2, hc1]
    simp [E0, oMul_l (i := 65537) (by decide), hcell]) (by decide) (by simp [E0]))]
  have is1 : ∀ η, eCall c_law_spoiled (xCons (eVar 1) (xCons (eVar 6) xNil)) η = some (ms, sp) ∨ True := fun _ => .inr trivial
  -- is_book of the spoiled one
  have s1 : ∃ mm, eCall c_law_spoiled (xCons (eVar 1) (xCons (eVar 6) xNil)) (E0 ns bk z4 (some (.pu (.int i))) (some (.pu (.int cell))) z7 z8) = some (mm, sp) := by
    cases ms with
    | fr => exact ⟨_, eCall_fr (xs := [(.pu, .lst (bk.map .str)), (.fr, .int cell)]) rfl hsp⟩
    | pu => exact ⟨_, eCall_pu (xs := [(.pu, .lst (bk.map .str)), (.fr, .int cell)]) rfl hsp⟩
    | bo => exact absurd rfl hms
  obtain ⟨mm, s1⟩ := s1
  have s2 : eCall c_is_book (xCons (eCall c_law_spoiled (xCons (eVar 1) (xCons (eVar 6) xNil))) xNil) (E0 ns bk z4 (some (.pu (.int i))) (some (.pu (.int cell))) z7 z8) = some (.fr, .bl false) :=
    eCall_fr (xs := [(mm, sp)]) (by rw [xCons, s1]; rfl) hb
  have s3 : eCall c_law_is (xCons (eCall c_is_book (xCons (eCall c_law_spoiled (xCons (eVar 1) (xCons (eVar 6) xNil))) xNil)) (xCons (eC (.bl false)) xNil)) (E0 ns bk z4 (some (.pu (.int i))) (some (.pu (.int cell))) z7 z8) = some (.fr, .bl true) :=
    eCall_fr (xs := [(.fr, .bl false), (.fr, .bl false)]) (by rw [xCons, s2]; rfl) (l_is false)
  rw [sCons_nx (η' := E0 ns bk z4 (some (.pu (.int i))) (some (.pu (.int cell))) z7 z8) (by
    rw [sIf, eNot, s3]; rfl)]
  rw [sCons_nx (η' := E0 ns bk z4 (some (.pu (.int i))) (some (.pu (.int cell))) (some (.pu (.str w))) z8) (sSetP_ok (m := .fr) (by
    have j : mJoin (.fr, .str []) [(.pu, .lst (bk.map .str))] = some (.fr, .str bk.flatten) := by
      have := mJoin_nil (m := .fr) (n := .pu) (strs_map (fun x => x) bk) (by rw [List.map_id']; omega)
      rw [List.map_id'] at this
      exact this
    have r : ∀ m n, oRepS (m, .str [120, 121, 122]) (n, .int 70) = some (.fr, .str xyz) := fun m n => by
      rw [hxyz]
      exact oRepS_ok (s := [120, 121, 122]) (j := 70) (by decide) (by decide)
    have a : ∀ m n, oAdd (m, .str bk.flatten) (n, .str xyz) = some (.fr, .str (bk.flatten ++ xyz)) := fun m n => oAdd_str (by omega)
    have i1 : e2 oIdx (eLst (xCons (eC (.int 0)) (xCons (eC (.int 199)) (xCons (eC (.int 200)) (xCons (eC (.int 201)) (xCons (eC (.int 7)) xNil)))))) (e2 oMod (eVar 6) (eC (.int 5))) (E0 ns bk z4 (some (.pu (.int i))) (some (.pu (.int cell))) z7 z8) = some (.fr, .int si) := by
      simp [-oIdx, E0, mkL_ok, oMod_ok]
      rw [hszi]
      simp
    have p1 : e2 oAdd (eM mJoin (eC (.str [])) (xCons (eVar 1) xNil)) (e2 oRepS (eC (.str [120, 121, 122])) (eC (.int 70))) (E0 ns bk z4 (some (.pu (.int i))) (some (.pu (.int cell))) z7 z8) = some (.fr, .str (bk.flatten ++ xyz)) := by
      have q1 : eM mJoin (eC (.str [])) (xCons (eVar 1) xNil) (E0 ns bk z4 (some (.pu (.int i))) (some (.pu (.int cell))) z7 z8) = some (.fr, .str bk.flatten) := j
      have q2 : e2 oRepS (eC (.str [120, 121, 122])) (eC (.int 70)) (E0 ns bk z4 (some (.pu (.int i))) (some (.pu (.int cell))) z7 z8) = some (.fr, .str xyz) := r .fr .fr
      rw [e2, q1, Option.bind_some, q2]
      exact a .fr .fr
    rw [eSl, p1, Option.bind_some, partI, Option.bind_some, partI, i1]
    rfl) (by decide) (by simp [E0]))]
  have t1 : eCall c_is_word (xCons (eVar 7) xNil) (E0 ns bk z4 (some (.pu (.int i))) (some (.pu (.int cell))) (some (.pu (.str w))) z8) = some (.fr, .bl (decide ((w.length : Int) < 201))) := eCall_fr (xs := [(.fr, .str w)]) rfl hw
  have t2 : eCall c_law_is (xCons (eCall c_is_word (xCons (eVar 7) xNil)) (xCons (e2 oLt (eN bLen (xCons (eVar 7) xNil)) (eC (.int 201))) xNil)) (E0 ns bk z4 (some (.pu (.int i))) (some (.pu (.int cell))) (some (.pu (.str w))) z8) = some (.fr, .bl true) :=
    eCall_fr (xs := [(.fr, .bl (decide ((w.length : Int) < 201))), (.fr, .bl (decide ((w.length : Int) < 201)))]) (by rw [xCons, t1]; rfl) (l_is _)
  rw [sCons_nx (η' := E0 ns bk z4 (some (.pu (.int i))) (some (.pu (.int cell))) (some (.pu (.str w))) z8) (by rw [sIf, eNot, t2]; rfl)]
  rw [sCons_nx (η' := E0 ns bk z4 (some (.pu (.int i))) (some (.pu (.int cell))) (some (.pu (.str w))) (some (.pu (.int at')))) (sSetP_ok (m := .fr) (by
    simp [E0, oFdiv_ok, oMod_ok (show (0 : Int) < (w.length : Int) + 1 by omega), hat]) (by decide) (by simp [E0]))]
  have o1 : eCall c_law_odd_sign (xCons (e2 oFdiv (eVar 6) (eC (.int 7))) xNil) (E0 ns bk z4 (some (.pu (.int i))) (some (.pu (.int cell))) (some (.pu (.str w))) (some (.pu (.int at')))) = some (.fr, .str o) := eCall_fr (xs := [(.fr, .int (cell / 7))]) (by simp [E0, oFdiv_ok]) ho
  have o2 : e2 oAdd (e2 oAdd (eSl (eVar 7) none (some (eVar 8))) (eCall c_law_odd_sign (xCons (e2 oFdiv (eVar 6) (eC (.int 7))) xNil))) (eSl (eVar 7) (some (eVar 8)) none) (E0 ns bk z4 (some (.pu (.int i))) (some (.pu (.int cell))) (some (.pu (.str w))) (some (.pu (.int at')))) = some (.fr, .str wo) := by
    have a1 : oAdd (.fr, .str (cut w none (some at'))) (.fr, .str o) = some (.fr, .str (cut w none (some at') ++ o)) := oAdd_str (by omega)
    have a2 : oAdd (.fr, .str (cut w none (some at') ++ o)) (.fr, .str (cut w (some at') none)) = some (.fr, .str wo) := oAdd_str (by rw [List.length_append]; omega)
    have q1 : eSl (eVar 7) none (some (eVar 8)) (E0 ns bk z4 (some (.pu (.int i))) (some (.pu (.int cell))) (some (.pu (.str w))) (some (.pu (.int at')))) = some (.fr, .str (cut w none (some at'))) := rfl
    have q2 : eSl (eVar 7) (some (eVar 8)) none (E0 ns bk z4 (some (.pu (.int i))) (some (.pu (.int cell))) (some (.pu (.str w))) (some (.pu (.int at')))) = some (.fr, .str (cut w (some at') none)) := rfl
    rw [e2, e2, q1, Option.bind_some, o1, Option.bind_some, a1, Option.bind_some, q2]
    exact a2
  have o3 : eCall c_is_word (xCons (e2 oAdd (e2 oAdd (eSl (eVar 7) none (some (eVar 8))) (eCall c_law_odd_sign (xCons (e2 oFdiv (eVar 6) (eC (.int 7))) xNil))) (eSl (eVar 7) (some (eVar 8)) none)) xNil) (E0 ns bk z4 (some (.pu (.int i))) (some (.pu (.int cell))) (some (.pu (.str w))) (some (.pu (.int at')))) = some (.fr, .bl false) :=
    eCall_fr (xs := [(.fr, .str wo)]) (by rw [xCons, o2]; rfl) hwo
  have o4 : eCall c_law_is (xCons (eCall c_is_word (xCons (e2 oAdd (e2 oAdd (eSl (eVar 7) none (some (eVar 8))) (eCall c_law_odd_sign (xCons (e2 oFdiv (eVar 6) (eC (.int 7))) xNil))) (eSl (eVar 7) (some (eVar 8)) none)) xNil)) (xCons (eC (.bl false)) xNil)) (E0 ns bk z4 (some (.pu (.int i))) (some (.pu (.int cell))) (some (.pu (.str w))) (some (.pu (.int at')))) = some (.fr, .bl true) :=
    eCall_fr (xs := [(.fr, .bl false), (.fr, .bl false)]) (by rw [xCons, o3]; rfl) (l_is false)
  rw [sCons_nx (η' := E0 ns bk z4 (some (.pu (.int i))) (some (.pu (.int cell))) (some (.pu (.str w))) (some (.pu (.int at')))) (by rw [sIf, eNot, o4]; rfl)]
  have p0 : e2 oIdx (eLst (xCons (eC .non) (xCons (eC (.int 5)) (xCons (eC (.bl true)) (xCons (eLst (xCons (eC (.str [97])) xNil)) (xCons (eTup (xCons (eC (.str [97])) xNil)) (xCons (eDct 0 []) (xCons (eLst (xCons (eVar 7) xNil)) (xCons (eC (.int 0)) xNil))))))))) (e2 oMod (eVar 6) (eC (.int 8))) (E0 ns bk z4 (some (.pu (.int i))) (some (.pu (.int cell))) (some (.pu (.str w))) (some (.pu (.int at')))) = some (.fr, th) := by
    have d0 : ∀ η, eDct 0 [] η = some (.fr, .dct 0 []) := fun η => rfl
    simp [-oIdx, E0, mkL_ok, oMod_ok, tupOf_ok, d0]
    rw [hti]
    simp
  have p1 : eCall c_is_word (xCons (e2 oIdx (eLst (xCons (eC .non) (xCons (eC (.int 5)) (xCons (eC (.bl true)) (xCons (eLst (xCons (eC (.str [97])) xNil)) (xCons (eTup (xCons (eC (.str [97])) xNil)) (xCons (eDct 0 []) (xCons (eLst (xCons (eVar 7) xNil)) (xCons (eC (.int 0)) xNil))))))))) (e2 oMod (eVar 6) (eC (.int 8)))) xNil) (E0 ns bk z4 (some (.pu (.int i))) (some (.pu (.int cell))) (some (.pu (.str w))) (some (.pu (.int at')))) = some (.fr, .bl false) :=
    eCall_fr (xs := [(.fr, th)]) (by rw [xCons, p0]; rfl) hth2
  have p2 : eCall c_law_is (xCons (eCall c_is_word (xCons (e2 oIdx (eLst (xCons (eC .non) (xCons (eC (.int 5)) (xCons (eC (.bl true)) (xCons (eLst (xCons (eC (.str [97])) xNil)) (xCons (eTup (xCons (eC (.str [97])) xNil)) (xCons (eDct 0 []) (xCons (eLst (xCons (eVar 7) xNil)) (xCons (eC (.int 0)) xNil))))))))) (e2 oMod (eVar 6) (eC (.int 8)))) xNil)) (xCons (eC (.bl false)) xNil)) (E0 ns bk z4 (some (.pu (.int i))) (some (.pu (.int cell))) (some (.pu (.str w))) (some (.pu (.int at')))) = some (.fr, .bl true) :=
    eCall_fr (xs := [(.fr, .bl false), (.fr, .bl false)]) (by rw [xCons, p1]; rfl) (l_is false)
  rw [sIf, eNot, p2]
  rfl
theorem law_true (ns : List Int) : c_law [.scr ns] = some (.fr, .bl true) := by
  obtain ⟨bk, hbk, h8, h60, hch⟩ := l_book ns
  have ok : ∀ t ∈ bk, t.all okC = true := fun t ht => by
    rw [List.all_eq_true]
    intro c hc
    have := hch t ht c hc
    simp [okC, this.1, this.2]
  have B : Bk bk := ⟨h8, h60, ok⟩
  have sg := l_signs bk (by omega)
  have b1 := book_ok bk h8 ok (by omega)
  let b8 : List Tx := cut (bk ++ List.replicate 8 []) none (some 8)
  have e8 : b8 = (bk ++ List.replicate 8 []).take 8 := cut_to _ 8
  have fl8 : (bk ++ List.replicate 8 ([] : Tx)).flatten.length = bk.flatten.length := by
    rw [List.flatten_append, List.length_append, len_flat_rep]; simp
  have b8l : b8.length ≤ 8 := by rw [e8, List.length_take]; omega
  have b8f : b8.flatten.length ≤ 60 := Nat.le_trans (flat_cut _ _ _) (by rw [fl8]; exact h60)
  have b8o : ∀ t ∈ b8, t.all okC = true := fun t ht => by
    rcases List.mem_append.mp (cut_mem _ _ _ ht) with h | h
    · exact ok t h
    · rw [(List.mem_replicate.mp h).2]; rfl
  have b2 := book_ok b8 b8l b8o (by omega)
  let h7 : List Tx := cut bk none (some 7)
  have f7 : h7.flatten.length ≤ 60 := Nat.le_trans (flat_cut _ _ _) h60
  have l7 : h7.length ≤ 7 := by
    have e : h7 = bk.take 7 := cut_to bk 7
    rw [e, List.length_take]; omega
  let gr : Tx := List.replicate (120 - h7.flatten.length) 98
  let lg : List Tx := h7 ++ [gr]
  have lgl : lg.length ≤ 8 := by simp only [lg, List.length_append, List.length_singleton]; omega
  have lgf : lg.flatten.length = 120 := by
    simp only [lg, List.flatten_append, List.flatten_cons, List.flatten_nil, List.append_nil, List.length_append, gr, List.length_replicate]
    omega
  have lgo : ∀ t ∈ lg, t.all okC = true := fun t ht => by
    rcases List.mem_append.mp ht with h | h
    · exact ok t (cut_mem _ _ _ h)
    · rw [List.mem_singleton.mp h, List.all_eq_true]
      intro c hc
      rw [(List.mem_replicate.mp hc).2]; rfl
  have b3 := book_ok lg lgl lgo (by omega)
  have s3 := l_signs lg (by omega)
  rw [lgf] at s3
  have imB : ∀ l : List Tx, imms (l.map T.str) = true := fun l => imms_map _ (fun _ => rfl) l
  have kk : ∀ (m : Md) (l : List Tx), l.length ≤ 1000 → mkL m (l.map .str) = some (.fr, .lst (l.map .str)) := fun m l h => by
    rw [mkL_ok (by rw [List.length_map]; omega), imB]; rfl
  have neb : ∀ m n, oNe (m, .lst (bk.map .str)) (n, .lst (bk.map .str)) = some (.fr, .bl false) := fun m n => by
    refine oNe_self ?_
    simp only [eqD, List.all_eq_true]
    intro t ht
    obtain ⟨x, _, rfl⟩ := List.mem_map.mp ht
    rfl
  have jn : ∀ (m n : Md) (l : List Tx), l.flatten.length ≤ 1000 → mJoin (m, .str []) [(n, .lst (l.map .str))] = some (.fr, .str l.flatten) := fun m n l h => by
    have := mJoin_nil (m := m) (n := n) (strs_map (fun x => x) l) (by rw [List.map_id']; omega)
    rw [List.map_id'] at this
    exact this
  obtain ⟨η', e3, z5', z6', z7', z8', rfl⟩ := forL_by (tg := gVar 5) (body := c_law_L1) (fun _ η => ∃ z5 z6 z7 z8, η = E0 ns bk (some (.pu (.lst (lg.map .str)))) z5 z6 z7 z8) (rng 0 8) 0 (E0 ns bk (some (.pu (.lst (lg.map .str)))) none none none none) (fun j t η hj hp => by
    obtain ⟨z5, z6, z7, z8, rfl⟩ := hp
    rw [rng_get] at hj
    by_cases hlt : j < 8
    · rw [if_pos hlt] at hj
      cases hj
      rw [Int.zero_add]
      obtain ⟨z6', z7', z8', q⟩ := l_turn ns bk B j hlt (some (.pu (.lst (lg.map .str)))) z6 z7 z8
      exact ⟨_, _, rfl, .inl q, ⟨_, z6', z7', z8', rfl⟩⟩
    · rw [if_neg hlt] at hj; cases hj) ⟨none, none, none, none, rfl⟩
  unfold c_law
  refine fn_ok [some (.pu (.scr ns)), none, none, none, none, none, none, none, none] (η' := E0 ns bk (some (.pu (.lst (lg.map .str)))) z5' z6' z7' z8') rfl rfl ?_
  have hb1 : eCall c_law_book (xCons (eVar 0) xNil) [some (.pu (.scr ns)), none, none, none, none, none, none, none, none] = some (.fr, .lst (bk.map .str)) := eCall_fr (xs := [(.fr, .scr ns)]) rfl hbk
  rw [sCons_nx (η' := [some (.pu (.scr ns)), some (.pu (.lst (bk.map .str))), none, none, none, none, none, none, none]) (sSetP_ok hb1 (by decide) (by simp))]
  rw [sCons_nx (η' := [some (.pu (.scr ns)), some (.pu (.lst (bk.map .str))), some (.pu (.lst (bk.map .str))), none, none, none, none, none, none]) (sSetP_ok (m := .fr) (kk .pu bk (by omega)) (by decide) (by simp))]
  have hs1 : eCall c_signs_in (xCons (eVar 2) xNil) [some (.pu (.scr ns)), some (.pu (.lst (bk.map .str))), some (.pu (.lst (bk.map .str))), none, none, none, none, none, none] = some (.fr, .int (bk.flatten.length : Int)) := eCall_fr (xs := [(.pu, .lst (bk.map .str))]) rfl sg
  rw [sCons_nx (η' := E0 ns bk none none none none none) (sSetP_ok hs1 (by decide) (by simp))]
  have i1 : eCall c_is_book (xCons (eVar 2) xNil) (E0 ns bk none none none none none) = some (.fr, .bl true) := eCall_fr (xs := [(.pu, .lst (bk.map .str))]) rfl b1
  have i2 : eCall c_law_is (xCons (eCall c_is_book (xCons (eVar 2) xNil)) (xCons (eC (.bl true)) xNil)) (E0 ns bk none none none none none) = some (.fr, .bl true) := eCall_fr (xs := [(.fr, .bl true), (.fr, .bl true)]) (by rw [xCons, i1]; rfl) (l_is true)
  rw [sCons_nx (η' := E0 ns bk none none none none none) (by
    rw [sIf, eOr, eNot, i2]; rfl)]
  have j1 : e2 oNe (eVar 3) (eN bLen (xCons (eM mJoin (eC (.str [])) (xCons (eVar 1) xNil)) xNil)) (E0 ns bk none none none none none) = some (.fr, .bl false) := by
    have q1 : eM mJoin (eC (.str [])) (xCons (eVar 1) xNil) (E0 ns bk none none none none none) = some (.fr, .str bk.flatten) := jn .fr .pu bk (by omega)
    have v3 : eVar 3 (E0 ns bk none none none none none) = some (.fr, .int (bk.flatten.length : Int)) := rfl
    rw [e2, v3, Option.bind_some, eN, xCons, q1]
    exact oNe_self (m := .fr) (n := .fr) rfl
  have j2 : e2 oNe (eVar 2) (eVar 1) (E0 ns bk none none none none none) = some (.fr, .bl false) := neb .pu .pu
  have j3 : eSl (e2 oAdd (eVar 1) (e2 oRepL (eLst (xCons (eC (.str [])) xNil)) (eC (.int 8)))) none (some (eC (.int 8))) (E0 ns bk none none none none none) = some (.fr, .lst (b8.map .str)) := by
    have r8 : e2 oRepL (eLst (xCons (eC (.str [])) xNil)) (eC (.int 8)) (E0 ns bk none none none none none) = some (.fr, .lst ((List.replicate 8 ([] : Tx)).map .str)) := rfl
    have v1 : eVar 1 (E0 ns bk none none none none none) = some (.pu, .lst (bk.map .str)) := rfl
    have ad : oAdd (.pu, .lst (bk.map .str)) (.fr, .lst ((List.replicate 8 ([] : Tx)).map .str)) = some (.fr, .lst ((bk ++ List.replicate 8 []).map .str)) := by
      rw [oAdd_lst, ← List.map_append]
      exact kk _ _ (by simp; omega)
    rw [eSl, e2, v1, Option.bind_some, r8, Option.bind_some, ad]
    show mkL .fr (cut ((bk ++ List.replicate 8 ([] : Tx)).map T.str) none (some 8)) = _
    rw [cut_map]
    exact kk _ _ (Nat.le_trans b8l (by decide))
  have j4 : eCall c_is_book (xCons (eSl (e2 oAdd (eVar 1) (e2 oRepL (eLst (xCons (eC (.str [])) xNil)) (eC (.int 8)))) none (some (eC (.int 8)))) xNil) (E0 ns bk none none none none none) = some (.fr, .bl true) := eCall_fr (xs := [(.fr, .lst (b8.map .str))]) (by rw [xCons, j3]; rfl) b2
  have j5 : eCall c_law_is (xCons (eCall c_is_book (xCons (eSl (e2 oAdd (eVar 1) (e2 oRepL (eLst (xCons (eC (.str [])) xNil)) (eC (.int 8)))) none (some (eC (.int 8)))) xNil)) (xCons (eC (.bl true)) xNil)) (E0 ns bk none none none none none) = some (.fr, .bl true) := eCall_fr (xs := [(.fr, .bl true), (.fr, .bl true)]) (by rw [xCons, j4]; rfl) (l_is true)
  rw [sCons_nx (η' := E0 ns bk none none none none none) (by
    rw [sIf, eOr, j1]
    simp only [Option.bind_some]
    rw [eOr, j2]
    simp only [Option.bind_some]
    rw [eNot, j5]; rfl)]
  have k1 : eSl (eVar 1) none (some (eC (.int 7))) (E0 ns bk none none none none none) = some (.fr, .lst (h7.map .str)) := by
    show mkL .pu (cut (bk.map T.str) none (some 7)) = _
    rw [cut_map]
    exact kk _ _ (Nat.le_trans l7 (by decide))
  have k2 : e2 oAdd (eSl (eVar 1) none (some (eC (.int 7)))) (eLst (xCons (e2 oRepS (eC (.str [98])) (e2 oSub (eC (.int 120)) (eN bLen (xCons (eM mJoin (eC (.str [])) (xCons (eSl (eVar 1) none (some (eC (.int 7)))) xNil)) xNil)))) xNil)) (E0 ns bk none none none none none) = some (.fr, .lst (lg.map .str)) := by
    have q1 : eM mJoin (eC (.str [])) (xCons (eSl (eVar 1) none (some (eC (.int 7)))) xNil) (E0 ns bk none none none none none) = some (.fr, .str h7.flatten) := by
      rw [eM, eC, Option.bind_some, xCons, k1]
      exact jn .fr .fr h7 (by omega)
    have rp : oRepS (.fr, .str [98]) (.fr, .int (120 - (h7.flatten.length : Int))) = some (.fr, .str gr) := by
      have e : (120 - (h7.flatten.length : Int)).toNat = 120 - h7.flatten.length := by omega
      have fl : ∀ k : Nat, (List.replicate k [98]).flatten = List.replicate k 98 := fun k => by
        induction k with
        | zero => rfl
        | succ k ih => rw [List.replicate_succ, List.flatten_cons, ih]; rfl
      show (if _ then _ else none) = _
      rw [if_pos ⟨by rw [e]; show 1 * _ ≤ 16777216; omega, by unfold B62; omega, by unfold B62; omega⟩, e, fl]
    have ln : eN bLen (xCons (eM mJoin (eC (.str [])) (xCons (eSl (eVar 1) none (some (eC (.int 7)))) xNil)) xNil) (E0 ns bk none none none none none) = some (.fr, .int (h7.flatten.length : Int)) := by
      rw [eN, xCons, q1]; rfl
    have ls : eLst (xCons (e2 oRepS (eC (.str [98])) (e2 oSub (eC (.int 120)) (eN bLen (xCons (eM mJoin (eC (.str [])) (xCons (eSl (eVar 1) none (some (eC (.int 7)))) xNil)) xNil)))) xNil) (E0 ns bk none none none none none) = some (.fr, .lst ([gr].map .str)) := by
      rw [eLst, xCons, e2, eC, Option.bind_some, e2, eC, Option.bind_some, ln]
      simp only [Option.bind_some, oSub]
      rw [rp]
      rfl
    rw [e2, k1, Option.bind_some, ls, Option.bind_some, oAdd_lst, ← List.map_append]
    exact kk _ _ (by simp; omega)
  rw [sCons_nx (η' := E0 ns bk (some (.pu (.lst (lg.map .str)))) none none none none) (sSetP_ok k2 (by decide) (by simp [E0]))]
  have m1 : eCall c_is_book (xCons (eVar 4) xNil) (E0 ns bk (some (.pu (.lst (lg.map .str)))) none none none none) = some (.fr, .bl true) := eCall_fr (xs := [(.pu, .lst (lg.map .str))]) rfl b3
  have m2 : eCall c_law_is (xCons (eCall c_is_book (xCons (eVar 4) xNil)) (xCons (eC (.bl true)) xNil)) (E0 ns bk (some (.pu (.lst (lg.map .str)))) none none none none) = some (.fr, .bl true) := eCall_fr (xs := [(.fr, .bl true), (.fr, .bl true)]) (by rw [xCons, m1]; rfl) (l_is true)
  have m3 : eCall c_signs_in (xCons (eVar 4) xNil) (E0 ns bk (some (.pu (.lst (lg.map .str)))) none none none none) = some (.fr, .int 120) := eCall_fr (xs := [(.pu, .lst (lg.map .str))]) rfl s3
  rw [sCons_nx (η' := E0 ns bk (some (.pu (.lst (lg.map .str)))) none none none none) (by
    rw [sIf, eOr, eNot, m2]
    simp only [Option.bind_some]
    show ((e2 oNe (eCall c_signs_in (xCons (eVar 4) xNil)) (eC (.int 120)) _).bind _) = _
    rw [e2, m3]
    rfl)]
  rw [sCons_nx (sFor_run (m := .fr) (l := rng 0 8) (iRange1_ok (m := .fr) (j := 8) (by rfl) (by decide)) rfl e3)]
  rfl
end T01

set_option Elab.async false
set_option linter.all false
set_option maxRecDepth 100000
set_option maxHeartbeats 4000000
namespace T01
open PySem PySem.Spec PyProof.Rows L2 VS
def top (i : Nat) : Stmt := PySem.Challenge.pw_allparts_k01_words_and_books.main.body.getD i (.Pass ⟨0, 0, 0, 0⟩)
structure Blt (mg : Str → Option Value) : Prop where
  b_all : mg "all" = none
  b_bool : mg "bool" = none
  b_int : mg "int" = none
  b_isinstance : mg "isinstance" = none
  b_len : mg "len" = none
  b_list : mg "list" = none
  b_max : mg "max" = none
  b_min : mg "min" = none
  b_range : mg "range" = none
  b_str : mg "str" = none
  b_sum : mg "sum" = none
  b_tuple : mg "tuple" = none
  c_MOST_SIGNS : ∃ t, mg "MOST_SIGNS" = some (.int 120 t)
  c_MOST_TEXTS : ∃ t, mg "MOST_TEXTS" = some (.int 8 t)
  c_MOST_WORD_SIGNS : ∃ t, mg "MOST_WORD_SIGNS" = some (.int 200 t)
section
variable {P : Program} {w : World} {K : PySem.W.Frag} {mg : Str → Option Value} {base : Heap}
abbrev s_has_only_signs : Stmt := top 4
theorem sc_has_only_signs : FnScope ["thing"] ["thing"] (defScope s_has_only_signs) := ⟨rfl, rfl, rfl, by decide +kernel, rfl, by decide +kernel, by decide +kernel⟩
theorem f_has_only_signs {f : Addr} {fd : FuncData} (F : Fun K "has_only_signs" "has_only_signs" s_has_only_signs f fd) (hm : mg "has_only_signs" = some (.ref f)) (B : Blt mg) :
    FnAt P w K mg base 1 "has_only_signs" ["thing"] (gx0 K) c_has_only_signs := q_def F hm sc_has_only_signs rfl rfl (fun _ _ _ _ _ _ us hl => match us, hl with | [_], _ => rfl) fun cdv A outer s H E hr =>
    (q_psv_one (q_psv_ret (q_pv_and (q_w_is .str B.b_isinstance B.b_str (q_pv_var 0 rfl (Or.inl rfl) rfl rfl) rfl rfl rfl rfl) (q_pv_one (q_w_all B.b_all (q_pvs_cons (q_pv_comp 1 ["sign", "thing"] rfl (q_pvi_val (q_pv_var 0 rfl (Or.inl rfl) rfl rfl) rfl) (tin_var (by decide)) (fun _ _ _ _ _ => (q_pvg_name 0 (show List.Nodup (["sign", "thing"] : List Str) from by decide +kernel) rfl (Or.inl rfl) (Or.inr rfl))) (fun _ _ _ _ _ => (q_w_chain_le_le (q_pv_str (by decide +kernel) (by decide)) (q_pv_var 0 rfl (Or.inl rfl) rfl rfl) (q_pv_str (by decide +kernel) (by decide)) (by with_unfolding_all rfl))) rfl rfl (by decide) (fun _ => rfl)) q_pvs_nil rfl) rfl rfl rfl rfl)))))

abbrev s_is_word : Stmt := top 5
theorem sc_is_word : FnScope ["thing"] ["thing"] (defScope s_is_word) := ⟨rfl, rfl, rfl, by decide +kernel, rfl, by decide +kernel, by decide +kernel⟩
theorem f_is_word {f : Addr} {fd : FuncData} (F : Fun K "is_word" "is_word" s_is_word f fd) (hm : mg "is_word" = some (.ref f)) (B : Blt mg) (f_has_only_signs : FnAt P w K mg base 1 "has_only_signs" ["thing"] (gx0 K) c_has_only_signs) :
    FnAt P w K mg base 2 "is_word" ["thing"] (gx0 K) c_is_word := q_def F hm sc_is_word rfl rfl (fun _ _ _ _ _ _ us hl => match us, hl with | [_], _ => rfl) fun cdv A outer s H E hr =>
    (q_psv_one (q_psv_ret (q_pv_and (q_w_call f_has_only_signs hr (q_pvs_cons (q_pv_var 0 rfl (Or.inl rfl) rfl rfl) q_pvs_nil rfl) (by decide) rfl rfl rfl rfl) (q_pv_one (q_w_le (q_w_len B.b_len (q_pvs_cons (q_pv_var 0 rfl (Or.inl rfl) rfl rfl) q_pvs_nil rfl) rfl rfl rfl) (q_w_const B.c_MOST_WORD_SIGNS rfl rfl))))))

abbrev s_signs_in : Stmt := top 7
theorem sc_signs_in : FnScope ["book"] ["book"] (defScope s_signs_in) := ⟨rfl, rfl, rfl, by decide +kernel, rfl, by decide +kernel, by decide +kernel⟩
theorem f_signs_in {f : Addr} {fd : FuncData} (F : Fun K "signs_in" "signs_in" s_signs_in f fd) (hm : mg "signs_in" = some (.ref f)) (B : Blt mg) :
    FnAt P w K mg base 1 "signs_in" ["book"] (gx0 K) c_signs_in := q_def F hm sc_signs_in rfl rfl (fun _ _ _ _ _ _ us hl => match us, hl with | [_], _ => rfl) fun cdv A outer s H E hr =>
    (q_psv_one (q_psv_ret (q_w_sum B.b_sum (q_pvs_cons (q_pv_comp 1 ["text", "book"] rfl (q_pvi_val (q_pv_var 0 rfl (Or.inl rfl) rfl rfl) rfl) (tin_var (by decide)) (fun _ _ _ _ _ => (q_pvg_name 0 (show List.Nodup (["text", "book"] : List Str) from by decide +kernel) rfl (Or.inl rfl) (Or.inr rfl))) (fun _ _ _ _ _ => (q_w_len B.b_len (q_pvs_cons (q_pv_var 0 rfl (Or.inl rfl) rfl rfl) q_pvs_nil rfl) rfl rfl rfl)) rfl rfl (by decide) (fun _ => rfl)) q_pvs_nil rfl) rfl rfl rfl rfl)))

abbrev s_is_book : Stmt := top 6
theorem sc_is_book : FnScope ["thing"] ["thing"] (defScope s_is_book) := ⟨rfl, rfl, rfl, by decide +kernel, rfl, by decide +kernel, by decide +kernel⟩
theorem f_is_book {f : Addr} {fd : FuncData} (F : Fun K "is_book" "is_book" s_is_book f fd) (hm : mg "is_book" = some (.ref f)) (B : Blt mg) (f_has_only_signs : FnAt P w K mg base 1 "has_only_signs" ["thing"] (gx0 K) c_has_only_signs) (f_signs_in : FnAt P w K mg base 1 "signs_in" ["book"] (gx0 K) c_signs_in) :
    FnAt P w K mg base 2 "is_book" ["thing"] (gx0 K) c_is_book := q_def F hm sc_is_book rfl rfl (fun _ _ _ _ _ _ us hl => match us, hl with | [_], _ => rfl) fun cdv A outer s H E hr =>
    (q_psv_cons (q_psv_if (q_PVW_pvt (q_pvw_or (q_pvt_not (q_pvt_val (q_w_is .list B.b_isinstance B.b_list (q_pv_var 0 rfl (Or.inl rfl) rfl rfl) rfl rfl rfl rfl) rfl (fun _ => rfl))) (q_pvw_or1 (q_wt_gt (q_w_len B.b_len (q_pvs_cons (q_pv_var 0 rfl (Or.inl rfl) rfl rfl) q_pvs_nil rfl) rfl rfl rfl) (q_w_const B.c_MOST_TEXTS rfl rfl))))) (q_psv_one (q_psv_ret q_pv_bl)) q_psv_nil)
    (q_psv_one (q_psv_ret (q_pv_and (q_w_all B.b_all (q_pvs_cons (q_pv_comp 1 ["text", "thing"] rfl (q_pvi_val (q_pv_var 0 rfl (Or.inl rfl) rfl rfl) rfl) (tin_var (by decide)) (fun _ _ _ _ _ => (q_pvg_name 0 (show List.Nodup (["text", "thing"] : List Str) from by decide +kernel) rfl (Or.inl rfl) (Or.inr rfl))) (fun _ _ _ _ _ => (q_w_call f_has_only_signs hr (q_pvs_cons (q_pv_var 0 rfl (Or.inl rfl) rfl rfl) q_pvs_nil rfl) (by decide) rfl rfl rfl rfl)) rfl rfl (by decide) (fun _ => rfl)) q_pvs_nil rfl) rfl rfl rfl rfl) (q_pv_one (q_w_le (q_w_call f_signs_in hr (q_pvs_cons (q_pv_var 0 rfl (Or.inl rfl) rfl rfl) q_pvs_nil rfl) (by decide) rfl rfl rfl rfl) (q_w_const B.c_MOST_SIGNS rfl rfl)))))))

abbrev s_law_cell_at : Stmt := top 9
theorem sc_law_cell_at : FnScope ["_law_script", "_law_k"] ["_law_script", "_law_k"] (defScope s_law_cell_at) := ⟨rfl, rfl, rfl, by decide +kernel, rfl, by decide +kernel, by decide +kernel⟩
theorem f_law_cell_at {f : Addr} {fd : FuncData} (F : Fun K "_law_cell_at" "_law_cell_at" s_law_cell_at f fd) (hm : mg "_law_cell_at" = some (.ref f)) (B : Blt mg) :
    FnAt P w K mg base 1 "_law_cell_at" ["_law_script", "_law_k"] (gx0 K) c_law_cell_at := q_def F hm sc_law_cell_at rfl rfl (fun _ _ _ _ _ _ us hl => match us, hl with | [_, _], _ => rfl) fun cdv A outer s H E hr =>
    (q_psv_cons (q_psv_if (q_wt_lt (q_pv_var 1 rfl (Or.inl rfl) rfl rfl) (q_w_len B.b_len (q_pvs_cons (q_pv_var 0 rfl (Or.inl rfl) rfl rfl) q_pvs_nil rfl) rfl rfl rfl)) (q_psv_one (q_psv_ret (q_w_idx (q_pv_var 0 rfl (Or.inl rfl) rfl rfl) (q_pv_var 1 rfl (Or.inl rfl) rfl rfl) (fun _ _ => rfl) rfl))) q_psv_nil)
    (q_psv_one (q_psv_ret q_pv_int)))

abbrev s_law_mixed : Stmt := top 10
theorem sc_law_mixed : FnScope ["_law_cell", "_law_k", "_law_number"] ["_law_cell", "_law_k"] (defScope s_law_mixed) := ⟨rfl, rfl, rfl, by decide +kernel, rfl, by decide +kernel, by decide +kernel⟩
theorem f_law_mixed {f : Addr} {fd : FuncData} (F : Fun K "_law_mixed" "_law_mixed" s_law_mixed f fd) (hm : mg "_law_mixed" = some (.ref f)) (B : Blt mg) :
    FnAt P w K mg base 1 "_law_mixed" ["_law_cell", "_law_k"] (gx0 K) c_law_mixed := q_def F hm sc_law_mixed rfl rfl (fun _ _ _ _ _ _ us hl => match us, hl with | [_, _], _ => rfl) fun cdv A outer s H E hr =>
    (q_psv_cons (q_psv_setP (q_w_mod (q_w_add (q_w_add (q_w_mod (q_pv_var 0 rfl (Or.inl rfl) rfl rfl) q_pv_int) (q_w_mul q_pv_int (q_pv_var 1 rfl (Or.inl rfl) rfl rfl))) q_pv_int) q_pv_int) sc_law_mixed.nd rfl (Or.inl rfl) rfl (Or.inl rfl))
    (q_psv_cons (q_psv_setP (q_w_add (q_w_mod (q_w_mul (q_pv_var 2 rfl (Or.inl rfl) rfl rfl) (q_pv_var 2 rfl (Or.inl rfl) rfl rfl)) q_pv_int) (q_w_mul q_pv_int (q_pv_var 1 rfl (Or.inl rfl) rfl rfl))) sc_law_mixed.nd rfl (Or.inl rfl) rfl (Or.inl rfl))
    (q_psv_one (q_psv_ret (q_w_mod (q_w_mul (q_pv_var 2 rfl (Or.inl rfl) rfl rfl) (q_pv_var 2 rfl (Or.inl rfl) rfl rfl)) q_pv_int)))))

abbrev s_law_text : Stmt := top 11
theorem sc_law_text : FnScope ["_law_script", "_law_letters", "_law_most", "_law_j", "_law_cell", "_law_size", "_law_signs", "_law_k"] ["_law_script", "_law_letters", "_law_most", "_law_j"] (defScope s_law_text) := ⟨rfl, rfl, rfl, by decide +kernel, rfl, by decide +kernel, by decide +kernel⟩
theorem f_law_text {f : Addr} {fd : FuncData} (F : Fun K "_law_text" "_law_text" s_law_text f fd) (hm : mg "_law_text" = some (.ref f)) (B : Blt mg) (f_law_cell_at : FnAt P w K mg base 1 "_law_cell_at" ["_law_script", "_law_k"] (gx0 K) c_law_cell_at) (f_law_mixed : FnAt P w K mg base 1 "_law_mixed" ["_law_cell", "_law_k"] (gx0 K) c_law_mixed) :
    FnAt P w K mg base 2 "_law_text" ["_law_script", "_law_letters", "_law_most", "_law_j"] (gx0 K) c_law_text := q_def F hm sc_law_text rfl rfl (fun _ _ _ _ _ _ us hl => match us, hl with | [_, _, _, _], _ => rfl) fun cdv A outer s H E hr =>
    (q_psv_cons (q_psv_setP (q_w_call f_law_cell_at hr (q_pvs_cons (q_pv_var 0 rfl (Or.inl rfl) rfl rfl) (q_pvs_cons (q_w_add q_pv_int (q_pv_var 3 rfl (Or.inl rfl) rfl rfl)) q_pvs_nil rfl) rfl) (by decide) rfl rfl rfl rfl) sc_law_text.nd rfl (Or.inl rfl) rfl (Or.inl rfl))
    (q_psv_cons (q_psv_setP (q_w_mod (q_pv_var 4 rfl (Or.inl rfl) rfl rfl) (q_w_add (q_pv_var 2 rfl (Or.inl rfl) rfl rfl) q_pv_int)) sc_law_text.nd rfl (Or.inl rfl) rfl (Or.inl rfl))
    (q_psv_cons (q_psv_setP (q_w_fdiv (q_pv_var 4 rfl (Or.inl rfl) rfl rfl) (q_w_add (q_pv_var 2 rfl (Or.inl rfl) rfl rfl) q_pv_int)) sc_law_text.nd rfl (Or.inl rfl) rfl (Or.inl rfl))
    (q_psv_cons (q_psv_set (q_pv_lst q_pvs_nil) sc_law_text.nd rfl (Or.inl rfl) rfl (Or.inl rfl))
    (q_psv_cons (q_psv_for PassesOwn.never rfl (q_pvi_range1 (q_pv_var 5 rfl (Or.inl rfl) rfl rfl) rfl B.b_range rfl rfl) (q_pvg_name 7 sc_law_text.nd rfl (Or.inl rfl) (Or.inl rfl))
    (q_psv_one (q_psv_if (q_wt_eq hr (q_w_mod (q_w_call f_law_cell_at hr (q_pvs_cons (q_pv_var 0 rfl (Or.inl rfl) rfl rfl) (q_pvs_cons q_pv_int q_pvs_nil rfl) rfl) (by decide) rfl rfl rfl rfl) q_pv_int) q_pv_int) (q_psv_cons (q_w_append 6 (q_pvs_cons (q_w_idx (q_pv_var 1 rfl (Or.inl rfl) rfl rfl) (q_w_mod (q_pv_var 4 rfl (Or.inl rfl) rfl rfl) (q_w_len B.b_len (q_pvs_cons (q_pv_var 1 rfl (Or.inl rfl) rfl rfl) q_pvs_nil rfl) rfl rfl rfl)) (fun _ _ => rfl) rfl) q_pvs_nil rfl) rfl rfl (Or.inl rfl) rfl rfl rfl rfl rfl)
    (q_psv_one (q_psv_setP (q_w_fdiv (q_pv_var 4 rfl (Or.inl rfl) rfl rfl) (q_w_len B.b_len (q_pvs_cons (q_pv_var 1 rfl (Or.inl rfl) rfl rfl) q_pvs_nil rfl) rfl rfl rfl)) sc_law_text.nd rfl (Or.inl rfl) rfl (Or.inl rfl)))) (q_psv_one (q_w_append 6 (q_pvs_cons (q_w_idx (q_pv_var 1 rfl (Or.inl rfl) rfl rfl) (q_w_mod (q_w_fdiv (q_w_call f_law_mixed hr (q_pvs_cons (q_pv_var 4 rfl (Or.inl rfl) rfl rfl) (q_pvs_cons (q_w_add (q_w_mul q_pv_int (q_pv_var 3 rfl (Or.inl rfl) rfl rfl)) (q_pv_var 7 rfl (Or.inl rfl) rfl rfl)) q_pvs_nil rfl) rfl) (by decide) rfl rfl rfl rfl) q_pv_int) (q_w_len B.b_len (q_pvs_cons (q_pv_var 1 rfl (Or.inl rfl) rfl rfl) q_pvs_nil rfl) rfl rfl rfl)) (fun _ _ => rfl) rfl) q_pvs_nil rfl) rfl rfl (Or.inl rfl) rfl rfl rfl rfl rfl)))) (fun _ => rfl))
    (q_psv_frz 6 (q_psv_one (q_psv_ret (q_pv_join (q_pv_str (by decide +kernel) (by decide)) (q_pvs_cons (q_pv_var 6 rfl (Or.inl rfl) rfl rfl) q_pvs_nil rfl) rfl rfl rfl rfl rfl rfl)))))))))

abbrev s_law_book : Stmt := top 12
theorem sc_law_book : FnScope ["_law_script", "_law_cell", "_law_letters", "_law_count", "_law_most"] ["_law_script"] (defScope s_law_book) := ⟨rfl, rfl, rfl, by decide +kernel, rfl, by decide +kernel, by decide +kernel⟩
theorem f_law_book {f : Addr} {fd : FuncData} (F : Fun K "_law_book" "_law_book" s_law_book f fd) (hm : mg "_law_book" = some (.ref f)) (B : Blt mg) (f_law_cell_at : FnAt P w K mg base 1 "_law_cell_at" ["_law_script", "_law_k"] (gx0 K) c_law_cell_at) (f_law_text : FnAt P w K mg base 2 "_law_text" ["_law_script", "_law_letters", "_law_most", "_law_j"] (gx0 K) c_law_text) :
    FnAt P w K mg base 3 "_law_book" ["_law_script"] (gx0 K) c_law_book := q_def F hm sc_law_book rfl rfl (fun _ _ _ _ _ _ us hl => match us, hl with | [_], _ => rfl) fun cdv A outer s H E hr =>
    (q_psv_cons (q_psv_setP (q_w_call f_law_cell_at hr (q_pvs_cons (q_pv_var 0 rfl (Or.inr (Or.inl rfl)) rfl rfl) (q_pvs_cons q_pv_int q_pvs_nil rfl) rfl) (by decide) rfl rfl rfl rfl) sc_law_book.nd rfl (Or.inl rfl) rfl (Or.inl rfl))
    (q_psv_cons (q_psv_setP (q_w_idx (q_pv_lst (q_pvs_cons (q_pv_str (by decide +kernel) (by decide)) (q_pvs_cons (q_pv_str (by decide +kernel) (by decide)) (q_pvs_cons (q_pv_str (by decide +kernel) (by decide)) (q_pvs_cons (q_pv_str (by decide +kernel) (by decide)) (q_pvs_cons (q_pv_str (by decide +kernel) (by decide)) (q_pvs_cons (q_pv_str (by decide +kernel) (by decide)) q_pvs_nil rfl) rfl) rfl) rfl) rfl) rfl)) (q_w_mod (q_w_fdiv (q_pv_var 1 rfl (Or.inl rfl) rfl rfl) q_pv_int) q_pv_int) (fun _ _ => rfl) rfl) sc_law_book.nd rfl (Or.inr rfl) rfl (Or.inl rfl))
    (q_psv_cons (q_psv_setP (q_w_idx (q_pv_lst (q_pvs_cons q_pv_int (q_pvs_cons q_pv_int (q_pvs_cons q_pv_int (q_pvs_cons q_pv_int (q_pvs_cons q_pv_int (q_pvs_cons q_pv_int (q_pvs_cons q_pv_int (q_pvs_cons q_pv_int q_pvs_nil rfl) rfl) rfl) rfl) rfl) rfl) rfl) rfl)) (q_w_mod (q_w_fdiv (q_pv_var 1 rfl (Or.inl rfl) rfl rfl) q_pv_int) q_pv_int) (fun _ _ => rfl) rfl) sc_law_book.nd rfl (Or.inl rfl) rfl (Or.inl rfl))
    (q_psv_cons (q_psv_setP (q_w_idx (q_pv_lst (q_pvs_cons q_pv_int (q_pvs_cons q_pv_int (q_pvs_cons q_pv_int (q_pvs_cons q_pv_int q_pvs_nil rfl) rfl) rfl) rfl)) (q_w_sub (q_w_min2 B.b_min (q_pvs_cons (q_pv_var 3 rfl (Or.inl rfl) rfl rfl) (q_pvs_cons q_pv_int q_pvs_nil rfl) rfl) rfl rfl rfl rfl) q_pv_int) (fun _ _ => rfl) rfl) sc_law_book.nd rfl (Or.inr rfl) rfl (Or.inl rfl))
    (q_psv_cons (q_psv_if (q_wt_eq hr (q_w_mod (q_w_fdiv (q_pv_var 1 rfl (Or.inl rfl) rfl rfl) q_pv_int) q_pv_int) q_pv_int) (q_psv_one (q_psv_setP (q_w_fdiv q_pv_int (q_w_max2 B.b_max (q_pvs_cons q_pv_int (q_pvs_cons (q_pv_var 3 rfl (Or.inl rfl) rfl rfl) q_pvs_nil rfl) rfl) rfl rfl rfl rfl)) sc_law_book.nd rfl (Or.inr rfl) rfl (Or.inl rfl))) q_psv_nil)
    (q_psv_cons (q_psv_if (q_PVW_pvt (q_pvw_and (q_wt_eq hr (q_pv_var 3 rfl (Or.inl rfl) rfl rfl) q_pv_int) (q_pvw_and1 (q_wt_ne hr (q_w_mod (q_w_fdiv (q_pv_var 1 rfl (Or.inl rfl) rfl rfl) q_pv_int) q_pv_int) q_pv_int)))) (q_psv_one (q_psv_setP q_pv_int sc_law_book.nd rfl (Or.inr rfl) rfl (Or.inl rfl))) q_psv_nil)
    (q_psv_one (q_psv_ret (q_pv_comp 1 ["_law_j", "_law_script", "_law_cell", "_law_letters", "_law_count", "_law_most"] rfl (q_pvi_range1 (q_pv_var 3 rfl (Or.inl rfl) rfl rfl) rfl B.b_range rfl rfl) (tin_var (by decide)) (fun _ _ _ _ _ => (q_pvg_name 0 (show List.Nodup (["_law_j", "_law_script", "_law_cell", "_law_letters", "_law_count", "_law_most"] : List Str) from by decide +kernel) rfl (Or.inl rfl) (Or.inr rfl))) (fun _ _ _ _ _ => (q_w_call f_law_text hr (q_pvs_cons (q_pv_var 1 rfl (Or.inr (Or.inl rfl)) rfl rfl) (q_pvs_cons (q_pv_var 3 rfl (Or.inr (Or.inl rfl)) rfl rfl) (q_pvs_cons (q_pv_var 5 rfl (Or.inr (Or.inl rfl)) rfl rfl) (q_pvs_cons (q_pv_var 0 rfl (Or.inl rfl) rfl rfl) q_pvs_nil rfl) rfl) rfl) rfl) (by decide) rfl rfl rfl rfl)) rfl rfl (by decide) (fun _ => rfl))))))))))

abbrev s_law_odd_sign : Stmt := top 13
theorem sc_law_odd_sign : FnScope ["_law_cell"] ["_law_cell"] (defScope s_law_odd_sign) := ⟨rfl, rfl, rfl, by decide +kernel, rfl, by decide +kernel, by decide +kernel⟩
theorem f_law_odd_sign {f : Addr} {fd : FuncData} (F : Fun K "_law_odd_sign" "_law_odd_sign" s_law_odd_sign f fd) (hm : mg "_law_odd_sign" = some (.ref f)) (B : Blt mg) :
    FnAt P w K mg base 1 "_law_odd_sign" ["_law_cell"] (gx0 K) c_law_odd_sign := q_def F hm sc_law_odd_sign rfl rfl (fun _ _ _ _ _ _ us hl => match us, hl with | [_], _ => rfl) fun cdv A outer s H E hr =>
    (q_psv_one (q_psv_ret (q_w_idx (q_pv_lst (q_pvs_cons (q_pv_str (by decide +kernel) (by decide)) (q_pvs_cons (q_pv_str (by decide +kernel) (by decide)) (q_pvs_cons (q_pv_str (by decide +kernel) (by decide)) (q_pvs_cons (q_pv_str (by decide +kernel) (by decide)) (q_pvs_cons (q_pv_str (by decide +kernel) (by decide)) (q_pvs_cons (q_pv_str (by decide +kernel) (by decide)) (q_pvs_cons (q_pv_str (by decide +kernel) (by decide)) (q_pvs_cons (q_pv_str (by decide +kernel) (by decide)) (q_pvs_cons (q_pv_str (by decide +kernel) (by decide)) (q_pvs_cons (q_pv_str (by decide +kernel) (by decide)) q_pvs_nil rfl) rfl) rfl) rfl) rfl) rfl) rfl) rfl) rfl) rfl)) (q_w_mod (q_pv_var 0 rfl (Or.inl rfl) rfl rfl) q_pv_int) (fun _ _ => rfl) rfl)))

abbrev s_law_spoiled : Stmt := top 14
theorem sc_law_spoiled : FnScope ["_law_book_here", "_law_cell", "_law_at", "_law_text_here", "_law_place", "_law_odd", "_law_thing", "_law_some", "_law_great"] ["_law_book_here", "_law_cell"] (defScope s_law_spoiled) := ⟨rfl, rfl, rfl, by decide +kernel, rfl, by decide +kernel, by decide +kernel⟩
theorem f_law_spoiled {f : Addr} {fd : FuncData} (F : Fun K "_law_spoiled" "_law_spoiled" s_law_spoiled f fd) (hm : mg "_law_spoiled" = some (.ref f)) (B : Blt mg) (f_law_odd_sign : FnAt P w K mg base 1 "_law_odd_sign" ["_law_cell"] (gx0 K) c_law_odd_sign) :
    FnAt P w K mg base 2 "_law_spoiled" ["_law_book_here", "_law_cell"] (gx0 K) c_law_spoiled := q_def F hm sc_law_spoiled rfl rfl (fun _ _ _ _ _ _ us hl => match us, hl with | [_, _], _ => rfl) fun cdv A outer s H E hr =>
    (q_psv_cons (q_psv_setP (q_w_mod (q_w_fdiv (q_pv_var 1 rfl (Or.inl rfl) rfl rfl) q_pv_int) (q_w_add (q_w_len B.b_len (q_pvs_cons (q_pv_var 0 rfl (Or.inl rfl) rfl rfl) q_pvs_nil rfl) rfl rfl rfl) q_pv_int)) sc_law_spoiled.nd rfl (Or.inl rfl) rfl (Or.inl rfl))
    (q_psv_cons (q_psv_setP (q_pv_join (q_pv_str (by decide +kernel) (by decide)) (q_pvs_cons (q_pv_slice (q_pv_var 0 rfl (Or.inl rfl) rfl rfl) (q_pvo_some (q_pv_var 2 rfl (Or.inl rfl) rfl rfl)) (q_pvo_some (q_w_add (q_pv_var 2 rfl (Or.inl rfl) rfl rfl) q_pv_int)) rfl) q_pvs_nil rfl) rfl rfl rfl rfl rfl rfl) sc_law_spoiled.nd rfl (Or.inl rfl) rfl (Or.inl rfl))
    (q_psv_cons (q_psv_setP (q_w_mod (q_w_fdiv (q_pv_var 1 rfl (Or.inl rfl) rfl rfl) q_pv_int) (q_w_add (q_w_len B.b_len (q_pvs_cons (q_pv_var 3 rfl (Or.inl rfl) rfl rfl) q_pvs_nil rfl) rfl rfl rfl) q_pv_int)) sc_law_spoiled.nd rfl (Or.inl rfl) rfl (Or.inl rfl))
    (q_psv_cons (q_psv_setP (q_w_add (q_w_add (q_pv_slice (q_pv_var 3 rfl (Or.inl rfl) rfl rfl) q_pvo_none (q_pvo_some (q_pv_var 4 rfl (Or.inl rfl) rfl rfl)) rfl) (q_w_call f_law_odd_sign hr (q_pvs_cons (q_w_fdiv (q_pv_var 1 rfl (Or.inl rfl) rfl rfl) q_pv_int) q_pvs_nil rfl) (by decide) rfl rfl rfl rfl)) (q_pv_slice (q_pv_var 3 rfl (Or.inl rfl) rfl rfl) (q_pvo_some (q_pv_var 4 rfl (Or.inl rfl) rfl rfl)) q_pvo_none rfl)) sc_law_spoiled.nd rfl (Or.inl rfl) rfl (Or.inl rfl))
    (q_psv_cons (q_psv_setP (q_w_idx (q_pv_lst (q_pvs_cons q_pv_non (q_pvs_cons q_pv_int (q_pvs_cons q_pv_bl (q_pvs_cons (q_pv_lst (q_pvs_cons (q_pv_str (by decide +kernel) (by decide)) q_pvs_nil rfl)) (q_pvs_cons (q_pv_tup (q_pvs_cons (q_pv_str (by decide +kernel) (by decide)) q_pvs_nil rfl)) (q_pvs_cons (q_w_dct1 (by decide +kernel) (by decide)) (q_pvs_cons q_w_dct0 (q_pvs_cons q_pv_int q_pvs_nil rfl) rfl) rfl) rfl) rfl) rfl) rfl) rfl)) (q_w_mod (q_w_fdiv (q_pv_var 1 rfl (Or.inl rfl) rfl rfl) q_pv_int) q_pv_int) (fun _ _ => rfl) rfl) sc_law_spoiled.nd rfl (Or.inl rfl) rfl (Or.inl rfl))
    (q_psv_cons (q_psv_setP (q_pv_lst (q_pvs_cons (q_w_add (q_w_add (q_pv_slice (q_pv_var 0 rfl (Or.inl rfl) rfl rfl) q_pvo_none (q_pvo_some (q_pv_var 2 rfl (Or.inl rfl) rfl rfl)) rfl) (q_pv_lst (q_pvs_cons (q_pv_var 5 rfl (Or.inl rfl) rfl rfl) q_pvs_nil rfl))) (q_pv_slice (q_pv_var 0 rfl (Or.inl rfl) rfl rfl) (q_pvo_some (q_w_add (q_pv_var 2 rfl (Or.inl rfl) rfl rfl) q_pv_int)) q_pvo_none rfl)) (q_pvs_cons (q_w_add (q_w_add (q_pv_slice (q_pv_var 0 rfl (Or.inl rfl) rfl rfl) q_pvo_none (q_pvo_some (q_pv_var 2 rfl (Or.inl rfl) rfl rfl)) rfl) (q_pv_lst (q_pvs_cons (q_pv_var 6 rfl (Or.inl rfl) rfl rfl) q_pvs_nil rfl))) (q_pv_slice (q_pv_var 0 rfl (Or.inl rfl) rfl rfl) (q_pvo_some (q_w_add (q_pv_var 2 rfl (Or.inl rfl) rfl rfl) q_pv_int)) q_pvo_none rfl)) (q_pvs_cons (q_pv_slice (q_w_add (q_pv_var 0 rfl (Or.inl rfl) rfl rfl) (q_w_repL (q_pv_lst (q_pvs_cons (q_pv_str (by decide +kernel) (by decide)) q_pvs_nil rfl)) q_pv_int)) q_pvo_none (q_pvo_some q_pv_int) rfl) q_pvs_nil rfl) rfl) rfl)) sc_law_spoiled.nd rfl (Or.inl rfl) rfl (Or.inl rfl))
    (q_psv_cons (q_psv_setP (q_pv_lst (q_pvs_cons (q_w_repS (q_pv_str (by decide +kernel) (by decide)) (q_w_sub q_pv_int (q_w_sum B.b_sum (q_pvs_cons (q_pv_comp 1 ["_law_one", "_law_book_here", "_law_cell", "_law_at", "_law_text_here", "_law_place", "_law_odd", "_law_thing", "_law_some", "_law_great"] rfl (q_pvi_val (q_pv_slice (q_pv_var 0 rfl (Or.inl rfl) rfl rfl) q_pvo_none (q_pvo_some q_pv_int) rfl) rfl) (tin_var (by decide)) (fun _ _ _ _ _ => (q_pvg_name 0 (show List.Nodup (["_law_one", "_law_book_here", "_law_cell", "_law_at", "_law_text_here", "_law_place", "_law_odd", "_law_thing", "_law_some", "_law_great"] : List Str) from by decide +kernel) rfl (Or.inl rfl) (Or.inr rfl))) (fun _ _ _ _ _ => (q_w_len B.b_len (q_pvs_cons (q_pv_var 0 rfl (Or.inl rfl) rfl rfl) q_pvs_nil rfl) rfl rfl rfl)) rfl rfl (by decide) (fun _ => rfl)) q_pvs_nil rfl) rfl rfl rfl rfl))) q_pvs_nil rfl)) sc_law_spoiled.nd rfl (Or.inl rfl) rfl (Or.inl rfl))
    (q_psv_cons (q_psv_setP (q_w_add (q_pv_var 7 rfl (Or.inl rfl) rfl rfl) (q_pv_lst (q_pvs_cons (q_w_idx (q_pv_lst (q_pvs_cons (q_w_add (q_pv_slice (q_pv_var 0 rfl (Or.inl rfl) rfl rfl) q_pvo_none (q_pvo_some q_pv_int) rfl) (q_pv_var 8 rfl (Or.inl rfl) rfl rfl)) (q_pvs_cons (q_w_add (q_pv_var 8 rfl (Or.inl rfl) rfl rfl) (q_pv_slice (q_pv_var 0 rfl (Or.inl rfl) rfl rfl) q_pvo_none (q_pvo_some q_pv_int) rfl)) q_pvs_nil rfl) rfl)) (q_w_mod (q_w_fdiv (q_pv_var 1 rfl (Or.inl rfl) rfl rfl) q_pv_int) q_pv_int) (fun _ _ => rfl) rfl) (q_pvs_cons (q_w_tuple B.b_tuple (q_pvs_cons (q_pv_var 0 rfl (Or.inl rfl) rfl rfl) q_pvs_nil rfl) rfl rfl rfl) (q_pvs_cons (q_pv_join (q_pv_str (by decide +kernel) (by decide)) (q_pvs_cons (q_pv_var 0 rfl (Or.inl rfl) rfl rfl) q_pvs_nil rfl) rfl rfl rfl rfl rfl rfl) q_pvs_nil rfl) rfl) rfl))) sc_law_spoiled.nd rfl (Or.inl rfl) rfl (Or.inl rfl))
    (q_psv_one (q_psv_ret (q_w_idx (q_w_add (q_pv_var 7 rfl (Or.inl rfl) rfl rfl) (q_pv_lst (q_pvs_cons q_pv_non (q_pvs_cons q_w_dct0 (q_pvs_cons q_pv_int (q_pvs_cons q_pv_bl (q_pvs_cons (q_pv_tup (q_pvs_cons (q_pv_str (by decide +kernel) (by decide)) q_pvs_nil rfl)) (q_pvs_cons (q_pv_lst (q_pvs_cons (q_pv_var 0 rfl (Or.inl rfl) rfl rfl) q_pvs_nil rfl)) q_pvs_nil rfl) rfl) rfl) rfl) rfl) rfl))) (q_w_mod (q_pv_var 1 rfl (Or.inl rfl) rfl rfl) q_pv_int) (fun _ _ => rfl) rfl)))))))))))

abbrev s_law_is : Stmt := top 15
theorem sc_law_is : FnScope ["_law_got", "_law_due"] ["_law_got", "_law_due"] (defScope s_law_is) := ⟨rfl, rfl, rfl, by decide +kernel, rfl, by decide +kernel, by decide +kernel⟩
theorem f_law_is {f : Addr} {fd : FuncData} (F : Fun K "_law_is" "_law_is" s_law_is f fd) (hm : mg "_law_is" = some (.ref f)) (B : Blt mg) :
    FnAt P w K mg base 1 "_law_is" ["_law_got", "_law_due"] (gx0 K) c_law_is := q_def F hm sc_law_is rfl rfl (fun _ _ _ _ _ _ us hl => match us, hl with | [_, _], _ => rfl) fun cdv A outer s H E hr =>
    (q_psv_one (q_psv_ret (q_pv_and (q_w_is .bool B.b_isinstance B.b_bool (q_pv_var 0 rfl (Or.inl rfl) rfl rfl) rfl rfl rfl rfl) (q_pv_one (q_w_eq hr (q_pv_var 0 rfl (Or.inl rfl) rfl rfl) (q_pv_var 1 rfl (Or.inl rfl) rfl rfl))))))

abbrev s_law : Stmt := top 16
theorem sc_law : FnScope ["_law_script", "_law_book_here", "_law_handed", "_law_size", "_law_longest_one", "_law_k", "_law_cell", "_law_word", "_law_at"] ["_law_script"] (defScope s_law) := ⟨rfl, rfl, rfl, by decide +kernel, rfl, by decide +kernel, by decide +kernel⟩
theorem law_ok {f : Addr} {fd : FuncData} (F : Fun K "law" "law" s_law f fd) (B : Blt mg) (f_law_book : FnAt P w K mg base 3 "_law_book" ["_law_script"] (gx0 K) c_law_book) (f_law_cell_at : FnAt P w K mg base 1 "_law_cell_at" ["_law_script", "_law_k"] (gx0 K) c_law_cell_at) (f_law_is : FnAt P w K mg base 1 "_law_is" ["_law_got", "_law_due"] (gx0 K) c_law_is) (f_law_odd_sign : FnAt P w K mg base 1 "_law_odd_sign" ["_law_cell"] (gx0 K) c_law_odd_sign) (f_law_spoiled : FnAt P w K mg base 2 "_law_spoiled" ["_law_book_here", "_law_cell"] (gx0 K) c_law_spoiled) (f_is_book : FnAt P w K mg base 2 "is_book" ["thing"] (gx0 K) c_is_book) (f_is_word : FnAt P w K mg base 2 "is_word" ["thing"] (gx0 K) c_is_word) (f_signs_in : FnAt P w K mg base 1 "signs_in" ["book"] (gx0 K) c_signs_in) :
    FnOk P w K mg base CX0 4 f fd ["_law_script"] (spF (gx0 K) c_law) := q_fn F sc_law rfl rfl fun cdv A outer s H E hr =>
    (q_psv_cons (q_psv_setP (q_w_call f_law_book hr (q_pvs_cons (q_pv_var 0 rfl (Or.inl rfl) rfl rfl) q_pvs_nil rfl) (by decide) rfl rfl rfl rfl) sc_law.nd rfl (Or.inl rfl) rfl (Or.inl rfl))
    (q_psv_cons (q_psv_setP (q_w_list B.b_list (q_pvs_cons (q_pv_var 1 rfl (Or.inl rfl) rfl rfl) q_pvs_nil rfl) rfl rfl rfl) sc_law.nd rfl (Or.inl rfl) rfl (Or.inl rfl))
    (q_psv_cons (q_psv_setP (q_w_call f_signs_in hr (q_pvs_cons (q_pv_var 2 rfl (Or.inl rfl) rfl rfl) q_pvs_nil rfl) (by decide) rfl rfl rfl rfl) sc_law.nd rfl (Or.inl rfl) rfl (Or.inl rfl))
    (q_psv_cons (q_psv_if (q_PVW_pvt (q_pvw_or (q_pvt_not (q_pvt_val (q_w_call f_law_is hr (q_pvs_cons (q_w_call f_is_book hr (q_pvs_cons (q_pv_var 2 rfl (Or.inl rfl) rfl rfl) q_pvs_nil rfl) (by decide) rfl rfl rfl rfl) (q_pvs_cons q_pv_bl q_pvs_nil rfl) rfl) (by decide) rfl rfl rfl rfl) rfl (fun _ => rfl))) (q_pvw_or (q_pvt_val (q_w_is .bool B.b_isinstance B.b_bool (q_pv_var 3 rfl (Or.inl rfl) rfl rfl) rfl rfl rfl rfl) rfl (fun _ => rfl)) (q_pvw_or1 (q_pvt_not (q_pvt_val (q_w_is .int B.b_isinstance B.b_int (q_pv_var 3 rfl (Or.inl rfl) rfl rfl) rfl rfl rfl rfl) rfl (fun _ => rfl))))))) (q_psv_one (q_psv_ret q_pv_bl)) q_psv_nil)
    (q_psv_cons (q_psv_if (q_PVW_pvt (q_pvw_or (q_wt_ne hr (q_pv_var 3 rfl (Or.inl rfl) rfl rfl) (q_w_len B.b_len (q_pvs_cons (q_pv_join (q_pv_str (by decide +kernel) (by decide)) (q_pvs_cons (q_pv_var 1 rfl (Or.inl rfl) rfl rfl) q_pvs_nil rfl) rfl rfl rfl rfl rfl rfl) q_pvs_nil rfl) rfl rfl rfl)) (q_pvw_or (q_wt_ne hr (q_pv_var 2 rfl (Or.inl rfl) rfl rfl) (q_pv_var 1 rfl (Or.inl rfl) rfl rfl)) (q_pvw_or1 (q_pvt_not (q_pvt_val (q_w_call f_law_is hr (q_pvs_cons (q_w_call f_is_book hr (q_pvs_cons (q_pv_slice (q_w_add (q_pv_var 1 rfl (Or.inl rfl) rfl rfl) (q_w_repL (q_pv_lst (q_pvs_cons (q_pv_str (by decide +kernel) (by decide)) q_pvs_nil rfl)) q_pv_int)) q_pvo_none (q_pvo_some q_pv_int) rfl) q_pvs_nil rfl) (by decide) rfl rfl rfl rfl) (q_pvs_cons q_pv_bl q_pvs_nil rfl) rfl) (by decide) rfl rfl rfl rfl) rfl (fun _ => rfl))))))) (q_psv_one (q_psv_ret q_pv_bl)) q_psv_nil)
    (q_psv_cons (q_psv_setP (q_w_add (q_pv_slice (q_pv_var 1 rfl (Or.inl rfl) rfl rfl) q_pvo_none (q_pvo_some q_pv_int) rfl) (q_pv_lst (q_pvs_cons (q_w_repS (q_pv_str (by decide +kernel) (by decide)) (q_w_sub q_pv_int (q_w_len B.b_len (q_pvs_cons (q_pv_join (q_pv_str (by decide +kernel) (by decide)) (q_pvs_cons (q_pv_slice (q_pv_var 1 rfl (Or.inl rfl) rfl rfl) q_pvo_none (q_pvo_some q_pv_int) rfl) q_pvs_nil rfl) rfl rfl rfl rfl rfl rfl) q_pvs_nil rfl) rfl rfl rfl))) q_pvs_nil rfl))) sc_law.nd rfl (Or.inl rfl) rfl (Or.inl rfl))
    (q_psv_cons (q_psv_if (q_PVW_pvt (q_pvw_or (q_pvt_not (q_pvt_val (q_w_call f_law_is hr (q_pvs_cons (q_w_call f_is_book hr (q_pvs_cons (q_pv_var 4 rfl (Or.inl rfl) rfl rfl) q_pvs_nil rfl) (by decide) rfl rfl rfl rfl) (q_pvs_cons q_pv_bl q_pvs_nil rfl) rfl) (by decide) rfl rfl rfl rfl) rfl (fun _ => rfl))) (q_pvw_or1 (q_wt_ne hr (q_w_call f_signs_in hr (q_pvs_cons (q_pv_var 4 rfl (Or.inl rfl) rfl rfl) q_pvs_nil rfl) (by decide) rfl rfl rfl rfl) q_pv_int)))) (q_psv_one (q_psv_ret q_pv_bl)) q_psv_nil)
    (q_psv_cons (q_psv_for PassesOwn.never rfl (q_pvi_range1 q_pv_int rfl B.b_range rfl rfl) (q_pvg_name 5 sc_law.nd rfl (Or.inl rfl) (Or.inl rfl))
    (q_psv_cons (q_psv_setP (q_w_add (q_w_call f_law_cell_at hr (q_pvs_cons (q_pv_var 0 rfl (Or.inl rfl) rfl rfl) (q_pvs_cons (q_w_add q_pv_int (q_pv_var 5 rfl (Or.inl rfl) rfl rfl)) q_pvs_nil rfl) rfl) (by decide) rfl rfl rfl rfl) (q_w_mul q_pv_int (q_pv_var 5 rfl (Or.inl rfl) rfl rfl))) sc_law.nd rfl (Or.inl rfl) rfl (Or.inl rfl))
    (q_psv_cons (q_psv_if (q_pvt_not (q_pvt_val (q_w_call f_law_is hr (q_pvs_cons (q_w_call f_is_book hr (q_pvs_cons (q_w_call f_law_spoiled hr (q_pvs_cons (q_pv_var 1 rfl (Or.inl rfl) rfl rfl) (q_pvs_cons (q_pv_var 6 rfl (Or.inl rfl) rfl rfl) q_pvs_nil rfl) rfl) (by decide) rfl rfl rfl rfl) q_pvs_nil rfl) (by decide) rfl rfl rfl rfl) (q_pvs_cons q_pv_bl q_pvs_nil rfl) rfl) (by decide) rfl rfl rfl rfl) rfl (fun _ => rfl))) (q_psv_one (q_psv_ret q_pv_bl)) q_psv_nil)
    (q_psv_cons (q_psv_setP (q_pv_slice (q_w_add (q_pv_join (q_pv_str (by decide +kernel) (by decide)) (q_pvs_cons (q_pv_var 1 rfl (Or.inl rfl) rfl rfl) q_pvs_nil rfl) rfl rfl rfl rfl rfl rfl) (q_w_repS (q_pv_str (by decide +kernel) (by decide)) q_pv_int)) q_pvo_none (q_pvo_some (q_w_idx (q_pv_lst (q_pvs_cons q_pv_int (q_pvs_cons q_pv_int (q_pvs_cons q_pv_int (q_pvs_cons q_pv_int (q_pvs_cons q_pv_int q_pvs_nil rfl) rfl) rfl) rfl) rfl)) (q_w_mod (q_pv_var 6 rfl (Or.inl rfl) rfl rfl) q_pv_int) (fun _ _ => rfl) rfl)) rfl) sc_law.nd rfl (Or.inl rfl) rfl (Or.inl rfl))
    (q_psv_cons (q_psv_if (q_pvt_not (q_pvt_val (q_w_call f_law_is hr (q_pvs_cons (q_w_call f_is_word hr (q_pvs_cons (q_pv_var 7 rfl (Or.inl rfl) rfl rfl) q_pvs_nil rfl) (by decide) rfl rfl rfl rfl) (q_pvs_cons (q_w_lt (q_w_len B.b_len (q_pvs_cons (q_pv_var 7 rfl (Or.inl rfl) rfl rfl) q_pvs_nil rfl) rfl rfl rfl) q_pv_int) q_pvs_nil rfl) rfl) (by decide) rfl rfl rfl rfl) rfl (fun _ => rfl))) (q_psv_one (q_psv_ret q_pv_bl)) q_psv_nil)
    (q_psv_cons (q_psv_setP (q_w_mod (q_w_fdiv (q_pv_var 6 rfl (Or.inl rfl) rfl rfl) q_pv_int) (q_w_add (q_w_len B.b_len (q_pvs_cons (q_pv_var 7 rfl (Or.inl rfl) rfl rfl) q_pvs_nil rfl) rfl rfl rfl) q_pv_int)) sc_law.nd rfl (Or.inl rfl) rfl (Or.inl rfl))
    (q_psv_cons (q_psv_if (q_pvt_not (q_pvt_val (q_w_call f_law_is hr (q_pvs_cons (q_w_call f_is_word hr (q_pvs_cons (q_w_add (q_w_add (q_pv_slice (q_pv_var 7 rfl (Or.inl rfl) rfl rfl) q_pvo_none (q_pvo_some (q_pv_var 8 rfl (Or.inl rfl) rfl rfl)) rfl) (q_w_call f_law_odd_sign hr (q_pvs_cons (q_w_fdiv (q_pv_var 6 rfl (Or.inl rfl) rfl rfl) q_pv_int) q_pvs_nil rfl) (by decide) rfl rfl rfl rfl)) (q_pv_slice (q_pv_var 7 rfl (Or.inl rfl) rfl rfl) (q_pvo_some (q_pv_var 8 rfl (Or.inl rfl) rfl rfl)) q_pvo_none rfl)) q_pvs_nil rfl) (by decide) rfl rfl rfl rfl) (q_pvs_cons q_pv_bl q_pvs_nil rfl) rfl) (by decide) rfl rfl rfl rfl) rfl (fun _ => rfl))) (q_psv_one (q_psv_ret q_pv_bl)) q_psv_nil)
    (q_psv_one (q_psv_if (q_pvt_not (q_pvt_val (q_w_call f_law_is hr (q_pvs_cons (q_w_call f_is_word hr (q_pvs_cons (q_w_idx (q_pv_lst (q_pvs_cons q_pv_non (q_pvs_cons q_pv_int (q_pvs_cons q_pv_bl (q_pvs_cons (q_pv_lst (q_pvs_cons (q_pv_str (by decide +kernel) (by decide)) q_pvs_nil rfl)) (q_pvs_cons (q_pv_tup (q_pvs_cons (q_pv_str (by decide +kernel) (by decide)) q_pvs_nil rfl)) (q_pvs_cons q_w_dct0 (q_pvs_cons (q_pv_lst (q_pvs_cons (q_pv_var 7 rfl (Or.inl rfl) rfl rfl) q_pvs_nil rfl)) (q_pvs_cons q_pv_int q_pvs_nil rfl) rfl) rfl) rfl) rfl) rfl) rfl) rfl)) (q_w_mod (q_pv_var 6 rfl (Or.inl rfl) rfl rfl) q_pv_int) (fun _ _ => rfl) rfl) q_pvs_nil rfl) (by decide) rfl rfl rfl rfl) (q_pvs_cons q_pv_bl q_pvs_nil rfl) rfl) (by decide) rfl rfl rfl rfl) rfl (fun _ => rfl))) (q_psv_one (q_psv_ret q_pv_bl)) q_psv_nil)))))))) (fun _ => rfl))
    (q_psv_one (q_psv_ret q_pv_bl))))))))))

end
-- ALL
theorem all_mk {l : PySem.W.OpenLaw} {w : World} {K : PySem.W.Frag} {h : Heap} {mg : Str → Option Value} {fa f0 f1 f2 f3 f4 f5 f6 f7 f8 f9 f10 f11 : Addr} (X : K.In h) (G : h.Ns mainGlobals mg) (hfa : mg "law" = some (.ref fa))
    {od0 an0 od1 an1 od2 an2 od3 an3 od4 an4 od5 an5 od6 an6 od7 an7 od8 an8 od9 an9 od10 an10 od11 an11 : Option Addr} {sl0 sl1 sl2 sl3 sl4 sl5 sl6 sl7 sl8 sl9 sl10 sl11 : Array (Option Value)} {oc0 kV0 dc0 pm0 cd0 ct0 oc1 kV1 dc1 pm1 cd1 ct1 oc2 kV2 dc2 pm2 cd2 ct2 oc3 kV3 dc3 pm3 cd3 ct3 oc4 kV4 dc4 pm4 cd4 ct4 oc5 kV5 dc5 pm5 cd5 ct5 oc6 kV6 dc6 pm6 cd6 ct6 oc7 kV7 dc7 pm7 cd7 ct7 oc8 kV8 dc8 pm8 cd8 ct8 oc9 kV9 dc9 pm9 cd9 ct9 oc10 kV10 dc10 pm10 cd10 ct10 oc11 kV11 dc11 pm11 cd11 ct11 : Value}
    (a0 : PySem.W.nsIn K mainGlobals "has_only_signs" = some (some (.ref f0))) (l0 : K.lookup f0 = some ⟨oc0, od0, .func (PySem.W.fnOf "has_only_signs" "has_only_signs" (defArgs s_has_only_signs) (defBody s_has_only_signs) (defScope s_has_only_signs) .none kV0 dc0 pm0 an0 cd0 ct0), sl0⟩) (c0 : PySem.W.codeIn K cd0 "has_only_signs" = true) (k0 : PySem.W.keepIn K (.ref f0) = true)
    (a1 : PySem.W.nsIn K mainGlobals "is_word" = some (some (.ref f1))) (l1 : K.lookup f1 = some ⟨oc1, od1, .func (PySem.W.fnOf "is_word" "is_word" (defArgs s_is_word) (defBody s_is_word) (defScope s_is_word) .none kV1 dc1 pm1 an1 cd1 ct1), sl1⟩) (c1 : PySem.W.codeIn K cd1 "is_word" = true) (k1 : PySem.W.keepIn K (.ref f1) = true)
    (a2 : PySem.W.nsIn K mainGlobals "signs_in" = some (some (.ref f2))) (l2 : K.lookup f2 = some ⟨oc2, od2, .func (PySem.W.fnOf "signs_in" "signs_in" (defArgs s_signs_in) (defBody s_signs_in) (defScope s_signs_in) .none kV2 dc2 pm2 an2 cd2 ct2), sl2⟩) (c2 : PySem.W.codeIn K cd2 "signs_in" = true) (k2 : PySem.W.keepIn K (.ref f2) = true)
    (a3 : PySem.W.nsIn K mainGlobals "is_book" = some (some (.ref f3))) (l3 : K.lookup f3 = some ⟨oc3, od3, .func (PySem.W.fnOf "is_book" "is_book" (defArgs s_is_book) (defBody s_is_book) (defScope s_is_book) .none kV3 dc3 pm3 an3 cd3 ct3), sl3⟩) (c3 : PySem.W.codeIn K cd3 "is_book" = true) (k3 : PySem.W.keepIn K (.ref f3) = true)
    (a4 : PySem.W.nsIn K mainGlobals "_law_cell_at" = some (some (.ref f4))) (l4 : K.lookup f4 = some ⟨oc4, od4, .func (PySem.W.fnOf "_law_cell_at" "_law_cell_at" (defArgs s_law_cell_at) (defBody s_law_cell_at) (defScope s_law_cell_at) .none kV4 dc4 pm4 an4 cd4 ct4), sl4⟩) (c4 : PySem.W.codeIn K cd4 "_law_cell_at" = true) (k4 : PySem.W.keepIn K (.ref f4) = true)
    (a5 : PySem.W.nsIn K mainGlobals "_law_mixed" = some (some (.ref f5))) (l5 : K.lookup f5 = some ⟨oc5, od5, .func (PySem.W.fnOf "_law_mixed" "_law_mixed" (defArgs s_law_mixed) (defBody s_law_mixed) (defScope s_law_mixed) .none kV5 dc5 pm5 an5 cd5 ct5), sl5⟩) (c5 : PySem.W.codeIn K cd5 "_law_mixed" = true) (k5 : PySem.W.keepIn K (.ref f5) = true)
    (a6 : PySem.W.nsIn K mainGlobals "_law_text" = some (some (.ref f6))) (l6 : K.lookup f6 = some ⟨oc6, od6, .func (PySem.W.fnOf "_law_text" "_law_text" (defArgs s_law_text) (defBody s_law_text) (defScope s_law_text) .none kV6 dc6 pm6 an6 cd6 ct6), sl6⟩) (c6 : PySem.W.codeIn K cd6 "_law_text" = true) (k6 : PySem.W.keepIn K (.ref f6) = true)
    (a7 : PySem.W.nsIn K mainGlobals "_law_book" = some (some (.ref f7))) (l7 : K.lookup f7 = some ⟨oc7, od7, .func (PySem.W.fnOf "_law_book" "_law_book" (defArgs s_law_book) (defBody s_law_book) (defScope s_law_book) .none kV7 dc7 pm7 an7 cd7 ct7), sl7⟩) (c7 : PySem.W.codeIn K cd7 "_law_book" = true) (k7 : PySem.W.keepIn K (.ref f7) = true)
    (a8 : PySem.W.nsIn K mainGlobals "_law_odd_sign" = some (some (.ref f8))) (l8 : K.lookup f8 = some ⟨oc8, od8, .func (PySem.W.fnOf "_law_odd_sign" "_law_odd_sign" (defArgs s_law_odd_sign) (defBody s_law_odd_sign) (defScope s_law_odd_sign) .none kV8 dc8 pm8 an8 cd8 ct8), sl8⟩) (c8 : PySem.W.codeIn K cd8 "_law_odd_sign" = true) (k8 : PySem.W.keepIn K (.ref f8) = true)
    (a9 : PySem.W.nsIn K mainGlobals "_law_spoiled" = some (some (.ref f9))) (l9 : K.lookup f9 = some ⟨oc9, od9, .func (PySem.W.fnOf "_law_spoiled" "_law_spoiled" (defArgs s_law_spoiled) (defBody s_law_spoiled) (defScope s_law_spoiled) .none kV9 dc9 pm9 an9 cd9 ct9), sl9⟩) (c9 : PySem.W.codeIn K cd9 "_law_spoiled" = true) (k9 : PySem.W.keepIn K (.ref f9) = true)
    (a10 : PySem.W.nsIn K mainGlobals "_law_is" = some (some (.ref f10))) (l10 : K.lookup f10 = some ⟨oc10, od10, .func (PySem.W.fnOf "_law_is" "_law_is" (defArgs s_law_is) (defBody s_law_is) (defScope s_law_is) .none kV10 dc10 pm10 an10 cd10 ct10), sl10⟩) (c10 : PySem.W.codeIn K cd10 "_law_is" = true) (k10 : PySem.W.keepIn K (.ref f10) = true)
    (a11 : PySem.W.nsIn K mainGlobals "law" = some (some (.ref f11))) (l11 : K.lookup f11 = some ⟨oc11, od11, .func (PySem.W.fnOf "law" "law" (defArgs s_law) (defBody s_law) (defScope s_law) .none kV11 dc11 pm11 an11 cd11 ct11), sl11⟩) (c11 : PySem.W.codeIn K cd11 "law" = true) (k11 : PySem.W.keepIn K (.ref f11) = true)
    (z_all : PySem.W.nsIn K mainGlobals "all" = some none)
    (z_bool : PySem.W.nsIn K mainGlobals "bool" = some none)
    (z_int : PySem.W.nsIn K mainGlobals "int" = some none)
    (z_isinstance : PySem.W.nsIn K mainGlobals "isinstance" = some none)
    (z_len : PySem.W.nsIn K mainGlobals "len" = some none)
    (z_list : PySem.W.nsIn K mainGlobals "list" = some none)
    (z_max : PySem.W.nsIn K mainGlobals "max" = some none)
    (z_min : PySem.W.nsIn K mainGlobals "min" = some none)
    (z_range : PySem.W.nsIn K mainGlobals "range" = some none)
    (z_str : PySem.W.nsIn K mainGlobals "str" = some none)
    (z_sum : PySem.W.nsIn K mainGlobals "sum" = some none)
    (z_tuple : PySem.W.nsIn K mainGlobals "tuple" = some none)
    {t_MOST_SIGNS : Tok} (y_MOST_SIGNS : PySem.W.nsIn K mainGlobals "MOST_SIGNS" = some (some (.int 120 t_MOST_SIGNS)))
    {t_MOST_TEXTS : Tok} (y_MOST_TEXTS : PySem.W.nsIn K mainGlobals "MOST_TEXTS" = some (some (.int 8 t_MOST_TEXTS)))
    {t_MOST_WORD_SIGNS : Tok} (y_MOST_WORD_SIGNS : PySem.W.nsIn K mainGlobals "MOST_WORD_SIGNS" = some (some (.int 200 t_MOST_WORD_SIGNS)))
    : ∃ fd : FuncData, (∀ (s : Shared) (v : Value), BindsTo s fd ⟨[v], []⟩ [("_law_script", v)]) ∧ ∀ base : Heap, K.In base → base.Ns mainGlobals mg → FnOk l.prog w K mg base CX0 4 fa fd ["_law_script"] (spF (gx0 K) c_law) := by
  have e := hfa.symm.trans (PySem.W.mg_of X G a11)
  cases e
  have B : Blt mg := ⟨PySem.W.mg_none_of X G z_all, PySem.W.mg_none_of X G z_bool, PySem.W.mg_none_of X G z_int, PySem.W.mg_none_of X G z_isinstance, PySem.W.mg_none_of X G z_len, PySem.W.mg_none_of X G z_list, PySem.W.mg_none_of X G z_max, PySem.W.mg_none_of X G z_min, PySem.W.mg_none_of X G z_range, PySem.W.mg_none_of X G z_str, PySem.W.mg_none_of X G z_sum, PySem.W.mg_none_of X G z_tuple, ⟨_, PySem.W.mg_of X G y_MOST_SIGNS⟩, ⟨_, PySem.W.mg_of X G y_MOST_TEXTS⟩, ⟨_, PySem.W.mg_of X G y_MOST_WORD_SIGNS⟩⟩
  refine ⟨PySem.W.fnOf "law" "law" (defArgs s_law) (defBody s_law) (defScope s_law) .none kV11 dc11 pm11 an11 cd11 ct11, fun s v => .of_eq rfl, fun base _ _ => ?_⟩
  have f_has_only_signs := f_has_only_signs (P := l.prog) (w := w) (base := base) (fun_mk (st := s_has_only_signs) l0 c0 k0) (PySem.W.mg_of X G a0) B
  have f_is_word := f_is_word (P := l.prog) (w := w) (base := base) (fun_mk (st := s_is_word) l1 c1 k1) (PySem.W.mg_of X G a1) B f_has_only_signs
  have f_signs_in := f_signs_in (P := l.prog) (w := w) (base := base) (fun_mk (st := s_signs_in) l2 c2 k2) (PySem.W.mg_of X G a2) B
  have f_is_book := f_is_book (P := l.prog) (w := w) (base := base) (fun_mk (st := s_is_book) l3 c3 k3) (PySem.W.mg_of X G a3) B f_has_only_signs f_signs_in
  have f_law_cell_at := f_law_cell_at (P := l.prog) (w := w) (base := base) (fun_mk (st := s_law_cell_at) l4 c4 k4) (PySem.W.mg_of X G a4) B
  have f_law_mixed := f_law_mixed (P := l.prog) (w := w) (base := base) (fun_mk (st := s_law_mixed) l5 c5 k5) (PySem.W.mg_of X G a5) B
  have f_law_text := f_law_text (P := l.prog) (w := w) (base := base) (fun_mk (st := s_law_text) l6 c6 k6) (PySem.W.mg_of X G a6) B f_law_cell_at f_law_mixed
  have f_law_book := f_law_book (P := l.prog) (w := w) (base := base) (fun_mk (st := s_law_book) l7 c7 k7) (PySem.W.mg_of X G a7) B f_law_cell_at f_law_text
  have f_law_odd_sign := f_law_odd_sign (P := l.prog) (w := w) (base := base) (fun_mk (st := s_law_odd_sign) l8 c8 k8) (PySem.W.mg_of X G a8) B
  have f_law_spoiled := f_law_spoiled (P := l.prog) (w := w) (base := base) (fun_mk (st := s_law_spoiled) l9 c9 k9) (PySem.W.mg_of X G a9) B f_law_odd_sign
  have f_law_is := f_law_is (P := l.prog) (w := w) (base := base) (fun_mk (st := s_law_is) l10 c10 k10) (PySem.W.mg_of X G a10) B
  exact law_ok (fun_mk (st := s_law) l11 c11 k11) B f_law_book f_law_cell_at f_law_is f_law_odd_sign f_law_spoiled f_is_book f_is_word f_signs_in

end T01
open PySem PySem.W PyProof.Rows
set_option maxRecDepth 100000 in
set_option maxHeartbeats 0 in
theorem PySem.Challenge.cw_allparts_k01_words_and_books_holds : PySem.Challenge.rw_allparts_k01_words_and_books.Holds := by
  w_on; o_law; k_head; (case hw => w_witness2)
  k_fill
  refine VS.vs_walk (l := PySem.Challenge.rw_allparts_k01_words_and_books) (k := 4) (x := "_law_script") (g := T01.c_law) rfl rfl ⟨rfl, by decide, by decide⟩ (fun w h Y => PySem.W.kIn_of Y) T01.law_true ?F
  case F =>
    intro w mg fa h KX G hmg
    refine' T01.all_mk KX G hmg ?a0 ?l0 ?c0 ?k0 ?a1 ?l1 ?c1 ?k1 ?a2 ?l2 ?c2 ?k2 ?a3 ?l3 ?c3 ?k3 ?a4 ?l4 ?c4 ?k4 ?a5 ?l5 ?c5 ?k5 ?a6 ?l6 ?c6 ?k6 ?a7 ?l7 ?c7 ?k7 ?a8 ?l8 ?c8 ?k8 ?a9 ?l9 ?c9 ?k9 ?a10 ?l10 ?c10 ?k10 ?a11 ?l11 ?c11 ?k11 ?z_all ?z_bool ?z_int ?z_isinstance ?z_len ?z_list ?z_max ?z_min ?z_range ?z_str ?z_sum ?z_tuple ?y_MOST_SIGNS ?y_MOST_TEXTS ?y_MOST_WORD_SIGNS
    (case a0 => k_is)
    (case l0 => k_is)
    (case c0 => k_is)
    (case k0 => k_is)
    (case a1 => k_is)
    (case l1 => k_is)
    (case c1 => k_is)
    (case k1 => k_is)
    (case a2 => k_is)
    (case l2 => k_is)
    (case c2 => k_is)
    (case k2 => k_is)
    (case a3 => k_is)
    (case l3 => k_is)
    (case c3 => k_is)
    (case k3 => k_is)
    (case a4 => k_is)
    (case l4 => k_is)
    (case c4 => k_is)
    (case k4 => k_is)
    (case a5 => k_is)
    (case l5 => k_is)
    (case c5 => k_is)
    (case k5 => k_is)
    (case a6 => k_is)
    (case l6 => k_is)
    (case c6 => k_is)
    (case k6 => k_is)
    (case a7 => k_is)
    (case l7 => k_is)
    (case c7 => k_is)
    (case k7 => k_is)
    (case a8 => k_is)
    (case l8 => k_is)
    (case c8 => k_is)
    (case k8 => k_is)
    (case a9 => k_is)
    (case l9 => k_is)
    (case c9 => k_is)
    (case k9 => k_is)
    (case a10 => k_is)
    (case l10 => k_is)
    (case c10 => k_is)
    (case k10 => k_is)
    (case a11 => k_is)
    (case l11 => k_is)
    (case c11 => k_is)
    (case k11 => k_is)
    (case z_all => k_is)
    (case z_bool => k_is)
    (case z_int => k_is)
    (case z_isinstance => k_is)
    (case z_len => k_is)
    (case z_list => k_is)
    (case z_max => k_is)
    (case z_min => k_is)
    (case z_range => k_is)
    (case z_str => k_is)
    (case z_sum => k_is)
    (case z_tuple => k_is)
    (case y_MOST_SIGNS => k_is)
    (case y_MOST_TEXTS => k_is)
    (case y_MOST_WORD_SIGNS => k_is)
