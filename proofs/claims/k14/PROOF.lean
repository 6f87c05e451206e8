import PyProof.Rows.All
import Wide.All
import OpenK.AllK
import Wide.FinOn
import Lean
import PyProof.EqAt
import PyProof.EqKinds
import PyProof.TupleCall
import PyProof.Rows.SortShellK
import PyProof.Rows.SortStr
import PyProof.Rows.SortWalk
import PyProof.StrBlockH
import PyProof.StrLawsIn
import PyProof.Rows.SetFrom
import PyProof.CollectWalk
import KE.KDictSum
import PyProof.ListStr
import PyProof.SeqI3
import PyProof.Rows.CallKwBuiltin
import PyProof.ListRange
import PyProof.AttrMissSeq
import PyProof.DictUpdate
import PyProof.DictList
import PyProof.ListNew
import PyProof.FactsAll.dict_1
import PyProof.SliceList
import PySem.Challenge.RW_allparts_k14_stands_of_words
set_option linter.all false
set_option maxRecDepth 100000
set_option Elab.async false
set_option maxHeartbeats 4000000
abbrev Zz:=@PySem.wpAny_bind
abbrev Zy:=@PySem.wpAny_pure
abbrev Zx:=@Option.bind_eq_some_iff
abbrev Zw:=@List.mem_cons_of_mem
abbrev Zv:=@List.mem_cons_self
abbrev Zu:=@PySem.Heap.get?_push_of_some
abbrev Zt:=@Nat.le_refl
abbrev Zs:=@PyProof.Rows.wpS_pure
abbrev Zr:=@PyProof.Rows.wpS_bind
abbrev Zq:=@Option.map_eq_some_iff
abbrev Zp:=@Bool.false_ne_true
abbrev Zo:=@PySem.Heap.get?_push_size
abbrev Zn:=@Nat.ne_of_lt
abbrev Zm:=@PySem.Heap.lt_size
abbrev Zl:=@Array.getElem_mem
abbrev Zk:=@List.length_map
abbrev Zj:=@List.length_append
abbrev Zi:=@List.mem_singleton
abbrev Zh:=@List.mem_append
abbrev Zg:=@List.mem_cons
abbrev Zf:=@List.append_assoc
abbrev Ze:=@List.flatten_cons
abbrev Zd:=@List.getElem?_eq_getElem
section
namespace L2
theorem fM {G:Prop} (h:∀ P:Prop,(G->P)->P):G:=h G id
end L2
namespace VS
noncomputable abbrev Tx:=List Nat
inductive T where
 | non | bl (b:Bool) | int (i:Int) | str (s:Tx) | scr (ns:List Int)
 | tup (l:List T) | lst (l:List T) | dct (kd:Nat) (l:List (T×T)) | obj (c:Nat) (fs:List (Nat×T))
 deriving Inhabited
noncomputable def eW:Nat:=16777216
mutual
@[simp] noncomputable def imm:T->Bool
 | .lst _=>false
 | .dct _ _=>false
 | .obj _ _=>false
 | .tup l=>d5 l
 | _=>true
@[simp] noncomputable def d5:List T->Bool
 | []=>true
 | t :: r=>imm t && d5 r
end
mutual
@[simp] noncomputable def eqT:T->T->Bool
 | .non,.non=>true
 | .bl a,.bl b=>a == b
 | .bl a,.int i=>(if a then 1 else 0) == i
 | .int i,.bl a=>i == (if a then 1 else 0)
 | .int i,.int j=>i == j
 | .str s,.str t=>s == t
 | .tup a,.tup b=>kS a b
 | .lst a,.lst b=>kS a b
 | _,_=>false
@[simp] noncomputable def kS:List T->List T->Bool
 | [],[]=>true
 | a :: as,b :: bs=>eqT a b && kS as bs
 | _,_=>false
end
@[simp] noncomputable def eqD:Nat->T->Bool
 | _,.non=>true
 | _,.bl _=>true
 | _,.int _=>true
 | _,.str _=>true
 | n+1,.tup l=>l.all (eqD n)
 | n+1,.lst l=>l.all (eqD n)
 | _,_=>false
inductive Md where | fr | pu | bo
 deriving DecidableEq,Inhabited
@[simp] noncomputable def Md.join:Md->Md->Md
 | .bo,_=>.bo
 | _,.bo=>.bo
 | .pu,_=>.pu
 | _,.pu=>.pu
 | .fr,.fr=>.fr
inductive Cell where | pu (t:T) | ow (t:T)
 deriving Inhabited
noncomputable abbrev Env:=List (Option Cell)
noncomputable abbrev Val:=Md×T
noncomputable abbrev Ex:=Env->Option Val
noncomputable abbrev Exs:=Env->Option (List Val)
@[simp] noncomputable def up (m:Md) (t:T):Val:=(if imm t then .fr else m,t)
@[simp] noncomputable def CB:T->Bool
 | .lst _=>true
 | .dct _ _=>true
 | .obj _ _=>true
 | _=>false
@[simp] noncomputable def cellOf:Val->Option Cell
 | (.fr,t)=>some (if CB t then .ow t else .pu t)
 | (.pu,t)=>some (.pu t)
 | (.bo,_)=>none
inductive Out where | nx (η:Env) | rt (v:Val) (η:Env) | bk (η:Env) | ct (η:Env)
noncomputable abbrev Sx:=Env->Option Out
@[simp] noncomputable def eC (t:T) (_:Env):Option Val:=some (.fr,t)
@[simp] noncomputable def ah (i:Nat) (η:Env):Option Val:=match η[i]? with
 | some (some (.pu t))=>some (up .pu t)
 | some (some (.ow t))=>some (.bo,t)
 | _=>none
@[simp] noncomputable def e1 (f:Val->Option Val) (a:Ex) (η:Env):Option Val:=(a η).bind f
@[simp] noncomputable def e2 (f:Val->Val->Option Val) (a b:Ex) (η:Env):Option Val:=(a η).bind fun x=>(b η).bind fun y=>f x y
@[simp] noncomputable def av (_:Env):Option (List Val):=some []
@[simp] noncomputable def af (a:Ex) (r:Exs) (η:Env):Option (List Val):=(a η).bind fun x=>(r η).bind fun xs=>some (x :: xs)
@[simp] noncomputable def eN (f:List Val->Option Val) (as:Exs) (η:Env):Option Val:=(as η).bind f
@[simp] noncomputable def bJ:List Val->Md
 | []=>.fr
 | v :: r=>v.1.join (bJ r)
@[simp] noncomputable def trees (l:List Val):List T:=l.map (·.2)
noncomputable def mkL (m:Md) (l:List T):Option Val:=if l.length<=eW then some (if d5 l then .fr else m,.lst l) else none
@[simp] noncomputable def eU (as:Exs) (η:Env):Option Val:=(as η).bind fun l=>mkL (bJ l) (trees l)
noncomputable def rC (l:List Val):Option Val:=if l.length<=eW then some (up (bJ l) (.tup (trees l))) else none
@[simp] noncomputable def oo (as:Exs) (η:Env):Option Val:=(as η).bind rC
noncomputable def dput (l:List (T×T)) (k v:T):List (T×T):=if l.any (fun p=>eqT p.1 k) then l.map (fun p=>if eqT p.1 k then (p.1,v) else p) else l++[(k,v)]
noncomputable def eO:T->Bool
 | .int _=>true
 | .str _=>true
 | _=>false
noncomputable def keyOk:Nat->T->Bool
 | 0,t=>eO t
 | 1,.tup l=>l.all eO
 | _,_=>false
noncomputable def pairs:List (Ex×Ex)->Env->Option (List (Val×Val))
 | [],_=>some []
 | (a,b) :: r,η=>(a η).bind fun x=>(b η).bind fun y=>(pairs r η).map ((x,y) :: ·)
noncomputable def jg (kd:Nat) (ps:List (Ex×Ex)) (η:Env):Option Val:=(pairs ps η).bind fun l=>if l.all (fun p=>keyOk kd p.1.2)/\l.length<=15 then
 some (bJ (l.map (·.2)),.dct kd (l.foldl (fun d p=>dput d p.1.2 p.2.2) [])) else none
@[simp] noncomputable def tru:T->Option Bool
 | .bl b=>some b
 | .int i=>some (i != 0)
 | .str s=>some (!s.isEmpty)
 | .lst l=>some (!l.isEmpty)
 | .tup l=>some (!l.isEmpty)
 | .dct 0 l=>some (!l.isEmpty)
 | .non=>some false
 | _=>none
@[simp] noncomputable def i7 (a b:Ex) (η:Env):Option Val:=(a η).bind fun x=>match x.2 with
 | .bl true=>b η
 | .bl false=>some (.fr,.bl false)
 | _=>none
@[simp] noncomputable def eOr (a b:Ex) (η:Env):Option Val:=(a η).bind fun x=>match x.2 with
 | .bl true=>some (.fr,.bl true)
 | .bl false=>b η
 | _=>none
@[simp] noncomputable def kI (a:Ex) (η:Env):Option Val:=(a η).bind fun x=>match x.2 with
 | .bl b=>some (.fr,.bl (!b))
 | _=>none
@[simp] noncomputable def eIf (c a b:Ex) (η:Env):Option Val:=(c η).bind fun x=>(tru x.2).bind fun t=>if t then a η else b η
@[simp] noncomputable def isN:T->Bool
 | .non=>true
 | _=>false
@[simp] noncomputable def ud (a:Ex) (η:Env):Option Val:=(a η).bind fun x=>some (.fr,.bl (isN x.2))
@[simp] noncomputable def Es (a:Ex) (η:Env):Option Val:=(a η).bind fun x=>some (.fr,.bl (!isN x.2))
@[simp] noncomputable def Eb (f g:Val->Val->Option Val) (a b c:Ex) (η:Env):Option Val:=(a η).bind fun x=>(b η).bind fun y=>(f x y).bind fun r=>match r.2 with
 | .bl true=>(c η).bind fun z=>g y z
 | .bl false=>some (.fr,.bl false)
 | _=>none
@[simp] noncomputable def int?:T->Option Int
 | .int i=>some i
 | _=>none
noncomputable def bP:Val->Val->Option Val
 | (_,.int i),(_,.int j)=>some (.fr,.int (i+j))
 | (_,.str s),(_,.str t)=>if s.length+t.length<=eW then some (.fr,.str (s++t)) else none
 | (m,.lst s),(n,.lst t)=>mkL (m.join n) (s++t)
 | _,_=>none
@[simp] noncomputable def nB:Val->Val->Option Val
 | (_,.int i),(_,.int j)=>some (.fr,.int (i - j))
 | _,_=>none
noncomputable def B62:Int:=4611686018427387904
noncomputable def B64:Int:=18446744073709551616
noncomputable def eR:Val->Val->Option Val
 | (_,.int i),(_,.int j)=>if (-B64 < i/\i < B64)\/(-B64 < j/\j < B64) then some (.fr,.int (i * j)) else none
 | _,_=>none
noncomputable def dY:Val->Val->Option Val
 | (_,.int i),(_,.int j)=>if 0 < j/\j < 1073741824 then some (.fr,.int (i / j)) else none
 | _,_=>none
noncomputable def oMod:Val->Val->Option Val
 | (_,.int i),(_,.int j)=>if 0 < j then some (.fr,.int (i % j)) else none
 | _,_=>none
noncomputable def ltx:Tx->Tx->Bool
 | [],[]=>false
 | [],_ :: _=>true
 | _ :: _,[]=>false
 | a :: as,b :: bs=>if a < b then true else if b < a then false else ltx as bs
@[simp] noncomputable def oLt:Val->Val->Option Val
 | (_,.int i),(_,.int j)=>some (.fr,.bl (decide (i < j)))
 | (_,.str s),(_,.str t)=>some (.fr,.bl (ltx s t))
 | _,_=>none
@[simp] noncomputable def oLe:Val->Val->Option Val
 | (_,.int i),(_,.int j)=>some (.fr,.bl (decide (i<=j)))
 | (_,.str s),(_,.str t)=>some (.fr,.bl (!ltx t s))
 | _,_=>none
@[simp] noncomputable def oGt (a b:Val):Option Val:=oLt b a
@[simp] noncomputable def oGe (a b:Val):Option Val:=oLe b a
@[simp] noncomputable def oEq (a b:Val):Option Val:=if eqD 60 a.2/\eqD 60 b.2 then some (.fr,.bl (eqT a.2 b.2)) else none
@[simp] noncomputable def oNe (a b:Val):Option Val:=if eqD 60 a.2/\eqD 60 b.2 then some (.fr,.bl (!eqT a.2 b.2)) else none
noncomputable def bT (l:List (T×T)) (k:T):Option T:=(l.find? fun p=>eqT p.1 k).map (·.2)
noncomputable def ixP (n:Nat) (i:Int):Option Nat:=if 0<=i then (if i < n then some i.toNat else none) else (if 0<=i+n then some (i+n).toNat else none)
@[simp] noncomputable def sub (m:Md) (t:T):Val:=up m t
@[simp] noncomputable def aU:Val->Val->Option Val
 | (m,.lst l),(_,.int i)=>(ixP l.length i).bind fun k=>(l[k]?).map (sub m)
 | (m,.tup l),(_,.int i)=>(ixP l.length i).bind fun k=>(l[k]?).map (sub m)
 | (_,.scr l),(_,.int i)=>(ixP l.length i).bind fun k=>(l[k]?).map fun n=>(.fr,.int n)
 | (_,.str l),(_,.int i)=>(ixP l.length i).bind fun k=>(l[k]?).map fun n=>(.fr,.str [n])
 | _,_=>none
noncomputable def clip (n:Nat) (i:Int):Nat:=if i < 0 then (i+n).toNat else min i.toNat n
noncomputable def cut {α:Type} (l:List α) (a b:Option Int):List α :=
 let lo:=match a with | none=>0 | some i=>clip l.length i
 let hi:=match b with | none=>l.length | some i=>clip l.length i
 (l.drop lo).take (hi - lo)
@[simp] noncomputable def oSl (v:Val) (a b:Option Int):Option Val:=match v with
 | (_,.str s)=>some (.fr,.str (cut s a b))
 | (m,.lst l)=>mkL m (cut l a b)
 | _=>none
@[simp] noncomputable def ky (c:Option Ex) (η:Env):Option (Option Int):=match c with
 | none=>some none
 | some e=>(e η).bind fun y=>(int? y.2).map some
@[simp] noncomputable def eSl (a:Ex) (lo hi:Option Ex) (η:Env):Option Val:=(a η).bind fun x=>(ky lo η).bind fun l=>(ky hi η).bind fun h=>oSl x l h
@[simp] noncomputable def C4:T->Option Nat
 | .lst l=>some l.length
 | .tup l=>some l.length
 | .str l=>some l.length
 | .scr l=>some l.length
 | .dct 0 l=>some l.length
 | _=>none
@[simp] noncomputable def d6:List Val->Option Val
 | [x]=>(C4 x.2).map fun n=>(.fr,.int n)
 | _=>none
@[simp] noncomputable def lQ:List Val->Option Val
 | [(_,.int i),(_,.int j)]=>some (.fr,.int (if j < i then j else i))
 | _=>none
@[simp] noncomputable def ED:List Val->Option Val
 | [(_,.int i),(_,.int j)]=>some (.fr,.int (if j > i then j else i))
 | _=>none
noncomputable def strs?:List T->Option (List Tx)
 | []=>some []
 | .str i :: r=>(strs? r).map (i :: ·)
 | _=>none
@[simp] noncomputable def EE:T->Option (List T)
 | .lst l=>some l
 | .tup l=>some l
 | .scr l=>some (l.map T.int)
 | .str l=>some (l.map fun c=>T.str [c])
 | .dct _ l=>some (l.map (·.1))
 | _=>none
@[simp] noncomputable def zT:List Val->Option Val
 | [(m,.lst l)]=>mkL m l
 | [(m,.tup l)]=>mkL m l
 | _=>none
noncomputable def eZ:List Val->Option Val
 | [(m,.lst l)]=>if l.length<=eW then some (up m (.tup l)) else none
 | _=>none
noncomputable def jF (x:Tx):List Tx->List Tx
 | []=>[x]
 | y :: r=>if ltx y x then y :: jF x r else x :: y :: r
noncomputable def dP (l:List Tx):List Tx:=l.foldr jF []
noncomputable def dedup:List Tx->List Tx
 | []=>[]
 | x :: r=>x :: (dedup r).filter (· ≠ x)
inductive Ty where | int | str | bool | list | tuple | dict
@[simp] noncomputable def nR:Ty->T->Bool
 | .int,.int _=>true
 | .int,.bl _=>true
 | .bool,.bl _=>true
 | .str,.str _=>true
 | .list,.lst _=>true
 | .tuple,.tup _=>true
 | .dict,.dct _ _=>true
 | _,_=>false
@[simp] noncomputable def qC:T->Bool
 | .obj _ _=>false
 | .scr _=>false
 | .dct n _=>n != 2
 | _=>true
@[simp] noncomputable def eIs (t:Ty) (a:Ex) (η:Env):Option Val:=(a η).bind fun x=>if qC x.2 then some (.fr,.bl (nR t x.2)) else none
noncomputable def total:List Tx->Nat
 | []=>0
 | x :: r=>x.length+total r
noncomputable def cN (sep:Tx):List Tx->Tx
 | []=>[]
 | [x]=>x
 | x :: r=>x++sep++cN sep r
noncomputable def gr:Val->List Val->Option Val
 | (_,.str sep),[(_,.lst l)]=>(strs? l).bind fun ss=>if total ss+ss.length * sep.length<=eW then some (.fr,.str (cN sep ss)) else none
 | _,_=>none
@[simp] noncomputable def eM (f:Val->List Val->Option Val) (o:Ex) (as:Exs) (η:Env):Option Val:=(o η).bind fun x=>(as η).bind fun xs=>f x xs
noncomputable abbrev Fn:=List T->Option Val
@[simp] noncomputable def aT (g:Fn) (as:Exs) (η:Env):Option Val:=(as η).bind fun xs=>(g (trees xs)).bind fun r=>match r with
 | (.fr,t)=>some (.fr,t)
 | (_,t)=>some ((Md.pu).join (bJ xs),t)
noncomputable abbrev Its:=Env->Option (Md×List T)
@[simp] noncomputable def Eh:Val->Option (Md×List T)
 | (m,.lst l)=>some (m,l)
 | (m,.tup l)=>some (m,l)
 | (_,.str l)=>some (.fr,l.map fun c=>.str [c])
 | _=>none
@[simp] noncomputable def gz (a:Ex) (η:Env):Option (Md×List T):=(a η).bind Eh
noncomputable def rng (lo:Int) (n:Nat):List T:=(List.range n).map fun (k:Nat)=>T.int (lo+k)
noncomputable def bK (a:Ex) (η:Env):Option (Md×List T):=(a η).bind fun x=>(int? x.2).bind fun j=>if -B62<=j/\j < B62 then some (.fr,rng 0 j.toNat) else none
noncomputable def eD (k:Nat):List T->List T
 | []=>[]
 | t :: r=>.tup [.int k,t] :: eD (k+1) r
@[simp] noncomputable def zP:Val->Option (Md×List T)
 | (m,.lst l)=>some (m,eD 0 l)
 | _=>none
@[simp] noncomputable def kX (a:Ex) (η:Env):Option (Md×List T):=(a η).bind zP
noncomputable abbrev Tg:=T->Env->Option Env
@[simp] noncomputable def bh (i:Nat) (t:T) (η:Env):Option Env:=if i < η.length then some (η.set i (some (.pu t))) else none
@[simp] noncomputable def pH:List Tg->List T->Env->Option Env
 | [],[],η=>some η
 | g :: gs,t :: ts,η=>(g t η).bind fun η'=>pH gs ts η'
 | _,_,_=>none
@[simp] noncomputable def kH (gs:List Tg) (t:T) (η:Env):Option Env:=match t with
 | .tup l=>pH gs l η
 | _=>none
@[simp] noncomputable def okI (m:Md) (l:List T):Bool:=match m with
 | .bo=>d5 l
 | _=>true
noncomputable def jJ (tg:Tg) (cond:Option Ex) (elt:Ex) (η:Env):List T->Option (List Val)
 | []=>some []
 | t :: r=>(tg t η).bind fun η'=>(match cond with | none=>some true | some c=>(c η').bind fun x=>tru x.2).bind fun b =>
  if b then (elt η').bind fun v=>(jJ tg cond elt η r).map (v :: ·) else jJ tg cond elt η r
noncomputable def hZ (k:Nat) (tg:Tg) (it:Its) (cond:Option Ex) (elt:Ex) (η:Env):Option Val:=(it η).bind fun (m,l)=>if okI m l then
 (jJ tg cond elt (List.replicate k none++η) l).bind fun vs=>mkL (bJ vs) (trees vs) else none
@[simp] noncomputable def gu (η:Env):Option Out:=some (.nx η)
@[simp] noncomputable def ar (a b:Sx) (η:Env):Option Out:=(a η).bind fun o=>match o with
 | .nx η'=>b η'
 | o=>some o
@[simp] noncomputable def jm (i:Nat) (e:Ex) (η:Env):Option Out:=(e η).bind fun v=>(cellOf v).bind fun c=>if i < η.length then some (.nx (η.set i (some c))) else none
@[simp] noncomputable def aM (i:Nat) (e:Ex) (η:Env):Option Out:=(e η).bind fun v=>match v.1 with
 | .bo=>none
 | _=>if i < η.length then some (.nx (η.set i (some (.pu v.2)))) else none
@[simp] noncomputable def d9 (e:Ex) (η:Env):Option Out:=(e η).bind fun v=>some (.rt (match v.1 with | .bo=>.pu | m=>m,v.2) η)
@[simp] noncomputable def gM (i:Nat) (η:Env):Option Out:=match η[i]? with
 | some (some (.ow t))=>some (.rt (.fr,t) (η.set i none))
 | some (some (.pu t))=>some (.rt (up .pu t) η)
 | _=>none
@[simp] noncomputable def Ez (η:Env):Option Out:=some (.rt (.fr,.non) η)
@[simp] noncomputable def EG (η:Env):Option Out:=some (.bk η)
@[simp] noncomputable def Ey (η:Env):Option Out:=some (.ct η)
@[simp] noncomputable def sIf (c:Ex) (a b:Sx) (η:Env):Option Out:=(c η).bind fun x=>(tru x.2).bind fun t=>if t then a η else b η
noncomputable def forL (tg:Tg) (body:Sx):List T->Env->Option Out
 | [],η=>some (.nx η)
 | t :: r,η=>(tg t η).bind fun η1=>(body η1).bind fun o=>match o with
  | .nx η2=>forL tg body r η2
  | .ct η2=>forL tg body r η2
  | .bk η2=>some (.nx η2)
  | .rt v η2=>some (.rt v η2)
@[simp] noncomputable def okF:Md->Bool
 | .bo=>false
 | _=>true
@[simp] noncomputable def du (tg:Tg) (it:Its) (body:Sx) (η:Env):Option Out:=(it η).bind fun (m,l)=>if okF m then forL tg body l η else none
@[simp] noncomputable def tL (i:Nat) (η:Env):Option Out:=match η[i]? with
 | some (some (.ow t))=>some (.nx (η.set i (some (.pu t))))
 | some (some (.pu _))=>some (.nx η)
 | _=>none
inductive Stp where | fld (k:Nat) | ix (e:Ex)
inductive Ky where | fld (k:Nat) | at (t:T)
@[simp] noncomputable def keys:List Stp->Env->Option (List Ky)
 | [],_=>some []
 | .fld k :: r,η=>(keys r η).map (.fld k :: ·)
 | .ix e :: r,η=>(e η).bind fun x=>(keys r η).map (.at x.2 :: ·)
noncomputable def DW (fs:List (Nat×T)) (k:Nat):Option T:=fs.lookup k
noncomputable def D1 (fs:List (Nat×T)) (k:Nat) (v:T):List (Nat×T):=if fs.any (fun p=>p.1 == k) then fs.map (fun p=>if p.1 == k then (p.1,v) else p) else fs++[(k,v)]
@[simp] noncomputable def yj {α:Type} (f:T->Option (T×α)):List Ky->T->Option (T×α)
 | [],t=>f t
 | .fld k :: r,.obj c fs=>(DW fs k).bind fun x=>(yj f r x).map fun (y,a)=>(.obj c (D1 fs k y),a)
 | .at (.int i) :: r,.lst l=>(ixP l.length i).bind fun j=>(l[j]?).bind fun x=>(yj f r x).map fun (y,a)=>(.lst (l.set j y),a)
 | .at k :: r,.dct d l=>(bT l k).bind fun x=>(yj f r x).map fun (y,a)=>(.dct d (dput l k y),a)
 | _,_=>none
noncomputable abbrev Xx:=Env->Option (Val×Env)
@[simp] noncomputable def xP (e:Ex) (η:Env):Option (Val×Env):=(e η).map fun v=>(v,η)
@[simp] noncomputable def jI (i:Nat) (way:List Stp) (f:T->List Val->Option (T×Val)) (as:Exs) (η:Env):Option (Val×Env):=match η[i]? with
 | some (some (.ow t))=>(keys way η).bind fun ks=>(as η).bind fun xs=>(yj (fun x=>f x xs) ks t).map fun (t',v)=>(v,η.set i (some (.ow t')))
 | _=>none
@[simp] noncomputable def fit (v:Val):Option T:=match v.1 with
 | .fr=>some v.2
 | _=>none
noncomputable def aW:T->List Val->Option (T×Val)
 | .lst l,[v]=>(fit v).bind fun t=>if l.length < eW then some (.lst (l++[t]),(.fr,.non)) else none
 | _,_=>none
@[simp] noncomputable def sX (x:Xx) (η:Env):Option Out:=(x η).map fun r=>.nx r.2
@[simp] noncomputable def Eu (i:Nat) (x:Xx) (η:Env):Option Out:=(x η).bind fun (v,η')=>(cellOf v).bind fun c=>if i < η'.length then some (.nx (η'.set i (some c))) else none
@[simp] noncomputable def Ew (x:Xx) (η:Env):Option Out:=(x η).bind fun (v,η')=>some (.rt (match v.1 with | .bo=>.pu | m=>m,v.2) η')
@[simp] noncomputable def fn (np nn:Nat) (body:Sx):Fn:=fun ts=>if ts.length=np then
 (body (ts.map (fun t=>some (.pu t))++List.replicate (nn - np) none)).bind fun o=>match o with
  | .rt v _=>some v
  | .nx _=>some (.fr,.non)
  | _=>none else none
@[simp] theorem C7 {m n:Md} {i j:Int}:bP (m,.int i) (n,.int j)=some (.fr,.int (i+j)):=rfl
theorem iH {m n:Md} {s t:Tx} (h:s.length+t.length<=16777216):bP (m,.str s) (n,.str t)=some (.fr,.str (s++t)):=if_pos h
theorem d7 {m n:Md} {i j:Int} (h:-18446744073709551616 < i/\i < 18446744073709551616):eR (m,.int i) (n,.int j)=some (.fr,.int (i * j)):=if_pos (.inl h)
theorem eT {m n:Md} {i j:Int} (h:0 < j/\j < 1073741824):dY (m,.int i) (n,.int j)=some (.fr,.int (i / j)):=if_pos h
theorem aQ {m n:Md} {i j:Int} (h:0 < j):oMod (m,.int i) (n,.int j)=some (.fr,.int (i % j)):=if_pos h
theorem eg {l:List T} {t:T} (h:l.length < 16777216):aW (.lst l) [(.fr,t)]=some (.lst (l++[t]),(.fr,.non)):=by
 simp only [aW,fit,Option.bind_some]
 exact if_pos h
theorem km {a:Ex} {η:Env} {m:Md} {j:Int} (e:a η=some (m,.int j)) (h:-4611686018427387904<=j/\j < 4611686018427387904):bK a η=some (.fr,rng 0 j.toNat):=by
 simp only [bK,e,Option.bind_some,int?]
 exact if_pos h
theorem fX {m:Md} {l:List T} (h:l.length<=16777216):mkL m l=some (if d5 l then .fr else m,.lst l):=if_pos h
theorem bL {tg:Tg} {body:Sx} {t:T} {r:List T} {η η1 η2:Env} (h1:tg t η=some η1) (h2:body η1=some (.nx η2)):forL tg body (t :: r) η=forL tg body r η2:=by
 simp [forL,h1,h2]
theorem xh {tg:Tg} {body:Sx} {t:T} {r:List T} {η η1 η2:Env} {v:Val} (h1:tg t η=some η1) (h2:body η1=some (.rt v η2)):forL tg body (t :: r) η=some (.rt v η2):=by
 simp [forL,h1,h2]
theorem strs_map {α:Type} (f:α->Tx):∀ l:List α,strs? (l.map fun x=>T.str (f x))=some (l.map f)
 | []=>rfl
 | a :: r=>by simp [strs?,strs_map f r]
theorem j7:∀ ss:List Tx,cN [] ss=ss.flatten
 | []=>rfl
 | [x]=>by simp [cN]
 | x :: y :: r=>by
  have:=j7 (y :: r)
  simp [cN] at this ⊢
  exact this
theorem jY:∀ ss:List Tx,total ss=ss.flatten.length
 | []=>rfl
 | x :: r=>by simp [total,jY r]
theorem tH {m n:Md} {l:List T} {ss:List Tx} (e:strs? l=some ss) (h1:ss.flatten.length<=16777216):gr (m,.str []) [(n,.lst l)]=some (.fr,.str ss.flatten):=by
 simp only [gr,Option.bind_some,e,j7]
 refine if_pos ?_
 rw [jY]
 show _<=16777216
 simpa using h1
theorem oj (n:Nat):rng 0 n=(List.range n).map fun (k:Nat)=>T.int (k:Int):=by
 unfold rng
 simp
theorem fN {α:Type} (f:α->T) (h:∀ x,imm (f x)=true):∀ l:List α,d5 (l.map f)=true
 | []=>rfl
 | a :: r=>by simp [h,fN f h r]
theorem lP {α:Type} {tg:Tg} {elt:Ex} {η:Env} (g:α->T) (f:α->Val):∀ l:List α,(∀ a∈l,∃ η',tg (g a) η=some η'/\elt η'=some (f a))->jJ tg none elt η (l.map g)=some (l.map f)
 | [],_=>rfl
 | a :: r,h=>by
  obtain ⟨η',h1,h2⟩:=h a Zv
  simp [jJ,h1,h2,lP g f r fun b hb=>h b (Zw _ hb)]
theorem nH {α:Type} (f:α->T):∀ l:List α,bJ (l.map fun a=>(Md.fr,f a))=.fr
 | []=>rfl
 | a :: r=>by simp [nH f r]
theorem tV {α:Type} (f:α->Val) (l:List α):trees (l.map f)=l.map fun a=>(f a).2:=by simp
theorem lJ {α:Type} {k:Nat} {tg:Tg} {it:Its} {elt:Ex} {η:Env} {m:Md} (g:α->T) (f:α->T) (l:List α) (hi:it η=some (m,l.map g)) (hk:okI m (l.map g)=true) (hl:l.length<=16777216)
  (h:∀ a∈l,∃ η',tg (g a) (List.replicate k none++η)=some η'/\elt η'=some (.fr,f a)):hZ k tg it none elt η=some (.fr,.lst (l.map f)):=by
 simp only [hZ,hi,Option.bind_some]
 rw [if_pos hk,lP g (fun a=>(Md.fr,f a)) l h]
 simp only [Option.bind_some,nH,tV]
 rw [fX (by rw [Zk];exact hl)]
 simp
theorem ka {α:Type} {m n:Md} (f:α->T) (l:List α) (i:Int) (d:α) (h0:0<=i) (h1:i < l.length) (hi:imm (f (l.getD i.toNat d))=true):aU (m,.lst (l.map f)) (n,.int i)=some (.fr,f (l.getD i.toNat d)):=by
 have b2:i.toNat < l.length:=by omega
 simp only [List.getD_eq_getElem?_getD,Zd b2,Option.getD_some] at hi ⊢
 simp [ixP,h0,h1,b2,hi]
theorem kC {l:List Val} (h:l.length<=16777216):rC l=some (up (bJ l) (.tup (trees l))):=if_pos h
end VS
end
section
namespace L2
open PySem PySem.Spec PyProof.Rows
noncomputable abbrev Key:=Sum Int Str
noncomputable def jc:Key->Value->Bool
 | .inl k,v=>Value.isInt k v
 | .inr x,v=>Value.isStrOf x v
noncomputable def Eg (w:World):Key->Int
 | .inl k=>hashInt k
 | .inr x=>hashStr w x
theorem bt:∀ {k:Key} {v:Value},jc k v=true->(∃ i t,k=Sum.inl i/\v=Value.int i t)\/(∃ x t,k=Sum.inr x/\v=Value.str x t)
 | .inl i,v,h=>by
  obtain ⟨t,e⟩:=Value.isInt_shape (k:=i) (v:=v) h
  exact .inl ⟨i,t,rfl,e⟩
 | .inr x,v,h=>by
  obtain ⟨t,e⟩:=Value.isStrOf_shape (x:=x) (v:=v) h
  exact .inr ⟨x,t,rfl,e⟩
theorem sC (i:Int) (t:Tok):jc (.inl i) (.int i t)=true:=by simp [jc,Value.isInt]
theorem r9 (x:Str) (t:Tok):jc (.inr x) (.str x t)=true:=by simp [jc,Value.isStrOf]
theorem AW (a b:Int):decide ((Sum.inl a:Key)=Sum.inl b)=(a == b):=by
 by_cases e:a=b
 ·subst e;simp
 ·have h:¬ (Sum.inl a:Key)=Sum.inl b:=fun q=>e (Sum.inl.inj q)
  rw [decide_eq_false h]
  exact (beq_eq_false_iff_ne.mpr e).symm
theorem Aj (a b:Str):decide ((Sum.inr a:Key)=Sum.inr b)=decide (a=b):=by
 by_cases e:a=b
 ·subst e;simp
 ·have h:¬ (Sum.inr a:Key)=Sum.inr b:=fun q=>e (Sum.inr.inj q)
  rw [decide_eq_false h,decide_eq_false e]
theorem Ak (a:Int) (b:Str):decide ((Sum.inl a:Key)=Sum.inr b)=false:=decide_eq_false (fun q=>nomatch q)
theorem AD (a:Str) (b:Int):decide ((Sum.inr a:Key)=Sum.inl b)=false:=decide_eq_false (fun q=>nomatch q)
noncomputable def aN (prog:Program) (w:World):PySem.KeyKind prog w Key where
 is:=jc
 hash:=Eg w
 inj:=fun v a b ha hb=>by
  rcases bt ha with ⟨i,t,rfl,rfl⟩ | ⟨x,t,rfl,rfl⟩
  ·rcases bt hb with ⟨j,u,rfl,e⟩ | ⟨y,u,rfl,e⟩
   ·injection e with e1 _;rw [e1]
   ·exact nomatch e
  ·rcases bt hb with ⟨j,u,rfl,e⟩ | ⟨y,u,rfl,e⟩
   ·exact nomatch e
   ·injection e with e1 _;rw [e1]
 byValue:=fun k v h=>by
  rcases bt h with ⟨i,t,rfl,rfl⟩ | ⟨x,t,rfl,rfl⟩ <;> rfl
 pyHash:=fun hv h=>by
  rcases bt hv with ⟨i,t,rfl,rfl⟩ | ⟨x,t,rfl,rfl⟩
  ·exact wpAny_pyHash_int h
  ·exact wpAny_pyHash_str h
 eqBool:=fun hu hv h=>by
  rcases bt hu with ⟨i,t,rfl,rfl⟩ | ⟨x,t,rfl,rfl⟩
  ·rcases bt hv with ⟨j,u,rfl,rfl⟩ | ⟨y,u,rfl,rfl⟩
   ·rw [AW] at h;exact wpAny_eqBool_int h
   ·rw [Ak] at h;exact SeqAt.EqAt.int_str i t y u _ _ _ _ h
  ·rcases bt hv with ⟨j,u,rfl,rfl⟩ | ⟨y,u,rfl,rfl⟩
   ·rw [AD] at h;exact SeqAt.EqAt.str_int x t j u _ _ _ _ h
   ·rw [Aj] at h;exact wpAny_eqBool_str h
 «strs» := fun k x t v h=>by
  rcases bt h with ⟨i,u,rfl,e⟩ | ⟨y,u,rfl,e⟩
  ·exact nomatch e
  ·injection e with e1 _
   subst e1
   cases v <;> rfl
theorem o7 (prog:Program) (w:World) (i:Int) (t:Tok):(aN prog w).is (.inl i) (.int i t)=true:=sC i t
theorem oK (prog:Program) (w:World) (x:Str) (t:Tok):(aN prog w).is (.inr x) (.str x t)=true:=r9 x t
inductive V where
 | non | bl (b:Bool) | int (i:Int) | str (x:Str) | byt (b:Array UInt8) | flt (b:UInt64) | ref (a:Addr) | ty (n:String)
 deriving DecidableEq
noncomputable def RelV:V->Value->Prop
 | .non,u=>u=Value.none
 | .bl b,u=>u=Value.bool b
 | .int i,u=>∃ t,u=Value.int i t
 | .str x,u=>∃ t,u=Value.str x t
 | .byt b,u=>∃ t,u=Value.bytes b t
 | .flt b,u=>∃ t,u=Value.float b t
 | .ref a,u=>u=Value.ref a
 | .ty n,u=>u=Value.type n
noncomputable abbrev aK:List V->List Value->Prop:=Paired RelV
theorem aK.length {xs:List V} {us:List Value} (r:aK xs us):xs.length=us.length:=Paired.length r
theorem aK.get:∀ {xs:List V} {us:List Value} {i:Nat} {x:V},aK xs us->xs[i]?=some x->∃ u,us[i]?=some u/\RelV x u
 | _,_,_,_,.nil,e=>by simp at e
 | _,_,0,_,.cons r _,e=>by simp at e;subst e;exact ⟨_,rfl,r⟩
 | _,_,i+1,x,.cons _ t,e=>by
  obtain ⟨u,h1,h2⟩:=aK.get (i:=i) (x:=x) t (by simpa using e)
  exact ⟨u,by simpa using h1,h2⟩
theorem aK.set {x:V} {u:Value} (r:RelV x u):∀ {xs:List V} {us:List Value} (i:Nat),aK xs us->aK (xs.set i x) (us.set i u)
 | _,_,_,.nil=>.nil
 | _,_,0,.cons _ t=>.cons r t
 | _,_,i+1,.cons q t=>.cons q (aK.set r i t)
theorem aK.append:∀ {xs ys:List V} {us ws:List Value},aK xs us->aK ys ws->aK (xs++ys) (us++ws)
 | _,_,_,_,.nil,s=>s
 | _,_,_,_,.cons r t,s=>.cons r (aK.append t s)
theorem aK.take:∀ {xs:List V} {us:List Value} (n:Nat),aK xs us->aK (xs.take n) (us.take n)
 | _,_,0,_=>.nil
 | _,_,_+1,.nil=>.nil
 | _,_,n+1,.cons r t=>.cons r (aK.take n t)
theorem aK.drop:∀ {xs:List V} {us:List Value} (n:Nat),aK xs us->aK (xs.drop n) (us.drop n)
 | _,_,0,r=>r
 | _,_,_+1,.nil=>.nil
 | _,_,n+1,.cons _ t=>aK.drop n t
noncomputable def iM:Option V->Option Value->Prop
 | some v,some u=>RelV v u
 | none,none=>True
 | _,_=>False
noncomputable def KV {κ:Type}:List (κ×V)->List (κ×Value)->Prop:=Paired fun (p:κ×V) (q:κ×Value)=>p.1=q.1/\RelV p.2 q.2
noncomputable def kV:Key->V
 | .inl i=>.int i
 | .inr x=>.str x
inductive HO where
 | lst (xs:List V)
 | tup (xs:List V)
 | dK (kvs:List (Key×V)) | dT (kvs:List (List Key×V))
 | set (S:Int->Bool) (n:Nat)
 | ins (C dx:Addr) (fs:List (Str×V))
 | own (x:Addr)
 | xd (fs:List (Str×V))
 | met (f x:Addr)
 | rng (lo hi:Int)
 | frz (o:Obj) (u:HO)
 | tbl (ps:Array Value)
 | ext (φ:Heap->Prop)
noncomputable abbrev Hp:=Addr->Option HO
noncomputable def upd (H:Hp) (a:Addr) (o:HO):Hp:=fun b=>if b=a then some o else H b
theorem aF {H:Hp} {a:Addr} {o:HO}:upd H a o a=some o:=by unfold upd;rw [if_pos rfl]
theorem aw {H:Hp} {a b:Addr} {o:HO} (h:b ≠ a):upd H a o b=H b:=by unfold upd;rw [if_neg h]
theorem xg {H:Hp} {a:Addr} {o u:HO}:upd (upd H a o) a u=upd H a u:=by
 funext b;unfold upd;split <;> rfl
theorem CA {H:Hp} {a b:Addr} {o u:HO} (h:H a=some o) (h':H b=some u) (d:o ≠ u):a ≠ b:=by
 intro e;subst e;rw [h] at h';exact d (Option.some.inj h')
theorem bz {H:Hp} {a b:Addr} {o:HO} (h:H a=some o) (h':H b=none):a ≠ b:=by
 intro e;subst e;rw [h] at h';cases h'
noncomputable def NoD (h:Heap) (a:Addr):Prop:=∀ o,h.get? a=some o->o.dict=none
theorem NoD.new (h:Heap) (its:Array Value):NoD (h.push { cls:=.type "tuple",data:=.seq its }) h.objs.size:=fun o e=>by
 rw [Zo _ rfl] at e
 cases e
 rfl
theorem NoD.of {h:Heap} {a:Addr} {o:Obj} (e:h.get? a=some o) (d:o.dict=none):NoD h a:=fun o' e'=>by
 rw [e] at e'
 cases e'
 exact d
section
variable (P:Program) (w:World)
noncomputable def aS (H:Hp) (h:Heap) (a:Addr):HO->Prop
 | .lst xs=>xs.length<=sizeLine/\∃ (its:List Value) (n:Nat),aK xs its/\h.get? a=some { cls:=.type "list",data:=.seq its.toArray n }
 | .tup xs=>xs.length<=sizeLine/\∃ its:List Value,aK xs its/\NoD h a/\IsTup h a its.toArray
 | .dK kvs=>kvs.length<=sizeLine/\(a == sysModules)=false/\∃ vs,KV kvs vs/\h.DictOf (aN P w) a vs
 | .dT kvs=>kvs.length<=sizeLine/\(a == sysModules)=false/\∃ xs:List (List Key×Addr×Value),
   Paired (fun (p:List Key×V) (q:List Key×Addr×Value)=>p.1=q.1/\H q.2.1=some (.tup (p.1.map kV))/\RelV p.2 q.2.2) kvs xs ∧
   ∃ o es ep,h.get? a=some o/\o.ExactDict/\o.data=.dict es ep/\es.toList=xs.map (entryOfKey (tupleKind (aN P w)))/\(xs.map (·.1)).Nodup
 | .set S n=>h.SetOf (intKind P w) a S n
 | .ins C dx fs=>H dx=some (.own a)/\fs.length<=1000/\dx ≠ a/\h.get? a=some (PySem.W.instObj C dx) ∧
   ∃ mA,h.Ns1 dx mA/\(∀ f,iM (fs.lookup f) (mA f))/\PySem.Within mA (fs.map (·.1))
 | .own _=>∃ o,h.get? a=some o
 | .xd fs=>∃ mA,h.Ns1 a mA/\∀ f,iM (fs.lookup f) (mA f)
 | .rng lo hi=>∃ t u v,h.get? a=some { cls:=.type "range",data:=.fields #[.int lo t,.int hi u,.int 1 v] }
 | .frz o u=>h.get? a=some o/\aS H h a u
 | .tbl ps=>h.get? a=some { cls:=.none,data:=.fields ps }
 | .met f x=>h.get? a=some (PySem.W.methodObj (.ref f) (.ref x))
 | .ext φ=>φ h/\(∃ o,h.get? a=some o)/\∀ h1 h2:Heap,φ h1->(∀ o,h1.get? a=some o->h2.get? a=some o)->φ h2
noncomputable def HOk (H:Hp) (h:Heap):Prop:=∀ a o,H a=some o->aS P w H h a o
end
section
variable {P:Program} {w:World} {H H':Hp} {h h':Heap} {a:Addr} {o:HO}
theorem aS.lt (x:aS P w H h a o):a < h.objs.size:=by
 cases o with
 | lst xs=>obtain ⟨_,_,_,_,e⟩:=x;exact Zm e
 | tup xs=>obtain ⟨_,_,_,_,p⟩:=x;exact p.lt
 | dK kvs=>obtain ⟨_,_,_,_,o,_,_,e,_⟩:=x;exact Zm e
 | dT kvs=>obtain ⟨_,_,_,_,o,_,_,e,_⟩:=x;exact Zm e
 | set S n=>obtain ⟨o,_,_,_,e,_⟩:=x;exact Zm e
 | ins C dx fs=>obtain ⟨_,_,_,e,_⟩:=x;exact Zm e
 | own y=>obtain ⟨_,e⟩:=x;exact Zm e
 | xd fs=>obtain ⟨_,⟨_,_,_,e,_⟩,_⟩:=x;exact Zm e
 | rng lo hi=>obtain ⟨_,_,_,e⟩:=x;exact Zm e
 | frz ob u=>obtain ⟨e,_⟩:=x;exact Zm e
 | tbl ps=>exact Zm (show h.get? a=some _ from x)
 | met f y=>exact Zm (show h.get? a=some _ from x)
 | ext φ=>obtain ⟨_,⟨_,e⟩,_⟩:=x;exact Zm e
theorem Paired.mapP {α β:Type} {F G:α->β->Prop}:∀ {l₁:List α} {l₂:List β},Paired F l₁ l₂->(∀ a b,F a b->G a b)->Paired G l₁ l₂
 | _,_,.nil,_=>.nil
 | _,_,.cons r t,f=>.cons (f _ _ r) (Paired.mapP t f)
theorem aS.stay (x:aS P w H h a o) (k:∀ b u,(b=a\/H b=some (.own a))->h.get? b=some u->h'.get? b=some u)
  (ho:∀ b,H b=some (.own a)->H' b=some (.own a)) (ht:∀ b xs,H b=some (.tup xs)->H' b=some (.tup xs)):aS P w H' h' a o:=by
 induction o with
 | lst xs=>obtain ⟨z,its,n,r,e⟩:=x;exact ⟨z,its,n,r,k _ _ (.inl rfl) e⟩
 | tup xs=>obtain ⟨z,its,r,nd,ob,e,c⟩:=x;exact ⟨z,its,r,NoD.of (k _ _ (.inl rfl) e) (nd _ e),ob,k _ _ (.inl rfl) e,c⟩
 | dK kvs=>obtain ⟨z,y,vs,r,ob,es,ep,e,c⟩:=x;exact ⟨z,y,vs,r,ob,es,ep,k _ _ (.inl rfl) e,c⟩
 | dT kvs =>
  obtain ⟨z,y,xs,r,ob,es,ep,e,c⟩:=x
  exact ⟨z,y,xs,Paired.mapP r fun p q z=>⟨z.1,ht _ _ z.2.1,z.2.2⟩,ob,es,ep,k _ _ (.inl rfl) e,c⟩
 | set S n=>obtain ⟨ob,es,ep,t,e,c⟩:=x;exact ⟨ob,es,ep,t,k _ _ (.inl rfl) e,c⟩
 | ins C dx fs =>
  obtain ⟨d,z,ne,e,mA,⟨od,es,ep,e2,c⟩,r⟩:=x
  exact ⟨ho _ d,z,ne,k _ _ (.inl rfl) e,mA,⟨od,es,ep,k _ _ (.inr d) e2,c⟩,r⟩
 | own y=>obtain ⟨ob,e⟩:=x;exact ⟨ob,k _ _ (.inl rfl) e⟩
 | xd fs=>obtain ⟨mA,⟨od,es,ep,e,c⟩,r⟩:=x;exact ⟨mA,⟨od,es,ep,k _ _ (.inl rfl) e,c⟩,r⟩
 | rng lo hi=>obtain ⟨t,u,v,e⟩:=x;exact ⟨t,u,v,k _ _ (.inl rfl) e⟩
 | frz ob u ih=>obtain ⟨e,q⟩:=x;exact ⟨k _ _ (.inl rfl) e,ih q⟩
 | tbl ps =>
  have e:h.get? a=some { cls:=.none,data:=.fields ps }:=x
  show h'.get? a=some { cls:=.none,data:=.fields ps }
  exact k a _ (.inl rfl) e
 | met f y =>
  have e:h.get? a=some (PySem.W.methodObj (.ref f) (.ref y)):=x
  show h'.get? a=some (PySem.W.methodObj (.ref f) (.ref y))
  exact k a _ (.inl rfl) e
 | ext φ=>obtain ⟨p,⟨o,e⟩,st⟩:=x;exact ⟨st _ _ p fun o q=>k _ _ (.inl rfl) q,⟨o,k _ _ (.inl rfl) e⟩,st⟩
theorem HOk.lt (x:HOk P w H h) (e:H a=some o):a < h.objs.size:=(x a o e).lt
theorem HOk.fresh (x:HOk P w H h) (e:h.objs.size<=a):H a=none:=by
 cases q:H a with
 | none=>rfl
 | some u=>exact absurd (Nat.lt_of_lt_of_le (x.lt q) e) (Nat.lt_irrefl _)
theorem HOk.kept (x:HOk P w H h) (k:∀ b u,h.get? b=some u->h'.get? b=some u):HOk P w H h':=fun a o e =>
 (x a o e).stay (fun b u _ q=>k b u q) (fun _ q=>q) fun _ _ q=>q
theorem HOk.laid (x:HOk P w H h) (k:∀ b u,h.get? b=some u->h'.get? b=some u) (hp:h.objs.size<=a) (new:aS P w (upd H a o) h' a o):HOk P w (upd H a o) h':=fun b u e=>by
 have hn:=x.fresh hp
 by_cases hb:b=a
 ·subst hb;rw [aF] at e;cases e;exact new
 ·rw [aw hb] at e
  exact (x b u e).stay (fun c v _ q=>k c v q) (fun c q=>by rw [aw (bz q hn)];exact q) fun c xs q=>by rw [aw (bz q hn)];exact q
end
noncomputable def Rd (H:Hp) (a:Addr) (u:HO):Prop:=H a=some u\/∃ o,H a=some (.frz o u)
theorem Rd.ok {P:Program} {w:World} {H:Hp} {h:Heap} {a:Addr} {u:HO} (r:Rd H a u) (x:HOk P w H h):aS P w H h a u:=by
 rcases r with r | ⟨o,r⟩
 ·exact x a u r
 ·obtain ⟨_,q⟩:=x a _ r
  exact q
noncomputable def Mut:Option HO->Prop
 | some (.lst _)=>True
 | some (.dK _)=>True
 | some (.dT _)=>True
 | some (.set _ _)=>True
 | some (.ins _ _ _)=>True
 | some (.ext _)=>True
 | _=>False
section
variable {P:Program} {w:World} {H:Hp} {h h':Heap} {x e:Addr} {o':HO}
theorem HOk.write (ok:HOk P w H h) (mu:Mut (H x)) (he:e=x\/H e=some (.own x)) (k:∀ b u,b ≠ e->h.get? b=some u->h'.get? b=some u) (heo:∃ u,h'.get? e=some u)
  (new:aS P w (upd H x o') h' x o'):HOk P w (upd H x o') h':=fun b u q=>by
 have nown:∀ c y,H c=some (.own y)->c ≠ x:=fun c y r z=>by subst z;rw [r] at mu;exact mu
 have ntup:∀ c xs,H c=some (.tup xs)->c ≠ x:=fun c xs r z=>by subst z;rw [r] at mu;exact mu
 by_cases hb:b=x
 ·subst hb;rw [aF] at q;cases q;exact new
 ·rw [aw hb] at q
  by_cases hbe:b=e
  ·have q':H b=some (.own x):=by
    rcases he with z | z
    ·exact absurd (hbe.trans z) hb
    ·rw [hbe];exact z
   rw [q] at q';cases q'
   obtain ⟨v,hv⟩:=heo
   exact ⟨v,by rw [hbe];exact hv⟩
  ·refine (ok b u q).stay (fun c v hc r=>k c v ?_ r) (fun c r=>by rw [aw (nown c b r)];exact r) fun c xs r=>by rw [aw (ntup c xs r)];exact r
   rcases hc with rfl | hc
   ·exact hbe
   ·rintro rfl
    rcases he with z | z
    ·exact nown c b hc z
    ·rw [hc] at z;cases z;exact hb rfl
end
structure Un (fs ex:List Addr) (H H':Hp) (h h':Heap):Prop where
 keep:∀ b o,h.get? b=some o->H b=none->b ∉ fs->b ∉ ex->h'.get? b=some o
 slot:∀ b o,h.get? b=some o->H b=none->b∈fs->b ∉ ex->∃ sl,h'.get? b=some { o with slots:=sl }
 free:∀ b o,h.get? b=some o->H b=none->b ∉ ex->H' b=none
 there:∀ b o,h.get? b=some o->b ∉ ex->∃ o',h'.get? b=some o'
 tups:∀ b xs,H b=some (.tup xs)->H' b=some (.tup xs)
 frzs:∀ b o u,H b=some (.frz o u)->H' b=some (.frz o u)
 tbls:∀ b ps,H b=some (.tbl ps)->∃ more,H' b=some (.tbl (ps++more))
section
variable {fs fs' ex ex':List Addr} {H H1 H2:Hp} {h h1 h2 h':Heap} {a x e:Addr} {o:HO}
theorem Un.any (u:Un fs ex H H1 h h1) {b:Addr} {ob:Obj} (q:h.get? b=some ob) (n:H b=none) (hx:b ∉ ex):∃ sl,h1.get? b=some { ob with slots:=sl }:=by
 by_cases hb:b∈fs
 ·exact u.slot b ob q n hb hx
 ·exact ⟨ob.slots,u.keep b ob q n hb hx⟩
theorem Un.kept (k:∀ b u,h.get? b=some u->h'.get? b=some u):Un fs ex H H h h' :=
 ⟨fun b ob q _ _ _=>k b ob q,fun b ob q _ _ _=>⟨ob.slots,k b ob q⟩,fun _ _ _ n _=>n,fun b ob q _=>⟨ob,k b ob q⟩,fun _ _ q=>q,fun _ _ _ q=>q,fun _ ps q=>⟨#[],by rw [q];simp⟩⟩
theorem Un.refl:Un fs ex H H h h:=Un.kept fun _ _ q=>q
theorem Un.laid (k:∀ b u,h.get? b=some u->h'.get? b=some u) (hp:h.objs.size<=a) (hn:H a=none):Un fs ex H (upd H a o) h h' where
 keep:=fun b u q _ _ _=>k b u q
 slot:=fun b u q _ _ _=>⟨u.slots,k b u q⟩
 free:=fun b u q n _=>by rw [aw (Zn (Nat.lt_of_lt_of_le (Zm q) hp))];exact n
 there:=fun b u q _=>⟨u,k b u q⟩
 tups:=fun b xs q=>by rw [aw (bz q hn)];exact q
 frzs:=fun b u xs q=>by rw [aw (bz q hn)];exact q
 tbls:=fun b ps q=>⟨#[],by rw [aw (bz q hn),q];simp⟩
theorem Un.write (mu:Mut (H x)) (he:e=x\/H e=some (.own x)) (k:∀ b u,b ≠ e->h.get? b=some u->h'.get? b=some u) (heo:∃ u,h'.get? e=some u):Un fs ex H (upd H x o) h h':=by
 have hx:∀ b,H b=none->b ≠ x:=fun b n z=>by subst z;rw [n] at mu;exact mu
 have hb:∀ b,H b=none->b ≠ e:=fun b n z=>by
  subst z
  rcases he with r | r
  ·exact hx b n r
  ·rw [n] at r;cases r
 have hm:∀ b u,H b=some u->¬ Mut (some u)->b ≠ x:=fun b u q nm z=>by subst z;rw [q] at mu;exact nm mu
 refine ⟨fun b u q n _ _=>k b u (hb b n) q,fun b u q n _ _=>⟨u.slots,k b u (hb b n) q⟩,fun b u q n _=>by rw [aw (hx b n)];exact n,fun b u q _=>?_,
  fun b xs q=>by rw [aw (hm b _ q fun z=>z)];exact q,fun b u xs q=>by rw [aw (hm b _ q fun z=>z)];exact q,fun b ps q=>⟨#[],by rw [aw (hm b _ q fun z=>z),q];simp⟩⟩
 by_cases hbe:b=e
 ·subst hbe;exact heo
 ·exact ⟨u,k b u hbe q⟩
end
noncomputable def trk (h:Heap) (H:Hp):List Addr:=(List.range h.objs.size).filter fun a=>(H a).isSome
noncomputable def mH (h:Heap) (H:Hp):Heap:=PySem.W.hideAll h (trk h H)
theorem sU (h:Heap) (H:Hp):(mH h H).objs.size=h.objs.size:=PySem.W.hideAll_size _ _
theorem ue {h:Heap} {H:Hp} {b:Addr} {o:Obj} (e:h.get? b=some o) (n:H b=none):(mH h H).get? b=some o :=
 PySem.W.hideAll_get _ e fun hm=>by
  have q:(H b).isSome=true:=(List.mem_filter.mp hm).2
  rw [n] at q;simp at q
theorem yc {h:Heap} {H:Hp} {b:Addr} {o:Obj} (e:(mH h H).get? b=some o):h.get? b=some o/\H b=none:=by
 have e':h.get? b=some o:=PySem.W.of_hideAll (trk h H) e
 refine ⟨e',?_⟩
 cases q:H b with
 | none=>rfl
 | some x =>
  have hm:b∈trk h H:=List.mem_filter.mpr ⟨List.mem_range.mpr (Zm e'),by simp [q]⟩
  have z:(mH h H).get? b=none:=PySem.W.hideAll_none (trk h H) hm
  rw [z] at e;cases e
noncomputable def w6 (g h:Heap) (L:Addr):List (Addr×Obj):=(List.range h.objs.size).filterMap fun a=>if a=L\/(g.get? a).isSome=true then none else (h.get? a).map fun o=>(a,o)
noncomputable def rest (g h:Heap) (L d:Addr):List (Addr×Obj):=(w6 g h L).filter fun p=>decide (p.1 ≠ d)
structure Mod (K:PySem.W.Frag) (mg:Str->Option Value) (base:Heap):Prop where
 kin:K.In base
 glob:base.Ns mainGlobals mg
 blt:∃ mb,base.Ns builtinsNs mb/\∀ x:Str,x ≠ "__name__" → mb x=bootBuiltins x
 nolimit:base.NoLimit
structure Cx where
 prog:Program
 w:World
 K:PySem.W.Frag
 mg:Str->Option Value
 base:Heap
 A:Around
 N:List Str
 s₀:Shared
 H₀:Hp
 env:Env
 outer:List Env
 stack:List Env
 ex:List Addr
 fn:Str->Bool
 calm:Bool
 pn:List (Addr×Obj)
 xe:Value->Shared->Prop
noncomputable def frs (l:List Env):List Addr:=l.filterMap (·.frame)
noncomputable abbrev Cx.fs (X:Cx):List Addr:=frs X.outer
noncomputable def Vis (sc:Scope) (x:Str):Prop:=sc.names.lookup x=some .local\/sc.names.lookup x=some .cell\/sc.names.lookup x=some .free
noncomputable def Loc (sc:Scope) (x:Str):Prop:=sc.names.lookup x=some .local\/sc.names.lookup x=some .cell
noncomputable def Look (env:Env) (h:Heap) (m:Str->Option Value) (x:Str) (u:Value):Prop :=
 (env.kindOf x=some .local/\m x=some u)\/((env.kindOf x=some .cell\/env.kindOf x=some .free)/\∃ c,env.cells.lookup x=some c/\h.IsCell c (some u))
structure Cx.Ok (X:Cx):Prop where
 mod:Mod X.K X.mg X.base
 kind:X.env.scope.kind=.function
 glob:X.env.globals=mainGlobals
 blt:X.env.builtins=builtinsNs
 above:X.s₀.heap.objs.size<=X.env.locals
 inj:∀ x y c,X.env.cells.lookup x=some c->X.env.cells.lookup y=some c->x=y
 has:∀ x,(X.env.kindOf x=some .cell\/X.env.kindOf x=some .free)->∃ c,X.env.cells.lookup x=some c
 cab:∀ x c,X.fn x=true->X.env.cells.lookup x=some c->X.s₀.heap.objs.size<=c
 hd:X.calm=true->X.A.handled=none
 frames:X.A.frames=some X.stack
 stk:X.stack=X.outer\/(X.stack=X.env :: X.outer/\X.env.frame=some X.env.locals)
 exf:∀ b∈X.ex,b ≠ X.env.locals/\∀ x c,X.env.cells.lookup x=some c->c ≠ b
 bs:∀ b o,X.base.get? b=some o->X.s₀.heap.get? b=some o/\X.H₀ b=none
 bsz:X.base.objs.size<=X.s₀.heap.objs.size
 noex:∀ b o,X.base.get? b=some o->b ∉ X.ex
 exfs:∀ b∈X.ex,b ∉ X.fs
 funs:X.s₀.heap.FunFrames X.base X.outer
 frf:∀ b∈X.fs,X.H₀ b=none
structure Inv (X:Cx) (pins:List (Addr×Obj)) (σ:List (Option V)) (H:Hp) (s:Shared):Prop where
 ok:X.Ok
 os:s.os=X.s₀.os
 bare:AllBare s.gens
 base:Un X.fs X.ex X.H₀ H X.s₀.heap s.heap
 loc:∃ m,s.heap.Ns X.env.locals m/\∀ (i:Nat) (x:Str) (v:V),X.N[i]?=some x->σ[i]?=some (some v)->Vis X.env.scope x->∃ u,RelV v u/\Look X.env s.heap m x u
 cell:∀ x c,X.env.cells.lookup x=some c->∃ v,s.heap.IsCell c v
 free:H X.env.locals=none
 freeC:∀ x c,X.env.cells.lookup x=some c->H c=none
 pin:∀ p∈X.pn++pins,s.heap.get? p.1=some p.2/\H p.1=none/\p.1 ≠ X.env.locals/\p.1 ∉ X.fs/\∀ v,p.2.data ≠ .cell v
 hok:HOk X.prog X.w H s.heap
 len:σ.length=X.N.length
section
variable {X:Cx} {pins:List (Addr×Obj)} {σ:List (Option V)} {H H':Hp} {s:Shared} {h':Heap}
theorem Cx.Ok.nofr (ok:X.Ok) {b:Addr} {o:Obj} (e:X.base.get? b=some o):b ∉ X.fs:=fun hb=>by
 have:=(ok.funs.mem hb).1
 rw [e] at this;cases this
theorem Inv.bs (I:Inv X pins σ H s):∀ b o,X.base.get? b=some o->s.heap.get? b=some o/\H b=none:=fun b o e =>
 ⟨I.base.keep b o (I.ok.bs b o e).1 (I.ok.bs b o e).2 (I.ok.nofr e) (I.ok.noex b o e),I.base.free b o (I.ok.bs b o e).1 (I.ok.bs b o e).2 (I.ok.noex b o e)⟩
theorem Inv.bk (I:Inv X pins σ H s):∀ b o,X.base.get? b=some o->s.heap.get? b=some o:=fun b o e=>(I.bs b o e).1
theorem Inv.mod (I:Inv X pins σ H s):Mod X.K X.mg X.base:=I.ok.mod
theorem Inv.kIn (I:Inv X pins σ H s):X.K.In s.heap:=I.ok.mod.kin.keeps I.bk
theorem Inv.lt (I:Inv X pins σ H s):X.env.locals < s.heap.objs.size:=let ⟨_,hn,_⟩:=I.loc;hn.lt
theorem Inv.sz (I:Inv X pins σ H s):X.s₀.heap.objs.size<=s.heap.objs.size:=Nat.le_trans I.ok.above (Nat.le_of_lt I.lt)
theorem Inv.nofs (I:Inv X pins σ H s) {a:Addr} (h:s.heap.objs.size<=a):a ∉ X.fs:=fun hb=>by
 obtain ⟨_,o,ho,_⟩:=I.ok.funs.mem hb
 exact absurd (Nat.lt_of_lt_of_le (Zm ho) (Nat.le_trans I.sz h)) (Nat.lt_irrefl _)
theorem Inv.cne (I:Inv X pins σ H s):∀ x c,X.env.cells.lookup x=some c->c ≠ X.env.locals:=fun x c e z=>by
 obtain ⟨v,o,ho,hd⟩:=I.cell x c e
 obtain ⟨m,⟨o',es,ep,ho',hd',_⟩,_⟩:=I.loc
 rw [z,ho'] at ho;cases ho;rw [hd'] at hd;cases hd
theorem Inv.funs (I:Inv X pins σ H s):s.heap.FunFrames X.base X.outer:=by
 have all:∀ (l:List Env),(∀ b∈frs l,b∈X.fs)->X.s₀.heap.FunFrames X.base l->s.heap.FunFrames X.base l:=by
  intro l
  induction l with
  | nil=>intro _ _;trivial
  | cons env r ih =>
   intro hs hl
   obtain ⟨hk,⟨L,o,hf,hn,ho,hd⟩,hr⟩:=hl
   have hL:L∈X.fs:=hs L (by unfold frs;rw [List.filterMap_cons,hf];exact Zv)
   obtain ⟨sl,e⟩:=I.base.slot L o ho (I.ok.frf L hL) hL fun z=>I.ok.exfs L z hL
   exact ⟨hk,⟨L,_,hf,hn,e,hd⟩,ih (fun b hb=>hs b (by unfold frs;rw [List.filterMap_cons,hf];exact Zw _ hb)) hr⟩
 exact all X.outer (fun _ hb=>hb) I.ok.funs
theorem Inv.stack (I:Inv X pins σ H s):s.heap.FunFrames X.base X.stack:=by
 rcases I.ok.stk with e | ⟨e,hf⟩
 ·rw [e];exact I.funs
 ·rw [e]
  obtain ⟨m,hn,_⟩:=I.loc
  refine .cons (by rw [I.ok.kind];decide) hf hn ?_ I.funs
  exact Heap.get?_none_of_le (Nat.le_trans I.ok.bsz I.ok.above)
theorem Inv.stkSub (I:Inv X pins σ H s):∀ b∈frs X.stack,b∈X.env.locals :: X.fs:=fun b hb=>by
 rcases I.ok.stk with e | ⟨e,hf⟩
 ·rw [e] at hb;exact Zw _ hb
 ·rw [e] at hb
  unfold frs at hb
  rw [List.filterMap_cons,hf] at hb
  exact hb
theorem Inv.stkFree (I:Inv X pins σ H s):∀ b∈frs X.stack,H b=none:=fun b hb=>by
 rcases Zg.mp (I.stkSub b hb) with e | hb
 ·rw [e];exact I.free
 ·obtain ⟨_,o,ho,_⟩:=I.ok.funs.mem hb
  exact I.base.free b o ho (I.ok.frf b hb) fun z=>I.ok.exfs b z hb
theorem Inv.step {g':Array GenState} {t':Nat} {d':Drawn} {ch:List Addr} (I:Inv X pins σ H s)
  (hch:∀ b∈ch,(b∈X.ex\/X.s₀.heap.objs.size<=b)/\b ≠ X.env.locals/\(∀ x c,X.env.cells.lookup x=some c->c ≠ b)/\∀ p∈X.pn++pins,p.1 ≠ b)
  (keep:∀ b o,b ≠ X.env.locals->b ∉ X.fs->b ∉ ch->s.heap.get? b=some o->H b=none->h'.get? b=some o)
  (slot:∀ b o,b ≠ X.env.locals->b∈X.fs->b ∉ ch->s.heap.get? b=some o->H b=none->∃ sl,h'.get? b=some { o with slots:=sl }) (free:∀ b o,b ∉ ch->s.heap.get? b=some o->H b=none->H' b=none)
  (there:∀ b o,b ∉ ch->s.heap.get? b=some o->∃ o',h'.get? b=some o')
  (tups:∀ b xs,H b=some (.tup xs)->H' b=some (.tup xs)) (frzs:∀ b o u,H b=some (.frz o u)->H' b=some (.frz o u)) (tbls:∀ b ps,H b=some (.tbl ps)->∃ more,H' b=some (.tbl (ps++more)))
  (ns:∀ m,s.heap.Ns X.env.locals m->h'.Ns X.env.locals m) (hok:HOk X.prog X.w H' h') (hg:AllBare g') :
  Inv X pins σ H' { s with heap:=h',gens:=g',drawn:=d',toks:=t' }:=by
 have neL:∀ b o,X.s₀.heap.get? b=some o->b ≠ X.env.locals:=fun b o e=>Zn (Nat.lt_of_lt_of_le (Zm e) I.ok.above)
 have neC:∀ b o,X.s₀.heap.get? b=some o->b ∉ X.ex->b ∉ ch:=fun b o e hx hb=>by
  rcases (hch b hb).1 with z | z
  ·exact hx z
  ·exact absurd (Nat.lt_of_lt_of_le (Zm e) z) (Nat.lt_irrefl _)
 have cellK:∀ x c,X.env.cells.lookup x=some c->∀ v,s.heap.IsCell c v->h'.IsCell c v:=fun x c e v ⟨o,ho,hd⟩=>by
  have nch:c ∉ ch:=fun z=>(hch c z).2.2.1 x c e rfl
  by_cases hc:c∈X.fs
  ·obtain ⟨sl,q⟩:=slot c o (I.cne x c e) hc nch ho (I.freeC x c e)
   exact ⟨_,q,hd⟩
  ·exact ⟨o,keep c o (I.cne x c e) hc nch ho (I.freeC x c e),hd⟩
 refine ⟨I.ok,I.os,hg,⟨fun b o e n hb hx=>?_,fun b o e n hb hx=>?_,fun b o e n hx=>?_,fun b o e hx=>?_,fun b xs e=>tups b xs (I.base.tups b xs e),fun b o xs e=>frzs b o xs (I.base.frzs b o xs e),fun b ps e=>?_⟩,?_,fun x c e=>?_,?_,fun x c e=>?_,fun p hp=>?_,hok,I.len⟩
 ·exact keep b o (neL b o e) hb (neC b o e hx) (I.base.keep b o e n hb hx) (I.base.free b o e n hx)
 ·obtain ⟨sl,e1⟩:=I.base.slot b o e n hb hx
  obtain ⟨sl',e2⟩:=slot b _ (neL b o e) hb (neC b o e hx) e1 (I.base.free b o e n hx)
  exact ⟨sl',e2⟩
 ·obtain ⟨o',e1⟩:=I.base.there b o e hx
  exact free b o' (neC b o e hx) e1 (I.base.free b o e n hx)
 ·obtain ⟨o',e1⟩:=I.base.there b o e hx
  exact there b o' (neC b o e hx) e1
 ·obtain ⟨m1,e1⟩:=I.base.tbls b ps e
  obtain ⟨m2,e2⟩:=tbls b _ e1
  exact ⟨m1++m2,by rw [e2,Array.append_assoc]⟩
 ·obtain ⟨m,hn,hl⟩:=I.loc
  refine ⟨m,ns m hn,fun i x v e1 e2 e3=>?_⟩
  obtain ⟨u,r,l⟩:=hl i x v e1 e2 e3
  refine ⟨u,r,?_⟩
  rcases l with l | ⟨k,c,e,z⟩
  ·exact .inl l
  ·exact .inr ⟨k,c,e,cellK x c e _ z⟩
 ·obtain ⟨v,z⟩:=I.cell x c e
  exact ⟨v,cellK x c e v z⟩
 ·obtain ⟨m,⟨o,_,_,ho,_⟩,_⟩:=I.loc
  exact free _ o (fun z=>(hch _ z).2.1 rfl) ho I.free
 ·obtain ⟨v,o,ho,hd⟩:=I.cell x c e
  exact free c o (fun z=>(hch c z).2.2.1 x c e rfl) ho (I.freeC x c e)
 ·obtain ⟨e,n,ne,nf,d⟩:=I.pin p hp
  have nch:p.1 ∉ ch:=fun z=>(hch p.1 z).2.2.2 p hp rfl
  exact ⟨keep p.1 p.2 ne nf nch e n,free p.1 p.2 nch e n,ne,nf,d⟩
theorem Inv.un {t':Nat} (I:Inv X pins σ H s) (u:Un X.fs [] H H' s.heap h') (hok:HOk X.prog X.w H' h'):Inv X pins σ H' { s with heap:=h',toks:=t' }:=by
 obtain ⟨m,⟨o,es,ep,ho,r⟩,_⟩:=id I.loc
 obtain ⟨sl,hL⟩:=u.any ho I.free (by simp)
 exact I.step (g':=s.gens) (d':=s.drawn) (ch:=[]) (fun _ z=>nomatch z) (fun b o _ hb _ e n=>u.keep b o e n hb (by simp)) (fun b o _ hb _ e n=>u.slot b o e n hb (by simp)) (fun b o _ e n=>u.free b o e n (by simp)) (fun b o _ e=>u.there b o e (by simp)) u.tups u.frzs u.tbls (fun m' hm=>by
  obtain ⟨o',es',ep',ho',r'⟩:=hm
  rw [ho] at ho';cases ho'
  exact ⟨_,es',ep',hL,r'⟩) hok I.bare
theorem Inv.call {g':Array GenState} {t':Nat} {d':Drawn} {ch:List Addr} (I:Inv X pins σ H s) (u:Un (frs X.stack) ch H H' s.heap h') (hok:HOk X.prog X.w H' h') (hg:AllBare g')
  (hch:∀ b∈ch,(b∈X.ex\/X.s₀.heap.objs.size<=b)/\b ≠ X.env.locals/\(∀ x c,X.env.cells.lookup x=some c->c ≠ b)/\∀ p∈X.pn++pins,p.1 ≠ b) :
  Inv X pins σ H' { s with heap:=h',gens:=g',drawn:=d',toks:=t' }:=by
 obtain ⟨m,⟨o,es,ep,ho,r⟩,_⟩:=id I.loc
 obtain ⟨sl,hL⟩:=u.any ho I.free fun z=>(hch _ z).2.1 rfl
 exact I.step (ch:=ch) hch (fun b o hL hb hc e n=>u.keep b o e n (fun z=>(Zg.mp (I.stkSub b z)).elim hL hb) hc) (fun b o _ _ hc e n=>u.any e n hc) (fun b o hc e n=>u.free b o e n hc) (fun b o hc e=>u.there b o e hc) u.tups u.frzs u.tbls (fun m' hm=>by
  obtain ⟨o',es',ep',ho',r'⟩:=hm
  rw [ho] at ho';cases ho'
  exact ⟨_,es',ep',hL,r'⟩) hok hg
theorem Inv.turned {t':Nat} {it:Addr} (I:Inv X pins σ H s) (k:∀ b o,b ≠ it->s.heap.get? b=some o->h'.get? b=some o) (hn:H it=none) (hL:it ≠ X.env.locals)
  (h1:it∈X.ex\/X.s₀.heap.objs.size<=it) (h2:∀ x c,X.env.cells.lookup x=some c->c ≠ it) (h3:∀ p∈X.pn++pins,p.1 ≠ it):Inv X pins σ H { s with heap:=h',toks:=t' }:=by
 have nit:∀ b u,H b=some u->b ≠ it:=fun b u e z=>by rw [z,hn] at e;cases e
 refine I.step (g':=s.gens) (d':=s.drawn) (ch:=[it]) (fun b hb=>?_) (fun b o _ _ hc e _=>k b o (fun z=>hc (by simp [z])) e) (fun b o _ _ hc e _=>⟨o.slots,k b o (fun z=>hc (by simp [z])) e⟩) (fun _ _ _ _ n=>n)
  (fun b o hc e=>⟨o,k b o (fun z=>hc (by simp [z])) e⟩) (fun _ _ e=>e) (fun _ _ _ e=>e) (fun b ps e=>⟨#[],by rw [e];simp⟩) (fun m hm=>?_) (fun b u e=>?_) I.bare
 ·have e:b=it:=by simpa using hb
  subst e
  exact ⟨h1,hL,h2,h3⟩
 ·obtain ⟨o,es,ep,ho,r⟩:=hm
  exact ⟨o,es,ep,k _ o (Ne.symm hL) ho,r⟩
 ·refine (I.hok b u e).stay (fun c v hc q=>k c v ?_ q) (fun _ q=>q) fun _ _ q=>q
  rcases hc with z | z
  ·rw [z];exact nit b u e
  ·exact nit c _ z
theorem Inv.tok (I:Inv X pins σ H s) (t:Nat):Inv X pins σ H { s with toks:=t }:=I.un (h':=s.heap) (t':=t) Un.refl I.hok
theorem Inv.kept {t':Nat} (I:Inv X pins σ H s) (k:∀ b u,s.heap.get? b=some u->h'.get? b=some u):Inv X pins σ H { s with heap:=h',toks:=t' }:=I.un (Un.kept k) (I.hok.kept k)
theorem Inv.laid {a:Addr} {o:HO} {t':Nat} (I:Inv X pins σ H s) (k:∀ b u,s.heap.get? b=some u->h'.get? b=some u) (hp:s.heap.objs.size<=a) (new:aS X.prog X.w (upd H a o) h' a o) :
  Inv X pins σ (upd H a o) { s with heap:=h',toks:=t' }:=I.un (Un.laid k hp (I.hok.fresh hp)) (I.hok.laid k hp new)
theorem Inv.write {x e:Addr} {o:HO} {t':Nat} (I:Inv X pins σ H s) (mu:Mut (H x)) (he:e=x\/H e=some (.own x)) (k:∀ b u,b ≠ e->s.heap.get? b=some u->h'.get? b=some u) (heo:∃ u,h'.get? e=some u)
  (new:aS X.prog X.w (upd H x o) h' x o):Inv X pins σ (upd H x o) { s with heap:=h',toks:=t' }:=I.un (Un.write mu he k heo) (I.hok.write mu he k heo new)
theorem Inv.pins_of {pins':List (Addr×Obj)} (I:Inv X pins σ H s) (h:∀ p∈pins',s.heap.get? p.1=some p.2/\H p.1=none/\p.1 ≠ X.env.locals/\p.1 ∉ X.fs/\∀ v,p.2.data ≠ .cell v):Inv X pins' σ H s :=
 ⟨I.ok,I.os,I.bare,I.base,I.loc,I.cell,I.free,I.freeC,fun p hp=>(Zh.mp hp).elim (fun z=>I.pin p (List.mem_append_left _ z)) (h p),I.hok,I.len⟩
theorem oO {N:List Str} (hN:N.Nodup) {i j:Nat} {x:Str} (a:N[i]?=some x) (b:N[j]?=some x):i=j:=by
 obtain ⟨h1,e1⟩:=List.getElem?_eq_some_iff.mp a
 obtain ⟨h2,e2⟩:=List.getElem?_eq_some_iff.mp b
 exact (List.getElem_inj hN).mp (e1.trans e2.symm)
theorem rN {M:Model} {A:Around} {E:Value->Shared->Prop} {i:Nat} {x:Str} {v:V} {u:Value} {Q:Unit->Shared->Prop} (I:Inv X pins σ H s) (hN:X.N.Nodup) (hi:X.N[i]?=some x) (hx:Loc X.env.scope x) (r:RelV v u)
  (h:∀ s',Inv X pins (σ.set i (some v)) H s'->(∃ a,Heap.SameBut a s.heap s'.heap/\(a=X.env.locals\/X.env.cells.lookup x=some a))->Q () s') (hf:X.fn x=true\/X.env.scope.names.lookup x=some .local:=by first | exact .inl rfl | exact .inr rfl | assumption):wpAny M A (storeName X.env x u) Q E s:=by
 obtain ⟨m,hn,hl⟩:=id I.loc
 have hcls:(X.env.scope.kind == .class || (X.env.scope.kind == .module && X.env.locals != X.env.globals))=false:=by rw [I.ok.kind];rfl
 have hiσ:i < σ.length:=by rw [I.len];exact (List.getElem?_eq_some_iff.mp hi).1
 have cne:=I.cne
 have tracked:∀ {a:Addr} {h':Heap},(∃ o,s.heap.get? a=some o/\H a=none)->Heap.SameBut a s.heap h'->HOk X.prog X.w H h':=fun {a h'} ha hs b ob e=>by
  obtain ⟨_,_,hfree⟩:=ha
  refine (I.hok b ob e).stay (fun c w' hc q=>(hs.2 c ?_).trans q) (fun _ q=>q) fun _ _ q=>q
  rintro rfl
  rcases hc with rfl | hc
  ·rw [hfree] at e;cases e
  ·rw [hfree] at hc;cases hc
 rcases hx with hk | hk
 ·refine wpAny_storeName_local hk hn (fun h' hn' hs=>?_) hcls
  obtain ⟨oL,_,_,hoL,_⟩:=id hn
  refine h _ ⟨I.ok,I.os,I.bare,⟨fun b o e n hb hx=>?_,fun b o e n hb hx=>?_,I.base.free,fun b o e hx=>?_,I.base.tups,I.base.frzs,I.base.tbls⟩,⟨_,hn',fun j y v' e1 e2 e3=>?_⟩,fun y c e=>?_,I.free,I.freeC,fun p hp=>?_,tracked ⟨oL,hoL,I.free⟩ hs,by simpa using I.len⟩ ⟨_,hs,.inl rfl⟩
  ·exact (hs.2 b (Zn (Nat.lt_of_lt_of_le (Zm e) I.ok.above))).trans (I.base.keep b o e n hb hx)
  ·obtain ⟨sl,e1⟩:=I.base.slot b o e n hb hx
   exact ⟨sl,(hs.2 b (Zn (Nat.lt_of_lt_of_le (Zm e) I.ok.above))).trans e1⟩
  ·obtain ⟨o',e1⟩:=I.base.there b o e hx
   exact ⟨o',(hs.2 b (Zn (Nat.lt_of_lt_of_le (Zm e) I.ok.above))).trans e1⟩
  ·by_cases hj:j=i
   ·subst hj
    rw [hi] at e1;cases e1
    rw [List.getElem?_set_self hiσ] at e2
    cases e2
    exact ⟨u,r,.inl ⟨hk,by simp⟩⟩
   ·rw [List.getElem?_set_ne (Ne.symm hj)] at e2
    obtain ⟨u',r',q⟩:=hl j y v' e1 e2 e3
    refine ⟨u',r',?_⟩
    rcases q with ⟨k,e⟩ | ⟨k,c,e,z⟩
    ·refine .inl ⟨k,?_⟩
     have:y ≠ x:=fun e=>hj (oO hN e1 (e ▸ hi))
     simp [this,e]
    ·exact .inr ⟨k,c,e,z.sameBut hs (cne y c e)⟩
  ·obtain ⟨w',z⟩:=I.cell y c e
   exact ⟨w',z.sameBut hs (cne y c e)⟩
  ·obtain ⟨e,n,ne,nf,d⟩:=I.pin p hp
   exact ⟨(hs.2 p.1 ne).trans e,n,ne,nf,d⟩
 ·have hfn:X.fn x=true:=by
   rcases hf with z | z
   ·exact z
   ·rw [z] at hk;cases hk
  obtain ⟨c,hc⟩:=I.ok.has x (.inl hk)
  obtain ⟨w',z⟩:=I.cell x c hc
  refine wpAny_storeName_cell I.ok.kind hk hc z (fun h' hc' hs=>?_)
  obtain ⟨oc,hoc,hocd⟩:=id z
  refine h { s with heap:=h' } ⟨I.ok,I.os,I.bare,⟨fun b o e n hb hx=>?_,fun b o e n hb hx=>?_,I.base.free,fun b o e hx=>?_,I.base.tups,I.base.frzs,I.base.tbls⟩,⟨m,hn.sameBut hs (Ne.symm (cne x c hc)),fun j y v' e1 e2 e3=>?_⟩,fun y c' e=>?_,I.free,I.freeC,fun p hp=>?_,tracked ⟨oc,hoc,I.freeC x c hc⟩ hs,by simpa using I.len⟩ ⟨c,hs,.inr hc⟩
  ·exact (hs.2 b (Zn (Nat.lt_of_lt_of_le (Zm e) (I.ok.cab x c hfn hc)))).trans (I.base.keep b o e n hb hx)
  ·obtain ⟨sl,e1⟩:=I.base.slot b o e n hb hx
   exact ⟨sl,(hs.2 b (Zn (Nat.lt_of_lt_of_le (Zm e) (I.ok.cab x c hfn hc)))).trans e1⟩
  ·obtain ⟨o',e1⟩:=I.base.there b o e hx
   exact ⟨o',(hs.2 b (Zn (Nat.lt_of_lt_of_le (Zm e) (I.ok.cab x c hfn hc)))).trans e1⟩
  ·by_cases hj:j=i
   ·subst hj
    rw [hi] at e1;cases e1
    rw [List.getElem?_set_self hiσ] at e2
    cases e2
    exact ⟨u,r,.inr ⟨.inl hk,c,hc,hc'⟩⟩
   ·rw [List.getElem?_set_ne (Ne.symm hj)] at e2
    obtain ⟨u',r',q⟩:=hl j y v' e1 e2 e3
    refine ⟨u',r',?_⟩
    rcases q with q | ⟨k,c',e,z'⟩
    ·exact .inl q
    ·refine .inr ⟨k,c',e,z'.sameBut hs ?_⟩
     rintro rfl
     exact hj (oO hN e1 (I.ok.inj _ _ _ e hc ▸ hi))
  ·by_cases hcc:c'=c
   ·subst hcc;exact ⟨_,hc'⟩
   ·obtain ⟨w2,z2⟩:=I.cell y c' e
    exact ⟨w2,z2.sameBut hs hcc⟩
  ·obtain ⟨e,n,ne,nf,d⟩:=I.pin p hp
   refine ⟨(hs.2 p.1 ?_).trans e,n,ne,nf,d⟩
   intro q
   rw [q,hoc] at e
   have q':oc=p.2:=Option.some.inj e
   exact d w' (by rw [← q'];exact hocd)
theorem pA {M:Model} {A:Around} {E:Value->Shared->Prop} {i:Nat} {x:Str} {v:V} {u:Value} {Q:Unit->Shared->Prop} (I:Inv X pins σ H s) (hN:X.N.Nodup) (hi:X.N[i]?=some x) (hx:Loc X.env.scope x) (r:RelV v u)
  (h:∀ s',Inv X pins (σ.set i (some v)) H s'->Q () s') (hf:X.fn x=true\/X.env.scope.names.lookup x=some .local:=by first | exact .inl rfl | exact .inr rfl | assumption):wpAny M A (storeName X.env x u) Q E s :=
 rN I hN hi hx r (fun s' I' _=>h s' I') hf
theorem Inv.call' {s':Shared} {ch:List Addr} (I:Inv X pins σ H s) (ho:s'.os=s.os) (u:Un (frs X.stack) ch H H' s.heap s'.heap) (hok:HOk X.prog X.w H' s'.heap) (hg:AllBare s'.gens)
  (hch:∀ b∈ch,(b∈X.ex\/X.s₀.heap.objs.size<=b)/\b ≠ X.env.locals/\(∀ x c,X.env.cells.lookup x=some c->c ≠ b)/\∀ p∈X.pn++pins,p.1 ≠ b):Inv X pins σ H' s':=by
 obtain ⟨h',g',d',t',o'⟩:=s'
 have e:o'=s.os:=ho
 subst e
 exact I.call (g':=g') (t':=t') (d':=d') u hok hg hch
end
noncomputable abbrev XK:=Value->Option Addr->Hp->Prop
noncomputable abbrev St:=List (Option V)
noncomputable abbrev VK:=V->Hp->Prop
noncomputable abbrev TE:=St->Hp->VK->Prop
noncomputable abbrev TT:=St->Hp->(Bool->Hp->Prop)->Prop
noncomputable abbrev TA:=St->Hp->(List V->Hp->Prop)->Prop
structure Ends where
 nx:St->Hp->Prop
 rt:VK
 bk:St->Hp->Prop:=fun _ _=>False
 ct:St->Hp->Prop:=fun _ _=>False
noncomputable abbrev TS:=Ends->St->Hp->Prop
noncomputable def EP (X:Cx) (pins:List (Addr×Obj)) (σ:St) (Q:VK) (u:Value) (s':Shared):Prop:=∃ v H',Inv X pins σ H' s'/\RelV v u/\Q v H'
noncomputable def TP (X:Cx) (pins:List (Addr×Obj)) (σ:St) (Q:Bool->Hp->Prop) (b:Bool) (s':Shared):Prop:=∃ H',Inv X pins σ H' s'/\Q b H'
noncomputable def AP (X:Cx) (pins:List (Addr×Obj)) (σ:St) (Q:List V->Hp->Prop) (us:List Value) (s':Shared):Prop:=∃ vs H',Inv X pins σ H' s'/\aK vs us/\Q vs H'
noncomputable def SP (X:Cx) (pins:List (Addr×Obj)) (D:Ends) (f:Flow) (s':Shared):Prop :=
 match f with
 | .next=>∃ σ' H',Inv X pins σ' H' s'/\D.nx σ' H'
 | .brk=>∃ σ' H',Inv X pins σ' H' s'/\D.bk σ' H'
 | .cont=>∃ σ' H',Inv X pins σ' H' s'/\D.ct σ' H'
 | .ret u=>∃ v σ' H',Inv X pins σ' H' s'/\RelV v u/\D.rt v H'
noncomputable def PE (X:Cx) (e:Expr) (t:TE):Prop :=
 ∀ (pins:List (Addr×Obj)) (s:Shared) (σ:St) (H:Hp) (Q:VK),Inv X pins σ H s->t σ H Q->wpAny (model X.prog X.w) X.A (eval e X.env) (EP X pins σ Q) X.xe s
noncomputable def PT (X:Cx) (e:Expr) (t:TT):Prop :=
 ∀ (pins:List (Addr×Obj)) (s:Shared) (σ:St) (H:Hp) (Q:Bool->Hp->Prop),Inv X pins σ H s->t σ H Q->wpAny (model X.prog X.w) X.A (isTrue e X.env (eval e X.env)) (TP X pins σ Q) X.xe s
noncomputable def PW (X:Cx) (e:Expr) (t:TT):Prop :=
 ∀ (whole:Sem Value) (pins:List (Addr×Obj)) (s:Shared) (σ:St) (H:Hp) (Q:Bool->Hp->Prop),Inv X pins σ H s->t σ H Q->wpAny (model X.prog X.w) X.A (isTrue e X.env whole) (TP X pins σ Q) X.xe s
theorem PW.pt {X:Cx} {e:Expr} {t:TT} (h:PW X e t):PT X e t:=h _
noncomputable def PA (X:Cx) (es:List Expr) (t:TA):Prop :=
 ∀ (pos:Pos) (pins:List (Addr×Obj)) (s:Shared) (σ:St) (H:Hp) (Q:List V->Hp->Prop),Inv X pins σ H s->t σ H Q->wpAny (model X.prog X.w) X.A (spliced (backTo pos (starEach es X.env))) (AP X pins σ Q) X.xe s
noncomputable def PS (X:Cx) (st:Stmt) (t:TS):Prop :=
 ∀ (pins:List (Addr×Obj)) (s:Shared) (σ:St) (H:Hp) (D:Ends),Inv X pins σ H s->t D σ H->wpAny (model X.prog X.w) X.A (exec st X.env) (SP X pins D) X.xe s
noncomputable def PSs (X:Cx) (st:List Stmt) (t:TS):Prop :=
 ∀ (pins:List (Addr×Obj)) (s:Shared) (σ:St) (H:Hp) (D:Ends),Inv X pins σ H s->t D σ H->wpAny (model X.prog X.w) X.A (execs st X.env) (SP X pins D) X.xe s
theorem thn {α:Type} {t:Sem α} {Q Q':α->Shared->Prop} {M:Model} {A:Around} {E:Value->Shared->Prop} {s:Shared} (h:wpAny M A t Q E s) (hQ:∀ a s,Q a s->Q' a s):wpAny M A t Q' E s:=wpAny_mono h hQ fun _ _ x=>x
section
variable {X:Cx}
noncomputable def sJ (i:Nat):TE:=fun σ H Q=>∃ v,σ[i]?=some (some v)/\Q v H
noncomputable def tC (v:V):TE:=fun _ H Q=>Q v H
theorem fu {i:Nat} {x:Str} {pos:Pos} (hN:X.N[i]?=some x) (hv:Vis X.env.scope x) (hd:(x == ("__debug__" : Str))=false:=by decide) (hcd:(x == ("__classdict__" : Str))=false:=by decide):PE X (.Name x pos) (sJ i):=by
 intro pins s σ H Q I h
 obtain ⟨v,e,h⟩:=h
 obtain ⟨m,hn,hl⟩:=I.loc
 obtain ⟨u,r,l⟩:=hl i x v hN e hv
 have fin:EP X pins σ Q u s:=⟨v,H,I,r,h⟩
 rcases l with ⟨hk,hm⟩ | ⟨hk,c,hc,hcell⟩
 ·exact wpAny_Name (wpAny_loadName_local I.ok.kind hk hn hm fin) hd
 ·rcases hk with hk | hk
  ·exact wpAny_Name (wpAny_loadName_cell I.ok.kind hk hc hcell fin) hd
  ·exact wpAny_Name (wpAny_loadName_free I.ok.kind hk hc hcell fin hcd) hd
theorem wK {i j pos}:PE X (.Constant (.int i) j pos) (tC (.int i)):=fun _ _ _ H _ I h=>wpAny_Constant_int ⟨.int i,H,I.tok _,⟨_,rfl⟩,h⟩
theorem DK {b j pos}:PE X (.Constant (.bool b) j pos) (tC (.bl b)):=fun _ _ _ H _ I h=>Constant_bool ⟨.bl b,H,I,rfl,h⟩
theorem Au {j pos}:PE X (.Constant .none j pos) (tC .non):=fun _ _ _ H _ I h=>Constant_none ⟨.non,H,I,rfl,h⟩
theorem u6 {x j pos}:PE X (.Constant (.str x) j pos) (tC (.str x)):=fun _ _ _ H _ I h=>Calls.Constant_str ⟨.str x,H,I.tok _,⟨_,rfl⟩,h⟩
noncomputable def Gl (X:Cx) (x:Str):Prop:=X.env.kindOf x=some .globalImplicit
theorem qI {E:Value->Shared->Prop} {pins:List (Addr×Obj)} {s:Shared} {σ:St} {H:Hp} {x:Str} {u:Value} {pos:Pos} {Q:Value->Shared->Prop} (I:Inv X pins σ H s) (hg:Gl X x) (hm:X.mg x=some u) (h:Q u s)
  (hd:(x == ("__debug__" : Str))=false:=by decide):wpAny (model X.prog X.w) X.A (eval (.Name x pos) X.env) Q E s :=
 Calls.Name_function_global I.ok.kind hg (Calls.loadGlobal_global (by rw [I.ok.glob];exact I.mod.glob.keeps I.bk) hm h) hd
theorem iY {E:Value->Shared->Prop} {pins:List (Addr×Obj)} {s:Shared} {σ:St} {H:Hp} {x:Str} {u:Value} {pos:Pos} {Q:Value->Shared->Prop} (I:Inv X pins σ H s) (hg:Gl X x) (hm:X.mg x=none) (hv:bootBuiltins x=some u) (h:Q u s)
  (hn:x ≠ "__name__" := by decide) (hd:(x == ("__debug__" : Str))=false:=by decide):wpAny (model X.prog X.w) X.A (eval (.Name x pos) X.env) Q E s:=by
 obtain ⟨mb,h1,h2⟩:=I.mod.blt
 exact Calls.Name_function_global I.ok.kind hg (Calls.loadGlobal_builtin (by rw [I.ok.glob];exact I.mod.glob.keeps I.bk) hm (by rw [I.ok.blt];exact h1.keeps I.bk) ((h2 x hn).trans hv) h) hd
theorem yW {x:Str} {v:V} {u:Value} {pos:Pos} (hg:Gl X x) (hm:X.mg x=some u) (r:RelV v u) (hd:(x == ("__debug__" : Str))=false:=by decide):PE X (.Name x pos) (tC v) :=
 fun _ _ _ H _ I h=>qI I hg hm ⟨v,H,I,r,h⟩ hd
theorem yo {x:Str} {v:V} {u:Value} {pos:Pos} (hg:Gl X x) (hm:X.mg x=none) (hv:bootBuiltins x=some u) (r:RelV v u) (hn:x ≠ "__name__" := by decide) (hd:(x == ("__debug__" : Str))=false:=by decide):PE X (.Name x pos) (tC v) :=
 fun _ _ _ H _ I h=>iY I hg hm hv ⟨v,H,I,r,h⟩ hn hd
variable {a b:Expr} {ta tb:TE} {pos:Pos}
noncomputable def PC (X:Cx) (op:CmpOp) (a b:Expr) (t:TE):Prop :=
 ∀ (pins:List (Addr×Obj)) (s:Shared) (σ:St) (H:Hp) (Q:VK),Inv X pins σ H s->t σ H Q →
  wpAny (model X.prog X.w) X.A (eval a X.env) (fun v s₁=>wpAny (model X.prog X.w) X.A (eval b X.env) (fun u s₂=>wpAny (model X.prog X.w) X.A (compareOp op v u) (EP X pins σ Q) X.xe s₂) X.xe s₁) X.xe s
theorem uU (b:Expr) {op:CmpOp} (h:op ≠ .In) (h2:op ≠ .NotIn):behindInMarks op b=false:=by
 have e1:(op == CmpOp.In)=false:=by cases op <;> first | rfl | exact absurd rfl h
 have e2:(op == CmpOp.NotIn)=false:=by cases op <;> first | rfl | exact absurd rfl h2
 cases b <;> simp [behindInMarks,e1,e2]
noncomputable def Ep (ta:TE):TE:=fun σ H Q=>ta σ H fun x H1=>Q (.bl (decide (x=.non))) H1
theorem RelV.none_iff {x:V} {v:Value} (r:RelV x v):(v == Value.none)=decide (x=.non):=by
 cases x with
 | non=>cases r;rfl
 | bl _=>cases r;rfl
 | int _=>obtain ⟨t,rfl⟩:=r;rfl
 | str _=>obtain ⟨t,rfl⟩:=r;rfl
 | byt _=>obtain ⟨t,rfl⟩:=r;rfl
 | flt _=>obtain ⟨t,rfl⟩:=r;rfl
 | ref _=>cases r;rfl
 | ty _=>cases r;rfl
theorem Bw {j pos'} (ha:PE X a ta):PC X .Is a (.Constant .none j pos') (Ep ta):=by
 intro pins s σ H Q I h
 refine thn (ha pins s σ H _ I h) fun v s1 ⟨x,H1,I1,r1,q1⟩=>?_
 exact Constant_none (is_none_gen ⟨.bl _,H1,I1,by rw [r1.none_iff];rfl,q1⟩)
theorem BM {op:CmpOp} {t:TE} (h:PC X op a b t) (h1:behindInMarks op b=false:=by first | exact uU _ (by decide) (by decide) | rfl):PE X (.Compare a [op] [b] pos) t:=fun pins s σ H Q I hw=>wpAny_Compare1 (h pins s σ H Q I hw) h1
variable {tA tB':TT} {rest:List Expr}
noncomputable def DO (t u:TT):TT:=fun σ H Q=>t σ H fun c H1=>if c=true then u σ H1 Q else Q false H1
noncomputable def Ef (t:TT):TT:=fun σ H Q=>t σ H fun c H1=>Q (!c) H1
theorem xU (ha:PT X a tA):PW X (.BoolOp .And [a] pos) tA:=by
 intro wh pins s σ H Q I h
 refine isTrue_and (thn (ha pins s σ H Q I h) fun c s1 e=>?_)
 cases c with
 | true=>exact isTrue_and_nil e
 | false=>exact e
theorem BI (ha:PT X a tA) (hb:PW X (.BoolOp .And (b :: rest) pos) tB'):PW X (.BoolOp .And (a :: b :: rest) pos) (DO tA tB'):=by
 intro wh pins s σ H Q I h
 refine isTrue_and (thn (ha pins s σ H _ I h) fun c s1 ⟨H1,I1,q1⟩=>?_)
 cases c with
 | true=>exact hb wh pins s1 σ H1 Q I1 q1
 | false=>exact ⟨H1,I1,q1⟩
theorem BD (ha:PT X a tA):PT X (.UnaryOp .Not a pos) (Ef tA):=by
 intro pins s σ H Q I h
 exact isTrue_not (ha pins s σ H (fun c H1=>Q (!c) H1) I h)
noncomputable def CV (ta tb:TE):TE:=fun σ H Q=>ta σ H fun x H1=>∃ c,x=.bl c/\if c=true then tb σ H1 Q else Q (.bl false) H1
noncomputable def Dp (ta:TE):TE:=fun σ H Q=>ta σ H fun x H1=>∃ c,x=.bl c/\Q (.bl (!c)) H1
theorem Bb {op} {t:TE} (h:PE X a t):PE X (.BoolOp op [a] pos) t:=fun pins s σ H Q I hw=>BoolOp_one (h pins s σ H Q I hw)
theorem Bv (ha:PE X a ta) (hb:PE X (.BoolOp .And (b :: rest) pos) tb):PE X (.BoolOp .And (a :: b :: rest) pos) (CV ta tb):=by
 intro pins s σ H Q I h
 refine BoolOp_and (thn (ha pins s σ H _ I h) fun v s1 ⟨x,H1,I1,r1,q1⟩=>?_)
 obtain ⟨c,rfl,q1⟩:=q1
 cases r1
 refine wpAny_truthy_bool ?_
 cases c with
 | true=>exact hb pins s1 σ H1 Q I1 q1
 | false=>exact ⟨.bl false,H1,I1,rfl,q1⟩
theorem AK (ha:PE X a ta):PE X (.UnaryOp .Not a pos) (Dp ta):=by
 intro pins s σ H Q I h
 refine UnaryOp_ (thn (ha pins s σ H _ I h) fun v s1 ⟨x,H1,I1,r1,q1⟩=>?_)
 obtain ⟨c,rfl,q1⟩:=q1
 cases r1
 exact not_of (wpAny_truthy_bool ⟨.bl (!c),H1,I1,rfl,q1⟩)
noncomputable def tIf (t:TT) (ta tb:TE):TE:=fun σ H Q=>t σ H fun c H1=>if c=true then ta σ H1 Q else tb σ H1 Q
theorem ug {c:Expr} (hc:PT X c tA) (ha:PE X a ta) (hb:PE X b tb):PE X (.IfExp c a b pos) (tIf tA ta tb):=by
 intro pins s σ H Q I h
 refine wpAny_IfExp (thn (hc pins s σ H _ I h) fun d s1 ⟨H1,I1,q1⟩=>?_)
 cases d with
 | true=>exact ha pins s1 σ H1 Q I1 q1
 | false=>exact hb pins s1 σ H1 Q I1 q1
end
noncomputable def SqL (K:PySem.W.Frag) (H:Hp) (a:Addr) (xs:List V):Prop :=
 Rd H a (.lst xs) ∨
  ∃ (o:Obj) (its:Array Value) (n:Nat),K.lookup a=some o/\o.cls=.type "list" ∧ o.dict=none/\o.data=.seq its n/\its.size<=sizeLine/\aK xs its.toList
noncomputable def SqT (K:PySem.W.Frag) (H:Hp) (a:Addr) (xs:List V):Prop :=
 Rd H a (.tup xs) ∨
  ∃ (o:Obj) (its:Array Value) (n:Nat),K.lookup a=some o/\o.cls=.type "tuple" ∧ o.data=.seq its n/\its.size<=sizeLine/\aK xs its.toList
noncomputable def DT:Value->Option V
 | .none=>some .non
 | .bool b=>some (.bl b)
 | .int i _=>some (.int i)
 | .str x _=>some (.str x)
 | .bytes b _=>some (.byt b)
 | .float b _=>some (.flt b)
 | .ref a=>some (.ref a)
 | .type n=>some (.ty n)
 | _=>none
theorem RelV.abs {x:V} {u:Value} (r:RelV x u):DT u=some x:=by
 cases x with
 | non=>cases r;rfl
 | bl _=>cases r;rfl
 | int _=>obtain ⟨t,rfl⟩:=r;rfl
 | str _=>obtain ⟨t,rfl⟩:=r;rfl
 | byt _=>obtain ⟨t,rfl⟩:=r;rfl
 | flt _=>obtain ⟨t,rfl⟩:=r;rfl
 | ref _=>cases r;rfl
 | ty _=>cases r;rfl
theorem RelV.inj {x y:V} {u:Value} (r:RelV x u) (q:RelV y u):x=y:=Option.some.inj (r.abs.symm.trans q.abs)
theorem aK.inj:∀ {xs ys:List V} {us:List Value},aK xs us->aK ys us->xs=ys
 | _,_,_,.nil,.nil=>rfl
 | _,_,_,.cons r t,.cons r' t'=>by rw [r.inj r',aK.inj t t']
section
variable {X:Cx} {pins:List (Addr×Obj)} {σ:St} {H:Hp} {s:Shared} {a:Addr} {xs ys:List V}
theorem SqL.of {K:PySem.W.Frag} (h:H a=some (.lst xs)):SqL K H a xs:=.inl (.inl h)
theorem SqT.of {K:PySem.W.Frag} (h:H a=some (.tup xs)):SqT K H a xs:=.inl (.inl h)
theorem Inv.list (I:Inv X pins σ H s) (h:SqL X.K H a xs):∃ its:List Value,aK xs its/\PlainL s.heap a its.toArray/\xs.length<=sizeLine:=by
 rcases h with h | ⟨o,its,n,hk,hc,hd,hs,hz,r⟩
 ·obtain ⟨z,its,n,r,e⟩:=h.ok I.hok
  exact ⟨its,r,⟨_,n,e,rfl,rfl,rfl⟩,z⟩
 ·refine ⟨its.toList,r,⟨o,n,I.kIn a o hk,hc,hd,by simpa using hs⟩,?_⟩
  have e:=r.length
  simp only [Array.length_toList] at e
  lia
theorem Inv.tuple (I:Inv X pins σ H s) (h:SqT X.K H a xs):∃ its:List Value,aK xs its/\IsTup s.heap a its.toArray/\xs.length<=sizeLine:=by
 rcases h with h | ⟨o,its,n,hk,hc,hs,hz,r⟩
 ·obtain ⟨z,its,r,_,p⟩:=h.ok I.hok
  exact ⟨its,r,p,z⟩
 ·refine ⟨its.toList,r,⟨o,I.kIn a o hk,hc,n,by simpa using hs⟩,?_⟩
  have e:=r.length
  simp only [Array.length_toList] at e
  lia
theorem Inv.list_inj (I:Inv X pins σ H s) (h:SqL X.K H a xs) (h':SqL X.K H a ys):xs=ys:=by
 obtain ⟨its,r,⟨o,n,e,_,_,d⟩,_⟩:=I.list h
 obtain ⟨its',r',⟨o',n',e',_,_,d'⟩,_⟩:=I.list h'
 rw [e] at e';cases e'
 rw [d] at d'
 injection d' with d1 _
 have:its=its':=by simpa using congrArg Array.toList d1
 subst this
 exact r.inj r'
theorem Inv.tuple_inj (I:Inv X pins σ H s) (h:SqT X.K H a xs) (h':SqT X.K H a ys):xs=ys:=by
 obtain ⟨its,r,⟨o,e,_,n,d⟩,_⟩:=I.tuple h
 obtain ⟨its',r',⟨o',e',_,n',d'⟩,_⟩:=I.tuple h'
 rw [e] at e';cases e'
 rw [d] at d'
 injection d' with d1 _
 have:its=its':=by simpa using congrArg Array.toList d1
 subst this
 exact r.inj r'
end
noncomputable abbrev Cx.wish (X:Cx) (E:Value->Shared->Prop):Cx:={ X with xe:=E }
noncomputable abbrev Cx.nox (X:Cx):Cx:=X.wish fun _ _=>False
theorem Cx.Ok.wish {X:Cx} (ok:X.Ok) (E:Value->Shared->Prop):(X.wish E).Ok :=
 ⟨ok.mod,ok.kind,ok.glob,ok.blt,ok.above,ok.inj,ok.has,ok.cab,ok.hd,ok.frames,ok.stk,ok.exf,ok.bs,ok.bsz,ok.noex,ok.exfs,ok.funs,ok.frf⟩
theorem Cx.Ok.unwish {X:Cx} {E:Value->Shared->Prop} (ok:(X.wish E).Ok):X.Ok :=
 ⟨ok.mod,ok.kind,ok.glob,ok.blt,ok.above,ok.inj,ok.has,ok.cab,ok.hd,ok.frames,ok.stk,ok.exf,ok.bs,ok.bsz,ok.noex,ok.exfs,ok.funs,ok.frf⟩
section
variable {X:Cx} {pins:List (Addr×Obj)} {σ:St} {H:Hp} {s:Shared} {E:Value->Shared->Prop}
theorem Inv.wish (I:Inv X pins σ H s) (E:Value->Shared->Prop):Inv (X.wish E) pins σ H s:=⟨I.ok.wish E,I.os,I.bare,I.base,I.loc,I.cell,I.free,I.freeC,I.pin,I.hok,I.len⟩
theorem Inv.unwish (I:Inv (X.wish E) pins σ H s):Inv X pins σ H s:=⟨I.ok.unwish,I.os,I.bare,I.base,I.loc,I.cell,I.free,I.freeC,I.pin,I.hok,I.len⟩
theorem SP.unwish {D:Ends} {f:Flow} {s':Shared} (h:SP (X.wish E) pins D f s'):SP X pins D f s':=by
 cases f with
 | next=>obtain ⟨σ',H',I,q⟩:=h;exact ⟨σ',H',I.unwish,q⟩
 | brk=>obtain ⟨σ',H',I,q⟩:=h;exact ⟨σ',H',I.unwish,q⟩
 | cont=>obtain ⟨σ',H',I,q⟩:=h;exact ⟨σ',H',I.unwish,q⟩
 | ret u=>obtain ⟨v,σ',H',I,r,q⟩:=h;exact ⟨v,σ',H',I.unwish,r,q⟩
theorem PSs.nox {st:List Stmt} {t:TS} (h:PSs X.nox st t):PSs X st t:=fun pins s σ H D I hw =>
 wpAny_mono (h pins s σ H D (I.wish _) hw) (fun _ _ q=>q.unwish) fun _ _ z=>False.elim z
end
section
variable {X:Cx} {st:Stmt} {rest:List Stmt} {t u:TS} {e:Expr} {te:TE} {pos:Pos}
noncomputable def Dv:TS:=fun D σ H=>D.nx σ H
noncomputable def D2 (t u:TS):TS:=fun D σ H=>t { D with nx:=u D } σ H
theorem wQ:PSs X [] Dv:=fun _ _ σ H _ I h=>wpAny_execs_nil ⟨σ,H,I,h⟩
theorem vB (h1:PS X st t) (h2:PSs X rest u):PSs X (st :: rest) (D2 t u):=by
 intro pins s σ H D I h
 refine wpAny_execs_cons (thn (h1 pins s σ H { D with nx:=u D } I h) fun f s1 q=>?_)
 cases f with
 | next =>
  obtain ⟨σ',H',I',q⟩:=q
  exact h2 pins s1 σ' H' D I' q
 | ret v=>exact q
 | brk=>exact q
 | cont=>exact q
theorem xM (h1:PS X st t):PSs X [st] t:=by
 intro pins s σ H D I h
 refine wpAny_execs_cons (thn (h1 pins s σ H D I h) fun f s1 q=>?_)
 cases f with
 | next=>exact wpAny_execs_nil q
 | ret v=>exact q
 | brk=>exact q
 | cont=>exact q
theorem Inv.quiet {pins:List (Addr×Obj)} {σ:St} {H:Hp} {s:Shared} (I:Inv X pins σ H s):interactive X.env=false:=by simp [interactive,I.ok.kind]
noncomputable def Dq (te:TE):TS:=fun D σ H=>te σ H fun _ H1=>D.nx σ H1
theorem mW (he:PE X e te) (hs:swapsWith e none pos.line X.env=pure false:=by rfl):PS X (.Expr e pos) (Dq te):=by
 intro pins s σ H D I h
 exact wpAny_Expr_any (thn (he pins s σ H _ I h) fun v s1 ⟨x,H1,I1,r1,q1⟩=>⟨σ,H1,I1,q1⟩) I.quiet hs
noncomputable def D6 (te:TE):TS:=fun D σ H=>te σ H D.rt
theorem p0 (he:PE X e te):PS X (.Return (some e) pos) (D6 te):=by
 intro pins s σ H D I h
 exact wpAny_Return_some (thn (he pins s σ H _ I h) fun v s1 ⟨x,H1,I1,r1,q1⟩=>⟨x,σ,H1,I1,r1,q1⟩)
noncomputable def DX (c:TT) (t u:TS):TS:=fun D σ H=>c σ H fun b H1=>if b=true then t D σ H1 else u D σ H1
theorem Cu {c:Expr} {a b:List Stmt} {tc:TT} (hc:PT X c tc) (ha:PSs X a t) (hb:PSs X b u):PS X (.If c a b pos) (DX tc t u):=by
 intro pins s σ H D I h
 refine wpAny_If (thn (hc pins s σ H _ I h) fun d s1 ⟨H1,I1,q1⟩=>?_)
 cases d with
 | true=>exact ha pins s1 σ H1 D I1 q1
 | false=>exact hb pins s1 σ H1 D I1 q1
end
noncomputable abbrev TG:=V->St->Hp->(St->Hp->Prop)->Prop
noncomputable abbrev TGs:=List V->St->Hp->(St->Hp->Prop)->Prop
noncomputable def PG (X:Cx) (target:Expr) (t:TG):Prop :=
 ∀ (pins:List (Addr×Obj)) (s:Shared) (σ:St) (H:Hp) (v:V) (u:Value) (Q:St->Hp->Prop),Inv X pins σ H s->RelV v u->t v σ H Q →
  wpAny (model X.prog X.w) X.A (assign target X.env u) (fun _ s'=>∃ σ' H',Inv X pins σ' H' s'/\Q σ' H') X.xe s
noncomputable def PGs (X:Cx) (ts:List Expr) (t:TGs):Prop :=
 ∀ (pins:List (Addr×Obj)) (s:Shared) (σ:St) (H:Hp) (vs:List V) (us:List Value) (Q:St->Hp->Prop),Inv X pins σ H s->aK vs us->t vs σ H Q →
  wpAny (model X.prog X.w) X.A (assignInOrder ((assignEach ts X.env).map (·.2)) us) (fun _ s'=>∃ σ' H',Inv X pins σ' H' s'/\Q σ' H') X.xe s
noncomputable abbrev xK:=V->V->V->Hp->(Hp->Prop)->Prop
noncomputable def AI (X:Cx) (t:xK):Prop :=
 ∀ (pins:List (Addr×Obj)) (s:Shared) (σ:St) (H:Hp) (o i v:V) (ov iv u:Value) (Q:Hp->Prop),Inv X pins σ H s->RelV o ov->RelV i iv->RelV v u->t o i v H Q →
  wpAny (model X.prog X.w) X.A (setItem ov iv u) (fun _ s'=>∃ H',Inv X pins σ H' s'/\Q H') X.xe s
section
variable {X:Cx} {pos:Pos}
noncomputable def qi (i:Nat):TG:=fun v σ H Q=>Q (σ.set i (some v)) H
theorem rh {i:Nat} {x:Str} (hN:X.N.Nodup) (hi:X.N[i]?=some x) (hx:Loc X.env.scope x) (hf:X.fn x=true\/X.env.scope.names.lookup x=some .local:=by first | exact .inl rfl | exact .inr rfl | assumption):PG X (.Name x pos) (qi i):=by
 intro pins s σ H v u Q I r h
 exact wpAny_assign_Name (pA I hN hi hx r (fun s' I'=>⟨_,H,I',h⟩) hf)
noncomputable def Ec:TGs:=fun vs σ H Q=>vs=[]/\Q σ H
noncomputable def Dj (t:TG) (u:TGs):TGs:=fun vs σ H Q=>∃ v r,vs=v :: r/\t v σ H fun σ' H'=>u r σ' H' Q
theorem yY:PGs X [] Ec:=by
 intro pins s σ H vs us Q I r h
 obtain ⟨e,h⟩:=h
 subst e
 cases r
 exact assignInOrder_nil ⟨σ,H,I,h⟩
theorem uh {e:Expr} {es:List Expr} {t:TG} {u:TGs} (h1:PG X e t) (h2:PGs X es u)
  (hs:(assignEach (e :: es) X.env).map (·.2)=assign e X.env :: (assignEach es X.env).map (·.2):=by rfl):PGs X (e :: es) (Dj t u):=by
 intro pins s σ H vs us Q I r h
 obtain ⟨v,vr,e1,h⟩:=h
 subst e1
 cases r with
 | cons r rr =>
  rw [hs]
  refine assignInOrder_cons (thn (h1 pins s σ H _ _ _ I r h) fun _ s1 ⟨σ1,H1,I1,q1⟩=>?_)
  exact h2 pins s1 σ1 H1 _ _ Q I1 rr q1
noncomputable def kH (K:PySem.W.Frag) (n:Nat) (t:TGs):TG:=fun v σ H Q=>∃ a xs,v=.ref a/\SqT K H a xs/\xs.length=n/\t xs σ H Q
theorem Bt {es:List Expr} {k:Nat} {t:TGs} {n:Nat} (hc:X.calm=true) (h:PGs X es t)
  (hn:(assignEach es X.env).length=n:=by rfl) (hst:(assignEach es X.env).findIdx? (·.1)=none:=by rfl):PG X (.Tuple es k pos) (kH X.K n t):=by
 intro pins s σ H v u Q I r hw
 obtain ⟨a,xs,e1,hq,hl,hw⟩:=hw
 subst e1
 cases r
 obtain ⟨its,rv,ht,hz⟩:=I.tuple hq
 refine assign_Tuple_tuple (I.ok.hd hc) ht (by simp [hn,← hl,rv.length]) hst fun h' hx=>?_
 have I1:Inv X pins σ H { s with heap:=h' }:=I.kept (t':=s.toks) fun b o e=>hx b o (Zn (Zm e)) e
 exact h pins _ σ H xs _ Q I1 (by simpa using rv) hw
noncomputable def D8 (to ti:TE) (t:xK):TG:=fun v σ H Q=>to σ H fun o H1=>ti σ H1 fun i H2=>t o i v H2 fun H3=>Q σ H3
theorem AH {o i:Expr} {to ti:TE} {t:xK} (ho:PE X o to) (hi:PE X i ti) (hs:AI X t)
  (ha:∀ v,assign (.Subscript o i pos) X.env v=(do
   let ov ← holding [v] (eval o X.env)
   let iv ← holding [v,ov] (eval i X.env)
   standAt pos
   holding [v,ov,iv] (setItem ov iv v)
   release [v,ov,iv] []):=by intro _;rfl):PG X (.Subscript o i pos) (D8 to ti t):=by
 intro pins s σ H v u Q I r h
 rw [ha]
 refine Zz (wpAny_holding (thn (ho pins s σ H _ I h) fun ov s1 ⟨x,H1,I1,r1,q1⟩=>?_))
 refine Zz (wpAny_holding (thn (hi pins s1 σ H1 _ I1 q1) fun iv s2 ⟨y,H2,I2,r2,q2⟩=>?_))
 refine Zz (wpAny_standAt (Zz (wpAny_holding (thn (hs pins s2 σ H2 x y v ov iv u _ I2 r1 r2 r q2) fun _ s3 ⟨H3,I3,q3⟩=>?_))))
 exact wpAny_release ⟨σ,H3,I3,q3⟩
noncomputable def Cz (te:TE) (g:TG):TS:=fun D σ H=>te σ H fun x H1=>g x σ H1 D.nx
theorem As {tg e:Expr} {te:TE} {g:TG} (he:PE X e te) (hg:PG X tg g) (hs:swapsWithSole [tg] e pos.line X.env=pure false:=by rfl) (hw:swappedStores [tg] e X.env=pure none:=by rfl)
  (h1:(assignEach [tg] X.env).map (·.2)=[assign tg X.env]:=by rfl):PS X (.Assign [tg] e pos) (Cz te g):=by
 intro pins s σ H D I h
 refine wpAny_Assign_stores (thn (he pins s σ H _ I h) fun v s1 ⟨x,H1,I1,r1,q1⟩=>?_) hs hw
 rw [h1]
 exact thn (hg pins s1 σ H1 x v _ I1 r1 q1) fun _ s2 q=>q
theorem vW {i:Nat} {x:Str} {e:Expr} {te:TE} {pos':Pos} (hN:X.N.Nodup) (hi:X.N[i]?=some x) (hx:Loc X.env.scope x) (he:PE X e te) (hs:swapsWith e (some (.Name x pos')) pos.line X.env=pure false:=by rfl) (hf:X.fn x=true\/X.env.scope.names.lookup x=some .local:=by first | exact .inl rfl | exact .inr rfl | assumption) :
  PS X (.Assign [.Name x pos'] e pos) (Cz te (qi i)):=by
 intro pins s σ H D I h
 refine wpAny_Assign_Name (thn (he pins s σ H _ I h) fun v s1 ⟨y,H1,I1,r1,q1⟩=>?_) hs
 exact pA I1 hN hi hx r1 (fun s2 I2=>⟨_,H1,I2,q1⟩) hf
end
section
variable {X:Cx} {pos:Pos}
end
structure It where
 go:Nat->Hp->Prop
 yld:Nat->Hp->V->Hp->Prop
 stop:Nat->Hp->Prop
noncomputable def ik (X:Cx) (pins:List (Addr×Obj)) (H:Hp) (b:Addr):Prop :=
 H b=none/\b ≠ X.env.locals/\b ∉ X.fs/\(b∈X.ex\/X.s₀.heap.objs.size<=b)/\(∀ x c,X.env.cells.lookup x=some c->c ≠ b)/\∀ p∈X.pn++pins,p.1 ≠ b
theorem Inv.fpOk {X:Cx} {pins:List (Addr×Obj)} {σ:St} {H H':Hp} {s:Shared} {b:Addr} (I:Inv X pins σ H s) (hb:s.heap.objs.size<=b) (hn:H' b=none):ik X pins H' b:=by
 refine ⟨hn,Nat.ne_of_gt (Nat.lt_of_lt_of_le I.lt hb),I.nofs hb,.inr (Nat.le_trans I.sz hb),fun x c e z=>?_,fun p hp z=>?_⟩
 ·obtain ⟨v,q⟩:=I.cell x c e
  exact absurd (Nat.lt_of_lt_of_le q.lt (by rw [z];exact hb)) (Nat.lt_irrefl _)
 ·exact absurd (Nat.lt_of_lt_of_le (Zm (I.pin p hp).1) (by rw [z];exact hb)) (Nat.lt_irrefl _)
structure Turn (P:Program) (w:World) (K:PySem.W.Frag) (tg:Expr) (J:It) (fp:List Addr) (it:Addr) (tn:Nat->Heap->Prop):Prop where
 mem:it∈fp
 obj:∀ i h,tn i h->∀ b∈fp,∃ o,h.get? b=some o/\∀ v,o.data ≠ .cell v
 keep:∀ i h h',tn i h->(∀ b∈fp,∀ o,h.get? b=some o->h'.get? b=some o)->tn i h'
 item:∀ (X:Cx),X.prog=P->X.w=w->X.K=K->X.calm=true->∀ (i:Nat) (pins:List (Addr×Obj)) (s:Shared) (σ:St) (H:Hp) (E:Value->Shared->Prop),Inv X pins σ H s->(∀ b∈fp,ik X pins H b)->tn i s.heap->J.go i H →
  wpAny (model P w) X.A (pyNext (.ref it)) (fun r s1=>∃ u,r=some u ∧
   wpAny (model P w) X.A (letOwnedTupleGo tg (.ref it) u) (fun _ s2=>∃ x H',Inv X pins σ H' s2/\RelV x u/\J.yld i H x H'/\tn (i+1) s2.heap/\∀ b∈fp,H' b=none) E s1) E s
 done:∀ (X:Cx),X.prog=P->X.w=w->X.K=K->X.calm=true->∀ (i:Nat) (pins:List (Addr×Obj)) (s:Shared) (σ:St) (H:Hp) (E:Value->Shared->Prop),Inv X pins σ H s->(∀ b∈fp,ik X pins H b)->tn i s.heap->J.stop i H →
  wpAny (model P w) X.A (pyNext (.ref it)) (fun r s1=>r=none/\Inv X pins σ H s1) E s
 self:∀ (A:Around) (i:Nat) (s:Shared) (Q:Value->Shared->Prop) (E:Value->Shared->Prop),tn i s.heap->Q (.ref it) s->wpAny (model P w) A (pyIter (.ref it)) Q E s
noncomputable abbrev TI:=St->Hp->(It->Hp->Prop)->Prop
noncomputable def PIE (X:Cx) (pins:List (Addr×Obj)) (σ:St) (tg:Expr) (R:It->Hp->Prop) (itv:Value) (s2:Shared):Prop :=
 ∃ (it:Addr) (fp:List Addr) (tn:Nat->Heap->Prop) (J:It) (H':Hp),itv=.ref it/\Inv X pins σ H' s2/\Turn X.prog X.w X.K tg J fp it tn/\tn 0 s2.heap/\(∀ b∈fp,ik X pins H' b)/\R J H'
noncomputable def PI (X:Cx) (tg iter:Expr) (wi:TI):Prop :=
 ∀ (pins:List (Addr×Obj)) (s:Shared) (σ:St) (H:Hp) (R:It->Hp->Prop),Inv X pins σ H s->wi σ H R →
  wpAny (model X.prog X.w) X.A (eval iter X.env) (fun v s1=>wpAny (model X.prog X.w) X.A (pyIter v) (PIE X pins σ tg R) X.xe s1) X.xe s
theorem nZ {M:Model} {A:Around} {E:Value->Shared->Prop} {s:Shared} {tg:Expr} {it:Addr} {u:Value} {o:Obj} {n:String} {vs:Array Value} {Q:Unit->Shared->Prop} (ho:s.heap.get? it=some o) (hc:o.cls=.type n) (hd:o.data=.fields vs)
  (hn:["enumerate", "zip", "dict_itemiterator", "dict_reverseitemiterator", "odict_iterator", "itertools.zip_longest", "itertools.pairwise"].contains n=false) (hQ:Q () s):wpAny M A (letOwnedTupleGo tg (.ref it) u) Q E s:=by
 unfold letOwnedTupleGo
 cases tg <;> first
  | exact Zy hQ
  | (cases u <;> first
    | exact Zy hQ
    | (refine Zz (wpAny_load ho ?_)
       rw [hc,hd]
       show wpAny M A (if (["enumerate", "zip", "dict_itemiterator", "dict_reverseitemiterator", "odict_iterator", "itertools.zip_longest", "itertools.pairwise"].contains n && vs[0]? == some (rawInt _))=true then _ else _) Q E s
       rw [if_neg (by intro h;rw [hn,Bool.false_and] at h;cases h)]
       exact Zy hQ))
noncomputable def Itl (K:PySem.W.Frag) (a:Addr):It :=
 ⟨fun i H=>∃ xs x,SqL K H a xs/\xs[i]?=some x,fun i H x H'=>H'=H/\∀ xs,SqL K H a xs->xs[i]?=some x,fun i H=>∃ xs,SqL K H a xs/\xs.length<=i⟩
noncomputable def Itt (K:PySem.W.Frag) (a:Addr):It :=
 ⟨fun i H=>∃ xs x,SqT K H a xs/\xs[i]?=some x,fun i H x H'=>H'=H/\∀ xs,SqT K H a xs->xs[i]?=some x,fun i H=>∃ xs,SqT K H a xs/\xs.length<=i⟩
noncomputable def Itr (lo:Int) (n:Nat):It:=⟨fun i _=>i < n,fun i H x H'=>H'=H/\x=.int (lo+i),fun i _=>n<=i⟩
theorem si {P:Program} {w:World} {K:PySem.W.Frag} {tg:Expr} (a it:Addr):Turn P w K tg (Itl K a) [it] it (fun i h=>h.IsListIter it a i) where
 mem:=by simp
 obj:=fun i h st b hb=>by
  have e:b=it:=by simpa using hb
  subst e
  obtain ⟨o,e,c,d⟩:=st
  exact ⟨o,e,fun v z=>by rw [d] at z;cases z⟩
 keep:=fun i h h' st k=>st.at fun o e=>k it (by simp) o e
 item:=by
  intro X hP hw hK hc i pins s σ H E I hf st hg
  subst hP hw hK
  obtain ⟨xs,x,hq,hx⟩:=hg
  obtain ⟨its,rv,p,hz⟩:=I.list hq
  obtain ⟨u,hu,ru⟩:=rv.get hx
  obtain ⟨f0,f1,f2,f3,f4,f5⟩:=hf it (by simp)
  refine wpAny_pyNext_list_item st p.isList (x:=u) (by simpa using hu) fun h' st' sb=>?_
  have I1:Inv X pins σ H { s with heap:=h' }:=I.turned (t':=s.toks) (fun b o hb e=>(sb.2 b hb).trans e) f0 f1 f3 f4 f5
  obtain ⟨o,e,c,d⟩:=id st'
  exact ⟨u,rfl,nZ (s:={ s with heap:=h' }) e c d (by decide) ⟨x,H,I1,ru,⟨rfl,fun ys hy=>by rw [I.list_inj hy hq];exact hx⟩,st',fun b hb=>(hf b hb).1⟩⟩
 done:=by
  intro X hP hw hK hc i pins s σ H E I hf st hg
  subst hP hw hK
  obtain ⟨xs,hq,hx⟩:=hg
  obtain ⟨its,rv,p,hz⟩:=I.list hq
  obtain ⟨f0,f1,f2,f3,f4,f5⟩:=hf it (by simp)
  have hl:=rv.length
  exact wpAny_pyNext_list_end (I.ok.hd hc) st p.isList (by simp;lia) fun h' eb=>⟨rfl,I.turned (t':=s.toks) (fun b o hb e=>eb b o hb e) f0 f1 f3 f4 f5⟩
 self:=fun _ _ _ _ _ st h=>wpAny_pyIter_listiter st h
theorem p8 {P:Program} {w:World} {K:PySem.W.Frag} {tg:Expr} (a it:Addr):Turn P w K tg (Itt K a) [it] it (fun i h=>h.IsTupleIter it a i) where
 mem:=by simp
 obj:=fun i h st b hb=>by
  have e:b=it:=by simpa using hb
  subst e
  obtain ⟨o,e,c,d⟩:=st
  exact ⟨o,e,fun v z=>by rw [d] at z;cases z⟩
 keep:=fun i h h' st k=>st.at fun o e=>k it (by simp) o e
 item:=by
  intro X hP hw hK hc i pins s σ H E I hf st hg
  subst hP hw hK
  obtain ⟨xs,x,hq,hx⟩:=hg
  obtain ⟨its,rv,p,hz⟩:=I.tuple hq
  obtain ⟨u,hu,ru⟩:=rv.get hx
  obtain ⟨f0,f1,f2,f3,f4,f5⟩:=hf it (by simp)
  refine wpAny_pyNext_tuple_item st (show s.heap.IsTuple a its.toArray from p) (x:=u) (by simpa using hu) fun h' st' sb=>?_
  have I1:Inv X pins σ H { s with heap:=h' }:=I.turned (t':=s.toks) (fun b o hb e=>(sb.2 b hb).trans e) f0 f1 f3 f4 f5
  obtain ⟨o,e,c,d⟩:=id st'
  exact ⟨u,rfl,nZ (s:={ s with heap:=h' }) e c d (by decide) ⟨x,H,I1,ru,⟨rfl,fun ys hy=>by rw [I.tuple_inj hy hq];exact hx⟩,st',fun b hb=>(hf b hb).1⟩⟩
 done:=by
  intro X hP hw hK hc i pins s σ H E I hf st hg
  subst hP hw hK
  obtain ⟨xs,hq,hx⟩:=hg
  obtain ⟨its,rv,p,hz⟩:=I.tuple hq
  obtain ⟨f0,f1,f2,f3,f4,f5⟩:=hf it (by simp)
  have hl:=rv.length
  exact wpAny_pyNext_tuple_end (I.ok.hd hc) st (show s.heap.IsTuple a its.toArray from p) (by simp;lia) fun h' eb=>⟨rfl,I.turned (t':=s.toks) (fun b o hb e=>eb b o hb e) f0 f1 f3 f4 f5⟩
 self:=fun _ _ _ _ _ st h=>wpAny_pyIter_tupleiter st h
theorem pT {P:Program} {w:World} {K:PySem.W.Frag} {tg:Expr} (it:Addr) (lo:Int) (n:Nat):Turn P w K tg (Itr lo n) [it] it (fun i h=>IsRangeIter h it (lo+(i:Nat) * 1) ((n:Int) - (i:Nat)) 1) where
 mem:=by simp
 obj:=fun i h st b hb=>by
  have e:b=it:=by simpa using hb
  subst e
  exact ⟨_,st,fun v z=>by
   have z':Data.fields _=Data.cell v:=z
   cases z'⟩
 keep:=fun i h h' st k=>k it (by simp) _ st
 item:=by
  intro X hP hw hK hc i pins s σ H E I hf st hg
  subst hP hw hK
  obtain ⟨f0,f1,f2,f3,f4,f5⟩:=hf it (by simp)
  have W:=Walks.range (prog:=X.prog) (w:=X.w) (I.ok.hd hc) it lo 1 n
  refine W.item i s _ _ hg st fun v h' tk hv st' kk=>?_
  obtain ⟨t,rfl⟩:=hv
  have I1:Inv X pins σ H { s with heap:=h',toks:=tk }:=I.turned (fun b o hb e=>kk b o (by simpa using hb) e) f0 f1 f3 f4 f5
  refine ⟨_,rfl,nZ (s:={ s with heap:=h',toks:=tk }) (n := "range_iterator") st' rfl rfl (by decide) ⟨.int (lo+i),H,I1,⟨t,?_⟩,⟨rfl,rfl⟩,st',fun b hb=>(hf b hb).1⟩⟩
  rw [Int.mul_one]
 done:=by
  intro X hP hw hK hc i pins s σ H E I hf st hg
  subst hP hw hK
  obtain ⟨f0,f1,f2,f3,f4,f5⟩:=hf it (by simp)
  exact wpAny_pyNext_range_end (I.ok.hd hc) st (by have:n<=i:=hg;lia) fun h' eb=>⟨rfl,I.turned (t':=s.toks) (fun b o hb e=>eb b o hb e) f0 f1 f3 f4 f5⟩
 self:=fun _ _ _ _ _ st h=>wpAny_pyIter_rangeiter st h
section
variable {X:Cx} {tg:Expr}
theorem vL {pins:List (Addr×Obj)} {σ:St} {H:Hp} {s:Shared} {R:It->Hp->Prop} {E:Value->Shared->Prop} {lo hi:Int} {t u v:Tok} {tk:Nat} (I:Inv X pins σ H s) (h1:-(2 ^ 62)<=lo) (h2:lo < 2 ^ 62) (h3:-(2 ^ 62)<=hi) (h4:hi < 2 ^ 62)
  (q:R (Itr lo (hi - lo).toNat) H):wpAny (model X.prog X.w) X.A (pyIter (.ref s.heap.objs.size)) (PIE X pins σ tg R) E { s with heap:=s.heap.push { cls:=.type "range",data:=.fields #[.int lo t,.int hi u,.int 1 v] },toks:=tk }:=by
 refine wpAny_pyIter_range (IsRange.new ..) (small_one h1 h2 h3 h4) ?_
 have I1:Inv X pins σ H { s with heap:=s.heap.push { cls:=.type "range",data:=.fields #[.int lo t,.int hi u,.int 1 v] },toks:=tk }:=I.kept fun b o e=>Zu _ e
 refine ⟨(s.heap.push { cls:=.type "range",data:=.fields #[.int lo t,.int hi u,.int 1 v] }).objs.size,[(s.heap.push { cls:=.type "range",data:=.fields #[.int lo t,.int hi u,.int 1 v] }).objs.size],_,_,H,rfl,
  I1.kept (t':=tk) fun b o e=>Zu _ e,pT _ lo (hi - lo).toNat,?_,fun b hb=>?_,q⟩
 ·have e1:lo+((0:Nat):Int) * 1=lo:=by simp
  have e2:(((hi - lo).toNat:Nat):Int) - ((0:Nat):Int)=Builtin.Range.rangeSize lo hi 1:=by rw [rangeSize_one];split <;> lia
  show IsRangeIter _ _ (lo+((0:Nat):Int) * 1) ((((hi - lo).toNat:Nat):Int) - ((0:Nat):Int)) 1
  rw [e1,e2]
  exact Zo _ rfl
 ·have e:b=(s.heap.push { cls:=.type "range",data:=.fields #[.int lo t,.int hi u,.int 1 v] }).objs.size:=by simpa using hb
  subst e
  exact I1.fpOk (Zt _) (I1.hok.fresh (Zt _))
noncomputable def DD (ta:TA):TI:=fun σ H R=>ta σ H fun vs H1=>∃ j:Int,vs=[.int j]/\-(2 ^ 62)<=j/\j < 2 ^ 62/\R (Itr 0 j.toNat) H1
theorem sV {a:Expr} {ta:TA} {p pos:Pos} (hg:Gl X "range") (hm:X.mg "range" = none) (ha:PA X [a] ta) (hs:starEach [a] X.env=[(false,eval a X.env)]:=by rfl):PI X tg (.Call (.Name "range" p) [a] [] pos) (DD ta):=by
 intro pins s σ H R I h
 refine Call_ (iY I hg hm boot_range (PyProof.Rows.callWith_type1 (thn (ha pos pins s σ H _ I h) fun us s1 ⟨vs,H1,I1,r1,q1⟩=>?_) hs rfl))
 obtain ⟨j,e,q1,q2,q⟩:=q1
 subst e
 cases r1 with
 | cons r rr =>
  cases rr
  obtain ⟨t,rfl⟩:=r
  exact call_range_1 (vL I1 (by lia) (by lia) q1 q2 (by simpa using q))
noncomputable def Eo (wi:TI) (g:TG) (tb:TS):TS:=fun D σ H=>wi σ H fun J H1=>∃ W:Nat->Nat->St->Hp->Prop,(∃ m,W 0 m σ H1)/\∀ i m σ H,W i m σ H →
 (J.stop i H/\D.nx σ H)\/(J.go i H/\∃ N:St->Hp->Prop,(∀ σ' H',N σ' H'->∃ m',m' < m/\W (i+1) m' σ' H')/\∀ x H',J.yld i H x H'->g x σ H' fun σ2 H2=>tb { D with nx:=N,ct:=N,bk:=D.nx } σ2 H2)
noncomputable def jS (fp:List Addr) (h:Heap):List (Addr×Obj):=fp.filterMap fun b=>(h.get? b).map fun o=>(b,o)
theorem gg {fp:List Addr} {h:Heap} {b:Addr} {o:Obj} (hb:b∈fp) (e:h.get? b=some o):(b,o)∈jS fp h:=List.mem_filterMap.mpr ⟨b,hb,by rw [e];rfl⟩
theorem tq {fp:List Addr} {h:Heap} {p:Addr×Obj} (hp:p∈jS fp h):p.1∈fp/\h.get? p.1=some p.2:=by
 obtain ⟨b,hb,e⟩:=List.mem_filterMap.mp hp
 cases q:h.get? b with
 | none=>rw [q] at e;cases e
 | some o =>
  rw [q] at e
  have e':(b,o)=p:=Option.some.inj e
  subst e'
  exact ⟨hb,q⟩
theorem Inv.pinned {pins:List (Addr×Obj)} {σ:St} {H:Hp} {s:Shared} {fp:List Addr} (I:Inv X pins σ H s) (hf:∀ b∈fp,ik X pins H b) (ho:∀ b∈fp,∃ o,s.heap.get? b=some o/\∀ v,o.data ≠ .cell v):Inv X (pins++jS fp s.heap) σ H s :=
 I.pins_of fun p hp=>(Zh.mp hp).elim (fun z=>I.pin p (List.mem_append_right _ z)) fun z=>by
  obtain ⟨hb,e⟩:=tq z
  obtain ⟨f0,f1,f2,_⟩:=hf p.1 hb
  obtain ⟨o,e',d⟩:=ho p.1 hb
  rw [e] at e';cases e'
  exact ⟨e,f0,f1,f2,d⟩
theorem Inv.unpinned {pins pl:List (Addr×Obj)} {σ:St} {H:Hp} {s:Shared} (I:Inv X (pins++pl) σ H s):Inv X pins σ H s:=I.pins_of fun p hp=>I.pin p (List.mem_append_right _ (List.mem_append_left _ hp))
theorem AG {iter:Expr} {body:List Stmt} {wi:TI} {g:TG} {tb:TS} {pos:Pos} (hp:PassesOwn (model X.prog X.w) X.A X.env X.xe) (hc:X.calm=true) (hi:PI X tg iter wi) (hg:PG X tg g) (hb:PSs X body tb)
  (hs:∀ x,foldedSetIterable iter X.env x=pure x:=by intro _;rfl):PS X (.For tg iter body [] pos) (Eo wi g tb):=by
 intro pins s σ H D I h
 refine wpAny_For (thn (hi pins s σ H _ I h) fun v s1 h1=>thn h1 fun itv s2 h2=>?_) hs
 obtain ⟨it,fp,tn,J,H2,e,I2,T,st2,f2,W,⟨m0,w0⟩,turn⟩:=h2
 subst e
 have stat:∀ {H':Hp},(∀ b∈fp,H' b=none)->∀ b∈fp,ik X pins H' b:=fun hn b hb=>⟨hn b hb,(f2 b hb).2⟩
 refine codeAny_forLoop_any (fun n s'=>∃ i σ' H',Inv X pins σ' H' s'/\tn i s'.heap/\(∀ b∈fp,H' b=none)/\W i n σ' H') ?_ m0 ⟨0,σ,H2,I2,st2,fun b hb=>(f2 b hb).1,w0⟩
 rintro n s3 ⟨i,σ3,H3,I3,st3,fr3,w3⟩
 rcases turn i n σ3 H3 w3 with ⟨stop,qn⟩ | ⟨go,N,hN,step⟩
 ·refine wpAny_passesOwn hp (thn (T.done X rfl rfl rfl hc i pins s3 σ3 H3 X.xe I3 (stat fr3) st3 stop) fun r s4 ⟨hr,I4⟩=>?_)
  subst hr
  exact wpAny_execs_nil ⟨σ3,H3,I4,qn⟩
 ·refine wpAny_passesOwn hp (thn (T.item X rfl rfl rfl hc i pins s3 σ3 H3 X.xe I3 (stat fr3) st3 go) fun r s4 ⟨u,hr,h4⟩=>?_)
  subst hr
  refine wpAny_passesOwn hp (thn h4 fun _ s5 ⟨x,H5,I5,r5,y5,st5,fr5⟩=>?_)
  have I5':=I5.pinned (stat fr5) (T.obj _ _ st5)
  refine wpAny_passesOwn hp (thn (hg _ s5 σ3 H5 x u _ I5' r5 (step x H5 y5)) fun _ s6 ⟨σ6,H6,I6,q6⟩=>?_)
  refine wpAny_passesOwn hp (thn (hb _ s6 σ6 H6 _ I6 q6) fun f s7 q7=>?_)
  have again:∀ {σ7:St} {H7:Hp},Inv X (pins++jS fp s5.heap) σ7 H7 s7->N σ7 H7->∃ m,m < n/\∃ i σ' H',Inv X pins σ' H' s7/\tn i s7.heap/\(∀ b∈fp,H' b=none)/\W i m σ' H':=fun {σ7 H7} I7 n7=>by
   obtain ⟨m',hm,w7⟩:=hN σ7 H7 n7
   refine ⟨m',hm,i+1,σ7,H7,I7.unpinned,T.keep _ _ _ st5 fun b hb o e=>(I7.pin (b,o) (List.mem_append_right _ (List.mem_append_right _ (gg hb e)))).1,fun b hb=>?_,w7⟩
   obtain ⟨o,e,d⟩:=T.obj _ _ st5 b hb
   exact (I7.pin (b,o) (List.mem_append_right _ (List.mem_append_right _ (gg hb e)))).2.1
  cases f with
  | next=>obtain ⟨σ7,H7,I7,n7⟩:=q7;exact again I7 n7
  | cont=>obtain ⟨σ7,H7,I7,n7⟩:=q7;exact again I7 n7
  | brk=>obtain ⟨σ7,H7,I7,q7⟩:=q7;exact ⟨σ7,H7,I7.unpinned,q7⟩
  | ret v=>obtain ⟨x7,σ7,H7,I7,r7,q7⟩:=q7;exact ⟨x7,σ7,H7,I7.unpinned,r7,q7⟩
end
noncomputable abbrev R2:=V->V->Hp->VK->Prop
noncomputable def OpR (X:Cx) (f:Value->Value->Sem Value) (r:R2):Prop :=
 ∀ (pins:List (Addr×Obj)) (s:Shared) (σ:St) (H:Hp) (x y:V) (v u:Value) (Q:VK),Inv X pins σ H s->RelV x v->RelV y u->r x y H Q →
  wpAny (model X.prog X.w) X.A (f v u) (EP X pins σ Q) X.xe s
noncomputable def UnR (X:Cx) (f:Value->Sem Value) (r:V->Hp->VK->Prop):Prop :=
 ∀ (pins:List (Addr×Obj)) (s:Shared) (σ:St) (H:Hp) (x:V) (v:Value) (Q:VK),Inv X pins σ H s->RelV x v->r x H Q →
  wpAny (model X.prog X.w) X.A (f v) (EP X pins σ Q) X.xe s
noncomputable def dq (X:Cx) (f:Value) (r:List V->Hp->VK->Prop):Prop :=
 ∀ (pins:List (Addr×Obj)) (s:Shared) (σ:St) (H:Hp) (xs:List V) (us:List Value) (Q:VK),Inv X pins σ H s->aK xs us->r xs H Q →
  wpAny (model X.prog X.w) X.A (call f us) (EP X pins σ Q) X.xe s
noncomputable def D5 (X:Cx) (r:V->Hp->(Bool->Hp->Prop)->Prop):Prop :=
 ∀ (pins:List (Addr×Obj)) (s:Shared) (σ:St) (H:Hp) (x:V) (v:Value) (Q:Bool->Hp->Prop),Inv X pins σ H s->RelV x v->r x H Q →
  wpAny (model X.prog X.w) X.A (truthy v) (TP X pins σ Q) X.xe s
noncomputable def tOp (r:R2) (ta tb:TE):TE:=fun σ H Q=>ta σ H fun x H1=>tb σ H1 fun y H2=>r x y H2 Q
noncomputable def tUn (r:V->Hp->VK->Prop) (ta:TE):TE:=fun σ H Q=>ta σ H fun x H1=>r x H1 Q
noncomputable def rI (C:Int->Int->Prop) (g:Int->Int->V):R2:=fun x y H Q=>∃ i j,x=.int i/\y=.int j/\C i j/\Q (g i j) H
noncomputable def rI0 (g:Int->Int->V):R2:=fun x y H Q=>∃ i j,x=.int i/\y=.int j/\Q (g i j) H
noncomputable def rU (g:Int->V):V->Hp->VK->Prop:=fun x H Q=>∃ i,x=.int i/\Q (g i) H
section
variable {X:Cx} {a b c:Expr} {ta tb tc:TE} {pos:Pos}
theorem Bf (ha:PE X a ta) (hb:PE X b tb) {pins:List (Addr×Obj)} {s:Shared} {σ:St} {H:Hp} {R:V->V->Hp->Prop} (I:Inv X pins σ H s)
  (h:ta σ H fun x H1=>tb σ H1 fun y H2=>R x y H2) {Q:Value->Shared->Prop} {f:Value->Value->Sem Value}
  (hf:∀ v u s2 x y H2,Inv X pins σ H2 s2->RelV x v->RelV y u->R x y H2->wpAny (model X.prog X.w) X.A (f v u) Q X.xe s2) :
  wpAny (model X.prog X.w) X.A (eval a X.env) (fun v s₁=>wpAny (model X.prog X.w) X.A (eval b X.env) (fun u s₂=>wpAny (model X.prog X.w) X.A (f v u) Q X.xe s₂) X.xe s₁) X.xe s:=by
 refine thn (ha pins s σ H _ I h) fun v s1 ⟨x,H1,I1,r1,q1⟩=>?_
 refine thn (hb pins s1 σ H1 _ I1 q1) fun u s2 ⟨y,H2,I2,r2,q2⟩=>?_
 exact hf v u s2 x y H2 I2 r1 r2 q2
theorem CJ {op:Operator} {r:R2} (ho:OpR X (binaryOp op) r) (ha:PE X a ta) (hb:PE X b tb):PE X (.BinOp a op b pos) (tOp r ta tb):=by
 intro pins s σ H Q I h
 exact wpAny_BinOp (Bf ha hb I h fun v u s2 x y H2 I2 rx ry q=>ho pins s2 σ H2 x y v u Q I2 rx ry q)
theorem Du {op:UnaryOp} {r:V->Hp->VK->Prop} (ho:UnR X (unaryOp op) r) (ha:PE X a ta):PE X (.UnaryOp op a pos) (tUn r ta):=by
 intro pins s σ H Q I h
 exact UnaryOp_ (thn (ha pins s σ H _ I h) fun v s1 ⟨x,H1,I1,r1,q1⟩=>ho pins s1 σ H1 x v Q I1 r1 q1)
theorem opI {f:Value->Value->Sem Value} {C:Int->Int->Prop} {g:Int->Int->Int}
  (rule:∀ (i j:Int) (t u:Tok) (s:Shared) (Q:Value->Shared->Prop) (E:Value->Shared->Prop),C i j->Q (.int (g i j) s.toks) { s with toks:=s.toks+1 }->wpAny (model X.prog X.w) X.A (f (.int i t) (.int j u)) Q E s) :
  OpR X f (rI C fun i j=>.int (g i j)):=by
 intro pins s σ H x y v u Q I rx ry h
 obtain ⟨i,j,rfl,rfl,hc,q⟩:=h
 obtain ⟨t,rfl⟩:=rx
 obtain ⟨t',rfl⟩:=ry
 exact rule i j t t' s _ _ hc ⟨.int (g i j),H,I.tok _,⟨_,rfl⟩,q⟩
theorem CK {f:Value->Value->Sem Value} {g:Int->Int->Int}
  (rule:∀ (i j:Int) (t u:Tok) (s:Shared) (Q:Value->Shared->Prop) (E:Value->Shared->Prop),Q (.int (g i j) s.toks) { s with toks:=s.toks+1 }->wpAny (model X.prog X.w) X.A (f (.int i t) (.int j u)) Q E s) :
  OpR X f (rI0 fun i j=>.int (g i j)):=by
 intro pins s σ H x y v u Q I rx ry h
 obtain ⟨i,j,rfl,rfl,q⟩:=h
 obtain ⟨t,rfl⟩:=rx
 obtain ⟨t',rfl⟩:=ry
 exact rule i j t t' s _ _ ⟨.int (g i j),H,I.tok _,⟨_,rfl⟩,q⟩
theorem BY {f:Value->Value->Sem Value} {g:Int->Int->Bool}
  (rule:∀ (i j:Int) (t u:Tok) (s:Shared) (Q:Value->Shared->Prop) (E:Value->Shared->Prop),Q (.bool (g i j)) s->wpAny (model X.prog X.w) X.A (f (.int i t) (.int j u)) Q E s) :
  OpR X f (rI0 fun i j=>.bl (g i j)):=by
 intro pins s σ H x y v u Q I rx ry h
 obtain ⟨i,j,rfl,rfl,q⟩:=h
 obtain ⟨t,rfl⟩:=rx
 obtain ⟨t',rfl⟩:=ry
 exact rule i j t t' s _ _ ⟨.bl (g i j),H,I,rfl,q⟩
noncomputable def Dt (i j:Int):Prop:=0 < j/\j < 1073741824
noncomputable def xG (i j:Int):Prop:=(-(2 ^ 64) < i/\i < 2 ^ 64)\/(-(2 ^ 64) < j/\j < 2 ^ 64)
theorem xG.ok {i j:Int} (h:xG i j):IntMulOk i j:=by
 rcases h with ⟨h1,h2⟩ | ⟨h1,h2⟩
 ·exact .of_left (intBits_le_64 h1 h2)
 ·exact .of_right (intBits_le_64 h1 h2)
theorem Ai:OpR X (binaryOp .Add) (rI0 fun i j=>.int (i+j)):=CK fun _ _ _ _ _ _ _ q=>add_int q
theorem Aa:OpR X (binaryOp .Sub) (rI0 fun i j=>.int (i - j)):=CK fun _ _ _ _ _ _ _ q=>sub_int q
theorem Ah:OpR X (binaryOp .Mult) (rI xG fun i j=>.int (i * j)):=opI fun _ _ _ _ _ _ _ hc q=>mul_int q hc.ok
theorem yJ:OpR X (binaryOp .FloorDiv) (rI Dt fun i j=>.int (i / j)):=opI fun i j _ _ _ _ _ hc q=>by
 have h1:(0:Int) < j:=hc.1
 have h2:j < 1073741824:=hc.2
 exact floordiv_int (by lia) (by rw [Int.fdiv_eq_ediv_of_nonneg i (by lia)];exact q) (.inl (PyProof.noPylong_small (by lia)))
theorem BR:OpR X (binaryOp .Mod) (rI (fun _ j=>0 < j) fun i j=>.int (i % j)):=opI fun i j _ _ _ _ _ hc q=>by
 have h1:(0:Int) < j:=hc
 exact mod_int' (by lia) (by rw [Int.fmod_eq_emod_of_nonneg i (by lia)];exact q)
theorem unI {f:Value->Sem Value} {g:Int->Int}
  (rule:∀ (i:Int) (t:Tok) (s:Shared) (Q:Value->Shared->Prop) (E:Value->Shared->Prop),Q (.int (g i) s.toks) { s with toks:=s.toks+1 }->wpAny (model X.prog X.w) X.A (f (.int i t)) Q E s) :
  UnR X f (rU fun i=>.int (g i)):=by
 intro pins s σ H x v Q I rx h
 obtain ⟨i,rfl,q⟩:=h
 obtain ⟨t,rfl⟩:=rx
 exact rule i t s _ _ ⟨.int (g i),H,I.tok _,⟨_,rfl⟩,q⟩
theorem Av:UnR X (unaryOp .USub) (rU fun i=>.int (-i)):=unI fun _ _ _ _ _ q=>neg_int q
end
section
variable {X:Cx} {a b c:Expr} {ta tb tc:TE} {pos:Pos}
theorem Bg {pins:List (Addr×Obj)} {σ:St} {H:Hp} {s:Shared} {Q:VK} {k k':Bool} (I:Inv X pins σ H s) (q:Q (.bl k) H) (e:k=k'):EP X pins σ Q (.bool k') s:=by
 subst e
 exact ⟨.bl k,H,I,rfl,q⟩
theorem C0:OpR X (compareOp .Lt) (rI0 fun i j=>.bl (decide (i < j))):=BY fun _ _ _ _ _ _ _ q=>lt_int q
theorem DE:OpR X (compareOp .Gt) (rI0 fun i j=>.bl (decide (j < i))):=BY fun _ _ _ _ _ _ _ q=>gt_int q
theorem C1:OpR X (compareOp .GtE) (rI0 fun i j=>.bl (decide (j<=i))):=BY fun _ _ _ _ _ _ _ q=>ge_int q
theorem rH:OpR X (compareOp .Lt) (fun x y H Q=>∃ i j,x=.str i/\y=.str j/\Q (.bl (decide (i.cps.toList < j.cps.toList))) H):=by
 intro pins s σ H x y v u Q I rx ry h
 obtain ⟨i,j,rfl,rfl,q⟩:=h
 obtain ⟨t,rfl⟩:=rx
 obtain ⟨t',rfl⟩:=ry
 exact lt_str (Bg I q rfl)
theorem OpR.or {f:Value->Value->Sem Value} {r r':R2} (h:OpR X f r) (h':OpR X f r'):OpR X f (fun x y H Q=>r x y H Q\/r' x y H Q):=by
 intro pins s σ H x y v u Q I rx ry q
 rcases q with q | q
 ·exact h pins s σ H x y v u Q I rx ry q
 ·exact h' pins s σ H x y v u Q I rx ry q
theorem iO (b:Expr) {op:CmpOp} (h:op ≠ .In:=by decide) (h2:op ≠ .NotIn:=by decide):behindInMarks op b=false:=by
 have e1:(op == CmpOp.In)=false:=by cases op <;> first | rfl | exact absurd rfl h
 have e2:(op == CmpOp.NotIn)=false:=by cases op <;> first | rfl | exact absurd rfl h2
 cases b <;> simp [behindInMarks,e1,e2]
theorem zE {op:CmpOp} {r:R2} (ho:OpR X (compareOp op) r) (ha:PE X a ta) (hb:PE X b tb) (hm:behindInMarks op b=false):PE X (.Compare a [op] [b] pos) (tOp r ta tb):=by
 intro pins s σ H Q I h
 exact wpAny_Compare1 (Bf ha hb I h fun v u s2 x y H2 I2 rx ry q=>ho pins s2 σ H2 x y v u Q I2 rx ry q) hm
noncomputable def zO (t:TE):TT:=fun σ H Q=>t σ H fun x H'=>∃ k,x=.bl k/\Q k H'
theorem yK {op:CmpOp} {r:R2} (ho:OpR X (compareOp op) r) (ha:PE X a ta) (hb:PE X b tb) (hm:behindInMarks op b=false):PT X (.Compare a [op] [b] pos) (zO (tOp r ta tb)):=by
 intro pins s σ H Q I h
 refine wpAny_isTrue_Compare1 (thn (ha pins s σ H _ I h) fun v s1 ⟨x,H1,I1,r1,q1⟩=>thn (hb pins s1 σ H1 _ I1 q1) fun u s2 ⟨y,H2,I2,r2,q2⟩ =>
  thn (ho pins s2 σ H2 x y v u _ I2 r1 r2 q2) fun c s3 ⟨z,H3,I3,r3,k,e,q3⟩=>?_) hm
 subst e
 cases r3
 exact wpAny_truthy_bool ⟨H3,I3,q3⟩
noncomputable def Bc (K:PySem.W.Frag) (x:V) (H:Hp) (k:Bool):Prop :=
 match x with
 | .non=>k=false
 | .bl b=>k=b
 | .int i=>k=(i != 0)
 | .str y=>y.length<=sizeLine/\k=((y.length:Int) != 0)
 | .byt y=>y.size<=sizeLine/\k=((y.size:Int) != 0)
 | .ref p=>(∃ xs,SqL K H p xs/\k=!xs.isEmpty)\/(∃ xs,SqT K H p xs/\k=!xs.isEmpty)\/∃ kvs,H p=some (.dK kvs)/\k=!kvs.isEmpty
 | _=>False
theorem pX {κ:Type} {kvs:List (κ×V)} {vs:List (κ×Value)} (r:KV kvs vs):(!vs.isEmpty)=!kvs.isEmpty:=by
 cases r <;> rfl
theorem jM {xs:List V} {its:List Value} (r:aK xs its):(!its.toArray.isEmpty)=!xs.isEmpty:=by
 cases r <;> simp
theorem iW:(sizeLine:Nat) < 2 ^ 63:=by rw [sizeLine_eq];decide
theorem Bo:D5 X (fun x H Q=>∃ k,Bc X.K x H k/\Q k H):=by
 intro pins s σ H x v Q I rx h
 obtain ⟨k,e,q⟩:=h
 have hl:=iW
 have hs:sizeLine=16777216:=sizeLine_eq
 cases x with
 | non =>
  cases rx
  have e':k=false:=e
  subst e'
  exact truthy_none ⟨H,I,q⟩
 | bl b =>
  cases rx
  have e':k=b:=e
  subst e'
  exact wpAny_truthy_bool ⟨H,I,q⟩
 | int i =>
  obtain ⟨t,rfl⟩:=rx
  have e':k=(i != 0):=e
  subst e'
  exact PySem.P.truthy_int ⟨H,I,q⟩
 | str y =>
  obtain ⟨t,rfl⟩:=rx
  obtain ⟨hy,e'⟩:y.length<=sizeLine/\k=((y.length:Int) != 0):=e
  subst e'
  exact PySem.P.truthy_str (by lia) ⟨H,I.tok _,q⟩
 | byt y =>
  obtain ⟨t,rfl⟩:=rx
  obtain ⟨hy,e'⟩:y.size<=sizeLine/\k=((y.size:Int) != 0):=e
  subst e'
  exact PySem.W.truthy_bytes (by lia) ⟨H,I.tok _,q⟩
 | ref p =>
  cases rx
  have e':(∃ xs,SqL X.K H p xs/\k=!xs.isEmpty)\/(∃ xs,SqT X.K H p xs/\k=!xs.isEmpty)\/∃ kvs,H p=some (.dK kvs)/\k=!kvs.isEmpty:=e
  rcases e' with ⟨xs,hx,e'⟩ | ⟨xs,hx,e'⟩ | ⟨kvs,hx,e'⟩
  ·subst e'
   obtain ⟨its,r,pl,hz⟩:=I.list hx
   have hlen:=r.length
   exact wpAny_truthy_list pl.isList (by simp only [List.size_toArray];lia) ⟨H,I.tok _,by rw [jM r];exact q⟩
  ·subst e'
   obtain ⟨its,r,pl,hz⟩:=I.tuple hx
   have hlen:=r.length
   exact truthy_tuple pl (by simp only [List.size_toArray];lia) ⟨H,I.tok _,by rw [jM r];exact q⟩
  ·subst e'
   obtain ⟨hz,hS,vs,r,m⟩:kvs.length<=sizeLine/\(p == sysModules)=false/\∃ vs,KV kvs vs/\s.heap.DictOf (aN X.prog X.w) p vs:=I.hok p _ hx
   have hlen:kvs.length=vs.length:=Paired.length r
   exact wpAny_truthy_dict hS m (by lia) ⟨H,I.tok _,by rw [pX r];exact q⟩
 | _=>exact (show False from e).elim
theorem ub (ha:PE X a ta) (he:∀ whole,isTrue a X.env whole=(do let v ← whole;standAt a.pos;holding [v] (truthy v))) :
  PT X a (fun σ H Q=>ta σ H fun x H'=>∃ k,Bc X.K x H' k/\Q k H'):=by
 intro pins s σ H Q I h
 exact isTrue_plain (thn (ha pins s σ H _ I h) fun v s1 ⟨x,H1,I1,r1,q1⟩=>Bo pins s1 σ H1 x v Q I1 r1 q1) (he _)
theorem pP:OpR X (binaryOp .Add) (fun x y H Q=>∃ i j,x=.str i/\y=.str j/\i.length+j.length<=sizeLine/\Q (.str (i++j)) H):=by
 intro pins s σ H x y v u Q I rx ry h
 obtain ⟨i,j,rfl,rfl,hz,q⟩:=h
 obtain ⟨t,rfl⟩:=rx
 obtain ⟨t',rfl⟩:=ry
 exact add_str (fun t' tk=>⟨.str (i++j),H,I.tok _,⟨_,rfl⟩,q⟩) hz
theorem vals1 {x:V} {us:List Value} (r:aK [x] us):∃ u,us=[u]/\RelV x u:=by
 cases r with
 | cons r1 r2=>cases r2;exact ⟨_,rfl,r1⟩
theorem vals2 {x y:V} {us:List Value} (r:aK [x,y] us):∃ u w',us=[u,w']/\RelV x u/\RelV y w':=by
 cases r with
 | cons r1 r2 =>
  cases r2 with
  | cons r3 r4=>cases r4;exact ⟨_,_,rfl,r1,r3⟩
theorem sF (hc:X.calm=true):dq X (.builtin "min") (fun xs H Q=>∃ i j,xs=[.int i,.int j]/\Q (.int (if j < i then j else i)) H):=by
 intro pins s σ H xs us Q I r h
 obtain ⟨i,j,rfl,q⟩:=h
 obtain ⟨u,w',rfl,⟨t,rfl⟩,⟨t',rfl⟩⟩:=vals2 r
 refine min_two_ints (I.ok.hd hc) fun h' tk k=>⟨_,H,I.kept k,?_,q⟩
 by_cases hj:j < i
 ·rw [if_pos hj,if_pos hj];exact ⟨_,rfl⟩
 ·rw [if_neg hj,if_neg hj];exact ⟨_,rfl⟩
noncomputable def B6 (K:PySem.W.Frag) (x:V) (H:Hp) (n:Nat):Prop :=
 match x with
 | .str y=>y.length<=sizeLine/\n=y.length
 | .byt y=>y.size<=sizeLine/\n=y.size
 | .ref p=>(∃ xs,SqL K H p xs/\n=xs.length)\/∃ xs,SqT K H p xs/\n=xs.length
 | _=>False
theorem vY:dq X (.builtin "len") (fun xs H Q=>∃ x n,xs=[x]/\B6 X.K x H n/\Q (.int n) H):=by
 intro pins s σ H xs us Q I r h
 obtain ⟨x,n,rfl,e,q⟩:=h
 obtain ⟨u,rfl,rx⟩:=vals1 r
 have hl:=iW
 have hs:sizeLine=16777216:=sizeLine_eq
 cases x with
 | str y =>
  obtain ⟨t,rfl⟩:=rx
  obtain ⟨hy,e'⟩:y.length<=sizeLine/\n=y.length:=e
  subst e'
  exact len_str (by lia) ⟨.int _,H,I.tok _,⟨_,rfl⟩,q⟩
 | byt y =>
  obtain ⟨t,rfl⟩:=rx
  obtain ⟨hy,e'⟩:y.size<=sizeLine/\n=y.size:=e
  subst e'
  exact PySem.W.len_bytes (by lia) ⟨.int _,H,I.tok _,⟨_,rfl⟩,q⟩
 | ref p =>
  cases rx
  have e':(∃ xs,SqL X.K H p xs/\n=xs.length)\/∃ xs,SqT X.K H p xs/\n=xs.length:=e
  rcases e' with ⟨xs,hx,e'⟩ | ⟨xs,hx,e'⟩
  ·subst e'
   obtain ⟨its,r',pl,hz⟩:=I.list hx
   have hlen:=r'.length
   exact Calls.call_len_list pl.isList (by simp only [List.size_toArray];lia) ⟨.int xs.length,H,I.tok _,⟨_,by simp only [List.size_toArray];rw [hlen]⟩,q⟩
  ·subst e'
   obtain ⟨its,r',pl,hz⟩:=I.tuple hx
   have hlen:=r'.length
   exact len_tuple pl (by simp only [List.size_toArray];lia) ⟨.int xs.length,H,I.tok _,⟨_,by simp only [List.size_toArray];rw [hlen]⟩,q⟩
 | _=>exact (show False from e).elim
end
structure ObjM (h:Heap) (x dx C:Addr) (mA:Str->Option Value):Prop where
 obj:h.get? x=some (PySem.W.instObj C dx)
 ns:h.Ns1 dx mA
 ne:dx ≠ x
theorem sH {h:Heap} {dx:Addr} {mA:Str->Option Value} (n:h.Ns1 dx mA):∃ od,h.get? dx=some od/\∀ name,PySem.W.lookIn name od=some (mA name):=by
 obtain ⟨o,es,ep,ho,hd,hk,_,hm⟩:=n
 refine ⟨o,ho,fun name=>?_⟩
 have e:=hm name
 unfold nsFind findBy at e
 rw [← Array.find?_toList] at e
 unfold PySem.W.lookIn
 rw [hd]
 dsimp only
 split
 ·rename_i y q
  rw [q] at e
  exact congrArg some e
 ·rename_i q
  rw [q] at e
  have a:es.toList.any (·.refKey)=false:=by
   rw [List.any_eq_false]
   intro y hy
   obtain ⟨z,t,hkey⟩:=hk y (Array.mem_toList_iff.mp hy)
   simp [DictEntry.refKey,hkey]
  have a':¬ es.toList.any (·.refKey)=true:=by rw [a];exact Zp
  rw [if_neg a']
  exact congrArg some e
theorem ObjM.look {h:Heap} {x dx C:Addr} {mA:Str->Option Value} (I:ObjM h x dx C mA):∃ od,PySem.W.InstAt h x (PySem.W.instObj C dx) C (some od)/\∀ name,PySem.W.lookIn name od=some (mA name) :=
 let ⟨od,ho,hl⟩:=sH I.ns
 ⟨od,⟨I.obj,rfl,rfl,ho⟩,hl⟩
section
variable {prog:Program} {w:World} {A:Around} {E:Value->Shared->Prop} {s:Shared} {K:PySem.W.Frag} {x dx C f:Addr} {mA:Str->Option Value} {name:Str} {v:Value}
end
theorem iM.some_of {v:V} {o:Option Value} (r:iM (some v) o):∃ u,o=some u/\RelV v u:=by
 cases o with
 | none=>exact (show False from r).elim
 | some u=>exact ⟨u,rfl,r⟩
section
variable {P:Program} {w:World} {H H':Hp} {h h':Heap} {a C dx:Addr} {fs fs':List (Str×V)}
theorem xT (hok:HOk P w H h) (e:H a=some (.ins C dx fs)):∃ mA,ObjM h a dx C mA/\(∀ f,iM (fs.lookup f) (mA f))/\PySem.Within mA (fs.map (·.1))/\fs.length<=1000/\H dx=some (.own a):=by
 obtain ⟨d,z,ne,ob,mA,n,r,q⟩:=(show aS P w H h a (.ins C dx fs) from hok a _ e)
 exact ⟨mA,⟨ob,n,ne⟩,r,q,z,d⟩
end
structure Cls (K:PySem.W.Frag) (C:Addr):Prop where
 pg:PySem.W.plainGet K C Str.empty=true
 hd:PySem.W.hasDictIn K C=true
 po:PySem.W.plainOver K C=true
 sa:PySem.W.findIn K (.ref C) "__setattr__" = some (some (.builtin "object.__setattr__"))
theorem Cls.get {K:PySem.W.Frag} {C:Addr} (c:Cls K C) (f:Str):PySem.W.plainGet K C f=true:=c.pg
section
variable {X:Cx} {pins:List (Addr×Obj)} {σ:St} {H:Hp} {s:Shared} {a C dx:Addr} {fs:List (Str×V)} {f:Str} {v:V} {A:Around} {E:Value->Shared->Prop}
end
section
variable {X:Cx} {o e value:Expr} {f:Str} {pos pos' tpos:Pos} {ta tv:TE}
noncomputable def Bq:V->V->Hp->VK->Prop:=fun x y H Q=>∃ i j,x=.int i/\y=.int j/\Q (.int (i+j)) H
end
section
variable {X:Cx} {pins:List (Addr×Obj)} {σ:St} {H:Hp} {s:Shared} {A:Around} {E:Value->Shared->Prop} {Q:Value->Shared->Prop} {c:Value} {b:Bool}
inductive TyOf (K:PySem.W.Frag) (H:Hp):V->Value->Prop where
 | non:TyOf K H .non (.type "NoneType")
 | bl (x:Bool):TyOf K H (.bl x) (.type "bool")
 | int (i:Int):TyOf K H (.int i) (.type "int")
 | str (x:Str):TyOf K H (.str x) (.type "str")
 | flt (x:UInt64):TyOf K H (.flt x) (.type "float")
 | lst {a:Addr} {xs:List V} (e:H a=some (.lst xs)):TyOf K H (.ref a) (.type "list")
 | frz {a:Addr} {o:Obj} {xs:List V} (e:H a=some (.frz o (.lst xs))):TyOf K H (.ref a) (.type "list")
 | tup {a:Addr} {xs:List V} (e:H a=some (.tup xs)):TyOf K H (.ref a) (.type "tuple")
 | dK {a:Addr} {kvs:List (Key×V)} (e:H a=some (.dK kvs)):TyOf K H (.ref a) (.type "dict")
 | dT {a:Addr} {kvs:List (List Key×V)} (e:H a=some (.dT kvs)):TyOf K H (.ref a) (.type "dict")
 | ins {a C dx:Addr} {fs:List (Str×V)} (e:H a=some (.ins C dx fs)) (cl:Cls K C) (ha:PySem.W.findIn K (.ref C) "__class__" = some (some (.builtin "object.__class__")))
   (hn:PySem.W.specialIn K (.builtin "object.__class__") "__get__" = some (some (.builtin "getset_descriptor.__get__"))) (htk:PySem.W.takesIn K (.builtin "object.__class__")=some true)
   (hm:PySem.W.mroIn K C (.type "object")=some true):TyOf K H (.ref a) (.ref C)
theorem rM {x:V} {u t:Value} (I:Inv X pins σ H s) (rx:RelV x u) (ty:TyOf X.K H x t) (e:PySem.W.kitOne X.K t c=some b) (h:∀ tk,Q (.bool b) { s with toks:=tk }) :
  wpAny (model X.prog X.w) A (call (.builtin "isinstance") [u,c]) Q E s:=by
 cases ty with
 | non=>cases (show u=Value.none from rx);exact PySem.W.kia_one PySem.W.kitx_none I.kIn True.intro e (fun z=>nomatch z) h
 | bl y=>cases (show u=Value.bool y from rx);exact PySem.W.kia_one PySem.W.kitx_bool I.kIn True.intro e (fun z=>nomatch z) h
 | int i=>obtain ⟨t,q⟩:=(show ∃ t,u=Value.int i t from rx);cases q;exact PySem.W.kia_one PySem.W.kitx_int I.kIn True.intro e (fun z=>nomatch z) h
 | str y=>obtain ⟨t,q⟩:=(show ∃ t,u=Value.str y t from rx);cases q;exact PySem.W.kia_one PySem.W.kitx_str I.kIn True.intro e (fun z=>nomatch z) h
 | flt y=>obtain ⟨t,q⟩:=(show ∃ t,u=Value.float y t from rx);cases q;exact PySem.W.kia_one PySem.W.kitx_float I.kIn True.intro e (fun z=>nomatch z) h
 | @lst a xs ea =>
  cases (show u=Value.ref a from rx)
  obtain ⟨_,_,n,_,h1⟩:=(show aS X.prog X.w H s.heap a (.lst xs) from I.hok a _ ea)
  exact PySem.W.kia_one PySem.W.kitx_list I.kIn ⟨_,h1,rfl⟩ e (fun z=>nomatch z) h
 | @frz a ob xs ea =>
  cases (show u=Value.ref a from rx)
  obtain ⟨_,_,_,n,_,h1⟩:=(show aS X.prog X.w H s.heap a (.frz ob (.lst xs)) from I.hok a _ ea)
  exact PySem.W.kia_one PySem.W.kitx_list I.kIn ⟨_,h1,rfl⟩ e (fun z=>nomatch z) h
 | @tup a xs ea =>
  cases (show u=Value.ref a from rx)
  obtain ⟨_,_,_,_,p⟩:=(show aS X.prog X.w H s.heap a (.tup xs) from I.hok a _ ea)
  obtain ⟨o,h1,h2,_⟩:=p
  exact PySem.W.kia_one PySem.W.kitx_tuple I.kIn ⟨o,h1,h2⟩ e (fun z=>nomatch z) h
 | @dK a kvs ea =>
  cases (show u=Value.ref a from rx)
  obtain ⟨_,_,vs,_,p⟩:=(show aS X.prog X.w H s.heap a (.dK kvs) from I.hok a _ ea)
  obtain ⟨o,es,ep,h1,h2,_⟩:=p
  exact PySem.W.kia_one PySem.W.kitx_dict I.kIn ⟨o,h1,h2.1⟩ e (fun z=>nomatch z) h
 | @dT a kvs ea =>
  cases (show u=Value.ref a from rx)
  obtain ⟨_,_,xs,_,o,es,ep,h1,h2,_⟩:=(show aS X.prog X.w H s.heap a (.dT kvs) from I.hok a _ ea)
  exact PySem.W.kia_one PySem.W.kitx_dict I.kIn ⟨o,h1,h2.1⟩ e (fun z=>nomatch z) h
 | @ins a C dx fs ea cl ha hn htk hm =>
  cases (show u=Value.ref a from rx)
  obtain ⟨mA,O,_⟩:=xT I.hok ea
  obtain ⟨od,J,_⟩:=O.look
  exact PySem.W.kia_one (PySem.W.kitx_own (cl.get _) cl.hd ha hn htk hm) I.kIn J e (fun z=>nomatch z) h
end
structure Room (k:Nat) (A:Around):Prop where
 hd:A.handled=none
 dp:A.depth+3 * k+5 < recursionLimit
 un:A.units+16 * k+200 < cLine
theorem Room.mono {j k:Nat} {A:Around} (r:Room k A) (h:j<=k):Room j A:=⟨r.hd,by have:=r.dp;lia,by have:=r.un;lia⟩
theorem Room.deeper {k:Nat} {A:Around} (r:Room (k+1) A) (env:Env):Room k (A.deeper env) :=
 ⟨r.hd,by have:=r.dp;show A.depth+1+3 * k+5 < _;lia,by have:=r.un;show A.units+3+16 * k+200 < _;lia⟩
theorem Room.in1 {k:Nat} {A:Around} (r:Room (k+1) A):Room k A.in1 :=
 ⟨r.hd,by have:=r.dp;show A.depth+3 * k+5 < _;lia,by have:=r.un;show A.units+1+16 * k+200 < _;lia⟩
theorem Room.depth {k:Nat} {A:Around} (r:Room k A):A.depth < recursionLimit:=by have:=r.dp;lia
theorem Room.units {k:Nat} {A:Around} (r:Room k A):A.units+64 < cLine:=by have:=r.un;lia
noncomputable def B7:TA:=fun _ H Q=>Q [] H
noncomputable def zL (ta:TE) (tr:TA):TA:=fun σ H Q=>ta σ H fun x H1=>tr σ H1 fun xs H2=>Q (x :: xs) H2
section
variable {X:Cx} {e:Expr} {es:List Expr} {te:TE} {t:TA} {pos:Pos}
theorem fB:PA X [] B7:=fun _ _ _ _ H Q I h=>Calls.spliced_nil ⟨[],H,I,.nil,h⟩
theorem dU (ha:PE X e te) (hr:PA X es t) (hs:starEach (e :: es) X.env=(false,eval e X.env) :: starEach es X.env:=by rfl):PA X (e :: es) (zL te t):=by
 intro pos pins s σ H Q I h
 rw [hs]
 show wpAny _ _ (spliced ((false,eval e X.env) :: backTo pos (starEach es X.env))) _ _ s
 refine Calls.spliced_cons (thn (ha pins s σ H _ I h) fun u s1 ⟨x,H1,I1,r1,q1⟩=>?_)
 exact thn (hr pos pins s1 σ H1 _ I1 q1) fun us s2 ⟨xs,H2,I2,r2,q2⟩=>⟨x :: xs,H2,I2,.cons r1 r2,q2⟩
noncomputable def Em (t:TA):TE:=fun σ H Q=>t σ H fun xs H1=>xs.length<=sizeLine/\∀ p,H1 p=none->Q (.ref p) (upd H1 p (.tup xs))
noncomputable def DS (t:TA):TE:=fun σ H Q=>t σ H fun xs H1=>xs.length<=sizeLine/\∀ p,H1 p=none->Q (.ref p) (upd H1 p (.lst xs))
theorem BK {x1} (h:PA X es t):PE X (.Tuple es x1 pos) (Em t):=by
 intro pins s σ H Q I hq
 refine wpAny_Tuple_spliced (thn (h pos pins s σ H _ I hq) fun us s1 ⟨xs,H1,I1,r,z,q⟩=>⟨by rw [← r.length];exact z,?_⟩)
 have hf:H1 s1.heap.objs.size=none:=I1.hok.fresh (Zt _)
 refine ⟨.ref s1.heap.objs.size,upd H1 s1.heap.objs.size (.tup xs),I1.laid (t':=s1.toks) (fun b u e=>Zu _ e) (Zt _) ?_,rfl,q _ hf⟩
 exact ⟨z,us,r,NoD.of (Zo _ rfl) rfl,⟨_,Zo _ rfl,rfl,_,rfl⟩⟩
theorem mB (h:PA X es t):PE X (.List es pos) (DS t):=by
 intro pins s σ H Q I hq
 refine wpAny_List_spliced (thn (h pos pins s σ H _ I hq) fun us s1 ⟨xs,H1,I1,r,z,q⟩=>⟨by rw [← r.length];exact z,?_⟩)
 have hf:H1 s1.heap.objs.size=none:=I1.hok.fresh (Zt _)
 refine ⟨.ref s1.heap.objs.size,upd H1 s1.heap.objs.size (.lst xs),I1.laid (t':=s1.toks) (fun b u e=>Zu _ e) (Zt _) ?_,rfl,q _ hf⟩
 exact ⟨z,us,0,r,Zo _ rfl⟩
end
noncomputable abbrev Sp:=List V->Hp->VK->XK->Prop
noncomputable abbrev CXT:=List Env->Hp->Shared->XK->Value->Shared->Prop
structure Env0 (P:Program) (w:World) (K:PySem.W.Frag) (mg:Str->Option Value) (base:Heap) (A:Around) (outer:List Env) (s:Shared) (H:Hp):Prop where
 frames:A.frames=some outer
 mod:Mod K mg base
 bs:∀ b o,base.get? b=some o->s.heap.get? b=some o/\H b=none
 bsz:base.objs.size<=s.heap.objs.size
 funs:s.heap.FunFrames base outer
 frf:∀ b∈frs outer,H b=none
 hok:HOk P w H s.heap
 bare:AllBare s.gens
noncomputable def CE (outer:List Env) (P:Program) (w:World) (H:Hp) (s:Shared) (Q:VK) (u:Value) (s':Shared):Prop :=
 ∃ v H',s'.os=s.os/\AllBare s'.gens/\Un (frs outer) [] H H' s.heap s'.heap/\HOk P w H' s'.heap/\RelV v u/\Q v H'
noncomputable def CR (CX:CXT) (outer:List Env) (P:Program) (w:World) (H:Hp) (s:Shared) (Q:VK) (E:XK) (r:Result) (s':Shared):Prop :=
 match r with
 | .ok (.ret u)=>CE outer P w H s Q u s'
 | .ok _=>False
 | .error e=>CX outer H s E e s'
structure FnOk (P:Program) (w:World) (K:PySem.W.Frag) (mg:Str->Option Value) (base:Heap) (CX:CXT) (k:Nat) (f:Addr) (fd:FuncData) (ps:List Str) (sp:Sp):Prop where
 len:∀ vs H Q E,sp vs H Q E->vs.length=ps.length
 run:∀ (A:Around) (outer:List Env) (s:Shared) (H:Hp) (args:Args) (us:List Value) (vs:List V) (Q:VK) (E:XK),Room k A->Env0 P w K mg base A outer s H->BindsTo s fd args (ps.zip us)->aK vs us->sp vs H Q E →
  codeAny (model P w) A (.call (.ref f) args) (CR CX outer P w H s Q E) s
section
variable {X:Cx} {pins:List (Addr×Obj)} {σ:St} {H:Hp} {s s':Shared}
theorem Inv.env0 (I:Inv X pins σ H s):Env0 X.prog X.w X.K X.mg X.base X.A X.stack s H :=
 ⟨I.ok.frames,I.ok.mod,I.bs,Nat.le_trans I.ok.bsz I.sz,I.stack,I.stkFree,I.hok,I.bare⟩
theorem Inv.after {Q:VK} {u:Value} (I:Inv X pins σ H s) (h:CE X.stack X.prog X.w H s Q u s'):EP X pins σ Q u s':=by
 obtain ⟨v,H',os,bare,un,hok,r,q⟩:=h
 obtain ⟨hh,g,d,t,os'⟩:=s'
 obtain rfl:os'=s.os:=os
 exact ⟨v,H',I.call (h':=hh) (g':=g) (d':=d) (t':=t) (ch:=[]) un hok bare (fun b z=>absurd z (by simp)),r,q⟩
end
noncomputable def zJ (sp:Sp) (dvs:List V) (E:XK) (t:TA):TE:=fun σ H Q=>t σ H fun vs H1=>sp (vs++dvs) H1 Q E
noncomputable def Binds (K:PySem.W.Frag) (fd:FuncData) (ps:List Str) (ds:List Value):Prop :=
 ∀ (s:Shared) (us:List Value),K.In s.heap->(us++ds).length=ps.length->BindsTo s fd ⟨us,[]⟩ (ps.zip (us++ds))
theorem Binds.all {K:PySem.W.Frag} {fd:FuncData} {ps:List Str} (h:∀ us:List Value,us.length=ps.length->bindArgs fd ⟨us,[]⟩=pure (ps.zip us)):Binds K fd ps []:=fun s us _ hl=>by
 rw [List.append_nil] at hl ⊢
 exact .of_eq (h us hl)
noncomputable def qf (CX:CXT) (X:Cx) (E:XK):Prop:=∀ (pins:List (Addr×Obj)) (σ:St) (H:Hp) (s:Shared) (e:Value) (s':Shared),Inv X pins σ H s->CX X.stack H s E e s'->X.xe e s'
section
variable {X:Cx} {CX:CXT} {k:Nat} {f C:Addr} {fd:FuncData} {ps:List Str} {sp:Sp} {dvs:List V} {ds:List Value} {E:XK} {x m:Str} {p pos apos:Pos} {e o:Expr} {es:List Expr} {ta:TE} {t:TA}
theorem Ax {pins:List (Addr×Obj)} {σ:St} {H:Hp} {s:Shared} {Q:VK} {us:List Value} {vs:List V} (F:FnOk X.prog X.w X.K X.mg X.base CX k f fd ps sp) (hr:Room k X.A) (hb:Binds X.K fd ps ds) (hd:aK dvs ds) (hx:qf CX X E)
  (I:Inv X pins σ H s) (r:aK vs us) (h:sp (vs++dvs) H Q E):wpAny (model X.prog X.w) X.A (call (.ref f) us) (EP X pins σ Q) X.xe s:=by
 have r2:aK (vs++dvs) (us++ds):=r.append hd
 have hl:(us++ds).length=ps.length:=by rw [← r2.length];exact F.len _ _ _ _ h
 refine wpAny_call (codeAny_mono (F.run X.A X.stack s H ⟨us,[]⟩ (us++ds) (vs++dvs) Q E hr I.env0 (hb s us I.kIn hl) r2 h) fun r s' hq=>?_)
 cases r with
 | error e=>exact hx pins σ H s e s' I hq
 | ok fl =>
  cases fl with
  | ret u=>exact I.after hq
  | next=>exact False.elim hq
  | brk=>exact False.elim hq
  | cont=>exact False.elim hq
theorem yP (F:FnOk X.prog X.w X.K X.mg X.base CX k f fd ps sp) (hr:Room k X.A) (hg:Gl X x) (hm:X.mg x=some (.ref f)) (hk:PySem.W.keepIn X.K (.ref f)=true) (hb:Binds X.K fd ps ds) (hd:aK dvs ds) (hx:qf CX X E)
  (ha:PA X (e :: es) t) (hdb:(x == ("__debug__" : Str))=false:=by decide) (he:starEach (e :: es) X.env=(false,eval e X.env) :: starEach es X.env:=by rfl) (hpl:(backTo pos (starEach es X.env)).any (·.1)=false:=by rfl) :
  PE X (.Call (.Name x p) (e :: es) [] pos) (zJ sp dvs E t):=by
 intro pins s σ H Q I h
 refine wpAny_Call_Name_kw (qI I hg hm ?_ hdb)
 refine PySem.W.callWith_K (h₀:=X.base) I.ok.mod.kin hk (thn (ha pos pins s σ H _ I h) fun us s1 ⟨vs,H1,I1,r,q⟩=>⟨I1.kIn,?_⟩) he hpl
 exact Ax F hr hb hd hx I1 r q
end
noncomputable def PK (X:Cx) (kws:List Keyword) (t:TA):Prop :=
 ∀ (pos:Pos) (pins:List (Addr×Obj)) (s:Shared) (σ:St) (H:Hp) (Q:List V->Hp->Prop),Inv X pins σ H s->t σ H Q->wpAny (model X.prog X.w) X.A (evalAll ((backToKw pos (keywordEach kws X.env)).map (·.2))) (AP X pins σ Q) X.xe s
section
variable {X:Cx} {CX:CXT} {k:Nat} {f C:Addr} {fd:FuncData} {ps ks:List Str} {sp:Sp} {E:XK} {x m:Str} {p pos apos kpos:Pos} {e o:Expr} {es:List Expr} {kws:List Keyword} {te ta:TE} {t tk:TA} {nm:Option Str}
theorem Bs:PK X [] B7:=fun _ _ _ _ H Q I h=>wpAny_evalAll_nil ⟨[],H,I,.nil,h⟩
theorem yI (ha:PE X e te) (hr:PK X kws t):PK X (⟨nm,e,kpos⟩ :: kws) (zL te t):=by
 intro pos pins s σ H Q I h
 show wpAny _ _ (evalAll ((do let v ← eval e X.env;standAt pos;pure v) :: (backToKw pos (keywordEach kws X.env)).map (·.2))) _ _ s
 refine wpAny_evalAll_cons (Zz (thn (ha pins s σ H _ I h) fun u s1 ⟨x,H1,I1,r1,q1⟩=>Zz (wpAny_standAt (Zy ?_))))
 exact thn (hr pos pins s1 σ H1 _ I1 q1) fun us s2 ⟨xs,H2,I2,r2,q2⟩=>⟨x :: xs,H2,I2,.cons r1 r2,q2⟩
variable {g:List Value->List Value->List Value} {gV:List V->List V->List V}
end
structure FnScope (N P:List Str) (sc:Scope):Prop where
 kind:sc.kind=.function
 co:sc.isCoroutine=false
 gen:sc.isGenerator=false
 nd:N.Nodup
 pre:N.take P.length=P
 par:∀ x∈P,sc.names.lookup x=some .local\/sc.names.lookup x=some .cell
 nofree:∀ y∈sc.names,y.2 ≠ .free
theorem lD {kindOf:Str->Option NameKind} {x:Str}:∀ {binds:List (Str×Value)} {m:Str->Option Value},(∀ v,(x,v) ∉ binds)->bindL kindOf binds m x=m x
 | [],_,_=>rfl
 | (n,v) :: r,m,h=>by
  unfold bindL
  rw [lD fun w hw=>h w (Zw _ hw)]
  split
  ·have:x ≠ n:=by rintro rfl;exact h v Zv
   simp [this]
  ·rfl
theorem lE {kindOf:Str->Option NameKind} {x:Str}:∀ {binds:List (Str×Value)} {m:Str->Option Value},(∀ v,(x,v) ∉ binds)->bindC kindOf binds m x=m x
 | [],_,_=>rfl
 | (n,v) :: r,m,h=>by
  unfold bindC
  rw [lE fun w hw=>h w (Zw _ hw)]
  split
  ·rfl
  ·have:x ≠ n:=by rintro rfl;exact h v Zv
   simp [this]
theorem lg {kindOf:Str->Option NameKind} {x:Str} {v:Value}:∀ {P:List Str} {vs:List Value} {i:Nat} {m:Str->Option Value},P.Nodup->P[i]?=some x->vs[i]?=some v->kindOf x=some .local →
  bindL kindOf (P.zip vs) m x=some v
 | [],_,_,_,_,h,_,_=>by simp at h
 | _ :: _,[],_,_,_,_,h,_=>by simp at h
 | p :: P,w :: vs,0,m,nd,h1,h2,hk=>by
  simp at h1 h2;subst h1;subst h2
  show bindL kindOf ((p,w) :: P.zip vs) m p=_
  unfold bindL
  rw [lD fun v hv=>(List.nodup_cons.mp nd).1 (List.of_mem_zip hv).1,if_pos hk]
  simp
 | p :: P,w :: vs,i+1,m,nd,h1,h2,hk=>by
  show bindL kindOf ((p,w) :: P.zip vs) m x=_
  unfold bindL
  exact lg (i:=i) (List.nodup_cons.mp nd).2 (by simpa using h1) (by simpa using h2) hk
theorem lN {kindOf:Str->Option NameKind} {x:Str} {v:Value}:∀ {P:List Str} {vs:List Value} {i:Nat} {m:Str->Option Value},P.Nodup->P[i]?=some x->vs[i]?=some v->kindOf x ≠ some .local →
  bindC kindOf (P.zip vs) m x=some v
 | [],_,_,_,_,h,_,_=>by simp at h
 | _ :: _,[],_,_,_,_,h,_=>by simp at h
 | p :: P,w :: vs,0,m,nd,h1,h2,hk=>by
  simp at h1 h2;subst h1;subst h2
  show bindC kindOf ((p,w) :: P.zip vs) m p=_
  unfold bindC
  rw [lE fun v hv=>(List.nodup_cons.mp nd).1 (List.of_mem_zip hv).1,if_neg hk]
  simp
 | p :: P,w :: vs,i+1,m,nd,h1,h2,hk=>by
  show bindC kindOf ((p,w) :: P.zip vs) m x=_
  unfold bindC
  exact lN (i:=i) (List.nodup_cons.mp nd).2 (by simpa using h1) (by simpa using h2) hk
noncomputable def start (N:List Str) (vs:List V):St:=vs.map some++List.replicate (N.length - vs.length) none
noncomputable def kP (CX:CXT) (P:Program) (w:World) (K:PySem.W.Frag) (mg:Str->Option Value) (base:Heap) (N:List Str) (qual:Str) (scope:Scope) (f:Addr) (cd:Value) (A:Around) (outer:List Env) (s:Shared) (H:Hp) (E:XK):Cx where
 prog:=P
 w:=w
 K:=K
 mg:=mg
 base:=base
 A:=A.deeper (envOfC qual scope s.heap.objs.size f cd)
 N:=N
 s₀:=s
 H₀:=H
 env:=envOfC qual scope s.heap.objs.size f cd
 outer:=outer
 stack:=envOfC qual scope s.heap.objs.size f cd :: outer
 ex:=[]
 calm:=true
 fn:=fun _=>true
 pn:=[]
 xe:=fun e s'=>wpAny (model P w) (A.deeper (envOfC qual scope s.heap.objs.size f cd)) (leaving (envOfC qual scope s.heap.objs.size f cd) e) (fun _ s''=>CX outer H s E e s'') (fun e' s''=>CX outer H s E e' s'') s'
theorem n8 {sc:Scope} {n:Nat} {x:Str} (h:sc.names.lookup x=some .cell):∃ c,(cellsFrom n sc.names []).lookup x=some c:=by
 have q:=PySem.W.cellsFrom_some sc.names n [] (.inl h)
 exact Option.isSome_iff_exists.mp q
theorem sj {CX:CXT} {P:Program} {w:World} {K:PySem.W.Frag} {mg:Str->Option Value} {base:Heap} {N ps:List Str} {qual:Str} {scope:Scope} {f:Addr} {cd:Value} {A:Around} {outer:List Env} {s s1:Shared} {H:Hp} {E:XK} {us:List Value} {vs:List V}
  (S:FnScope N ps scope) (hd:A.handled=none) (e0:Env0 P w K mg base A outer s H) (hl:vs.length=ps.length) (r:aK vs us)
  (x:InCallC s s.heap.objs.size (bindL (envOfC qual scope s.heap.objs.size f cd).kindOf (ps.zip us) fun _=>none) (cellsFrom (s.heap.objs.size+1) scope.names []) (bindC (envOfC qual scope s.heap.objs.size f cd).kindOf (ps.zip us) fun _=>none) s1) :
  Inv (kP CX P w K mg base N qual scope f cd A outer s H E) [] (start N vs) H s1:=by
 have hpl:ps.length<=N.length:=by have:=congrArg List.length S.pre;rw [List.length_take] at this;lia
 obtain ⟨h1,tk,rfl,hk⟩:=x.done
 have noA:∀ b:Addr,b ∉ (kP CX P w K mg base N qual scope f cd A outer s H E).ex:=fun b z=>absurd (show b∈([]:List Addr) from z) (by simp)
 refine ⟨⟨e0.mod,S.kind,rfl,rfl,Zt _,fun y z c h1 h2=>?_,fun y hy=>?_,fun y c _ h=>?_,fun _=>hd,Around.frames_deeper e0.frames,.inr ⟨rfl,rfl⟩,fun b z=>absurd z (noA b),e0.bs,e0.bsz,fun b _ _=>noA b,fun b z=>absurd z (noA b),e0.funs,e0.frf⟩,
  rfl,e0.bare,Un.kept hk,⟨_,x.toInCall.ns,fun i y v h1 h2 h3=>?_⟩,fun y c h=>⟨_,x.cell y c h⟩,e0.hok.fresh (Zt _),fun y c h=>?_,fun p hp=>absurd (show p∈([]:List (Addr×Obj)) from hp) (by simp),e0.hok.kept hk,?_⟩
 ·exact name_of_addr x.apart (PySem.mem_of_lookup h1) (PySem.mem_of_lookup h2)
 ·have hy:scope.names.lookup y=some .cell\/scope.names.lookup y=some .free:=hy
  rcases hy with hy | hy
  ·exact n8 hy
  ·exact absurd rfl (S.nofree _ (PySem.mem_of_lookup hy))
 ·exact Nat.le_of_lt (x.above y c (PySem.mem_of_lookup h))
 ·have hi:i < vs.length:=by
   unfold start at h2
   by_cases hi:i < vs.length
   ·exact hi
   ·rw [List.getElem?_append_right (by simpa using hi)] at h2
    rw [List.getElem?_replicate] at h2
    split at h2 <;> cases h2
  have ha:vs[i]?=some v:=by
   unfold start at h2
   rw [List.getElem?_append_left (by simpa using hi),List.getElem?_map] at h2
   cases e:vs[i]? with
   | none=>rw [e] at h2;cases h2
   | some a=>rw [e] at h2;cases h2;rfl
  obtain ⟨u,hu,rv⟩:=r.get ha
  have hp:ps[i]?=some y:=by
   rw [← S.pre,List.getElem?_take_of_lt (by lia)];exact h1
  have ndP:ps.Nodup:=by rw [← S.pre];exact S.nd.sublist (List.take_sublist _ _)
  refine ⟨u,rv,?_⟩
  rcases S.par y (List.mem_of_getElem? hp) with k | k
  ·exact .inl ⟨k,lg ndP hp hu k⟩
  ·obtain ⟨c,e⟩:=n8 (n:=s.heap.objs.size+1) k
   refine .inr ⟨.inl k,c,e,?_⟩
   have q:=x.cell y c e
   rw [lN ndP hp hu (by show scope.names.lookup y ≠ _;rw [k];decide)] at q
   exact q
 ·exact e0.hok.fresh (Nat.le_of_lt (x.above y c (PySem.mem_of_lookup h)))
 ·unfold start
  show _=N.length
  rw [Zj,Zk,List.length_replicate]
  lia
theorem CC {CX:CXT} {P:Program} {w:World} {K:PySem.W.Frag} {mg:Str->Option Value} {base:Heap} {k:Nat} {f:Addr} {name qual:Str} {params:Arguments} {body:List Stmt} {scope:Scope} {dV kV doc pm cdv ct oc:Value} {an od:Option Addr}
  {osl:Array (Option Value)} {N ps:List Str} {sp:Sp} (lk:K.lookup f=some ⟨oc,od,.func (PySem.W.fnOf name qual params body scope dV kV doc pm an cdv ct),osl⟩) (hcd:PySem.W.codeIn K cdv qual=true) (S:FnScope N ps scope)
  (len:∀ vs H Q E,sp vs H Q E->vs.length=ps.length)
  (hbody:∀ (A:Around) (outer:List Env) (s:Shared) (H:Hp) (vs:List V) (Q:VK) (E:XK),Room k (A.deeper (envOfC qual scope s.heap.objs.size f cdv))->sp vs H Q E →
   ∃ t,PSs (kP CX P w K mg base N qual scope f cdv A outer s H E) body t/\t { nx:=fun _ H'=>Q .non H',rt:=Q } (start N vs) H) :
  FnOk P w K mg base CX (k+1) f (PySem.W.fnOf name qual params body scope dV kV doc pm an cdv ct) ps sp:=by
 refine ⟨len,fun A outer s H args us vs Q E hr e0 hb r hsp=>?_⟩
 have hl:=len _ _ _ _ hsp
 have KX:K.In s.heap:=e0.mod.kin.keeps fun b o e=>(e0.bs b o e).1
 have lim:s.heap.NoLimit:=e0.mod.nolimit.keeps fun b o e=>(e0.bs b o e).1
 have hkind:∀ y∈ps.zip us,scope.names.lookup y.1=some .local\/(scope.names.lookup y.1=some .cell/\((cellsFrom (s.heap.objs.size+1) scope.names []).lookup y.1).isSome=true):=fun ⟨n,v⟩ hy=>by
  rcases S.par n (List.of_mem_zip hy).1 with q | q
  ·exact .inl q
  ·exact .inr ⟨q,PySem.W.cellsFrom_some _ _ _ (.inl q)⟩
 refine codeAny_call_function hr.depth (KX _ _ lk) rfl S.co S.gen rfl (PySem.W.codeRec_of KX hcd) (hb _ _ _ _ ?_)
 refine wpAny_newFunctionEnv_cells S.kind hkind fun env he s1 x=>?_
 subst he
 refine ⟨lim.keeps x.toInCall.keep,codeAny_func ?_⟩
 obtain ⟨t,ht,hq⟩:=hbody A outer s H vs Q E (hr.deeper _) hsp
 have I:Inv (kP CX P w K mg base N qual scope f cdv A outer s H E) [] (start N vs) H s1:=sj S hr.hd e0 hl r x
 refine wpAny_mono (ht [] s1 (start N vs) H _ I hq) (fun fl s' hs=>?_) fun e s' hs=>hs
 have fin:∀ {σ':St} {H':Hp} {v:V} {u:Value},Inv (kP CX P w K mg base N qual scope f cdv A outer s H E) [] σ' H' s'->RelV v u->Q v H'->CE outer P w H s Q u s' :=
  fun {σ' H' v u} J rv q=>⟨v,H',J.os,J.bare,J.base,J.hok,rv,q⟩
 cases fl with
 | ret u =>
  obtain ⟨v,σ',H',J,rv,q⟩:=hs
  exact fin J rv q
 | next =>
  obtain ⟨σ',H',J,q⟩:=hs
  exact fin (v:=V.non) (u:=Value.none) J rfl q
 | brk =>
  obtain ⟨_,_,_,q⟩:=hs
  exact False.elim q
 | cont =>
  obtain ⟨_,_,_,q⟩:=hs
  exact False.elim q
section
variable {X:Cx} {x:Str} {p pos:Pos} {e:Expr} {es:List Expr} {t:TA} {id T:String} {r:List V->Hp->VK->Prop}
noncomputable def tCB (r:List V->Hp->VK->Prop) (t:TA):TE:=fun σ H Q=>t σ H fun vs H1=>r vs H1 Q
theorem kf (hc:dq X (.builtin id) r) (hg:Gl X x) (hm:X.mg x=none) (hv:bootBuiltins x=some (.builtin id)) (ha:PA X (e :: es) t) (hn:x ≠ "__name__" := by decide) (hdb:(x == ("__debug__" : Str))=false:=by decide)
  (he:starEach (e :: es) X.env=(false,eval e X.env) :: starEach es X.env:=by rfl) (hpl:(backTo pos (starEach es X.env)).any (·.1)=false:=by rfl):PE X (.Call (.Name x p) (e :: es) [] pos) (tCB r t):=by
 intro pins s σ H Q I h
 refine wpAny_Call_Name_kw (iY I hg hm hv ?_ hn hdb)
 exact PyProof.Rows.callWith_builtin1 (thn (ha pos pins s σ H _ I h) fun us s1 ⟨vs,H1,I1,r1,q1⟩=>hc pins s1 σ H1 vs us Q I1 r1 q1) he hpl
theorem lX (hc:dq X (.type T) r) (hg:Gl X x) (hm:X.mg x=none) (hv:bootBuiltins x=some (.type T)) (ha:PA X (e :: es) t) (hn:x ≠ "__name__" := by decide) (hdb:(x == ("__debug__" : Str))=false:=by decide)
  (he:starEach (e :: es) X.env=(false,eval e X.env) :: starEach es X.env:=by rfl) (hpl:(backTo pos (starEach es X.env)).any (·.1)=false:=by rfl):PE X (.Call (.Name x p) (e :: es) [] pos) (tCB r t):=by
 intro pins s σ H Q I h
 refine wpAny_Call_Name_kw (iY I hg hm hv ?_ hn hdb)
 exact PyProof.Rows.callWith_type1 (thn (ha pos pins s σ H _ I h) fun us s1 ⟨vs,H1,I1,r1,q1⟩=>hc pins s1 σ H1 vs us Q I1 r1 q1) he hpl
end
end L2
namespace HT
open PySem PyProof.Rows
section
open PySem.SeqAt
open PySem.AutoSeq1 (wpAny_loadPart')
open PySem.MeetsSeq PySem.MeetsSeq2 PySem.MeetsSeq3
end
section
variable {prog:Program} {w:World} {A:Around} {E:Value->Shared->Prop} {s:Shared}
noncomputable def sIx (n d:Nat):Option Int->Nat
 | none=>d
 | some v=>if v < 0 then (v+(n:Int)).toNat else min v.toNat n
end
end HT
namespace L2
open PySem PySem.Spec PyProof.Rows
noncomputable abbrev TO:=St->Hp->(Option Int->Hp->Prop)->Prop
noncomputable def PO (X:Cx) (e:Option Expr) (t:TO):Prop :=
 ∀ (pins:List (Addr×Obj)) (s:Shared) (σ:St) (H:Hp) (Q:Option Int->Hp->Prop),Inv X pins σ H s->t σ H Q →
  wpAny (model X.prog X.w) X.A (evalPart e X.env) (fun u s'=>∃ o H',Inv X pins σ H' s'/\IsPart u o/\Q o H') X.xe s
noncomputable def yt:TO:=fun _ H Q=>Q none H
noncomputable def Cy (t:TE):TO:=fun σ H Q=>t σ H fun x H1=>∃ i,x=.int i/\Q (some i) H1
section
variable {X:Cx} {e:Expr} {te:TE} {lo hi:Option Expr} {tl th:TO} {pos p2:Pos}
theorem xi:PO X none yt:=by
 intro pins s σ H Q I h
 rw [evalPart_none]
 exact Zy ⟨none,H,I,.none,h⟩
theorem zu (h:PE X e te):PO X (some e) (Cy te):=by
 intro pins s σ H Q I hw
 rw [evalPart_some]
 refine thn (h pins s σ H _ I hw) fun u s1 ⟨x,H1,I1,r1,q1⟩=>?_
 obtain ⟨i,rfl,q⟩:=q1
 obtain ⟨t,rfl⟩:=r1
 exact ⟨some i,H1,I1,.int i t,q⟩
noncomputable def SlR (X:Cx) (r:V->Option Int->Option Int->Hp->VK->Prop):Prop :=
 ∀ (pins:List (Addr×Obj)) (s:Shared) (σ:St) (H:Hp) (x:V) (v vl vu:Value) (lo hi:Option Int) (sl:Addr) (Q:VK),Inv X pins σ H s->RelV x v->s.heap.IsSliceOf sl vl vu .none->IsPart vl lo->IsPart vu hi->r x lo hi H Q →
  ∃ T id,typeLookup (.type T) "__getitem__" = pure (some (.builtin id))/\s.TypeIs v T/\wpAny (model X.prog X.w) X.A (getItem v (.ref sl)) (EP X pins σ Q) X.xe s
theorem SlR.or {r r':V->Option Int->Option Int->Hp->VK->Prop} (h:SlR X r) (h':SlR X r'):SlR X (fun x lo hi H Q=>r x lo hi H Q\/r' x lo hi H Q):=by
 intro pins s σ H x v vl vu lo hi sl Q I rx hs pl pu q
 rcases q with q | q
 ·exact h pins s σ H x v vl vu lo hi sl Q I rx hs pl pu q
 ·exact h' pins s σ H x v vl vu lo hi sl Q I rx hs pl pu q
noncomputable def tSl (r:V->Option Int->Option Int->Hp->VK->Prop) (te:TE) (tl th:TO):TE:=fun σ H Q=>te σ H fun x H1=>tl σ H1 fun l H2=>th σ H2 fun u H3=>r x l u H3 Q
theorem vC {r:V->Option Int->Option Int->Hp->VK->Prop} (hr:SlR X r) (he:PE X e te) (hl:PO X lo tl) (hu:PO X hi th):PE X (.Subscript e (.Slice lo hi none p2) pos) (tSl r te tl th):=by
 intro pins s σ H Q I h
 refine Subscript_ (thn (he pins s σ H _ I h) fun v s1 ⟨x,H1,I1,r1,q1⟩=>?_)
 refine wpAny_Slice (thn (hl pins s1 σ H1 _ I1 q1) fun vl s2 ⟨l,H2,I2,pl,q2⟩=>thn (hu pins s2 σ H2 _ I2 q2) fun vu s3 ⟨u,H3,I3,pu,q3⟩=>?_)
 rw [evalPart_none]
 refine Zy ?_
 have I4:Inv X pins σ H3 { s3 with heap:=s3.heap.push { cls:=.type "slice",data:=.fields #[vl,vu,.none] } }:=I3.kept (t':=s3.toks) fun b ob q=>Zu _ q
 obtain ⟨T,id,hT,ht,hg⟩:=hr pins { s3 with heap:=s3.heap.push { cls:=.type "slice",data:=.fields #[vl,vu,.none] } } σ H3 x v vl vu l u s3.heap.objs.size Q I4 r1 (Heap.IsSliceOf.new ..) pl pu q3
 show wpAny (model X.prog X.w) X.A (subscriptTail e (.Slice lo hi none p2) v (.ref s3.heap.objs.size)) (EP X pins σ Q) X.xe { s3 with heap:=s3.heap.push { cls:=.type "slice",data:=.fields #[vl,vu,.none] } }
 exact tail_any (ops:=[.ref s3.heap.objs.size,v]) ht hT hg (by with_unfolding_all rfl)
noncomputable def tU (xs:List V) (lo hi:Option Int):List V:=(xs.drop (HT.sIx xs.length 0 lo)).take (HT.sIx xs.length xs.length hi - HT.sIx xs.length 0 lo)
theorem om (xs:List V) (lo hi:Option Int):(tU xs lo hi).length<=xs.length:=by
 unfold tU
 rw [List.length_take,List.length_drop]
 lia
end
noncomputable def ixN (n:Nat) (i:Int):Option Nat:=if 0<=i then (if i < n then some i.toNat else none) else if -(n:Int)<=i then some (i+n).toNat else none
noncomputable def atI {α:Type} (xs:List α) (i:Int):Option α:=(ixN xs.length i).bind fun j=>xs[j]?
theorem qm {n:Nat} {i:Int} {j:Nat} (h:ixN n i=some j):seqIndex? i n=some j/\j < n/\-(n:Int)<=i/\i < n:=by
 unfold ixN at h
 by_cases h0:0<=i
 ·rw [if_pos h0] at h
  by_cases h1:i < n
  ·rw [if_pos h1] at h
   have e:i.toNat=j:=Option.some.inj h
   exact ⟨by rw [seqIndex_of h0 h1,e],by lia,by lia,h1⟩
  ·rw [if_neg h1] at h;cases h
 ·rw [if_neg h0] at h
  by_cases h1:-(n:Int)<=i
  ·rw [if_pos h1] at h
   have e:(i+n).toNat=j:=Option.some.inj h
   exact ⟨by rw [seqIndex_neg (by lia) h1,e],by lia,h1,by lia⟩
  ·rw [if_neg h1] at h;cases h
theorem mh {α:Type} {xs:List α} {i:Int} {v:α} (h:atI xs i=some v):∃ j,seqIndex? i xs.length=some j/\xs[j]?=some v/\j < xs.length/\-(xs.length:Int)<=i/\i < xs.length:=by
 unfold atI at h
 cases e:ixN xs.length i with
 | none=>rw [e] at h;cases h
 | some j =>
  rw [e] at h
  obtain ⟨h1,h2,h3,h4⟩:=qm e
  exact ⟨j,h1,h,h2,h3,h4⟩
noncomputable def fQ (b:Expr):Prop:=∀ o i,subscripted b false o i=operate [o,i] (getItem o i)
noncomputable def IxR (X:Cx) (r:R2):Prop :=
 ∀ (value slice:Expr) (pins:List (Addr×Obj)) (s:Shared) (σ:St) (H:Hp) (x y:V) (v u:Value) (Q:VK),Inv X pins σ H s->RelV x v->RelV y u->r x y H Q →
  subscripted slice false v u=operate [v,u] (getItem v u)->wpAny (model X.prog X.w) X.A (subscriptTail value slice v u) (EP X pins σ Q) X.xe s
noncomputable def MtR (X:Cx) (id:String) (r:V->List V->Hp->VK->Prop):Prop :=
 ∀ (pins:List (Addr×Obj)) (s:Shared) (σ:St) (H:Hp) (x:V) (xs:List V) (v:Value) (us:List Value) (Q:VK),Inv X pins σ H s->RelV x v->aK xs us->r x xs H Q →
  wpAny (model X.prog X.w) X.A (call (.builtin id) (v :: us)) (EP X pins σ Q) X.xe s
section
variable {X:Cx} {a b:Expr} {ta tb:TE} {pos:Pos}
theorem IxR.or {r r':R2} (h:IxR X r) (h':IxR X r'):IxR X (fun x y H Q=>r x y H Q\/r' x y H Q):=by
 intro value slice pins s σ H x y v u Q I rx ry q hs
 rcases q with q | q
 ·exact h value slice pins s σ H x y v u Q I rx ry q hs
 ·exact h' value slice pins s σ H x y v u Q I rx ry q hs
theorem vZ {r:R2} (hr:IxR X r) (ha:PE X a ta) (hb:PE X b tb) (hs:fQ b):PE X (.Subscript a b pos) (tOp r ta tb):=by
 intro pins s σ H Q I h
 exact Subscript_ (Bf ha hb I h fun v u s2 x y H2 I2 rx ry q=>hr a b pins s2 σ H2 x y v u Q I2 rx ry q (hs _ _))
noncomputable def B5 (K:PySem.W.Frag):R2:=fun x y H Q=>∃ p xs i v,x=.ref p/\y=.int i/\SqL K H p xs/\atI xs i=some v/\Q v H
noncomputable def Do (K:PySem.W.Frag):R2:=fun x y H Q=>∃ p xs i v,x=.ref p/\y=.int i/\SqT K H p xs/\atI xs i=some v/\Q v H
noncomputable def Dy:R2:=fun x y H Q=>∃ z i c,x=.str z/\y=.int i/\z.length<=sizeLine/\atI z.cps.toList i=some c/\Q (.str ⟨#[c]⟩) H
theorem xR:IxR X (B5 X.K):=by
 intro value slice pins s σ H x y v u Q I rx ry h hs
 obtain ⟨p,xs,i,z,rfl,rfl,hq,he,q⟩:=h
 cases rx
 obtain ⟨t,rfl⟩:=ry
 obtain ⟨its,r,pl,hz⟩:=I.list hq
 obtain ⟨j,h1,h2,h3,h4,h5⟩:=mh he
 obtain ⟨w,ew,rw'⟩:=r.get h2
 have hl:=r.length
 have hn:=iW
 have fin:EP X pins σ Q w s:=⟨z,H,I,rw',q⟩
 by_cases h0:0<=i
 ·have hj:i.toNat=j:=by
   rw [seqIndex_of h0 h5] at h1
   exact Option.some.inj h1
  exact item_listR pl.isList h0 (by lia) (by rw [hj];simpa using ew) fin hs
 ·have hj:(i+(its.toArray.size:Int)).toNat=j:=by
   rw [seqIndex_neg (by lia) h4] at h1
   rw [List.size_toArray,← hl]
   exact Option.some.inj h1
  exact subscriptTail_builtinR (x:=w) pl.isList.typeIs slot_list_getitem.lookup
   (wpAny_getItem_list_neg (Q:=fun r s'=>r=w/\EP X pins σ Q r s') pl.isList (by lia) (by rw [List.size_toArray] <;> lia) (by lia) (by rw [hj];simpa using ew) ⟨rfl,fin⟩) hs
theorem BF:IxR X (Do X.K):=by
 intro value slice pins s σ H x y v u Q I rx ry h hs
 obtain ⟨p,xs,i,z,rfl,rfl,hq,he,q⟩:=h
 cases rx
 obtain ⟨t,rfl⟩:=ry
 obtain ⟨its,r,pl,hz⟩:=I.tuple hq
 obtain ⟨j,h1,h2,h3,h4,h5⟩:=mh he
 obtain ⟨w,ew,rw'⟩:=r.get h2
 have hl:=r.length
 have hn:=iW
 have fin:EP X pins σ Q w s:=⟨z,H,I,rw',q⟩
 exact subscriptTail_builtinR (x:=w) pl.typeIs slot_tuple_getitem.lookup
  (getItem_tuple (j:=j) (Q:=fun r s'=>r=w/\EP X pins σ Q r s') pl (by lia) (by lia) (by rw [List.size_toArray,← hl];exact h1) (by simpa using ew) ⟨rfl,fin⟩) hs
theorem BZ:IxR X Dy:=by
 intro value slice pins s σ H x y v u Q I rx ry h hs
 obtain ⟨z,i,c,rfl,rfl,hz,he,q⟩:=h
 obtain ⟨t,rfl⟩:=rx
 obtain ⟨t',rfl⟩:=ry
 obtain ⟨j,h1,h2,h3,h4,h5⟩:=mh he
 have hl:z.cps.toList.length=z.length:=by simp [Str.length]
 rw [hl] at h1 h4 h5
 have hn:=iW
 exact tail_any (typeIs_str s z t) slot_str_getitem.lookup (getItem_str (c:=c) (by
  have e1:decide (i < -(2 ^ 63:Int))=false:=decide_eq_false (by lia)
  have e2:decide (i ≥ 2 ^ 63)=false:=decide_eq_false (by lia)
  rw [e1,e2,Bool.or_false]) (by rw [h1];simpa using h2) ⟨.str ⟨#[c]⟩,H,I.tok _,⟨_,rfl⟩,q⟩) hs
noncomputable def rIx (K:PySem.W.Frag):R2:=fun x y H Q=>B5 K x y H Q\/Do K x y H Q\/Dy x y H Q
theorem ux:IxR X (rIx X.K):=xR.or (BF.or BZ)
theorem p7 (its:List Value) (n j:Nat) (u:Value):Obj.mapSeq (·.setIfInBounds j u) { cls:=.type "list",data:=.seq its.toArray n }={ cls:=.type "list",data:=.seq (its.set j u).toArray n }:=by
 simp [Obj.mapSeq]
theorem Inv.lst {pins:List (Addr×Obj)} {σ:St} {H:Hp} {s:Shared} {p:Addr} {xs:List V} (I:Inv X pins σ H s) (h:H p=some (.lst xs)) :
  ∃ (its:List Value) (n:Nat),aK xs its/\s.heap.get? p=some { cls:=.type "list",data:=.seq its.toArray n }/\xs.length<=sizeLine:=by
 obtain ⟨z,its,n,r,e⟩:=I.hok p _ h
 exact ⟨its,n,r,e,z⟩
theorem Inv.lstUpd {pins:List (Addr×Obj)} {σ:St} {H:Hp} {s:Shared} {p:Addr} {xs ys:List V} {its its':List Value} {n n':Nat} {f:Obj->Obj} (I:Inv X pins σ H s) (h:H p=some (.lst xs))
  (ho:s.heap.get? p=some { cls:=.type "list",data:=.seq its.toArray n }) (hf:f { cls:=.type "list",data:=.seq its.toArray n }={ cls:=.type "list",data:=.seq its'.toArray n' }) (r:aK ys its') (hz:ys.length<=sizeLine) (t:Nat) :
  Inv X pins σ (upd H p (.lst ys)) { s with heap:=s.heap.update p f,toks:=t }:=by
 have e:(s.heap.update p f).get? p=some { cls:=.type "list",data:=.seq its'.toArray n' }:=by
  rw [Heap.get?_update_self f ho (by rw [hf] <;> rfl),hf]
 refine I.write (x:=p) (e:=p) (by rw [h];trivial) (.inl rfl) (fun b u hb q=>(Heap.get?_update_other _ _ (Ne.symm hb)).trans q) ⟨_,e⟩ ?_
 exact ⟨hz,its',n',r,e⟩
noncomputable def zR:V->V->V->Hp->(Hp->Prop)->Prop:=fun o i v H Q=>∃ p xs k j,o=.ref p/\i=.int k/\H p=some (.lst xs)/\ixN xs.length k=some j/\Q (upd H p (.lst (xs.set j v)))
theorem set_list:AI X zR:=by
 intro pins s σ H o i v ov iv u Q I ro ri rv h
 obtain ⟨p,xs,k,j,rfl,rfl,hp,hj,q⟩:=h
 cases ro
 obtain ⟨t,rfl⟩:=ri
 obtain ⟨its,n,r,ho,hz⟩:=I.lst hp
 obtain ⟨h1,h2,h3,h4⟩:=qm hj
 have hl:=r.length
 have hn:=iW
 have I':Inv X pins σ (upd H p (.lst (xs.set j v))) { s with heap:=s.heap.update p (Obj.mapSeq (·.setIfInBounds j u)) } :=
  I.lstUpd hp ho (p7 its n j u) (r.set rv j) (by rw [List.length_set];exact hz) s.toks
 by_cases h0:0<=k
 ·have hk:k.toNat=j:=by
   rw [seqIndex_of h0 h4] at h1
   exact Option.some.inj h1
  exact PySem.W.ki_setAt ho h0 (by lia) (by rw [List.size_toArray,← hl];exact h4) (by rw [hk];exact ⟨_,I',q⟩)
 ·have hk:(k+(its.toArray.size:Int)).toNat=j:=by
   rw [seqIndex_neg (by lia) h3] at h1
   rw [List.size_toArray,← hl]
   exact Option.some.inj h1
  exact PySem.W.ki_setBack ho (by lia) (by rw [List.size_toArray,← hl];exact h3) (by lia) (by rw [hk];exact ⟨_,I',q⟩)
theorem mK (lo hi:Option Int) (n:Nat):(sliceBounds lo hi none n).1=((HT.sIx n 0 lo:Nat):Int)/\(sliceBounds lo hi none n).2.1=((HT.sIx n n hi:Nat):Int)/\(sliceBounds lo hi none n).2.2=1:=by
 refine ⟨?_,?_,rfl⟩
 ·cases lo with
  | none=>simp [sliceBounds,HT.sIx]
  | some i =>
   simp only [sliceBounds,HT.sIx,Option.getD_none,show (1:Int) > 0 by decide,if_true]
   by_cases h:i < 0
   ·simp only [h,if_true] <;> lia
   ·simp only [h,if_false] <;> lia
 ·cases hi with
  | none=>simp [sliceBounds,HT.sIx]
  | some i =>
   simp only [sliceBounds,HT.sIx,Option.getD_none,show (1:Int) > 0 by decide,if_true]
   by_cases h:i < 0
   ·simp only [h,if_true] <;> lia
   ·simp only [h,if_false] <;> lia
theorem kR (its:List Value) (lo hi:Option Int):slicePick its.toArray lo hi none=((its.drop (HT.sIx its.length 0 lo)).take (HT.sIx its.length its.length hi - HT.sIx its.length 0 lo)).toArray:=by
 obtain ⟨h1,h2,h3⟩:=mK lo hi its.toArray.size
 unfold slicePick
 rw [h1,h2,h3]
 simp only [sliceRange_one,pick_run,List.size_toArray] <;> rfl
noncomputable def Cd (K:PySem.W.Frag):V->Option Int->Option Int->Hp->VK->Prop:=fun x lo hi H Q=>∃ a xs,x=.ref a/\SqL K H a xs/\∀ p,H p=none->Q (.ref p) (upd H p (.lst (tU xs lo hi)))
theorem xH:SlR X (Cd X.K):=by
 intro pins s σ H x v vl vu lo hi sl Q I rx hs pl pu h
 obtain ⟨a,xs,rfl,hx,q⟩:=h
 cases rx
 obtain ⟨its,r,ht,hz⟩:=I.list hx
 have hlen:=r.length
 refine ⟨"list",_,slot_list_getitem.lookup,ht.isList.typeIs,?_⟩
 refine wpAny_getItem_list_slice ht.isList hs pl pu .none (by simp) ?_ (by rw [List.size_toArray] <;> lia)
 rw [kR,← hlen]
 refine ⟨.ref s.heap.objs.size,_,I.laid (t':=s.toks) (o:=.lst (tU xs lo hi)) (fun b ob q=>Zu _ q) (Zt _) ?_,rfl,q _ (I.hok.fresh (Zt _))⟩
 exact ⟨Nat.le_trans (om xs lo hi) hz,_,0,(r.drop (HT.sIx xs.length 0 lo)).take (HT.sIx xs.length xs.length hi - HT.sIx xs.length 0 lo),Zo _ rfl⟩
noncomputable def d8:V->Bool
 | .non=>true
 | .bl _=>true
 | .int _=>true
 | .str _=>true
 | _=>false
noncomputable def eqV:V->V->Bool
 | .non,.non=>true
 | .bl a,.bl b=>a == b
 | .bl a,.int b=>(if a then 1 else 0) == b
 | .int a,.bl b=>a == (if b then 1 else 0)
 | .int a,.int b=>a == b
 | .str a,.str b=>a == b
 | _,_=>false
theorem Aq {A:Around} {s:Shared} {y x:V} {u v:Value} (ry:RelV y u) (rx:RelV x v) (fy:d8 y=true) (fx:d8 x=true):SeqAt.EqAt A s u v (eqV y x):=by
 cases y with
 | non =>
  cases ry
  cases x with
  | non=>cases rx;exact SeqAt.EqAt.same _
  | bl b=>cases rx;exact SeqAt.EqAt.none_bool b
  | int b=>obtain ⟨t,rfl⟩:=rx;exact SeqAt.EqAt.none_int b t
  | str b=>obtain ⟨t,rfl⟩:=rx;exact SeqAt.EqAt.none_str b t
  | _=>exact absurd (show false=true from fx) Zp
 | bl a =>
  cases ry
  cases x with
  | non=>cases rx;exact SeqAt.EqAt.bool_none a
  | bl b=>cases rx;exact SeqAt.EqAt.bool_bool a b
  | int b=>obtain ⟨t,rfl⟩:=rx;exact SeqAt.EqAt.bool_int a b t
  | str b=>obtain ⟨t,rfl⟩:=rx;exact SeqAt.EqAt.bool_str a b t
  | _=>exact absurd (show false=true from fx) Zp
 | int a =>
  obtain ⟨t',rfl⟩:=ry
  cases x with
  | non=>cases rx;exact SeqAt.EqAt.int_none a t'
  | bl b=>cases rx;exact SeqAt.EqAt.int_bool a t' b
  | int b=>obtain ⟨t,rfl⟩:=rx;exact SeqAt.EqAt.int_int a t' b t
  | str b=>obtain ⟨t,rfl⟩:=rx;exact SeqAt.EqAt.int_str a t' b t
  | _=>exact absurd (show false=true from fx) Zp
 | str a =>
  obtain ⟨t',rfl⟩:=ry
  cases x with
  | non=>cases rx;exact SeqAt.EqAt.str_none a t'
  | bl b=>cases rx;exact SeqAt.EqAt.str_bool a t' b
  | int b=>obtain ⟨t,rfl⟩:=rx;exact SeqAt.EqAt.str_int a t' b t
  | str b=>obtain ⟨t,rfl⟩:=rx;exact SeqAt.EqAt.str_str a t' b t
  | _=>exact absurd (show false=true from fx) Zp
 | _=>exact absurd (show false=true from fy) Zp
noncomputable def eqU (x:V) (u:Value):Bool:=match u with
 | .none=>eqV .non x
 | .bool b=>eqV (.bl b) x
 | .int i _=>eqV (.int i) x
 | .str z _=>eqV (.str z) x
 | _=>false
theorem v3 {x y:V} {u:Value} (r:RelV y u) (f:d8 y=true):eqU x u=eqV y x:=by
 cases y with
 | non=>cases r;rfl
 | bl b=>cases r;rfl
 | int i=>obtain ⟨t,rfl⟩:=r;rfl
 | str z=>obtain ⟨t,rfl⟩:=r;rfl
 | _=>exact absurd (show false=true from f) Zp
theorem iB {x:V}:∀ {xs:List V} {us:List Value},aK xs us->xs.all d8=true->us.any (eqU x)=xs.any fun y=>eqV y x
 | _,_,.nil,_=>rfl
 | y :: xs,u :: us,.cons r t,f=>by
  rw [List.all_cons,Bool.and_eq_true] at f
  rw [List.any_cons,List.any_cons,v3 r f.1,iB t f.2]
theorem gF {A:Around} {s:Shared} {x:V} {v:Value} (rx:RelV x v) (fx:d8 x=true):∀ {xs:List V} {us:List Value},aK xs us->xs.all d8=true->∀ u∈us,SeqAt.EqAt A s u v (eqU x u)
 | _,_,.nil,_=>fun u hu=>by cases hu
 | y :: xs,u :: us,.cons r t,f=>fun u' hu=>by
  rw [List.all_cons,Bool.and_eq_true] at f
  rcases Zg.mp hu with rfl | hu
  ·rw [v3 r f.1];exact Aq r rx f.1 fx
  ·exact gF rx fx t f.2 u' hu
noncomputable def inV (x:V) (xs:List V):Bool:=xs.any fun y=>eqV y x
noncomputable def rIn (K:PySem.W.Frag) (neg:Bool):R2:=fun x y H Q=>∃ p xs,y=.ref p/\(SqL K H p xs\/SqT K H p xs)/\d8 x=true/\xs.all d8=true/\Q (.bl (if neg then !inV x xs else inV x xs)) H
theorem tM:OpR X (compareOp .In) (rIn X.K false):=by
 intro pins s σ H x y v u Q I rx ry h
 obtain ⟨p,xs,rfl,hq,fx,fs,q⟩:=h
 cases ry
 rcases hq with hq | hq
 ·obtain ⟨its,r,pl,hz⟩:=I.list hq
  refine SeqAt.in_listAt (eqU x) pl.isList (fun w hw=>gF rx fx r fs w (by simpa using hw)) ⟨.bl _,H,I,rfl,?_⟩
  rw [show its.toArray.any (eqU x)=its.any (eqU x) by simp,iB r fs]
  exact q
 ·obtain ⟨its,r,pl,hz⟩:=I.tuple hq
  refine SeqAt.in_tupleAt (eqU x) pl (fun w hw=>gF rx fx r fs w (by simpa using hw)) ⟨.bl _,H,I,rfl,?_⟩
  rw [show its.toArray.any (eqU x)=its.any (eqU x) by simp,iB r fs]
  exact q
theorem mP:OpR X (compareOp .NotIn) (rIn X.K true):=by
 intro pins s σ H x y v u Q I rx ry h
 obtain ⟨p,xs,rfl,hq,fx,fs,q⟩:=h
 cases ry
 rcases hq with hq | hq
 ·obtain ⟨its,r,pl,hz⟩:=I.list hq
  refine SeqAt.notIn_listAt (eqU x) pl.isList (fun w hw=>gF rx fx r fs w (by simpa using hw)) ⟨.bl _,H,I,rfl,?_⟩
  rw [show its.toArray.any (eqU x)=its.any (eqU x) by simp,iB r fs]
  exact q
 ·obtain ⟨its,r,pl,hz⟩:=I.tuple hq
  refine SeqAt.notIn_tupleAt (eqU x) pl (fun w hw=>gF rx fx r fs w (by simpa using hw)) ⟨.bl _,H,I,rfl,?_⟩
  rw [show its.toArray.any (eqU x)=its.any (eqU x) by simp,iB r fs]
  exact q
theorem dq.or {f:Value} {r r':List V->Hp->VK->Prop} (h:dq X f r) (h':dq X f r'):dq X f (fun xs H Q=>r xs H Q\/r' xs H Q):=by
 intro pins s σ H xs us Q I rs q
 rcases q with q | q
 ·exact h pins s σ H xs us Q I rs q
 ·exact h' pins s σ H xs us Q I rs q
theorem mY:dq X (.type "list") (fun xs H Q=>∃ p ys,xs=[.ref p]/\(SqL X.K H p ys\/SqT X.K H p ys)/\∀ l,H l=none->Q (.ref l) (upd H l (.lst ys))):=by
 intro pins s σ H xs us Q I r h
 obtain ⟨p,ys,rfl,hq,q⟩:=h
 obtain ⟨u,rfl,rx⟩:=vals1 r
 cases rx
 have fin:∀ (its:List Value),aK ys its->ys.length<=sizeLine->∀ (h':Heap) (c':Nat),(∀ b o',s.heap.get? b=some o'->h'.get? b=some o') →
   h'.get? s.heap.objs.size=some { cls:=.type "list",dict:=none,data:=.seq its.toArray c',slots:=#[] }->EP X pins σ Q (.ref s.heap.objs.size) { s with heap:=h' }:=fun its r' hz h' c' kp e =>
  ⟨.ref s.heap.objs.size,_,I.laid (t':=s.toks) kp (Zt _) (show aS X.prog X.w _ h' _ (.lst ys) from ⟨hz,its,c',r',e⟩),rfl,q _ (I.hok.fresh (Zt _))⟩
 rcases hq with hq | hq
 ·obtain ⟨its,r',pl,hz⟩:=I.list hq
  have hlen:=r'.length
  obtain ⟨o,ho,hc,n,hd⟩:=pl.isList
  exact call_list_seq p (.inl rfl) ho hc hd (fun h' c' kp e=>fin its r' hz h' c' kp e) (by simp only [List.size_toArray] <;> lia)
 ·obtain ⟨its,r',pl,hz⟩:=I.tuple hq
  have hlen:=r'.length
  obtain ⟨o,ho,hc,n,hd⟩:=pl
  exact call_list_seq p (.inr rfl) ho hc hd (fun h' c' kp e=>fin its r' hz h' c' kp e) (by simp only [List.size_toArray] <;> lia)
theorem kM:dq X (.type "tuple") (fun xs H Q=>∃ p ys,xs=[.ref p]/\((SqL X.K H p ys/\∀ l,H l=none->Q (.ref l) (upd H l (.tup ys)))\/(SqT X.K H p ys/\Q (.ref p) H))):=by
 intro pins s σ H xs us Q I r h
 obtain ⟨p,ys,rfl,h⟩:=h
 obtain ⟨u,rfl,rx⟩:=vals1 r
 cases rx
 rcases h with ⟨hq,q⟩ | ⟨hq,q⟩
 ·obtain ⟨its,r',pl,hz⟩:=I.list hq
  have hlen:=r'.length
  refine call_tuple_list pl.isList (fun h' kp=>?_) (by simp only [List.size_toArray] <;> lia)
  have I1:Inv X pins σ H { s with heap:=h' }:=I.kept (t':=s.toks) kp
  have I2:Inv X pins σ (upd H h'.objs.size (.tup ys)) { s with heap:=h'.push { cls:=.type "tuple",data:=.seq its.toArray } } :=
   I1.laid (t':=s.toks) (fun b o e=>Zu _ e) (Zt _) (show aS X.prog X.w _ _ _ (.tup ys) from ⟨hz,its,r',NoD.new _ _,IsTup.new _ _⟩)
  exact ⟨.ref h'.objs.size,_,I2,rfl,q _ (I1.hok.fresh (Zt _))⟩
 ·obtain ⟨its,r',pl,hz⟩:=I.tuple hq
  exact call_tuple_same pl ⟨.ref p,H,I,rfl,q⟩
noncomputable def tyV (K:PySem.W.Frag) (T:String) (x:V) (H:Hp):Prop:=match x with
 | .str _=>T = "str"
 | .int _=>T = "int"
 | .ref p=>(T = "list" ∧ ∃ xs,SqL K H p xs)\/(T = "tuple" ∧ ∃ o,K.lookup p=some o/\o.cls=.type "tuple" ∧ o.dict=none) ∨
   (T = "dict" ∧ ((∃ kvs,H p=some (.dK kvs))\/∃ kvs,H p=some (.dT kvs)))\/(T = "set" ∧ ∃ S n,H p=some (.set S n))
 | _=>False
theorem AZ {pins:List (Addr×Obj)} {σ:St} {H:Hp} {s:Shared} {T:String} {x:V} {v:Value} (I:Inv X pins σ H s) (r:RelV x v) (ty:tyV X.K T x H) :
  s.TypeIs v T/\∀ a,v=.ref a->∃ ob,s.heap.get? a=some ob/\ob.dict=none:=by
 cases x with
 | str z =>
  obtain ⟨t,rfl⟩:=r
  cases (show T = "str" from ty)
  exact ⟨typeIs_str s z t,fun _ e=>nomatch e⟩
 | int i =>
  obtain ⟨t,rfl⟩:=r
  cases (show T = "int" from ty)
  exact ⟨typeIs_int s i t,fun _ e=>nomatch e⟩
 | ref p =>
  cases r
  rcases ty with ⟨rfl,xs,hq⟩ | ⟨rfl,o,hk,hc,hd⟩ | ⟨rfl,hk⟩ | ⟨rfl,S,n,hk⟩
  ·obtain ⟨its,_,pl,_⟩:=I.list hq
   refine ⟨pl.isList.typeIs,fun a e=>?_⟩
   cases e
   obtain ⟨o,n,e,c,hd,_⟩:=pl
   exact ⟨o,e,hd⟩
  ·refine ⟨⟨o,I.kIn p o hk,hc⟩,fun a e=>?_⟩
   cases e
   exact ⟨o,I.kIn _ o hk,hd⟩
  ·have z:∃ o,s.heap.get? p=some o/\o.ExactDict:=by
    rcases hk with ⟨kvs,hk⟩ | ⟨kvs,hk⟩
    ·obtain ⟨_,_,_,_,o,_,_,e,ex,_⟩:=I.hok p _ hk
     exact ⟨o,e,ex⟩
    ·obtain ⟨_,_,_,_,o,_,_,e,ex,_⟩:=I.hok p _ hk
     exact ⟨o,e,ex⟩
   obtain ⟨o,e,ex⟩:=z
   refine ⟨⟨o,e,ex.1⟩,fun a e2=>?_⟩
   cases e2
   exact ⟨o,e,ex.2.1⟩
  ·obtain ⟨o,_,_,_,e,ex,_⟩:=I.hok p _ hk
   refine ⟨⟨o,e,ex.1⟩,fun a e2=>?_⟩
   cases e2
   exact ⟨o,e,ex.2.1⟩
 | _=>exact False.elim ty
noncomputable def tBM (K:PySem.W.Frag) (T:String) (r:V->List V->Hp->VK->Prop) (to:TE) (t:TA):TE:=fun σ H Q=>to σ H fun x H1=>tyV K T x H1/\t σ H1 fun xs H2=>r x xs H2 Q
variable {o e:Expr} {es:List Expr} {to:TE} {t:TA} {name:Str} {apos cpos:Pos} {T id:String} {r:V->List V->Hp->VK->Prop}
theorem oi (pa:PlainAttrs T) (slot:Slot T name id) (hty:typeOf (.builtin id)=pure (.type "method_descriptor")) (hm:MtR X id r) (ho:PE X o to) (ha:PA X (e :: es) t)
  (hbase:attributeBase o name X.env (eval o X.env)=eval o X.env:=by rfl)
  (hfew:((backTo cpos (starEach (e :: es) X.env)).all (fun x=>!x.1) && (backToKw cpos (keywordEach [] X.env)).all (fun x=>x.1.isSome)
   && decide ((e :: es).length+([]:List Keyword).length+(if ([]:List Keyword).isEmpty then 0 else 1) < 30))=true:=by rfl)
  (hline:(apos.endLine == cpos.line)=true:=by rfl) (hs:starEach (e :: es) X.env=(false,eval e X.env) :: starEach es X.env:=by rfl) (hplain:(backTo cpos (starEach es X.env)).any (·.1)=false:=by rfl) :
  PE X (.Call (.Attribute o name apos) (e :: es) [] cpos) (tBM X.K T r to t):=by
 intro pins s σ H Q I h
 refine wpAny_Call_method_late hbase hfew hline rfl (thn (ho pins s σ H _ I h) fun v s1 ⟨x,H1,I1,r1,ty,q1⟩=>?_)
 obtain ⟨h1,h2⟩:=AZ I1 r1 ty
 refine ⟨T,id,pa,slot,hty,h1,h2,?_⟩
 have hA:=ha cpos pins s1 σ H1 _ I1 q1
 rw [hs] at hA ⊢
 refine Calls.callWith_builtin (by show (false || (backTo cpos (starEach es X.env)).any (·.1))=false;rw [hplain] <;> rfl) (Calls.evalArgs_plain ?_)
 exact thn hA fun us s2 ⟨vs,H2,I2,r2,q2⟩=>hm pins s2 σ H2 x vs v us Q I2 r1 r2 q2
end
noncomputable def MtM (X:Cx) (id:String) (r:V->List V->Hp->VK->Prop):Prop :=
 ∀ (pins:List (Addr×Obj)) (s:Shared) (σ:St) (H:Hp) (x:V) (xs:List V) (v:Value) (us:List Value) (Q:VK),Inv X pins σ H s->RelV x v->aK xs us->r x xs H Q →
  wpAny (model X.prog X.w) X.A (call (.builtin id) (v :: us)) (EP X pins σ Q) X.xe s
theorem aK.nil_inv {us:List Value} (h:aK [] us):us=[]:=by
 cases h
 rfl
theorem aK.cons_inv {x:V} {xs:List V} {us:List Value} (h:aK (x :: xs) us):∃ u vs,us=u :: vs/\RelV x u/\aK xs vs:=by
 cases h with
 | cons r t=>exact ⟨_,_,rfl,r,t⟩
theorem aK.one {x:V} {us:List Value} (h:aK [x] us):∃ u,us=[u]/\RelV x u:=by
 obtain ⟨u,vs,rfl,r,t⟩:=h.cons_inv
 rw [t.nil_inv]
 exact ⟨_,rfl,r⟩
theorem aK.two {x y:V} {us:List Value} (h:aK [x,y] us):∃ u v,us=[u,v]/\RelV x u/\RelV y v:=by
 obtain ⟨u,vs,rfl,r,t⟩:=h.cons_inv
 obtain ⟨v,rfl,q⟩:=t.one
 exact ⟨_,_,rfl,r,q⟩
section
variable {X:Cx} {pins:List (Addr×Obj)} {σ:St} {H:Hp} {s:Shared} {l b:Addr} {xs ys zs:List V}
theorem Inv.lset {its its':List Value} {n:Nat} {f:Array Value->Array Value} {t':Nat} (I:Inv X pins σ H s) (hH:H l=some (.lst xs))
  (e:s.heap.get? l=some { cls:=.type "list",data:=.seq its.toArray n }) (hf:f its.toArray=its'.toArray) (hv:aK ys its') (hz:ys.length<=sizeLine) :
  Inv X pins σ (upd H l (.lst ys)) { s with heap:=s.heap.update l (Obj.mapSeq f),toks:=t' }:=by
 have q:=PySem.IsL.update e f
 rw [hf] at q
 refine I.write (x:=l) (e:=l) (by rw [hH];exact trivial) (.inl rfl) (fun b' u hb hu=>(Heap.get?_update_other s.heap (Obj.mapSeq f) (Ne.symm hb)).trans hu) ⟨_,q⟩ ?_
 exact ⟨hz,its',_,hv,q⟩
theorem Inv.lnew {its:List Value} {t':Nat} (I:Inv X pins σ H s) (hv:aK ys its) (hz:ys.length<=sizeLine) :
  Inv X pins σ (upd H s.heap.objs.size (.lst ys)) { s with heap:=s.heap.push { cls:=.type "list",data:=.seq its.toArray },toks:=t' } :=
 I.laid (fun _ _ q=>Zu _ q) (Zt _) ⟨hz,its,0,hv,Zo _ rfl⟩
theorem Inv.fresh (I:Inv X pins σ H s):H s.heap.objs.size=none:=I.hok.fresh (Zt _)
theorem Inv.lstM (I:Inv X pins σ H s) (hH:H l=some (.lst xs)):xs.length<=sizeLine/\∃ (its:List Value) (n:Nat),aK xs its/\xs.length=its.length/\s.heap.get? l=some { cls:=.type "list",data:=.seq its.toArray n }:=by
 obtain ⟨z,its,n,r,e⟩:=I.hok l _ hH
 exact ⟨z,its,n,r,r.length,e⟩
theorem nI {n:Nat} (h:n<=sizeLine):Builtin.List.listTooLong n=false:=by
 unfold Builtin.List.listTooLong
 exact decide_eq_false (by lia)
end
section
variable {X:Cx}
noncomputable def jA:V->List V->Hp->VK->Prop:=fun x vs H Q=>∃ l xs y,x=.ref l/\vs=[y]/\H l=some (.lst xs)/\xs.length < sizeLine/\Q .non (upd H l (.lst (xs++[y])))
theorem gZ:MtM X "list.append" jA:=by
 intro pins s σ H x vs v us Q I rx rv h
 obtain ⟨l,xs,y,rfl,rfl,hH,hz,q⟩:=h
 cases rx
 obtain ⟨u,rfl,ru⟩:=rv.one
 obtain ⟨z,its,n,r,hl,e⟩:=I.lstM hH
 refine call_meets F.slot_list_append ⟨_,e,rfl⟩ F.entry_list_append (F.args_list_append_2 _ _) (PySem.list_append l its.toArray n u (by rw [List.size_toArray];lia)) ⟨e,?_⟩
 refine ⟨.non,_,I.lset (its':=its++[u]) hH e (by simp) (r.append (.cons ru .nil)) ?_,rfl,q⟩
 rw [Zj,List.length_singleton]
 lia
noncomputable def Cg:R2:=fun x y H Q=>∃ l b xs zs,x=.ref l/\y=.ref b/\H l=some (.lst xs)/\H b=some (.lst zs)/\xs.length+zs.length<=sizeLine/\∀ p,H p=none->Q (.ref p) (upd H p (.lst (xs++zs)))
theorem BO:OpR X (binaryOp .Add) Cg:=by
 intro pins s σ H x y v u Q I rx ry h
 obtain ⟨l,b,xs,zs,rfl,rfl,hH,hB,hz,q⟩:=h
 cases rx
 cases ry
 obtain ⟨z,its,n,r,hl,e⟩:=I.lstM hH
 obtain ⟨z2,its2,n2,r2,hl2,e2⟩:=I.lstM hB
 refine PySem.P.add_list e e2 ?_ (by rw [List.size_toArray,List.size_toArray];lia)
 have ea:its.toArray++its2.toArray=(its++its2).toArray:=by simp
 rw [ea]
 exact ⟨.ref _,_,I.lnew (t':=s.toks) (r.append r2) (by rw [Zj];lia),rfl,q _ I.fresh⟩
end
section
variable {prog:Program} {w:World} {A:Around} {E:Value->Shared->Prop} {s:Shared}
theorem pS {a c n:Nat} (hac:a<=c) (hc:c<=n):sliceBounds (some (a:Int)) (some (c:Int)) none n=((a:Int),(c:Int),1):=by
 simp only [sliceBounds,Option.getD_none]
 have h1:¬ ((a:Int) < 0):=by lia
 have h2:¬ ((c:Int) < 0):=by lia
 simp only [h1,h2,if_false,show (1:Int) > 0 by decide,if_true]
 congr 1
 ·lia
 ·congr 1;lia
set_option maxRecDepth 100000 in
theorem wL {l b sl:Addr} {items new:Array Value} {n n2:Nat} {vl vu:Value} {a c:Nat} {Q:Unit->Shared->Prop}
  (e:s.heap.get? l=some { cls:=.type "list",data:=.seq items n }) (e2:s.heap.get? b=some { cls:=.type "list",data:=.seq new n2 }) (hne:l ≠ b)
  (hs:s.heap.IsSliceOf sl vl vu .none) (pl:IsPart vl (some (a:Int))) (pu:IsPart vu (some (c:Int))) (hac:a<=c) (hc:c<=items.size)
  (hsz:items.size+new.size<=sizeLine) (h:Q () { s with heap:=s.heap.update l (Obj.mapSeq fun xs=>xs.extract 0 a++new++xs.extract c xs.size) }) :
  wpAny (model prog w) A (setItem (.ref l) (.ref sl) (.ref b)) Q E s:=by
 have hl:s.heap.IsList l items:=PySem.IsL.isList e
 have hb:s.heap.IsList b new:=PySem.IsL.isList e2
 obtain ⟨os,hos,hcs,hds⟩:=id hs
 have hTs:s.TypeIs (.ref sl) "slice" := ⟨os,hos,hcs⟩
 have hstep:¬ ((rawPart none == rawInt 0)=true):=Zp
 have hsame:Builtin.List.listSameRef (.ref l) (.ref b)=false:=by
  unfold Builtin.List.listSameRef
  exact beq_eq_false_iff_ne.mpr hne
 have hmax:(max (a:Int) (c:Int)).toNat=c:=by lia
 have hz':((fun xs:Array Value=>xs.extract 0 a++new++xs.extract c xs.size) items).size<=sizeLine+1:=by
  simp only [Array.size_append,Array.size_extract]
  lia
 unfold setItem
 try with_reducible refine wpAny_holding ?_
 first | refine Zz (Zy ?_) | skip
 refine Zz (wpAny_sequenceKey hl.typeIs (by decide) ?_)
 refine Zz (wpAny_callSpecial?_slot (name:=Str.ofString "__setitem__") hl.typeIs slot_list_setitem
  (wpAny_call_entry slot_list_setitem hl.typeIs entry_list_setitem ?_ (args_list_setitem _ _ _)))
 show wpAny _ _ (Builtin.List.listSubscript? (.ref sl) >>= _) _ _ s
 refine Zz ?_
 unfold Builtin.List.listSubscript?
 refine Zz (wpAny_specialOf hTs slice_no_index ?_)
 simp only [Option.isNone_none,if_true]
 refine Zy ?_
 show wpAny _ _ (typeOf (.ref sl) >>= _) _ _ s
 refine Zz (wpAny_typeOf hTs ?_)
 first
  | rw [if_neg (by decide)]
  | refine PySem.W.KFB.if_not (by decide) ?_
 rw [listSliceParts_eq]
 refine Zz (Zz (wpAny_field hos hds (x:=.none) rfl (Zz (wpAny_listPart .none ?_))))
 rw [if_neg hstep]
 refine Zz (wpAny_field hos hds (x:=vl) rfl (Zz (wpAny_listPart pl ?_)))
 refine Zz (wpAny_field hos hds (x:=vu) rfl (Zz (wpAny_listPart pu (Zy ?_))))
 first
  | simp only [hsame,Bool.false_eq_true,if_false]
  | refine PySem.W.KFB.if_not hsame ?_
  | (dsimp only
     rw [if_neg (by rw [hsame];exact Zp)])
 refine Zz (m:=Builtin.List.listAllItems (.ref b) "must assign iterable to extended slice") ?_
 unfold Builtin.List.listAllItems
 refine Zz (wpAny_typeOf hb.typeIs ?_)
 first
  | refine PySem.W.KFB.if_so (by decide) ?_
  | rw [if_pos (by decide)]
  | simp only [beq_self_eq_true,Bool.true_or,if_true]
 unfold Builtin.List.listItems
 refine Zz (wpAny_seqItems e2 rfl (Zy ?_))
 refine Zz (Zz (wpAny_seqItems e rfl (Zy ?_)))
 refine Zz (wpAny_of_eq ((sliceIndices_raw (some (a:Int)) (some (c:Int)) none items.size (by simp)).trans (congrArg (pure:Int×Int×Int->Sem (Int×Int×Int)) (pS hac hc))) ?_)
 show wpAny _ _ (if ((1:Int) == 1)=true then _ else _) _ _ s
 rw [if_pos (by decide)]
 refine Zz (wpAny_rule ?_)
 first
  | simp only [nI hsz,Bool.false_eq_true,if_false]
  | refine PySem.W.KFB.if_not (nI hsz) ?_
 first | refine Zz (Zy ?_) | skip
 show wpAny _ _ (updateSeq l (fun xs=>xs.extract 0 ((a:Int)).toNat++new++xs.extract (max (a:Int) (c:Int)).toNat xs.size) >>= _) _ _ s
 rw [hmax,Int.toNat_natCast]
 refine Zz (wpAny_updateSeq (hz:=Nat.le_trans (Nat.le_add_right _ _) hsz) (_hz':=hz') e rfl ?_)
 refine Zz (wpAny_letGo ?_)
 first
  | exact Zz (Zy (Zy ⟨.none,rfl,Zy h⟩))
  | exact Zy ⟨.none,rfl,Zy h⟩
end
section
variable {X:Cx}
end
section
variable {κ:Type} [DecidableEq κ]
noncomputable def cf (kvs:List (κ×V)) (k:κ):Option V:=(kvs.find? fun kv=>decide (kv.1=k)).map (·.2)
noncomputable def putK (kvs:List (κ×V)) (k:κ) (v:V):List (κ×V) :=
 if (kvs.any fun kv=>decide (kv.1=k))=true then kvs.map (fun kv=>if kv.1=k then (kv.1,v) else kv) else kvs++[(k,v)]
noncomputable def EF (kvs:List (κ×V)) (k:κ):List (κ×V):=kvs.filter fun kv=>decide (kv.1 ≠ k)
theorem bO {p:κ×V} {r:List (κ×V)} {k:κ} (e:p.1=k):cf (p :: r) k=some p.2:=by simp [cf,List.find?_cons,e]
theorem cz {p:κ×V} {r:List (κ×V)} {k:κ} (e:¬ p.1=k):cf (p :: r) k=cf r k:=by simp [cf,List.find?_cons,e]
theorem gC (k:κ):∀ kvs:List (κ×V),(kvs.any fun kv=>decide (kv.1=k))=(cf kvs k).isSome
 | []=>rfl
 | p :: r=>by
  rw [List.any_cons]
  by_cases e:p.1=k
  ·simp only [bO e,decide_eq_true e,Bool.true_or,Option.isSome_some]
  ·rw [cz e,decide_eq_false e,Bool.false_or];exact gC k r
theorem ot (k j:κ) (y:V):∀ kvs:List (κ×V),cf (kvs.map fun kv=>if kv.1=k then (kv.1,y) else kv) j=(cf kvs j).map fun x=>if j=k then y else x
 | []=>rfl
 | p :: r=>by
  have ih:=ot k j y r
  rw [List.map_cons]
  by_cases h:p.1=k
  ·rw [if_pos h]
   by_cases e:p.1=j
   ·rw [bO (p:=(p.1,y)) e,bO e,Option.map_some,if_pos (e.symm.trans h)]
   ·rw [cz (p:=(p.1,y)) e,cz e,ih]
  ·rw [if_neg h]
   by_cases e:p.1=j
   ·rw [bO (p:=p) e,bO e,Option.map_some,if_neg (fun z=>h (e.trans z))]
   ·rw [cz (p:=p) e,cz e,ih]
theorem lA (k j:κ) (y:V):∀ kvs:List (κ×V),cf kvs k=none->cf (kvs++[(k,y)]) j=if j=k then some y else cf kvs j
 | [],_=>by
  by_cases e:k=j
  ·rw [if_pos e.symm];exact bO (p:=(k,y)) e
  ·rw [if_neg (fun z=>e z.symm)];exact cz (p:=(k,y)) e
 | p :: r,hn=>by
  rw [List.cons_append]
  have hk:¬ p.1=k:=fun z=>by rw [bO z] at hn;cases hn
  rw [cz hk] at hn
  have ih:=lA k j y r hn
  by_cases e:p.1=j
  ·rw [bO e,bO e,if_neg (fun z=>hk (e.trans z))]
  ·rw [cz e,cz e,ih]
theorem vd (kvs:List (κ×V)) (k j:κ) (y:V):cf (putK kvs k y) j=if j=k then some y else cf kvs j:=by
 unfold putK
 by_cases a:(kvs.any fun kv=>decide (kv.1=k))=true
 ·rw [if_pos a,ot]
  rw [gC] at a
  by_cases e:j=k
  ·obtain ⟨x,hx⟩:=Option.isSome_iff_exists.mp a
   rw [if_pos e,e,hx,Option.map_some,if_pos rfl]
  ·rw [if_neg e]
   cases cf kvs j with
   | none=>rfl
   | some x=>rw [Option.map_some,if_neg e]
 ·rw [if_neg a]
  refine lA k j y kvs ?_
  rw [gC] at a
  cases q:cf kvs k with
  | none=>rfl
  | some x=>rw [q] at a;exact (a rfl).elim
theorem dZ (kvs:List (κ×V)) (k:κ) (v:V):(putK kvs k v).length<=kvs.length+1:=by
 unfold putK
 split
 ·rw [Zk];lia
 ·rw [Zj,List.length_cons,List.length_nil];lia
theorem iM.isSome_eq {o:Option V} {u:Option Value} (r:iM o u):o.isSome=u.isSome:=by
 cases o with
 | none=>cases u with
  | none=>rfl
  | some _=>exact (show False from r).elim
 | some _=>cases u with
  | none=>exact (show False from r).elim
  | some _=>rfl
theorem KV.val {kvs:List (κ×V)} {vs:List (κ×Value)} (r:KV kvs vs) (k:κ):iM (cf kvs k) (valueAt vs k):=by
 unfold KV at r
 induction r with
 | nil=>exact True.intro
 | @cons p q ps qs h t ih =>
  obtain ⟨h1,h2⟩:=h
  by_cases e:p.1=k
  ·have e':q.1=k:=h1.symm.trans e
   have b:valueAt (q :: qs) k=some q.2:=by simp [valueAt,List.find?_cons,e']
   rw [bO e,b];exact h2
  ·have e':¬ q.1=k:=fun z=>e (h1.trans z)
   have b:valueAt (q :: qs) k=valueAt qs k:=by simp [valueAt,List.find?_cons,e']
   rw [cz e,b];exact ih
theorem KV.any {kvs:List (κ×V)} {vs:List (κ×Value)} (r:KV kvs vs) (k:κ):(kvs.any fun kv=>decide (kv.1=k))=vs.any fun kv=>decide (kv.1=k):=by
 unfold KV at r
 induction r with
 | nil=>rfl
 | cons h t ih=>rw [List.any_cons,List.any_cons,ih,h.1]
theorem KV.repl {kvs:List (κ×V)} {vs:List (κ×Value)} (r:KV kvs vs) (k:κ) {y:V} {u:Value} (ry:RelV y u) :
  KV (kvs.map fun kv=>if kv.1=k then (kv.1,y) else kv) (vs.map fun kv=>if kv.1=k then (kv.1,u) else kv):=by
 unfold KV at r ⊢
 induction r with
 | nil=>exact .nil
 | @cons p q ps qs h t ih =>
  rw [List.map_cons,List.map_cons]
  refine .cons ?_ ih
  obtain ⟨h1,h2⟩:=h
  by_cases e:p.1=k
  ·rw [if_pos e,if_pos (h1.symm.trans e)];exact ⟨h1,ry⟩
  ·rw [if_neg e,if_neg (fun z=>e (h1.trans z))];exact ⟨h1,h2⟩
theorem KV.put {kvs:List (κ×V)} {vs:List (κ×Value)} (r:KV kvs vs) (k:κ) {y:V} {u:Value} (ry:RelV y u):KV (putK kvs k y) (stored vs k u):=by
 unfold putK stored
 rw [r.any k]
 by_cases e:(vs.any fun kv=>decide (kv.1=k))=true
 ·rw [if_pos e,if_pos e];exact r.repl k ry
 ·rw [if_neg e,if_neg e];exact Paired.snoc r ⟨rfl,ry⟩
theorem KV.keys {kvs:List (κ×V)} {vs:List (κ×Value)} (r:KV kvs vs):kvs.map (·.1)=vs.map (·.1):=by
 unfold KV at r
 induction r with
 | nil=>rfl
 | cons h t ih=>rw [List.map_cons,List.map_cons,ih,h.1]
theorem KV.length {kvs:List (κ×V)} {vs:List (κ×Value)} (r:KV kvs vs):kvs.length=vs.length:=Paired.length r
end
theorem jb {P:Program} {w:World} {k:Key} {u:Value} (r:RelV (kV k) u):(aN P w).is k u=true:=by
 cases k with
 | inl i=>obtain ⟨t,e⟩:=(show ∃ t,u=Value.int i t from r);subst e;exact o7 P w i t
 | inr x=>obtain ⟨t,e⟩:=(show ∃ t,u=Value.str x t from r);subst e;exact oK P w x t
theorem lU {P:Program} {w:World}:∀ {ks:List Key} {us:List Value},aK (ks.map kV) us->ItemsAre (aN P w) ks us
 | [],_,r=>by rw [List.map_nil] at r;cases r;exact .nil
 | k :: ks,_,r=>by
  rw [List.map_cons] at r
  cases r with
  | cons h t=>exact .cons (jb h) (lU t)
noncomputable abbrev KT (H:Hp):List (List Key×V)->List (List Key×Addr×Value)->Prop:=Paired fun p q=>p.1=q.1/\H q.2.1=some (.tup (p.1.map kV))/\RelV p.2 q.2.2
theorem KT.val {H:Hp} {kvs:List (List Key×V)} {xs:List (List Key×Addr×Value)} (r:KT H kvs xs) (k:List Key):iM (cf kvs k) ((atKey xs k).map (·.2)):=by
 induction r with
 | nil=>exact True.intro
 | @cons p q ps qs h t ih =>
  obtain ⟨h1,_,h2⟩:=h
  by_cases e:p.1=k
  ·have e':q.1=k:=h1.symm.trans e
   have b:atKey (q :: qs) k=some q.2:=by simp [atKey,List.find?_cons,e']
   rw [bO e,b];exact h2
  ·have e':¬ q.1=k:=fun z=>e (h1.trans z)
   have b:atKey (q :: qs) k=atKey qs k:=by simp [atKey,List.find?_cons,e']
   rw [cz e,b];exact ih
theorem KT.repl {H:Hp} {kvs:List (List Key×V)} {xs:List (List Key×Addr×Value)} (r:KT H kvs xs) (k:List Key) {y:V} {u:Value} (ry:RelV y u) :
  KT H (kvs.map fun kv=>if kv.1=k then (kv.1,y) else kv) (xs.map (putAt k u)):=by
 induction r with
 | nil=>exact .nil
 | @cons p q ps qs h t ih =>
  rw [List.map_cons,List.map_cons]
  refine .cons ?_ ih
  obtain ⟨h1,h2,h3⟩:=h
  unfold putAt
  by_cases e:p.1=k
  ·rw [if_pos e,if_pos (h1.symm.trans e)];exact ⟨h1,h2,ry⟩
  ·rw [if_neg e,if_neg (fun z=>e (h1.trans z))];exact ⟨h1,h2,h3⟩
theorem KT.put {H:Hp} {kvs:List (List Key×V)} {xs:List (List Key×Addr×Value)} (r:KT H kvs xs) (k:List Key) {b:Addr} {y:V} {u:Value} (hb:H b=some (.tup (k.map kV))) (ry:RelV y u) :
  KT H (putK kvs k y) (storedH xs k b u):=by
 have e:(kvs.any fun kv=>decide (kv.1=k))=(atKey xs k).isSome:=by
  rw [gC,(r.val k).isSome_eq,Option.isSome_map]
 unfold putK storedH
 rw [e]
 by_cases q:(atKey xs k).isSome=true
 ·rw [if_pos q,if_pos q];exact r.repl k ry
 ·rw [if_neg q,if_neg q];exact Paired.snoc r ⟨rfl,hb,ry⟩
theorem KT.keeps {H H':Hp} {kvs:List (List Key×V)} {xs:List (List Key×Addr×Value)} (r:KT H kvs xs) (ht:∀ b ys,H b=some (.tup ys)->H' b=some (.tup ys)):KT H' kvs xs :=
 Paired.mapP r fun _ _ z=>⟨z.1,ht _ _ z.2.1,z.2.2⟩
section
variable {P:Program} {w:World} {H:Hp} {h:Heap} {a:Addr}
theorem zU {u:HO} (ok:HOk P w H h) (e:Rd H a u):aS P w H h a u:=e.ok ok
theorem lC {kvs:List (Key×V)} (ok:HOk P w H h) (e:Rd H a (.dK kvs)):kvs.length<=sizeLine/\(a == sysModules)=false/\∃ vs,KV kvs vs/\h.DictOf (aN P w) a vs :=
 show aS P w H h a (.dK kvs) from zU ok e
theorem oF {kvs:List (Key×V)} (ok:HOk P w H h) (e:H a=some (.dK kvs)):kvs.length<=sizeLine/\(a == sysModules)=false/\∃ vs,KV kvs vs/\h.DictOf (aN P w) a vs:=lC ok (.inl e)
theorem eI {ks:List Key} (ok:HOk P w H h) (e:H a=some (.tup (ks.map kV))):(tupleKind (aN P w)).is h ks a:=by
 obtain ⟨_,its,r,_,o,h1,h2,n,h3⟩:=(show aS P w H h a (.tup (ks.map kV)) from ok a _ e)
 exact ⟨o,its.toArray,n,h1,h2,h3,by simpa using lU r⟩
theorem o9 {kvs:List (List Key×V)} (ok:HOk P w H h) (e:Rd H a (.dT kvs)):kvs.length<=sizeLine/\(a == sysModules)=false ∧
  ∃ xs,KT H kvs xs/\h.DictOfH (tupleKind (aN P w)) a xs:=by
 obtain ⟨z,y,xs,r,o,es,ep,h1,h2,h3,h4,h5⟩:=(show aS P w H h a (.dT kvs) from zU ok e)
 refine ⟨z,y,xs,r,o,es,ep,h1,h2,h3,h4,fun x hx=>?_,h5⟩
 have all:∀ {l:List (List Key×V)} {m:List (List Key×Addr×Value)},KT H l m->∀ x∈m,(tupleKind (aN P w)).is h x.1 x.2.1:=by
  intro l m q
  induction q with
  | nil=>intro x hx;exact nomatch hx
  | @cons p q ps qs hq t ih =>
   intro x hx
   rcases Zg.mp hx with e | hx
   ·subst e
    exact eI ok (by rw [← hq.1];exact hq.2.1)
   ·exact ih x hx
 exact all r x hx
theorem Dd {kvs:List (List Key×V)} (ok:HOk P w H h) (e:H a=some (.dT kvs)):kvs.length<=sizeLine/\(a == sysModules)=false ∧
  ∃ xs,KT H kvs xs/\h.DictOfH (tupleKind (aN P w)) a xs:=o9 ok (.inl e)
end
noncomputable def ip (H:Hp) (a:Addr) (y:V) (r:Option V):Prop :=
 (∃ kvs k,Rd H a (.dK kvs)/\y=kV k/\r=cf kvs k)\/∃ kvs k b,Rd H a (.dT kvs)/\y=.ref b/\H b=some (.tup (k.map kV))/\r=cf kvs k
noncomputable def wG (H:Hp) (a:Addr) (y v:V) (H':Hp):Prop :=
 (∃ kvs k,H a=some (.dK kvs)/\y=kV k/\kvs.length < sizeLine/\H'=upd H a (.dK (putK kvs k v))) ∨
 ∃ kvs k b,H a=some (.dT kvs)/\y=.ref b/\H b=some (.tup (k.map kV))/\kvs.length < sizeLine/\H'=upd H a (.dT (putK kvs k v))
theorem ip.k {H:Hp} {a:Addr} {kvs:List (Key×V)} {k:Key} (e:H a=some (.dK kvs)):ip H a (kV k) (cf kvs k):=.inl ⟨kvs,k,.inl e,rfl,rfl⟩
theorem wG.k {H:Hp} {a:Addr} {kvs:List (Key×V)} {k:Key} {v:V} (e:H a=some (.dK kvs)) (hl:kvs.length < sizeLine):wG H a (kV k) v (upd H a (.dK (putK kvs k v))):=.inl ⟨kvs,k,e,rfl,hl,rfl⟩
section
variable {X:Cx} {pins:List (Addr×Obj)} {σ:St} {H:Hp} {s:Shared} {a:Addr} {y v:V} {u r:Value} {o:Option V} {A:Around} {E:Value->Shared->Prop}
theorem Inv.big (I:Inv X pins σ H s):sysModules < s.heap.objs.size:=by
 have h:mainGlobals < s.heap.objs.size:=(I.mod.glob.keeps I.bk).lt
 exact Nat.lt_trans (by decide) h
theorem r6 {Q:Value->Shared->Prop} (hu:A.units+1 < cLine) (I:Inv X pins σ H s) (g:ip H a y (some v)) (ry:RelV y u) (h:∀ w' s',Inv X pins σ H s'->RelV v w'->Q w' s') :
  wpAny (model X.prog X.w) A (getItem (.ref a) u) Q E s:=by
 rcases g with ⟨kvs,k,e,ey,l⟩ | ⟨kvs,k,b,e,ey,eb,l⟩
 ·subst ey
  obtain ⟨z,hd,vs,rel,dd⟩:=lC I.hok e
  obtain ⟨w',hw,rw'⟩:=iM.some_of (v:=v) (o:=valueAt vs k) (by rw [l];exact rel.val k)
  exact wpAny_getItem_of (jb ry) dd.mapOf hw (h w' _ (I.tok _) rw')
 ·subst ey
  cases (show u=Value.ref b from ry)
  obtain ⟨z,hd,xs,rel,dd⟩:=o9 I.hok e
  obtain ⟨w',hw,rw'⟩:=iM.some_of (v:=v) (o:=(atKey xs k).map (·.2)) (by rw [l];exact rel.val k)
  obtain ⟨p,hp,hp2⟩:=Zq.mp hw
  refine wpAny_getItem_heap (tupleKind_room_in1 hu) (eI I.hok eb) dd hp ?_
  rw [hp2]
  exact h w' _ (I.tok _) rw'
theorem Ee {Q:Value->Shared->Prop} (hu:A.units+1 < cLine) (I:Inv X pins σ H s) (g:ip H a y o) (ry:RelV y u) (h:∀ s',Inv X pins σ H s'->Q (.bool o.isSome) s') :
  wpAny (model X.prog X.w) A (compareOp .In u (.ref a)) Q E s:=by
 rcases g with ⟨kvs,k,e,ey,l⟩ | ⟨kvs,k,b,e,ey,eb,l⟩
 ·subst ey
  obtain ⟨z,hd,vs,rel,dd⟩:=lC I.hok e
  refine wpAny_in_of (jb ry) hd dd.mapOf ?_
  rw [← (rel.val k).isSome_eq,← l]
  exact h _ (I.tok _)
 ·subst ey
  cases (show u=Value.ref b from ry)
  obtain ⟨z,hd,xs,rel,dd⟩:=o9 I.hok e
  refine wpAny_in_heap (tupleKind_room_in1 hu) (eI I.hok eb) hd dd ?_
  have q:=(rel.val k).isSome_eq
  rw [Option.isSome_map] at q
  rw [← q,← l]
  exact h _ (I.tok _)
theorem zh {Q:Value->Shared->Prop} (hu:A.units+1 < cLine) (I:Inv X pins σ H s) (g:ip H a y o) (ry:RelV y u) (h:∀ s',Inv X pins σ H s'->Q (.bool (!o.isSome)) s') :
  wpAny (model X.prog X.w) A (compareOp .NotIn u (.ref a)) Q E s:=by
 rcases g with ⟨kvs,k,e,ey,l⟩ | ⟨kvs,k,b,e,ey,eb,l⟩
 ·subst ey
  obtain ⟨z,hd,vs,rel,dd⟩:=lC I.hok e
  refine wpAny_notIn_of (jb ry) hd dd.mapOf ?_
  rw [← (rel.val k).isSome_eq,← l]
  exact h _ (I.tok _)
 ·subst ey
  cases (show u=Value.ref b from ry)
  obtain ⟨z,hd,xs,rel,dd⟩:=o9 I.hok e
  refine wpAny_notIn_heap (tupleKind_room_in1 hu) (eI I.hok eb) hd dd ?_
  have q:=(rel.val k).isSome_eq
  rw [Option.isSome_map] at q
  rw [← q,← l]
  exact h _ (I.tok _)
theorem g8 {h':Heap} {t':Nat} {ob:HO} (I:Inv X pins σ H s) (mu:Mut (H a)) (hs:Heap.SameBut a s.heap h') (he:∃ q,h'.get? a=some q) (new:aS X.prog X.w (upd H a ob) h' a ob) :
  Inv X pins σ (upd H a ob) { s with heap:=h',toks:=t' } :=
 I.write (x:=a) (e:=a) mu (.inl rfl) (fun b q hb z=>(hs.2 b hb).trans z) he new
theorem mZ {P:Program} {w:World} {H':Hp} {h':Heap} {kvs:List (Key×V)} {vs:List (Key×Value)} (z:kvs.length<=sizeLine) (hd:(a == sysModules)=false) (rel:KV kvs vs) (dd:h'.DictOf (aN P w) a vs) :
  aS P w H' h' a (.dK kvs):=⟨z,hd,vs,rel,dd⟩
theorem tN {H':Hp} {Q:Unit->Shared->Prop} (hu:A.units+1 < cLine) (I:Inv X pins σ H s) (g:wG H a y v H') (ry:RelV y u) (rv:RelV v r) (h:∀ s',Inv X pins σ H' s'->Q () s') :
  wpAny (model X.prog X.w) A (setItem (.ref a) u r) Q E s:=by
 rcases g with ⟨kvs,k,e,ey,l,eH⟩ | ⟨kvs,k,b,e,ey,eb,l,eH⟩
 ·subst ey eH
  obtain ⟨z,hd,vs,rel,dd⟩:=oF I.hok e
  have hz:vs.length<=sizeLine:=by rw [← rel.length];exact z
  have hl:(putK kvs k v).length<=sizeLine:=by have:=dZ kvs k v;lia
  refine wpAny_setItem_pairs (hsz:=hz) (jb ry) dd fun h' dd' hs=>h _ ?_
  have he:∃ q,h'.get? a=some q:=let ⟨q,_,_,hq,_⟩:=dd';⟨q,hq⟩
  exact g8 I (by rw [e];exact True.intro) hs he (mZ hl hd (rel.put k rv) dd')
 ·subst ey eH
  cases (show u=Value.ref b from ry)
  obtain ⟨z,hd,xs,rel,dd⟩:=Dd I.hok e
  have hz:xs.length<=sizeLine:=by rw [← Paired.length rel];exact z
  have hl:(putK kvs k v).length<=sizeLine:=by have:=dZ kvs k v;lia
  refine wpAny_setItem_heap (hsz:=hz) (tupleKind_room_in1 hu) (eI I.hok eb) dd fun h' dd' hs=>h _ ?_
  obtain ⟨q,es,ep,hq,h2,h3,h4,_,h5⟩:=dd'
  refine g8 I (by rw [e];exact True.intro) hs ⟨q,hq⟩ ⟨hl,hd,_,(rel.put k eb rv).keeps fun c ys ec=>?_,q,es,ep,hq,h2,h3,h4,h5⟩
  rw [aw (CA ec e (fun z=>nomatch z))]
  exact ec
end
section
variable {X:Cx} {pins:List (Addr×Obj)} {σ:St} {H:Hp} {s:Shared} {a:Addr} {kvs:List (Key×V)} {k:Key} {u:Value} {A:Around} {E:Value->Shared->Prop}
theorem CG {Q:Value->Shared->Prop} (I:Inv X pins σ H s) (e:Rd H a (.dK kvs)) (h:∀ t s',Inv X pins σ H s'->Q (.int kvs.length t) s'):wpAny (model X.prog X.w) A (call (.builtin "len") [.ref a]) Q E s:=by
 obtain ⟨z,hd,vs,rel,dd⟩:=lC I.hok e
 refine call_len_dict hd dd (by rw [← rel.length];rw [sizeLine_eq] at z;lia) ?_
 rw [← rel.length]
 exact h _ _ (I.tok _)
end
theorem nq {X:Cx} {pins:List (Addr×Obj)} {σ:St} {H:Hp} {s:Shared} {a:Addr} {y:V} {o:Option V} (I:Inv X pins σ H s) (g:ip H a y o):s.TypeIs (.ref a) "dict" := by
 rcases g with ⟨kvs,k,e,_,_⟩ | ⟨kvs,k,b,e,_,_,_⟩
 ·obtain ⟨_,_,vs,_,dd⟩:=lC I.hok e
  exact dd.typeIs
 ·obtain ⟨_,_,xs,_,dd⟩:=o9 I.hok e
  exact dd.typeIs
section
variable {X:Cx} {o i e value:Expr} {pos pos' tpos:Pos} {td ty tv:TE}
end
theorem og {P:Program} {w:World} {H:Hp} (h:Heap) (hb:sysModules < h.objs.size):aS P w H (h.push { cls:=.type "dict",data:=.dict #[] }) h.objs.size (.dK []) :=
 ⟨Nat.zero_le _,beq_eq_false_iff_ne.mpr (Ne.symm (Zn hb)),[],.nil,Heap.DictOf.new h⟩
noncomputable def Bh:TE:=fun _ H Q=>∀ p,H p=none->Q (.ref p) (upd H p (.dK []))
section
variable {X:Cx} {pos:Pos}
theorem uF:PE X (.Dict [] [] pos) Bh:=fun pins s σ H Q I h =>
 wpAny_Dict_empty ⟨.ref s.heap.objs.size,_,I.laid (a:=s.heap.objs.size) (o:=.dK []) (t':=s.toks) (fun _ _ q=>Zu _ q) (Zt _) (og s.heap I.big),rfl,h _ (I.hok.fresh (Zt _))⟩
end
noncomputable def pL:List (TE×TE)->St->Hp->(List (V×V)->Hp->Prop)->Prop
 | [],_,H,Q=>Q [] H
 | (tk,tv) :: r,σ,H,Q=>tk σ H fun x H1=>tv σ H1 fun y H2=>pL r σ H2 fun ps H3=>Q ((x,y) :: ps) H3
noncomputable abbrev VV:List (V×V)->List (Value×Value)->Prop:=Paired fun p q=>RelV p.1 q.1/\RelV p.2 q.2
noncomputable def PPs (X:Cx) (pos:Pos) (keys:List (Option Expr)) (values:List Expr) (trs:List (TE×TE)):Prop :=
 ∀ (pins:List (Addr×Obj)) (s:Shared) (σ:St) (H:Hp) (Q:List (V×V)->Hp->Prop),Inv X pins σ H s->pL trs σ H Q →
  wpAny (model X.prog X.w) X.A (evalPairs (pairTrees keys values X.env pos)) (fun vs s'=>∃ ps H',Inv X pins σ H' s'/\VV ps vs/\Q ps H') X.xe s
theorem zD {X:Cx} {pos:Pos}:PPs X pos [] [] []:=fun pins s σ H Q I h=>pairTrees_nil_walk ⟨[],H,I,.nil,h⟩
theorem uV {X:Cx} {pos:Pos} {k v:Expr} {ks:List (Option Expr)} {vs:List Expr} {tk tv:TE} {trs:List (TE×TE)} (hk:PE X k tk) (hv:PE X v tv) (hr:PPs X pos ks vs trs) :
  PPs X pos (some k :: ks) (v :: vs) ((tk,tv) :: trs):=fun pins s σ H Q I h =>
 pairTrees_cons_walk (thn (hk pins s σ H _ I h) fun u s1 ⟨x,H1,I1,rx,q1⟩=>thn (hv pins s1 σ H1 _ I1 q1) fun w2 s2 ⟨y,H2,I2,ry,q2⟩ =>
  thn (hr pins s2 σ H2 _ I2 q2) fun ws s3 ⟨ps,H3,I3,rel,q3⟩=>⟨(x,y) :: ps,H3,I3,.cons ⟨rx,ry⟩ rel,q3⟩)
noncomputable def iU (kvs more:List (Key×V)):List (Key×V):=more.foldl (fun acc kv=>putK acc kv.1 kv.2) kvs
theorem KV.merge:∀ {more:List (Key×V)} {rs:List (Key×Value)} {kvs:List (Key×V)} {vs:List (Key×Value)},KV more rs->KV kvs vs->KV (iU kvs more) (merged vs rs):=by
 intro more rs kvs vs r
 unfold KV at r
 induction r generalizing kvs vs with
 | nil=>intro q;exact q
 | @cons p q ps qs h t ih =>
  intro r0
  have e:KV (putK kvs p.1 p.2) (stored vs q.1 q.2):=by
   have:=r0.put p.1 h.2
   rw [← h.1];exact this
  exact ih e
theorem h9:∀ (more kvs:List (Key×V)),(iU kvs more).length<=kvs.length+more.length
 | [],kvs=>by show kvs.length<=kvs.length+0;lia
 | p :: r,kvs=>by
  have h1:=h9 r (putK kvs p.1 p.2)
  have h2:=dZ kvs p.1 p.2
  show (iU (putK kvs p.1 p.2) r).length<=_
  rw [List.length_cons];lia
theorem jV {P:Program} {w:World}:∀ {kvs:List (Key×V)} {ws:List (Value×Value)},VV (kvs.map fun kv=>(kV kv.1,kv.2)) ws->∃ rs,Carries (aN P w) ws rs/\KV kvs rs
 | [],_,r=>by rw [List.map_nil] at r;cases r;exact ⟨[],True.intro,.nil⟩
 | p :: kvs,_,r=>by
  rw [List.map_cons] at r
  cases r with
  | @cons a b as bs h t =>
   obtain ⟨rs,c,q⟩:=jV (P:=P) (w:=w) t
   obtain ⟨b1,b2⟩:=b
   exact ⟨(p.1,b2) :: rs,⟨jb h.1,rfl,c⟩,.cons ⟨rfl,h.2⟩ q⟩
noncomputable def DB (trs:List (TE×TE)):TE:=fun σ H Q=>∀ p,H p=none->pL trs σ (upd H p (.dK [])) fun ps H2=>H2 p=some (.dK [])/\∃ kvs:List (Key×V),ps=kvs.map (fun kv=>(kV kv.1,kv.2))/\kvs.length<=15/\Q (.ref p) (upd H2 p (.dK (iU [] kvs)))
theorem wR {X:Cx} {pos:Pos} {keys:List (Option Expr)} {values:List Expr} {trs:List (TE×TE)} (h:PPs X pos keys values trs) (hall:keys.all (·.isSome)=true) (hl:keys.length=values.length) (h0:keys ≠ [])
  (h15:keys.length<=15):PE X (.Dict keys values pos) (DB trs):=by
 intro pins s σ H Q I q
 have hn:=I.hok.fresh (Zt s.heap.objs.size)
 have I1:=I.laid (a:=s.heap.objs.size) (o:=.dK []) (h':=s.heap.push { cls:=.type "dict",data:=.dict #[] }) (t':=s.toks) (fun _ _ q=>Zu _ q) (Zt _) (og s.heap I.big)
 refine wpAny_Dict_walk (knd:=aN X.prog X.w) hall hl h0 h15 (thn (h pins _ σ _ _ I1 (q _ hn)) fun ws s2 ⟨ps,H2,I2,rel,e,kvs,ep,lk,q2⟩=>?_)
 subst ep
 obtain ⟨rs,c,rk⟩:=jV (P:=X.prog) (w:=X.w) rel
 obtain ⟨z,hd,vs0,r0,dd⟩:=oF I2.hok e
 cases r0
 refine ⟨rs,c,dd,fun h' dd' hs=>⟨.ref s.heap.objs.size,_,?_,rfl,q2⟩⟩
 have hz:(iU [] kvs).length<=sizeLine:=by
  have h1:=h9 kvs []
  rw [List.length_nil] at h1
  rw [sizeLine_eq];lia
 have he:∃ q,h'.get? s.heap.objs.size=some q:=let ⟨q,_,_,hq,_⟩:=dd';⟨q,hq⟩
 exact g8 I2 (by rw [e];exact True.intro) hs he (mZ hz hd (rk.merge .nil) dd')
section
variable {X:Cx} {pins:List (Addr×Obj)} {σ:St} {H:Hp} {s:Shared} {a:Addr} {y d:V} {u r:Value} {o:Option V} {A:Around} {E:Value->Shared->Prop}
end
section
variable {X:Cx} {o e f:Expr} {apos cpos:Pos} {td ty tx:TE}
end
section
variable {X:Cx} {pins:List (Addr×Obj)} {σ:St} {H:Hp} {s:Shared} {a:Addr} {kvs:List (Key×V)} {A:Around} {E:Value->Shared->Prop}
end
section
variable {X:Cx} {pins:List (Addr×Obj)} {σ:St} {H:Hp} {s:Shared} {a:Addr} {y:V} {u:Value} {A:Around} {E:Value->Shared->Prop}
end
end L2
namespace Att
open PySem PySem.W PySem.Calls PyProof.Rows
theorem jl {P:Params} {h:Heap}:∀ (ns:List Int) (vs:List Value),WellAll P h vs (ns.map WData.int)->IntsAre vs ns:=by
 intro ns
 induction ns with
 | nil =>
  intro vs w
  rw [List.map_nil] at w
  cases w
  exact .nil
 | cons n ns ih =>
  intro vs w
  rw [List.map_cons] at w
  cases w with
  | cons a b =>
   cases a
   exact .cons _ _ (ih _ b)
theorem sy {l:OpenLaw} {n:Nat} (hn:l.most=some n) {P:Params} {h:Heap} {args:List WData} {vals:List Value}
  (hpre:l.row.toRowW.claim.pre args=true) (hwl:WellAll P h vals args) :
  ∃ a vs ns,vals=[Value.ref a]/\args=[WData.list (ns.map WData.int)]/\h.get? a=some { cls:=.type "list",data:=.seq vs.toArray }/\IntsAre vs ns/\ns.length<=n:=by
 have hsh:WShape.hasAll [] args [.list .int]=true:=(pre_splitW hpre).1
 have hc:l.pre.holds [] { args:=args }=true:=(pre_splitW hpre).2
 obtain ⟨d,r,rfl,h1,h2⟩:=hasAllW_cons hsh
 obtain rfl:=hasAllW_nil h2
 obtain ⟨xs,rfl,h3⟩:=hasW_list h1
 obtain ⟨ns,rfl⟩:=items_int h3
 have hlen:ns.length<=n:=by
  unfold OpenLaw.pre at hc
  have h4:(WTm.not (.lt (.lit (.int (n:Int))) (.len (.arg 0)))).holds [] { args:=[.list (ns.map .int)] }=true:=by
   have h4:=(holds_andW hc).1
   rw [hn] at h4
   exact h4
  have h5:=condW_of h4 (w_not (w_lt w_lit (w_len_list (w_arg rfl))))
  rw [Zk] at h5
  refine Nat.le_of_not_lt fun q=>?_
  have q':(n:Int) < ((ns.length:Nat):Int):=by omega
  first
   | (rw [decide_eq_true q'] at h5;exact absurd h5 (by decide))
   | (simp at h5;omega)
 cases hwl with
 | cons w1 w2 =>
  cases w2
  cases w1 with
  | list ho hall=>exact ⟨_,_,ns,rfl,rfl,ho,jl ns _ hall,hlen⟩
theorem tK (l:OpenLaw) (args:List WData):l.row.toRowW.claim.post args (.bool true) args=true :=
 postW_of (r:=l.row.toRowW) (X:=(true == true))
  (show WShape.has [] (.bool true) .bool=true by first | rfl | decide | simp [WShape.has,WShape.arms,WShape.armsAll])
  (show (WTm.eq .res (.lit (.bool true))).value [] { args:=args,res:=some (.bool true),after:=args }=some (.bool (true == true)) from w_eq_bool (w_res rfl) w_lit) rfl
theorem oD {l:OpenLaw} {n:Nat} {q:Program} {loose:List Str} {XP:(Str->Option Value)->Heap->Prop} {YP:World->Heap->Prop} {d:DefRec}
  (hn:l.most=some n) (hdf:d.params.defaults=[])
  (call:∀ (w:World) (s₀ s₁:Shared) (mg mb:Str->Option Value) (fa:Addr) (o:Obj) (pm cd doc:Value) (a:Addr) (vs:List Value) (ns:List Int),
   Ground q loose [] XP w s₀ mg mb s₁.heap->YP w s₁.heap →
   s₁.heap.get? fa=some o->o.data=.func (docDef d.name d.params d.body d.scope pm cd doc)->s₁.heap.CodeRec cd d.name->mg d.name=some (.ref fa) →
   s₁.heap.get? a=some { cls:=.type "list",data:=.seq vs.toArray }->IntsAre vs ns->ns.length<=n->s₁.gens=#[] →
   codeAny (model l.prog w) callerA (.call (.ref fa) ⟨[.ref a],[]⟩) (fun r s'=>r=.ok (.ret (.bool true))/\OldK s₁.heap s'.heap/\s'.os=s₁.os/\AllBare s'.gens) s₁) :
  WalkO q loose XP YP l.row.toRowW d [] (fun f vs=>PySem.call f vs):=by
 intro w s₀ s₁ mg mb G Y fa o pm cd doc dV kV ho hd hcd hD hmg hg args vals as hpre hlay hrd hwl hlo
 obtain rfl:dV=.none:=Dflts.none hD hdf
 obtain rfl:kV=.none:=Dflts.noKw hD
 obtain ⟨a,vs,ns,rfl,rfl,hobj,hints,hlen⟩:=sy hn hpre hwl
 refine enter_call (codeAny_mono (call w s₀ s₁ mg mb fa o pm cd doc a vs ns G Y ho (fd_plain hd) hcd hmg hobj hints hlen hg) fun r s' hq=>?_)
 obtain ⟨rfl,h2,h3,h4⟩:=hq
 exact ⟨.inl ⟨.bool true,.bool true,[],rfl,fun _=>rfl,.bool true,tK l _,fun _=>⟨List.Pairwise.nil,fun _ hm=>(nomatch hm)⟩⟩,h2,h3,h4⟩
section
variable {prog:Program} {w:World} {A:Around} {E:Value->Shared->Prop} {s:Shared} {K:Frag}
end
end Att
namespace L2
open PySem PySem.Spec PyProof.Rows
theorem lK:∀ {vs:List Value} {ns:List Int},IntsAre vs ns->aK (ns.map V.int) vs
 | _,_,.nil=>.nil
 | _,_,.cons n t h=>.cons ⟨t,rfl⟩ (lK h)
noncomputable def ve (H:Hp):Prop:=∀ b,H b=none\/∃ o xs,H b=some (.frz o (.lst xs))
theorem uJ {P:Program} {w:World} {K:PySem.W.Frag} {mg mb:Str->Option Value} {CX:CXT} {k:Nat} {fa a:Addr} {fd:FuncData} {x:Str} {sp:Sp} {s₁:Shared} {vs:List Value} {ns:List Int}
  (KX:K.In s₁.heap) (hns:s₁.heap.Ns mainGlobals mg) (hb:s₁.heap.Ns builtinsNs mb) (hbb:∀ x:Str,x ≠ "__name__" → mb x=bootBuiltins x) (hlim:s₁.heap.NoLimit) (hg:s₁.gens=#[])
  (ha:s₁.heap.get? a=some { cls:=.type "list",data:=.seq vs.toArray }) (hi:IntsAre vs ns) (hl:ns.length<=sizeLine) (hr:Room k callerA)
  (F:∀ base:Heap,K.In base->base.Ns mainGlobals mg->FnOk P w K mg base CX k fa fd [x] sp) (hbind:∀ (s:Shared) (u:Value),BindsTo s fd ⟨[u],[]⟩ [(x,u)])
  (hsp:∀ H:Hp,ve H->SqL K H a (ns.map V.int)->sp [.ref a] H (fun v _=>v=.bl true) fun _ _ _=>False)
  (hCX:∀ H e s',CX [] H s₁ (fun _ _ _=>False) e s'->False) :
  codeAny (model P w) callerA (.call (.ref fa) ⟨[.ref a],[]⟩) (fun r s'=>r=.ok (.ret (.bool true))/\OldK s₁.heap s'.heap/\s'.os=s₁.os/\AllBare s'.gens) s₁:=by
 have rv:=lK hi
 have lenV:=hi.length
 have core:∀ H:Hp,ve H->SqL K H a (ns.map V.int)->HOk P w H s₁.heap->(∀ b,H b ≠ none->b=a)->(H a ≠ none->K.lookup a=none) →
   codeAny (model P w) callerA (.call (.ref fa) ⟨[.ref a],[]⟩) (fun r s'=>r=.ok (.ret (.bool true))/\OldK s₁.heap s'.heap/\s'.os=s₁.os/\AllBare s'.gens) s₁:=by
  intro H hO hS hok hA hK
  have base_of:∀ {b:Addr} {o:Obj},s₁.heap.get? b=some o->H b=none->(mH s₁.heap H).get? b=some o:=fun e n=>ue e n
  have noA:∀ {b:Addr} {o:Obj} {es:Array DictEntry} {ep:Nat},s₁.heap.get? b=some o->o.data=.dict es ep->H b=none:=fun {b o es ep} e d=>by
   cases q:H b with
   | none=>rfl
   | some u =>
    have e':b=a:=hA b (by rw [q];simp)
    subst e'
    rw [ha] at e;cases e
    have d':Data.seq vs.toArray _=Data.dict es ep:=d
    cases d'
  have nsK:∀ {b:Addr} {m:Str->Option Value},s₁.heap.Ns b m->(mH s₁.heap H).Ns b m:=fun {b m} ⟨o,es,ep,e,d,r⟩=>⟨o,es,ep,base_of e (noA e d),d,r⟩
  have hKb:K.In (mH s₁.heap H):=fun b o e=>base_of (KX b o e) (by
   cases q:H b with
   | none=>rfl
   | some u =>
    have e':b=a:=hA b (by rw [q];simp)
    subst e'
    rw [hK (by rw [q];simp)] at e;cases e)
  have hM:Mod K mg (mH s₁.heap H):=⟨hKb,nsK hns,⟨mb,nsK hb,hbb⟩,let ⟨mc,h1,h2⟩:=hlim;⟨mc,nsK h1,h2⟩⟩
  have e0:Env0 P w K mg (mH s₁.heap H) callerA [] s₁ H:=⟨rfl,hM,fun b o e=>yc e,Nat.le_of_eq (sU _ _),trivial,fun b hb=>absurd (show b∈([]:List Addr) from hb) (by simp),hok,.of_eq hg⟩
  refine codeAny_mono ((F _ hKb (nsK hns)).run callerA [] s₁ H ⟨[.ref a],[]⟩ [.ref a] [.ref a] _ _ hr e0 (hbind s₁ (.ref a)) (.cons rfl .nil) (hsp H hO hS)) fun r s' h=>?_
  cases r with
  | error e=>exact (hCX H e s' h).elim
  | ok fl =>
   cases fl with
   | next=>exact False.elim h
   | brk=>exact False.elim h
   | cont=>exact False.elim h
   | ret u =>
    obtain ⟨v,H',os,bare,un,hok',r',q⟩:=h
    have q':v=.bl true:=q
    subst q'
    obtain rfl:u=Value.bool true:=r'
    refine ⟨rfl,OldK.of_keep fun b o e=>?_,os,bare⟩
    cases q:H b with
    | none=>exact un.keep b o e q (by intro z;exact absurd (show b∈([]:List Addr) from z) (by simp)) (by simp)
    | some u =>
     rcases hO b with z | ⟨ob,xs,z⟩
     ·rw [q] at z;cases z
     ·have z2:=un.frzs b ob _ z
      obtain ⟨e1,_⟩:=hok b _ z
      obtain ⟨e2,_⟩:=hok' b _ z2
      rw [e] at e1;cases e1
      exact e2
 cases hk:K.lookup a with
 | some o =>
  have e:=KX a o hk
  rw [ha] at e
  cases e
  refine core (fun _=>none) (fun _=>.inl rfl) (.inr ⟨_,vs.toArray,_,hk,rfl,rfl,rfl,by rw [List.size_toArray,lenV];exact hl,by simpa using rv⟩) (fun b u z=>by have z':(none:Option HO)=some u:=z;cases z') (fun b z=>absurd rfl z) fun z=>absurd rfl z
 | none =>
  refine core (fun b=>if b=a then some (.frz { cls:=.type "list",data:=.seq vs.toArray } (.lst (ns.map V.int))) else none) (fun b=>?_) (.inl (.inr ⟨{ cls:=.type "list",data:=.seq vs.toArray },if_pos rfl⟩)) (fun b u z=>?_) (fun b z=>?_) fun _=>hk
  ·by_cases hb:b=a
   ·exact .inr ⟨_,_,if_pos hb⟩
   ·exact .inl (if_neg hb)
  ·by_cases hb:b=a
   ·have z':=(if_pos hb).symm.trans z
    cases z'
    subst hb
    exact ⟨ha,by rw [Zk];exact hl,vs,_,rv,ha⟩
   ·have z':=(if_neg hb).symm.trans z
    cases z'
  ·by_cases hb:b=a
   ·exact hb
   ·exact absurd (if_neg hb) z
theorem g0 {l:PySem.W.OpenLaw} {n k:Nat} {q:Program} {loose:List Str} {XP:(Str->Option Value)->Heap->Prop} {YP:World->Heap->Prop} {d:DefRec} {K:Params->PySem.W.Frag} {CX:World->CXT} {sp:World->Sp} {x:Str}
  (hn:l.most=some n) (hn2:n<=sizeLine) (hdf:d.params.defaults=[]) (hr:Room k callerA)
  (hY:∀ (w:World) (h:Heap),YP w h->(K w.params).In h)
  (F:∀ (w:World) (mg:Str->Option Value) (fa:Addr) (h:Heap),(K w.params).In h->h.Ns mainGlobals mg->mg d.name=some (.ref fa) →
   ∃ fd:FuncData,(∀ (s:Shared) (u:Value),BindsTo s fd ⟨[u],[]⟩ [(x,u)]) ∧
    ∀ base:Heap,(K w.params).In base->base.Ns mainGlobals mg->FnOk l.prog w (K w.params) mg base (CX w) k fa fd [x] (sp w))
  (hsp:∀ (w:World) (H:Hp) (a:Addr) (ns:List Int),ns.length<=n->ve H->SqL (K w.params) H a (ns.map V.int)->sp w [.ref a] H (fun v _=>v=.bl true) fun _ _ _=>False)
  (hCX:∀ (w:World) (H:Hp) (s:Shared) (e:Value) (s':Shared),CX w [] H s (fun _ _ _=>False) e s'->False) :
  PySem.W.WalkO q loose XP YP l.row.toRowW d [] (fun f vs=>PySem.call f vs):=by
 refine Att.oD hn hdf fun w s₀ s₁ mg mb fa o pm cd doc a vs ns G Y ho hd hcd hmg hobj hints hlen hg=>?_
 have KX:=hY w _ Y
 obtain ⟨fd,hb,hF⟩:=F w mg fa _ KX G.T.g hmg
 exact uJ KX G.T.g G.T.b G.T.builtins G.T.nolimit hg hobj hints (Nat.le_trans hlen hn2) hr hF hb (fun H hO hS=>hsp w H a ns hlen hO hS) fun H e s'=>hCX w H s₁ e s'
noncomputable def aY (s:Stmt):Arguments:=match s with
 | .FunctionDef _ a _ _ _ _ _ _ _ _=>a
 | _=>{ posonlyargs:=[],args:=[],vararg:=none,kwonlyargs:=[],kw_defaults:=[],kwarg:=none,defaults:=[] }
noncomputable def aR (s:Stmt):List Stmt:=match s with
 | .FunctionDef _ _ b _ _ _ _ _ _ _=>b
 | _=>[]
noncomputable def ao (s:Stmt):Scope:=match s with
 | .FunctionDef _ _ _ _ _ _ sc _ _ _=>sc
 | _=>{ kind:=.function,names:=[],isGenerator:=false,isCoroutine:=false }
noncomputable abbrev CX0:CXT:=fun _ _ _ _ _ _=>False
noncomputable abbrev E0:XK:=fun _ _ _=>False
theorem Cp {X:Cx}:qf CX0 X E0:=fun _ _ _ _ _ _ _ h=>h.elim
structure Fun (K:PySem.W.Frag) (x qual:Str) (st:Stmt) (f:Addr) (fd:FuncData):Prop where
 ex:∃ (oc:Value) (od:Option Addr) (kV doc pm:Value) (an:Option Addr) (cdv ct:Value) (osl:Array (Option Value)),
  fd=PySem.W.fnOf x qual (aY st) (aR st) (ao st) .none kV doc pm an cdv ct/\K.lookup f=some ⟨oc,od,.func fd,osl⟩/\PySem.W.codeIn K cdv qual=true
 kp:PySem.W.keepIn K (.ref f)=true
section
variable {P:Program} {w:World} {K:PySem.W.Frag} {mg:Str->Option Value} {base:Heap}
theorem Fun.ok {x qual:Str} {st:Stmt} {f:Addr} {fd:FuncData} {N ps:List Str} {k:Nat} {sp:Sp} (F:Fun K x qual st f fd) (S:FnScope N ps (ao st)) (len:∀ vs H Q E,sp vs H Q E->vs.length=ps.length)
  (hbody:∀ (cdv:Value) (A:Around) (outer:List Env) (s:Shared) (H:Hp) (vs:List V) (Q:VK) (E:XK),Room k (A.deeper (envOfC qual (ao st) s.heap.objs.size f cdv))->sp vs H Q E →
   ∃ t,PSs (kP CX0 P w K mg base N qual (ao st) f cdv A outer s H E).nox (aR st) t/\t { nx:=fun _ H'=>Q .non H',rt:=Q } (start N vs) H):FnOk P w K mg base CX0 (k+1) f fd ps sp:=by
 obtain ⟨oc,od,kV,doc,pm,an,cdv,ct,osl,rfl,lk,hcd⟩:=F.ex
 refine CC lk hcd S len fun A outer s H vs Q E hr hsp=>?_
 obtain ⟨t,h,q⟩:=hbody cdv A outer s H vs Q E hr hsp
 exact ⟨t,h.nox,q⟩
theorem Fun.binds {x qual:Str} {st:Stmt} {f:Addr} {fd:FuncData} {ps:List Str} (F:Fun K x qual st f fd)
  (h:∀ (kV doc pm:Value) (an:Option Addr) (cdv ct:Value) (us:List Value),us.length=ps.length->bindArgs (PySem.W.fnOf x qual (aY st) (aR st) (ao st) .none kV doc pm an cdv ct) ⟨us,[]⟩=pure (ps.zip us)):Binds K fd ps []:=by
 obtain ⟨oc,od,kV,doc,pm,an,cdv,ct,osl,rfl,lk,hcd⟩:=F.ex
 exact .all (h kV doc pm an cdv ct)
theorem cW {x qual:Str} {st:Stmt} {f:Addr} {oc:Value} {od an:Option Addr} {osl:Array (Option Value)} {kV doc pm cdv ct:Value} (l:K.lookup f=some ⟨oc,od,.func (PySem.W.fnOf x qual (aY st) (aR st) (ao st) .none kV doc pm an cdv ct),osl⟩)
  (c:PySem.W.codeIn K cdv qual=true) (k:PySem.W.keepIn K (.ref f)=true):Fun K x qual st f (PySem.W.fnOf x qual (aY st) (aR st) (ao st) .none kV doc pm an cdv ct):=⟨⟨oc,od,kV,doc,pm,an,cdv,ct,osl,rfl,l,c⟩,k⟩
end
theorem ql {A:Around} {k:Nat} (hr:Room k A):A.units+1 < cLine:=Nat.lt_of_le_of_lt (Nat.add_le_add_left (by decide:1<=64) _) hr.units
section
variable {X:Cx}
theorem pv (i:Nat) {x:Str} {pos:Pos} (hN:X.N[i]?=some x:=by rfl) (hv:Vis X.env.scope x:=by first | exact Or.inl rfl | exact Or.inr (Or.inl rfl) | exact Or.inr (Or.inr rfl)) (hd:(x == ("__debug__" : Str))=false:=by decide)
  (hcd:(x == ("__classdict__" : Str))=false:=by decide):PE X (.Name x pos) (sJ i):=fu hN hv hd hcd
end
theorem wV {A B:Prop} (h:B):if false=true then A else B:=by
 rw [if_neg Zp]
 exact h
theorem za {A B:Prop} (h:A):if true=true then A else B:=by
 rw [if_pos rfl]
 exact h
noncomputable def aL (H H':Hp):Prop:=∀ b o,H b=some o->H' b=some o
theorem aL.refl (H:Hp):aL H H:=fun _ _ h=>h
theorem aL.trans {H H1 H2:Hp} (a:aL H H1) (b:aL H1 H2):aL H H2:=fun c o h=>b c o (a c o h)
theorem aL.free {H H':Hp} (e:aL H H') {l:Addr} (h:H' l=Option.none):H l=Option.none:=by
 cases q:H l with
 | none=>rfl
 | some o =>
  rw [e l o q] at h
  cases h
end L2
end
section
namespace NK
open PySem PySem.Spec PyProof.Rows
variable {prog:Program} {w:World} {K:Type} [DecidableEq K] {knd:KeyKind prog w K} {A:Around} {E:Value->Shared->Prop} {s:Shared}
inductive Its (knd:KeyKind prog w K) (h:Heap):List (List K)->List Value->Prop
 | nil:Its knd h [] []
 | cons {k:List K} {b:Addr} {ks:List (List K)} {vs:List Value}:IsTupleKey knd h k b->Its knd h ks vs->Its knd h (k :: ks) (.ref b :: vs)
noncomputable def IsN (knd:KeyKind prog w K) (h:Heap) (ks:List (List K)) (a:Addr):Prop:=∃ o items n,h.get? a=some o/\o.cls=.type "tuple" ∧ o.data=.seq items n/\Its knd h ks items.toList
theorem Its.fn {h:Heap} {x y:List (List K)} {vs:List Value} (hx:Its knd h x vs):Its knd h y vs->x=y:=by
 induction hx generalizing y with
 | nil=>intro hy;cases hy;rfl
 | cons h1 _ ih =>
  intro hy
  cases hy with
  | cons h2 t=>rw [h1.inj h2,ih t]
theorem IsN.ty {ks:List (List K)} {a:Addr} (x:IsN knd s.heap ks a):s.TypeIs (.ref a) "tuple" := let ⟨o,_,_,g,c,_⟩:=x;⟨o,g,c⟩
theorem IsN.fn {h:Heap} {a:Addr} {x y:List (List K)} (hx:IsN knd h x a) (hy:IsN knd h y a):x=y:=by
 obtain ⟨o,its,n,g,_,d,i⟩:=hx
 obtain ⟨o',its',n',g',_,d',i'⟩:=hy
 rw [g] at g'
 cases g'
 rw [d] at d'
 cases d'
 exact i.fn i'
theorem Its.keeps {h h':Heap} {ks:List (List K)} {vs:List Value} {d:Addr} {o:Obj} {es ep} (x:Its knd h ks vs) (ho:h.get? d=some o) (hd:o.data=.dict es ep) (hs:Heap.SameBut d h h'):Its knd h' ks vs:=by
 induction x with
 | nil=>exact .nil
 | cons h1 _ ih=>exact .cons (h1.keeps ho hd hs) ih
theorem IsN.keeps {h h':Heap} {ks:List (List K)} {a d:Addr} {o:Obj} {es ep} (x:IsN knd h ks a) (ho:h.get? d=some o) (hd:o.data=.dict es ep) (hs:Heap.SameBut d h h'):IsN knd h' ks a:=by
 obtain ⟨o',its,n,g,c,d',i⟩:=x
 refine ⟨o',its,n,(hs.2 a fun z=>?_).trans g,c,d',i.keeps ho hd hs⟩
 subst z
 rw [ho] at g
 cases g
 rw [hd] at d'
 cases d'
noncomputable def uL (knd:KeyKind prog w K) (ks:List (List K)):Int:=reduceHash (Builtin.Tuple.tupleHashOf (ks.map (tupleKeyHash knd)))
noncomputable def p9 (ks:List (List K)):Nat:=(ks.map fun k=>k.length+1).sum+1
theorem yi {ks:List (List K)} {a:Addr} {Q:Int->Shared->Prop} (hu:A.units+1 < cLine) (hk:IsN knd s.heap ks a) (q:Q (uL knd ks) { s with toks:=s.toks+p9 ks }):wpAny (model prog w) A (pyHash (.ref a)) Q E s:=by
 have ty:=hk.ty
 obtain ⟨o,its,n,g,_,d,i⟩:=hk
 unfold pyHash
 first | unfold pyHashByItsType | skip
 first | refine Zz (wpAny_cRoomFor_or (.inr (Nat.lt_of_succ_lt hu)) ?_) | skip
 refine Zz (wpAny_specialOf ty F.slot_tuple_hash.lookup ?_)
 refine (show wpAny _ _ (if (some (Value.builtin "tuple.__hash__") == some Value.none)=true then _ else _) Q E s from ?_)
 rw [if_neg (fun z=>by rw [beq_builtin_none] at z;cases z)]
 refine Zz (wpAny_specialOf ty F.slot_tuple_hash.lookup (Zz (wpAny_callSpecialIfBoundUnlessNone?_slot ty F.slot_tuple_hash (wpAny_call_entry F.slot_tuple_hash ty F.entry_tuple_hash (Zz (m:=Builtin.Tuple.tupleItemsOf (.ref a)) (wpAny_tupleItemsOf g d (Zz ?_))) (F.args_tuple_hash_1 _)))))
 rw [← Array.forIn_toList]
 refine wpAny_forIn_list _ (fun rest (b:Array Int) s'=>∃ x y,ks=x++y/\Its knd s.heap y rest/\b.toList=x.map (tupleKeyHash knd)/\s'={ s with toks:=s.toks+(x.map fun k=>k.length+1).sum }) _ ?turn ?fin _ _ ⟨[],ks,rfl,i,rfl,rfl⟩
 case turn =>
  rintro v rest b s' ⟨x,y,rfl,hi,hb,rfl⟩
  cases hi with
  | @cons k c ks' _ h1 h2 =>
   refine Zz (wpAny_pyHash_tuple (s:={ s with toks:=s.toks+(x.map fun k=>k.length+1).sum }) (by show A.in1.units < cLine;exact hu) h1 ?_)
   first
    | exact Zy ⟨x++[k],ks',by simp,h2,by simp [hb],by simp [Nat.add_assoc]⟩
    | exact Zz (Zy (Zy ⟨x++[k],ks',by simp,h2,by simp [hb],by simp [Nat.add_assoc]⟩))
 case fin =>
  rintro b s' ⟨x,y,rfl,hi,hb,rfl⟩
  cases hi
  rw [List.append_nil] at q
  refine (show wpAny _ _ (retInt (Builtin.Tuple.tupleHashOf b.toList)) _ _ _ from ?_)
  rw [hb]
  refine wpAny_ret_mkInt ?_
  unfold uL reduceHash p9 at q
  refine (show wpAny _ _ (if (decide (-(2:Int) ^ 63<=Builtin.Tuple.tupleHashOf (x.map (tupleKeyHash knd))) && decide (Builtin.Tuple.tupleHashOf (x.map (tupleKeyHash knd)) < 2 ^ 63))=true then _ else _) Q E _ from ?_)
  by_cases hr:(decide (-(2:Int) ^ 63<=Builtin.Tuple.tupleHashOf (x.map (tupleKeyHash knd))) && decide (Builtin.Tuple.tupleHashOf (x.map (tupleKeyHash knd)) < 2 ^ 63))=true
  ·rw [if_pos hr] at q ⊢
   exact Zy (by simpa [Nat.add_assoc] using q)
  ·rw [if_neg hr] at q ⊢
   exact Zz (wpAny_rule (Zy (by simpa [Nat.add_assoc] using q)))
theorem wM {x y:List (List K)} {a b:Addr} {P:PySem.Fin->Shared->Prop} (hu:A.units < cLine) (hx:IsN knd s.heap x a) (hy:IsN knd s.heap y b) (q:P (.done (.ret (.bool (decide (x=y))))) s):wpAny (model prog w) A (Builtin.«tuple.__eq__» ⟨[.ref a,.ref b],[]⟩) P E s:=by
 have ty:=hy.ty
 obtain ⟨oa,xs,na,ga,_,da,ia⟩:=hx
 obtain ⟨ob,ys,nb,gb,_,db,ib⟩:=hy
 refine (show wpAny _ _ (isInstance (.ref b) (.type "tuple") >>= _) _ _ s from Zz (wpAny_isInstance ty isSubtype_tuple_tuple ?_))
 simp only [Bool.not_true,Bool.false_eq_true,↓reduceIte]
 refine Zz (wpAny_tupleItemsOf ga da (Zz (wpAny_tupleItemsOf gb db (Zz ?_))))
 refine wpAny_forIn_list _ (fun rest r s'=>r.1=none/\s'=s/\∃ x' y' xs' ys',rest=List.zip xs' ys'/\Its knd s.heap x' xs'/\Its knd s.heap y' ys'/\decide (x'=y')=decide (x=y)/\(xs'.length == ys'.length)=(xs.size == ys.size)) _ ?turn ?fin _ _ ⟨rfl,rfl,x,y,xs.toList,ys.toList,rfl,ia,ib,rfl,by simp⟩
 case turn =>
  rintro ⟨u,v⟩ rest r s' ⟨hr,rfl,x',y',xs',ys',hz,hx',hy',hdec,hlen⟩
  cases hx' with
  | nil=>simp at hz
  | @cons k1 c1 x2 xs2 h1 t1 =>
   cases hy' with
   | nil=>simp at hz
   | @cons k2 c2 y2 ys2 h2 t2 =>
    simp only [List.zip_cons_cons,List.cons.injEq,Prod.mk.injEq] at hz
    obtain ⟨⟨rfl,rfl⟩,rfl⟩:=hz
    refine Zz (wpAny_eqBool_tuple hu h1 h2 ?_)
    by_cases hk:k1=k2
    ·subst hk
     rw [decide_eq_true rfl]
     simp only [Bool.not_true,Bool.false_eq_true,↓reduceIte]
     refine Zy ⟨rfl,rfl,x2,y2,xs2,ys2,rfl,t1,t2,?_,by simpa using hlen⟩
     rw [← hdec]
     by_cases hxy:x2=y2 <;> simp [hxy]
    ·rw [decide_eq_false hk]
     simp only [Bool.not_false,↓reduceIte]
     have hf:decide (x=y)=false:=by rw [← hdec];simp [hk]
     rw [hf] at q
     exact Zz (Zy (Zy (Zy q)))
 case fin =>
  rintro ⟨r1,r2⟩ s' ⟨hr,rfl,x',y',xs',ys',hz,hx',hy',hdec,hlen⟩
  simp only at hr
  subst hr
  have hfin:(xs.size == ys.size)=decide (x=y):=by
   rw [← hdec,← hlen]
   cases hx' with
   | nil=>cases hy' <;> simp
   | cons _ _ =>
    cases hy' with
    | nil=>simp
    | cons _ _=>simp at hz
  refine Zy (show P (.done (.ret (.bool (xs.size == ys.size)))) s' from ?_)
  rw [hfin]
  exact q
theorem B3 {x y:List (List K)} {a b:Addr} {Q:Bool->Shared->Prop} (hu:A.units+1 < cLine) (hx:IsN knd s.heap x a) (hy:IsN knd s.heap y b) (q:Q (decide (x=y)) s):wpAny (model prog w) A (eqBool (.ref a) (.ref b)) Q E s:=by
 unfold eqBool
 try with_reducible refine wpAny_holding ?_
 refine (show wpAny _ _ (if (Value.ref a == Value.ref b)=true then _ else _) Q E s from ?_)
 by_cases hab:(Value.ref a == Value.ref b)=true
 ·rw [if_pos hab]
  have e:a=b:=by have:=eq_of_beq hab;injection this
  subst e
  obtain rfl:=hx.fn hy
  exact Zz (wpAny_rule (Zy (by simpa using q)))
 ·rw [if_neg hab]
  exact Zz (wpAny_richCompare_same_room (op:=.Eq) hx.ty hy.ty F.slot_tuple_eq (wpAny_call_entry F.slot_tuple_eq hx.ty F.entry_tuple_eq (wM (by show A.in1.units < cLine;exact hu) hx hy ⟨_,rfl,(fun e=>nomatch e),wpAny_truthy_bool q⟩) (F.args_tuple_eq_2 _ _)) (Nat.lt_of_succ_lt hu))
theorem tR {ks:List K} {n:Nat} {a:Addr} {Q:Bool->Shared->Prop} (hk:IsTupleKey knd s.heap ks a) (q:Q true s):wpAny (model prog w) A (eqIsQuiet (n+1) (.ref a)) Q E s:=by
 have ty:=hk.typeIs
 obtain ⟨o,its,m,g,_,d,i⟩:=hk
 unfold eqIsQuiet
 refine Zz (wpAny_specialOf ty F.slot_tuple_eq.lookup (show wpAny _ _ (isInstance (.ref a) (.type "tuple") >>= _) _ _ s from Zz (wpAny_isInstance ty isSubtype_tuple_tuple ?_)))
 simp only [Bool.not_true,Bool.false_eq_true,↓reduceIte]
 refine Zz (wpAny_seqItems g d (Zz (show wpAny _ _ (forIn its _ _) _ _ s from ?_)))
 rw [← Array.forIn_toList]
 refine wpAny_forIn_list _ (fun rest r s'=>r.1=none/\s'=s/\∀ v∈rest,carriedByValue v=true) _ ?turn ?fin _ _ ⟨rfl,rfl,i.byValue⟩
 case turn =>
  rintro v rest r s' ⟨hr,rfl,hall⟩
  rw [eqIsQuiet_byValue _ (hall v Zv)]
  refine Zz (Zy ?_)
  simp only [Bool.not_true,Bool.false_eq_true,↓reduceIte]
  exact Zy ⟨rfl,rfl,fun u hu=>hall u (Zw _ hu)⟩
 case fin =>
  rintro ⟨r1,r2⟩ s' ⟨hr,rfl,_⟩
  simp only at hr
  subst hr
  exact Zy q
theorem vV {ks:List (List K)} {a:Addr} {Q:Bool->Shared->Prop} (hk:IsN knd s.heap ks a) (q:Q true s):wpAny (model prog w) A (eqIsQuiet 8 (.ref a)) Q E s:=by
 have ty:=hk.ty
 obtain ⟨o,its,m,g,_,d,i⟩:=hk
 unfold eqIsQuiet
 refine Zz (wpAny_specialOf ty F.slot_tuple_eq.lookup (show wpAny _ _ (isInstance (.ref a) (.type "tuple") >>= _) _ _ s from Zz (wpAny_isInstance ty isSubtype_tuple_tuple ?_)))
 simp only [Bool.not_true,Bool.false_eq_true,↓reduceIte]
 refine Zz (wpAny_seqItems g d (Zz (show wpAny _ _ (forIn its _ _) _ _ s from ?_)))
 rw [← Array.forIn_toList]
 refine wpAny_forIn_list _ (fun rest r s'=>r.1=none/\s'=s/\∃ ks',Its knd s.heap ks' rest) _ ?turn ?fin _ _ ⟨rfl,rfl,ks,i⟩
 case turn =>
  rintro v rest r s' ⟨hr,rfl,ks',hi⟩
  cases hi with
  | cons h1 h2 =>
   refine Zz (tR h1 ?_)
   simp only [Bool.not_true,Bool.false_eq_true,↓reduceIte]
   exact Zy ⟨rfl,rfl,_,h2⟩
 case fin =>
  rintro ⟨r1,r2⟩ s' ⟨hr,rfl,_⟩
  simp only at hr
  subst hr
  exact Zy q
noncomputable def nest (knd:KeyKind prog w K):HeapKind prog w (List (List K)) where
 is:=IsN knd
 hash:=uL knd
 draws:=p9
 room:=fun A=>A.units+1 < cLine
 inj:=fun hx hy=>hx.fn hy
 keeps:=fun x ho hd hs=>x.keeps ho hd hs
 pyHash:=fun hu hk q=>yi hu hk q
 eqBool:=fun hu hx hy q=>B3 hu hx hy q
 quiet:=fun hk q=>vV hk q
end NK
end
section
namespace L2
open PySem PySem.Spec PyProof.Rows
noncomputable abbrev aX:=List (List Int)
noncomputable def hN (k:aX):Int:=reduceHash (Builtin.Tuple.tupleHashOf (k.map fun x=>reduceHash (Builtin.Tuple.tupleHashOf (x.map hashInt))))
noncomputable def CL (x:aX×Addr×Value):DictEntry:=⟨hN x.1,.ref x.2.1,x.2.2⟩
noncomputable abbrev KN:List (aX×Addr×V)->List (aX×Addr×Value)->Prop:=Paired fun p q=>p.1=q.1/\p.2.1=q.2.1/\RelV p.2.2 q.2.2
noncomputable def DN (a:Addr) (kvs:List (aX×Addr×V)):HO:=.ext fun h=>kvs.length<=sizeLine/\(a == sysModules)=false/\∃ xs:List (aX×Addr×Value),KN kvs xs ∧
 ∃ o es ep,h.get? a=some o/\o.ExactDict/\o.data=.dict es ep/\es.toList=xs.map CL/\(xs.map (·.1)).Nodup
noncomputable def NAt (H:Hp) (k:aX) (b:Addr):Prop:=∃ cs:List Addr,H b=some (.tup (cs.map V.ref))/\Paired (fun (x:List Int) (c:Addr)=>H c=some (.tup (x.map V.int))) k cs
theorem NAt.mono {H H':Hp} {k:aX} {b:Addr} (x:NAt H k b) (t:∀ a xs,H a=some (.tup xs)->H' a=some (.tup xs)):NAt H' k b:=by
 obtain ⟨cs,h,r⟩:=x
 exact ⟨cs,t _ _ h,Paired.mapP r fun _ _ z=>t _ _ z⟩
section
variable {P:Program} {w:World} {H:Hp} {h:Heap} {a b:Addr}
theorem items_int:∀ {ks:List Int} {us:List Value},aK (ks.map V.int) us->ItemsAre (intKind P w) ks us
 | [],_,r=>by rw [List.map_nil] at r;cases r;exact .nil
 | k :: ks,_,r=>by
  rw [List.map_cons] at r
  cases r with
  | @cons _ u _ _ h t =>
   refine .cons ?_ (items_int t)
   obtain ⟨q,rfl⟩:=(show ∃ q,u=Value.int k q from h)
   show Value.isInt k (.int k q)=true
   simp [Value.isInt]
theorem NAt.is {k:aX} (ok:HOk P w H h) (x:NAt H k b):NK.IsN (intKind P w) h k b:=by
 obtain ⟨cs,e,r⟩:=x
 obtain ⟨z0,its,v,_,o,h1,h2,n,h3⟩:=(show aS P w H h b (.tup (cs.map V.ref)) from ok b _ e)
 refine ⟨o,its.toArray,n,h1,h2,h3,?_⟩
 rw [List.toList_toArray]
 clear e h1 h2 h3 z0
 induction r generalizing its with
 | nil =>
  rw [List.map_nil] at v
  cases v
  exact .nil
 | @cons x c xs cs' hx _ ih =>
  rw [List.map_cons] at v
  cases v with
  | @cons _ u _ _ hu t =>
   obtain rfl:=(show u=Value.ref c from hu)
   obtain ⟨_,its2,v2,_,o2,g1,g2,n2,g3⟩:=(show aS P w H h c (.tup (x.map V.int)) from ok c _ hx)
   exact .cons ⟨o2,its2.toArray,n2,g1,g2,g3,by simpa using items_int v2⟩ (ih _ t)
theorem DC {kvs:List (aX×Addr×V)} (ok:HOk P w H h) (e:H a=some (DN a kvs)) (ks:∀ p∈kvs,NAt H p.1 p.2.1):kvs.length<=sizeLine/\(a == sysModules)=false ∧
  ∃ xs,KN kvs xs/\h.DictOfH (NK.nest (intKind P w)) a xs:=by
 obtain ⟨⟨z,y,xs,r,o,es,ep,h1,h2,h3,h4,h5⟩,_⟩:=(show aS P w H h a (DN a kvs) from ok a _ e)
 refine ⟨z,y,xs,r,o,es,ep,h1,h2,h3,h4,fun x hx=>?_,h5⟩
 have all:∀ {l:List (aX×Addr×V)} {m:List (aX×Addr×Value)},KN l m->(∀ p∈l,NAt H p.1 p.2.1)->∀ x∈m,NK.IsN (intKind P w) h x.1 x.2.1:=by
  intro l m q
  induction q with
  | nil=>intro _ x hx;exact nomatch hx
  | @cons p q ps qs hq t ih =>
   intro hl x hx
   rcases Zg.mp hx with e | hx
   ·subst e
    rw [← hq.1,← hq.2.1]
    exact (hl p Zv).is ok
   ·exact ih (fun p hp=>hl p (Zw _ hp)) x hx
 exact all r ks x hx
theorem wy {H':Hp} {h':Heap} {kvs:List (aX×Addr×V)} {xs:List (aX×Addr×Value)} (z:kvs.length<=sizeLine) (hd:(a == sysModules)=false) (rel:KN kvs xs) (dd:h'.DictOfH (NK.nest (intKind P w)) a xs) :
  aS P w H' h' a (DN a kvs):=by
 obtain ⟨o,es,ep,h1,h2,h3,h4,_,h5⟩:=dd
 refine ⟨⟨z,hd,xs,rel,o,es,ep,h1,h2,h3,h4,h5⟩,⟨o,h1⟩,?_⟩
 rintro g1 g2 ⟨z,hd,xs,rel,o,es,ep,h1,h2,h3,h4,h5⟩ k
 exact ⟨z,hd,xs,rel,o,es,ep,k _ h1,h2,h3,h4,h5⟩
theorem KN.length {l:List (aX×Addr×V)} {m:List (aX×Addr×Value)} (r:KN l m):l.length=m.length:=Paired.length r
noncomputable def atN (kvs:List (aX×Addr×V)) (k:aX):Option V:=(kvs.find? fun x=>decide (x.1=k)).map (·.2.2)
theorem KN.at {l:List (aX×Addr×V)} {m:List (aX×Addr×Value)} (r:KN l m) (k:aX):iM (atN l k) ((atKey m k).map (·.2)):=by
 unfold atN atKey
 induction r with
 | nil=>exact (show iM none none from trivial)
 | @cons p q ps qs hq t ih =>
  rw [List.find?_cons,List.find?_cons,← hq.1]
  by_cases e:p.1=k
  ·simp only [e,decide_true,Option.map_some]
   exact hq.2.2
  ·simp only [e,decide_false]
   exact ih
theorem KN.add {l:List (aX×Addr×V)} {m:List (aX×Addr×Value)} (r:KN l m) {p:aX×Addr×V} {q:aX×Addr×Value} (x:p.1=q.1/\p.2.1=q.2.1/\RelV p.2.2 q.2.2):KN (l++[p]) (m++[q]):=by
 induction r with
 | nil=>exact .cons x .nil
 | cons h _ ih=>exact .cons h ih
end
section
variable {prog:Program} {w:World} {K:Type} [DecidableEq K] {knd:HeapKind prog w K} {A:Around} {E:Value->Shared->Prop} {s:Shared}
theorem nc {d a:Addr} {xs:List (K×Addr×Value)} {k:K} {v:Value} {Q:Value->Shared->Prop} (hu:knd.room A) (hkey:knd.is s.heap k a) (hm:s.heap.DictOfH knd d xs) (hsz:xs.length<=sizeLine)
  (q1:∀ p,atKey xs k=some p->Q p.2 { s with toks:=s.toks+knd.draws k })
  (q2:atKey xs k=none->∀ h',h'.DictOfH knd d (xs++[(k,a,v)])->Heap.SameBut d s.heap h'->Q v { s with heap:=h',toks:=s.toks+knd.draws k }) :
  wpAny (model prog w) A (dictSetDefault d (.ref a) v) Q E s:=by
 obtain ⟨o,es,ep,ho,hc,hd,he,his,hn⟩:=hm
 unfold dictSetDefault
 try with_reducible refine wpAny_holding ?_
 refine Zz (knd.pyHash hu hkey (Zz (wpAny_dictFind_heap (s:={ s with toks:=s.toks+knd.draws k }) hu hkey ho hd he his hn (fun hno=>?_) fun j p hj=>?_)))
 ·have at0:=atKey_none_of_get hno
  have hnot:k ∉ xs.map (·.1):=not_mem_keys_of_get hno
  refine Zz (wpAny_rule (Zz (wpAny_updateDictKeys (hz:=by have e:=size_of_entries he;lia) (s:={ s with toks:=s.toks+knd.draws k }) ho hd (Zy (q2 at0 _ ⟨_,_,ep+1,Heap.get?_update_self _ ho (Obj.isFreed_of_dict (Obj.data_mapDictKeys hd _)),
   hc.mapDictKeys _,Obj.data_mapDictKeys hd _,by simp [he,entryOfKey],fun x hx=>?_,?_⟩ (Heap.SameBut.update ..))))))
  ·rcases Zh.mp hx with hx | hx
   ·exact knd.keeps (his x hx) ho hd (Heap.SameBut.update ..)
   ·obtain rfl:=Zi.mp hx
    exact knd.keeps hkey ho hd (Heap.SameBut.update ..)
  ·rw [List.map_append,List.nodup_append]
   refine ⟨hn,by simp,fun x hx y hy e=>hnot ?_⟩
   simp only [List.map_cons,List.map_nil,Zi] at hy
   exact hy ▸ e ▸ hx
 ·refine Zz (wpAny_dictEntries (s:={ s with toks:=s.toks+knd.draws k }) ho hd ?_)
  rw [entry_at he j,hj]
  exact Zz (wpAny_rule (Zy (q1 p (atKey_of_get hn hj))))
theorem mm (knd:HeapKind prog w K) {k:K} {a:Addr} (d:Addr) (hd:(d == sysModules)=false) (v:Value) :
  MeetsIn prog w (Builtin.«dict.setdefault» ⟨[.ref d,.ref a,v],[]⟩) (fun A R s=>knd.room A.in1/\knd.is s.heap k a/\∃ xs,s.heap.DictOfH knd d xs/\xs.length<=sizeLine ∧
   (∀ p,atKey xs k=some p->R (.ok (.ret p.2)) { s with toks:=s.toks+knd.draws k }) ∧
   (atKey xs k=none->∀ h',h'.DictOfH knd d (xs++[(k,a,v)])->Heap.SameBut d s.heap h'->R (.ok (.ret v)) { s with heap:=h',toks:=s.toks+knd.draws k })) :=
 .of_wp fun A R s ⟨hu,hkey,xs,hm,hz,q1,q2⟩=>by
  unfold Builtin.«dict.setdefault»
  refine Zz ?_
  unfold Builtin.Dict.keyAndDefault
  refine Zz (wpAny_notOrdered_dict hm.typeIs (show wpAny _ _ (pure (d,Value.ref a,some v)) _ _ s from Zy ?_))
  show wpAny _ _ (if (d == sysModules)=true then _ else (dictSetDefault d (.ref a) v >>= _)) _ _ s
  rw [if_neg (by rw [hd];simp)]
  exact Zz (nc hu hkey hm hz (fun p hp=>Zy ⟨_,rfl,q1 p hp⟩) fun hn h' hm' hs'=>Zy ⟨_,rfl,q2 hn h' hm' hs'⟩)
end
section
variable {X:Cx}
noncomputable def vg:V->List V->Hp->VK->Prop:=fun x vs H Q=>∃ (a b:Addr) (kvs:List (aX×Addr×V)) (k:aX) (y:V),x=.ref a/\vs=[.ref b,y]/\H a=some (DN a kvs)/\(∀ p∈kvs,NAt H p.1 p.2.1)/\NAt H k b/\kvs.length < sizeLine ∧
 (∀ v,atN kvs k=some v->Q v H)/\(atN kvs k=none->Q y (upd H a (DN a (kvs++[(k,b,y)]))))
theorem pE (hu:X.A.units+2 < cLine):MtR X "dict.setdefault" vg:=by
 intro pins s σ H x vs v us Q I rx rv h
 obtain ⟨a,b,kvs,k,y,rfl,rfl,e,hks,hk,hl,q1,q2⟩:=h
 cases rx
 obtain ⟨u,u2,rfl,ru,ru2⟩:=rv.two
 obtain rfl:=(show u=Value.ref b from ru)
 obtain ⟨z,hd,xs,rel,dd⟩:=DC I.hok e hks
 have hz:xs.length<=sizeLine:=by rw [← rel.length];exact z
 have hval:=rel.at k
 refine call_meetsIn PySem.F.slot_dict_setdefault dd.typeIs PySem.F.entry_dict_setdefault (PySem.F.args_dict_setdefault_3 _ _ _) (mm (NK.nest (intKind X.prog X.w)) (k:=k) (a:=b) a hd u2) ⟨by show X.A.in1.units+1 < cLine;show X.A.units+1+1 < cLine;omega,hk.is I.hok,xs,dd,hz,fun p hv=>?_,fun hn h' dd' hs=>?_⟩
 ·rw [hv] at hval
  cases hx:atN kvs k with
  | none=>rw [hx] at hval;cases hval
  | some w =>
   rw [hx] at hval
   exact ⟨w,H,I.tok _,hval,q1 w hx⟩
 ·rw [hn] at hval
  have hx:atN kvs k=none:=by
   cases hx:atN kvs k with
   | none=>rfl
   | some w=>rw [hx] at hval;cases hval
  have he:∃ q,h'.get? a=some q:=let ⟨q,_,_,hq,_⟩:=dd';⟨q,hq⟩
  exact ⟨y,_,g8 I (by rw [e];exact True.intro) hs he (wy (by rw [Zj];exact hl) hd (rel.add ⟨rfl,rfl,ru2⟩) dd'),ru2,q2 hx⟩
end
end L2
end
section
namespace VS
open PySem PySem.Spec PyProof.Rows L2
noncomputable def sx (s:Tx):Str:=⟨s.toArray⟩
noncomputable def gG (s:Tx):Prop:=s.length<=eW/\∀ c∈s,c < 1114112
structure Gx where
 K:PySem.W.Frag
 ct:Nat->Addr×(Nat->Str)
noncomputable def aH:Key->T
 | .inl i=>.int i
 | .inr x=>.str x.cps.toList
noncomputable def nkT (k:aX):T:=.tup (k.map fun x=>T.tup (x.map T.int))
noncomputable def ja (K:PySem.W.Frag) (H:Hp) (a:Addr) (ns:List Int):Prop :=
 (∃ o,H a=some (.frz o (.lst (ns.map V.int)))) ∨
  ∃ (o:Obj) (its:Array Value) (n:Nat),K.lookup a=some o/\o.cls=.type "list" ∧ o.dict=none/\o.data=.seq its n/\its.size<=sizeLine/\aK (ns.map V.int) its.toList
mutual
inductive Rp (G:Gx) (H:Hp):V->T->List Addr->Prop
 | non:Rp G H .non .non []
 | bl (b:Bool):Rp G H (.bl b) (.bl b) []
 | int (i:Int):Rp G H (.int i) (.int i) []
 | str (s:Tx):gG s->Rp G H (.str (sx s)) (.str s) []
 | scr {a:Addr} {ns:List Int}:ja G.K H a ns->Rp G H (.ref a) (.scr ns) []
 | tup {a:Addr} {vs:List V} {ts:List T} {Fs:List (List Addr)}:H a=some (.tup vs)->RpL G H vs ts Fs->Rp G H (.ref a) (.tup ts) Fs.flatten
 | lst {a:Addr} {vs:List V} {ts:List T} {Fs:List (List Addr)}:H a=some (.lst vs)->RpL G H vs ts Fs->Rp G H (.ref a) (.lst ts) (a :: Fs.flatten)
 | dct {a:Addr} {ks:List Key} {vs:List V} {ts:List T} {Fs:List (List Addr)}:H a=some (.dK (ks.zip vs))->ks.length=vs.length->RpL G H vs ts Fs->Rp G H (.ref a) (.dct 0 ((ks.map aH).zip ts)) (a :: Fs.flatten)
 | dctT {a:Addr} {ks:List (List Key)} {vs:List V} {ts:List T} {Fs:List (List Addr)}:H a=some (.dT (ks.zip vs))->ks.length=vs.length->RpL G H vs ts Fs->Rp G H (.ref a) (.dct 1 ((ks.map fun k=>T.tup (k.map aH)).zip ts)) (a :: Fs.flatten)
 | dctN {a:Addr} {ks:List (aX×Addr)} {vs:List V} {ts:List T} {Fs:List (List Addr)}:H a=some (DN a ((ks.zip vs).map fun p=>(p.1.1,p.1.2,p.2)))->ks.length=vs.length->(∀ p∈ks,NAt H p.1 p.2)->RpL G H vs ts Fs->Rp G H (.ref a) (.dct 2 ((ks.map fun p=>nkT p.1).zip ts)) (a :: Fs.flatten)
 | obj {c:Nat} {a dx:Addr} {ks:List Nat} {vs:List V} {ts:List T} {Fs:List (List Addr)}:H a=some (.ins (G.ct c).1 dx ((ks.map (G.ct c).2).zip vs))->ks.length=vs.length->RpL G H vs ts Fs->Rp G H (.ref a) (.obj c (ks.zip ts)) (a :: Fs.flatten)
inductive RpL (G:Gx) (H:Hp):List V->List T->List (List Addr)->Prop
 | nil:RpL G H [] [] []
 | cons {v:V} {t:T} {F:List Addr} {vs:List V} {ts:List T} {Fs:List (List Addr)}:Rp G H v t F->RpL G H vs ts Fs->RpL G H (v :: vs) (t :: ts) (F :: Fs)
end
structure Kept (H H':Hp):Prop where
 tup:∀ a xs,H a=some (.tup xs)->H' a=some (.tup xs)
 frz:∀ a o u,H a=some (.frz o u)->H' a=some (.frz o u)
theorem Kept.refl (H:Hp):Kept H H:=⟨fun _ _ h=>h,fun _ _ _ h=>h⟩
theorem Kept.trans {H H1 H2:Hp} (a:Kept H H1) (b:Kept H1 H2):Kept H H2:=⟨fun c x h=>b.tup c x (a.tup c x h),fun c o u h=>b.frz c o u (a.frz c o u h)⟩
theorem Kept.of {H H':Hp} (e:aL H H'):Kept H H':=⟨fun a _ h=>e a _ h,fun a _ _ h=>e a _ h⟩
theorem Kept.upd {H:Hp} {a:Addr} {o:HO} (mu:Mut (H a)\/H a=none):Kept H (upd H a o):=by
 have ne:∀ b u,H b=some u->¬ Mut (some u)->b ≠ a:=fun b u h nm e=>by
  subst e
  rcases mu with m | m
  ·rw [h] at m;exact nm m
  ·rw [h] at m;cases m
 exact ⟨fun b xs h=>by rw [aw (ne b _ h fun z=>z)];exact h,fun b o u h=>by rw [aw (ne b _ h fun z=>z)];exact h⟩
theorem ja.kept {K:PySem.W.Frag} {H H':Hp} {a:Addr} {ns:List Int} (h:ja K H a ns) (k:Kept H H'):ja K H' a ns:=by
 rcases h with ⟨o,e⟩ | h
 ·exact .inl ⟨o,k.frz _ _ _ e⟩
 ·exact .inr h
theorem ja.seq {K:PySem.W.Frag} {H:Hp} {a:Addr} {ns:List Int} (h:ja K H a ns):SqL K H a (ns.map V.int):=by
 rcases h with ⟨o,e⟩ | h
 ·exact .inl (.inr ⟨o,e⟩)
 ·exact .inr h
theorem o6 {H H':Hp} {a:Addr} {F:List Addr} (f:∀ b∈a :: F,∀ o,H b=some o->H' b=some o):∀ b∈F,∀ o,H b=some o->H' b=some o:=fun b m=>f b (Zw _ m)
theorem rD {H H':Hp} {F:List Addr} {Fs:List (List Addr)} (f:∀ b∈(F :: Fs).flatten,∀ o,H b=some o->H' b=some o):(∀ b∈F,∀ o,H b=some o->H' b=some o)/\∀ b∈Fs.flatten,∀ o,H b=some o->H' b=some o:=by
 rw [Ze] at f
 exact ⟨fun b m=>f b (List.mem_append_left _ m),fun b m=>f b (List.mem_append_right _ m)⟩
theorem Rp.keep {G:Gx} {H H':Hp} (k:Kept H H') {v:V} {t:T} {F:List Addr} (r:Rp G H v t F):(∀ a∈F,∀ o,H a=some o->H' a=some o)->Rp G H' v t F :=
 Rp.rec (motive_1:=fun v t F _=>(∀ a∈F,∀ o,H a=some o->H' a=some o)->Rp G H' v t F) (motive_2:=fun vs ts Fs _=>(∀ a∈Fs.flatten,∀ o,H a=some o->H' a=some o)->RpL G H' vs ts Fs)
  (fun _=>.non) (fun b _=>.bl b) (fun i _=>.int i) (fun s h _=>.str s h) (fun h _=>.scr (h.kept k)) (fun h _ ih f=>.tup (k.tup _ _ h) (ih f)) (fun h _ ih f=>.lst (f _ Zv _ h) (ih (o6 f))) (fun h l _ ih f=>.dct (f _ Zv _ h) l (ih (o6 f))) (fun h l _ ih f=>.dctT (f _ Zv _ h) l (ih (o6 f)))
  (fun h l n _ ih f=>.dctN (f _ Zv _ h) l (fun p m=>(n p m).mono k.tup) (ih (o6 f))) (fun h l _ ih f=>.obj (f _ Zv _ h) l (ih (o6 f))) (fun _=>.nil) (fun _ _ i1 i2 f=>.cons (i1 (rD f).1) (i2 (rD f).2)) r
theorem RpL.keep {G:Gx} {H H':Hp} (k:Kept H H'):∀ {vs:List V} {ts:List T} {Fs:List (List Addr)},RpL G H vs ts Fs->(∀ a∈Fs.flatten,∀ o,H a=some o->H' a=some o)->RpL G H' vs ts Fs
 | _,_,_,.nil,_=>.nil
 | _,_,_,.cons r q,f=>.cons (r.keep k (rD f).1) (RpL.keep k q (rD f).2)
theorem Rp.same {G:Gx} {H H':Hp} (e:aL H H') {v:V} {t:T} {F:List Addr} (r:Rp G H v t F):Rp G H' v t F:=r.keep (Kept.of e) fun a _ o h=>e a o h
theorem RpL.same {G:Gx} {H H':Hp} (e:aL H H') {v:List V} {t:List T} {F:List (List Addr)} (r:RpL G H v t F):RpL G H' v t F:=r.keep (Kept.of e) fun a _ o h=>e a o h
theorem wA {H:Hp} {a:Addr} {F:List Addr} (h:Mut (H a)) (ih:∀ b∈F,Mut (H b)):∀ b∈a :: F,Mut (H b):=fun b m=>(Zg.mp m).elim (fun e=>e ▸ h) (ih b)
theorem t8 {H:Hp} {a:Addr} {o:HO} (h:H a=some o) (m:Mut (some o)):Mut (H a):=by rw [h];exact m
theorem C9 {H:Hp} {F:List Addr} {Fs:List (List Addr)} (h1:∀ b∈F,Mut (H b)) (h2:∀ b∈Fs.flatten,Mut (H b)):∀ b∈(F :: Fs).flatten,Mut (H b):=fun b m=>by
 rw [Ze] at m
 exact (Zh.mp m).elim (h1 b) (h2 b)
theorem Rp.dom {G:Gx} {H:Hp} {v:V} {t:T} {F:List Addr} (r:Rp G H v t F):∀ a∈F,Mut (H a) :=
 Rp.rec (motive_1:=fun v t F _=>∀ a∈F,Mut (H a)) (motive_2:=fun vs ts Fs _=>∀ a∈Fs.flatten,Mut (H a))
  (fun _ m=>nomatch m) (fun _ _ m=>nomatch m) (fun _ _ m=>nomatch m) (fun _ _ _ m=>nomatch m) (fun _ _ m=>nomatch m) (fun _ _ ih=>ih) (fun h _ ih=>wA (t8 h True.intro) ih) (fun h _ _ ih=>wA (t8 h True.intro) ih) (fun h _ _ ih=>wA (t8 h True.intro) ih)
  (fun h _ _ _ ih=>wA (t8 h True.intro) ih) (fun h _ _ ih=>wA (t8 h True.intro) ih) (fun _ m=>nomatch m) (fun _ _ i1 i2=>C9 i1 i2) r
theorem RpL.dom {G:Gx} {H:Hp}:∀ {vs:List V} {ts:List T} {Fs:List (List Addr)},RpL G H vs ts Fs->∀ a∈Fs.flatten,Mut (H a)
 | _,_,_,.nil=>fun _ m=>nomatch m
 | _,_,_,.cons r q=>C9 r.dom (RpL.dom q)
theorem Mut.ne_none {o:Option HO} (m:Mut o):o ≠ none:=fun e=>by subst e;exact m
theorem DJ {F:List Addr} {Fs:List (List Addr)} {t:T} {ts:List T} (h1:VS.imm t=true->F=[]) (h2:VS.d5 ts=true->Fs.flatten=[]) (i:VS.d5 (t :: ts)=true):(F :: Fs).flatten=[]:=by
 simp only [VS.d5,Bool.and_eq_true] at i
 rw [Ze,h1 i.1,h2 i.2]
 rfl
theorem Rp.imm {G:Gx} {H:Hp} {v:V} {t:T} {F:List Addr} (r:Rp G H v t F):VS.imm t=true->F=[] :=
 Rp.rec (motive_1:=fun v t F _=>VS.imm t=true->F=[]) (motive_2:=fun vs ts Fs _=>VS.d5 ts=true->Fs.flatten=[])
  (fun _=>rfl) (fun _ _=>rfl) (fun _ _=>rfl) (fun _ _ _=>rfl) (fun _ _=>rfl) (fun _ _ ih i=>ih (by simpa [VS.imm] using i)) (fun _ _ _ i=>absurd (show false=true from i) Zp) (fun _ _ _ _ i=>absurd (show false=true from i) Zp) (fun _ _ _ _ i=>absurd (show false=true from i) Zp)
  (fun _ _ _ _ _ i=>absurd (show false=true from i) Zp) (fun _ _ _ _ i=>absurd (show false=true from i) Zp) (fun _=>rfl) (fun _ _ i1 i2 i=>DJ i1 i2 i) r
theorem RpL.imm {G:Gx} {H:Hp}:∀ {vs:List V} {ts:List T} {Fs:List (List Addr)},RpL G H vs ts Fs->VS.d5 ts=true->Fs.flatten=[]
 | _,_,_,.nil,_=>rfl
 | _,_,_,.cons r q,i=>DJ r.imm (RpL.imm q) i
theorem RpL.len {G:Gx} {H:Hp}:∀ {vs:List V} {ts:List T} {Fs:List (List Addr)},RpL G H vs ts Fs->vs.length=ts.length/\Fs.length=ts.length
 | _,_,_,.nil=>⟨rfl,rfl⟩
 | _,_,_,.cons _ q=>by
  have:=RpL.len q
  simp only [List.length_cons]
  lia
theorem RpL.get {G:Gx} {H:Hp}:∀ {vs:List V} {ts:List T} {Fs:List (List Addr)} (i:Nat) {t:T},RpL G H vs ts Fs->ts[i]?=some t->∃ v F,vs[i]?=some v/\Fs[i]?=some F/\Rp G H v t F
 | _,_,_,_,_,.nil,e=>by simp at e
 | _,_,_,0,_,.cons r _,e=>by
  simp at e
  subst e
  exact ⟨_,_,rfl,rfl,r⟩
 | _,_,_,i+1,_,.cons _ q,e=>by
  obtain ⟨v,F,h1,h2,h3⟩:=RpL.get i q (by simpa using e)
  exact ⟨v,F,by simpa using h1,by simpa using h2,h3⟩
theorem RpL.append {G:Gx} {H:Hp}:∀ {vs:List V} {ts:List T} {Fs:List (List Addr)} {us:List V} {rs:List T} {Gs:List (List Addr)},RpL G H vs ts Fs->RpL G H us rs Gs->RpL G H (vs++us) (ts++rs) (Fs++Gs)
 | _,_,_,_,_,_,.nil,s=>s
 | _,_,_,_,_,_,.cons r q,s=>.cons r (RpL.append q s)
theorem RpL.take {G:Gx} {H:Hp}:∀ {vs:List V} {ts:List T} {Fs:List (List Addr)} (n:Nat),RpL G H vs ts Fs->RpL G H (vs.take n) (ts.take n) (Fs.take n)
 | _,_,_,0,_=>by simpa using RpL.nil
 | _,_,_,n+1,.nil=>.nil
 | _,_,_,n+1,.cons r q=>.cons r (RpL.take n q)
theorem RpL.drop {G:Gx} {H:Hp}:∀ {vs:List V} {ts:List T} {Fs:List (List Addr)} (n:Nat),RpL G H vs ts Fs->RpL G H (vs.drop n) (ts.drop n) (Fs.drop n)
 | _,_,_,0,q=>q
 | _,_,_,n+1,.nil=>.nil
 | _,_,_,n+1,.cons r q=>RpL.drop n q
noncomputable def jd:Cell->T
 | .pu t=>t
 | .ow t=>t
noncomputable abbrev Fps:=Nat->List Addr
structure SR (G:Gx) (Φ:Fps) (η:VS.Env) (σ:L2.St) (H:Hp):Prop where
 len:η.length=σ.length
 rp:∀ i c,η[i]?=some (some c)->∃ v,σ[i]?=some (some v)/\Rp G H v (jd c) (Φ i)
 nd:∀ i t,η[i]?=some (some (.ow t))->(Φ i).Nodup
 sep:∀ i j t c,η[i]?=some (some (.ow t))->η[j]?=some (some c)->i ≠ j->∀ a∈Φ i,a ∉ Φ j
noncomputable def cY (Φ:Fps) (η:VS.Env) (a:Addr):Prop:=∃ j t,η[j]?=some (some (.pu t))/\a∈Φ j
noncomputable def bM (Φ:Fps) (η:VS.Env) (a:Addr):Prop:=∃ j t,η[j]?=some (some (.ow t))/\a∈Φ j
noncomputable def Fp (Φ:Fps) (η:VS.Env) (H:Hp):Md->List Addr->Prop
 | .fr,F=>F.Nodup/\∀ a∈F,H a=none
 | .pu,F=>∀ a∈F,H a=none\/cY Φ η a
 | .bo,F=>∀ a∈F,H a=none\/cY Φ η a\/bM Φ η a
theorem SR.same {G:Gx} {Φ:Fps} {η:VS.Env} {σ:L2.St} {H H':Hp} (s:SR G Φ η σ H) (e:aL H H'):SR G Φ η σ H' :=
 ⟨s.len,fun i c h=>let ⟨v,h1,h2⟩:=s.rp i c h;⟨v,h1,h2.same e⟩,s.nd,s.sep⟩
theorem SR.pu_dom {G:Gx} {Φ:Fps} {η:VS.Env} {σ:L2.St} {H:Hp} {a:Addr} (s:SR G Φ η σ H) (h:cY Φ η a):Mut (H a):=by
 obtain ⟨j,t,h1,h2⟩:=h
 obtain ⟨v,_,r⟩:=s.rp j _ h1
 exact r.dom a h2
theorem SR.ow_dom {G:Gx} {Φ:Fps} {η:VS.Env} {σ:L2.St} {H:Hp} {a:Addr} (s:SR G Φ η σ H) (h:bM Φ η a):Mut (H a):=by
 obtain ⟨j,t,h1,h2⟩:=h
 obtain ⟨v,_,r⟩:=s.rp j _ h1
 exact r.dom a h2
theorem Fp.nil {Φ:Fps} {η:VS.Env} {H:Hp} {m:Md}:Fp Φ η H m []:=by
 cases m
 ·exact ⟨List.nodup_nil,fun a h=>by simp at h⟩
 ·exact fun a h=>by simp at h
 ·exact fun a h=>by simp at h
theorem Fp.bo {Φ:Fps} {η:VS.Env} {H:Hp} {F:List Addr}:∀ {m:Md},Fp Φ η H m F->Fp Φ η H .bo F
 | .fr,h=>fun a m=>.inl (h.2 a m)
 | .pu,h=>fun a m=>(h a m).elim .inl fun z=>.inr (.inl z)
 | .bo,h=>h
theorem Fp.pu {Φ:Fps} {η:VS.Env} {H:Hp} {F:List Addr}:∀ {m:Md},m ≠ .bo->Fp Φ η H m F->Fp Φ η H .pu F
 | .fr,_,h=>fun a m=>.inl (h.2 a m)
 | .pu,_,h=>h
 | .bo,n,_=>absurd rfl n
theorem Fp.back {Φ:Fps} {η:VS.Env} {H H':Hp} (e:aL H H') {F:List Addr}:∀ {m:Md},Fp Φ η H' m F->Fp Φ η H m F
 | .fr,h=>⟨h.1,fun a m=>e.free (h.2 a m)⟩
 | .pu,h=>fun a m=>(h a m).imp e.free id
 | .bo,h=>fun a m=>(h a m).imp e.free id
theorem Fp.up {G:Gx} {Φ:Fps} {η:VS.Env} {H H':Hp} {m:Md} {v:V} {t:T} {F:List Addr} (f:Fp Φ η H m F) (r:Rp G H' v t F):Fp Φ η H (VS.up m t).1 F:=by
 unfold VS.up
 by_cases h:VS.imm t=true
 ·rw [r.imm h]
  exact Fp.nil
 ·simp only [h,if_false,Bool.false_eq_true]
  exact f
noncomputable def tE (G:Gx) (c:Ex):TE:=fun σ H Q=>∃ Φ η m r,SR G Φ η σ H/\c η=some (m,r)/\∀ v H' F,aL H H'->Rp G H' v r F->Fp Φ η H m F->Q v H'
noncomputable def PV (G:Gx) (X:Cx) (e:Expr) (c:Ex):Prop:=PE X e (tE G c)
theorem PE.weak {X:Cx} {e:Expr} {t t':TE} (h:PE X e t) (w:∀ σ H Q,t' σ H Q->t σ H Q):PE X e t':=fun pins s σ H Q I q=>h pins s σ H Q I (w σ H Q q)
theorem PT.weak {X:Cx} {e:Expr} {t t':TT} (h:PT X e t) (w:∀ σ H Q,t' σ H Q->t σ H Q):PT X e t':=fun pins s σ H Q I q=>h pins s σ H Q I (w σ H Q q)
theorem PA.weak {X:Cx} {e:List Expr} {t t':TA} (h:PA X e t) (w:∀ σ H Q,t' σ H Q->t σ H Q):PA X e t':=fun pos pins s σ H Q I q=>h pos pins s σ H Q I (w σ H Q q)
noncomputable def tT (G:Gx) (c:Ex):TT:=fun σ H Q=>∃ Φ η m r b,SR G Φ η σ H/\c η=some (m,r)/\tru r=some b/\∀ H',aL H H'->Q b H'
noncomputable def PVT (G:Gx) (X:Cx) (e:Expr) (c:Ex):Prop:=PT X e (tT G c)
noncomputable def frs (l:List Val) (Fs:List (List Addr)):List Addr:=match l,Fs with
 | v :: l,F :: Fs=>match v.1 with
  | .fr=>F++frs l Fs
  | _=>frs l Fs
 | _,_=>[]
structure FpL (Φ:Fps) (η:VS.Env) (H:Hp) (l:List Val) (Fs:List (List Addr)):Prop where
 each:∀ (i:Nat) v F,l[i]?=some v->Fs[i]?=some F->Fp Φ η H v.1 F
 nd:(frs l Fs).Nodup
noncomputable def tEs (G:Gx) (c:Exs):TA:=fun σ H Q=>∃ Φ η l,SR G Φ η σ H/\c η=some l/\∀ vs H' Fs,aL H H'->RpL G H' vs (trees l) Fs->FpL Φ η H l Fs->Q vs H'
noncomputable def PVs (G:Gx) (X:Cx) (es:List Expr) (c:Exs):Prop:=PA X es (tEs G c)
section
variable {G:Gx} {X:Cx} {a b c:Expr} {ca cb cc:Ex} {pos:Pos}
theorem Bp {i j pos}:PV G X (.Constant (.int i) j pos) (eC (.int i)):=PE.weak wK fun σ H Q ⟨Φ,η,m,r,s,e,k⟩=>by
 cases (show some (Md.fr,T.int i)=some (m,r) from e)
 exact k _ _ _ (aL.refl _) (.int i) Fp.nil
theorem CZ {i j pos}:PV G X (.Constant (.bool i) j pos) (eC (.bl i)):=PE.weak DK fun σ H Q ⟨Φ,η,m,r,s,e,k⟩=>by
 cases (show some (Md.fr,T.bl i)=some (m,r) from e)
 exact k _ _ _ (aL.refl _) (.bl i) Fp.nil
theorem AC {j pos}:PV G X (.Constant .none j pos) (eC .non):=PE.weak Au fun σ H Q ⟨Φ,η,m,r,s,e,k⟩=>by
 cases (show some (Md.fr,T.non)=some (m,r) from e)
 exact k _ _ _ (aL.refl _) .non Fp.nil
theorem BC {x:Str} {t:Tx} {j pos} (h:x=sx t:=by decide +kernel) (hl:gG t:=by decide):PV G X (.Constant (.str x) j pos) (eC (.str t)):=PE.weak u6 fun σ H Q ⟨Φ,η,m,r,s,e,k⟩=>by
 cases (show some (Md.fr,T.str t)=some (m,r) from e)
 subst h
 exact k _ _ _ (aL.refl _) (.str t hl) Fp.nil
theorem AR (i:Nat) {x:Str} {pos:Pos} (hN:X.N[i]?=some x:=by rfl) (hv:Vis X.env.scope x:=by first | exact Or.inl rfl | exact Or.inr (Or.inl rfl) | exact Or.inr (Or.inr rfl)) (hd:(x == ("__debug__" : Str))=false:=by decide)
  (hcd:(x == ("__classdict__" : Str))=false:=by decide):PV G X (.Name x pos) (ah i):=PE.weak (fu hN hv hd hcd) fun σ H Q ⟨Φ,η,m,r,s,e,k⟩=>by
 unfold ah at e
 split at e
 ·rename_i t h
  obtain ⟨v,h1,h2⟩:=s.rp _ _ h
  have e':VS.up .pu t=(m,r):=Option.some.inj e
  have er:t=r:=congrArg Prod.snd e'
  have em:(VS.up .pu t).1=m:=congrArg Prod.fst e'
  rw [← er,← em] at k
  refine ⟨v,h1,k v H (Φ i) (aL.refl _) h2 ?_⟩
  have f:Fp Φ η H .pu (Φ i):=fun a ha=>.inr ⟨i,_,h,ha⟩
  exact f.up h2
 ·rename_i t h
  obtain ⟨v,h1,h2⟩:=s.rp _ _ h
  cases e
  exact ⟨v,h1,k v H (Φ i) (aL.refl _) h2 fun a ha=>.inr (.inr ⟨i,_,h,ha⟩)⟩
 ·cases e
structure Two (G:Gx) (Φ:Fps) (η:VS.Env) (H0 H:Hp) (x y:Val) (u w:V) (F1 F2:List Addr):Prop where
 same:aL H0 H
 r1:Rp G H u x.2 F1
 r2:Rp G H w y.2 F2
 f1:Fp Φ η H0 x.1 F1
 f2:Fp Φ η H0 y.1 F2
 nd:x.1=.fr->y.1=.fr->(F1++F2).Nodup
noncomputable def gy (G:Gx) (r:R2) (f:Val->Val->Option Val):Prop:=∀ (Φ:Fps) (η:VS.Env) (H0 H:Hp) (x y:Val) (u w:V) (F1 F2:List Addr) (m:Md) (t:T) (Q:VK),Two G Φ η H0 H x y u w F1 F2->f x y=some (m,t) →
 (∀ v H' F,aL H H'->Rp G H' v t F->Fp Φ η H0 m F->Q v H')->r u w H Q
theorem Ao {σ:L2.St} {H:Hp} {Q:V->V->Hp->Prop} {Φ:Fps} {η:VS.Env} {x y:Val} (s:SR G Φ η σ H) (ea:ca η=some x) (eb:cb η=some y)
  (k:∀ u w H2 F1 F2,Two G Φ η H H2 x y u w F1 F2->Q u w H2):tE G ca σ H fun u H1=>tE G cb σ H1 fun w H2=>Q u w H2:=by
 refine ⟨Φ,η,x.1,x.2,s,ea,fun u H1 F1 e1 r1 f1=>⟨Φ,η,y.1,y.2,s.same e1,eb,fun w H2 F2 e2 r2 f2=>k u w H2 F1 F2 ⟨e1.trans e2,r1.same e2,r2,f1,f2.back e1,fun hx hy=>?_⟩⟩⟩
 rw [hx] at f1
 rw [hy] at f2
 refine List.nodup_append.mpr ⟨f1.1,f2.1,fun a ha b hb z=>?_⟩
 subst z
 exact Mut.ne_none (r1.dom a ha) (f2.2 a hb)
theorem j5 {r:R2} {f:Val->Val->Option Val} (ok:gy G r f) {σ:L2.St} {H:Hp} {Q:VK} (h:tE G (e2 f ca cb) σ H Q):tOp r (tE G ca) (tE G cb) σ H Q:=by
 obtain ⟨Φ,η,m,t,s,e,k⟩:=h
 unfold e2 at e
 obtain ⟨x,ea,e⟩:=Zx.mp e
 obtain ⟨y,eb,e⟩:=Zx.mp e
 exact Ao s ea eb fun u w H2 F1 F2 tw=>ok Φ η H H2 x y u w F1 F2 m t Q tw e fun v H' F e1 r1 f1=>k v H' F (tw.same.trans e1) r1 f1
theorem ng {op:Operator} {r:R2} {f:Val->Val->Option Val} (ho:OpR X (binaryOp op) r) (ok:gy G r f) (ha:PV G X a ca) (hb:PV G X b cb):PV G X (.BinOp a op b pos) (e2 f ca cb) :=
 PE.weak (CJ ho ha hb) fun σ H Q h=>j5 ok h
theorem AF {op:CmpOp} {r:R2} {f:Val->Val->Option Val} (ho:OpR X (compareOp op) r) (ok:gy G r f) (ha:PV G X a ca) (hb:PV G X b cb) (hm:behindInMarks op b=false):PV G X (.Compare a [op] [b] pos) (e2 f ca cb) :=
 PE.weak (zE ho ha hb hm) fun σ H Q h=>j5 ok h
noncomputable def Tells (f:Val->Val->Option Val):Prop:=∀ x y m t,f x y=some (m,t)->∃ b,t=.bl b
theorem Rp.bl_inv {H:Hp} {v:V} {b:Bool} {F:List Addr} (r:Rp G H v (.bl b) F):v=.bl b:=by cases r;rfl
theorem Rp.int_inv {H:Hp} {v:V} {b:Int} {F:List Addr} (r:Rp G H v (.int b) F):v=.int b:=by cases r;rfl
theorem Rp.str_inv {H:Hp} {v:V} {b:Tx} {F:List Addr} (r:Rp G H v (.str b) F):v=.str (sx b)/\gG b:=by cases r with | str _ h=>exact ⟨rfl,h⟩
theorem uE {c:Ex} {t:TE} {σ:L2.St} {H:Hp} {Q:Bool->Hp->Prop} (h:tT G c σ H Q) (ht:∀ η m r,c η=some (m,r)->∃ b,r=.bl b) (w:∀ Q,tE G c σ H Q->t σ H Q):zO t σ H Q:=by
 obtain ⟨Φ,η,m,r,b,s,e,eb,k⟩:=h
 refine w _ ⟨Φ,η,m,r,s,e,fun v H' F e1 r1 f1=>?_⟩
 obtain ⟨b',er⟩:=ht η m r e
 rw [er] at eb r1
 cases (show some b'=some b from eb)
 exact ⟨_,r1.bl_inv,k H' e1⟩
theorem fW {op:CmpOp} {r:R2} {f:Val->Val->Option Val} (ho:OpR X (compareOp op) r) (ok:gy G r f) (ht:Tells f) (ha:PV G X a ca) (hb:PV G X b cb) (hm:behindInMarks op b=false):PVT G X (.Compare a [op] [b] pos) (e2 f ca cb) :=
 PT.weak (yK ho ha hb hm) fun σ H Q h=>uE h (fun η m r e=>by
  unfold e2 at e
  obtain ⟨x,_,e⟩:=Zx.mp e
  obtain ⟨y,_,e⟩:=Zx.mp e
  exact ht x y m r e) fun Q h=>j5 ok h
theorem bx {Φ:Fps} {η:VS.Env} {H0 H:Hp} {m:Md} {t:T} {v:V} {Q:VK} (k:∀ v H' F,aL H H'->Rp G H' v t F->Fp Φ η H0 m F->Q v H') (r:Rp G H v t []):Q v H:=k v H [] (aL.refl _) r Fp.nil
theorem bH {H:Hp} {p:Addr} {o:HO} (h:H p=none):aL H (upd H p o):=fun b o' e=>by rw [aw (bz e h)];exact e
theorem Fp.new {Φ:Fps} {η:VS.Env} {H0:Hp} {p:Addr} {F:List Addr} (h0:H0 p=none) (hp:p ∉ F):∀ {m:Md},Fp Φ η H0 m F->Fp Φ η H0 m (p :: F)
 | .fr,f=>⟨List.nodup_cons.mpr ⟨hp,f.1⟩,fun a m=>(Zg.mp m).elim (fun e=>by rw [e];exact h0) (f.2 a)⟩
 | .pu,f=>fun a m=>(Zg.mp m).elim (fun e=>by rw [e];exact .inl h0) (f a)
 | .bo,f=>fun a m=>(Zg.mp m).elim (fun e=>by rw [e];exact .inl h0) (f a)
theorem mq {mj m:Md} {l:List T} {t:T} (e:mkL mj l=some (m,t)):t=.lst l/\l.length<=eW/\m=(if d5 l then .fr else mj):=by
 unfold mkL at e
 split at e
 ·rename_i h
  cases e
  exact ⟨rfl,h,rfl⟩
 ·cases e
theorem fR {Φ:Fps} {η:VS.Env} {H0 H:Hp} {mj m:Md} {l:List T} {t:T} {vs:List V} {Fs:List (List Addr)} {Q:VK} (same:aL H0 H) (e:mkL mj l=some (m,t)) (r:RpL G H vs l Fs) (f:Fp Φ η H0 mj Fs.flatten)
  (k:∀ v H' F,aL H H'->Rp G H' v t F->Fp Φ η H0 m F->Q v H'):∀ p,H p=none->Q (.ref p) (upd H p (.lst vs)):=by
 intro p hp
 obtain ⟨rfl,hl,rfl⟩:=mq e
 refine k _ _ _ (bH hp) (.lst aF (r.same (bH hp))) ?_
 have np:p ∉ Fs.flatten:=fun m=>Mut.ne_none (r.dom p m) hp
 by_cases hi:d5 l=true
 ·rw [hi,if_pos rfl]
  rw [r.imm hi] at np ⊢
  exact Fp.nil.new (same.free hp) np
 ·rw [if_neg hi]
  exact f.new (same.free hp) np
theorem Two.join {Φ:Fps} {η:VS.Env} {H0 H:Hp} {x y:Val} {u w:V} {F1 F2:List Addr} (tw:Two G Φ η H0 H x y u w F1 F2) {F:List Addr} (hF:F.Sublist (F1++F2)):Fp Φ η H0 (x.1.join y.1) F:=by
 obtain ⟨same,r1,r2,f1,f2,nd⟩:=tw
 have split:∀ a∈F,a∈F1\/a∈F2:=fun a ha=>Zh.mp (hF.subset ha)
 obtain ⟨m1,x⟩:=x
 obtain ⟨m2,y⟩:=y
 have both:∀ {P:Addr->Prop},(∀ a∈F1,P a)->(∀ a∈F2,P a)->∀ a∈F,P a:=fun h1 h2 a ha=>(split a ha).elim (h1 a) (h2 a)
 cases m1 <;> cases m2
 ·exact ⟨(nd rfl rfl).sublist hF,both f1.2 f2.2⟩
 ·exact both (fun a ha=>.inl (f1.2 a ha)) f2
 ·exact both (fun a ha=>.inl (f1.2 a ha)) f2
 ·exact both f1 (fun a ha=>.inl (f2.2 a ha))
 ·exact both f1 f2
 ·exact both (f1.bo) f2
 ·exact both f1 (fun a ha=>.inl (f2.2 a ha))
 ·exact both f1 (f2.bo)
 ·exact both f1 f2
theorem fi:eW=sizeLine:=rfl
theorem dC (s:Tx):(sx s).length=s.length:=rfl
theorem AE (s t:Tx):sx s++sx t=sx (s++t):=by
 show Str.append (sx s) (sx t)=_
 simp [sx,Str.append]
theorem Rp.lst_inv {H:Hp} {v:V} {l:List T} {F:List Addr} (r:Rp G H v (.lst l) F):∃ a vs Fs,v=.ref a/\F=a :: Fs.flatten/\H a=some (.lst vs)/\RpL G H vs l Fs:=by
 cases r with
 | lst h q=>exact ⟨_,_,_,rfl,rfl,h,q⟩
theorem Rp.tup_inv {H:Hp} {v:V} {l:List T} {F:List Addr} (r:Rp G H v (.tup l) F):∃ a vs Fs,v=.ref a/\F=Fs.flatten/\H a=some (.tup vs)/\RpL G H vs l Fs:=by
 cases r with
 | tup h q=>exact ⟨_,_,_,rfl,rfl,h,q⟩
theorem Rp.scr_inv {H:Hp} {v:V} {l:List Int} {F:List Addr} (r:Rp G H v (.scr l) F):∃ a,v=.ref a/\F=[]/\ja G.K H a l:=by
 cases r with
 | scr h=>exact ⟨_,rfl,rfl,h⟩
end
section
variable {G:Gx} {X:Cx}
noncomputable def Bq:R2:=fun x y H Q=>rI0 (fun i j=>.int (i+j)) x y H Q\/(∃ i j,x=.str i/\y=.str j/\i.length+j.length<=sizeLine/\Q (.str (i++j)) H)\/Cg x y H Q
theorem xW:OpR X (binaryOp .Add) Bq:=Ai.or (pP.or BO)
theorem BG:gy G Bq bP:=by
 intro Φ η H0 H x y u w F1 F2 m t Q tw e k
 have jn:=fun {F:List Addr} (h:List.Sublist F (F1++F2))=>tw.join h
 obtain ⟨m1,x⟩:=x
 obtain ⟨m2,y⟩:=y
 obtain ⟨same,r1,r2,f1,f2,nd⟩:=tw
 unfold bP at e
 split at e
 ·rename_i i _ j e1 e2
  cases e1
  cases e2
  cases e
  exact .inl ⟨_,_,r1.int_inv,r2.int_inv,bx k (.int _)⟩
 ·rename_i s _ s' e1 e2
  cases e1
  cases e2
  split at e
  ·rename_i hl
   cases e
   refine .inr (.inl ⟨_,_,r1.str_inv.1,r2.str_inv.1,by rw [dC,dC,← fi];exact hl,?_⟩)
   rw [AE]
   exact bx k (.str _ ⟨by rw [Zj];exact hl,fun c hc=>(Zh.mp hc).elim (r1.str_inv.2.2 c) (r2.str_inv.2.2 c)⟩)
  ·cases e
 ·rename_i s _ s' e1 e2
  cases e1
  cases e2
  obtain ⟨a,vs,Fs,rfl,rfl,ha,ra⟩:=r1.lst_inv
  obtain ⟨b,us,Gs,rfl,rfl,hb,rb⟩:=r2.lst_inv
  obtain ⟨_,hl,_⟩:=mq e
  refine .inr (.inr ⟨a,b,vs,us,rfl,rfl,ha,hb,?_,fR same e (ra.append rb) (jn ?_) k⟩)
  ·rw [Zj] at hl
   rw [ra.len.1,rb.len.1,← fi]
   exact hl
  ·rw [List.flatten_append]
   exact (List.sublist_cons_self _ _).append (List.sublist_cons_self _ _)
 ·cases e
theorem BU:gy G (rI0 fun i j=>.int (i - j)) nB:=by
 intro Φ η H0 H x y u w F1 F2 m t Q tw e k
 obtain ⟨m1,x⟩:=x
 obtain ⟨m2,y⟩:=y
 obtain ⟨same,r1,r2,f1,f2,nd⟩:=tw
 unfold nB at e
 split at e
 ·rename_i e1 e2
  cases e1
  cases e2
  cases e
  exact ⟨_,_,r1.int_inv,r2.int_inv,bx k (.int _)⟩
 ·cases e
theorem xF:gy G (rI Dt fun i j=>.int (i / j)) dY:=by
 intro Φ η H0 H x y u w F1 F2 m t Q tw e k
 obtain ⟨m1,x⟩:=x
 obtain ⟨m2,y⟩:=y
 obtain ⟨same,r1,r2,f1,f2,nd⟩:=tw
 unfold dY at e
 split at e
 ·rename_i e1 e2
  cases e1
  cases e2
  split at e
  ·rename_i h
   cases e
   exact ⟨_,_,r1.int_inv,r2.int_inv,h,bx k (.int _)⟩
  ·cases e
 ·cases e
theorem AO:gy G (rI (fun _ j=>0 < j) fun i j=>.int (i % j)) oMod:=by
 intro Φ η H0 H x y u w F1 F2 m t Q tw e k
 obtain ⟨m1,x⟩:=x
 obtain ⟨m2,y⟩:=y
 obtain ⟨same,r1,r2,f1,f2,nd⟩:=tw
 unfold oMod at e
 split at e
 ·rename_i e1 e2
  cases e1
  cases e2
  split at e
  ·rename_i h
   cases e
   exact ⟨_,_,r1.int_inv,r2.int_inv,h,bx k (.int _)⟩
  ·cases e
 ·cases e
theorem jW:∀ (s t:Tx),ltx s t=decide (s < t)
 | [],[]=>by simp [ltx]
 | [],_ :: _=>by simp [ltx]
 | _ :: _,[]=>by simp [ltx]
 | a :: s,b :: t=>by
  unfold ltx
  rw [jW s t]
  by_cases h1:a < b
  ·simp [h1,List.cons_lt_cons_iff]
  ·by_cases h2:b < a
   ·have:¬ a=b:=by lia
    simp [h1,h2,List.cons_lt_cons_iff,this]
   ·have:a=b:=by lia
    subst this
    simp [List.cons_lt_cons_iff]
noncomputable def rLt:R2:=fun x y H Q=>rI0 (fun i j=>.bl (decide (i < j))) x y H Q\/(∃ i j,x=.str i/\y=.str j/\Q (.bl (decide (i.cps.toList < j.cps.toList))) H)
theorem zY:OpR X (compareOp .Lt) rLt:=C0.or rH
theorem C8:gy G rLt oLt:=by
 intro Φ η H0 H x y u w F1 F2 m t Q tw e k
 obtain ⟨m1,x⟩:=x
 obtain ⟨m2,y⟩:=y
 obtain ⟨same,r1,r2,f1,f2,nd⟩:=tw
 unfold oLt at e
 split at e
 ·rename_i e1 e2
  cases e1
  cases e2
  cases e
  exact .inl ⟨_,_,r1.int_inv,r2.int_inv,bx k (.bl _)⟩
 ·rename_i s _ s' e1 e2
  cases e1
  cases e2
  cases e
  refine .inr ⟨_,_,r1.str_inv.1,r2.str_inv.1,?_⟩
  have:decide ((sx s).cps.toList < (sx s').cps.toList)=ltx s s':=by rw [jW];exact decide_eq_decide.mpr (by simp [sx])
  rw [this]
  exact bx k (.bl _)
 ·cases e
theorem oE:Tells oLt:=by
 intro x y m t e
 unfold oLt at e
 split at e <;> first | (cases e;exact ⟨_,rfl⟩) | cases e
theorem Bx:B64=2 ^ 64:=rfl
theorem A9:gy G (rI xG fun i j=>.int (i * j)) eR:=by
 intro Φ η H0 H x y u w F1 F2 m t Q tw e k
 obtain ⟨m1,x⟩:=x
 obtain ⟨m2,y⟩:=y
 obtain ⟨same,r1,r2,f1,f2,nd⟩:=tw
 unfold eR at e
 split at e
 ·rename_i e1 e2
  cases e1
  cases e2
  split at e
  ·rename_i h
   cases e
   refine ⟨_,_,r1.int_inv,r2.int_inv,?_,bx k (.int _)⟩
   rw [Bx] at h
   exact h
  ·cases e
 ·cases e
theorem uu:Tells oLe:=by
 intro x y m t e
 unfold oLe at e
 split at e <;> first | (cases e;exact ⟨_,rfl⟩) | cases e
theorem Af {n:Nat} {i:Int}:ixP n i=ixN n i:=by
 unfold ixP ixN
 by_cases h:0<=i
 ·rw [if_pos h,if_pos h]
 ·rw [if_neg h,if_neg h]
  by_cases h2:0<=i+n
  ·rw [if_pos h2,if_pos (by lia)]
  ·rw [if_neg h2,if_neg (by lia)]
theorem mQ {α:Type} {l:List α} {i:Int} {k:Nat} {x:α} (h1:ixP l.length i=some k) (h2:l[k]?=some x):atI l i=some x:=by
 unfold atI
 rw [← Af,h1]
 exact h2
theorem fP {Fs:List (List Addr)} {F:List Addr} {i:Nat} (h:Fs[i]?=some F):F.Sublist Fs.flatten:=by
 obtain ⟨hi,rfl⟩:=List.getElem?_eq_some_iff.mp h
 exact List.sublist_flatten_of_mem (List.getElem_mem hi)
theorem Fp.sub {Φ:Fps} {η:VS.Env} {H:Hp} {F F':List Addr} (h:F.Sublist F'):∀ {m:Md},Fp Φ η H m F'->Fp Φ η H m F
 | .fr,f=>⟨f.1.sublist h,fun a ha=>f.2 a (h.subset ha)⟩
 | .pu,f=>fun a ha=>f a (h.subset ha)
 | .bo,f=>fun a ha=>f a (h.subset ha)
theorem vM:gy G (rIx G.K) aU:=by
 intro Φ η H0 H x y u w F1 F2 m t Q tw e k
 obtain ⟨m1,x⟩:=x
 obtain ⟨m2,y⟩:=y
 obtain ⟨same,r1,r2,f1,f2,nd⟩:=tw
 unfold aU at e
 split at e
 ·rename_i m3 l m4 i e1 e2
  cases e1
  cases e2
  obtain ⟨j,h1,e⟩:=Zx.mp e
  obtain ⟨x,h2,e⟩:=Zq.mp e
  obtain ⟨a,vs,Fs,rfl,rfl,ha,ra⟩:=r1.lst_inv
  obtain ⟨v,F,g1,g2,g3⟩:=ra.get j h2
  refine .inl ⟨a,vs,i,v,rfl,r2.int_inv,SqL.of ha,mQ (by rw [ra.len.1];exact h1) g1,?_⟩
  have f:=((f1.sub (List.sublist_cons_self _ _)).sub (fP g2)).up g3
  unfold VS.sub at e
  rw [e] at f
  have et:x=t:=congrArg Prod.snd e
  rw [et] at g3
  exact k v H F (aL.refl _) g3 f
 ·rename_i m3 l m4 i e1 e2
  cases e1
  cases e2
  obtain ⟨j,h1,e⟩:=Zx.mp e
  obtain ⟨x,h2,e⟩:=Zq.mp e
  obtain ⟨a,vs,Fs,rfl,rfl,ha,ra⟩:=r1.tup_inv
  obtain ⟨v,F,g1,g2,g3⟩:=ra.get j h2
  refine .inr (.inl ⟨a,vs,i,v,rfl,r2.int_inv,SqT.of ha,mQ (by rw [ra.len.1];exact h1) g1,?_⟩)
  have f:=(f1.sub (fP g2)).up g3
  unfold VS.sub at e
  rw [e] at f
  have et:x=t:=congrArg Prod.snd e
  rw [et] at g3
  exact k v H F (aL.refl _) g3 f
 ·rename_i m3 l m4 i e1 e2
  cases e1
  cases e2
  obtain ⟨j,h1,e⟩:=Zx.mp e
  obtain ⟨x,h2,e⟩:=Zq.mp e
  cases e
  obtain ⟨a,rfl,rfl,sa⟩:=r1.scr_inv
  refine .inl ⟨a,l.map V.int,i,.int x,rfl,r2.int_inv,sa.seq,mQ (by rw [Zk];exact h1) (by rw [List.getElem?_map,h2];rfl),bx k (.int _)⟩
 ·rename_i m3 l m4 i e1 e2
  cases e1
  cases e2
  obtain ⟨j,h1,e⟩:=Zx.mp e
  obtain ⟨x,h2,e⟩:=Zq.mp e
  cases e
  obtain ⟨rfl,hl⟩:=r1.str_inv
  refine .inr (.inr ⟨sx l,i,x,rfl,r2.int_inv,by rw [dC,← fi];exact hl.1,mQ (k:=j) (by simpa [sx] using h1) (by simpa [sx] using h2),?_⟩)
  exact bx k (.str [x] ⟨by show 1<=eW;decide,fun c hc=>by rw [Zi.mp hc];exact hl.2 x (List.mem_of_getElem? h2)⟩)
 ·cases e
end
section
variable {G:Gx} {X:Cx} {a b c e:Expr} {es:List Expr} {ca cb cc:Ex} {cs:Exs} {pos p:Pos}
theorem qA {x:Addr}:∀ {l:List Val} {Fs:List (List Addr)},x∈frs l Fs->∃ (i:Nat) (v:Val) (F:List Addr),l[i]?=some v/\v.1=.fr/\Fs[i]?=some F/\x∈F
 | [],_,h=>by simp [frs] at h
 | _ :: _,[],h=>by simp [frs] at h
 | v :: l,F :: Fs,h=>by
  have go:x∈frs l Fs->∃ (i:Nat) (u:Val) (F':List Addr),(v :: l)[i]?=some u/\u.1=.fr/\(F :: Fs)[i]?=some F'/\x∈F':=fun m=>by
   obtain ⟨i,u,F',h1,h2,h3,h4⟩:=qA m
   exact ⟨i+1,u,F',by simpa using h1,h2,by simpa using h3,h4⟩
  unfold frs at h
  split at h
  ·rename_i hv
   rcases Zh.mp h with h | h
   ·exact ⟨0,v,F,rfl,hv,rfl,h⟩
   ·exact go h
  ·exact go h
theorem yq:PVs G X [] av:=PA.weak fB fun σ H Q ⟨Φ,η,l,s,e,k⟩=>by
 cases (show some ([]:List Val)=some l from e)
 exact k [] H [] (aL.refl _) .nil ⟨fun i v F h=>by simp at h,by simp [frs]⟩
theorem uP (ha:PV G X e ca) (hr:PVs G X es cs) (hs:starEach (e :: es) X.env=(false,eval e X.env) :: starEach es X.env:=by rfl):PVs G X (e :: es) (af ca cs):=PA.weak (dU ha hr hs) fun σ H Q ⟨Φ,η,l,s,e,k⟩=>by
 unfold af at e
 obtain ⟨x,ea,e⟩:=Zx.mp e
 obtain ⟨xs,er,e⟩:=Zx.mp e
 cases e
 refine ⟨Φ,η,x.1,x.2,s,ea,fun v H1 F e1 r1 f1=>⟨Φ,η,xs,s.same e1,er,fun vs H2 Fs e2 r2 f2=>k (v :: vs) H2 (F :: Fs) (e1.trans e2) (.cons (r1.same e2) r2) ⟨fun i u F' h1 h2=>?_,?_⟩⟩⟩
 ·cases i with
  | zero =>
   cases (show some x=some u from h1)
   cases (show some F=some F' from h2)
   exact f1
  | succ i=>exact (f2.each i u F' (by simpa using h1) (by simpa using h2)).back e1
 ·unfold frs
  split
  ·rename_i hx
   rw [hx] at f1
   refine List.nodup_append.mpr ⟨f1.1,f2.nd,fun y hy z hz q=>?_⟩
   subst q
   obtain ⟨i,u,F',h1,h2,h3,h4⟩:=qA hz
   have f:=f2.each i u F' h1 h3
   rw [h2] at f
   exact Mut.ne_none (r1.dom y hy) (f.2 y h4)
  ·exact f2.nd
theorem iC:∀ {l:List Val},bJ l=.fr->∀ v∈l,v.1=.fr
 | [],_,v,h=>by simp at h
 | (m,t) :: r,e,v,h=>by
  have e':m.join (bJ r)=.fr:=e
  have h1:m=.fr:=by
   revert e'
   cases m <;> cases bJ r <;> simp [Md.join]
  have h2:bJ r=.fr:=by
   revert e'
   cases m <;> cases bJ r <;> simp [Md.join]
  rcases Zg.mp h with rfl | h
  ·exact h1
  ·exact iC h2 v h
theorem iA:∀ {l:List Val},bJ l ≠ .bo->∀ v∈l,v.1 ≠ .bo
 | [],_,v,h=>by simp at h
 | (m,t) :: r,e,v,h=>by
  have e':m.join (bJ r) ≠ .bo:=e
  have h1:m ≠ .bo:=by
   revert e'
   cases m <;> cases bJ r <;> simp [Md.join]
  have h2:bJ r ≠ .bo:=by
   revert e'
   cases m <;> cases bJ r <;> simp [Md.join]
  rcases Zg.mp h with rfl | h
  ·exact h1
  ·exact iA h2 v h
theorem qz:∀ {l:List Val} {Fs:List (List Addr)},l.length=Fs.length->(∀ v∈l,v.1=.fr)->frs l Fs=Fs.flatten
 | [],[],_,_=>rfl
 | [],_ :: _,h,_=>by simp at h
 | _ :: _,[],h,_=>by simp at h
 | v :: l,F :: Fs,h,q=>by
  unfold frs
  rw [q v Zv,qz (by simpa using h) fun u hu=>q u (Zw _ hu)]
  rfl
theorem eu {x:Addr} {Fs:List (List Addr)} (h:x∈Fs.flatten):∃ (i:Nat) (F:List Addr),Fs[i]?=some F/\x∈F:=by
 obtain ⟨F,hF,hx⟩:=List.mem_flatten.mp h
 obtain ⟨i,hi⟩:=List.mem_iff_getElem?.mp hF
 exact ⟨i,F,hi,hx⟩
theorem FpL.join {Φ:Fps} {η:VS.Env} {H:Hp} {l:List Val} {Fs:List (List Addr)} (f:FpL Φ η H l Fs) (hl:l.length=Fs.length):Fp Φ η H (bJ l) Fs.flatten:=by
 have at':∀ x∈Fs.flatten,∃ v F,v∈l/\x∈F/\Fp Φ η H v.1 F:=fun x hx=>by
  obtain ⟨i,F,hi,hxF⟩:=eu hx
  have:i < l.length:=by
   have:=(List.getElem?_eq_some_iff.mp hi).1
   lia
  exact ⟨l[i],F,List.getElem_mem this,hxF,f.each i _ F (Zd this) hi⟩
 cases e:bJ l with
 | fr =>
  have al:=iC e
  refine ⟨by rw [← qz hl al];exact f.nd,fun x hx=>?_⟩
  obtain ⟨v,F,hv,hxF,q⟩:=at' x hx
  rw [al v hv] at q
  exact q.2 x hxF
 | pu =>
  have al:=iA (l:=l) (by rw [e];decide)
  intro x hx
  obtain ⟨v,F,hv,hxF,q⟩:=at' x hx
  exact Fp.pu (al v hv) q x hxF
 | bo =>
  intro x hx
  obtain ⟨v,F,hv,hxF,q⟩:=at' x hx
  exact q.bo x hxF
structure Args (G:Gx) (Φ:Fps) (η:VS.Env) (H0 H:Hp) (l:List Val) (vs:List V) (Fs:List (List Addr)):Prop where
 same:aL H0 H
 rp:RpL G H vs (trees l) Fs
 fp:FpL Φ η H0 l Fs
theorem Args.len {Φ:Fps} {η:VS.Env} {H0 H:Hp} {l:List Val} {vs:List V} {Fs:List (List Addr)} (A:Args G Φ η H0 H l vs Fs):l.length=Fs.length:=by
 have:=A.rp.len.2
 simp [trees] at this
 lia
noncomputable def fA (G:Gx) (r:List V->Hp->VK->Prop) (f:List Val->Option Val):Prop:=∀ (Φ:Fps) (η:VS.Env) (H0 H:Hp) (l:List Val) (vs:List V) (Fs:List (List Addr)) (m:Md) (t:T) (Q:VK),Args G Φ η H0 H l vs Fs->f l=some (m,t) →
 (∀ v H' F,aL H H'->Rp G H' v t F->Fp Φ η H0 m F->Q v H')->r vs H Q
theorem zV {r:List V->Hp->VK->Prop} {f:List Val->Option Val} (ok:fA G r f) {σ:L2.St} {H:Hp} {Q:VK} {η:VS.Env} {Φ:Fps} {l:List Val} {m:Md} {t:T} (s:SR G Φ η σ H) (el:cs η=some l) (e:f l=some (m,t))
  (k:∀ v H' F,aL H H'->Rp G H' v t F->Fp Φ η H m F->Q v H'):tEs G cs σ H fun vs H1=>r vs H1 Q :=
 ⟨Φ,η,l,s,el,fun vs H' Fs e1 r1 f1=>ok Φ η H H' l vs Fs m t Q ⟨e1,r1,f1⟩ e fun v H2 F e2 r2 f2=>k v H2 F (e1.trans e2) r2 f2⟩
theorem oJ {r:List V->Hp->VK->Prop} {f:List Val->Option Val} {id:String} {x:Str} (hc:dq X (.builtin id) r) (ok:fA G r f) (hg:Gl X x) (hm:X.mg x=none) (hv:bootBuiltins x=some (.builtin id)) (ha:PVs G X (e :: es) cs)
  (hn:x ≠ "__name__" := by decide) (hdb:(x == ("__debug__" : Str))=false:=by decide)
  (he:starEach (e :: es) X.env=(false,eval e X.env) :: starEach es X.env:=by rfl) (hpl:(backTo pos (starEach es X.env)).any (·.1)=false:=by rfl):PV G X (.Call (.Name x p) (e :: es) [] pos) (eN f cs) :=
 PE.weak (kf hc hg hm hv ha hn hdb he hpl) fun σ H Q ⟨Φ,η,m,t,s,e,k⟩=>by
  unfold eN at e
  obtain ⟨l,el,e⟩:=Zx.mp e
  exact zV ok s el e k
theorem g7 {r:List V->Hp->VK->Prop} {f:List Val->Option Val} {Ty:String} {x:Str} (hc:dq X (.type Ty) r) (ok:fA G r f) (hg:Gl X x) (hm:X.mg x=none) (hv:bootBuiltins x=some (.type Ty)) (ha:PVs G X (e :: es) cs)
  (hn:x ≠ "__name__" := by decide) (hdb:(x == ("__debug__" : Str))=false:=by decide)
  (he:starEach (e :: es) X.env=(false,eval e X.env) :: starEach es X.env:=by rfl) (hpl:(backTo pos (starEach es X.env)).any (·.1)=false:=by rfl):PV G X (.Call (.Name x p) (e :: es) [] pos) (eN f cs) :=
 PE.weak (lX hc hg hm hv ha hn hdb he hpl) fun σ H Q ⟨Φ,η,m,t,s,e,k⟩=>by
  unfold eN at e
  obtain ⟨l,el,e⟩:=Zx.mp e
  exact zV ok s el e k
theorem AA (h:PVs G X es cs):PV G X (.List es pos) (eU cs):=PE.weak (mB h) fun σ H Q ⟨Φ,η,m,t,s,e,k⟩=>by
 unfold eU at e
 obtain ⟨l,el,e⟩:=Zx.mp e
 refine ⟨Φ,η,l,s,el,fun vs H' Fs e1 r1 f1=>?_⟩
 have A:Args G Φ η H H' l vs Fs:=⟨e1,r1,f1⟩
 obtain ⟨_,hl,_⟩:=mq e
 refine ⟨by rw [r1.len.1,← fi];exact hl,fR e1 e r1 (f1.join A.len) fun v H2 F e2 r2 f2=>k v H2 F (e1.trans e2) r2 f2⟩
theorem Ab {x1} (h:PVs G X es cs):PV G X (.Tuple es x1 pos) (oo cs):=PE.weak (BK h) fun σ H Q ⟨Φ,η,m,t,s,e,k⟩=>by
 unfold oo at e
 obtain ⟨l,el,e⟩:=Zx.mp e
 refine ⟨Φ,η,l,s,el,fun vs H' Fs e1 r1 f1=>?_⟩
 have A:Args G Φ η H H' l vs Fs:=⟨e1,r1,f1⟩
 unfold rC at e
 split at e
 ·rename_i hl
  cases e
  refine ⟨by rw [r1.len.1,← fi,trees,Zk];exact hl,fun q hq=>?_⟩
  have r2:Rp G (upd H' q (.tup vs)) (.ref q) (.tup (trees l)) Fs.flatten:=.tup aF (r1.same (bH hq))
  exact k _ _ _ (e1.trans (bH hq)) r2 (Fp.up (f1.join A.len) r2)
 ·cases e
theorem zk {H:Hp} {v:V} {t:T} {F:List Addr} {k:Bool} (r:Rp G H v t F) (h:tru t=some k):Bc G.K v H k:=by
 cases r with
 | non=>cases h;rfl
 | bl b=>cases h;rfl
 | int i=>cases h;rfl
 | str s hl =>
  cases h
  refine ⟨by rw [dC,← fi];exact hl.1,?_⟩
  rw [dC]
  cases s with
  | nil=>rfl
  | cons a r =>
   have:((List.length (a :: r):Int) != 0)=true:=by simp;lia
   rw [this]
   rfl
 | scr h'=>cases h
 | tup h' q =>
  cases h
  refine .inr (.inl ⟨_,SqT.of h',?_⟩)
  have:=q.len.1
  rename_i vs ts _
  cases vs <;> cases ts <;> simp_all
 | lst h' q =>
  cases h
  refine .inl ⟨_,SqL.of h',?_⟩
  have:=q.len.1
  rename_i vs ts _
  cases vs <;> cases ts <;> simp_all
 | dct h' hl q =>
  cases h
  refine .inr (.inr ⟨_,h',?_⟩)
  have:=q.len.1
  rename_i ks vs ts _
  cases ks <;> cases vs <;> cases ts <;> simp_all
 | dctT h' hl q=>cases h
 | dctN h' hl n q=>cases h
 | obj h' hl q=>cases h
theorem zq (h:PV G X a ca) (hK:X.K=G.K:=by rfl) (he:∀ whole,isTrue a X.env whole=(do let v ← whole;standAt a.pos;holding [v] (truthy v)):=by intro _;rfl):PVT G X a ca :=
 PT.weak (ub h he) fun σ H Q ⟨Φ,η,m,r,b,s,e,eb,k⟩=>⟨Φ,η,m,r,s,e,fun v H' F e1 r1 f1=>⟨b,by rw [hK];exact zk r1 eb,k H' e1⟩⟩
noncomputable def PVW (G:Gx) (X:Cx) (e:Expr) (c:Ex):Prop:=PW X e (tT G c)
theorem PW.weak {X:Cx} {e:Expr} {t t':TT} (h:PW X e t) (w:∀ σ H Q,t' σ H Q->t σ H Q):PW X e t':=fun wh pins s σ H Q I q=>h wh pins s σ H Q I (w σ H Q q)
theorem PVW.pvt (h:PVW G X e ca):PVT G X e ca:=PW.pt h
variable {rest:List Expr}
theorem uv (ha:PVT G X a ca):PVW G X (.BoolOp .And [a] pos) ca:=xU ha
theorem pf {η:VS.Env} {m:Md} {r:T} (e:i7 ca cb η=some (m,r)):(∃ n,ca η=some (n,.bl true)/\cb η=some (m,r))\/(∃ n,ca η=some (n,.bl false)/\m=.fr/\r=.bl false):=by
 unfold i7 at e
 obtain ⟨⟨n,x⟩,ea,e⟩:=Zx.mp e
 split at e
 ·rename_i h
  cases (show x=.bl true from h)
  exact .inl ⟨n,ea,e⟩
 ·rename_i h
  cases (show x=.bl false from h)
  cases e
  exact .inr ⟨n,ea,rfl,rfl⟩
 ·cases e
theorem yV (ha:PVT G X a ca) (hb:PVW G X (.BoolOp .And (b :: rest) pos) cb):PVW G X (.BoolOp .And (a :: b :: rest) pos) (i7 ca cb) :=
 PW.weak (BI ha hb) fun σ H Q ⟨Φ,η,m,r,k,s,e,eb,q⟩=>by
  rcases pf e with ⟨n,ea,e2⟩ | ⟨n,ea,rfl,rfl⟩
  ·refine ⟨Φ,η,n,_,true,s,ea,rfl,fun H' e1=>?_⟩
   refine za ?_
   exact ⟨Φ,η,m,r,k,s.same e1,e2,eb,fun H2 e2=>q H2 (e1.trans e2)⟩
  ·refine ⟨Φ,η,n,_,false,s,ea,rfl,fun H' e1=>?_⟩
   refine wV ?_
   cases eb
   exact q H' e1
theorem oZ {η:VS.Env} {m:Md} {r:T} (e:kI ca η=some (m,r)):∃ n b,ca η=some (n,.bl b)/\m=.fr/\r=.bl (!b):=by
 unfold kI at e
 obtain ⟨⟨n,x⟩,ea,e⟩:=Zx.mp e
 split at e
 ·rename_i b h
  cases (show x=.bl b from h)
  cases e
  exact ⟨n,b,ea,rfl,rfl⟩
 ·cases e
theorem zc (ha:PVT G X a ca):PVT G X (.UnaryOp .Not a pos) (kI ca):=PT.weak (BD ha) fun σ H Q ⟨Φ,η,m,r,k,s,e,eb,q⟩=>by
 obtain ⟨n,b,ea,rfl,rfl⟩:=oZ e
 cases eb
 exact ⟨Φ,η,n,_,b,s,ea,rfl,fun H' e1=>q H' e1⟩
theorem AU (ha:PV G X a ca):PV G X (.UnaryOp .Not a pos) (kI ca):=PE.weak (AK ha) fun σ H Q ⟨Φ,η,m,r,s,e,q⟩=>by
 obtain ⟨n,b,ea,rfl,rfl⟩:=oZ e
 exact ⟨Φ,η,n,_,s,ea,fun v H' F e1 r1 f1=>⟨b,r1.bl_inv,q _ H' _ e1 (.bl _) Fp.nil⟩⟩
theorem BP {op} (h:PV G X a ca):PV G X (.BoolOp op [a] pos) ca:=Bb h
theorem AM (ha:PV G X a ca) (hb:PV G X (.BoolOp .And (b :: rest) pos) cb):PV G X (.BoolOp .And (a :: b :: rest) pos) (i7 ca cb) :=
 PE.weak (Bv ha hb) fun σ H Q ⟨Φ,η,m,r,s,e,q⟩=>by
  rcases pf e with ⟨n,ea,e2⟩ | ⟨n,ea,rfl,rfl⟩
  ·refine ⟨Φ,η,n,_,s,ea,fun v H' F e1 r1 f1=>⟨true,r1.bl_inv,?_⟩⟩
   refine za ?_
   exact ⟨Φ,η,m,r,s.same e1,e2,fun v H2 F e2 r2 f2=>q v H2 F (e1.trans e2) r2 (f2.back e1)⟩
  ·refine ⟨Φ,η,n,_,s,ea,fun v H' F e1 r1 f1=>⟨false,r1.bl_inv,?_⟩⟩
   refine wV ?_
   exact q _ H' _ e1 (.bl _) Fp.nil
theorem CS (hc:PVT G X c cc) (ha:PV G X a ca) (hb:PV G X b cb):PV G X (.IfExp c a b pos) (eIf cc ca cb) :=
 PE.weak (ug hc ha hb) fun σ H Q ⟨Φ,η,m,r,s,e,q⟩=>by
  unfold eIf at e
  obtain ⟨⟨n,x⟩,ec,e⟩:=Zx.mp e
  obtain ⟨k,ek,e⟩:=Zx.mp e
  refine ⟨Φ,η,n,x,k,s,ec,ek,fun H' e1=>?_⟩
  cases k with
  | true =>
   rw [if_pos rfl] at e
   refine za ?_
   exact ⟨Φ,η,m,r,s.same e1,e,fun v H2 F e2 r2 f2=>q v H2 F (e1.trans e2) r2 (f2.back e1)⟩
  | false =>
   rw [if_neg Zp] at e
   refine wV ?_
   exact ⟨Φ,η,m,r,s.same e1,e,fun v H2 F e2 r2 f2=>q v H2 F (e1.trans e2) r2 (f2.back e1)⟩
theorem zi {H:Hp} {v:V} {t:T} {F:List Addr} (r:Rp G H v t F):decide (v=.non)=isN t:=by
 cases r <;> simp [isN]
theorem AV {j pos'} (ha:PV G X a ca):PV G X (.Compare a [.Is] [.Constant .none j pos'] pos) (ud ca):=PE.weak (BM (Bw ha)) fun σ H Q ⟨Φ,η,m,r,s,e,q⟩=>by
 unfold ud at e
 obtain ⟨⟨n,x⟩,ea,e⟩:=Zx.mp e
 cases e
 refine ⟨Φ,η,n,x,s,ea,fun v H' F e1 r1 f1=>?_⟩
 show Q (.bl (decide (v=.non))) H'
 rw [zi r1]
 exact q _ H' _ e1 (.bl _) Fp.nil
end
section
variable {G:Gx} {X:Cx} {a b c e:Expr} {es:List Expr} {ca cb cc:Ex} {cs:Exs} {pos p:Pos}
theorem RpL.one {H:Hp} {vs:List V} {t:T} {Fs:List (List Addr)} (r:RpL G H vs [t] Fs):∃ v F,vs=[v]/\Fs=[F]/\Rp G H v t F:=by
 cases r with
 | cons r q=>cases q;exact ⟨_,_,rfl,rfl,r⟩
theorem RpL.two {H:Hp} {vs:List V} {t t':T} {Fs:List (List Addr)} (r:RpL G H vs [t,t'] Fs):∃ v v' F F',vs=[v,v']/\Fs=[F,F']/\Rp G H v t F/\Rp G H v' t' F':=by
 cases r with
 | cons r q =>
  obtain ⟨v',F',rfl,rfl,r'⟩:=q.one
  exact ⟨_,_,_,_,rfl,rfl,r,r'⟩
noncomputable def CM (K:PySem.W.Frag):List V->Hp->VK->Prop:=fun xs H Q=>(∃ x n,xs=[x]/\B6 K x H n/\Q (.int n) H)\/(∃ a kvs,xs=[V.ref a]/\H a=some (.dK kvs)/\Q (.int kvs.length) H)
theorem pQ:dq X (.builtin "len") (fun xs H Q=>∃ a kvs,xs=[V.ref a]/\H a=some (.dK kvs)/\Q (.int kvs.length) H):=by
 intro pins s σ H xs us Q I r h
 obtain ⟨a,kvs,rfl,ha,q⟩:=h
 obtain ⟨u,rfl,ru⟩:=vals1 r
 cases ru
 exact CG I (.inl ha) fun t s' I'=>⟨.int kvs.length,H,I',⟨t,rfl⟩,q⟩
theorem tu:dq X (.builtin "len") (CM X.K):=vY.or pQ
theorem BW:fA G (CM G.K) d6:=by
 intro Φ η H0 H l vs Fs m t Q A e k
 refine L2.fM fun P_ k_=>?_
 unfold d6 at e
 split at e
 ·rename_i x
  obtain ⟨mx,x⟩:=x
  obtain ⟨n,en,e⟩:=Zq.mp e
  cases e
  obtain ⟨v,F,rfl,rfl,r⟩:=(show RpL G H vs [x] Fs from A.rp).one
  have fin:Q (.int (n:Int)) H:=bx k (.int _)
  cases r with
  | non=>cases en
  | bl b=>cases en
  | int i=>cases en
  | str s hl =>
   cases en
   refine k_ ?_
   exact .inl ⟨_,_,rfl,⟨by rw [dC,← fi];exact hl.1,rfl⟩,by rw [dC];exact fin⟩
  | scr h =>
   cases en
   refine k_ ?_
   refine .inl ⟨_,_,rfl,.inl ⟨_,h.seq,rfl⟩,?_⟩
   rw [Zk]
   exact fin
  | tup h q =>
   cases en
   refine k_ ?_
   refine .inl ⟨_,_,rfl,.inr ⟨_,SqT.of h,rfl⟩,?_⟩
   rw [q.len.1]
   exact fin
  | lst h q =>
   cases en
   refine k_ ?_
   refine .inl ⟨_,_,rfl,.inl ⟨_,SqL.of h,rfl⟩,?_⟩
   rw [q.len.1]
   exact fin
  | dct h hl q =>
   cases en
   refine k_ ?_
   refine .inr ⟨_,_,rfl,h,?_⟩
   rename_i ks ws ts _
   have e1:=q.len.1
   rw [List.length_zip,Zk] at fin
   rw [List.length_zip,e1]
   exact fin
  | dctT h hl q=>cases en
  | dctN h hl n q=>cases en
  | obj h hl q=>cases en
 ·cases e
theorem xA:fA G (fun xs H Q=>∃ i j,xs=[.int i,.int j]/\Q (.int (if j < i then j else i)) H) lQ:=by
 intro Φ η H0 H l vs Fs m t Q A e k
 unfold lQ at e
 split at e
 ·rename_i _ i _ j
  cases e
  obtain ⟨v,v',F,F',rfl,rfl,r,r'⟩:=(show RpL G H vs [.int i,.int j] Fs from A.rp).two
  exact ⟨i,j,by rw [r.int_inv,r'.int_inv],bx k (.int _)⟩
 ·cases e
noncomputable def zQ (K:PySem.W.Frag):List V->Hp->VK->Prop:=fun xs H Q=>∃ p ys,xs=[.ref p]/\(SqL K H p ys\/SqT K H p ys)/\∀ l,H l=none->Q (.ref l) (upd H l (.lst ys))
theorem qK:fA G (zQ G.K) zT:=by
 intro Φ η H0 H l vs Fs m t Q A e k
 unfold zT at e
 split at e
 ·rename_i mx x
  obtain ⟨v,F,rfl,rfl,rx⟩:=(show RpL G H vs [.lst x] Fs from A.rp).one
  obtain ⟨a,ys,Gs,rfl,rfl,ha,ra⟩:=rx.lst_inv
  have f:=A.fp.each 0 _ _ rfl rfl
  exact ⟨a,ys,rfl,.inl (SqL.of ha),fR A.same e ra (f.sub (List.sublist_cons_self _ _)) k⟩
 ·rename_i mx x
  obtain ⟨v,F,rfl,rfl,rx⟩:=(show RpL G H vs [.tup x] Fs from A.rp).one
  obtain ⟨a,ys,Gs,rfl,rfl,ha,ra⟩:=rx.tup_inv
  have f:=A.fp.each 0 _ _ rfl rfl
  exact ⟨a,ys,rfl,.inr (SqT.of ha),fR A.same e ra f k⟩
 ·cases e
noncomputable def tO (G:Gx) (c:Option Ex):TO:=fun σ H Q=>∃ Φ η o,SR G Φ η σ H/\ky c η=some o/\∀ H',aL H H'->Q o H'
noncomputable def PVO (G:Gx) (X:Cx) (e:Option Expr) (c:Option Ex):Prop:=PO X e (tO G c)
theorem PO.weak {X:Cx} {e:Option Expr} {t t':TO} (h:PO X e t) (w:∀ σ H Q,t' σ H Q->t σ H Q):PO X e t':=fun pins s σ H Q I q=>h pins s σ H Q I (w σ H Q q)
theorem vy:PVO G X none none:=PO.weak xi fun σ H Q ⟨Φ,η,o,s,e,k⟩=>by
 cases (show some (none:Option Int)=some o from e)
 exact k H (aL.refl _)
theorem vE (h:PV G X a ca):PVO G X (some a) (some ca):=PO.weak (zu h) fun σ H Q ⟨Φ,η,o,s,e,k⟩=>by
 obtain ⟨⟨m,y⟩,ea,e⟩:=Zx.mp (show (ca η).bind (fun y=>(int? y.2).map some)=some o from e)
 obtain ⟨i,ei,e⟩:=Zq.mp e
 cases e
 refine ⟨Φ,η,m,y,s,ea,fun v H' F e1 r1 f1=>?_⟩
 cases y with
 | int j =>
  cases ei
  exact ⟨_,r1.int_inv,k H' e1⟩
 | _=>cases ei
theorem iS {α:Type} (l:List α) (lo hi:Option Int):cut l lo hi=(l.drop (HT.sIx l.length 0 lo)).take (HT.sIx l.length l.length hi - HT.sIx l.length 0 lo):=by
 unfold cut
 cases lo <;> cases hi <;> rfl
theorem u0 (lo hi:Option Int) (n:Nat):Builtin.Str.strSliceIndices lo hi 1 n=Builtin.Str.strSliceIndices (some ((min (HT.sIx n 0 lo) n:Nat):Int)) (some ((min (HT.sIx n n hi) n:Nat):Int)) 1 n:=by
 have e1:∀ k:Nat,¬ ((k:Int) < 0):=fun k=>by lia
 unfold Builtin.Str.strSliceIndices
 simp only [show (1:Int) > 0 by decide,if_true,e1,if_false]
 congr 1
 ·cases lo with
  | none=>simp only [HT.sIx];lia
  | some i =>
   simp only [HT.sIx]
   by_cases h:i < 0
   ·simp only [h,if_true];lia
   ·simp only [h,if_false];lia
 ·cases hi with
  | none=>simp only [HT.sIx];lia
  | some i =>
   simp only [HT.sIx]
   by_cases h:i < 0
   ·simp only [h,if_true];lia
   ·simp only [h,if_false];lia
theorem kT (s:Tx) (lo hi:Option Int):PySem.StrLaws.sliceText (sx s) lo hi=sx (cut s lo hi):=by
 have key:PySem.StrLaws.sliceText (sx s) lo hi=PySem.StrLaws.sliceText (sx s) (some ((min (HT.sIx s.length 0 lo) s.length:Nat):Int)) (some ((min (HT.sIx s.length s.length hi) s.length:Nat):Int)):=by
  unfold PySem.StrLaws.sliceText
  rw [dC,u0]
 rw [key]
 have hd:∀ a:Nat,s.drop (min a s.length)=s.drop a:=fun a=>by
  by_cases h:a<=s.length
  ·rw [Nat.min_eq_left h]
  ·rw [Nat.min_eq_right (by omega),List.drop_of_length_le (Zt _),List.drop_of_length_le (by omega)]
 by_cases h:min (HT.sIx s.length 0 lo) s.length<=min (HT.sIx s.length s.length hi) s.length
 ·rw [PySem.StrLaws.sliceText_nat (sx s) h (by rw [dC];omega),iS]
  show (⟨_⟩:Str)=⟨_⟩
  congr 2
  show ((sx s).cps.toList.drop _).take _=_
  have:(sx s).cps.toList=s:=rfl
  rw [this,hd]
  by_cases h2:HT.sIx s.length 0 lo<=s.length
  ·rw [Nat.min_eq_left h2]
   by_cases h3:HT.sIx s.length s.length hi<=s.length
   ·rw [Nat.min_eq_left h3]
   ·rw [Nat.min_eq_right (by omega),List.take_of_length_le (by rw [List.length_drop];omega),List.take_of_length_le (by rw [List.length_drop];omega)]
  ·rw [List.drop_of_length_le (by omega)]
   simp
 ·have e0:cut s lo hi=[]:=by
   rw [iS]
   have:HT.sIx s.length s.length hi - HT.sIx s.length 0 lo=0:=by omega
   rw [this,List.take_zero]
  rw [e0]
  unfold PySem.StrLaws.sliceText
  have e2:Builtin.Str.strSliceIndices (some ((min (HT.sIx s.length 0 lo) s.length:Nat):Int)) (some ((min (HT.sIx s.length s.length hi) s.length:Nat):Int)) 1 (sx s).length=[]:=by
   have e1:∀ k:Nat,¬ ((k:Int) < 0):=fun k=>by omega
   unfold Builtin.Str.strSliceIndices sliceRange
   simp only [show (1:Int) > 0 by decide,if_true,e1,if_false,dC]
   rw [if_neg (by omega)]
   rfl
  rw [e2]
  have:¬ ((1:Int) == 1 && ([]:List Nat).length == (sx s).length)=true:=by
   rw [dC]
   simp
   omega
  rw [if_neg this]
  rfl
noncomputable def CQ:V->Option Int->Option Int->Hp->VK->Prop:=fun x lo hi H Q=>∃ z,x=.str z/\z.length<=sizeLine/\Q (.str (PySem.StrLaws.sliceText z lo hi)) H
theorem part_of {v:Value} {o:Option Int} (h:IsPart v o):∃ q:Option (Int×Tok),v=partValue q/\o=q.map (·.1):=by
 cases h with
 | none=>exact ⟨none,rfl,rfl⟩
 | int i t=>exact ⟨some (i,t),rfl,rfl⟩
theorem mD {α β:Type} (f:α->Option β) (l:List α):(l.filterMap f).length<=l.length:=List.length_filterMap_le f l
theorem yh (lo hi:Option Int) (n:Nat):(Builtin.Str.strSliceIndices lo hi 1 n).length<=n:=by
 rw [u0]
 by_cases h:min (HT.sIx n 0 lo) n<=min (HT.sIx n n hi) n
 ·rw [PySem.StrLaws.strSliceIndices_plain h (by omega),Zk,List.length_range]
  omega
 ·have e1:∀ k:Nat,¬ ((k:Int) < 0):=fun k=>by omega
  unfold Builtin.Str.strSliceIndices sliceRange
  simp only [show (1:Int) > 0 by decide,if_true,e1,if_false]
  rw [if_neg (by omega)]
  simp
theorem BV:SlR X CQ:=by
 intro pins s σ H x v vl vu lo hi sl Q I rx hs pl pu h
 obtain ⟨z,rfl,hz,q⟩:=h
 obtain ⟨t,rfl⟩:=rx
 obtain ⟨l,rfl,rfl⟩:=part_of pl
 obtain ⟨u,rfl,rfl⟩:=part_of pu
 refine ⟨"str",_,F.slot_str_getitem.lookup,typeIs_str s z t,wpAny_getItem_str_slice (l:=l) (u:=u) (st:=none) hs rfl ?_⟩
 unfold sliceMade
 split
 ·rename_i hc
  refine ⟨.str z,H,I,⟨t,rfl⟩,?_⟩
  have e:PySem.StrLaws.sliceText z (l.map (·.1)) (u.map (·.1))=z:=by
   unfold PySem.StrLaws.sliceText
   exact if_pos hc
  rw [e] at q
  exact q
 ·rename_i hc
  refine ⟨Nat.le_trans ?_ hz,.str _,H,I.tok _,⟨_,rfl⟩,?_⟩
  ·show (List.filterMap _ _).toArray.size<=_
   rw [List.size_toArray]
   exact Nat.le_trans (mD _ _) (yh _ _ _)
  ·have e:PySem.StrLaws.sliceText z (l.map (·.1)) (u.map (·.1))=⟨((slicePicked z l u none).filterMap (z.cps[·]?)).toArray⟩:=by
    unfold PySem.StrLaws.sliceText
    exact if_neg hc
   rw [e] at q
   exact q
noncomputable def rSl (K:PySem.W.Frag):V->Option Int->Option Int->Hp->VK->Prop:=fun x lo hi H Q=>CQ x lo hi H Q\/Cd K x lo hi H Q
theorem Ei:SlR X (rSl X.K):=BV.or xH
theorem yf {α:Type} (l:List α) (lo hi:Option Int):(cut l lo hi).length<=l.length:=by
 rw [iS,List.length_take,List.length_drop]
 lia
theorem RpL.cut {H:Hp} {vs:List V} {ts:List T} {Fs:List (List Addr)} (r:RpL G H vs ts Fs) (lo hi:Option Int):RpL G H (tU vs lo hi) (VS.cut ts lo hi) (VS.cut Fs lo hi):=by
 have h:=r.len
 rw [iS,iS,h.2]
 unfold tU
 rw [h.1]
 exact (r.drop _).take _
theorem qD {α:Type} (l:List α) (lo hi:Option Int):(VS.cut l lo hi).Sublist l:=by
 rw [iS]
 exact (List.take_sublist _ _).trans (List.drop_sublist _ _)
theorem v8 {F G:List (List Addr)} (h:F.Sublist G):F.flatten.Sublist G.flatten:=by
 induction h with
 | slnil=>exact List.Sublist.refl _
 | cons a _ ih=>rw [Ze];exact ih.trans (List.sublist_append_right _ _)
 | cons_cons a _ ih=>rw [Ze,Ze];exact (List.Sublist.refl _).append ih
theorem uK {lo hi:Option Expr} {cl ch:Option Ex} {p2:Pos} (ha:PV G X a ca) (hl:PVO G X lo cl) (hh:PVO G X hi ch) (hK:X.K=G.K:=by rfl):PV G X (.Subscript a (.Slice lo hi none p2) pos) (eSl ca cl ch) :=
 PE.weak (vC Ei ha hl hh) fun σ H Q ⟨Φ,η,m,t,s,e,k⟩=>by
  unfold eSl at e
  obtain ⟨⟨mx,x⟩,ea,e'⟩:=Zx.mp e
  obtain ⟨l,el,e''⟩:=Zx.mp e'
  obtain ⟨h,eh,e4⟩:=Zx.mp e''
  clear e e' e''
  refine ⟨Φ,η,mx,x,s,ea,fun v H1 F e1 r1 f1=>⟨Φ,η,l,s.same e1,el,fun H2 e2=>⟨Φ,η,h,(s.same e1).same e2,eh,fun H3 e3=>?_⟩⟩⟩
  have e03:aL H H3:=(e1.trans e2).trans e3
  have r3:=(r1.same e2).same e3
  unfold oSl at e4
  split at e4
  ·rename_i m' z q
   cases q
   cases e4
   obtain ⟨rfl,hl⟩:=r3.str_inv
   refine .inl ⟨_,rfl,by rw [dC,← fi];exact hl.1,?_⟩
   rw [kT]
   exact k _ H3 _ e03 (.str _ ⟨Nat.le_trans (yf _ _ _) hl.1,fun c hc=>hl.2 c ((qD _ _ _).subset hc)⟩) Fp.nil
  ·rename_i m' z q
   cases q
   obtain ⟨a',vs,Fs,rfl,rfl,ha',ra⟩:=r3.lst_inv
   refine .inr ⟨a',vs,rfl,by rw [hK];exact SqL.of ha',fR e03 e4 (ra.cut l h) ((f1.sub (List.sublist_cons_self _ _)).sub (v8 (qD _ _ _))) fun v H4 F e5 r4 f4=>k v H4 F (e03.trans e5) r4 f4⟩
  ·cases e4
noncomputable def tyS:Ty->String
 | .int => "int"
 | .str => "str"
 | .bool => "bool"
 | .list => "list"
 | .tuple => "tuple"
 | .dict => "dict"
noncomputable def rIs (K:PySem.W.Frag):List V->Hp->VK->Prop:=fun vs H Q=>∃ x c t b,vs=[x,.ty c]/\TyOf K H x t/\PySem.W.kitOne K t (.type c)=some b/\Q (.bl b) H
theorem wO:dq X (.builtin "isinstance") (rIs X.K):=by
 intro pins s σ H xs us Q I r h
 obtain ⟨x,c,t,b,rfl,ty,e,q⟩:=h
 obtain ⟨u,w',rfl,r1,r2⟩:=vals2 r
 cases r2
 exact rM I r1 ty e fun tk=>⟨.bl b,H,I.tok _,rfl,q⟩
theorem yT (K:PySem.W.Frag) (ty:Ty):(PySem.W.kitOne K (.type "NoneType") (.type (tyS ty))=some false)/\(PySem.W.kitOne K (.type "bool") (.type (tyS ty))=some (nR ty (.bl true)))/\(PySem.W.kitOne K (.type "int") (.type (tyS ty))=some (nR ty (.int 0))) ∧
  (PySem.W.kitOne K (.type "str") (.type (tyS ty))=some (nR ty (.str [])))/\(PySem.W.kitOne K (.type "list") (.type (tyS ty))=some (nR ty (.lst [])))/\(PySem.W.kitOne K (.type "tuple") (.type (tyS ty))=some (nR ty (.tup [])))/\(PySem.W.kitOne K (.type "dict") (.type (tyS ty))=some (nR ty (.dct 0 []))):=by
 cases ty <;> refine ⟨?_,?_,?_,?_,?_,?_,?_⟩ <;> kernel_rfl
theorem DH {H:Hp} {v:V} {t:T} {F:List Addr} (ty:Ty) (r:Rp G H v t F) (h:qC t=true):∃ t',TyOf G.K H v t'/\PySem.W.kitOne G.K t' (.type (tyS ty))=some (nR ty t):=by
 obtain ⟨k1,k2,k3,k4,k5,k6,k7⟩:=yT G.K ty
 cases r with
 | non=>exact ⟨_,.non,by rw [k1];cases ty <;> rfl⟩
 | bl b=>exact ⟨_,.bl b,by rw [k2];cases ty <;> rfl⟩
 | int i=>exact ⟨_,.int i,by rw [k3];cases ty <;> rfl⟩
 | str s _=>exact ⟨_,.str _,by rw [k4];cases ty <;> rfl⟩
 | scr _=>cases h
 | tup h' q=>exact ⟨_,.tup h',by rw [k6];cases ty <;> rfl⟩
 | lst h' q=>exact ⟨_,.lst h',by rw [k5];cases ty <;> rfl⟩
 | dct h' l q=>exact ⟨_,.dK h',by rw [k7];cases ty <;> rfl⟩
 | dctT h' l q=>exact ⟨_,.dT h',by rw [k7];cases ty <;> rfl⟩
 | dctN h' l n q=>simp at h
 | obj _ _ _=>cases h
theorem CT (ty:Ty) {x:Str} {p1 p2:Pos} (ha:PV G X a ca) (hg:Gl X "isinstance") (hm:X.mg "isinstance" = none) (hg2:Gl X x) (hm2:X.mg x=none) (hv:bootBuiltins x=some (.type (tyS ty))) (hK:X.K=G.K:=by rfl)
  (hn:x ≠ "__name__" := by decide) (hdb:(x == ("__debug__" : Str))=false:=by decide) (hs:starEach [a,.Name x p2] X.env=(false,eval a X.env) :: starEach [.Name x p2] X.env:=by rfl)
  (hs2:starEach [.Name x p2] X.env=(false,eval (.Name x p2) X.env) :: starEach [] X.env:=by rfl) (hpl:(backTo pos (starEach [Expr.Name x p2] X.env)).any (·.1)=false:=by rfl) :
  PV G X (.Call (.Name "isinstance" p1) [a,.Name x p2] [] pos) (eIs ty ca) :=
 PE.weak (kf wO hg hm boot_isinstance (dU ha (dU (yo (v:=.ty (tyS ty)) hg2 hm2 hv rfl hn hdb) fB hs2) hs) (by decide) rfl hs hpl) fun σ H Q ⟨Φ,η,m,t,s,e,k⟩=>by
  unfold eIs at e
  obtain ⟨⟨mx,y⟩,ea,e'⟩:=Zx.mp e
  split at e'
  ·rename_i hk
   cases e'
   refine ⟨Φ,η,mx,y,s,ea,fun v H' F e1 r1 f1=>?_⟩
   obtain ⟨t',h1,h2⟩:=DH ty r1 hk
   exact ⟨v,tyS ty,t',_,rfl,by rw [hK];exact h1,by rw [hK];exact h2,k _ H' _ e1 (.bl _) Fp.nil⟩
  ·cases e'
end
section
variable {G:Gx} {X:Cx} {a b c e:Expr} {es:List Expr} {ca cb cc:Ex} {cs:Exs} {pos p:Pos}
noncomputable def DL (G:Gx) (r:V->List V->Hp->VK->Prop) (f:Val->List Val->Option Val):Prop:=∀ (Φ:Fps) (η:VS.Env) (H0 H1 H:Hp) (x:Val) (v:V) (F:List Addr) (l:List Val) (vs:List V) (Fs:List (List Addr)) (m:Md) (t:T) (Q:VK),
 aL H0 H1->Rp G H v x.2 F->Fp Φ η H0 x.1 F->Args G Φ η H1 H l vs Fs->f x l=some (m,t)->(∀ v H' F,aL H H'->Rp G H' v t F->Fp Φ η H0 m F->Q v H')->r v vs H Q
theorem Dc {T' id:String} {name:Str} {r:V->List V->Hp->VK->Prop} {f:Val->List Val->Option Val} {apos cpos:Pos} (pa:PlainAttrs T') (slot:Slot T' name id) (hty:typeOf (.builtin id)=pure (.type "method_descriptor")) (hm:MtR X id r) (ok:DL G r f)
  (hT:∀ H v (x:Val) F l z,Rp G H v x.2 F->f x l=some z->tyV G.K T' v H) (ho:PV G X a ca) (ha:PVs G X (e :: es) cs) (hK:X.K=G.K:=by rfl)
  (hbase:attributeBase a name X.env (eval a X.env)=eval a X.env:=by rfl)
  (hfew:((backTo cpos (starEach (e :: es) X.env)).all (fun x=>!x.1) && (backToKw cpos (keywordEach [] X.env)).all (fun x=>x.1.isSome)
   && decide ((e :: es).length+([]:List Keyword).length+(if ([]:List Keyword).isEmpty then 0 else 1) < 30))=true:=by rfl)
  (hline:(apos.endLine == cpos.line)=true:=by rfl) (hs:starEach (e :: es) X.env=(false,eval e X.env) :: starEach es X.env:=by rfl) (hplain:(backTo cpos (starEach es X.env)).any (·.1)=false:=by rfl) :
  PV G X (.Call (.Attribute a name apos) (e :: es) [] cpos) (eM f ca cs) :=
 PE.weak (oi pa slot hty hm ho ha hbase hfew hline hs hplain) fun σ H Q ⟨Φ,η,m,t,s,e,k⟩=>by
  unfold eM at e
  obtain ⟨x,ea,e'⟩:=Zx.mp e
  obtain ⟨l,el,e''⟩:=Zx.mp e'
  refine ⟨Φ,η,x.1,x.2,s,ea,fun v H1 F e1 r1 f1=>⟨by rw [hK];exact hT H1 v x F l _ r1 e'',Φ,η,l,s.same e1,el,fun vs H2 Fs e2 r2 f2=>?_⟩⟩
  exact ok Φ η H H1 H2 x v F l vs Fs m t Q e1 (r1.same e2) f1 ⟨e2,r2,f2⟩ e'' fun v' H3 F' e3 r3 f3=>k v' H3 F' ((e1.trans e2).trans e3) r3 f3
theorem zb:∀ (sep:Tx) (ss:List Tx),Txt.join (sx sep) (ss.map sx)=sx (cN sep ss):=by
 intro sep ss
 have fold:∀ (l:List Tx) (acc:Tx),(l.map sx).foldl (fun acc p=>acc++(sx sep).cps++p.cps) acc.toArray=(l.foldl (fun acc p=>acc++sep++p) acc).toArray:=by
  intro l
  induction l with
  | nil=>intro acc;rfl
  | cons x r ih =>
   intro acc
   rw [List.map_cons,List.foldl_cons,List.foldl_cons,← ih]
   congr 1
   simp [sx]
 have jf:∀ (r:List Tx) (acc:Tx),r.foldl (fun acc p=>acc++sep++p) acc=cN sep (acc :: r):=by
  intro r
  induction r with
  | nil=>intro acc;rfl
  | cons x r ih =>
   intro acc
   rw [List.foldl_cons,ih]
   cases r with
   | nil=>rfl
   | cons y r=>simp [cN]
 cases ss with
 | nil=>rfl
 | cons x r =>
  show (⟨_⟩:Str)=⟨_⟩
  congr 1
  show ((r.map sx).foldl _ x.toArray)=_
  rw [fold,jf]
theorem qV {H:Hp}:∀ {vs:List V} {l:List T} {Fs:List (List Addr)} {ss:List Tx},RpL G H vs l Fs->strs? l=some ss->vs=ss.map fun s=>V.str (sx s)
 | _,_,_,_,.nil,e=>by cases e;rfl
 | _,_,_,_,.cons (t:=t) r q,e=>by
  cases t with
  | str s =>
   simp only [strs?] at e
   obtain ⟨ss',e1,e2⟩:=Zq.mp e
   subst e2
   rw [qV q e1,r.str_inv.1]
   rfl
  | _=>cases e
theorem kG:∀ {ss:List Tx} {us:List Value},aK (ss.map fun s=>V.str (sx s)) us->StrsAre us (ss.map sx)
 | [],_,h=>by cases h;exact .nil
 | s :: ss,_,h=>by
  cases h with
  | cons r q =>
   obtain ⟨t,rfl⟩:=r
   exact .cons _ _ (kG q)
noncomputable def rJoin (K:PySem.W.Frag):V->List V->Hp->VK->Prop:=fun x vs H Q=>∃ sep p ss,x=.str (sx sep)/\vs=[.ref p]/\SqL K H p (ss.map fun s=>V.str (sx s))/\total ss+ss.length * sep.length<=16777216/\Q (.str (sx (cN sep ss))) H
theorem rB:∀ ss:List Tx,((ss.map sx).map (·.length)).sum=total ss
 | []=>rfl
 | s :: r=>by
  rw [List.map_cons,List.map_cons,List.sum_cons,rB r,dC]
  rfl
theorem xm:MtR X "str.join" (rJoin X.K):=by
 intro pins s σ H x xs v us Q I rx rxs h
 obtain ⟨sep,p,ss,rfl,rfl,hq,hl,q⟩:=h
 obtain ⟨t,rfl⟩:=rx
 obtain ⟨u,rfl,ru⟩:=vals1 rxs
 cases ru
 obtain ⟨its,r,pl,hz⟩:=I.list hq
 refine join_list pl.isList (ys:=ss.map sx) (by simpa using kG r) ?_ fun t' k=>⟨.str _,H,I.tok _,⟨_,by rw [zb]⟩,q⟩
 rw [rB,Zk,dC]
 exact hl
theorem jR (sep:Tx):∀ ss:List Tx,(cN sep ss).length<=total ss+ss.length * sep.length
 | []=>by simp [cN,total]
 | [x]=>by simp [cN,total]
 | x :: y :: r=>by
  have:=jR sep (y :: r)
  simp only [cN,total,Zj,List.length_cons] at this ⊢
  have e:(r.length+1+1) * sep.length=(r.length+1) * sep.length+sep.length:=Nat.succ_mul _ _
  lia
theorem j4 (sep:Tx):∀ (ss:List Tx) (c:Nat),c∈cN sep ss->c∈sep\/∃ s∈ss,c∈s
 | [],c,h=>by simp [cN] at h
 | [x],c,h=>.inr ⟨x,Zv,h⟩
 | x :: y :: r,c,h=>by
  simp only [cN,Zh] at h
  rcases h with (h | h) | h
  ·exact .inr ⟨x,Zv,h⟩
  ·exact .inl h
  ·exact (j4 sep (y :: r) c h).imp id fun ⟨s,hs,hc⟩=>⟨s,Zw _ hs,hc⟩
theorem jO {H:Hp}:∀ {vs:List V} {l:List T} {Fs:List (List Addr)} {ss:List Tx},RpL G H vs l Fs->strs? l=some ss->∀ s∈ss,∀ c∈s,c < 1114112
 | _,_,_,_,.nil,e,s,hs=>by cases e;simp at hs
 | _,_,_,_,.cons (t:=t) r q,e,s,hs=>by
  cases t with
  | str x =>
   simp only [strs?] at e
   obtain ⟨ss',e1,e2⟩:=Zq.mp e
   subst e2
   rcases Zg.mp hs with rfl | hs
   ·exact r.str_inv.2.2
   ·exact jO q e1 s hs
  | _=>cases e
theorem zw:DL G (rJoin G.K) gr:=by
 intro Φ η H0 H1 H x v F l vs Fs m t Q s01 r f A e k
 unfold gr at e
 split at e
 ·rename_i mx sep ml l'
  obtain ⟨ss,es',e'⟩:=Zx.mp e
  split at e'
  ·rename_i hl
   cases e'
   obtain ⟨w',F',rfl,rfl,rl⟩:=(show RpL G H vs [.lst l'] Fs from A.rp).one
   obtain ⟨a',ws,Gs,rfl,rfl,ha,ra⟩:=rl.lst_inv
   rw [qV ra es'] at ha
   refine ⟨sep,a',ss,r.str_inv.1,rfl,SqL.of ha,hl,bx k (.str _ ⟨Nat.le_trans (jR sep ss) hl,fun c hc=>(j4 sep ss c hc).elim (r.str_inv.2.2 c) fun ⟨s',hs',hc'⟩=>jO ra es' s' hs' c hc'⟩)⟩
  ·cases e'
 ·cases e
theorem v7 {H:Hp} {v:V} {t:T} {F:List Addr} (r:Rp G H v t F) (h:∃ s,t=.str s):tyV G.K "str" v H:=by
 obtain ⟨s,rfl⟩:=h
 rw [r.str_inv.1]
 rfl
theorem yL {apos cpos:Pos} (ho:PV G X a ca) (ha:PVs G X [e] cs) (hK:X.K=G.K:=by rfl)
  (hbase:attributeBase a "join" X.env (eval a X.env)=eval a X.env:=by rfl)
  (hfew:((backTo cpos (starEach [e] X.env)).all (fun x=>!x.1) && (backToKw cpos (keywordEach [] X.env)).all (fun x=>x.1.isSome)
   && decide ([e].length+([]:List Keyword).length+(if ([]:List Keyword).isEmpty then 0 else 1) < 30))=true:=by rfl)
  (hline:(apos.endLine == cpos.line)=true:=by rfl) (hs:starEach [e] X.env=(false,eval e X.env) :: starEach [] X.env:=by rfl) (hplain:(backTo cpos (starEach [] X.env)).any (·.1)=false:=by rfl) :
  PV G X (.Call (.Attribute a "join" apos) [e] [] cpos) (eM gr ca cs) :=
 Dc PySem.F.plainAttrs_str PySem.F.slot_str_join PySem.F.type_str_join (hK ▸ xm) zw (fun H v x F l z r e=>v7 r (by
  unfold gr at e
  split at e
  ·exact ⟨_,rfl⟩
  ·cases e)) ho ha hK hbase hfew hline hs hplain
end
end VS
end
section
namespace VS
@[simp] noncomputable def oIx (x y:Val):Option Val:=match x.2 with
 | .dct 0 l=>if eO y.2 then (bT l y.2).map (sub x.1) else none
 | _=>aU x y
@[simp] noncomputable def flat:T->Bool
 | .non=>true
 | .bl _=>true
 | .int _=>true
 | .str _=>true
 | _=>false
@[simp] noncomputable def mM (x y:Val):Option Val:=match y.2 with
 | .dct 0 l=>if eO x.2 then some (.fr,.bl (bT l x.2).isSome) else none
 | .lst l=>if flat x.2 && l.all flat then some (.fr,.bl (l.any fun y=>eqT y x.2)) else none
 | .tup l=>if flat x.2 && l.all flat then some (.fr,.bl (l.any fun y=>eqT y x.2)) else none
 | _=>none
@[simp] noncomputable def cS (x y:Val):Option Val:=match mM x y with
 | some (_,.bl b)=>some (.fr,.bl (!b))
 | _=>none
noncomputable def pm {α:Type} (f:T->Option (T×α)):List Ky->T->Option (T×α)
 | [],t=>f t
 | .fld k :: r,.obj c fs=>(fs.findIdx? fun p=>p.1 == k).bind fun i=>(fs[i]?).bind fun p=>(pm f r p.2).map fun z=>(.obj c (fs.set i (p.1,z.1)),z.2)
 | .at (.int i) :: r,.lst l=>(ixP l.length i).bind fun j=>(l[j]?).bind fun x=>(pm f r x).map fun z=>(.lst (l.set j z.1),z.2)
 | .at k :: r,.dct 0 l=>if eO k then (l.findIdx? fun p=>eqT p.1 k).bind fun i=>(l[i]?).bind fun p=>(pm f r p.2).map fun z=>(.dct 0 (l.set i (p.1,z.1)),z.2) else none
 | _,_=>none
end VS
end
section
namespace VS
open PySem PySem.Spec PyProof.Rows L2
section
variable {G:Gx} {X:Cx} {a b c e:Expr} {es:List Expr} {ca cb cc:Ex} {cs:Exs} {pos p:Pos}
mutual
noncomputable def toP:T->PyData
 | .non=>.none
 | .bl b=>.bool b
 | .int i=>.int i
 | .str s=>.str (sx s)
 | .tup l=>.tuple (ku l)
 | .lst l=>.list (ku l)
 | _=>.none
noncomputable def ku:List T->List PyData
 | []=>[]
 | t :: r=>toP t :: ku r
end
theorem Cr {s:Tx} (h:gG s):PyData.strOk (sx s)=true:=by
 unfold PyData.strOk sx
 simp only [Array.all_eq_true,decide_eq_true_eq]
 intro i hi
 have:s.toArray[i]∈s:=by simp
 have:=h.2 _ this
 simpa using this
theorem uD {s t:Tx}:(sx s == sx t)=(s == t):=by
 rw [Bool.eq_iff_iff,beq_iff_eq,beq_iff_eq]
 constructor
 ·intro h
  have:(sx s).cps=(sx t).cps:=by rw [h]
  simpa [sx] using this
 ·intro h
  rw [h]
mutual
theorem mL:∀ (n k:Nat) (t u:T),eqD n t=true->eqD k u=true->PyData.eqv (toP t) (toP u)=eqT t u
 | n,k,t,u,h1,h2=>by
  cases t with
  | scr _=>cases n <;> simp at h1
  | dct _ _=>cases n <;> simp at h1
  | obj _ _=>cases n <;> simp at h1
  | tup l =>
   cases n with
   | zero=>simp at h1
   | succ n =>
    cases u with
    | tup r =>
     cases k with
     | zero=>simp at h2
     | succ k =>
      simp only [toP,PyData.eqv,eqT]
      exact j1 n k l r (by simpa using h1) (by simpa using h2)
    | scr _=>cases k <;> simp at h2
    | dct _ _=>cases k <;> simp at h2
    | obj _ _=>cases k <;> simp at h2
    | _=>simp [toP,PyData.eqv,eqT]
  | lst l =>
   cases n with
   | zero=>simp at h1
   | succ n =>
    cases u with
    | lst r =>
     cases k with
     | zero=>simp at h2
     | succ k =>
      simp only [toP,PyData.eqv,eqT]
      exact j1 n k l r (by simpa using h1) (by simpa using h2)
    | scr _=>cases k <;> simp at h2
    | dct _ _=>cases k <;> simp at h2
    | obj _ _=>cases k <;> simp at h2
    | _=>simp [toP,PyData.eqv,eqT]
  | str s =>
   cases u with
   | str r=>simp only [toP,PyData.eqv,eqT];exact uD
   | scr _=>cases k <;> simp at h2
   | dct _ _=>cases k <;> simp at h2
   | obj _ _=>cases k <;> simp at h2
   | _=>simp [toP,PyData.eqv,eqT]
  | _ =>
   cases u with
   | scr _=>cases k <;> simp at h2
   | dct _ _=>cases k <;> simp at h2
   | obj _ _=>cases k <;> simp at h2
   | _=>simp [toP,PyData.eqv,eqT]
theorem j1:∀ (n k:Nat) (l r:List T),(∀ t∈l,eqD n t=true)->(∀ t∈r,eqD k t=true)->PyData.eqvAll (ku l) (ku r)=kS l r
 | _,_,[],[],_,_=>rfl
 | _,_,[],_ :: _,_,_=>rfl
 | _,_,_ :: _,[],_,_=>rfl
 | n,k,t :: l,u :: r,h1,h2=>by
  simp only [ku,PyData.eqvAll,kS]
  rw [mL n k t u (h1 t Zv) (h2 u Zv),j1 n k l r (fun x hx=>h1 x (Zw _ hx)) fun x hx=>h2 x (Zw _ hx)]
end
theorem Rp.tup_inv5 {H:Hp} {v:V} {ts:List T} {F:List Addr} (r:Rp G H v (.tup ts) F):∃ b vs Fs,v=.ref b/\H b=some (.tup vs)/\RpL G H vs ts Fs:=by
 cases r with
 | tup h q=>exact ⟨_,_,_,rfl,h,q⟩
theorem Rp.lst_inv5 {H:Hp} {v:V} {ts:List T} {F:List Addr} (r:Rp G H v (.lst ts) F):∃ b vs Fs,v=.ref b/\H b=some (.lst vs)/\RpL G H vs ts Fs:=by
 cases r with
 | lst h q=>exact ⟨_,_,_,rfl,h,q⟩
theorem i3 {H:Hp} {s:Shared} {n:Nat} (rd:∀ {v:V} {t:T} {F:List Addr} {u:Value},Rp G H v t F->RelV v u->eqD n t=true->∃ as,Reads s.heap u (toP t) as/\(toP t).canLay0=true/\(toP t).depth<=n):∀ {vs:List V} {ts:List T} {Fs:List (List Addr)} {us:List Value},RpL G H vs ts Fs->aK vs us->(∀ t∈ts,eqD n t=true) →
  ∃ as,ReadsAll s.heap us (ku ts) as/\PyData.canLayAll0 (ku ts)=true/\PyData.depthAll (ku ts)<=n
 | _,_,_,_,.nil,r,_=>by cases r;exact ⟨_,.nil,rfl,Nat.zero_le _⟩
 | _,_,_,_,.cons p q,r,h=>by
  cases r with
  | cons r1 r2 =>
   obtain ⟨as,h1,h2,h3⟩:=rd p r1 (h _ Zv)
   obtain ⟨bs,g1,g2,g3⟩:=i3 rd q r2 fun t ht=>h t (Zw _ ht)
   exact ⟨_,.cons h1 g1,by simp only [ku,PyData.canLayAll0,h2,g2,Bool.and_self],by simp only [ku,PyData.depthAll];lia⟩
theorem jK {h:Heap} {H:Hp} {v:V} {t:T} {F:List Addr} {u:Value} {n:Nat} (r:Rp G H v t F) (ru:RelV v u) (hf:flat t=true):∃ as,Reads h u (toP t) as/\(toP t).canLay0=true/\(toP t).depth<=n:=by
 cases r with
 | non=>cases ru;exact ⟨_,.none,rfl,Nat.zero_le _⟩
 | bl b=>cases ru;exact ⟨_,.bool b,rfl,Nat.zero_le _⟩
 | int i=>obtain ⟨t,rfl⟩:=ru;exact ⟨_,.int i t,rfl,Nat.zero_le _⟩
 | str s h=>obtain ⟨t,rfl⟩:=ru;exact ⟨_,.str _ t,Cr h,Nat.zero_le _⟩
 | _=>cases hf
theorem iz {H:Hp} {pins:List (Addr×Obj)} {σ:L2.St} {s:Shared} (I:Inv X pins σ H s) (n:Nat):∀ {v:V} {t:T} {F:List Addr} {u:Value},Rp G H v t F->RelV v u->eqD n t=true->∃ as,Reads s.heap u (toP t) as/\(toP t).canLay0=true/\(toP t).depth<=n:=by
 induction n with
 | zero =>
  intro v t F u r ru h
  refine jK r ru ?_
  cases t <;> first | rfl | exact h
 | succ n ih =>
  intro v t F u r ru h
  cases t with
  | tup l =>
   obtain ⟨b,vs,Fs,rfl,e,q⟩:=Rp.tup_inv5 r
   cases ru
   obtain ⟨its,rv,tp,hz⟩:=I.tuple (SqT.of e)
   obtain ⟨as,h1,h2,h3⟩:=i3 ih q rv (by simpa using h)
   obtain ⟨o,ho,hc,n',hd⟩:=tp
   exact ⟨_,.tuple ho hc hd (by simpa using h1),h2,by simp only [toP,PyData.depth];lia⟩
  | lst l =>
   obtain ⟨b,vs,Fs,rfl,e,q⟩:=Rp.lst_inv5 r
   cases ru
   obtain ⟨its,rv,pl,hz⟩:=I.list (SqL.of e)
   obtain ⟨as,h1,h2,h3⟩:=i3 ih q rv (by simpa using h)
   obtain ⟨o,ho,hc,n',hd⟩:=pl.isList
   exact ⟨_,.list ho hc hd (by simpa using h1),h2,by simp only [toP,PyData.depth];lia⟩
  | scr _=>simp at h
  | dct _ _=>simp at h
  | obj _ _=>simp at h
  | _=>exact jK r ru rfl
noncomputable def xf (G:Gx) (neg:Bool):R2:=fun x y H Q=>∃ t u F F',Rp G H x t F/\Rp G H y u F'/\eqD 60 t=true/\eqD 60 u=true/\Q (.bl (if neg then !eqT t u else eqT t u)) H
theorem g9 {d:PyData} (h:d.canLay0=true) (h2:d.depth<=60):SeqAt.shaped d=true:=by
 unfold SeqAt.shaped
 rw [h,Bool.true_and]
 exact decide_eq_true (by lia)
theorem vb (hu:X.A.units+64 < cLine):OpR X (compareOp .Eq) (xf G false):=by
 intro pins s σ H x y v u Q I rx ry h
 obtain ⟨t,w,F,F',r1,r2,h1,h2,q⟩:=h
 obtain ⟨as,a1,a2,a3⟩:=iz I 60 r1 rx h1
 obtain ⟨bs,b1,b2,b3⟩:=iz I 60 r2 ry h2
 refine eq_dataH a1 b1 (g9 a2 a3) (g9 b2 b3) hu ⟨.bl _,H,I,rfl,?_⟩
 rw [mL 60 60 t w h1 h2]
 exact q
theorem Aw (hu:X.A.units+64 < cLine):OpR X (compareOp .NotEq) (xf G true):=by
 intro pins s σ H x y v u Q I rx ry h
 obtain ⟨t,w,F,F',r1,r2,h1,h2,q⟩:=h
 obtain ⟨as,a1,a2,a3⟩:=iz I 60 r1 rx h1
 obtain ⟨bs,b1,b2,b3⟩:=iz I 60 r2 ry h2
 refine ne_dataH a1 b1 (g9 a2 a3) (g9 b2 b3) hu ⟨.bl _,H,I,rfl,?_⟩
 rw [mL 60 60 t w h1 h2]
 exact q
theorem zN:gy G (xf G false) oEq:=by
 intro Φ η H0 H x y u w F1 F2 m t Q tw e k
 unfold oEq at e
 split at e
 ·rename_i h
  cases e
  exact ⟨_,_,_,_,tw.r1,tw.r2,h.1,h.2,bx k (.bl _)⟩
 ·cases e
theorem CO:gy G (xf G true) oNe:=by
 intro Φ η H0 H x y u w F1 F2 m t Q tw e k
 unfold oNe at e
 split at e
 ·rename_i h
  cases e
  exact ⟨_,_,_,_,tw.r1,tw.r2,h.1,h.2,bx k (.bl _)⟩
 ·cases e
theorem tells_eq:Tells oEq:=by
 intro x y m t e
 unfold oEq at e
 split at e <;> first | (cases e;exact ⟨_,rfl⟩) | cases e
theorem wB:Tells oNe:=by
 intro x y m t e
 unfold oNe at e
 split at e <;> first | (cases e;exact ⟨_,rfl⟩) | cases e
end
structure Frm (Φ:Fps) (η:VS.Env) (H:Hp) (Φ':Fps) (η':VS.Env) (H':Hp):Prop where
 keep:∀ a o,H a=some o->¬ bM Φ η a->H' a=some o/\¬ bM Φ' η' a
 dom:∀ a,H a ≠ none->H' a ≠ none
 ow:∀ a,bM Φ' η' a->bM Φ η a\/H a=none
 pu:∀ a,cY Φ' η' a->cY Φ η a\/bM Φ η a\/H a=none
 kept:Kept H H'
theorem Frm.refl (Φ:Fps) (η:VS.Env) (H:Hp):Frm Φ η H Φ η H:=⟨fun a o h n=>⟨h,n⟩,fun _ h=>h,fun _ h=>.inl h,fun _ h=>.inl h,Kept.refl H⟩
theorem Frm.none {Φ Φ':Fps} {η η':VS.Env} {H H':Hp} (f:Frm Φ η H Φ' η' H') {a:Addr} (h:H' a=none):H a=none:=by
 cases e:H a with
 | none=>rfl
 | some o=>exact absurd h (f.dom a (by rw [e];exact fun z=>nomatch z))
theorem Frm.trans {Φ Φ1 Φ2:Fps} {η η1 η2:VS.Env} {H H1 H2:Hp} (f:Frm Φ η H Φ1 η1 H1) (g:Frm Φ1 η1 H1 Φ2 η2 H2):Frm Φ η H Φ2 η2 H2 where
 keep:=fun a o h n=>let ⟨h1,n1⟩:=f.keep a o h n;g.keep a o h1 n1
 dom:=fun a h=>g.dom a (f.dom a h)
 ow:=fun a h=>by
  rcases g.ow a h with h | h
  ·exact f.ow a h
  ·exact .inr (f.none h)
 pu:=fun a h=>by
  rcases g.pu a h with h | h | h
  ·exact f.pu a h
  ·rcases f.ow a h with h | h
   ·exact .inr (.inl h)
   ·exact .inr (.inr h)
  ·exact .inr (.inr (f.none h))
 kept:=f.kept.trans g.kept
theorem Frm.same {Φ:Fps} {η:VS.Env} {H H':Hp} (e:aL H H'):Frm Φ η H Φ η H' :=
 ⟨fun a o h n=>⟨e a o h,n⟩,fun a h z=>h (e.free z),fun _ h=>.inl h,fun _ h=>.inl h,Kept.of e⟩
noncomputable def nP (Φ:Fps) (η:VS.Env) (H:Hp):Md->List Addr->Prop
 | .fr,F=>F.Nodup/\∀ a∈F,H a=none\/bM Φ η a
 | _,F=>∀ a∈F,H a=none\/cY Φ η a\/bM Φ η a
theorem nP.back {Φ Φ1:Fps} {η η1:VS.Env} {H H1:Hp} (f:Frm Φ η H Φ1 η1 H1) {F:List Addr}:∀ {m:Md},nP Φ1 η1 H1 m F->nP Φ η H m F
 | .fr,h=>⟨h.1,fun a ha=>(h.2 a ha).elim (fun z=>.inl (f.none z)) fun z=>(f.ow a z).elim .inr .inl⟩
 | .pu,h=>fun a ha=>by
  rcases h a ha with z | z | z
  ·exact .inl (f.none z)
  ·rcases f.pu a z with z | z | z
   ·exact .inr (.inl z)
   ·exact .inr (.inr z)
   ·exact .inl z
  ·exact (f.ow a z).elim (fun z=>.inr (.inr z)) .inl
 | .bo,h=>fun a ha=>by
  rcases h a ha with z | z | z
  ·exact .inl (f.none z)
  ·rcases f.pu a z with z | z | z
   ·exact .inr (.inl z)
   ·exact .inr (.inr z)
   ·exact .inl z
  ·exact (f.ow a z).elim (fun z=>.inr (.inr z)) .inl
noncomputable def Nx (G:Gx) (Φ:Fps) (η:VS.Env) (H:Hp) (η':VS.Env) (k:L2.St->Hp->Prop):Prop:=∀ Φ' σ' H',SR G Φ' η' σ' H'->Frm Φ η H Φ' η' H'->k σ' H'
noncomputable def qo (G:Gx) (Φ:Fps) (η:VS.Env) (H:Hp) (D:Ends):Out->Prop
 | .nx η'=>Nx G Φ η H η' D.nx
 | .bk η'=>Nx G Φ η H η' D.bk
 | .ct η'=>Nx G Φ η H η' D.ct
 | .rt v η'=>∀ u H' F Φ' σ',SR G Φ' η' σ' H'->Frm Φ η H Φ' η' H'->Rp G H' u v.2 F->nP Φ η H v.1 F->D.rt u H'
noncomputable def tS (G:Gx) (c:Sx):TS:=fun D σ H=>∃ Φ η o,SR G Φ η σ H/\c η=some o/\qo G Φ η H D o
noncomputable def PSV (G:Gx) (X:Cx) (st:Stmt) (c:Sx):Prop:=PS X st (tS G c)
noncomputable def eV (G:Gx) (X:Cx) (st:List Stmt) (c:Sx):Prop:=PSs X st (tS G c)
theorem PS.weak {X:Cx} {e:Stmt} {t t':TS} (h:PS X e t) (w:∀ D σ H,t' D σ H->t D σ H):PS X e t':=fun pins s σ H D I q=>h pins s σ H D I (w D σ H q)
theorem PSs.weak {X:Cx} {e:List Stmt} {t t':TS} (h:PSs X e t) (w:∀ D σ H,t' D σ H->t D σ H):PSs X e t':=fun pins s σ H D I q=>h pins s σ H D I (w D σ H q)
theorem qo.back {G:Gx} {Φ Φ1:Fps} {η η1:VS.Env} {H H1:Hp} {D:Ends} (f:Frm Φ η H Φ1 η1 H1):∀ {o:Out},qo G Φ η H D o->qo G Φ1 η1 H1 D o
 | .nx η',h=>fun Φ' σ' H' s g=>h Φ' σ' H' s (f.trans g)
 | .bk η',h=>fun Φ' σ' H' s g=>h Φ' σ' H' s (f.trans g)
 | .ct η',h=>fun Φ' σ' H' s g=>h Φ' σ' H' s (f.trans g)
 | .rt v η',h=>fun u H' F Φ' σ' s g r q=>h u H' F Φ' σ' s (f.trans g) r (q.back f)
section
variable {G:Gx} {X:Cx} {st:Stmt} {sts:List Stmt} {c c1 c2:Sx} {pos:Pos} {e:Expr} {ce:Ex}
theorem yd:eV G X [] gu:=PSs.weak wQ fun D σ H ⟨Φ,η,o,s,e,k⟩=>by
 cases (show some (Out.nx η)=some o from e)
 exact k Φ σ H s (Frm.refl _ _ _)
theorem wu (h1:PSV G X st c1) (h2:eV G X sts c2):eV G X (st :: sts) (ar c1 c2):=PSs.weak (vB h1 h2) fun D σ H ⟨Φ,η,o,s,e,k⟩=>by
 unfold ar at e
 obtain ⟨o1,e1,e2⟩:=Zx.mp e
 refine ⟨Φ,η,o1,s,e1,?_⟩
 cases o1 with
 | nx η1=>exact fun Φ' σ' H' s' f=>⟨Φ',η1,o,s',e2,k.back f⟩
 | rt v η1=>cases e2;exact k
 | bk η1=>cases e2;exact k
 | ct η1=>cases e2;exact k
theorem yu (h1:PSV G X st c1):eV G X [st] c1:=xM h1
theorem AQ {t:Expr} {ct:Ex} {a b:List Stmt} (hc:PVT G X t ct) (ha:eV G X a c1) (hb:eV G X b c2):PSV G X (.If t a b pos) (sIf ct c1 c2):=PS.weak (Cu hc ha hb) fun D σ H ⟨Φ,η,o,s,e,k⟩=>by
 unfold sIf at e
 obtain ⟨⟨m,x⟩,ec,e1⟩:=Zx.mp e
 obtain ⟨b',eb,e2⟩:=Zx.mp e1
 refine ⟨Φ,η,m,x,b',s,ec,eb,fun H' e3=>?_⟩
 cases b' with
 | true =>
  rw [if_pos rfl] at e2
  exact za ⟨Φ,η,o,s.same e3,e2,k.back (Frm.same e3)⟩
 | false =>
  rw [if_neg Zp] at e2
  exact wV ⟨Φ,η,o,s.same e3,e2,k.back (Frm.same e3)⟩
theorem Fp.ret {Φ:Fps} {η:VS.Env} {H:Hp} {F:List Addr}:∀ {m:Md},Fp Φ η H m F->nP Φ η H (match m with | .bo=>.pu | m=>m) F
 | .fr,f=>⟨f.1,fun a ha=>.inl (f.2 a ha)⟩
 | .pu,f=>fun a ha=>(f a ha).elim .inl fun z=>.inr (.inl z)
 | .bo,f=>f
theorem zF (he:PV G X e ce):PSV G X (.Return (some e) pos) (d9 ce):=PS.weak (p0 he) fun D σ H ⟨Φ,η,o,s,e,k⟩=>by
 unfold d9 at e
 obtain ⟨⟨m,x⟩,ec,e1⟩:=Zx.mp e
 cases e1
 exact ⟨Φ,η,m,x,s,ec,fun v H' F e1 r1 f1=>k v H' F Φ σ (s.same e1) (Frm.same e1) r1 f1.ret⟩
theorem bR {η:VS.Env} {i j:Nat} {c:Cell} (h:(η.set i none)[j]?=some (some c)):j ≠ i/\η[j]?=some (some c):=by
 rw [List.getElem?_set] at h
 split at h
 ·split at h <;> cases h
 ·rename_i n
  exact ⟨fun z=>n z.symm,h⟩
theorem SR.drop {Φ:Fps} {η:VS.Env} {σ:L2.St} {H:Hp} (s:SR G Φ η σ H) (i:Nat):SR G Φ (η.set i none) σ H :=
 ⟨by rw [List.length_set];exact s.len,fun j c h=>s.rp j c (bR h).2,fun j t h=>s.nd j t (bR h).2,fun j k t c h1 h2 n=>s.sep j k t c (bR h1).2 (bR h2).2 n⟩
theorem Frm.drop {Φ:Fps} {η:VS.Env} {H:Hp} (i:Nat):Frm Φ η H Φ (η.set i Option.none) H :=
 ⟨fun a o h n=>⟨h,fun ⟨j,t,h1,h2⟩=>n ⟨j,t,(bR h1).2,h2⟩⟩,fun _ h=>h,fun a ⟨j,t,h1,h2⟩=>.inl ⟨j,t,(bR h1).2,h2⟩,fun a ⟨j,t,h1,h2⟩=>.inl ⟨j,t,(bR h1).2,h2⟩,Kept.refl H⟩
theorem wq (i:Nat) {x:Str} {p:Pos} (hN:X.N[i]?=some x:=by rfl) (hv:Vis X.env.scope x:=by first | exact Or.inl rfl | exact Or.inr (Or.inl rfl) | exact Or.inr (Or.inr rfl)) (hd:(x == ("__debug__" : Str))=false:=by decide)
  (hcd:(x == ("__classdict__" : Str))=false:=by decide):PSV G X (.Return (some (.Name x p)) pos) (gM i):=PS.weak (p0 (fu hN hv hd hcd)) fun D σ H ⟨Φ,η,o,s,e,k⟩=>by
 unfold gM at e
 split at e
 ·rename_i t h
  obtain ⟨v,h1,h2⟩:=s.rp _ _ h
  cases e
  exact ⟨v,h1,k v H (Φ i) Φ σ (s.drop i) (Frm.drop i) h2 ⟨s.nd i t h,fun a ha=>.inr ⟨i,t,h,ha⟩⟩⟩
 ·rename_i t h
  obtain ⟨v,h1,h2⟩:=s.rp _ _ h
  cases e
  refine ⟨v,h1,k v H (Φ i) Φ σ s (Frm.refl _ _ _) h2 ?_⟩
  have f:Fp Φ η H .pu (Φ i):=fun a ha=>.inr ⟨i,t,h,ha⟩
  have f2:=(f.up h2).ret
  have:(match (VS.up .pu (jd (.pu t))).1 with | .bo=>Md.pu | m=>m)=(VS.up .pu t).1:=by
   show (match (VS.up .pu t).1 with | .bo=>Md.pu | m=>m)=_
   unfold VS.up
   split <;> (rename_i q;revert q;split <;> simp)
  rw [this] at f2
  exact f2
 ·cases e
noncomputable def hJ (Φ:Fps) (i:Nat) (F:List Addr):Fps:=fun j=>if j=i then F else Φ j
theorem eX {Φ:Fps} {i:Nat} {F:List Addr}:hJ Φ i F i=F:=if_pos rfl
theorem ff {Φ:Fps} {i j:Nat} {F:List Addr} (h:j ≠ i):hJ Φ i F j=Φ j:=if_neg h
theorem gp {η:VS.Env} {i j:Nat} {c c':Cell} (h:(η.set i (some c))[j]?=some (some c')):(j=i/\c'=c)\/(j ≠ i/\η[j]?=some (some c')):=by
 rw [List.getElem?_set] at h
 split at h
 ·rename_i e
  split at h
  ·exact .inl ⟨e.symm,(Option.some.inj (Option.some.inj h)).symm⟩
  ·cases h
 ·rename_i n
  exact .inr ⟨fun z=>n z.symm,h⟩
theorem SR.put {Φ:Fps} {η:VS.Env} {σ:L2.St} {H H':Hp} {i:Nat} {v:V} {c:Cell} {F:List Addr} (s:SR G Φ η σ H) (hi:i < η.length) (r:Rp G H' v (jd c) F)
  (hk:∀ j c',j ≠ i->η[j]?=some (some c')->∀ w,Rp G H w (jd c') (Φ j)->Rp G H' w (jd c') (Φ j))
  (hnd:∀ t,c=.ow t->F.Nodup) (hown:∀ t,c=.ow t->∀ j c',j ≠ i->η[j]?=some (some c')->∀ a∈F,a ∉ Φ j) (hpu:∀ j t,j ≠ i->η[j]?=some (some (.ow t))->∀ a∈Φ j,a ∉ F) :
  SR G (hJ Φ i F) (η.set i (some c)) (σ.set i (some v)) H' where
 len:=by rw [List.length_set,List.length_set];exact s.len
 rp:=fun j c' h=>by
  rcases gp h with ⟨rfl,rfl⟩ | ⟨n,h⟩
  ·exact ⟨v,by rw [List.getElem?_set_self (by rw [← s.len];exact hi)],by rw [eX];exact r⟩
  ·obtain ⟨w,h1,h2⟩:=s.rp j c' h
   exact ⟨w,by rw [List.getElem?_set_ne (Ne.symm n)];exact h1,by rw [ff n];exact hk j c' n h w h2⟩
 nd:=fun j t h=>by
  rcases gp h with ⟨rfl,e⟩ | ⟨n,h⟩
  ·rw [eX];exact hnd t e.symm
  ·rw [ff n];exact s.nd j t h
 sep:=fun j k t c' h1 h2 n=>by
  rcases gp h1 with ⟨rfl,e⟩ | ⟨n1,g1⟩
  ·rcases gp h2 with ⟨rfl,e2⟩ | ⟨n2,g2⟩
   ·exact absurd rfl n
   ·rw [eX,ff n2]
    exact hown t e.symm k c' n2 g2
  ·rcases gp h2 with ⟨rfl,e2⟩ | ⟨n2,g2⟩
   ·rw [eX,ff n1]
    exact hpu j t n1 g1
   ·rw [ff n1,ff n2]
    exact s.sep j k t c' g1 g2 n
theorem ke {Φ:Fps} {η:VS.Env} {i:Nat} {c:Cell} {F:List Addr} {a:Addr} (h:bM (hJ Φ i F) (η.set i (some c)) a):(∃ t,c=.ow t/\a∈F)\/bM Φ η a:=by
 obtain ⟨j,t,h1,h2⟩:=h
 rcases gp h1 with ⟨rfl,e⟩ | ⟨n,h1⟩
 ·rw [eX] at h2;exact .inl ⟨t,e.symm,h2⟩
 ·rw [ff n] at h2;exact .inr ⟨j,t,h1,h2⟩
theorem pG {Φ:Fps} {η:VS.Env} {i:Nat} {c:Cell} {F:List Addr} {a:Addr} (h:cY (hJ Φ i F) (η.set i (some c)) a):(∃ t,c=.pu t/\a∈F)\/cY Φ η a:=by
 obtain ⟨j,t,h1,h2⟩:=h
 rcases gp h1 with ⟨rfl,e⟩ | ⟨n,h1⟩
 ·rw [eX] at h2;exact .inl ⟨t,e.symm,h2⟩
 ·rw [ff n] at h2;exact .inr ⟨j,t,h1,h2⟩
theorem SR.ow_pu {Φ:Fps} {η:VS.Env} {σ:L2.St} {H:Hp} (s:SR G Φ η σ H) {a:Addr} (h:bM Φ η a) (h':cY Φ η a):False:=by
 obtain ⟨j,t,h1,h2⟩:=h
 obtain ⟨k,u,g1,g2⟩:=h'
 have n:j ≠ k:=fun e=>by subst e;rw [h1] at g1;cases g1
 exact s.sep j k t _ h1 g1 n a h2 g2
theorem SR.val {Φ:Fps} {η:VS.Env} {σ:L2.St} {H H':Hp} {i:Nat} {v:V} {t:T} {m:Md} {F:List Addr} {c:Cell} (s:SR G Φ η σ H) (hi:i < η.length) (e:aL H H') (r:Rp G H' v t F) (f:Fp Φ η H m F)
  (hc:(c=.pu t/\m ≠ .bo)\/(c=.ow t/\m=.fr)):SR G (hJ Φ i F) (η.set i (some c)) (σ.set i (some v)) H'/\Frm Φ η H (hJ Φ i F) (η.set i (some c)) H':=by
 have dom:∀ {a},H a=none->∀ j c',η[j]?=some (some c')->a ∉ Φ j:=fun {a} h j c' hj ha=>by
  obtain ⟨w,_,q⟩:=s.rp j c' hj
  exact Mut.ne_none (q.dom a ha) h
 have ct:jd c=t:=by rcases hc with ⟨rfl,_⟩ | ⟨rfl,_⟩ <;> rfl
 have fpu:∀ a∈F,H a=none\/cY Φ η a:=fun a ha=>by
  rcases hc with ⟨_,n⟩ | ⟨_,n⟩
  ·exact f.pu n a ha
  ·rw [n] at f;exact .inl (f.2 a ha)
 constructor
 ·refine s.put hi (by rw [ct];exact r) (fun j c' n hj w q=>q.same e) (fun u hu=>?_) (fun u hu j c' n hj a ha=>?_) fun j u n hj a ha hF=>?_
  ·rcases hc with ⟨h,_⟩ | ⟨_,h⟩
   ·rw [h] at hu;cases hu
   ·rw [h] at f;exact f.1
  ·rcases hc with ⟨h,_⟩ | ⟨_,h⟩
   ·rw [h] at hu;cases hu
   ·rw [h] at f;exact dom (f.2 a ha) j c' hj
  ·rcases fpu a hF with z | z
   ·exact dom z j _ hj ha
   ·exact s.ow_pu ⟨j,u,hj,ha⟩ z
 ·refine ⟨fun a o h n=>⟨e a o h,fun z=>?_⟩,fun a h z=>h (e.free z),fun a h=>?_,fun a h=>?_,Kept.of e⟩
  ·rcases ke z with ⟨u,hu,ha⟩ | z
   ·rcases hc with ⟨h',_⟩ | ⟨_,h'⟩
    ·rw [h'] at hu;cases hu
    ·rw [h'] at f
     rw [f.2 a ha] at h;cases h
   ·exact n z
  ·rcases ke h with ⟨u,hu,ha⟩ | z
   ·rcases hc with ⟨h',_⟩ | ⟨_,h'⟩
    ·rw [h'] at hu;cases hu
    ·rw [h'] at f
     exact .inr (f.2 a ha)
   ·exact .inl z
  ·rcases pG h with ⟨u,hu,ha⟩ | z
   ·exact (fpu a ha).elim (fun z=>.inr (.inr z)) .inl
   ·exact .inl z
theorem zg {i:Nat} {x:Str} {pos':Pos} (he:PV G X e ce) (hN:X.N.Nodup) (hi:X.N[i]?=some x:=by rfl) (hx:Loc X.env.scope x:=by first | exact Or.inl rfl | exact Or.inr rfl)
  (hs:swapsWith e (some (.Name x pos')) pos.line X.env=pure false:=by rfl) (hf:X.fn x=true\/X.env.scope.names.lookup x=some .local:=by first | exact .inl rfl | exact .inr rfl) :
  PSV G X (.Assign [.Name x pos'] e pos) (jm i ce):=PS.weak (vW hN hi hx he hs hf) fun D σ H ⟨Φ,η,o,s,e,k⟩=>by
 unfold jm at e
 obtain ⟨⟨m,t⟩,ec,e1⟩:=Zx.mp e
 obtain ⟨c,eC,e2⟩:=Zx.mp e1
 split at e2
 ·rename_i hl
  cases e2
  refine ⟨Φ,η,m,t,s,ec,fun v H' F e3 r3 f3=>?_⟩
  obtain ⟨q1,q2⟩:=s.val (c:=c) hl e3 r3 f3 (by
   unfold cellOf at eC
   cases m with
   | fr =>
    simp only [Option.some.injEq] at eC
    split at eC
    ·exact .inr ⟨eC.symm,rfl⟩
    ·exact .inl ⟨eC.symm,by decide⟩
   | pu=>cases eC;exact .inl ⟨rfl,by decide⟩
   | bo=>cases eC)
  exact k _ _ H' q1 q2
 ·cases e2
theorem tY {i:Nat} {x:Str} {pos':Pos} (he:PV G X e ce) (hN:X.N.Nodup) (hi:X.N[i]?=some x:=by rfl) (hx:Loc X.env.scope x:=by first | exact Or.inl rfl | exact Or.inr rfl)
  (hs:swapsWith e (some (.Name x pos')) pos.line X.env=pure false:=by rfl) (hf:X.fn x=true\/X.env.scope.names.lookup x=some .local:=by first | exact .inl rfl | exact .inr rfl) :
  PSV G X (.Assign [.Name x pos'] e pos) (aM i ce):=PS.weak (vW hN hi hx he hs hf) fun D σ H ⟨Φ,η,o,s,e,k⟩=>by
 unfold aM at e
 obtain ⟨⟨m,t⟩,ec,e1⟩:=Zx.mp e
 split at e1
 ·cases e1
 ·rename_i hm
  split at e1
  ·rename_i hl
   cases e1
   refine ⟨Φ,η,m,t,s,ec,fun v H' F e3 r3 f3=>?_⟩
   obtain ⟨q1,q2⟩:=s.val (c:=.pu t) hl e3 r3 f3 (.inl ⟨rfl,hm⟩)
   exact k _ _ H' q1 q2
  ·cases e1
theorem SR.frz {Φ:Fps} {η:VS.Env} {σ:L2.St} {H:Hp} {i:Nat} {t:T} (s:SR G Φ η σ H) (h:η[i]?=some (some (.ow t))):SR G Φ (η.set i (some (.pu t))) σ H/\Frm Φ η H Φ (η.set i (some (.pu t))) H:=by
 have back:∀ {j c},(η.set i (some (.pu t)))[j]?=some (some c)->∃ c',η[j]?=some (some c')/\jd c'=jd c/\∀ u,c=.ow u->c'=.ow u:=fun {j c} hj=>by
  rcases gp hj with ⟨rfl,rfl⟩ | ⟨n,hj⟩
  ·exact ⟨.ow t,h,rfl,fun u hu=>nomatch hu⟩
  ·exact ⟨c,hj,rfl,fun u hu=>hu⟩
 refine ⟨⟨by rw [List.length_set];exact s.len,fun j c hj=>?_,fun j u hj=>?_,fun j k u c h1 h2 n=>?_⟩,⟨fun a o ha n=>⟨ha,fun ⟨j,u,h1,h2⟩=>?_⟩,fun _ h=>h,fun a ⟨j,u,h1,h2⟩=>?_,fun a ⟨j,u,h1,h2⟩=>?_,Kept.refl H⟩⟩
 ·obtain ⟨c',h1,h2,_⟩:=back hj
  obtain ⟨v,g1,g2⟩:=s.rp j c' h1
  exact ⟨v,g1,by rw [← h2];exact g2⟩
 ·obtain ⟨c',h1,_,h3⟩:=back hj
  rw [h3 u rfl] at h1
  exact s.nd j u h1
 ·obtain ⟨c1,g1,_,g3⟩:=back h1
  obtain ⟨c2,k1,_,_⟩:=back h2
  rw [g3 u rfl] at g1
  exact s.sep j k u c2 g1 k1 n
 ·obtain ⟨c1,g1,_,g3⟩:=back h1
  rw [g3 u rfl] at g1
  exact n ⟨j,u,g1,h2⟩
 ·obtain ⟨c1,g1,_,g3⟩:=back h1
  rw [g3 u rfl] at g1
  exact .inl ⟨j,u,g1,h2⟩
 ·rcases gp h1 with ⟨rfl,_⟩ | ⟨n,h1⟩
  ·exact .inr (.inl ⟨j,t,h,h2⟩)
  ·exact .inl ⟨j,u,h1,h2⟩
theorem yk (i:Nat) (h:eV G X sts c):eV G X sts (ar (tL i) c):=PSs.weak h fun D σ H ⟨Φ,η,o,s,e,k⟩=>by
 unfold ar at e
 obtain ⟨o1,e1,e2⟩:=Zx.mp e
 unfold tL at e1
 split at e1
 ·rename_i t ht
  cases e1
  obtain ⟨q1,q2⟩:=s.frz ht
  exact ⟨Φ,_,o,q1,e2,k.back q2⟩
 ·cases e1
  exact ⟨Φ,η,o,s,e2,k⟩
 ·cases e1
end
section
variable {G:Gx} {X:Cx} {st:Stmt} {sts:List Stmt} {c c1 c2:Sx} {pos:Pos} {e:Expr} {es:List Expr} {ce:Ex} {cs:Exs}
structure Chg (G:Gx) (H:Hp) (v:V) (F:List Addr) (t':T) (H2:Hp) (F':List Addr):Prop where
 kept:Kept H H2
 keep:∀ b o,b ∉ F->H b=some o->H2 b=some o
 dom:∀ b,H b ≠ none->H2 b ≠ none
 rp:Rp G H2 v t' F'
 nd:F'.Nodup
 sub:∀ a∈F',a∈F\/H a=none
theorem SR.mut {Φ:Fps} {η:VS.Env} {σ:L2.St} {H H2:Hp} {i:Nat} {v:V} {t t':T} {F':List Addr} (s:SR G Φ η σ H) (hi:η[i]?=some (some (.ow t))) (hv:σ[i]?=some (some v)) (g:Chg G H v (Φ i) t' H2 F') :
  SR G (hJ Φ i F') (η.set i (some (.ow t'))) σ H2/\Frm Φ η H (hJ Φ i F') (η.set i (some (.ow t'))) H2:=by
 have hl:i < η.length:=(List.getElem?_eq_some_iff.mp hi).1
 have off:∀ j c',j ≠ i->η[j]?=some (some c')->∀ a∈Φ j,a ∉ Φ i:=fun j c' n hj a ha ha'=>s.sep i j t c' hi hj (Ne.symm n) a ha' ha
 have es:σ.set i (some v)=σ:=by
  obtain ⟨h,e⟩:=List.getElem?_eq_some_iff.mp hv
  rw [← e]
  exact List.set_getElem_self h
 have new:∀ a∈F',∀ j c',j ≠ i->η[j]?=some (some c')->a ∉ Φ j:=fun a ha j c' n hj ha'=>by
  rcases g.sub a ha with z | z
  ·exact off j c' n hj a ha' z
  ·obtain ⟨w,_,q⟩:=s.rp j c' hj
   exact Mut.ne_none (q.dom a ha') z
 constructor
 ·have:=s.put (c:=.ow t') (F:=F') (H':=H2) (v:=v) hl g.rp (fun j c' n hj w q=>q.keep g.kept fun a ha o ho=>g.keep a o (off j c' n hj a ha) ho) (fun _ _=>g.nd) (fun u hu j c' n hj a ha=>new a ha j c' n hj) fun j u n hj a ha ha'=>new a ha' j _ n hj ha
  rw [es] at this
  exact this
 ·refine ⟨fun a o h n=>⟨g.keep a o (fun z=>n ⟨i,t,hi,z⟩) h,fun z=>?_⟩,g.dom,fun a h=>?_,fun a h=>?_,g.kept⟩
  ·rcases ke z with ⟨u,_,ha⟩ | z
   ·rcases g.sub a ha with z | z
    ·exact n ⟨i,t,hi,z⟩
    ·rw [z] at h;cases h
   ·exact n z
  ·rcases ke h with ⟨u,_,ha⟩ | z
   ·rcases g.sub a ha with z | z
    ·exact .inl ⟨i,t,hi,z⟩
    ·exact .inr z
   ·exact .inl z
  ·rcases pG h with ⟨u,hu,ha⟩ | z
   ·cases hu
   ·exact .inl z
noncomputable def zH (G:Gx) (r:V->List V->Hp->VK->Prop) (f:T->List Val->Option (T×Val)):Prop:=∀ (Φ:Fps) (η:VS.Env) (H H1:Hp) (v:V) (t t':T) (F:List Addr) (l:List Val) (vs:List V) (Fs:List (List Addr)) (x:Val) (Q:VK),
 Rp G H v t F->F.Nodup->Args G Φ η H H1 l vs Fs->f t l=some (t',x)->(∀ u H2 F',Chg G H v F t' H2 F'->Q u H2)->r v vs H1 Q
theorem vk {T' id:String} {name x:Str} {r:V->List V->Hp->VK->Prop} {f:T->List Val->Option (T×Val)} {apos cpos p1:Pos} (i:Nat) (pa:PlainAttrs T') (slot:Slot T' name id) (hty:typeOf (.builtin id)=pure (.type "method_descriptor")) (hm:MtR X id r) (ok:zH G r f)
  (hT:∀ H v t F l z,Rp G H v t F->f t l=some z->tyV G.K T' v H) (ha:PVs G X (e :: es) cs) (hK:X.K=G.K:=by rfl)
  (hN:X.N[i]?=some x:=by rfl) (hv:Vis X.env.scope x:=by first | exact Or.inl rfl | exact Or.inr (Or.inl rfl) | exact Or.inr (Or.inr rfl)) (hd:(x == ("__debug__" : Str))=false:=by decide)
  (hcd:(x == ("__classdict__" : Str))=false:=by decide)
  (hbase:attributeBase (.Name x p1) name X.env (eval (.Name x p1) X.env)=eval (.Name x p1) X.env:=by rfl)
  (hfew:((backTo cpos (starEach (e :: es) X.env)).all (fun x=>!x.1) && (backToKw cpos (keywordEach [] X.env)).all (fun x=>x.1.isSome)
   && decide ((e :: es).length+([]:List Keyword).length+(if ([]:List Keyword).isEmpty then 0 else 1) < 30))=true:=by rfl)
  (hline:(apos.endLine == cpos.line)=true:=by rfl) (hs:starEach (e :: es) X.env=(false,eval e X.env) :: starEach es X.env:=by rfl) (hplain:(backTo cpos (starEach es X.env)).any (·.1)=false:=by rfl)
  (hsw:swapsWith (.Call (.Attribute (.Name x p1) name apos) (e :: es) [] cpos) none pos.line X.env=pure false:=by rfl) :
  PSV G X (.Expr (.Call (.Attribute (.Name x p1) name apos) (e :: es) [] cpos) pos) (sX (jI i [] f cs)) :=
 PS.weak (mW (oi pa slot hty hm (fu hN hv hd hcd) ha hbase hfew hline hs hplain) hsw) fun D σ H ⟨Φ,η,o,s,e,k⟩=>by
  unfold sX jI at e
  obtain ⟨⟨x',η'⟩,e1,e2⟩:=Zq.mp e
  split at e1
  ·rename_i t ht
   obtain ⟨ks,ek,e3⟩:=Zx.mp e1
   cases (show some ([]:List Ky)=some ks from ek)
   obtain ⟨l,el,e4⟩:=Zx.mp e3
   obtain ⟨⟨t',x2⟩,e5,e6⟩:=Zq.mp e4
   cases e6
   cases e2
   obtain ⟨v,h1,h2⟩:=s.rp _ _ ht
   have e7:f t l=some (t',x'):=e5
   refine ⟨v,h1,by rw [hK];exact hT H v t _ l _ h2 e7,Φ,η,l,s,el,fun vs H' Fs q1 q2 q3=>?_⟩
   refine ok Φ η H H' v t t' (Φ i) l vs Fs x' _ h2 (s.nd i t ht) ⟨q1,q2,q3⟩ e7 fun u H2 F' g=>?_
   obtain ⟨w1,w2⟩:=s.mut ht h1 g
   exact k _ σ H2 w1 w2
  ·cases e1
theorem Chg.upd {H H1:Hp} {v:V} {F:List Addr} {a:Addr} {o:HO} {t':T} {F':List Addr} (e:aL H H1) (ha:a∈F) (hm:Mut (H1 a)) (r:Rp G (upd H1 a o) v t' F') (nd:F'.Nodup) (sub:∀ a∈F',a∈F\/H a=none):Chg G H v F t' (upd H1 a o) F' :=
 ⟨(Kept.of e).trans (Kept.upd (.inl hm)),fun b o' hb h=>by rw [aw (fun z=>hb (by rw [z];exact ha))];exact e b o' h,
  fun b h z=>by
   by_cases q:b=a
   ·subst q;rw [aF] at z;cases z
   ·rw [aw q] at z;exact h (e.free z),r,nd,sub⟩
theorem RpL.off {H:Hp} {vs:List V} {ts:List T} {Fs:List (List Addr)} {a:Addr} {o:HO} (r:RpL G H vs ts Fs) (hm:Mut (H a)) (h:a ∉ Fs.flatten):RpL G (upd H a o) vs ts Fs :=
 r.keep (Kept.upd (.inl hm)) fun b hb o' ho=>by rw [aw (fun z=>h (by rw [← z];exact hb))];exact ho
theorem zz {v:Val} {t:T} (h:fit v=some t):v=(.fr,t):=by
 obtain ⟨m,x⟩:=v
 unfold fit at h
 cases m <;> first | (cases h;rfl) | cases h
theorem i4:zH G jA aW:=by
 intro Φ η H H1 v t t' F l vs Fs x Q r nd A e k
 unfold aW at e
 split at e
 ·rename_i ts y
  obtain ⟨z,ez,e1⟩:=Zx.mp e
  have ey:=zz ez
  subst ey
  split at e1
  ·rename_i hl
   cases e1
   obtain ⟨a,us,Gs,rfl,rfl,ha,ra⟩:=r.lst_inv
   obtain ⟨w,Fw,rfl,rfl,rw'⟩:=(show RpL G H1 vs [z] Fs from A.rp).one
   have fw:Fp Φ η H .fr Fw:=A.fp.each 0 _ _ rfl rfl
   have ha1:H1 a=some (.lst us):=A.same a _ ha
   have m1:Mut (H1 a):=by rw [ha1];exact True.intro
   have na:a ∉ Gs.flatten:=(List.nodup_cons.mp nd).1
   have nw:a ∉ Fw:=fun z=>by rw [fw.2 a z] at ha;cases ha
   refine ⟨a,us,w,rfl,rfl,ha1,by rw [ra.len.1];exact hl,k _ _ (a :: (Gs++[Fw]).flatten) ?_⟩
   have off:∀ b∈Gs.flatten,b ∉ Fw:=fun b hb hw=>Mut.ne_none (ra.dom b hb) (fw.2 b hw)
   refine Chg.upd A.same Zv m1 (.lst aF (((ra.same A.same).off m1 na).append (.cons (rw'.keep (Kept.upd (.inl m1)) fun b hb o ho=>by rw [aw (fun z=>nw (by rw [← z];exact hb))];exact ho) .nil))) ?_ ?_
   ·rw [List.flatten_append]
    refine List.nodup_cons.mpr ⟨fun m=>?_,List.nodup_append.mpr ⟨(List.nodup_cons.mp nd).2,by simpa using fw.1,fun b hb c hc z=>?_⟩⟩
    ·rcases Zh.mp m with m | m
     ·exact na m
     ·exact nw (by simpa using m)
    ·subst z;exact off b hb (by simpa using hc)
   ·intro b hb
    rcases Zg.mp hb with rfl | hb
    ·exact .inl Zv
    ·rw [List.flatten_append] at hb
     rcases Zh.mp hb with hb | hb
     ·exact .inl (Zw _ hb)
     ·exact .inr (fw.2 b (by simpa using hb))
  ·cases e1
 ·cases e
theorem u4 {H:Hp} {v:V} {ts:List T} {F:List Addr} (r:Rp G H v (.lst ts) F):tyV G.K "list" v H:=by
 obtain ⟨a,us,Gs,rfl,rfl,ha,ra⟩:=r.lst_inv
 exact .inl ⟨rfl,_,SqL.of ha⟩
theorem gE {H:Hp} {v:V} {t:T} {F:List Addr} {l:List Val} {z:T×Val} (r:Rp G H v t F) (h:aW t l=some z):tyV G.K "list" v H:=by
 unfold aW at h
 split at h
 ·exact u4 r
 ·cases h
end
structure ItOk (G:Gx) (J:It) (l:List T) (C:List Addr) (H:Hp):Prop where
 run:∀ H2,Kept H H2->(∀ a∈C,∀ o,H a=some o->H2 a=some o) →
  (∀ (i:Nat) (t:T),l[i]?=some t->J.go i H2/\∀ x H3,J.yld i H2 x H3->aL H2 H3/\∃ F,Rp G H3 x t F/\∀ a∈F,a∈C\/H2 a=none)/\∀ (i:Nat),l.length<=i->J.stop i H2
 dom:∀ a∈C,H a ≠ none
noncomputable def FpC (Φ:Fps) (η:VS.Env) (H:Hp) (m:Md) (C:List Addr):Prop:=∀ a∈C,H a=none\/cY Φ η a\/(m=.bo/\bM Φ η a)
theorem Fp.c {Φ:Fps} {η:VS.Env} {H:Hp} {F:List Addr}:∀ {m:Md},Fp Φ η H m F->FpC Φ η H m F
 | .fr,f=>fun a ha=>.inl (f.2 a ha)
 | .pu,f=>fun a ha=>(f a ha).imp id .inl
 | .bo,f=>fun a ha=>(f a ha).imp id fun z=>z.imp id fun z=>⟨rfl,z⟩
noncomputable def tI (G:Gx) (c:Its):TI:=fun σ H R=>∃ Φ η m l,SR G Φ η σ H/\c η=some (m,l)/\∀ J H' C,aL H H'->ItOk G J l C H'->FpC Φ η H m C->R J H'
noncomputable def PVI (G:Gx) (X:Cx) (tg iter:Expr) (c:Its):Prop:=PI X tg iter (tI G c)
theorem PI.weak {X:Cx} {tg e:Expr} {t t':TI} (h:PI X tg e t) (w:∀ σ H Q,t' σ H Q->t σ H Q):PI X tg e t':=fun pins s σ H Q I q=>h pins s σ H Q I (w σ H Q q)
section
variable {G:Gx} {X:Cx} {tg e a b:Expr} {es:List Expr} {ca cb:Ex} {cs:Exs} {pos p:Pos}
theorem vz (H:Hp) (lo:Int) (n:Nat):ItOk G (Itr lo n) (rng lo n) [] H:=by
 refine ⟨fun H2 _ _=>⟨fun i t h=>?_,fun i h=>(by simpa [rng] using h:n<=i)⟩,fun a h=>by simp at h⟩
 unfold rng at h
 rw [List.getElem?_map] at h
 obtain ⟨k,hk,e⟩:=Zq.mp h
 obtain ⟨hlt,e2⟩:=List.getElem?_eq_some_iff.mp hk
 rw [List.length_range] at hlt
 have ek:i=k:=by simpa using e2
 subst ek
 refine ⟨hlt,fun x H3 ⟨e3,e4⟩=>?_⟩
 subst e3
 subst e4
 rw [← e]
 exact ⟨aL.refl _,[],.int _,fun a h=>by simp at h⟩
theorem pJ (ha:PV G X a ca) (hg:Gl X "range") (hm:X.mg "range" = none) (hs:starEach [a] X.env=(false,eval a X.env) :: starEach [] X.env:=by rfl) (hs':starEach [a] X.env=[(false,eval a X.env)]:=by rfl):PVI G X tg (.Call (.Name "range" p) [a] [] pos) (bK ca) :=
 PI.weak (sV hg hm (dU ha fB hs) hs') fun σ H R ⟨Φ,η,m,l,s,e,k⟩=>by
  unfold bK at e
  obtain ⟨⟨mx,x⟩,ea,e1⟩:=Zx.mp e
  obtain ⟨j,ej,e2⟩:=Zx.mp e1
  split at e2
  ·rename_i hj
   cases e2
   refine ⟨Φ,η,mx,x,s,ea,fun v H' F e3 r3 f3=>?_⟩
   cases x with
   | int j' =>
    cases ej
    refine ⟨j,by rw [r3.int_inv],?_,?_,k _ H' [] e3 (vz H' 0 j.toNat) fun a h=>by simp at h⟩
    ·have:=hj.1;unfold B62 at this;lia
    ·have:=hj.2;unfold B62 at this;lia
   | _=>cases ej
  ·cases e2
theorem eA {Fs:List (List Addr)} {i:Nat} {F:List Addr} (h:Fs[i]?=some F) {a:Addr} (ha:a∈F):a∈Fs.flatten:=(fP h).subset ha
theorem xN {H:Hp} {a:Addr} {vs:List V} {ts:List T} {Fs:List (List Addr)} (K:PySem.W.Frag) (ha:H a=some (.lst vs)) (r:RpL G H vs ts Fs):ItOk G (Itl K a) ts (a :: Fs.flatten) H:=by
 refine ⟨fun H2 k c=>?_,fun b hb=>?_⟩
 ·have ha2:H2 a=some (.lst vs):=c a Zv _ ha
  have r2:RpL G H2 vs ts Fs:=r.keep k fun b hb o ho=>c b (Zw _ hb) o ho
  refine ⟨fun i t h=>?_,fun i h=>⟨vs,SqL.of ha2,by rw [r.len.1];exact h⟩⟩
  obtain ⟨v,F,h1,h2,h3⟩:=r2.get i h
  refine ⟨⟨vs,v,SqL.of ha2,h1⟩,fun x H3 ⟨e1,e2⟩=>?_⟩
  subst e1
  have ex:=e2 vs (SqL.of ha2)
  rw [h1] at ex
  cases ex
  exact ⟨aL.refl _,F,h3,fun b hb=>.inl (Zw _ (eA h2 hb))⟩
 ·rcases Zg.mp hb with rfl | hb
  ·rw [ha];exact fun z=>nomatch z
  ·exact Mut.ne_none (r.dom b hb)
theorem Bd {H:Hp} {a:Addr} {vs:List V} {ts:List T} {Fs:List (List Addr)} (K:PySem.W.Frag) (ha:H a=some (.tup vs)) (r:RpL G H vs ts Fs):ItOk G (Itt K a) ts Fs.flatten H:=by
 refine ⟨fun H2 k c=>?_,fun b hb=>Mut.ne_none (r.dom b hb)⟩
 have ha2:H2 a=some (.tup vs):=k.tup a _ ha
 have r2:RpL G H2 vs ts Fs:=r.keep k fun b hb o ho=>c b hb o ho
 refine ⟨fun i t h=>?_,fun i h=>⟨vs,SqT.of ha2,by rw [r.len.1];exact h⟩⟩
 obtain ⟨v,F,h1,h2,h3⟩:=r2.get i h
 refine ⟨⟨vs,v,SqT.of ha2,h1⟩,fun x H3 ⟨e1,e2⟩=>?_⟩
 subst e1
 have ex:=e2 vs (SqT.of ha2)
 rw [h1] at ex
 cases ex
 exact ⟨aL.refl _,F,h3,fun b hb=>.inl (eA h2 hb)⟩
noncomputable def tG (G:Gx) (g:Tg):TG:=fun v σ H Q=>∃ Φ η t F η',SR G Φ η σ H/\Rp G H v t F/\(∀ a∈F,¬ bM Φ η a)/\g t η=some η' ∧
 ∀ Φ' σ',SR G Φ' η' σ' H->(∀ a,bM Φ' η' a->bM Φ η a)->(∀ a,cY Φ' η' a->cY Φ η a\/a∈F)->Q σ' H
noncomputable def tGs (G:Gx) (gs:List Tg):TGs:=fun vs σ H Q=>∃ Φ η ts Fs η',SR G Φ η σ H/\RpL G H vs ts Fs/\(∀ a∈Fs.flatten,¬ bM Φ η a)/\pH gs ts η=some η' ∧
 ∀ Φ' σ',SR G Φ' η' σ' H->(∀ a,bM Φ' η' a->bM Φ η a)->(∀ a,cY Φ' η' a->cY Φ η a\/a∈Fs.flatten)->Q σ' H
noncomputable def PVG (G:Gx) (X:Cx) (e:Expr) (g:Tg):Prop:=PG X e (tG G g)
noncomputable def n9 (G:Gx) (X:Cx) (e:List Expr) (g:List Tg):Prop:=PGs X e (tGs G g)
theorem PG.weak {X:Cx} {e:Expr} {t t':TG} (h:PG X e t) (w:∀ v σ H Q,t' v σ H Q->t v σ H Q):PG X e t':=fun pins s σ H v u Q I r q=>h pins s σ H v u Q I r (w v σ H Q q)
theorem PGs.weak {X:Cx} {e:List Expr} {t t':TGs} (h:PGs X e t) (w:∀ v σ H Q,t' v σ H Q->t v σ H Q):PGs X e t':=fun pins s σ H v u Q I r q=>h pins s σ H v u Q I r (w v σ H Q q)
theorem uz (i:Nat) {x:Str} (hN:X.N.Nodup) (hi:X.N[i]?=some x:=by rfl) (hx:Loc X.env.scope x:=by first | exact Or.inl rfl | exact Or.inr rfl)
  (hf:X.fn x=true\/X.env.scope.names.lookup x=some .local:=by first | exact .inl rfl | exact .inr rfl):PVG G X (.Name x pos) (bh i):=PG.weak (rh hN hi hx hf) fun v σ H Q ⟨Φ,η,t,F,η',s,r,no,e,k⟩=>by
 unfold bh at e
 split at e
 ·rename_i hl
  cases e
  refine k (hJ Φ i F) (σ.set i (some v)) (s.put (c:=.pu t) hl r (fun j c' n hj w q=>q) (fun u hu=>nomatch hu) (fun u hu=>nomatch hu) fun j u n hj a ha ha'=>no a ha' ⟨j,u,hj,ha⟩) (fun a h=>?_) fun a h=>?_
  ·rcases ke h with ⟨u,hu,_⟩ | z
   ·cases hu
   ·exact z
  ·rcases pG h with ⟨u,hu,ha⟩ | z
   ·exact .inr ha
   ·exact .inl z
 ·cases e
theorem uq:n9 G X [] []:=PGs.weak yY fun v σ H Q ⟨Φ,η,ts,Fs,η',s,r,no,e,k⟩=>by
 cases r with
 | nil =>
  cases (show some η=some η' from e)
  exact ⟨rfl,k Φ σ s (fun _ h=>h) fun _ h=>.inl h⟩
 | cons r q=>cases (show (none:Option VS.Env)=some η' from e)
theorem sW {g:Tg} {gs:List Tg} (h1:PVG G X e g) (h2:n9 G X es gs) (hs:(assignEach (e :: es) X.env).map (·.2)=assign e X.env :: (assignEach es X.env).map (·.2):=by rfl):n9 G X (e :: es) (g :: gs) :=
 PGs.weak (uh h1 h2 hs) fun v σ H Q ⟨Φ,η,ts,Fs,η',s,r,no,e,k⟩=>by
  cases r with
  | nil=>cases (show (none:Option VS.Env)=some η' from e)
  | cons r q =>
   rename_i v' t' F' vs' ts' Fs'
   obtain ⟨η1,e1,e2⟩:=Zx.mp e
   refine ⟨_,_,rfl,Φ,η,_,_,η1,s,r,fun a ha=>no a (by rw [Ze];exact List.mem_append_left _ ha),e1,fun Φ1 σ1 s1 o1 p1=>?_⟩
   refine ⟨Φ1,η1,_,_,η',s1,q,fun a ha z=>no a (by rw [Ze];exact List.mem_append_right _ ha) (o1 a z),e2,fun Φ2 σ2 s2 o2 p2=>k Φ2 σ2 s2 (fun a h=>o1 a (o2 a h)) fun a h=>?_⟩
   rcases p2 a h with h | h
   ·rcases p1 a h with h | h
    ·exact .inl h
    ·exact .inr (by rw [Ze];exact List.mem_append_left _ h)
   ·exact .inr (by rw [Ze];exact List.mem_append_right _ h)
theorem nh:∀ {gs:List Tg} {ts:List T} {η η':VS.Env},pH gs ts η=some η'->ts.length=gs.length
 | [],[],_,_,_=>rfl
 | [],_ :: _,_,_,h=>by simp [pH] at h
 | _ :: _,[],_,_,h=>by simp [pH] at h
 | g :: gs,t :: ts,η,η',h=>by
  obtain ⟨η1,_,e2⟩:=Zx.mp (show (g t η).bind (fun η'=>pH gs ts η')=some η' from h)
  simp [nh e2]
theorem wU {gs:List Tg} {k:Nat} (hc:X.calm=true) (h:n9 G X es gs) (hn:(assignEach es X.env).length=gs.length:=by rfl) (hst:(assignEach es X.env).findIdx? (·.1)=none:=by rfl) (hK:X.K=G.K:=by rfl):PVG G X (.Tuple es k pos) (kH gs) :=
 PG.weak (Bt (n:=gs.length) hc h hn hst) fun v σ H Q ⟨Φ,η,t,F,η',s,r,no,e,q⟩=>by
  unfold kH at e
  split at e
  ·rename_i l
   obtain ⟨a',vs,Fs,rfl,rfl,ha',ra⟩:=r.tup_inv
   exact ⟨a',vs,rfl,SqT.of ha',by rw [ra.len.1];exact nh e,Φ,η,l,Fs,η',s,ra,no,e,q⟩
  ·cases e
theorem lT {tgt:Tg} {body:Sx} {l:List T} {η:VS.Env} {i:Nat} {t:T} (h:l[i]?=some t):l.drop i=t :: l.drop (i+1):=by
 obtain ⟨hi,e⟩:=List.getElem?_eq_some_iff.mp h
 rw [← e]
 exact List.drop_eq_getElem_cons hi
theorem zB {iter:Expr} {body:List Stmt} {ci:Its} {g:Tg} {cb:Sx} (hp:PassesOwn (model X.prog X.w) X.A X.env X.xe) (hc:X.calm=true) (hi:PVI G X tg iter ci) (hg:PVG G X tg g) (hb:eV G X body cb)
  (hs:∀ x,foldedSetIterable iter X.env x=pure x:=by intro _;rfl):PSV G X (.For tg iter body [] pos) (du g ci cb):=PS.weak (AG hp hc hi hg hb hs) fun D σ H ⟨Φ,η,o,s,e,k⟩=>by
 unfold du at e
 obtain ⟨⟨m,l⟩,el,e1⟩:=Zx.mp e
 dsimp only at e1
 split at e1
 ·rename_i hm
  have hm':m ≠ .bo:=fun z=>by rw [z] at hm;cases hm
  refine ⟨Φ,η,m,l,s,el,fun J H' C e2 ok fc=>?_⟩
  have cno:∀ a∈C,¬ bM Φ η a:=fun a ha z=>by
   rcases fc a ha with q | q | q
   ·exact Mut.ne_none (s.ow_dom z) q
   ·exact s.ow_pu z q
   ·exact hm' q.1
  refine ⟨fun i n σ2 H2=>n=l.length - i/\∃ Φ2 η2,SR G Φ2 η2 σ2 H2/\Frm Φ η H Φ2 η2 H2/\Kept H' H2/\(∀ a∈C,∀ o,H' a=some o->H2 a=some o/\¬ bM Φ2 η2 a)/\forL g cb (l.drop i) η2=some o,
   ⟨l.length - 0,rfl,Φ,η,s.same e2,Frm.same e2,Kept.refl _,fun a ha o' ho=>⟨ho,cno a ha⟩,by rw [List.drop_zero];exact e1⟩,?_⟩
  rintro i n σ2 H2 ⟨rfl,Φ2,η2,s2,f2,kp,con,e3⟩
  obtain ⟨go,stop⟩:=ok.run H2 kp fun a ha o' ho=>(con a ha o' ho).1
  cases hit:l[i]? with
  | none =>
   have hl:l.length<=i:=List.getElem?_eq_none_iff.mp hit
   left
   rw [List.drop_of_length_le hl] at e3
   cases (show some (Out.nx η2)=some o from e3)
   exact ⟨stop i hl,k Φ2 σ2 H2 s2 f2⟩
  | some t =>
   have hl:i < l.length:=(List.getElem?_eq_some_iff.mp hit).1
   right
   obtain ⟨g1,y1⟩:=go i t hit
   rw [lT (tgt:=g) (body:=cb) (η:=η2) hit] at e3
   obtain ⟨η3,e4,e5⟩:=Zx.mp (show (g t η2).bind (fun η1=>(cb η1).bind fun o=>match o with
    | .nx η2=>forL g cb (l.drop (i+1)) η2
    | .ct η2=>forL g cb (l.drop (i+1)) η2
    | .bk η2=>some (.nx η2)
    | .rt v η2=>some (.rt v η2))=some o from e3)
   obtain ⟨o',e6,e7⟩:=Zx.mp e5
   refine ⟨g1,fun σ4 H4=>∃ Φ4 η4,SR G Φ4 η4 σ4 H4/\Frm Φ η H Φ4 η4 H4/\Kept H' H4/\(∀ a∈C,∀ o,H' a=some o->H4 a=some o/\¬ bM Φ4 η4 a)/\forL g cb (l.drop (i+1)) η4=some o,fun σ4 H4 ⟨Φ4,η4,q⟩=>⟨l.length - (i+1),by omega,rfl,Φ4,η4,q⟩,fun x H3 yl=>?_⟩
   obtain ⟨e8,F,rF,hF⟩:=y1 x H3 yl
   have s3:=s2.same e8
   have noF:∀ a∈F,¬ bM Φ2 η2 a:=fun a ha z=>by
    rcases hF a ha with q | q
    ·have hne:=ok.dom a q
     cases ho:H' a with
     | none=>exact hne ho
     | some o''=>exact (con a q o'' ho).2 z
    ·exact Mut.ne_none (s2.ow_dom z) q
   refine ⟨Φ2,η2,t,F,η3,s3,rF,noF,e4,fun Φ3 σ3 s4 o3 p3=>?_⟩
   have f3:Frm Φ η H Φ3 η3 H3:=⟨fun a o' h n=>let ⟨h1,n1⟩:=f2.keep a o' h n;⟨e8 a o' h1,fun z=>n1 (o3 a z)⟩,fun a h z=>f2.dom a h (e8.free z),fun a h=>f2.ow a (o3 a h),fun a h=>by
    rcases p3 a h with h | h
    ·exact f2.pu a h
    ·rcases hF a h with q | q
     ·rcases fc a q with q | q | q
      ·exact .inr (.inr q)
      ·exact .inl q
      ·exact .inr (.inl q.2)
     ·exact .inr (.inr (f2.none q)),f2.kept.trans (Kept.of e8)⟩
   have next:∀ {Φ4 η4 H4},Frm Φ3 η3 H3 Φ4 η4 H4->Kept H' H4/\∀ a∈C,∀ o,H' a=some o->H4 a=some o/\¬ bM Φ4 η4 a:=fun fb =>
    ⟨(kp.trans (Kept.of e8)).trans fb.kept,fun a ha o' ho=>by
     obtain ⟨h1,n1⟩:=con a ha o' ho
     exact fb.keep a o' (e8 a o' h1) fun z=>n1 (o3 a z)⟩
   refine ⟨Φ3,η3,o',s4,e6,?_⟩
   cases o' with
   | nx η4=>exact fun Φ4 σ4 H4 s5 fb=>⟨Φ4,η4,s5,f3.trans fb,(next fb).1,(next fb).2,e7⟩
   | ct η4=>exact fun Φ4 σ4 H4 s5 fb=>⟨Φ4,η4,s5,f3.trans fb,(next fb).1,(next fb).2,e7⟩
   | bk η4 =>
    cases (show some (Out.nx η4)=some o from e7)
    exact fun Φ4 σ4 H4 s5 fb=>k Φ4 σ4 H4 s5 (f3.trans fb)
   | rt v η4 =>
    cases (show some (Out.rt v η4)=some o from e7)
    exact fun u H4 F4 Φ4 σ4 s5 fb r5 q5=>k u H4 F4 Φ4 σ4 s5 (f3.trans fb) r5 (q5.back f3)
 ·cases e1
end
noncomputable def Ej (H:Hp) (Fs:List (List Addr)):Md->List Addr->Prop
 | .fr,F=>F.Nodup/\∀ a∈F,H a=none
 | _,F=>∀ a∈F,H a=none\/a∈Fs.flatten
noncomputable def spF (G:Gx) (g:Fn):Sp:=fun vs H Q _=>∃ ts Fs m r,RpL G H vs ts Fs/\g ts=some (m,r)/\∀ v H' F,aL H H'->Rp G H' v r F->Ej H Fs m F->Q v H'
section
variable {G:Gx} {X:Cx} {k:Nat} {f:Addr} {fd:FuncData} {ps:List Str} {x:Str} {p pos:Pos} {e:Expr} {es:List Expr} {cs:Exs} {g:Fn}
theorem call_of {σ:L2.St} {H:Hp} {Q:VK} {E:XK} (h:tE G (aT g cs) σ H Q):zJ (spF G g) [] E (tEs G cs) σ H Q:=by
 obtain ⟨Φ,η,m,t,s,e,kk⟩:=h
 unfold aT at e
 obtain ⟨l,el,e1⟩:=Zx.mp e
 obtain ⟨⟨n,r⟩,er,e2⟩:=Zx.mp e1
 refine ⟨Φ,η,l,s,el,fun vs H1 Fs q1 q2 q3=>?_⟩
 have A:Args G Φ η H H1 l vs Fs:=⟨q1,q2,q3⟩
 have jn:=q3.join A.len
 show spF G g (vs++[]) H1 Q E
 rw [List.append_nil]
 refine ⟨trees l,Fs,n,r,q2,er,fun v H' F q4 q5 q6=>?_⟩
 have wide:(∀ a∈F,H1 a=none\/a∈Fs.flatten)->Fp Φ η H ((Md.pu).join (bJ l)) F:=fun h=>by
  cases ej:bJ l with
  | fr =>
   rw [ej] at jn
   exact fun a ha=>.inl ((h a ha).elim q1.free (jn.2 a))
  | pu =>
   rw [ej] at jn
   exact fun a ha=>(h a ha).elim (fun z=>.inl (q1.free z)) (jn a)
  | bo =>
   rw [ej] at jn
   exact fun a ha=>(h a ha).elim (fun z=>.inl (q1.free z)) (jn a)
 cases n with
 | fr =>
  cases e2
  exact kk v H' F (q1.trans q4) q5 ⟨q6.1,fun a ha=>q1.free (q6.2 a ha)⟩
 | pu =>
  cases e2
  exact kk v H' F (q1.trans q4) q5 (wide q6)
 | bo =>
  cases e2
  exact kk v H' F (q1.trans q4) q5 (wide q6)
theorem xV (F:FnOk X.prog X.w X.K X.mg X.base CX0 k f fd ps (spF G g)) (hr:Room k X.A) (hg:Gl X x) (hm:X.mg x=some (.ref f)) (hk:PySem.W.keepIn X.K (.ref f)=true) (hb:Binds X.K fd ps [])
  (ha:PVs G X (e :: es) cs) (hdb:(x == ("__debug__" : Str))=false:=by decide) (he:starEach (e :: es) X.env=(false,eval e X.env) :: starEach es X.env:=by rfl) (hpl:(backTo pos (starEach es X.env)).any (·.1)=false:=by rfl) :
  PV G X (.Call (.Name x p) (e :: es) [] pos) (aT g cs) :=
 PE.weak (yP F hr hg hm hk hb .nil Cp ha hdb he hpl) fun σ H Q h=>call_of h
theorem uB {H:Hp} {vs:List V} {ts:List T} {Fs:List (List Addr)} (r:RpL G H vs ts Fs) (n nv:Nat) (hv:nv=vs.length):SR G (fun i=>Fs.getD i []) (ts.map (fun t=>some (.pu t))++List.replicate (n - ts.length) none) (vs.map some++List.replicate (n - nv) none) H:=by
 subst hv
 have hl:=r.len
 have back:∀ {i:Nat} {c:Cell},(ts.map (fun t=>some (Cell.pu t))++List.replicate (n - ts.length) none)[i]?=some (some c)->∃ t,ts[i]?=some t/\c=.pu t:=fun {i c} h=>by
  by_cases hi:i < ts.length
  ·rw [List.getElem?_append_left (by rw [Zk];exact hi),List.getElem?_map] at h
   obtain ⟨t,h1,h2⟩:=Zq.mp h
   exact ⟨t,h1,(Option.some.inj h2).symm⟩
  ·rw [List.getElem?_append_right (by rw [Zk];lia),List.getElem?_replicate] at h
   split at h <;> cases h
 refine ⟨by simp;lia,fun i c h=>?_,fun i t h=>?_,fun i j t c h=>?_⟩
 ·obtain ⟨t,h1,rfl⟩:=back h
  obtain ⟨v,F,g1,g2,g3⟩:=r.get i h1
  refine ⟨v,?_,?_⟩
  ·have:i < vs.length:=(List.getElem?_eq_some_iff.mp g1).1
   rw [List.getElem?_append_left (by rw [Zk];exact this),List.getElem?_map,g1]
   rfl
  ·show Rp G H v t (Fs.getD i [])
   rw [List.getD_eq_getElem?_getD,g2]
   exact g3
 ·obtain ⟨t',_,h2⟩:=back h
  cases h2
 ·obtain ⟨t',_,h2⟩:=back h
  cases h2
theorem gH {ts:List T} {n:Nat} {Φ:Fps} {a:Addr}:¬ bM Φ (ts.map (fun t=>some (Cell.pu t))++List.replicate n none) a:=by
 rintro ⟨i,t,h,_⟩
 by_cases hi:i < ts.length
 ·rw [List.getElem?_append_left (by rw [Zk];exact hi),List.getElem?_map] at h
  obtain ⟨t',_,h2⟩:=Zq.mp h
  cases h2
 ·rw [List.getElem?_append_right (by rw [Zk];lia),List.getElem?_replicate] at h
  split at h <;> cases h
theorem pe {H:Hp} {vs:List V} {ts:List T} {Fs:List (List Addr)} {n:Nat} {a:Addr} (h:cY (fun i=>Fs.getD i []) (ts.map (fun t=>some (Cell.pu t))++List.replicate n none) a):a∈Fs.flatten:=by
 obtain ⟨i,t,_,h2⟩:=h
 simp only [List.getD_eq_getElem?_getD] at h2
 cases e:Fs[i]? with
 | none=>rw [e] at h2;simp at h2
 | some F=>rw [e] at h2;exact eA e h2
end
section
variable {G:Gx} {P:Program} {w:World} {K:PySem.W.Frag} {mg:Str->Option Value} {base:Heap}
theorem fnV {x qual:Str} {st:Stmt} {f:Addr} {fd:FuncData} {N ps:List Str} {k np nn:Nat} {c:Sx} (F:Fun K x qual st f fd) (S:FnScope N ps (ao st)) (hp:ps.length=np) (hn:N.length=nn)
  (hb:∀ (cdv:Value) (A:Around) (outer:List PySem.Env) (s:Shared) (H:Hp) (E:XK),Room k (A.deeper (envOfC qual (ao st) s.heap.objs.size f cdv))->eV G (kP CX0 P w K mg base N qual (ao st) f cdv A outer s H E).nox (aR st) c) :
  FnOk P w K mg base CX0 (k+1) f fd ps (spF G (fn np nn c)):=by
 refine F.ok S (fun vs H Q E h=>?_) fun cdv A outer s H vs Q E hr h=>⟨_,hb cdv A outer s H E hr,?_⟩
 ·obtain ⟨ts,Fs,m,r,h1,h2,_⟩:=h
  unfold fn at h2
  split at h2
  ·rename_i hl
   rw [h1.len.1,hl,hp]
  ·cases h2
 ·obtain ⟨ts,Fs,m,r,h1,h2,q⟩:=h
  unfold fn at h2
  split at h2
  ·rename_i hl
   obtain ⟨o,e1,e2⟩:=Zx.mp h2
   have s0:=uB h1 nn vs.length rfl
   rw [hl] at s0
   have e3:L2.start N vs=vs.map some++List.replicate (nn - vs.length) none:=by
    unfold L2.start
    rw [hn]
   rw [e3]
   refine ⟨_,_,o,s0,e1,?_⟩
   cases o with
   | nx η' =>
    cases e2
    intro Φ' σ' H' s' fr
    exact q .non H' [] (fun a o h=>(fr.keep a o h gH).1) .non ⟨List.nodup_nil,fun a h=>by simp at h⟩
   | rt v η' =>
    cases e2
    intro u H' F' Φ' σ' s' fr r' rf
    refine q u H' F' (fun a o h=>(fr.keep a o h gH).1) r' ?_
    cases m with
    | fr=>exact ⟨rf.1,fun a ha=>(rf.2 a ha).elim id fun z=>absurd z gH⟩
    | pu=>exact fun a ha=>(rf a ha).elim .inl fun z=>z.elim (fun z=>.inr (pe (H:=H) (vs:=vs) z)) fun z=>absurd z gH
    | bo=>exact fun a ha=>(rf a ha).elim .inl fun z=>z.elim (fun z=>.inr (pe (H:=H) (vs:=vs) z)) fun z=>absurd z gH
   | bk η'=>cases e2
   | ct η'=>cases e2
  ·cases h2
end
end VS
end
section
namespace L2
open PySem PySem.Spec PyProof.Rows
theorem iT (env:Env):∀ (l:List (Str×NameKind)) (acc:List (Str×Addr)),(∀ y∈l,y.2=.free->∃ c,env.cells.lookup y.1=some c)->(∀ x c,acc.lookup x=some c->env.cells.lookup x=some c) →
  ∃ cl,(forIn l acc (fun x r=>if (x.snd == NameKind.free)=true then (do let a ← cellOf env x.fst;pure (ForInStep.yield ((x.fst,a) :: r))) else pure (ForInStep.yield r)):Sem (List (Str×Addr)))=pure cl ∧
   (∀ x c,cl.lookup x=some c->env.cells.lookup x=some c)/\(∀ x c,acc.lookup x=some c->∃ c',cl.lookup x=some c')/\∀ y∈l,y.2=.free->∃ c,cl.lookup y.1=some c
 | [],acc,_,ha=>⟨acc,rfl,ha,fun x c h=>⟨c,h⟩,fun y hy=>nomatch hy⟩
 | (n,k) :: l,acc,hf,ha=>by
  by_cases hk:k=.free
  ·subst hk
   obtain ⟨c,hc⟩:=hf (n,.free) Zv rfl
   have ec:cellOf env n=pure c:=by unfold cellOf;dsimp only at hc;rw [hc]
   have ha':∀ x c',((n,c) :: acc).lookup x=some c'->env.cells.lookup x=some c':=fun x c' h=>by
    rw [List.lookup_cons] at h
    split at h
    ·rename_i hx
     have:x=n:=by simpa using hx
     rw [this,← h];exact hc
    ·exact ha x c' h
   obtain ⟨cl,h1,h2,h3,h4⟩:=iT env l ((n,c) :: acc) (fun y hy=>hf y (Zw _ hy)) ha'
   refine ⟨cl,?_,h2,fun x c' h=>?_,fun y hy hyf=>?_⟩
   ·rw [List.forIn_cons]
    dsimp only
    rw [if_pos (show (NameKind.free == NameKind.free)=true from rfl),ec,pure_bind,pure_bind]
    exact h1
   ·by_cases hx:x=n
    ·exact h3 x c (by rw [List.lookup_cons,hx];simp)
    ·refine h3 x c' ?_
     rw [List.lookup_cons]
     have:(x == n)=false:=by simpa using hx
     rw [this];exact h
   ·rcases Zg.mp hy with rfl | hy
    ·exact h3 n c (by rw [List.lookup_cons];simp)
    ·exact h4 y hy hyf
  ·obtain ⟨cl,h1,h2,h3,h4⟩:=iT env l acc (fun y hy=>hf y (Zw _ hy)) ha
   refine ⟨cl,?_,h2,h3,fun y hy hyf=>?_⟩
   ·rw [List.forIn_cons]
    dsimp only
    rw [if_neg (by simpa using hk),pure_bind]
    exact h1
   ·rcases Zg.mp hy with rfl | hy
    ·exact absurd hyf hk
    ·exact h4 y hy hyf
theorem wZ {sc:Scope} {env:Env} (hf:∀ y∈sc.names,y.2=.free->∃ c,env.cells.lookup y.1=some c) :
  ∃ cl,closureFor sc env=pure cl/\(∀ x c,cl.lookup x=some c->env.cells.lookup x=some c)/\∀ y∈sc.names,y.2=.free->∃ c,cl.lookup y.1=some c:=by
 obtain ⟨cl,h1,h2,_,h4⟩:=iT env sc.names [] hf (fun x c h=>nomatch h)
 refine ⟨cl,?_,h2,h4⟩
 simp only [closureFor]
 rw [h1]
 rfl
theorem fh {l:List (Str×NameKind)} {x:Str} {k:NameKind} (h:l.lookup x=some k):(x,k)∈l:=by
 induction l with
 | nil=>cases h
 | cons p l ih =>
  rw [List.lookup_cons] at h
  split at h
  ·rename_i hx
   have e:x=p.1:=by simpa using hx
   cases h
   rw [e];exact Zv
  ·exact Zw _ (ih h)
theorem cH {env:Env} {x:Str} {k:NameKind}:∀ {l:List (Str×NameKind)},(l.map fun (n,k)=>if (k == NameKind.free && env.scope.kind == .function && env.kindOf n == some .cell) then (n,NameKind.cell) else (n,k)).lookup x=some k →
  ∃ k0,l.lookup x=some k0/\(k=k0\/(k0=.free/\k=.cell))
 | [],h=>nomatch h
 | (n,k1) :: l,h=>by
  rw [List.map_cons,List.lookup_cons] at h
  by_cases hc:(k1 == NameKind.free && env.scope.kind == .function && env.kindOf n == some .cell)=true
  ·simp only [hc,if_true] at h
   rw [List.lookup_cons]
   cases hx:x == n with
   | true =>
    rw [hx] at h
    have:k1=.free:=by
     have:=(Bool.and_eq_true_iff.mp (Bool.and_eq_true_iff.mp hc).1).1
     simpa using this
    exact ⟨k1,rfl,.inr ⟨this,(Option.some.inj h).symm⟩⟩
   | false=>rw [hx] at h;exact cH h
  ·simp only [hc,if_false,Bool.false_eq_true] at h
   rw [List.lookup_cons]
   cases hx:x == n with
   | true=>rw [hx] at h;exact ⟨k1,rfl,.inl (Option.some.inj h).symm⟩
   | false=>rw [hx] at h;exact cH h
noncomputable def bQ (X:Cx) (N:List Str) (sc:Scope) (cl:List (Str×Addr)) (C:Addr) (s:Shared) (H:Hp) (fp:List Addr):Cx :=
 { X with N:=N,s₀:=s,H₀:=H,env:=compEnvC sc cl C X.env,outer:=X.stack,ex:=fp,fn:=fun _=>false,pn:=[],xe:=fun _ _=>False }
noncomputable def mJ (env:Env) (sc:Scope):Bool:=sc.kind == .function && sc.names.all fun y=>match y.2 with
 | .cell=>false
 | .local=>sc.names.lookup y.1 == some .local
 | .free=>env.kindOf y.1 == some .cell || env.kindOf y.1 == some .free
 | _=>true
noncomputable def jo (sc:Scope):List Str->List Str->Bool
 | [],[]=>true
 | a :: as,b :: bs=>((a == b && sc.names.lookup a == some .free) || sc.names.lookup a == none || sc.names.lookup a == some .globalImplicit) && jo sc as bs
 | _,_=>false
theorem rg {sc:Scope}:∀ {as bs:List Str},jo sc as bs=true->as.length=bs.length/\∀ (i:Nat) (x:Str),as[i]?=some x->(bs[i]?=some x/\sc.names.lookup x=some .free)\/sc.names.lookup x=none\/sc.names.lookup x=some .globalImplicit
 | [],[],_=>⟨rfl,fun i x h=>by simp at h⟩
 | a :: as,b :: bs,h=>by
  simp only [jo,Bool.and_eq_true] at h
  obtain ⟨h1,h2⟩:=h
  obtain ⟨l,r⟩:=rg h2
  refine ⟨by simp [l],fun i x e=>?_⟩
  cases i with
  | zero =>
   have:a=x:=by simpa using e
   subst this
   simp only [Bool.or_eq_true,Bool.and_eq_true] at h1
   rcases h1 with (⟨z1,z2⟩ | z) | z
   ·exact .inl ⟨by simpa using (by simpa using z1:a=b).symm,by simpa using z2⟩
   ·exact .inr (.inl (by simpa using z))
   ·exact .inr (.inr (by simpa using z))
  | succ i=>simpa using r i x (by simpa using e)
 | [],_ :: _,h=>by simp [jo] at h
 | _ :: _,[],h=>by simp [jo] at h
section
variable {X:Cx} {pins:List (Addr×Obj)} {σ:St} {H:Hp} {s:Shared}
theorem Inv.block {N:List Str} {sc:Scope} {cl:List (Str×Addr)} {C D:Addr} {fp:List Addr} {k:Nat} {h1:Heap} {t:Nat} {m:Str->Option Value} (I:Inv X pins σ H s) (hsc:mJ X.env sc=true) (hnm:jo sc (N.drop k) X.N=true) (hNl:k<=N.length)
  (hc1:∀ x c,cl.lookup x=some c->X.env.cells.lookup x=some c) (hc2:∀ y∈sc.names,y.2=.free->∃ c,cl.lookup y.1=some c) (hfp:∀ b∈fp,ik X pins H b) (hD:s.heap.objs.size<=D) (hC:s.heap.objs.size<=C) (hDC:D ≠ C) (hfC:C ∉ fp)
  (keep:∀ b u,s.heap.get? b=some u->h1.get? b=some u) (hns:h1.Ns C m) (hDo:h1.get? D=some { cls:=.type "list",data:=.seq ([]:List Value).toArray 0 }) :
  Inv (bQ X N sc cl C s H fp) [] (List.replicate k none++σ) (upd H D (.lst [])) { s with heap:=h1,toks:=t }:=by
 unfold mJ at hsc
 rw [Bool.and_eq_true,List.all_eq_true] at hsc
 obtain ⟨hk,hall⟩:=hsc
 have hkind:sc.kind=.function:=by simpa using hk
 obtain ⟨hlen,hat⟩:=rg hnm
 have hcell:∀ y∈sc.names,y.2 ≠ .cell:=fun y hy e=>by have:=hall y hy;rw [e] at this;cases this
 have frees:∀ x k',(relabel sc X.env).names.lookup x=some k'->k'=.cell\/k'=.free->sc.names.lookup x=some .free:=fun x k' h hk'=>by
  obtain ⟨k0,h0,hk0⟩:=cH h
  rcases hk0 with e | ⟨e,_⟩
  ·subst e
   rcases hk' with e | e
   ·subst e;exact absurd rfl (hcell _ (fh h0))
   ·subst e;exact h0
  ·subst e;exact h0
 have hHD:H D=none:=I.hok.fresh hD
 have hHC:H C=none:=I.hok.fresh hC
 refine ⟨⟨I.mod,hkind,I.ok.glob,I.ok.blt,hC,fun x y c e1 e2=>I.ok.inj x y c (hc1 x c e1) (hc1 y c e2),fun x hx=>?_,fun x c e=>(nomatch e),I.ok.hd,I.ok.frames,.inl rfl,fun b hb=>⟨fun (e:b=C)=>hfC (e ▸ hb),fun x c e=>(hfp b hb).2.2.2.2.1 x c (hc1 x c e)⟩,
  I.bs,Nat.le_trans I.ok.bsz I.sz,fun b o e hb=>?_,fun b hb hb'=>?_,I.stack,I.stkFree⟩,rfl,I.bare,Un.laid keep hD hHD,⟨m,hns,fun i x v e1 e2 e3=>?_⟩,fun x c e=>?_,?_,fun x c e=>?_,fun p hp=>(nomatch hp),I.hok.laid keep hD ?_,?_⟩
 ·have h:∃ k',(relabel sc X.env).names.lookup x=some k'/\(k'=.cell\/k'=.free):=by
   rcases hx with e | e
   ·exact ⟨_,e,.inl rfl⟩
   ·exact ⟨_,e,.inr rfl⟩
  obtain ⟨k',h1',h2'⟩:=h
  exact hc2 _ (fh (frees x k' h1' h2')) rfl
 ·have hb':b∈fp:=hb
  rcases (hfp b hb').2.2.2.1 with z | z
  ·exact I.ok.noex b o e z
  ·exact absurd (Nat.lt_of_lt_of_le (Zm e) (Nat.le_trans I.ok.bsz z)) (Nat.lt_irrefl _)
 ·have hb0:b∈frs X.stack:=hb'
  rcases Zg.mp (I.stkSub b hb0) with z | z
  ·exact (hfp b hb).2.1 z
  ·exact (hfp b hb).2.2.1 z
 ·
  have hik:k<=i:=by
   rcases Nat.lt_or_ge i k with z | z
   ·rw [List.getElem?_append_left (by simpa using z),List.getElem?_replicate] at e2
    split at e2 <;> cases e2
   ·exact z
  rw [List.getElem?_append_right (by simpa using hik),List.length_replicate] at e2
  have e1':(N.drop k)[i - k]?=some x:=by
   rw [List.getElem?_drop,show k+(i - k)=i by lia];exact e1
  have vis:sc.names.lookup x=some .free->∃ k',(relabel sc X.env).names.lookup x=some k'/\(k'=.cell\/k'=.free):=fun h0=>by
   have e3':Vis (relabel sc X.env) x:=e3
   rcases e3' with z | z | z
   ·obtain ⟨k0,h1',h2'⟩:=cH z
    rw [h0] at h1';cases h1'
    rcases h2' with q | ⟨_,q⟩ <;> cases q
   ·exact ⟨_,z,.inl rfl⟩
   ·exact ⟨_,z,.inr rfl⟩
  have no:∀ k0,sc.names.lookup x=some k0->∃ k',(relabel sc X.env).names.lookup x=some k'->True:=fun _ _=>⟨.local,fun _=>trivial⟩
  rcases hat _ x e1' with ⟨hX,h0⟩ | h0 | h0
  ·obtain ⟨k',hk1,hk2⟩:=vis h0
   have hf:=hall _ (fh h0)
   have hf':X.env.kindOf x=some .cell\/X.env.kindOf x=some .free:=by
    simpa using hf
   obtain ⟨mX,hnX,hlX⟩:=I.loc
   have visX:Vis X.env.scope x:=hf'.elim (fun z=>.inr (.inl z)) fun z=>.inr (.inr z)
   obtain ⟨u,r,l⟩:=hlX _ x v hX e2 visX
   refine ⟨u,r,.inr ⟨?_,?_⟩⟩
   ·rcases hk2 with z | z
    ·subst z;exact .inl hk1
    ·subst z;exact .inr hk1
   ·obtain ⟨c,hc⟩:=hc2 _ (fh h0) rfl
    refine ⟨c,hc,?_⟩
    rcases l with ⟨z,_⟩ | ⟨_,c',hc',hcell'⟩
    ·rcases hf' with q | q <;> (rw [z] at q;cases q)
    ·have:=hc1 x c hc
     rw [hc'] at this;cases this
     exact hcell'.keeps keep
  ·have e3':Vis (relabel sc X.env) x:=e3
   rcases e3' with z | z | z <;> (obtain ⟨k0,z1,_⟩:=cH z;rw [h0] at z1;cases z1)
  ·have e3':Vis (relabel sc X.env) x:=e3
   rcases e3' with z | z | z <;> (obtain ⟨k0,z1,z2⟩:=cH z;rw [h0] at z1;cases z1;rcases z2 with q | ⟨q,_⟩ <;> cases q)
 ·obtain ⟨v,z⟩:=I.cell x c (hc1 x c e)
  exact ⟨v,z.keeps keep⟩
 ·show upd H D (.lst []) C=none
  rw [aw (Ne.symm hDC)];exact hHC
 ·obtain ⟨v,z⟩:=I.cell x c (hc1 x c e)
  rw [aw (Zn (Nat.lt_of_lt_of_le z.lt hD))]
  exact I.freeC x c (hc1 x c e)
 ·exact ⟨Nat.zero_le _,[],0,.nil,hDo⟩
 ·show (List.replicate k none++σ).length=N.length
  rw [Zj,List.length_replicate,I.len,← hlen,List.length_drop]
  lia
noncomputable def BL (X:Cx) (ifs:List Expr) (t:TT):Prop :=
 ∀ (pins:List (Addr×Obj)) (s:Shared) (σ:St) (H:Hp) (Q:Bool->Hp->Prop),Inv X pins σ H s->t σ H Q →
  wpAny (model X.prog X.w) X.A (forIn ifs true fun c r=>if r=true then (do let ok ← isTrue c X.env (eval c X.env);pure (ForInStep.yield ok)) else pure (ForInStep.yield r)) (TP X pins σ Q) X.xe s
theorem nS:BL X [] (fun σ H Q=>Q true H):=fun pins s σ H Q I q=>Zy ⟨H,I,q⟩
section
variable {prog:Program} {w:World} {A:Around} {R:Result->Shared->Prop}
theorem oS {elt target iter:Expr} {ifs:List Expr} {scope:Scope} {pos:Pos} {it acc:Value} {env:Env} {s:Shared} (I:Nat->Shared->Prop)
  (turn:∀ n s,I n s->wpAny (model prog w) A (pyNext it) (fun r s₁=>match r with
   | none=>R (.ok .next) s₁
   | some v=>wpAny (model prog w) A (letOwnedTupleGo target it v) (fun _ s₀=>wpAny (model prog w) A (assign target env v) (fun _ s₂ =>
     wpAny (model prog w) A (forIn ifs true fun c r=>if r=true then (do let ok ← isTrue c env (eval c env);pure (ForInStep.yield ok)) else pure (ForInStep.yield r)) (fun ok s₃ =>
      if ok=true then wpAny (model prog w) A (eval elt env) (fun x s₄ =>
       wpAny (model prog w) A (call (.builtin "list.append") [acc,x]) (fun _ s₅=>∃ m,m < n/\I m s₅) (fun _ _=>False) s₄) (fun _ _=>False) s₃
      else ∃ m,m < n/\I m s₃) (fun _ _=>False) s₂) (fun _ _=>False) s₀) (fun _ _=>False) s₁) (fun _ _=>False) s)
  (n:Nat) (h:I n s) :
  codeAny (model prog w) A (.compLoop (.ListComp elt [⟨target,iter,ifs,0⟩] scope pos) 0 it acc env) R s:=by
 refine codeAny_loop rfl I (fun n s hI=>?_) n h
 show wpAny _ A ((compTurn (.ListComp elt [⟨target,iter,ifs,0⟩] scope pos) 0 it acc env).onRaise (fun x=>do noteFrame x env;theTreesLotGoes x)) _ _ s
 refine wpAny_noted ?_
 rw [compTurn_list]
 refine Zz (wpAny_standAt (Zz (wpAny_mono (turn n s hI) (fun r s₁ h₁=>?_) fun _ _ h'=>h'.elim)))
 cases r with
 | none=>exact Zy h₁
 | some v =>
  refine Zz (wpAny_mono h₁ (fun _ s₀ h₀=>?_) fun _ _ h'=>h'.elim)
  refine Zz (wpAny_mono h₀ (fun _ s₂ h₂=>Zz (wpAny_mono h₂ (fun ok s₃ h₃=>?_) fun _ _ h'=>h'.elim)) fun _ _ h'=>h'.elim)
  cases ok with
  | false=>exact Zy ⟨rfl,h₃⟩
  | true =>
   rw [if_pos rfl] at h₃
   exact Zz (Zz (wpAny_mono h₃ (fun x s₄ h₄=>Zz (wpAny_mono h₄ (fun _ s₅ h₅=>Zy (Zy ⟨rfl,h₅⟩)) fun _ _ h'=>h'.elim)) fun _ _ h'=>h'.elim))
end
noncomputable def uZ (k:Nat) (wi:TI) (g:TG) (tc:TT) (te:TE) (σ:St) (H:Hp) (Q:VK):Prop:=wi σ H fun J H1=>∀ D,H1 D=none->∃ W:Nat->Nat->St->Hp->Prop,
 (∃ m,W 0 m (List.replicate k none++σ) (upd H1 D (.lst [])))/\∀ i m σ' H',W i m σ' H'->(J.stop i H'/\Q (.ref D) H')\/(J.go i H'/\∀ x H2,J.yld i H' x H2->g x σ' H2 fun σ3 H3=>tc σ3 H3 fun b H4 =>
  if b=true then te σ3 H4 fun y H5=>∃ ys,H5 D=some (.lst ys)/\ys.length < sizeLine/\∃ m',m' < m/\W (i+1) m' σ3 (upd H5 D (.lst (ys++[y]))) else ∃ m',m' < m/\W (i+1) m' σ3 H4)
theorem sv {elt tg iter:Expr} {ifs:List Expr} {sc:Scope} {pos pos':Pos} {N:List Str} {k:Nat} {wi:TI} {g:TG} {tc:TT} {te:TE} {use:Option (Value->Sem Unit)} {QQ:Value->Shared->Prop} {Q:VK} (hcalm:X.calm=true) (hi:PI X tg iter wi) (hsc:mJ X.env sc=true)
  (hnm:jo sc (N.drop k) X.N=true) (hNl:k<=N.length) (hin:∀ cl C s H fp,PG (bQ X N sc cl C s H fp) tg g/\BL (bQ X N sc cl C s H fp) ifs tc/\PE (bQ X N sc cl C s H fp) elt te)
  (hs:∀ x,foldedSetIterable iter X.env x=pure x) (I:Inv X pins σ H s) (h:uZ k wi g tc te σ H Q)
  (hq:∀ s' H' D C m,Inv X pins σ H' s'->Q (.ref D) H'->s'.heap.Ns C m->ik X pins H' C->compPost (model X.prog X.w) X.A X.xe use QQ (.ref D) C (.ok .next) s') :
  wpAny (model X.prog X.w) X.A (comprehension (.ListComp elt [⟨tg,iter,ifs,0⟩] sc pos) sc X.env pos' (newList []) false (eval iter X.env) use) QQ X.xe s:=by
 have hsc':=hsc
 unfold mJ at hsc'
 rw [Bool.and_eq_true,List.all_eq_true] at hsc'
 obtain ⟨hk,hall⟩:=hsc'
 have hkind:sc.kind=.function:=by simpa using hk
 have hcell:∀ y∈sc.names,y.2 ≠ .cell:=fun y hy e=>by have:=hall y hy;rw [e] at this;cases this
 have hnames:∀ y∈sc.names,y.2=.local->sc.names.lookup y.1=some .local:=fun y hy e=>by
  have:=hall y hy
  rw [e] at this
  simpa using this
 obtain ⟨cl,hcl,hc1,hc2⟩:=wZ (sc:=sc) (env:=X.env) fun y hy e=>I.ok.has y.1 (by
  have:=hall y hy
  rw [e] at this
  simpa using this)
 refine wpAny_comprehension_free (use:=use) rfl hs hcl hkind hnames (thn (hi pins s σ H _ I h) fun v s1 h1=>thn h1 fun itv s2 h2=>?_)
 obtain ⟨it,fp,tn,J,H2,e,I2,T,st2,f2,hW⟩:=h2
 subst e
 refine wpAny_newObj_type (wpAny_newFunctionEnv hcell (by intro y hy;simp at hy) (fun h₁ hns₁ hsb₁=>?_) hkind)
 dsimp only at hns₁ hsb₁ ⊢
 generalize hP:s2.heap.push { cls:=.type "list",dict:=none,data:=.seq ([]:List Value).toArray }=P at hns₁ hsb₁ ⊢
 have hCs:P.objs.size=s2.heap.objs.size+1:=by rw [← hP,Heap.size_push]
 have old:∀ b o,s2.heap.get? b=some o->h₁.get? b=some o:=fun b o e =>
  hsb₁.extBut b o (by rw [hCs];exact Zn (Nat.lt_succ_of_lt (Zm e))) (Zu _ (hP ▸ Zu _ e))
 have hDC:s2.heap.objs.size ≠ P.objs.size:=by rw [hCs];exact Zn (Nat.lt_succ_self _)
 have hDo:h₁.get? s2.heap.objs.size=some { cls:=.type "list",data:=.seq ([]:List Value).toArray 0 }:=hsb₁.extBut _ _ hDC (Zu _ (hP ▸ Zo _ rfl))
 have hCle:s2.heap.objs.size<=P.objs.size:=by rw [hCs];exact Nat.le_succ _
 have lt_fp:∀ b∈fp,b < s2.heap.objs.size:=fun b hb=>let ⟨o,ho,_⟩:=T.obj 0 _ st2 b hb;Zm ho
 have hfC:P.objs.size ∉ fp:=fun hb=>absurd (Nat.lt_of_lt_of_le (lt_fp _ hb) hCle) (Nat.lt_irrefl _)
 have IY:=I2.block (N:=N) (sc:=sc) (cl:=cl) (C:=P.objs.size) (D:=s2.heap.objs.size) (fp:=fp) (k:=k) (t:=s2.toks+([]:List (Str×Value)).length) hsc hnm hNl hc1 hc2 f2 (Zt _) hCle hDC hfC old hns₁ hDo
 obtain ⟨hG,hT,hE⟩:=hin cl P.objs.size s2 H2 fp
 generalize hY:bQ X N sc cl P.objs.size s2 H2 fp=Y at IY hG hT hE
 have hYm:Y.prog=X.prog/\Y.w=X.w/\Y.K=X.K/\Y.A=X.A/\Y.env=compEnvC sc cl P.objs.size X.env/\Y.calm=X.calm/\(Y.xe=fun _ _=>False):=by rw [← hY];exact ⟨rfl,rfl,rfl,rfl,rfl,rfl,rfl⟩
 obtain ⟨y1,y2,y3,y4,y5,y6,y7⟩:=hYm
 have stat:∀ {H':Hp},(∀ b∈fp,H' b=none)->∀ b∈fp,ik Y [] H' b:=fun {H'} hn b hb=>by
  rw [← hY]
  refine ⟨hn b hb,fun (e:b=P.objs.size)=>hfC (e ▸ hb),fun hb'=>?_,.inl hb,fun x c e=>(f2 b hb).2.2.2.2.1 x c (hc1 x c e),fun p hp=>(nomatch hp)⟩
  rcases Zg.mp (I2.stkSub b hb') with z | z
  ·exact (f2 b hb).2.1 z
  ·exact (f2 b hb).2.2.1 z
 obtain ⟨W,⟨m0,w0⟩,turn⟩:=hW s2.heap.objs.size (I2.hok.fresh (Zt _))
 have hfp0:∀ b∈fp,upd H2 s2.heap.objs.size (.lst []) b=none:=fun b hb=>by rw [aw (Zn (lt_fp b hb))];exact (f2 b hb).1
 have st3:tn 0 h₁:=T.keep _ _ _ st2 fun b _ o e=>old b o e
 have loop:codeAny (model X.prog X.w) X.A (.compLoop (.ListComp elt [⟨tg,iter,ifs,0⟩] sc pos) 0 (.ref it) (.ref s2.heap.objs.size) (compEnvC sc cl P.objs.size X.env)) (compPost (model X.prog X.w) X.A X.xe use QQ (.ref s2.heap.objs.size) P.objs.size)
   { s2 with heap:=h₁,toks:=s2.toks+([]:List (Str×Value)).length }:=by
  refine oS (fun n s'=>∃ i σ' H',Inv Y [] σ' H' s'/\tn i s'.heap/\(∀ b∈fp,H' b=none)/\W i n σ' H') ?_ m0 ⟨0,_,_,IY,st3,hfp0,w0⟩
  rintro n s3 ⟨i,σ3,H3,I3,st3,fr3,w3⟩
  rcases turn i n σ3 H3 w3 with ⟨stop,qn⟩ | ⟨go,step⟩
  ·have q:=T.done Y y1 y2 y3 (y6.trans hcalm) i [] s3 σ3 H3 (fun _ _=>False) I3 (stat fr3) st3 stop
   rw [y4] at q
   refine thn q fun r s4 ⟨hr,I4⟩=>?_
   subst hr
   have IX:Inv X pins σ H3 s4:=by
    have b4:=I4.base
    have o4:=I4.os
    have k4:=I4.hok
    rw [← hY] at b4 o4 k4
    refine I2.call' (ch:=fp) o4 b4 k4 I4.bare fun b hb=>?_
    exact ⟨(f2 b hb).2.2.2.1,(f2 b hb).2.1,(f2 b hb).2.2.2.2.1,(f2 b hb).2.2.2.2.2⟩
   obtain ⟨mC,hmC,_⟩:=I4.loc
   have f4:=I4.free
   rw [y5] at hmC f4
   exact hq s4 H3 _ P.objs.size mC IX qn hmC (I2.fpOk hCle f4)
  ·have q:=T.item Y y1 y2 y3 (y6.trans hcalm) i [] s3 σ3 H3 (fun _ _=>False) I3 (stat fr3) st3 go
   rw [y4] at q
   refine thn q fun r s4 ⟨u,hr,h4⟩=>?_
   subst hr
   refine thn h4 fun _ s5 ⟨x,H5,I5,r5,yl5,st5,fr5⟩=>?_
   have I5':=I5.pinned (stat fr5) (T.obj _ _ st5)
   have again:∀ {σ7:St} {H7:Hp} {s7:Shared} {m:Nat},Inv Y ([]++jS fp s5.heap) σ7 H7 s7->W (i+1) m σ7 H7->∃ i σ' H',Inv Y [] σ' H' s7/\tn i s7.heap/\(∀ b∈fp,H' b=none)/\W i m σ' H':=fun {σ7 H7 s7 m} I7 w7=>by
    refine ⟨i+1,σ7,H7,I7.unpinned,T.keep _ _ _ st5 fun b hb o e=>(I7.pin (b,o) (List.mem_append_right _ (List.mem_append_right _ (gg hb e)))).1,fun b hb=>?_,w7⟩
    obtain ⟨o,e,d⟩:=T.obj _ _ st5 b hb
    exact (I7.pin (b,o) (List.mem_append_right _ (List.mem_append_right _ (gg hb e)))).2.1
   have qa:=hG _ s5 σ3 H5 x u _ I5' r5 (step x H5 yl5)
   rw [y1,y2,y4,y5,y7] at qa
   refine thn qa fun _ s6 ⟨σ6,H6,I6,q6⟩=>?_
   have qt:=hT _ s6 σ6 H6 _ I6 q6
   rw [y1,y2,y4,y5,y7] at qt
   refine thn qt fun b s7 ⟨H7,I7,q7⟩=>?_
   cases b with
   | false =>
    rw [if_neg Zp] at q7 ⊢
    obtain ⟨m',hm,w7⟩:=q7
    exact ⟨m',hm,again I7 w7⟩
   | true =>
    rw [if_pos rfl] at q7 ⊢
    have qe:=hE _ s7 σ6 H7 _ I7 q7
    rw [y1,y2,y4,y5,y7] at qe
    refine thn qe fun yv s8 ⟨y,H8,I8,r8,ys,hD8,hl8,m',hm,w8⟩=>?_
    have qp:=gZ (X:=Y) _ s8 σ6 H8 (.ref s2.heap.objs.size) [y] (.ref s2.heap.objs.size) [yv] (fun _ H9=>W (i+1) m' σ6 H9) I8 rfl (.cons r8 .nil) ⟨_,ys,y,rfl,rfl,hD8,hl8,w8⟩
    rw [y1,y2,y4,y7] at qp
    refine thn qp fun _ s9 ⟨_,H9,I9,_,w9⟩=>?_
    exact ⟨m',hm,again I9 w9⟩
 exact codeAny_compStart_list loop (T.self _ 0 _ _ _ st3 loop)
theorem qR {elt tg iter:Expr} {ifs:List Expr} {sc:Scope} {pos:Pos} {N:List Str} {k:Nat} {wi:TI} {g:TG} {tc:TT} {te:TE} (hcalm:X.calm=true) (hi:PI X tg iter wi) (hsc:mJ X.env sc=true)
  (hnm:jo sc (N.drop k) X.N=true) (hNl:k<=N.length) (hin:∀ cl C s H fp,PG (bQ X N sc cl C s H fp) tg g/\BL (bQ X N sc cl C s H fp) ifs tc/\PE (bQ X N sc cl C s H fp) elt te)
  (hs:∀ x,foldedSetIterable iter X.env x=pure x:=by intro _;rfl):PE X (.ListComp elt [⟨tg,iter,ifs,0⟩] sc pos) (uZ k wi g tc te):=by
 intro pins s σ H Q I h
 rw [eval_ListComp]
 refine sv (use:=none) hcalm hi hsc hnm hNl hin hs I h fun s' H' D C m I' q hn f=>⟨m,hn,fun h' hs'=>?_⟩
 exact ⟨.ref D,H',I'.turned (it:=C) (t':=s'.toks) (fun b o hb e=>hs'.extBut b o hb e) f.1 f.2.1 f.2.2.2.1 f.2.2.2.2.1 f.2.2.2.2.2,rfl,q⟩
end
end L2
end
section
namespace VS
open PySem PySem.Spec PyProof.Rows L2
noncomputable def ya (k:Nat) (g:Tg):Prop:=∀ t η η',g t η=some η'->η'.length=η.length/\∀ i,k<=i->η'[i]?=η[i]?
theorem q0 {k i:Nat} (h:i < k):ya k (bh i):=fun t η η' e=>by
 unfold bh at e
 split at e
 ·cases e
  exact ⟨by simp,fun j hj=>by rw [List.getElem?_set_ne (by lia)]⟩
 ·cases e
theorem qQ:∀ (l:List T) {i:Nat} {t:T},d5 l=true->l[i]?=some t->imm t=true
 | [],_,_,_,h=>by simp at h
 | x :: l,0,t,h,e=>by
  simp only [d5,Bool.and_eq_true] at h
  simp at e;rw [← e];exact h.1
 | x :: l,i+1,t,h,e=>by
  simp only [d5,Bool.and_eq_true] at h
  exact qQ l h.2 (by simpa using e)
noncomputable def tC (G:Gx):Option Ex->TT
 | none=>fun σ H Q=>Q true H
 | some c=>tT G c
section
variable {G:Gx} {Φ:Fps} {η:VS.Env} {σ:L2.St} {H:Hp} {k:Nat}
theorem iJ {i:Nat} {c:Cell}:(List.replicate k none++η)[i]?=some (some c) ↔ k<=i/\η[i - k]?=some (some c):=by
 rcases Nat.lt_or_ge i k with h | h
 ·rw [List.getElem?_append_left (by simpa using h),List.getElem?_replicate]
  constructor
  ·intro e;split at e <;> cases e
  ·intro ⟨e,_⟩;lia
 ·rw [List.getElem?_append_right (by simpa using h),List.length_replicate]
  exact ⟨fun e=>⟨h,e⟩,fun e=>e.2⟩
theorem uI {a:Addr}:bM (fun i=>Φ (i - k)) (List.replicate k none++η) a ↔ bM Φ η a:=by
 constructor
 ·rintro ⟨j,t,h1,h2⟩
  exact ⟨j - k,t,(iJ.mp h1).2,h2⟩
 ·rintro ⟨j,t,h1,h2⟩
  refine ⟨j+k,t,iJ.mpr ⟨Nat.le_add_left _ _,by rw [Nat.add_sub_cancel];exact h1⟩,?_⟩
  show a∈Φ (j+k - k)
  rw [Nat.add_sub_cancel];exact h2
theorem uG {a:Addr}:cY (fun i=>Φ (i - k)) (List.replicate k none++η) a ↔ cY Φ η a:=by
 constructor
 ·rintro ⟨j,t,h1,h2⟩
  exact ⟨j - k,t,(iJ.mp h1).2,h2⟩
 ·rintro ⟨j,t,h1,h2⟩
  refine ⟨j+k,t,iJ.mpr ⟨Nat.le_add_left _ _,by rw [Nat.add_sub_cancel];exact h1⟩,?_⟩
  show a∈Φ (j+k - k)
  rw [Nat.add_sub_cancel];exact h2
theorem SR.sh (s:SR G Φ η σ H):SR G (fun i=>Φ (i - k)) (List.replicate k none++η) (List.replicate k none++σ) H:=by
 refine ⟨by simp [s.len],fun i c h=>?_,fun i t h=>?_,fun i j t c h1 h2 n=>?_⟩
 ·obtain ⟨h1,h2⟩:=iJ.mp h
  obtain ⟨v,g1,g2⟩:=s.rp _ c h2
  refine ⟨v,?_,g2⟩
  rw [List.getElem?_append_right (by simpa using h1),List.length_replicate]
  exact g1
 ·exact s.nd _ t (iJ.mp h).2
 ·obtain ⟨a1,a2⟩:=iJ.mp h1
  obtain ⟨b1,b2⟩:=iJ.mp h2
  exact s.sep _ _ t c a2 b2 (by lia)
theorem SR.less {η':VS.Env} (s:SR G Φ η' σ H) (hl:η.length=η'.length) (h:∀ (i:Nat) c,η[i]?=some (some c)->η'[i]?=some (some c)):SR G Φ η σ H :=
 ⟨hl.trans s.len,fun i c e=>s.rp i c (h i c e),fun i t e=>s.nd i t (h i _ e),fun i j t c e1 e2 n=>s.sep i j t c (h i _ e1) (h j _ e2) n⟩
theorem SR.off {D:Addr} {o:HO} (s:SR G Φ η σ H) (m:Mut (H D)\/H D=none) (n1:¬ cY Φ η D) (n2:¬ bM Φ η D):SR G Φ η σ (upd H D o):=by
 refine ⟨s.len,fun i c e=>?_,s.nd,s.sep⟩
 obtain ⟨v,g1,g2⟩:=s.rp i c e
 refine ⟨v,g1,g2.keep (Kept.upd m) fun b hb o' ho=>?_⟩
 rw [aw fun z=>?_]
 ·exact ho
 ·subst z
  cases c with
  | pu t=>exact n1 ⟨i,t,e,hb⟩
  | ow t=>exact n2 ⟨i,t,e,hb⟩
theorem ko:∀ (l:List Val) (v:Val),bJ (l++[v])=(bJ l).join v.1
 | [],(m,t)=>by cases m <;> rfl
 | (m,t) :: l,v=>by
  show m.join (bJ (l++[v]))=(m.join (bJ l)).join v.1
  rw [ko l v]
  generalize bJ l=q
  generalize v.1=r
  cases m <;> cases q <;> cases r <;> rfl
theorem Fp.join2 {m n:Md} {F F':List Addr} (f:Fp Φ η H m F) (g:Fp Φ η H n F') (d:n=.fr->∀ a∈F,a ∉ F'):Fp Φ η H (m.join n) (F++F'):=by
 have both:∀ {P:Addr->Prop},(∀ a∈F,P a)->(∀ a∈F',P a)->∀ a∈F++F',P a:=fun p q a h=>(Zh.mp h).elim (p a) (q a)
 cases m <;> cases n
 ·exact ⟨List.nodup_append.mpr ⟨f.1,g.1,fun a ha b hb e=>d rfl a ha (e ▸ hb)⟩,both f.2 g.2⟩
 ·exact both (fun a ha=>.inl (f.2 a ha)) g
 ·exact both (fun a ha=>.inl (f.2 a ha)) g
 ·exact both f fun a ha=>.inl (g.2 a ha)
 ·exact both f g
 ·exact both (fun a ha=>(f a ha).imp id .inl) g
 ·exact both f fun a ha=>.inl (g.2 a ha)
 ·exact both f fun a ha=>(g a ha).imp id .inl
 ·exact both f g
theorem Fp.cons1 {m:Md} {F:List Addr} {D:Addr} (f:Fp Φ η H m F) (h:H D=none) (d:D ∉ F):Fp Φ η H m (D :: F):=by
 have all:∀ {P:Addr->Prop},P D->(∀ a∈F,P a)->∀ a∈D :: F,P a:=fun p q a ha=>(Zg.mp ha).elim (fun e=>e ▸ p) (q a)
 cases m
 ·exact ⟨List.nodup_cons.mpr ⟨d,f.1⟩,all h f.2⟩
 ·exact all (.inl h) f
 ·exact all (.inl h) f
end
section
variable {G:Gx} {k:Nat} {tg:Tg} {ci:Its} {cond:Option Ex} {ce:Ex}
noncomputable def CI (G:Gx) (Φ:Fps) (η η0:VS.Env) (H H1:Hp) (D:Addr) (l:List T) (all:List Val) (tg:Tg) (cond:Option Ex) (ce:Ex) (i n:Nat) (σ':L2.St) (H':Hp):Prop:=n=l.length - i/\∃ Φ1 vs Fs xs rest,SR G Φ1 η0 σ' H'/\(∀ a,bM Φ1 η0 a->bM Φ η a)/\(∀ a,cY Φ1 η0 a->H a=none\/cY Φ η a)/\¬ cY Φ1 η0 D/\¬ bM Φ1 η0 D/\Kept H1 H' ∧
     (∀ a o,a ≠ D->H1 a=some o->H' a=some o)/\H' D=some (.lst xs)/\RpL G H' xs (trees vs) Fs/\D ∉ Fs.flatten/\Fp Φ η H (bJ vs) Fs.flatten/\jJ tg cond ce η0 (l.drop i)=some rest/\vs++rest=all
theorem xy {σ:L2.St} {H:Hp} {Q:VK} (hin:ya k tg) (h:tE G (hZ k tg ci cond ce) σ H Q):uZ k (tI G ci) (tG G tg) (tC G cond) (tE G ce) σ H Q:=by
 refine L2.fM fun P_ k_=>?_
 obtain ⟨Φ,η,m,r,s,e,kq⟩:=h
 unfold hZ at e
 obtain ⟨⟨mi,l⟩,el,e1⟩:=Zx.mp e
 dsimp only at e1
 split at e1
 ·rename_i hok
  obtain ⟨all,ea,e2⟩:=Zx.mp e1
  unfold mkL at e2
  split at e2
  ·rename_i hlen
   cases e2
   refine k_ ?_
   refine ⟨Φ,η,mi,l,s,el,fun J H1 C e3 ok fc D hD=>?_⟩
   have hHD:H D=none:=e3.free hD
   let η0:VS.Env:=List.replicate k none++η
   have good:∀ {t:T} {i:Nat} {H' H2:Hp} {v:V} {F:List Addr},l[i]?=some t->Rp G H2 v t F->(∀ a,H1 a ≠ none->H' a ≠ none)->(∀ a∈F,a∈C\/H' a=none)->∀ a∈F,(H a=none\/cY Φ η a)/\¬ bM Φ η a:=fun {t i H' H2 v F} hi rF keep hF a ha=>by
    have dom:∀ {b},H b ≠ none->H' b ≠ none:=fun {b} hb=>keep b fun z=>hb (e3.free z)
    rcases hF a ha with z | z
    ·rcases fc a z with q | q | ⟨q,w⟩
     ·exact ⟨.inl q,fun w=>Mut.ne_none (s.ow_dom w) q⟩
     ·exact ⟨.inr q,fun w=>s.ow_pu w q⟩
     ·subst q
      have:imm t=true:=by
       exact qQ l hok hi
      rw [rF.imm this] at ha
      simp at ha
    ·have hz:H a=none:=Classical.byContradiction fun q=>dom q z
     exact ⟨.inl hz,fun w=>Mut.ne_none (s.ow_dom w) hz⟩
   refine ⟨CI G Φ η η0 H H1 D l all tg cond ce,?_,?_⟩
   ·refine ⟨l.length - 0,rfl,fun i=>Φ (i - k),[],[],[],all,?_,fun a h=>uI.mp h,fun a h=>.inr (uG.mp h),fun h=>?_,fun h=>?_,Kept.upd (.inr hD),fun a o n h=>by rw [aw n];exact h,aF,.nil,by simp,Fp.nil,by rw [List.drop_zero];exact ea,rfl⟩
    ·exact ((s.same e3).sh).off (.inr hD) (fun h=>Mut.ne_none (s.pu_dom (uG.mp h)) hHD) fun h=>Mut.ne_none (s.ow_dom (uI.mp h)) hHD
    ·exact Mut.ne_none (s.pu_dom (uG.mp h)) hHD
    ·exact Mut.ne_none (s.ow_dom (uI.mp h)) hHD
   ·intro i n σ' H' hh_
    refine L2.fM fun P_ k_=>?_
    obtain ⟨rfl,Φ1,vs,Fs,xs,rest,s1,ow1,pu1,np1,no1,kp,old,hD',rp,nD,fp,er,ev⟩:=hh_
    refine k_ ?_
    have keepdom:∀ a,H1 a ≠ none->H' a ≠ none:=fun a ha z=>by
     by_cases q:a=D
     ·subst q;rw [hD'] at z;cases z
     ·cases e:H1 a with
      | none=>exact ha e
      | some o=>rw [old a o q e] at z;cases z
    refine L2.fM fun P_ k_=>?_
    obtain ⟨go,stop⟩:=ok.run H' kp fun a ha o ho=>old a o (fun z=>ok.dom a ha (z ▸ hD)) ho
    cases hit:l[i]? with
    | none =>
     have hl:l.length<=i:=List.getElem?_eq_none_iff.mp hit
     refine k_ ?_
     left
     refine ⟨stop i hl,?_⟩
     rw [List.drop_of_length_le hl] at er
     cases (show some ([]:List Val)=some rest from er)
     rw [List.append_nil] at ev
     subst ev
     refine kq (.ref D) H' (D :: Fs.flatten) (fun a o h=>old a o (fun z=>by rw [z,hHD] at h;cases h) (e3 a o h)) (.lst hD' rp) ?_
     by_cases hi:d5 (trees vs)=true
     ·rw [if_pos hi,rp.imm hi]
      exact ⟨by simp,fun a ha=>by rw [Zi.mp ha];exact hHD⟩
     ·rw [if_neg hi]
      exact fp.cons1 hHD nD
    | some t =>
     have hl:i < l.length:=(List.getElem?_eq_some_iff.mp hit).1
     obtain ⟨g1,y1⟩:=go i t hit
     refine k_ ?_
     right
     refine ⟨g1,fun x H2 yl=>?_⟩
     refine L2.fM fun P_ k_=>?_
     obtain ⟨e8,F,rF,hF⟩:=y1 x H2 yl
     rw [lT (tgt:=tg) (body:=gu) (η:=η) hit] at er
     rw [jJ] at er
     obtain ⟨η3,e4,e5⟩:=Zx.mp er
     obtain ⟨b,eb,e6⟩:=Zx.mp e5
     have gd:=good hit rF keepdom hF
     have s2:=s1.same e8
     have DF:D ∉ F:=fun h=>by
      rcases hF D h with z | z
      ·exact ok.dom D z hD
      ·rw [hD'] at z;cases z
     refine k_ ?_
     refine ⟨Φ1,η0,t,F,η3,s2,rF,fun a ha z=>(gd a ha).2 (ow1 a z),e4,fun Φ3 σ3 s3 o3 p3=>?_⟩
     obtain ⟨tl,tsame⟩:=hin t η0 η3 e4
     have low:∀ j c,η0[j]?=some (some c)->η3[j]?=some (some c):=fun j c h=>by rw [tsame j (iJ.mp h).1];exact h
     have pu3:∀ a,cY Φ3 η3 a->H a=none\/cY Φ η a:=fun a h=>(p3 a h).elim (pu1 a) fun h=>(gd a h).1
     have ow3:∀ a,bM Φ3 η3 a->bM Φ η a:=fun a h=>ow1 a (o3 a h)
     have np3:¬ cY Φ3 η3 D:=fun h=>(p3 D h).elim np1 DF
     have no3:¬ bM Φ3 η3 D:=fun h=>no1 (o3 D h)
     have pul:∀ a,cY Φ3 η0 a->cY Φ3 η3 a:=fun a ⟨j,u,h1,h2⟩=>⟨j,u,low j _ h1,h2⟩
     have owl:∀ a,bM Φ3 η0 a->bM Φ3 η3 a:=fun a ⟨j,u,h1,h2⟩=>⟨j,u,low j _ h1,h2⟩
     have rest':∀ H4,aL H2 H4->(if b=true then tE G ce σ3 H4 fun y H5=>∃ ys,H5 D=some (.lst ys)/\ys.length < sizeLine/\∃ m',m' < l.length - i/\CI G Φ η η0 H H1 D l all tg cond ce (i+1) m' σ3 (upd H5 D (.lst (ys++[y]))) else ∃ m',m' < l.length - i/\CI G Φ η η0 H H1 D l all tg cond ce (i+1) m' σ3 H4):=fun H4 e9=>by
      have eo:∀ {H5},aL H4 H5->∀ a o,H' a=some o->H5 a=some o:=fun {H5} e10 a o h=>e10 a o (e9 a o (e8 a o h))
      cases b with
      | false =>
       rw [if_neg Zp] at e6 ⊢
       have same:=eo (aL.refl H4)
       exact ⟨_,by lia,rfl,Φ3,vs,Fs,xs,rest,(s3.same e9).less (by rw [tl]) low,fun a h=>ow3 a (owl a h),fun a h=>pu3 a (pul a h),fun h=>np3 (pul D h),fun h=>no3 (owl D h),kp.trans ((Kept.of e8).trans (Kept.of e9)),fun a o n h=>same a o (old a o n h),same D _ hD',rp.same (aL.trans e8 e9),nD,fp,e6,ev⟩
      | true =>
       rw [if_pos rfl] at e6 ⊢
       obtain ⟨⟨mv,tv⟩,ece,e7⟩:=Zx.mp e6
       obtain ⟨rest1,er1,e7'⟩:=Zq.mp e7
       refine ⟨Φ3,η3,mv,tv,s3.same e9,ece,fun y H5 Fy e10 ry fy=>?_⟩
       have same:=eo e10
       have hD5:=same D _ hD'
       have mD5:Mut (H5 D):=by rw [hD5];exact True.intro
       have hD4:H4 D=some (.lst xs):=e9 D _ (e8 D _ hD')
       have none4:∀ a,H4 a=none->H a=none:=fun a h=>Classical.byContradiction fun q=>keepdom a (fun z=>q (e3.free z)) (e8.free (e9.free h))
       have fyo:Fp Φ η H mv Fy:=by
        cases mv with
        | fr=>exact ⟨fy.1,fun a ha=>none4 a (fy.2 a ha)⟩
        | pu=>exact fun a ha=>(fy a ha).elim (fun z=>.inl (none4 a z)) (pu3 a)
        | bo=>exact fun a ha=>(fy a ha).elim (fun z=>.inl (none4 a z)) fun z=>z.elim (fun z=>(pu3 a z).imp id .inl) fun z=>.inr (.inr (ow3 a z))
       have DFy:D ∉ Fy:=fun h=>by
        cases mv with
        | fr=>have:=fy.2 D h;rw [hD4] at this;cases this
        | pu=>exact (fy D h).elim (fun z=>by rw [hD4] at z;cases z) np3
        | bo=>exact (fy D h).elim (fun z=>by rw [hD4] at z;cases z) fun z=>z.elim np3 no3
       have rp5:RpL G H5 xs (trees vs) Fs:=rp.same ((e8.trans e9).trans e10)
       have lenx:xs.length=vs.length:=by rw [rp.len.1];simp
       have lenv:vs.length < all.length:=by rw [← ev,← e7'];simp
       refine ⟨xs,hD5,?_,_,by lia,rfl,Φ3,vs++[(mv,tv)],Fs++[Fy],xs++[y],rest1,(((s3.same e9).same e10).off (.inl mD5) np3 no3).less (by rw [tl]) low,fun a h=>ow3 a (owl a h),fun a h=>pu3 a (pul a h),fun h=>np3 (pul D h),fun h=>no3 (owl D h),?_,fun a o n h=>?_,aF,?_,?_,?_,er1,?_⟩
       ·have hlen':all.length<=eW:=by simpa using hlen
        have:sizeLine=eW:=rfl
        lia
       ·exact (kp.trans ((Kept.of e8).trans ((Kept.of e9).trans (Kept.of e10)))).trans (Kept.upd (.inl mD5))
       ·rw [aw n];exact same a o (old a o n h)
       ·have:trees (vs++[(mv,tv)])=trees vs++[tv]:=by simp
        rw [this]
        exact (rp5.off mD5 nD).append (.cons (ry.keep (Kept.upd (.inl mD5)) fun b hb o ho=>by rw [aw (fun z=>DFy (by rw [← z];exact hb))];exact ho) .nil)
       ·rw [List.flatten_append]
        intro h
        rcases Zh.mp h with z | z
        ·exact nD z
        ·exact DFy (by simpa using z)
       ·rw [List.flatten_append,ko]
        have:([Fy]:List (List Addr)).flatten=Fy:=by simp
        rw [this]
        refine fp.join2 fyo fun hm a ha hb=>?_
        subst hm
        have h4:=fy.2 a hb
        have:Mut (H4 a):=(rp.same (e8.trans e9)).dom a ha
        rw [h4] at this;exact this
       ·rw [Zf,← ev,← e7'];rfl
     cases cond with
     | none =>
      cases (show some true=some b from eb)
      exact rest' H2 (aL.refl H2)
     | some c =>
      obtain ⟨⟨mc,xc⟩,ec1,ec2⟩:=Zx.mp eb
      exact ⟨Φ3,η3,mc,xc,b,s3,ec1,ec2,fun H4 e9=>rest' H4 e9⟩
  ·cases e2
 ·cases e1
end
section
variable {G:Gx} {X:Cx} {elt tg iter c:Expr} {sc:Scope} {pos pos' spos:Pos} {N:List Str} {k i:Nat} {x:Str} {ci:Its} {g:Tg} {cc ce:Ex}
theorem zt (k:Nat) (N:List Str) (hcalm:X.calm=true) (hi:PVI G X tg iter ci) (hin:ya k g) (hg:∀ cl C s H fp,PVG G (bQ X N sc cl C s H fp) tg g) (he:∀ cl C s H fp,PV G (bQ X N sc cl C s H fp) elt ce)
  (hsc:mJ X.env sc=true:=by rfl) (hnm:jo sc (N.drop k) X.N=true:=by rfl) (hNl:k<=N.length:=by decide) (hs:∀ x,foldedSetIterable iter X.env x=pure x:=by intro _;rfl) :
  PV G X (.ListComp elt [⟨tg,iter,[],0⟩] sc pos) (hZ k g ci none ce) :=
 PE.weak (qR hcalm hi hsc hnm hNl (fun cl C s H fp=>⟨hg cl C s H fp,nS,he cl C s H fp⟩) hs) fun σ H Q h=>xy (cond:=none) hin h
end
end VS
end
section
namespace L2
open PySem PySem.Spec PyProof.Rows
noncomputable def Ite (K:PySem.W.Frag) (a:Addr):It :=
 ⟨fun i H=>∃ xs x,SqL K H a xs/\xs[i]?=some x,fun i H v H'=>∃ p x,H p=none/\v=.ref p/\H'=upd H p (.tup [.int i,x])/\∀ xs,SqL K H a xs->xs[i]?=some x,fun i H=>∃ xs,SqL K H a xs/\xs.length<=i⟩
theorem tm {P:Program} {w:World} {K:PySem.W.Frag} {elts:List Expr} {n:Nat} {pos:Pos} (a e it:Addr) (hne:e ≠ it):Turn P w K (.Tuple elts n pos) (Ite K a) [e,it] e (fun i h=>(∃ old,IsEnum h e it i old)/\h.IsListIter it a i) where
 mem:=by simp
 obj:=fun i h st b hb=>by
  obtain ⟨⟨old,he⟩,o,ho,c,d⟩:=st
  rcases Zg.mp hb with rfl | hb
  ·exact ⟨_,he,fun v z=>by cases (show Data.fields _=Data.cell v from z)⟩
  ·rw [Zi.mp hb]
   exact ⟨o,ho,fun v z=>by rw [d] at z;cases z⟩
 keep:=fun i h h' st k=>⟨let ⟨old,he⟩:=st.1;⟨old,k e (by simp) _ he⟩,st.2.at fun o x=>k it (by simp) o x⟩
 item:=by
  intro X hP hw hK hc i pins s σ H E I hf st hg
  subst hP hw hK
  obtain ⟨xs,x,hq,hx⟩:=hg
  obtain ⟨its,rv,p,hz⟩:=I.list hq
  obtain ⟨u,hu,ru⟩:=rv.get hx
  obtain ⟨⟨old,he⟩,hit⟩:=st
  refine wpAny_pyNext_enum_item he hit p.isList (x:=u) (by simpa using hu) hne fun h1 ho hit1 hT hsz hk=>⟨_,rfl,?_⟩
  refine wpAny_letOwnedTupleGo_enum ho fun h2 he2 hs2=>?_
  have hs2:Heap.SameBut e h1 h2:=hs2
  have ltE:e < s.heap.objs.size:=Zm he
  have ltI:it < s.heap.objs.size:=let ⟨_,z,_⟩:=hit;Zm z
  have hHT:H s.heap.objs.size=none:=I.hok.fresh (Zt _)
  have kk:∀ b o,b ∉ [e,it]->s.heap.get? b=some o->h2.get? b=some o:=fun b o hb q=>by
   have h1b:b ≠ e:=fun z=>hb (by simp [z])
   have h2b:b ≠ it:=fun z=>hb (by simp [z])
   exact (hs2.2 b h1b).trans (hk b o h1b h2b q)
  have hT2:h2.get? s.heap.objs.size=some { cls:=.type "tuple",data:=.seq #[.int i s.toks,u] }:=(hs2.2 _ (Nat.ne_of_gt ltE)).trans hT
  have nfp:∀ b o,H b=some o->b ∉ [e,it]:=fun b o q hb=>by rw [(hf b hb).1] at q;cases q
  have lt:∀ b o,s.heap.get? b=some o->b ≠ s.heap.objs.size:=fun b o q=>Zn (Zm q)
  have up:∀ b o,H b=some o->upd H s.heap.objs.size (.tup [.int i,x]) b=some o:=fun b o q=>by rw [aw (bz q hHT)];exact q
  have hok2:HOk X.prog X.w (upd H s.heap.objs.size (.tup [.int i,x])) h2:=fun b ob q=>by
   by_cases hb:b=s.heap.objs.size
   ·subst hb
    rw [aF] at q
    cases q
    exact ⟨by show 2<=sizeLine;decide,[.int i s.toks,u],.cons ⟨_,rfl⟩ (.cons ru .nil),NoD.of hT2 rfl,⟨_,hT2,rfl,_,rfl⟩⟩
   ·rw [aw hb] at q
    refine (I.hok b ob q).stay (fun c v hc' r=>kk c v ?_ r) (fun c r=>up c _ r) fun c ys r=>up c _ r
    rcases hc' with z | z
    ·rw [z];exact nfp b ob q
    ·exact nfp c _ z
  refine ⟨.ref s.heap.objs.size,upd H s.heap.objs.size (.tup [.int i,x]),?_,rfl,⟨_,x,hHT,rfl,rfl,fun ys hy=>by rw [I.list_inj hy hq];exact hx⟩,⟨⟨u,by simpa using he2⟩,hit1.at fun o y=>(hs2.2 it hne.symm).trans y⟩,fun b hb=>?_⟩
  ·show Inv X pins σ _ { s with heap:=h2,gens:=s.gens,drawn:=s.drawn,toks:=s.toks+1 }
   refine I.step (g':=s.gens) (d':=s.drawn) (t':=s.toks+1) (ch:=[e,it]) (fun b hb=>?_) (fun b o _ _ hc' q _=>kk b o hc' q) (fun b o _ _ hc' q _=>⟨o.slots,kk b o hc' q⟩) (fun b o _ q r=>by rw [aw (lt b o q)];exact r) (fun b o hc' q=>⟨o,kk b o hc' q⟩)
    (fun b ys q=>up b _ q) (fun b o v q=>up b _ q) (fun b ps q=>⟨#[],by rw [up b _ q];simp⟩) (fun m hm=>?_) hok2 I.bare
   ·obtain ⟨f0,f1,f2,f3,f4,f5⟩:=hf b hb
    exact ⟨f3,f1,f4,f5⟩
   ·obtain ⟨o,es,ep,ho',r⟩:=hm
    refine ⟨o,es,ep,kk _ o (fun z=>?_) ho',r⟩
    exact (hf _ z).2.1 rfl
  ·have:b ≠ s.heap.objs.size:=by
    rcases Zg.mp hb with rfl | hb
    ·exact Zn ltE
    ·rw [Zi.mp hb];exact Zn ltI
   rw [aw this]
   exact (hf b hb).1
 done:=by
  intro X hP hw hK hc i pins s σ H E I hf st hg
  subst hP hw hK
  obtain ⟨xs,hq,hx⟩:=hg
  obtain ⟨its,rv,p,hz⟩:=I.list hq
  obtain ⟨⟨old,he⟩,hit⟩:=st
  obtain ⟨f0,f1,f2,f3,f4,f5⟩:=hf it (by simp)
  have hl:=rv.length
  exact wpAny_pyNext_enum_end (I.ok.hd hc) he hit p.isList (by simp;lia) fun h' eb=>⟨rfl,I.turned (t':=s.toks) (fun b o hb q=>eb b o hb q) f0 f1 f3 f4 f5⟩
 self:=fun _ _ _ _ _ st h=>let ⟨_,he⟩:=st.1;wpAny_pyIter_enum he h
section
variable {X:Cx} {tg a:Expr} {ta:TA} {p pos:Pos}
noncomputable def D7 (K:PySem.W.Frag) (ta:TA):TI:=fun σ H R=>ta σ H fun vs H1=>∃ l,vs=[.ref l]/\(∃ xs,SqL K H1 l xs)/\R (Ite K l) H1
theorem yb {elts:List Expr} {n:Nat} {tpos:Pos} (hg:Gl X "enumerate") (hm:X.mg "enumerate" = none) (ha:PA X [a] ta) (hs:starEach [a] X.env=[(false,eval a X.env)]:=by rfl):PI X (.Tuple elts n tpos) (.Call (.Name "enumerate" p) [a] [] pos) (D7 X.K ta):=by
 intro pins s σ H R I h
 refine Call_ (iY I hg hm boot_enumerate (PyProof.Rows.callWith_type1 (thn (ha pos pins s σ H _ I h) fun us s1 ⟨vs,H1,I1,r1,q1⟩=>?_) hs rfl))
 obtain ⟨l,e,⟨xs,hq⟩,q⟩:=q1
 subst e
 cases r1 with
 | cons r rr =>
  cases rr
  cases r
  obtain ⟨its,rv,pl,hz⟩:=I1.list hq
  refine call_enumerate_list pl.isList fun h' he hit hsz hk=>?_
  refine wpAny_pyIter_enum he ?_
  refine ⟨_,_,_,_,H1,rfl,I1.kept (t':=s1.toks) hk,tm l (s1.heap.objs.size+1) s1.heap.objs.size (Nat.succ_ne_self _),⟨⟨_,he⟩,hit⟩,fun b hb=>?_,q⟩
  have hb':s1.heap.objs.size<=b:=by
   rcases Zg.mp hb with rfl | hb
   ·lia
   ·rw [Zi.mp hb];exact Zt _
  exact I1.fpOk hb' (I1.hok.fresh hb')
end
end L2
namespace VS
open PySem PySem.Spec PyProof.Rows L2
section
variable {G:Gx} {X:Cx} {a:Expr} {ca:Ex} {pos p tpos:Pos} {elts:List Expr} {n:Nat}
theorem oH:∀ (l:List T) (k i:Nat) {t:T},(eD k l)[i]?=some t->∃ x,l[i]?=some x/\t=.tup [.int ((k+i:Nat):Int),x]
 | [],_,_,_,h=>by simp [eD] at h
 | x :: l,k,0,t,h=>by
  simp [eD] at h
  exact ⟨x,rfl,by rw [← h];rfl⟩
 | x :: l,k,i+1,t,h=>by
  obtain ⟨y,h1,h2⟩:=oH l (k+1) i (by simpa [eD] using h)
  refine ⟨y,by simpa using h1,?_⟩
  rw [h2,show k+1+i=k+(i+1) by lia]
theorem lV:∀ (l:List T) (k:Nat),(eD k l).length=l.length
 | [],_=>rfl
 | x :: l,k=>by simp [eD,lV l (k+1)]
theorem xu {H:Hp} {a:Addr} {vs:List V} {ts:List T} {Fs:List (List Addr)} (K:PySem.W.Frag) (ha:H a=some (.lst vs)) (r:RpL G H vs ts Fs):ItOk G (Ite K a) (eD 0 ts) (a :: Fs.flatten) H:=by
 refine ⟨fun H2 k c=>?_,fun b hb=>?_⟩
 ·have ha2:H2 a=some (.lst vs):=c a Zv _ ha
  have r2:RpL G H2 vs ts Fs:=r.keep k fun b hb o ho=>c b (Zw _ hb) o ho
  refine ⟨fun i t h=>?_,fun i h=>⟨vs,SqL.of ha2,by rw [lV] at h;rw [r.len.1];exact h⟩⟩
  obtain ⟨y,hy,et⟩:=oH ts 0 i h
  rw [Nat.zero_add] at et
  obtain ⟨v,F,h1,h2,h3⟩:=r2.get i hy
  refine ⟨⟨vs,v,SqL.of ha2,h1⟩,fun x H3 ⟨p,z,hp,e1,e2,e3⟩=>?_⟩
  subst e1 e2
  have ex:=e3 vs (SqL.of ha2)
  rw [h1] at ex
  cases ex
  have sm:aL H2 (upd H2 p (.tup [.int i,v])):=fun b o q=>by rw [aw (bz q hp)];exact q
  refine ⟨sm,F,?_,fun b hb=>.inl (Zw _ (eA h2 hb))⟩
  rw [et]
  have:F=([[],F]:List (List Addr)).flatten:=by simp
  rw [this]
  exact .tup aF (.cons (.int _) (.cons (h3.same sm) .nil))
 ·rcases Zg.mp hb with rfl | hb
  ·rw [ha];exact fun z=>nomatch z
  ·exact Mut.ne_none (r.dom b hb)
theorem uf (ha:PV G X a ca) (hg:Gl X "enumerate") (hm:X.mg "enumerate" = none) (hs:starEach [a] X.env=(false,eval a X.env) :: starEach [] X.env:=by rfl) (hs':starEach [a] X.env=[(false,eval a X.env)]:=by rfl) :
  PVI G X (.Tuple elts n tpos) (.Call (.Name "enumerate" p) [a] [] pos) (kX ca) :=
 PI.weak (yb hg hm (dU ha fB hs) hs') fun σ H R ⟨Φ,η,m,l,s,e,k⟩=>by
  unfold kX at e
  obtain ⟨⟨mx,x⟩,ea,e1⟩:=Zx.mp e
  refine ⟨Φ,η,mx,x,s,ea,fun v H' F e3 r3 f3=>?_⟩
  cases x with
  | lst ts =>
   cases e1
   obtain ⟨a',vs,Fs,rfl,rfl,ha',ra⟩:=r3.lst_inv
   exact ⟨a',rfl,⟨vs,SqL.of ha'⟩,k _ H' _ e3 (xu X.K ha' ra) f3.c⟩
  | _=>cases e1
end
noncomputable instance {s:Tx}:Decidable (gG s):=inferInstanceAs (Decidable (_/\_))
section
variable {G:Gx} {X:Cx} {a b c e:Expr} {es:List Expr} {ca cb cc:Ex} {cs:Exs} {pos p p1 p2 apos cpos:Pos} {k k':Nat}
theorem w_add (ha:PV G X a ca) (hb:PV G X b cb):PV G X (.BinOp a .Add b pos) (e2 bP ca cb):=ng xW BG ha hb
theorem w_sub (ha:PV G X a ca) (hb:PV G X b cb):PV G X (.BinOp a .Sub b pos) (e2 nB ca cb):=ng Aa BU ha hb
theorem w_mul (ha:PV G X a ca) (hb:PV G X b cb):PV G X (.BinOp a .Mult b pos) (e2 eR ca cb):=ng Ah A9 ha hb
theorem AJ (ha:PV G X a ca) (hb:PV G X b cb):PV G X (.BinOp a .FloorDiv b pos) (e2 dY ca cb):=ng yJ xF ha hb
theorem w_mod (ha:PV G X a ca) (hb:PV G X b cb):PV G X (.BinOp a .Mod b pos) (e2 oMod ca cb):=ng BR AO ha hb
theorem CH (ha:PV G X a ca) (hb:PV G X b cb):PVT G X (.Compare a [.Lt] [b] pos) (e2 oLt ca cb):=fW zY C8 oE ha hb (iO _)
theorem w_eq (hr:Room k X.A) (ha:PV G X a ca) (hb:PV G X b cb):PV G X (.Compare a [.Eq] [b] pos) (e2 oEq ca cb):=AF (vb hr.units) zN ha hb (iO _)
theorem Cb (hr:Room k X.A) (ha:PV G X a ca) (hb:PV G X b cb):PVT G X (.Compare a [.Eq] [b] pos) (e2 oEq ca cb):=fW (vb hr.units) zN tells_eq ha hb (iO _)
theorem Cw (hr:Room k X.A) (ha:PV G X a ca) (hb:PV G X b cb):PVT G X (.Compare a [.NotEq] [b] pos) (e2 oNe ca cb):=fW (Aw hr.units) CO wB ha hb (iO _)
theorem CW (ha:PV G X a ca) (hb:PV G X b cb) (hs:fQ b:=by intro _ _;rfl) (hK:X.K=G.K:=by rfl):PV G X (.Subscript a b pos) (e2 aU ca cb) :=
 PE.weak (vZ ux ha hb hs) fun σ H Q h=>by rw [hK];exact j5 vM h
theorem B9 (hm:X.mg "len" = none) (ha:PVs G X [e] cs) (hg:Gl X "len" := by rfl) (hK:X.K=G.K:=by rfl) (he:starEach [e] X.env=(false,eval e X.env) :: starEach [] X.env:=by rfl):PV G X (.Call (.Name "len" p) [e] [] pos) (eN d6 cs) :=
 oJ (hK ▸ tu) BW hg hm PySem.boot_len ha (he:=he) (hpl:=rfl)
theorem zW:bootBuiltins ("min" : Str)=some (.builtin "min"):=by decide +kernel
theorem qB:bootBuiltins ("list" : Str)=some (.type "list"):=by decide +kernel
theorem BH (hm:X.mg "min" = none) (ha:PVs G X [a,b] cs) (hc:X.calm=true:=by rfl) (hg:Gl X "min" := by rfl) (he:starEach [a,b] X.env=(false,eval a X.env) :: starEach [b] X.env:=by rfl) (hpl:(backTo pos (starEach [b] X.env)).any (·.1)=false:=by rfl):PV G X (.Call (.Name "min" p) [a,b] [] pos) (eN lQ cs) :=
 oJ (sF hc) xA hg hm zW ha (he:=he) (hpl:=hpl)
noncomputable def tyN:Ty->Str
 | .int => "int" | .str => "str" | .bool => "bool" | .list => "list" | .tuple => "tuple" | .dict => "dict"
theorem Cj (t:Ty):bootBuiltins (tyN t)=some (.type (tyS t)):=by cases t <;> decide +kernel
theorem w_is (t:Ty) (hm:X.mg "isinstance" = none) (hm2:X.mg (tyN t)=none) (ha:PV G X a ca) (hg:Gl X "isinstance" := by rfl) (hg2:Gl X (tyN t):=by rfl) (hK:X.K=G.K:=by rfl)
  (hs:starEach [a,.Name (tyN t) p2] X.env=(false,eval a X.env) :: starEach [.Name (tyN t) p2] X.env:=by rfl):PV G X (.Call (.Name "isinstance" p1) [a,.Name (tyN t) p2] [] pos) (eIs t ca) :=
 CT t ha hg hm hg2 hm2 (Cj t) hK (by cases t <;> decide) (by cases t <;> decide) hs rfl rfl
theorem vP (i:Nat) {x:Str} (ha:PVs G X [e] cs) (hK:X.K=G.K:=by rfl)
  (hN:X.N[i]?=some x:=by rfl) (hv:Vis X.env.scope x:=by first | exact Or.inl rfl | exact Or.inr (Or.inl rfl) | exact Or.inr (Or.inr rfl)) (hd:(x == ("__debug__" : Str))=false:=by decide)
  (hcd:(x == ("__classdict__" : Str))=false:=by decide) (hfew:((backTo cpos (starEach [e] X.env)).all (fun x=>!x.1) && (backToKw cpos (keywordEach [] X.env)).all (fun x=>x.1.isSome)
   && decide ([e].length+([]:List Keyword).length+(if ([]:List Keyword).isEmpty then 0 else 1) < 30))=true:=by rfl)
  (hline:(apos.endLine == cpos.line)=true:=by rfl) (hs:starEach [e] X.env=(false,eval e X.env) :: starEach [] X.env:=by rfl) :
  PSV G X (.Expr (.Call (.Attribute (.Name x p1) "append" apos) [e] [] cpos) pos) (sX (jI i [] aW cs)) :=
 vk i PySem.F.plainAttrs_list PySem.F.slot_list_append PySem.F.type_list_append gZ i4 (fun H v t F l z r h=>gE r h) ha hK hN hv hd hcd rfl hfew hline hs rfl rfl
end
structure FnAt (P:Program) (w:World) (K:PySem.W.Frag) (mg:Str->Option Value) (base:Heap) (k:Nat) (x:Str) (ps:List Str) (G:Gx) (g:Fn):Prop where
 ex:∃ f fd,FnOk P w K mg base CX0 k f fd ps (spF G g)/\mg x=some (.ref f)/\PySem.W.keepIn K (.ref f)=true/\Binds K fd ps []
section
variable {G:Gx} {X:Cx} {e:Expr} {es:List Expr} {cs:Exs} {pos p:Pos} {k k':Nat} {x:Str} {ps:List Str} {g:Fn}
theorem AB (F:FnAt X.prog X.w X.K X.mg X.base k x ps G g) (hr:Room k' X.A) (ha:PVs G X (e :: es) cs) (hk:k<=k':=by decide) (hg:Gl X x:=by rfl) (hdb:(x == ("__debug__" : Str))=false:=by decide)
  (he:starEach (e :: es) X.env=(false,eval e X.env) :: starEach es X.env:=by rfl) (hpl:(backTo pos (starEach es X.env)).any (·.1)=false:=by rfl) :
  PV G X (.Call (.Name x p) (e :: es) [] pos) (aT g cs):=by
 obtain ⟨f,fd,h1,h2,h3,h4⟩:=F.ex
 exact xV h1 (hr.mono hk) hg h2 h3 h4 ha hdb he hpl
end
section
variable {G:Gx} {P:Program} {w:World} {K:PySem.W.Frag} {mg:Str->Option Value} {base:Heap}
theorem Dm {x:Str} {st:Stmt} {f:Addr} {fd:FuncData} {N ps:List Str} {k np nn:Nat} {c:Sx} (F:Fun K x x st f fd) (hm:mg x=some (.ref f)) (S:FnScope N ps (ao st)) (hp:ps.length=np) (hn:N.length=nn)
  (hbd:∀ (kV doc pm:Value) (an:Option Addr) (cdv ct:Value) (us:List Value),us.length=ps.length->bindArgs (PySem.W.fnOf x x (aY st) (aR st) (ao st) .none kV doc pm an cdv ct) ⟨us,[]⟩=pure (ps.zip us))
  (hb:∀ (cdv:Value) (A:Around) (outer:List PySem.Env) (s:Shared) (H:Hp) (E:XK),Room k (A.deeper (envOfC x (ao st) s.heap.objs.size f cdv))->eV G (kP CX0 P w K mg base N x (ao st) f cdv A outer s H E).nox (aR st) c) :
  FnAt P w K mg base (k+1) x ps G (fn np nn c) :=
 ⟨f,fd,fnV F S hp hn hb,hm,F.kp,F.binds hbd⟩
end
end VS
end
section
namespace L2
open PySem PySem.Spec PyProof.Rows
noncomputable def Its (x:Str):It:=⟨fun i _=>i < x.cps.size,fun i H v H'=>H'=H/\∃ c,x.cps[i]?=some c/\v=.str ⟨#[c]⟩,fun i _=>x.cps.size<=i⟩
theorem lG {P:Program} {w:World} {K:PySem.W.Frag} {tg:Expr} (x:Str) (t:Tok) (it:Addr) (ty:String) (hn:["enumerate", "zip", "dict_itemiterator", "dict_reverseitemiterator", "odict_iterator", "itertools.zip_longest", "itertools.pairwise"].contains ty=false)
  (W:∀ A:Around,A.handled=none->Walks P w A it [it] [it] x.cps.size (fun i v=>∃ c u,x.cps[i]?=some c/\v=.str ⟨#[c]⟩ u) (fun i h=>h.IsStrIter it ty x t i)) (hend:∀ (A:Around),A.handled=none->∀ (i:Nat) (s:Shared) (Q:Option Value->Shared->Prop) (E:Value->Shared->Prop),s.heap.IsStrIter it ty x t i->x.cps[i]?=none->(∀ h',Heap.ExtBut it s.heap h'->Q none { s with heap:=h' })->wpAny (model P w) A (pyNext (.ref it)) Q E s)
  (hself:∀ (A:Around) (i:Nat) (s:Shared) (Q:Value->Shared->Prop) (E:Value->Shared->Prop),s.heap.IsStrIter it ty x t i->Q (.ref it) s->wpAny (model P w) A (pyIter (.ref it)) Q E s) :
  Turn P w K tg (Its x) [it] it (fun i h=>h.IsStrIter it ty x t i) where
 mem:=by simp
 obj:=fun i h st b hb=>by
  rw [Zi.mp hb]
  obtain ⟨o,e,c,d⟩:=st
  exact ⟨o,e,fun v z=>by rw [d] at z;cases z⟩
 keep:=fun i h h' st k=>let ⟨o,e,r⟩:=st;⟨o,k it (by simp) o e,r⟩
 item:=by
  intro X hP hw hK hc i pins s σ H E I hf st hg
  subst hP hw hK
  obtain ⟨f0,f1,f2,f3,f4,f5⟩:=hf it (by simp)
  refine (W X.A (I.ok.hd hc)).item i s _ _ hg st fun v h' tk hv st' kk=>?_
  obtain ⟨c,u,hc',rfl⟩:=hv
  have I1:Inv X pins σ H { s with heap:=h',toks:=tk }:=I.turned (fun b o hb e=>kk b o (by simpa using hb) e) f0 f1 f3 f4 f5
  obtain ⟨o,e,c1,d⟩:=id st'
  exact ⟨_,rfl,nZ (s:={ s with heap:=h',toks:=tk }) e c1 d hn ⟨.str ⟨#[c]⟩,H,I1,⟨u,rfl⟩,⟨rfl,c,hc',rfl⟩,st',fun b hb=>(hf b hb).1⟩⟩
 done:=by
  intro X hP hw hK hc i pins s σ H E I hf st hg
  subst hP hw hK
  obtain ⟨f0,f1,f2,f3,f4,f5⟩:=hf it (by simp)
  have hx:x.cps.size<=i:=hg
  exact hend X.A (I.ok.hd hc) i s _ _ st (by simp [hx]) fun h' eb=>⟨rfl,I.turned (t':=s.toks) (fun b o hb e=>eb b o hb e) f0 f1 f3 f4 f5⟩
 self:=fun A i s Q E st h=>hself A i s Q E st h
theorem uy {P:Program} {w:World} {K:PySem.W.Frag} {tg:Expr} (x:Str) (t:Tok) (it:Addr):Turn P w K tg (Its x) [it] it (fun i h=>h.IsStrIter it (strIterType x) x t i):=by
 cases ha:x.cps.all (· < 128)
 ·have e:strIterType x = "str_iterator" := by simp [strIterType,ha]
  rw [e]
  exact lG x t it "str_iterator" rfl (fun A hA=>Walks.strWide hA it x t) (fun A hA i s Q E st hx q=>wpAny_pyNext_wide_end hA st hx q) fun A i s Q E st q=>wpAny_pyIter_striter_wide st q
 ·have e:strIterType x = "str_ascii_iterator" := by simp [strIterType,ha]
  rw [e]
  exact lG x t it "str_ascii_iterator" rfl (fun A hA=>Walks.strAscii hA it x t) (fun A hA i s Q E st hx q=>wpAny_pyNext_ascii_end hA st hx q) fun A i s Q E st q=>wpAny_pyIter_striter_ascii st q
section
variable {X:Cx} {tg l a b c:Expr} {tl ta tb tc:TE} {pos:Pos}
noncomputable def Cm (K:PySem.W.Frag) (tl:TE):TI:=fun σ H R=>tl σ H fun x H1=>(∃ a,x=.ref a/\(∃ xs,SqL K H1 a xs)/\R (Itl K a) H1)\/(∃ a,x=.ref a/\(∃ xs,SqT K H1 a xs)/\R (Itt K a) H1)\/∃ z,x=.str z/\R (Its z) H1
theorem xr (hl:PE X l tl):PI X tg l (Cm X.K tl):=by
 intro pins s σ H R I h
 refine thn (hl pins s σ H _ I h) fun v s1 ⟨x,H1,I1,r1,q1⟩=>?_
 have fp1:∀ b∈[s1.heap.objs.size],ik X pins H1 b:=fun b hb=>by
  rw [Zi.mp hb]
  exact I1.fpOk (Zt _) (I1.hok.fresh (Zt _))
 rcases q1 with ⟨a,e,⟨xs,hq⟩,q⟩ | ⟨a,e,⟨xs,hq⟩,q⟩ | ⟨z,e,q⟩
 ·subst e
  cases r1
  obtain ⟨its,rv,p,hz⟩:=I1.list hq
  exact wpAny_pyIter_list p.isList ⟨s1.heap.objs.size,[s1.heap.objs.size],_,_,H1,rfl,I1.kept (t':=s1.toks) fun b o e=>Zu _ e,si a _,⟨_,Zo _ rfl,rfl,rfl⟩,fp1,q⟩
 ·subst e
  cases r1
  obtain ⟨its,rv,p,hz⟩:=I1.tuple hq
  exact wpAny_pyIter_tuple (show s1.heap.IsTuple a its.toArray from p) ⟨s1.heap.objs.size,[s1.heap.objs.size],_,_,H1,rfl,I1.kept (t':=s1.toks) fun b o e=>Zu _ e,p8 a _,⟨_,Zo _ rfl,rfl,rfl⟩,fp1,q⟩
 ·subst e
  obtain ⟨t,rfl⟩:=r1
  exact wpAny_pyIter_strU ⟨s1.heap.objs.size,[s1.heap.objs.size],_,_,H1,rfl,I1.kept (t':=s1.toks) fun b o e=>Zu _ e,uy z t _,⟨_,Zo _ rfl,rfl,rfl⟩,fp1,q⟩
theorem sG:OpR X (compareOp .Gt) (fun x y H Q=>∃ i j,x=.str i/\y=.str j/\Q (.bl (decide (j.cps.toList < i.cps.toList))) H):=by
 intro pins s σ H x y v u Q I rx ry h
 obtain ⟨i,j,rfl,rfl,q⟩:=h
 obtain ⟨t,rfl⟩:=rx
 obtain ⟨t',rfl⟩:=ry
 exact PySem.P.gt_str ⟨.bl _,H,I,rfl,q⟩
theorem rR:OpR X (compareOp .GtE) (fun x y H Q=>∃ i j,x=.str i/\y=.str j/\Q (.bl (!decide (i.cps.toList < j.cps.toList))) H):=by
 intro pins s σ H x y v u Q I rx ry h
 obtain ⟨i,j,rfl,rfl,q⟩:=h
 obtain ⟨t,rfl⟩:=rx
 obtain ⟨t',rfl⟩:=ry
 exact PySem.P.ge_str ⟨.bl _,H,I,rfl,q⟩
end
end L2
end
section
namespace VS
open PySem PySem.Spec PyProof.Rows L2
section
variable {G:Gx} {X:Cx} {a b c e tg:Expr} {es:List Expr} {ca cb cc:Ex} {cs:Exs} {pos p p1 p2 apos cpos:Pos} {k k':Nat}
theorem Al (H:Hp) (s:Tx) (ok:gG s):ItOk G (L2.Its (sx s)) (s.map fun c=>T.str [c]) [] H:=by
 have sz:(sx s).cps.size=s.length:=rfl
 refine ⟨fun H2 _ _=>⟨fun i t h=>?_,fun i h=>(by rw [Zk] at h;show (sx s).cps.size<=i;lia)⟩,fun a h=>by simp at h⟩
 rw [List.getElem?_map] at h
 obtain ⟨c,hc,rfl⟩:=Zq.mp h
 refine ⟨(by show i < (sx s).cps.size;have:=(List.getElem?_eq_some_iff.mp hc).1;lia),fun x H3 ⟨e1,c',hc',e2⟩=>?_⟩
 subst e1
 have:c'=c:=by
  have h1:(sx s).cps[i]?=some c:=by simp [sx,hc]
  rw [h1] at hc';exact (Option.some.inj hc').symm
 subst this
 rw [e2]
 exact ⟨aL.refl _,[],.str [c'] ⟨(by show 1<=eW;decide),fun d hd=>by rw [Zi.mp hd];exact ok.2 c' (List.mem_of_getElem? hc)⟩,fun a h=>by simp at h⟩
theorem yQ (ha:PV G X a ca) (hK:X.K=G.K:=by rfl):PVI G X tg a (gz ca) :=
 PI.weak (xr ha) fun σ H R ⟨Φ,η,m,l,s,e,k⟩=>by
  unfold gz at e
  obtain ⟨⟨mx,x⟩,ea,e1⟩:=Zx.mp e
  refine ⟨Φ,η,mx,x,s,ea,fun v H' F e3 r3 f3=>?_⟩
  cases x with
  | lst ts =>
   cases e1
   obtain ⟨a',vs,Fs,rfl,rfl,ha',ra⟩:=r3.lst_inv
   exact .inl ⟨a',rfl,⟨vs,SqL.of ha'⟩,k _ H' _ e3 (xN X.K ha' ra) f3.c⟩
  | tup ts =>
   cases e1
   obtain ⟨a',vs,Fs,rfl,rfl,ha',ra⟩:=r3.tup_inv
   exact .inr (.inl ⟨a',rfl,⟨vs,SqT.of ha'⟩,k _ H' _ e3 (Bd X.K ha' ra) f3.c⟩)
  | str z =>
   cases e1
   obtain ⟨rfl,ok⟩:=r3.str_inv
   exact .inr (.inr ⟨_,rfl,k _ H' [] e3 (Al H' z ok) fun a h=>by simp at h⟩)
  | _=>cases e1
theorem wC:bootBuiltins ("tuple" : Str)=some (.type "tuple"):=by decide +kernel
theorem ur:fA G (fun xs H Q=>∃ p ys,xs=[.ref p]/\((SqL G.K H p ys/\∀ l,H l=none->Q (.ref l) (upd H l (.tup ys)))\/(SqT G.K H p ys/\Q (.ref p) H))) eZ:=by
 intro Φ η H0 H l vs Fs m t Q A e k
 unfold eZ at e
 split at e
 ·rename_i mx x
  split at e
  ·rename_i hl
   cases e
   obtain ⟨v,F,rfl,rfl,rx⟩:=(show RpL G H vs [.lst x] Fs from A.rp).one
   obtain ⟨a,ys,Gs,rfl,rfl,ha,ra⟩:=rx.lst_inv
   have f:=(A.fp.each 0 _ _ rfl rfl).sub (List.sublist_cons_self _ _)
   refine ⟨a,ys,rfl,.inl ⟨SqL.of ha,fun q hq=>?_⟩⟩
   have sm:aL H (upd H q (.tup ys)):=bH hq
   have r:Rp G (upd H q (.tup ys)) (.ref q) (.tup x) Gs.flatten:=.tup aF (ra.same sm)
   exact k _ _ _ sm r (f.up r)
  ·cases e
 ·cases e
theorem yn (hm:X.mg "tuple" = none) (ha:PVs G X [e] cs) (hg:Gl X "tuple" := by rfl) (hK:X.K=G.K:=by rfl) (he:starEach [e] X.env=(false,eval e X.env) :: starEach [] X.env:=by rfl):PV G X (.Call (.Name "tuple" p) [e] [] pos) (eN eZ cs) :=
 g7 kM (hK ▸ ur) hg hm wC ha (he:=he) (hpl:=rfl)
noncomputable def rGt:R2:=fun x y H Q=>rI0 (fun i j=>.bl (decide (j < i))) x y H Q\/(∃ i j,x=.str i/\y=.str j/\Q (.bl (decide (j.cps.toList < i.cps.toList))) H)
noncomputable def rGe:R2:=fun x y H Q=>rI0 (fun i j=>.bl (decide (j<=i))) x y H Q\/(∃ i j,x=.str i/\y=.str j/\Q (.bl (!decide (i.cps.toList < j.cps.toList))) H)
theorem vf (s t:Tx):decide ((sx s).cps.toList < (sx t).cps.toList)=ltx s t:=by rw [jW];exact decide_eq_decide.mpr (by simp [sx])
theorem CF:gy G rGt oGt:=by
 intro Φ η H0 H x y u w F1 F2 m t Q tw e k
 obtain ⟨m1,x⟩:=x
 obtain ⟨m2,y⟩:=y
 obtain ⟨same,r1,r2,f1,f2,nd⟩:=tw
 unfold oGt oLt at e
 split at e
 ·rename_i e1 e2
  cases e1
  cases e2
  cases e
  exact .inl ⟨_,_,r1.int_inv,r2.int_inv,bx k (.bl _)⟩
 ·rename_i s _ s' e1 e2
  cases e1
  cases e2
  cases e
  refine .inr ⟨_,_,r1.str_inv.1,r2.str_inv.1,?_⟩
  rw [vf]
  exact bx k (.bl _)
 ·cases e
theorem Di:gy G rGe oGe:=by
 intro Φ η H0 H x y u w F1 F2 m t Q tw e k
 obtain ⟨m1,x⟩:=x
 obtain ⟨m2,y⟩:=y
 obtain ⟨same,r1,r2,f1,f2,nd⟩:=tw
 unfold oGe oLe at e
 split at e
 ·rename_i e1 e2
  cases e1
  cases e2
  cases e
  exact .inl ⟨_,_,r1.int_inv,r2.int_inv,bx k (.bl _)⟩
 ·rename_i s _ s' e1 e2
  cases e1
  cases e2
  cases e
  refine .inr ⟨_,_,r1.str_inv.1,r2.str_inv.1,?_⟩
  rw [vf]
  exact bx k (.bl _)
 ·cases e
theorem vJ:Tells oGt:=fun x y m t e=>oE y x m t e
theorem vN:Tells oGe:=fun x y m t e=>uu y x m t e
theorem C5 (ha:PV G X a ca) (hb:PV G X b cb):PVT G X (.Compare a [.Gt] [b] pos) (e2 oGt ca cb):=fW (r:=rGt) (DE.or sG) CF vJ ha hb (iO _)
theorem B8 (ha:PV G X a ca) (hb:PV G X b cb):PVT G X (.Compare a [.GtE] [b] pos) (e2 oGe ca cb):=fW (r:=rGe) (C1.or rR) Di vN ha hb (iO _)
end
end VS
end
section
namespace L2
open PySem PySem.Spec PyProof.Rows
section
variable {X:Cx}
end
end L2
namespace VS
open PySem PySem.Spec PyProof.Rows L2
section
variable {G:Gx} {X:Cx} {a b c e tg:Expr} {es:List Expr} {ca cb cc:Ex} {cs:Exs} {pos p p1 p2 apos cpos:Pos} {k k':Nat}
theorem Bu:PV G X (.Dict [] [] pos) (jg 0 []):=PE.weak uF fun σ H Q ⟨Φ,η,m,t,s,e,k⟩=>by
 cases (show some (Md.fr,T.dct 0 [])=some (m,t) from e)
 intro q hq
 have:Rp G (upd H q (.dK [])) (.ref q) (.dct 0 ((([]:List Key).map aH).zip [])) (q :: ([]:List (List Addr)).flatten):=.dct aF rfl .nil
 exact k _ _ [q] (bH hq) this ⟨by simp,fun b hb=>by rw [Zi.mp hb];exact hq⟩
end
section
variable {G:Gx} {X:Cx} {a b c e tg:Expr} {es:List Expr} {ca cb cc ce:Ex} {cs:Exs} {pos p p1 p2 apos cpos pos':Pos} {k k':Nat}
theorem fU {H:Hp} {v:V} {l:List (T×T)} {F:List Addr} (r:Rp G H v (.dct 0 l) F):∃ (a:Addr) (ks:List Key) (vs:List V) (ts:List T) (Fs:List (List Addr)),v=.ref a/\F=a :: Fs.flatten/\H a=some (.dK (ks.zip vs))/\ks.length=vs.length/\l=(ks.map aH).zip ts/\RpL G H vs ts Fs:=by
 cases r with
 | dct h hl q=>exact ⟨_,_,_,_,_,rfl,rfl,h,hl,rfl,q⟩
theorem eI {H:Hp} {v:V} {t:T} {F:List Addr} (r:Rp G H v t F) (h:eO t=true):∃ k:Key,v=kV k/\t=aH k:=by
 cases t with
 | int i=>exact ⟨.inl i,r.int_inv,rfl⟩
 | str s=>exact ⟨.inr (sx s),r.str_inv.1,by simp [aH,sx]⟩
 | _=>cases h
theorem jt {H:Hp} {k:Key}:∀ {ks:List Key} {vs:List V} {ts:List T} {Fs:List (List Addr)},ks.length=vs.length->RpL G H vs ts Fs →
  (bT ((ks.map aH).zip ts) (aH k)=none/\cf (ks.zip vs) k=none)\/∃ (i:Nat) (v:V) (t:T) (F:List Addr),bT ((ks.map aH).zip ts) (aH k)=some t/\cf (ks.zip vs) k=some v/\vs[i]?=some v/\Fs[i]?=some F/\Rp G H v t F
 | [],[],_,_,_,.nil=>.inl ⟨rfl,rfl⟩
 | k' :: ks,v :: vs,_,_,hl,.cons (t:=t) (F:=F) (ts:=ts) (Fs:=Fs) r q=>by
  have e:eqT (aH k') (aH k)=decide (k'=k):=by
   rw [Bool.eq_iff_iff,decide_eq_true_eq]
   cases k with
   | inl i=>cases k' <;> simp [aH]
   | inr x =>
    obtain ⟨⟨x⟩⟩:=x
    cases k' with
    | inl j=>simp [aH]
    | inr y=>obtain ⟨⟨y⟩⟩:=y;simp [aH]
  by_cases hk:k'=k
  ·refine .inr ⟨0,v,t,F,?_,bO hk,rfl,rfl,r⟩
   have e':eqT (aH k') (aH k)=true:=by rw [e];exact decide_eq_true hk
   simp only [bT,List.map_cons,List.zip_cons_cons,List.find?_cons,e']
   rfl
  ·have h1:bT (((k' :: ks).map aH).zip (t :: ts)) (aH k)=bT ((ks.map aH).zip ts) (aH k):=by
    have e':eqT (aH k') (aH k)=false:=by rw [e];exact decide_eq_false hk
    simp only [bT,List.map_cons,List.zip_cons_cons,List.find?_cons,e']
   have h2:cf ((k' :: ks).zip (v :: vs)) k=cf (ks.zip vs) k:=by simp [cf,hk]
   rw [h1,h2]
   rcases jt (k:=k) (by simpa using hl) q with h | ⟨i,v',t',F',a1,a2,a3,a4,a5⟩
   ·exact .inl h
   ·exact .inr ⟨i+1,v',t',F',a1,a2,by simpa using a3,by simpa using a4,a5⟩
theorem yg (hu:X.A.units+1 < cLine):IxR X (fun x y H Q=>∃ a v,x=.ref a/\ip H a y (some v)/\Q v H):=by
 intro value slice pins s σ H x y v u Q I rx ry h hs
 obtain ⟨a,w,rfl,g,q⟩:=h
 cases rx
 have hT:=nq I g
 unfold subscriptTail
 refine Zz ?_
 rw [getitemInPython_of_ne hT.not_modules]
 refine Zz (wpAny_specialOf hT PySem.F.slot_dict_getitem.lookup ?_)
 have fin:wpAny (model X.prog X.w) X.A (subscripted slice false (.ref a) u) (fun r s₃=>wpAny (model X.prog X.w) X.A (letTemporaryGo value (.ref a) r >>= fun _=>pure r) (EP X pins σ Q) X.xe s₃) X.xe s:=by
  rw [hs]
  exact wpAny_operating (r6 hu I g ry fun w' s3 I3 rw'=>Zz (wpAny_letTemporaryGo (Zy ⟨w,H,I3,rw',q⟩)))
 first
  | exact Zy (Zz fin)
  | exact Zz (Zy (Zz fin))
  | exact Zz fin
noncomputable def DY (K:PySem.W.Frag):R2:=fun x y H Q=>rIx K x y H Q\/∃ a v,x=.ref a/\ip H a y (some v)/\Q v H
theorem CD:gy G (DY G.K) oIx:=by
 intro Φ η H0 H x y u w F1 F2 m t Q tw e k
 obtain ⟨m1,x⟩:=x
 by_cases hd:∃ l,x=.dct 0 l
 ·obtain ⟨l,rfl⟩:=hd
  simp only [oIx] at e
  split at e
  ·rename_i hk
   obtain ⟨t',e1,e2⟩:=Zq.mp e
   obtain ⟨a,ks,vs,ts,Fs,rfl,rfl,ha,hl,rfl,q⟩:=fU tw.r1
   obtain ⟨kk,rfl,ek⟩:=eI tw.r2 hk
   rw [ek] at e1
   rcases jt (k:=kk) hl q with ⟨h1,_⟩ | ⟨i,v,t2,F,a1,a2,a3,a4,a5⟩
   ·rw [h1] at e1;cases e1
   ·rw [a1] at e1
    cases e1
    cases e2
    refine .inr ⟨a,v,rfl,by rw [← a2];exact ip.k ha,?_⟩
    have f:=((tw.f1.sub (List.sublist_cons_self _ _)).sub (fP a4)).up a5
    exact k v H F (aL.refl _) a5 f
  ·cases e
 ·have e':aU (m1,x) y=some (m,t):=by
   simp only [oIx] at e
   split at e
   ·rename_i l hx
    exact absurd ⟨_,rfl⟩ hd
   ·exact e
  exact .inl (vM Φ η H0 H (m1,x) y u w F1 F2 m t Q tw e' k)
theorem DZ (hr:Room k X.A) (ha:PV G X a ca) (hb:PV G X b cb) (hs:fQ b:=by intro _ _;rfl) (hK:X.K=G.K:=by rfl):PV G X (.Subscript a b pos) (e2 oIx ca cb) :=
 PE.weak (vZ (IxR.or ux (yg (ql hr))) ha hb hs) fun σ H Q h=>by rw [hK];exact j5 CD h
noncomputable def fV:T->V
 | .bl b=>.bl b
 | .int i=>.int i
 | .str s=>.str (sx s)
 | _=>.non
theorem zI {H:Hp} {v:V} {t:T} {F:List Addr} (r:Rp G H v t F) (h:flat t=true):v=fV t/\d8 v=true:=by
 cases r with
 | non=>exact ⟨rfl,rfl⟩
 | bl b=>exact ⟨rfl,rfl⟩
 | int i=>exact ⟨rfl,rfl⟩
 | str s hl=>exact ⟨rfl,rfl⟩
 | _=>cases h
theorem CN:∀ {t u:T},flat t=true->flat u=true->eqV (fV t) (fV u)=eqT t u
 | .non,.non,_,_=>rfl
 | .non,.bl _,_,_=>rfl
 | .non,.int _,_,_=>rfl
 | .non,.str _,_,_=>rfl
 | .bl _,.non,_,_=>rfl
 | .bl _,.bl _,_,_=>rfl
 | .bl _,.int _,_,_=>rfl
 | .bl _,.str _,_,_=>rfl
 | .int _,.non,_,_=>rfl
 | .int _,.bl _,_,_=>rfl
 | .int _,.int _,_,_=>rfl
 | .int _,.str _,_,_=>rfl
 | .str _,.non,_,_=>rfl
 | .str _,.bl _,_,_=>rfl
 | .str _,.int _,_,_=>rfl
 | .str _,.str _,_,_=>uD
theorem vI {H:Hp} {v w:V} {t u:T} {F F':List Addr} (r:Rp G H v t F) (r':Rp G H w u F') (h1:flat t=true) (h2:flat u=true):eqV v w=eqT t u/\d8 v=true/\d8 w=true:=by
 obtain ⟨e1,f1⟩:=zI r h1
 obtain ⟨e2,f2⟩:=zI r' h2
 refine ⟨?_,f1,f2⟩
 rw [e1,e2]
 exact CN h1 h2
theorem mF {H:Hp} {x:V} {t:T} {F:List Addr} (r:Rp G H x t F) (hx:flat t=true):∀ {vs:List V} {ts:List T} {Fs:List (List Addr)},RpL G H vs ts Fs->ts.all flat=true->vs.all d8=true/\inV x vs=ts.any fun y=>eqT y t
 | _,_,_,.nil,_=>⟨rfl,rfl⟩
 | _,_,_,.cons r' q,h=>by
  rw [List.all_cons,Bool.and_eq_true] at h
  obtain ⟨h1,h2⟩:=mF r hx q h.2
  obtain ⟨e1,e2,e3⟩:=vI r' r h.1 hx
  refine ⟨by rw [List.all_cons,e2,h1];rfl,?_⟩
  unfold inV at h2 ⊢
  rw [List.any_cons,List.any_cons,h2,e1]
noncomputable def Dz (K:PySem.W.Frag):R2:=fun x y H Q=>rIn K false x y H Q\/∃ a o,y=.ref a/\ip H a x o/\Q (.bl o.isSome) H
noncomputable def qj (K:PySem.W.Frag):R2:=fun x y H Q=>rIn K true x y H Q\/∃ a o,y=.ref a/\ip H a x o/\Q (.bl (!o.isSome)) H
theorem xQ (hu:X.A.units+1 < cLine):OpR X (compareOp .In) (fun x y H Q=>∃ a o,y=.ref a/\ip H a x o/\Q (.bl o.isSome) H):=by
 intro pins s σ H x y v u Q I rx ry h
 obtain ⟨a,o,rfl,g,q⟩:=h
 cases ry
 exact Ee hu I g rx fun s3 I3=>⟨.bl o.isSome,H,I3,rfl,q⟩
theorem uo (hu:X.A.units+1 < cLine):OpR X (compareOp .NotIn) (fun x y H Q=>∃ a o,y=.ref a/\ip H a x o/\Q (.bl (!o.isSome)) H):=by
 intro pins s σ H x y v u Q I rx ry h
 obtain ⟨a,o,rfl,g,q⟩:=h
 cases ry
 exact zh hu I g rx fun s3 I3=>⟨.bl (!o.isSome),H,I3,rfl,q⟩
theorem oG {Φ:Fps} {η:VS.Env} {H0 H:Hp} {x y:Val} {u w:V} {F1 F2:List Addr} {m:Md} {t:T} (tw:Two G Φ η H0 H x y u w F1 F2) (e:mM x y=some (m,t)) :
  ∃ b,m=.fr/\t=.bl b/\((∃ p xs,w=.ref p/\(SqL G.K H p xs\/SqT G.K H p xs)/\d8 u=true/\xs.all d8=true/\inV u xs=b)\/∃ a o,w=.ref a/\ip H a u o/\o.isSome=b):=by
 obtain ⟨m2,y⟩:=y
 simp only [mM] at e
 split at e
 ·split at e
  ·rename_i hk
   cases e
   obtain ⟨a,ks,vs,ts,Fs,rfl,rfl,ha,hl,rfl,q⟩:=fU tw.r2
   obtain ⟨kk,rfl,ek⟩:=eI tw.r1 hk
   refine ⟨_,rfl,rfl,.inr ⟨a,cf (ks.zip vs) kk,rfl,ip.k ha,?_⟩⟩
   rw [ek]
   rcases jt (k:=kk) hl q with ⟨h1,h2⟩ | ⟨i,v,t2,F,a1,a2,_⟩
   ·rw [h1,h2];rfl
   ·rw [a1,a2];rfl
  ·cases e
 ·split at e
  ·rename_i hk
   cases e
   rw [Bool.and_eq_true] at hk
   obtain ⟨a,vs,Fs,rfl,rfl,ha,ra⟩:=tw.r2.lst_inv
   obtain ⟨h1,h2⟩:=mF tw.r1 hk.1 ra hk.2
   have hf:d8 u=true:=(vI tw.r1 tw.r1 hk.1 hk.1).2.1
   exact ⟨_,rfl,rfl,.inl ⟨a,vs,rfl,.inl (SqL.of ha),hf,h1,h2⟩⟩
  ·cases e
 ·split at e
  ·rename_i hk
   cases e
   rw [Bool.and_eq_true] at hk
   obtain ⟨a,vs,Fs,rfl,rfl,ha,ra⟩:=tw.r2.tup_inv
   obtain ⟨h1,h2⟩:=mF tw.r1 hk.1 ra hk.2
   have hf:d8 u=true:=(vI tw.r1 tw.r1 hk.1 hk.1).2.1
   exact ⟨_,rfl,rfl,.inl ⟨a,vs,rfl,.inr (SqT.of ha),hf,h1,h2⟩⟩
  ·cases e
 ·cases e
theorem DG:gy G (Dz G.K) mM:=by
 intro Φ η H0 H x y u w F1 F2 m t Q tw e k
 obtain ⟨b,rfl,rfl,h⟩:=oG tw e
 rcases h with ⟨p,xs,rfl,hq,f1,f2,hb⟩ | ⟨a,o,rfl,g,hb⟩
 ·refine .inl ⟨p,xs,rfl,hq,f1,f2,?_⟩
  rw [hb]
  exact bx k (.bl b)
 ·refine .inr ⟨a,o,rfl,g,?_⟩
  rw [hb]
  exact bx k (.bl b)
theorem BQ:gy G (qj G.K) cS:=by
 intro Φ η H0 H x y u w F1 F2 m t Q tw e k
 unfold cS at e
 split at e
 ·rename_i m' b' e'
  cases e
  obtain ⟨b,rfl,hb',h⟩:=oG tw e'
  cases hb'
  rcases h with ⟨p,xs,rfl,hq,f1,f2,hb⟩ | ⟨a,o,rfl,g,hb⟩
  ·refine .inl ⟨p,xs,rfl,hq,f1,f2,?_⟩
   rw [hb]
   exact bx k (.bl (!b'))
  ·refine .inr ⟨a,o,rfl,g,?_⟩
   rw [hb]
   exact bx k (.bl (!b'))
 ·cases e
theorem vH:Tells mM:=by
 intro x y m t e
 simp only [mM] at e
 split at e
 all_goals first | (split at e <;> first | (cases e;exact ⟨_,rfl⟩) | cases e) | cases e
theorem sT:Tells cS:=by
 intro x y m t e
 unfold cS at e
 split at e
 ·cases e;exact ⟨_,rfl⟩
 ·cases e
theorem Dl (hr:Room k X.A) (ha:PV G X a ca) (hb:PV G X b cb) (hm:behindInMarks .In b=false:=by with_unfolding_all rfl) (hK:X.K=G.K:=by rfl):PVT G X (.Compare a [.In] [b] pos) (e2 mM ca cb):=fW (r:=Dz X.K) (tM.or (xQ (ql hr))) (hK ▸ DG) vH ha hb hm
theorem Br (hr:Room k X.A) (ha:PV G X a ca) (hb:PV G X b cb) (hm:behindInMarks .NotIn b=false:=by with_unfolding_all rfl) (hK:X.K=G.K:=by rfl):PVT G X (.Compare a [.NotIn] [b] pos) (e2 cS ca cb):=fW (r:=qj X.K) (mP.or (uo (ql hr))) (hK ▸ BQ) sT ha hb hm
end
end VS
end
section
open PySem PyProof.Rows
namespace TS
noncomputable def mU:Bool->Keyed->Array Keyed->Nat->Nat->Nat->StateT SortSt Sem (Option Nat):=sortPriv% PySem.Builtin.gallop
noncomputable def kA:Array Keyed->Array Keyed->StateT SortSt Sem (Array Keyed):=sortPriv% PySem.Builtin.mergeLo
noncomputable def jC:Array Keyed->Array Keyed->StateT SortSt Sem (Array Keyed):=sortPriv% PySem.Builtin.mergeHi
theorem all2 {A0 A1:Type} {P:A0×A1->Prop} (h:∀ a0 a1,P (a0,a1)):∀ x,P x:=fun (a0,a1)=>h a0 a1
theorem gw {A0 A1 A2:Type} {P:A0×A1×A2->Prop} (h:∀ a0 a1 a2,P (a0,a1,a2)):∀ x,P x:=fun (a0,a1,a2)=>h a0 a1 a2
theorem sO {A0 A1 A2 A3 A4:Type} {P:A0×A1×A2×A3×A4->Prop} (h:∀ a0 a1 a2 a3 a4,P (a0,a1,a2,a3,a4)):∀ x,P x:=fun (a0,a1,a2,a3,a4)=>h a0 a1 a2 a3 a4
theorem oC {A0 A1 A2 A3 A4 A5:Type} {P:A0×A1×A2×A3×A4×A5->Prop} (h:∀ a0 a1 a2 a3 a4 a5,P (a0,a1,a2,a3,a4,a5)):∀ x,P x:=fun (a0,a1,a2,a3,a4,a5)=>h a0 a1 a2 a3 a4 a5
theorem yy {A0 A1 A2 A3 A4 A5 A6:Type} {P:A0×A1×A2×A3×A4×A5×A6->Prop} (h:∀ a0 a1 a2 a3 a4 a5 a6,P (a0,a1,a2,a3,a4,a5,a6)):∀ x,P x:=fun (a0,a1,a2,a3,a4,a5,a6)=>h a0 a1 a2 a3 a4 a5 a6
variable {prog:Program} {w:World} {A:Around} {E:Value->Shared->Prop} {s:Shared}
structure Cmp (prog:Program) (w:World) (A:Around) (E:Value->Shared->Prop) (s:Shared) (κ:SortKind) (G:Keyed->Prop) (r:Keyed->Keyed->Bool):Prop where
 run:∀ (st:SortSt) (x y:Keyed) (Q:Option Bool->SortSt->Prop),kindOf st=κ->G x->G y->Q (some (r x y)) st->wpS (model prog w) A E s (lt' x y) Q st
 asym:∀ x y,G x->G y->r x y=true->r y x=false
 trans:∀ x y z,G x->G y->G z->r y x=false->r z y=false->r z x=false
variable {κ:SortKind} {G:Keyed->Prop} {r:Keyed->Keyed->Bool}
noncomputable def le (r:Keyed->Keyed->Bool) (x y:Keyed):Prop:=r y x=false
theorem dw {arr:Array Keyed} {i:Nat} {Q:Keyed->SortSt->Prop} {st:SortSt} (hi:i < arr.size) (h:Q arr[i] st):wpS (model prog w) A E s (elem' arr i) Q st:=by
 rw [elem'_eq,getElem?_pos arr i hi]
 exact Zs h
noncomputable def bey (r:Keyed->Keyed->Bool) (left:Bool) (key x:Keyed):Bool:=if left then r x key else !(r key x)
noncomputable def bf (left:Bool) (key:Keyed) (arr:Array Keyed) (i:Nat):StateT SortSt Sem (Option Bool):=do
 let x ← elem' arr i
 if left=true then lt' x key else do
  let l ← lt' key x
  pure (Option.map (fun x=>!x) l)
theorem iE (C:Cmp prog w A E s κ G r) {left:Bool} {key:Keyed} {arr:Array Keyed} {i:Nat} {Q:Option Bool->SortSt->Prop} {st:SortSt} (hk:kindOf st=κ) (gk:G key) (ga:∀ x∈arr,G x)
  (hi:i < arr.size) (h:Q (some (bey r left key arr[i])) st) :
  wpS (model prog w) A E s (bf left key arr i) Q st:=by
 unfold bf
 refine Zr (dw hi ?_)
 have g:=ga _ (Zl hi)
 cases left with
 | true=>exact C.run st _ _ _ hk g gk h
 | false=>exact Zr (C.run st _ _ _ hk gk g (Zs h))
theorem pZ (C:Cmp prog w A E s κ G r) {left:Bool} {key:Keyed} {arr:Array Keyed} {base n hint:Nat} {Q:Option Nat->SortSt->Prop} {st:SortSt} (hk:kindOf st=κ) (gk:G key) (ga:∀ x∈arr,G x)
  (hb:base+n<=arr.size) (hh:hint < n) (mono:∀ i j (hi:base+i < arr.size) (hj:base+j < arr.size),i<=j->j < n->bey r left key arr[base+j]=true->bey r left key arr[base+i]=true)
  (h:∀ k,k<=n->(∀ i (hi:base+i < arr.size),i < k->bey r left key arr[base+i]=true)->(∀ i (hi:base+i < arr.size),k<=i->i < n->bey r left key arr[base+i]=false)->Q (some k) st) :
  wpS (model prog w) A E s (mU left key arr base n hint) Q st:=by
 obtain ⟨f,fe⟩:∃ f:Nat->Bool,∀ i (hi:base+i < arr.size),f i=bey r left key arr[base+i]:=⟨fun i=>if hi:base+i < arr.size then bey r left key arr[base+i] else false,fun i hi=>dif_pos hi⟩
 have fm:∀ i j,i<=j->j < n->f j=true->f i=true:=fun i j hij hj e=>by
  rw [fe j (by lia)] at e
  rw [fe i (by lia)]
  exact mono i j (by lia) (by lia) hij hj e
 have fin:∀ k,k<=n->(∀ i,i < k->f i=true)->(∀ i,k<=i->i < n->f i=false)->Q (some k) st:=fun k h1 h2 h3 =>
  h k h1 (fun i hi hik=>by rw [← fe i hi];exact h2 i hik) fun i hi h4 h5=>by rw [← fe i hi];exact h3 i h4 h5
 clear h mono
 unfold mU
 change wpS (model prog w) A E s (_ >>= _) Q st
 dsimp only
 have h0:base+hint < arr.size:=by lia
 refine Zr (iE C hk gk ga h0 ?_)
 dsimp only
 rw [← fe _ h0]
 cases e0:f hint with
 | true =>
  rw [if_pos rfl]
  refine Zr (wpS_mono (wpS_forRange
   (I:=fun x c st'=>st=st'/\c.1=none/\f (hint+c.2.1)=true/\c.2.1 < c.2.2/\hint+c.2.1 < n/\x < c.2.2)
   (Q:=fun c st'=>st=st'/\c.1=none/\f (hint+c.2.1)=true/\c.2.1 < c.2.2/\hint+c.2.1 < n/\(hint+c.2.2 < n->f (hint+c.2.2)=false)) ?step1 ?fin1 ?init1) ?post1)
  case init1=>exact ⟨rfl,rfl,e0,by decide,by dsimp only;lia,by decide⟩
  case fin1 =>
   refine gw fun c1 c2 c3=>?_
   rintro st' ⟨rfl,e1,g1,g2,g3,g4⟩
   dsimp only at *
   exact ⟨rfl,e1,g1,g2,g3,fun z=>by (try dsimp only at z);lia⟩
  case step1 =>
   intro x
   refine gw fun c1 c2 c3=>?_
   rintro st' _ hx ⟨rfl,e1,g1,g2,g3,g4⟩
   dsimp only at *
   split
   ·exact Zs ⟨rfl,rfl,g1,g2,g3,fun z=>by (try dsimp only at z);lia⟩
   ·have hm:base+(hint+c3) < arr.size:=by lia
    refine Zr (iE C hk gk ga hm ?_)
    dsimp only
    rw [← fe _ hm]
    cases e:f (hint+c3) with
    | true=>exact Zs ⟨rfl,rfl,e,by dsimp only;lia,by dsimp only;lia,by dsimp only;lia⟩
    | false=>exact Zs ⟨rfl,rfl,g1,g2,g3,fun _=>e⟩
  case post1 =>
   refine gw fun c1 c2 c3=>?_
   rintro st' ⟨rfl,e1,g1,g2,g3,g4⟩
   dsimp only at *
   subst e1
   dsimp only
   have h1:hint+c2+1<=hint+min c3 (n - hint):=by lia
   have h2:hint+min c3 (n - hint)<=n:=by lia
   have h3:∀ i,i < hint+c2+1->f i=true:=fun i hi=>fm i _ (by lia) (by lia) g1
   have h4:∀ i,hint+min c3 (n - hint)<=i->i < n->f i=false:=fun i hi hn=>by
    cases e2:f i with
    | false=>rfl
    | true =>
     have:=g4 (by lia)
     rw [fm _ i (by lia) hn e2] at this;cases this
   clear g1 g2 g3 g4
   refine Zr (wpS_mono (wpS_forRange
    (I:=fun x c st'=>st=st'/\c.1=none/\c.2.1<=c.2.2/\c.2.2<=n/\(∀ i,i < c.2.1->f i=true)/\(∀ i,c.2.2<=i->i < n->f i=false)/\c.2.2 - c.2.1+x<=n)
    (Q:=fun c st'=>st=st'/\c.1=none/\c.2.1=c.2.2/\c.2.2<=n/\(∀ i,i < c.2.1->f i=true)/\(∀ i,c.2.2<=i->i < n->f i=false)) ?step ?fin ?init) ?post)
   case init=>exact ⟨rfl,rfl,h1,h2,h3,h4,by (try dsimp only);lia⟩
   case fin =>
    refine gw fun c1 c2 c3=>?_
    rintro st' ⟨rfl,e1,g1,g2,g3,g4,g5⟩
    try dsimp only at *
    exact ⟨rfl,e1,by (try dsimp only at *);lia,g2,g3,g4⟩
   case step =>
    intro x
    refine gw fun c1 c2 c3=>?_
    rintro st' _ hx ⟨rfl,e1,g1,g2,g3,g4,g5⟩
    try dsimp only at *
    split
    ·exact Zs ⟨rfl,rfl,by (try dsimp only at *);lia,g2,g3,g4⟩
    ·have hm:base+(c2+(c3 - c2) / 2) < arr.size:=by lia
     refine Zr (iE C hk gk ga hm ?_)
     try dsimp only
     rw [← fe _ hm]
     cases e:f (c2+(c3 - c2) / 2) with
     | true =>
      rw [if_pos rfl]
      exact Zs ⟨rfl,rfl,by (try dsimp only);lia,g2,fun i hi=>fm i _ (by (try dsimp only at hi);lia) (by lia) e,g4,by (try dsimp only);lia⟩
     | false =>
      rw [if_neg Zp]
      refine Zs ⟨rfl,rfl,by (try dsimp only);lia,by (try dsimp only);lia,g3,fun i hi hn=>?_,by (try dsimp only);lia⟩
      try dsimp only at hi
      cases e2:f i with
      | false=>rfl
      | true=>rw [fm _ i hi hn e2] at e;cases e
   case post =>
    refine gw fun c1 c2 c3=>?_
    rintro st' ⟨rfl,e1,g1,g2,g3,g4⟩
    try dsimp only at *
    subst e1
    exact Zs (fin c3 g2 (fun i hi=>g3 i (by lia)) g4)
 | false =>
  rw [if_neg Zp]
  refine Zr (wpS_mono (wpS_forRange
   (I:=fun x c st'=>st=st'/\c.1=none/\f (hint - c.2.1)=false/\c.2.1 < c.2.2/\c.2.1<=hint/\x < c.2.2)
   (Q:=fun c st'=>st=st'/\c.1=none/\f (hint - c.2.1)=false/\c.2.1 < c.2.2/\c.2.1<=hint/\(c.2.2<=hint->f (hint - c.2.2)=true)) ?step1 ?fin1 ?init1) ?post1)
  case init1=>exact ⟨rfl,rfl,e0,by decide,by dsimp only;lia,by decide⟩
  case fin1 =>
   refine gw fun c1 c2 c3=>?_
   rintro st' ⟨rfl,e1,g1,g2,g3,g4⟩
   dsimp only at *
   exact ⟨rfl,e1,g1,g2,g3,fun z=>by (try dsimp only at z);lia⟩
  case step1 =>
   intro x
   refine gw fun c1 c2 c3=>?_
   rintro st' _ hx ⟨rfl,e1,g1,g2,g3,g4⟩
   dsimp only at *
   split
   ·exact Zs ⟨rfl,rfl,g1,g2,g3,fun z=>by (try dsimp only at z);lia⟩
   ·have hm:base+(hint - c3) < arr.size:=by lia
    refine Zr (iE C hk gk ga hm ?_)
    dsimp only
    rw [← fe _ hm]
    cases e:f (hint - c3) with
    | true=>exact Zs ⟨rfl,rfl,g1,g2,g3,fun _=>e⟩
    | false=>exact Zs ⟨rfl,rfl,e,by dsimp only;lia,by dsimp only;lia,by dsimp only;lia⟩
  case post1 =>
   refine gw fun c1 c2 c3=>?_
   rintro st' ⟨rfl,e1,g1,g2,g3,g4⟩
   dsimp only at *
   subst e1
   dsimp only
   have h1:hint+1 - min c3 (hint+1)<=hint - c2:=by lia
   have h2:hint - c2<=n:=by lia
   have h3:∀ i,i < hint+1 - min c3 (hint+1)->f i=true:=fun i hi=>fm i _ (by lia) (by lia) (g4 (by lia))
   have h4:∀ i,hint - c2<=i->i < n->f i=false:=fun i hi hn=>by
    cases e2:f i with
    | false=>rfl
    | true=>rw [fm _ i (by lia) hn e2] at g1;cases g1
   clear g1 g2 g3 g4
   refine Zr (wpS_mono (wpS_forRange
    (I:=fun x c st'=>st=st'/\c.1=none/\c.2.1<=c.2.2/\c.2.2<=n/\(∀ i,i < c.2.1->f i=true)/\(∀ i,c.2.2<=i->i < n->f i=false)/\c.2.2 - c.2.1+x<=n)
    (Q:=fun c st'=>st=st'/\c.1=none/\c.2.1=c.2.2/\c.2.2<=n/\(∀ i,i < c.2.1->f i=true)/\(∀ i,c.2.2<=i->i < n->f i=false)) ?step ?fin ?init) ?post)
   case init=>exact ⟨rfl,rfl,h1,h2,h3,h4,by (try dsimp only);lia⟩
   case fin =>
    refine gw fun c1 c2 c3=>?_
    rintro st' ⟨rfl,e1,g1,g2,g3,g4,g5⟩
    try dsimp only at *
    exact ⟨rfl,e1,by (try dsimp only at *);lia,g2,g3,g4⟩
   case step =>
    intro x
    refine gw fun c1 c2 c3=>?_
    rintro st' _ hx ⟨rfl,e1,g1,g2,g3,g4,g5⟩
    try dsimp only at *
    split
    ·exact Zs ⟨rfl,rfl,by (try dsimp only at *);lia,g2,g3,g4⟩
    ·have hm:base+(c2+(c3 - c2) / 2) < arr.size:=by lia
     refine Zr (iE C hk gk ga hm ?_)
     try dsimp only
     rw [← fe _ hm]
     cases e:f (c2+(c3 - c2) / 2) with
     | true =>
      rw [if_pos rfl]
      exact Zs ⟨rfl,rfl,by (try dsimp only);lia,g2,fun i hi=>fm i _ (by (try dsimp only at hi);lia) (by lia) e,g4,by (try dsimp only);lia⟩
     | false =>
      rw [if_neg Zp]
      refine Zs ⟨rfl,rfl,by (try dsimp only);lia,by (try dsimp only);lia,g3,fun i hi hn=>?_,by (try dsimp only);lia⟩
      try dsimp only at hi
      cases e2:f i with
      | false=>rfl
      | true=>rw [fm _ i hi hn e2] at e;cases e
   case post =>
    refine gw fun c1 c2 c3=>?_
    rintro st' ⟨rfl,e1,g1,g2,g3,g4⟩
    try dsimp only at *
    subst e1
    exact Zs (fin c3 g2 (fun i hi=>g3 i (by lia)) g4)
end TS
end
section
open PySem PyProof.Rows
namespace TS
variable {prog:Program} {w:World} {A:Around} {E:Value->Shared->Prop} {s:Shared} {κ:SortKind} {G:Keyed->Prop} {r:Keyed->Keyed->Bool}
theorem Cmp.refl (C:Cmp prog w A E s κ G r) {x:Keyed} (h:G x):le r x x:=by
 unfold le
 cases e:r x x with
 | false=>rfl
 | true=>exact absurd (C.asym x x h h e) (by rw [e];exact fun z=>nomatch z)
theorem Cmp.tr (C:Cmp prog w A E s κ G r) {x y z:Keyed} (hx:G x) (hy:G y) (hz:G z) (h1:le r x y) (h2:le r y z):le r x z:=C.trans x y z hx hy hz h1 h2
theorem Cmp.le_of (C:Cmp prog w A E s κ G r) {x y:Keyed} (hx:G x) (hy:G y) (h:r x y=true):le r x y:=C.asym x y hx hy h
noncomputable def Seg (r:Keyed->Keyed->Bool) (a:Array Keyed) (lo hi:Nat):Prop:=∀ i j (hi':i < a.size) (hj:j < a.size),lo<=i->i<=j->j < hi->le r a[i] a[j]
theorem ft (C:Cmp prog w A E s κ G r) {left:Bool} {key:Keyed} {arr:Array Keyed} {base n hint:Nat} {Q:Option Nat->SortSt->Prop} {st:SortSt} (hk:kindOf st=κ) (gk:G key) (ga:∀ x∈arr,G x)
  (hb:base+n<=arr.size) (hh:hint < n) (sg:Seg r arr base (base+n))
  (h:∀ k,k<=n->(∀ i (hi:i < arr.size),base<=i->i < base+k->le r arr[i] key)->(∀ i (hi:i < arr.size),base+k<=i->i < base+n->le r key arr[i])->Q (some k) st) :
  wpS (model prog w) A E s (mU left key arr base n hint) Q st:=by
 have g:∀ i (hi:i < arr.size),G arr[i]:=fun i hi=>ga _ (Zl hi)
 refine pZ C hk gk ga hb hh (fun i j hi hj hij hjn e=>?_) fun k h1 h2 h3=>h k h1 (fun i hi h4 h5=>?_) fun i hi h4 h5=>?_
 ·have s1:=sg (base+i) (base+j) hi hj (by lia) (by lia) (by lia)
  cases left with
  | true =>
   unfold bey at e ⊢
   rw [if_pos rfl] at e ⊢
   cases e2:r arr[base+i] key with
   | true=>rfl
   | false=>rw [show r arr[base+j] key=false from C.tr gk (g _ hi) (g _ hj) e2 s1] at e;cases e
  | false =>
   unfold bey at e ⊢
   rw [if_neg Zp] at e ⊢
   have e':r key arr[base+j]=false:=by simpa using e
   have:=C.tr (g _ hi) (g _ hj) gk s1 e'
   rw [show r key arr[base+i]=false from this]
   rfl
 ·have e:=h2 (i - base) (by lia) (by lia)
  have ei:base+(i - base)=i:=by lia
  simp only [ei] at e
  cases left with
  | true =>
   unfold bey at e
   rw [if_pos rfl] at e
   exact C.le_of (g _ hi) gk e
  | false =>
   unfold bey at e
   rw [if_neg Zp] at e
   show r key arr[i]=false
   simpa using e
 ·have e:=h3 (i - base) (by lia) (by lia) (by lia)
  have ei:base+(i - base)=i:=by lia
  simp only [ei] at e
  cases left with
  | true =>
   unfold bey at e
   rw [if_pos rfl] at e
   exact e
  | false =>
   unfold bey at e
   rw [if_neg Zp] at e
   exact C.le_of gk (g _ hi) (by simpa using e)
theorem oI {a:Array Keyed} {i:Nat} {x:Keyed} (h:x∈a.toList.drop i):∃ j,∃ (hj:j < a.size),i<=j/\a[j]=x:=by
 obtain ⟨k,hk,e⟩:=List.getElem_of_mem h
 rw [List.length_drop] at hk
 rw [List.getElem_drop] at e
 have:i+k < a.size:=by simpa using (by lia:i+k < a.toList.length)
 exact ⟨i+k,this,by lia,by simpa using e⟩
theorem iI {a:Array Keyed} {i k:Nat} {x:Keyed} (h:x∈(a.toList.drop i).take k):∃ j,∃ (hj:j < a.size),i<=j/\j < i+k/\a[j]=x:=by
 obtain ⟨m,hm,e⟩:=List.getElem_of_mem h
 rw [List.length_take,List.length_drop] at hm
 rw [List.getElem_take,List.getElem_drop] at e
 have:i+m < a.size:=by simpa using (by lia:i+m < a.toList.length)
 exact ⟨i+m,this,by lia,by lia,by simpa using e⟩
theorem qw {a:Array Keyed} {i:Nat} (h:i < a.size):a.toList.drop i=a[i] :: a.toList.drop (i+1):=by
 have:i < a.toList.length:=by simpa using h
 rw [List.drop_eq_getElem_cons this]
 simp
theorem gP {a:Array Keyed} (h:Seg r a 0 a.size):a.toList.Pairwise (le r):=by
 rw [List.pairwise_iff_getElem]
 intro i j hi hj hij
 simpa using h i j (by simpa using hi) (by simpa using hj) (Nat.zero_le _) (by lia) (by simpa using hj)
theorem wI (C:Cmp prog w A E s κ G r) {a:Array Keyed} (ga:∀ x∈a,G x) (h:a.toList.Pairwise (le r)):Seg r a 0 a.size:=by
 intro i j hi hj _ hij _
 rcases Nat.lt_or_ge i j with hlt | hge
 ·have:=List.pairwise_iff_getElem.mp h i j (by simpa using hi) (by simpa using hj) hlt
  simpa using this
 ·have:i=j:=by lia
  subst this
  exact C.refl (ga _ (Zl hi))
structure MI (r:Keyed->Keyed->Bool) (a b out:Array Keyed) (ia ib:Nat):Prop where
 pm:(out.toList++(a.toList.drop ia++b.toList.drop ib)).Perm (a.toList++b.toList)
 so:out.toList.Pairwise (le r)
 la:∀ x∈out.toList,∀ y∈a.toList.drop ia,le r x y
 lb:∀ x∈out.toList,∀ y∈b.toList.drop ib,le r x y
noncomputable def MR (r:Keyed->Keyed->Bool) (a b res:Array Keyed):Prop:=res.toList.Perm (a.toList++b.toList)/\res.toList.Pairwise (le r)
theorem MI.size {a b out:Array Keyed} {ia ib:Nat} (m:MI r a b out ia ib) (h1:ia<=a.size) (h2:ib<=b.size):out.size+(a.size - ia)+(b.size - ib)=a.size+b.size:=by
 have:=m.pm.length_eq
 simp at this
 lia
theorem MI.appA {a b out:Array Keyed} {ia ib k:Nat} (m:MI r a b out ia ib) (sa:Seg r a 0 a.size) (hl:∀ i (hi:i < a.size),ia<=i->i < ia+k->∀ j (hj:j < b.size),ib<=j->le r a[i] b[j]) :
  MI r a b (out++a.extract ia (ia+k)) (ia+k) ib:=by
 have e1:(out++a.extract ia (ia+k)).toList=out.toList++(a.toList.drop ia).take k:=by
  simp [List.extract_eq_drop_take]
 have e2:a.toList.drop ia=(a.toList.drop ia).take k++a.toList.drop (ia+k):=by
  rw [← List.drop_drop];exact (List.take_append_drop _ _).symm
 have pa:(a.toList.drop ia).Pairwise (le r):=(gP sa).drop
 rw [e2,List.pairwise_append] at pa
 refine ⟨?_,?_,?_,?_⟩
 ·rw [e1]
  have:=m.pm
  rw [e2] at this
  simpa [Zf] using this
 ·rw [e1,List.pairwise_append]
  refine ⟨m.so,pa.1,fun x hx y hy=>m.la x hx y ?_⟩
  exact List.mem_of_mem_take hy
 ·rw [e1]
  intro x hx y hy
  rcases Zh.mp hx with hx | hx
  ·exact m.la x hx y (by rw [e2];exact List.mem_append_right _ hy)
  ·exact pa.2.2 x hx y hy
 ·rw [e1]
  intro x hx y hy
  rcases Zh.mp hx with hx | hx
  ·exact m.lb x hx y hy
  ·obtain ⟨i,hi,h1,h2,rfl⟩:=iI hx
   obtain ⟨j,hj,h3,rfl⟩:=oI hy
   exact hl i hi h1 h2 j hj h3
theorem MI.swap {a b out:Array Keyed} {ia ib:Nat} (m:MI r a b out ia ib):MI r b a out ib ia :=
 ⟨((List.perm_append_comm.append_left _).trans m.pm).trans List.perm_append_comm,m.so,m.lb,m.la⟩
theorem MI.appB {a b out:Array Keyed} {ia ib k:Nat} (m:MI r a b out ia ib) (sb:Seg r b 0 b.size) (hl:∀ i (hi:i < b.size),ib<=i->i < ib+k->∀ j (hj:j < a.size),ia<=j->le r b[i] a[j]) :
  MI r a b (out++b.extract ib (ib+k)) ia (ib+k):=(m.swap.appA sb hl).swap
theorem t5 {a out:Array Keyed} {i:Nat} (h:i < a.size):out.push a[i]=out++a.extract i (i+1):=by
 apply Array.ext'
 have:(a.extract i (i+1)).toList=[a[i]]:=by
  have e:i < a.toList.length:=by simpa using h
  simp [List.extract_eq_drop_take,List.drop_eq_getElem_cons e]
 rw [Array.toList_append,this,Array.toList_push]
theorem MI.pushA {a b out:Array Keyed} {ia ib:Nat} (m:MI r a b out ia ib) (sa:Seg r a 0 a.size) (h:ia < a.size) (hl:∀ j (hj:j < b.size),ib<=j->le r a[ia] b[j]):MI r a b (out.push a[ia]) (ia+1) ib:=by
 rw [t5 h]
 refine m.appA sa fun i hi h1 h2 j hj h3=>?_
 have:i=ia:=by lia
 subst this
 exact hl j hj h3
theorem MI.pushB {a b out:Array Keyed} {ia ib:Nat} (m:MI r a b out ia ib) (sb:Seg r b 0 b.size) (h:ib < b.size) (hl:∀ j (hj:j < a.size),ia<=j->le r b[ib] a[j]):MI r a b (out.push b[ib]) ia (ib+1):=(m.swap.pushA sb h hl).swap
theorem jw {a:Array Keyed} {i:Nat}:(a.extract i a.size).toList=a.toList.drop i:=by
 rw [Array.toList_extract,List.extract_eq_drop_take,List.take_of_length_le (by simp)]
theorem MI.fin {a b out:Array Keyed} {ia ib:Nat} (m:MI r a b out ia ib) (sa:Seg r a 0 a.size) (sb:Seg r b 0 b.size) (h:ia=a.size\/ib=b.size):MR r a b (out++a.extract ia a.size++b.extract ib b.size):=by
 have e:(out++a.extract ia a.size++b.extract ib b.size).toList=out.toList++(a.toList.drop ia++b.toList.drop ib):=by
  rw [Array.toList_append,Array.toList_append,jw,jw,Zf]
 refine ⟨by rw [e];exact m.pm,?_⟩
 rw [e,List.pairwise_append]
 refine ⟨m.so,?_,fun x hx y hy=>?_⟩
 ·rcases h with h | h
  ·rw [List.drop_eq_nil_of_le (as:=a.toList) (by simp [h]),List.nil_append]
   exact (gP sb).drop
  ·rw [List.drop_eq_nil_of_le (as:=b.toList) (by simp [h]),List.append_nil]
   exact (gP sa).drop
 ·rcases Zh.mp hy with hy | hy
  ·exact m.la x hx y hy
  ·exact m.lb x hx y hy
theorem MI.last {a b out:Array Keyed} {ia ib:Nat} (m:MI r a b out ia ib) (sb:Seg r b 0 b.size) (h:ia+1=a.size) (hl:∀ j (hj:j < b.size),le r b[j] a[ia]):MR r a b (out++b.extract ib b.size++a.extract ia a.size):=by
 have e:(out++b.extract ib b.size++a.extract ia a.size).toList=out.toList++(b.toList.drop ib++a.toList.drop ia):=by
  rw [Array.toList_append,Array.toList_append,jw,jw,Zf]
 have e2:a.toList.drop ia=[a[ia]]:=by rw [qw (by omega),List.drop_eq_nil_of_le (by simp;omega)]
 refine ⟨by rw [e];exact (List.perm_append_comm.append_left _).trans m.pm,?_⟩
 rw [e,List.pairwise_append]
 refine ⟨m.so,?_,fun x hx y hy=>?_⟩
 ·rw [List.pairwise_append]
  refine ⟨(gP sb).drop,by rw [e2];exact List.pairwise_singleton _ _,fun x hx y hy=>?_⟩
  rw [e2] at hy
  obtain ⟨j,hj,_,rfl⟩:=oI hx
  rw [Zi.mp hy]
  exact hl j hj
 ·rcases Zh.mp hy with hy | hy
  ·exact m.lb x hx y hy
  ·exact m.la x hx y hy
end TS
end
section
open PySem PyProof.Rows
namespace TS
variable {prog:Program} {w:World} {A:Around} {E:Value->Shared->Prop} {s:Shared} {κ:SortKind} {G:Keyed->Prop} {r:Keyed->Keyed->Bool}
noncomputable def fz (st st':SortSt):Prop:=kindOf st'=kindOf st/\arrOf st'=arrOf st/\pendingOf st'=pendingOf st/\failedOf st'=failedOf st
noncomputable def dR:Nat->StateT SortSt Sem Unit:=sortPriv% PySem.Builtin.setMinGallop
theorem gn {g:Nat} {Q:Unit->SortSt->Prop} {st st0:SortSt} (hk:fz st0 st) (h:∀ st',fz st0 st'->Q () st'):wpS (model prog w) A E s (dR g) Q st:=by
 unfold dR
 exact wpS_modify (h _ hk)
theorem fJ {t:String} {Q:Unit->SortSt->Prop} {st:SortSt} (h:Q () st):wpS (model prog w) A E s (liftM (rule t)) Q st:=wpS_lift (wpAny_rule ⟨rfl,h⟩)
theorem aA {α:Type} {c:Prop} [Decidable c] {x y:StateT SortSt Sem α} {Q:α->SortSt->Prop} {st:SortSt} (ht:c->wpS (model prog w) A E s x Q st) (hf:¬ c->wpS (model prog w) A E s y Q st) :
  wpS (model prog w) A E s (if c then x else y) Q st:=by
 by_cases hc:c
 ·rw [if_pos hc];exact ht hc
 ·rw [if_neg hc];exact hf hc
theorem qy {α:Type} {c:Nat->Prop} [∀ n,Decidable (c n)] {B1 B2:Nat->StateT SortSt Sem α} {Q:α->SortSt->Prop} {st:SortSt} (e:∀ n,B1 n=B2 (n - 1)) (h:∀ n,wpS (model prog w) A E s (B2 n) Q st):∀ n,wpS (model prog w) A E s (if c n then B1 n else B2 n) Q st :=
 fun n=>aA (fun _=>by rw [e];exact h _) fun _=>h n
theorem ba {α:Type} {a:Array Keyed} {i:Nat} {c:Keyed->Prop} [∀ v,Decidable (c v)] {x y:Keyed->StateT SortSt Sem α} {Q:α->SortSt->Prop} {st:SortSt} (hi:i < a.size) (ht:c a[i]->wpS (model prog w) A E s (x a[i]) Q st) (hf:¬ c a[i]->wpS (model prog w) A E s (y a[i]) Q st) :
  wpS (model prog w) A E s (elem' a i >>= fun v=>if c v then x v else y v) Q st:=Zr (dw hi (aA ht hf))
theorem vD {α:Type} {c d:Prop} [Decidable c] [Decidable d] {x y z:StateT SortSt Sem α} {Q:α->SortSt->Prop} {st:SortSt} (h1:c->wpS (model prog w) A E s x Q st) (h2:¬ c->d->wpS (model prog w) A E s y Q st) (h3:¬ c->¬ d->wpS (model prog w) A E s z Q st) :
  wpS (model prog w) A E s (if c then x else if d then y else z) Q st:=aA h1 fun e=>aA (h2 e) (h3 e)
theorem gO {α β:Type} {a:Array Keyed} {i:Nat} {m:Keyed->StateT SortSt Sem β} {f:Keyed->β->StateT SortSt Sem α} {Q:α->SortSt->Prop} {st:SortSt} (hi:i < a.size) (h:wpS (model prog w) A E s (m a[i]) (fun v st'=>wpS (model prog w) A E s (f a[i] v) Q st') st) :
  wpS (model prog w) A E s (elem' a i >>= fun u=>m u >>= fun v=>f u v) Q st:=Zr (dw hi (Zr h))
structure MC (G:Keyed->Prop) (r:Keyed->Keyed->Bool) (a b:Array Keyed):Prop where
 ga:∀ x∈a,G x
 gb:∀ x∈b,G x
 sa:Seg r a 0 a.size
 sb:Seg r b 0 b.size
 na:0 < a.size
 nb:0 < b.size
 first:le r b[0] a[0]
 last:∀ j (hj:j < b.size),le r b[j] a[a.size - 1]
theorem MC.last' {a b:Array Keyed} (M:MC G r a b) {i:Nat} (hi:i < a.size) (h:i+1=a.size):∀ j (hj:j < b.size),le r b[j] a[i]:=by
 intro j hj
 have:=M.last j hj
 have e:a.size - 1=i:=by lia
 simpa [e] using this
theorem MC.bA (C:Cmp prog w A E s κ G r) {a b:Array Keyed} (M:MC G r a b) {i j:Nat} (hi:i < a.size) (hj:j < b.size) (h:le r b[j] a[i]):∀ k (hk:k < a.size),i<=k->le r b[j] a[k]:=fun k hk hik =>
 C.tr (M.gb _ (Zl hj)) (M.ga _ (Zl hi)) (M.ga _ (Zl hk)) h (M.sa i k hi hk (Nat.zero_le _) hik hk)
theorem MC.aB (C:Cmp prog w A E s κ G r) {a b:Array Keyed} (M:MC G r a b) {i j:Nat} (hi:i < a.size) (hj:j < b.size) (h:le r a[i] b[j]):∀ k (hk:k < b.size),j<=k->le r a[i] b[k]:=fun k hk hik =>
 C.tr (M.ga _ (Zl hi)) (M.gb _ (Zl hj)) (M.gb _ (Zl hk)) h (M.sb j k hj hk (Nat.zero_le _) hik hk)
theorem gU {a:Array Keyed} (h:Seg r a 0 a.size) (lo hi:Nat):Seg r a lo hi:=fun i j hi' hj h1 h2 h3=>h i j hi' hj (Nat.zero_le _) h2 hj
theorem Co (C:Cmp prog w A E s κ G r) {a b:Array Keyed} {st:SortSt} {Q:Array Keyed->SortSt->Prop} (hk:kindOf st=κ) (M:MC G r a b) (h:∀ res st',fz st st'->MR r a b res->Q res st') :
  wpS (model prog w) A E s (kA a b) Q st:=by
 have hna:=M.na
 have hnb:=M.nb
 unfold kA
 change wpS (model prog w) A E s (_ >>= _) Q st
 dsimp only
 refine Zr (fJ ?_)
 have m0:MI r a b #[] 0 0:=⟨by simp,by simp,by simp,by simp⟩
 have m1:MI r a b #[b[0]] 0 1:=m0.pushB M.sb M.nb fun j hj _=>M.bA C M.na M.nb M.first j hj (Nat.zero_le _)
 have kp0:fz st st:=⟨rfl,rfl,rfl,rfl⟩
 refine ba M.nb (fun e=>?_) fun e1=>?_
 ·exact Zs (h _ _ kp0 (m1.fin M.sa M.sb (.inr (by simpa using e))))
 refine aA (fun e=>?_) fun e2=>?_
 ·exact Zs (h _ _ kp0 (m1.last M.sb (by simpa using e) (M.last' M.na (by simpa using e))))
 have e1':1 < b.size:=by simp at e1;lia
 have e2':0+1 < a.size:=by simp at e2;lia
 refine Zr (wpS_get ?_)
 refine Zr (wpS_mono (wpS_forRange
  (I:=fun x c st'=>fz st st'/\c.1=none/\MI r a b c.2.1 c.2.2.1 c.2.2.2.1/\c.2.2.1+1 < a.size/\c.2.2.2.1 < b.size/\x < c.2.1.size)
  (Q:=fun c st'=>fz st st'/\∃ res,c.1=some res/\MR r a b res) ?step ?fin ?init) ?post)
 case init=>exact ⟨kp0,rfl,m1,e2',e1',by simp⟩
 case fin =>
  refine sO fun c1 out ia ib mg st' hh=>?_
  have kp:=hh.1
  have q1:=hh.2.1
  have m:=hh.2.2.1
  have q2:=hh.2.2.2.1
  have q3:=hh.2.2.2.2.1
  have q4:=hh.2.2.2.2.2
  clear hh
  dsimp only at *
  have:=m.size (by lia) (by lia)
  lia
 case post =>
  refine sO fun c1 out ia ib mg=>?_
  rintro st' ⟨kp,res,q1,q2⟩
  dsimp only at *
  subst q1
  exact Zs (h _ _ kp q2)
 case step =>
  intro x
  refine sO fun c1 out ia ib mg st' _ hx hh=>?_
  have kp:=hh.1
  have q1:=hh.2.1
  have m:=hh.2.2.1
  have q2:=hh.2.2.2.1
  have q3:=hh.2.2.2.2.1
  have q4:=hh.2.2.2.2.2
  clear hh
  dsimp only at *
  refine Zr (wpS_mono (wpS_forRange
   (I:=fun y c st'=>fz st st'/\c.1=none/\MI r a b c.2.1 c.2.2.1 c.2.2.2.1/\c.2.2.1+1 < a.size/\c.2.2.2.1 < b.size/\x+y < c.2.1.size)
   (Q:=fun c st'=>fz st st'/\((∃ res,c.1=some res/\MR r a b res)\/(c.1=none/\MI r a b c.2.1 c.2.2.1 c.2.2.2.1/\c.2.2.1+1 < a.size/\c.2.2.2.1 < b.size/\x+1 < c.2.1.size))) ?step2 ?fin2 ?init2) ?post2)
  case init2=>exact ⟨kp,rfl,m,q2,q3,by simpa using q4⟩
  case fin2 =>
   refine oC fun c1 out ia ib ac bc st' hh=>?_
   have kp:=hh.1
   have q1:=hh.2.1
   have m:=hh.2.2.1
   have q2:=hh.2.2.2.1
   have q3:=hh.2.2.2.2.1
   have q4:=hh.2.2.2.2.2
   clear hh
   dsimp only at *
   exact ⟨kp,.inr ⟨q1,m,q2,q3,by (try dsimp only);lia⟩⟩
  case step2 =>
   intro y
   refine oC fun c1 out ia ib ac bc st' _ hy hh=>?_
   have kp:=hh.1
   have q1:=hh.2.1
   have m:=hh.2.2.1
   have q2:=hh.2.2.2.1
   have q3:=hh.2.2.2.2.1
   have q4:=hh.2.2.2.2.2
   clear hh
   dsimp only at *
   have hia:ia < a.size:=by lia
   have gA:=M.ga _ (Zl hia)
   have gB:=M.gb _ (Zl q3)
   refine gO q3 (dw hia ?_)
   refine Zr (C.run _ _ _ _ (kp.1.trans hk) gB gA ?_)
   dsimp only
   cases e:r b[ib] a[ia] with
   | true =>
    rw [if_pos rfl]
    have m2:=m.pushB M.sb q3 (M.bA C hia q3 (C.le_of gB gA e))
    refine ba q3 (fun e3=>?_) fun e3=>?_
    ·exact Zs ⟨kp,.inl ⟨_,rfl,m2.fin M.sa M.sb (.inr (by simpa using e3))⟩⟩
    ·have e3':ib+1 < b.size:=by simp at e3;lia
     refine aA (fun _=>?_) fun _=>?_
     ·exact Zs ⟨kp,.inr ⟨rfl,m2,q2,e3',by simp;lia⟩⟩
     ·exact Zs ⟨kp,rfl,m2,q2,e3',by simp;lia⟩
   | false =>
    rw [if_neg Zp]
    have m2:=m.pushA M.sa hia (M.aB C hia q3 e)
    refine ba hia (fun e3=>?_) fun e3=>?_
    ·exact Zs ⟨kp,.inl ⟨_,rfl,m2.last M.sb (by simpa using e3) (M.last' (by lia) (by simpa using e3))⟩⟩
    ·have e3':ia+1+1 < a.size:=by simp at e3;lia
     refine aA (fun _=>?_) fun _=>?_
     ·exact Zs ⟨kp,.inr ⟨rfl,m2,e3',q3,by simp;lia⟩⟩
     ·exact Zs ⟨kp,rfl,m2,e3',q3,by simp;lia⟩
  case post2 =>
   refine oC fun c1 out ia ib ac bc=>?_
   rintro st' ⟨kp,⟨res,q1,q2⟩ | ⟨q1,m,q2,q3,q4⟩⟩
   ·dsimp only at *
    subst q1
    exact Zs ⟨kp,res,rfl,q2⟩
   ·dsimp only at *
    subst q1
    dsimp only
    refine Zr (fJ ?_)
    refine Zr (wpS_mono (wpS_forRange
     (I:=fun y c st'=>fz st st'/\c.1=none/\MI r a b c.2.1 c.2.2.1 c.2.2.2.1/\c.2.2.1+1 < a.size/\c.2.2.2.1 < b.size/\x+1 < c.2.1.size)
     (Q:=fun c st'=>fz st st'/\((∃ res,c.1=some res/\MR r a b res)\/(c.1=none/\MI r a b c.2.1 c.2.2.1 c.2.2.2.1/\c.2.2.1+1 < a.size/\c.2.2.2.1 < b.size/\x+1 < c.2.1.size))) ?step3 ?fin3 ?init3) ?post3)
    case init3=>exact ⟨kp,rfl,m,q2,q3,q4⟩
    case fin3 =>
     refine oC fun c1 out ia ib ac bc st' hh=>?_
     have kp:=hh.1
     have q1:=hh.2.1
     have m:=hh.2.2.1
     have q2:=hh.2.2.2.1
     have q3:=hh.2.2.2.2.1
     have q4:=hh.2.2.2.2.2
     clear hh
     exact ⟨kp,.inr ⟨q1,m,q2,q3,q4⟩⟩
    case post3 =>
     refine yy fun c1 out ia ib mg ac bc=>?_
     rintro st' ⟨kp,⟨res,q1,q2⟩ | ⟨q1,m,q2,q3,q4⟩⟩
     ·dsimp only at *
      subst q1
      exact Zs ⟨kp,res,rfl,q2⟩
     ·dsimp only at *
      subst q1
      dsimp only
      exact Zr (gn kp fun st2 kp2=>Zs ⟨kp2,rfl,m,q2,q3,q4⟩)
    case step3 =>
     intro y
     refine yy fun c1 out ia ib mg ac bc st' _ hy hh=>?_
     have kp:=hh.1
     have q1:=hh.2.1
     have m:=hh.2.2.1
     have q2:=hh.2.2.2.1
     have q3:=hh.2.2.2.2.1
     have q4:=hh.2.2.2.2.2
     clear hh
     dsimp only at *
     have both:∀ {mg:Nat} {F:Unit->StateT SortSt Sem (ForInStep (Option (Array Keyed)×Array Keyed×Nat×Nat×Nat×Nat×Nat))} {P},(∀ st2,fz st st2->wpS (model prog w) A E s (F ()) P st2)->wpS (model prog w) A E s (dR mg >>= F) P st':=fun hF=>Zr (gn kp fun st2 kp2=>hF st2 kp2)
     revert mg
     refine qy (fun _=>rfl) fun mg2=>?_
     refine both fun st2 kp2=>?_
     have hia:ia < a.size:=by lia
     have gB:=M.gb _ (Zl q3)
     refine gO q3 (ft C (kp2.1.trans hk) gB M.ga (by lia) (by lia) (gU M.sa _ _) fun k hk1 hk2 hk3=>?_)
     dsimp only
     refine aA (fun e5=>?_) fun e5=>?_
     ·have m2:=m.appA (k:=k) M.sa (fun i hi h1 h2 j hj h3=>C.tr (M.ga _ (Zl hi)) gB (M.gb _ (Zl hj)) (hk2 i hi h1 h2) (M.sb _ j q3 hj (Nat.zero_le _) h3 hj))
      refine vD (fun e6=>?_) (fun e6 e7=>?_) fun e6 e7=>?_
      ·exact Zs ⟨kp2,.inl ⟨_,rfl,m2.last M.sb (by simpa using e6) (M.last' (by simp at e6;lia) (by simpa using e6))⟩⟩
      ·exact Zs ⟨kp2,.inl ⟨_,rfl,m2.fin M.sa M.sb (.inl (by simpa using e7))⟩⟩
      have hA1:ia+k < a.size:=by simp at e6 e7;lia
      have hA2:ia+k+1 < a.size:=by simp at e6 e7;lia
      have hle:∀ j (hj:j < a.size),ia+k<=j->le r b[ib] a[j]:=fun j hj h=>hk3 j hj h (by lia)
      clear e6
      have m3:=m2.pushB M.sb q3 hle
      refine ba q3 (fun e4=>?_) fun e4=>?_
      ·exact Zs ⟨kp2,.inl ⟨_,rfl,m3.fin M.sa M.sb (.inr (by simpa using e4))⟩⟩
      have e4':ib+1 < b.size:=by simp at e4;lia
      refine gO hA1 (ft C (kp2.1.trans hk) (M.ga _ (Zl hA1)) M.gb (by lia) (by lia) (gU M.sb _ _) fun k2 hl1 hl2 hl3=>?_)
      dsimp only
      have m4:=m3.appB (k:=k2) M.sb (fun i hi h1 h2 j hj h3=>C.tr (M.gb _ (Zl hi)) (M.ga _ (Zl hA1)) (M.ga _ (Zl hj)) (hl2 i hi h1 h2) (M.sa _ j hA1 hj (Nat.zero_le _) h3 hj))
      refine aA (fun e5=>?_) fun e5=>?_
      ·refine aA (fun e6=>?_) fun e6=>?_
       ·exact Zs ⟨kp2,.inl ⟨_,rfl,m4.fin M.sa M.sb (.inr (by simpa using e6))⟩⟩
       have m5:=m4.pushA M.sa hA1 (fun j hj h=>hl3 j hj h (by lia))
       refine ba hA1 (fun e7=>?_) fun e7=>?_
       ·exact Zs ⟨kp2,.inl ⟨_,rfl,m5.last M.sb (by simpa using e7) (M.last' (by simp at e7;lia) (by simpa using e7))⟩⟩
       have e7':=e7
       simp at e7'
       refine aA (fun _=>?_) fun _=>?_
       ·exact Zs ⟨kp2,.inr ⟨rfl,m5,by (try dsimp only);lia,by (try dsimp only);(try simp at e6);lia,by simp;lia⟩⟩
       ·exact Zs ⟨kp2,rfl,m5,by (try dsimp only);lia,by (try dsimp only);(try simp at e6);lia,by simp;lia⟩
      ·have m5:=m3.pushA M.sa hA1 (fun j hj h=>hl3 j hj (by lia) (by lia))
       refine ba hA1 (fun e7=>?_) fun e7=>?_
       ·exact Zs ⟨kp2,.inl ⟨_,rfl,m5.last M.sb (by simpa using e7) (M.last' (by simp at e7;lia) (by simpa using e7))⟩⟩
       have e7':=e7
       simp at e7'
       refine aA (fun _=>?_) fun _=>?_
       ·exact Zs ⟨kp2,.inr ⟨rfl,m5,by (try dsimp only);lia,by (try dsimp only);(try simp at e6);lia,by simp;lia⟩⟩
       ·exact Zs ⟨kp2,rfl,m5,by (try dsimp only);lia,by (try dsimp only);(try simp at e6);lia,by simp;lia⟩
     ·have m2:=m
      have hA1:ia < a.size:=by lia
      have hle:∀ j (hj:j < a.size),ia<=j->le r b[ib] a[j]:=fun j hj h=>hk3 j hj (by lia) (by lia)
      have m3:=m2.pushB M.sb q3 hle
      refine ba q3 (fun e4=>?_) fun e4=>?_
      ·exact Zs ⟨kp2,.inl ⟨_,rfl,m3.fin M.sa M.sb (.inr (by simpa using e4))⟩⟩
      have e4':ib+1 < b.size:=by simp at e4;lia
      refine gO hA1 (ft C (kp2.1.trans hk) (M.ga _ (Zl hA1)) M.gb (by lia) (by lia) (gU M.sb _ _) fun k2 hl1 hl2 hl3=>?_)
      dsimp only
      have m4:=m3.appB (k:=k2) M.sb (fun i hi h1 h2 j hj h3=>C.tr (M.gb _ (Zl hi)) (M.ga _ (Zl hA1)) (M.ga _ (Zl hj)) (hl2 i hi h1 h2) (M.sa _ j hA1 hj (Nat.zero_le _) h3 hj))
      refine aA (fun e5=>?_) fun e5=>?_
      ·refine aA (fun e6=>?_) fun e6=>?_
       ·exact Zs ⟨kp2,.inl ⟨_,rfl,m4.fin M.sa M.sb (.inr (by simpa using e6))⟩⟩
       have m5:=m4.pushA M.sa hA1 (fun j hj h=>hl3 j hj h (by lia))
       refine ba hA1 (fun e7=>?_) fun e7=>?_
       ·exact Zs ⟨kp2,.inl ⟨_,rfl,m5.last M.sb (by simpa using e7) (M.last' (by simp at e7;lia) (by simpa using e7))⟩⟩
       have e7':=e7
       simp at e7'
       refine aA (fun _=>?_) fun _=>?_
       ·exact Zs ⟨kp2,.inr ⟨rfl,m5,by (try dsimp only);lia,by (try dsimp only);(try simp at e6);lia,by simp;lia⟩⟩
       ·exact Zs ⟨kp2,rfl,m5,by (try dsimp only);lia,by (try dsimp only);(try simp at e6);lia,by simp;lia⟩
      ·have m5:=m3.pushA M.sa hA1 (fun j hj h=>hl3 j hj (by lia) (by lia))
       refine ba hA1 (fun e7=>?_) fun e7=>?_
       ·exact Zs ⟨kp2,.inl ⟨_,rfl,m5.last M.sb (by simpa using e7) (M.last' (by simp at e7;lia) (by simpa using e7))⟩⟩
       have e7':=e7
       simp at e7'
       refine aA (fun _=>?_) fun _=>?_
       ·exact Zs ⟨kp2,.inr ⟨rfl,m5,by (try dsimp only);lia,by (try dsimp only);(try simp at e6);lia,by simp;lia⟩⟩
       ·exact Zs ⟨kp2,rfl,m5,by (try dsimp only);lia,by (try dsimp only);(try simp at e6);lia,by simp;lia⟩
end TS
end
section
open PySem PyProof.Rows
namespace TS
variable {prog:Program} {w:World} {A:Around} {E:Value->Shared->Prop} {s:Shared} {κ:SortKind} {G:Keyed->Prop} {r:Keyed->Keyed->Bool}
theorem uW {a:Array Keyed} {n:Nat} {x:Keyed} (h:x∈a.toList.take n):∃ j,∃ (hj:j < a.size),j < n/\a[j]=x:=by
 obtain ⟨m,hm,e⟩:=List.getElem_of_mem h
 rw [List.length_take] at hm
 rw [List.getElem_take] at e
 have:m < a.size:=by simpa using (by lia:m < a.toList.length)
 exact ⟨m,this,by lia,by simpa using e⟩
structure HI (r:Keyed->Keyed->Bool) (a b out:Array Keyed) (na nb:Nat):Prop where
 pm:(a.toList.take na++(b.toList.take nb++out.toList.reverse)).Perm (a.toList++b.toList)
 so:out.toList.reverse.Pairwise (le r)
 la:∀ x∈out.toList,∀ y∈a.toList.take na,le r y x
 lb:∀ x∈out.toList,∀ y∈b.toList.take nb,le r y x
theorem HI.size {a b out:Array Keyed} {na nb:Nat} (m:HI r a b out na nb) (h1:na<=a.size) (h2:nb<=b.size):out.size+na+nb=a.size+b.size:=by
 have:=m.pm.length_eq
 simp at this
 lia
theorem HI.appA {a b out:Array Keyed} {na nb k:Nat} (m:HI r a b out na nb) (sa:Seg r a 0 a.size) (hk:k<=na) (hl:∀ i (hi:i < a.size),k<=i->i < na->∀ j (hj:j < b.size),j < nb->le r b[j] a[i]) :
  HI r a b (out++(a.extract k na).reverse) k nb:=by
 have e1:(out++(a.extract k na).reverse).toList.reverse=(a.toList.drop k).take (na - k)++out.toList.reverse:=by
  simp [List.extract_eq_drop_take]
 have e2:a.toList.take na=a.toList.take k++(a.toList.drop k).take (na - k):=by
  rw [← List.take_append_drop k (a.toList.take na),List.take_take,List.drop_take,Nat.min_eq_left hk]
 have pa:(a.toList.take na).Pairwise (le r):=(gP sa).take
 rw [e2,List.pairwise_append] at pa
 have mem:∀ x,x∈(out++(a.extract k na).reverse).toList->x∈out.toList\/x∈(a.toList.drop k).take (na - k):=fun x hx=>by
  have:x∈(out++(a.extract k na).reverse).toList.reverse:=List.mem_reverse.mpr hx
  rw [e1] at this
  rcases Zh.mp this with h | h
  ·exact .inr h
  ·exact .inl (List.mem_reverse.mp h)
 refine ⟨?_,?_,?_,?_⟩
 ·rw [e1]
  have:=m.pm
  rw [e2] at this
  refine List.Perm.trans ?_ this
  rw [Zf]
  refine List.Perm.append_left _ ?_
  rw [← Zf,← Zf]
  exact List.Perm.append_right _ List.perm_append_comm
 ·rw [e1,List.pairwise_append]
  refine ⟨pa.2.1,m.so,fun x hx y hy=>m.la y (List.mem_reverse.mp hy) x ?_⟩
  rw [e2]
  exact List.mem_append_right _ hx
 ·intro x hx y hy
  rcases mem x hx with hx | hx
  ·exact m.la x hx y (by rw [e2];exact List.mem_append_left _ hy)
  ·exact pa.2.2 y hy x hx
 ·intro x hx y hy
  rcases mem x hx with hx | hx
  ·exact m.lb x hx y hy
  ·obtain ⟨i,hi,h1,h2,rfl⟩:=iI hx
   obtain ⟨j,hj,h3,rfl⟩:=uW hy
   exact hl i hi h1 (by lia) j hj h3
theorem HI.swap {a b out:Array Keyed} {na nb:Nat} (m:HI r a b out na nb):HI r b a out nb na:=by
 refine ⟨?_,m.so,m.lb,m.la⟩
 refine List.Perm.trans ?_ (m.pm.trans List.perm_append_comm)
 rw [← Zf,← Zf]
 exact List.Perm.append_right _ List.perm_append_comm
theorem HI.appB {a b out:Array Keyed} {na nb k:Nat} (m:HI r a b out na nb) (sb:Seg r b 0 b.size) (hk:k<=nb) (hl:∀ i (hi:i < b.size),k<=i->i < nb->∀ j (hj:j < a.size),j < na->le r a[j] b[i]) :
  HI r a b (out++(b.extract k nb).reverse) na k:=(m.swap.appA sb hk hl).swap
theorem vU {a out:Array Keyed} {i:Nat} (h:i < a.size):out.push a[i]=out++(a.extract i (i+1)).reverse:=by
 apply Array.ext'
 have:(a.extract i (i+1)).toList=[a[i]]:=by
  have e:i < a.toList.length:=by simpa using h
  simp [List.extract_eq_drop_take,List.drop_eq_getElem_cons e]
 rw [Array.toList_append,Array.toList_reverse,this,Array.toList_push]
 rfl
theorem HI.pushA {a b out:Array Keyed} {na nb:Nat} (m:HI r a b out na nb) (sa:Seg r a 0 a.size) (h0:0 < na) (h:na - 1 < a.size) (hl:∀ j (hj:j < b.size),j < nb->le r b[j] a[na - 1]):HI r a b (out.push a[na - 1]) (na - 1) nb:=by
 rw [vU h]
 have e:na - 1+1=na:=by lia
 rw [e]
 refine m.appA sa (by lia) fun i hi h1 h2 j hj h3=>?_
 have:i=na - 1:=by lia
 subst this
 exact hl j hj h3
theorem HI.pushB {a b out:Array Keyed} {na nb:Nat} (m:HI r a b out na nb) (sb:Seg r b 0 b.size) (h0:0 < nb) (h:nb - 1 < b.size) (hl:∀ j (hj:j < a.size),j < na->le r a[j] b[nb - 1]):HI r a b (out.push b[nb - 1]) na (nb - 1):=(m.swap.pushA sb h0 h hl).swap
theorem wN {a:Array Keyed} {n:Nat}:(a.extract 0 n).toList=a.toList.take n:=by
 rw [Array.toList_extract,List.extract_eq_drop_take,List.drop_zero,Nat.sub_zero]
theorem HI.fin {a b out:Array Keyed} {na nb:Nat} (m:HI r a b out na nb) (sa:Seg r a 0 a.size) (sb:Seg r b 0 b.size) (h:na=0\/nb=0):MR r a b (a.extract 0 na++b.extract 0 nb++out.reverse):=by
 have e:(a.extract 0 na++b.extract 0 nb++out.reverse).toList=a.toList.take na++(b.toList.take nb++out.toList.reverse):=by
  rw [Array.toList_append,Array.toList_append,wN,wN,Zf,Array.toList_reverse]
 refine ⟨by rw [e];exact m.pm,?_⟩
 rw [e,← Zf,List.pairwise_append]
 refine ⟨?_,m.so,fun x hx y hy=>?_⟩
 ·rcases h with h | h
  ·subst h
   rw [List.take_zero,List.nil_append]
   exact (gP sb).take
  ·subst h
   rw [List.take_zero,List.append_nil]
   exact (gP sa).take
 ·rcases Zh.mp hx with hx | hx
  ·exact m.la y (List.mem_reverse.mp hy) x hx
  ·exact m.lb y (List.mem_reverse.mp hy) x hx
theorem HI.first {a b out:Array Keyed} {na nb:Nat} (m:HI r a b out na nb) (sa:Seg r a 0 a.size) (h:nb=1) (hb:0 < b.size) (hl:∀ j (hj:j < a.size),le r b[0] a[j]):MR r a b (b.extract 0 nb++a.extract 0 na++out.reverse):=by
 have e:(b.extract 0 nb++a.extract 0 na++out.reverse).toList=b.toList.take nb++(a.toList.take na++out.toList.reverse):=by
  rw [Array.toList_append,Array.toList_append,wN,wN,Zf,Array.toList_reverse]
 have e2:b.toList.take nb=[b[0]]:=by
  subst h
  have:=qw hb
  rw [List.drop_zero] at this
  rw [this]
  rfl
 refine ⟨?_,?_⟩
 ·rw [e]
  exact m.swap.pm.trans List.perm_append_comm
 rw [e,← Zf,List.pairwise_append]
 refine ⟨?_,m.so,fun x hx y hy=>?_⟩
 ·rw [List.pairwise_append]
  refine ⟨by rw [e2];exact List.pairwise_singleton _ _,(gP sa).take,fun x hx y hy=>?_⟩
  rw [e2] at hx
  obtain ⟨j,hj,_,rfl⟩:=uW hy
  rw [Zi.mp hx]
  exact hl j hj
 ·rcases Zh.mp hx with hx | hx
  ·exact m.lb y (List.mem_reverse.mp hy) x hx
  ·exact m.la y (List.mem_reverse.mp hy) x hx
theorem MC.first' (C:Cmp prog w A E s κ G r) {a b:Array Keyed} (M:MC G r a b):∀ j (hj:j < a.size),le r (b[0]'M.nb) a[j]:=fun j hj=>M.bA C M.na M.nb M.first j hj (Nat.zero_le _)
theorem Ce (C:Cmp prog w A E s κ G r) {a b:Array Keyed} {st:SortSt} {Q:Array Keyed->SortSt->Prop} (hk:kindOf st=κ) (M:MC G r a b) (h:∀ res st',fz st st'->MR r a b res->Q res st') :
  wpS (model prog w) A E s (jC a b) Q st:=by
 have hna:=M.na
 have hnb:=M.nb
 unfold jC
 change wpS (model prog w) A E s (_ >>= _) Q st
 dsimp only
 have hl0:a.size - 1 < a.size:=by lia
 refine Zr (fJ ?_)
 have m0:HI r a b #[] a.size b.size:=⟨by simp [List.take_of_length_le],by simp,by simp,by simp⟩
 have m1:HI r a b #[a[a.size - 1]] (a.size - 1) b.size:=m0.pushA M.sa hna hl0 fun j hj _=>M.last j hj
 have kp0:fz st st:=⟨rfl,rfl,rfl,rfl⟩
 refine ba hl0 (fun e=>?_) fun e1=>?_
 ·exact Zs (h _ _ kp0 (m1.fin M.sa M.sb (.inl (by simpa using e))))
 refine aA (fun e=>?_) fun e2=>?_
 ·exact Zs (h _ _ kp0 (m1.first M.sa (by simpa using e) M.nb (M.first' C)))
 have e1':0 < a.size - 1:=by simp at e1;lia
 have e2':1 < b.size:=by simp at e2;lia
 refine Zr (wpS_get ?_)
 refine Zr (wpS_mono (wpS_forRange
  (I:=fun x c st'=>fz st st'/\c.1=none/\HI r a b c.2.2.2.1 c.2.1 c.2.2.1/\0 < c.2.1/\c.2.1<=a.size/\1 < c.2.2.1/\c.2.2.1<=b.size/\x < c.2.2.2.1.size)
  (Q:=fun c st'=>fz st st'/\∃ res,c.1=some res/\MR r a b res) ?step ?fin ?init) ?post)
 case init=>exact ⟨kp0,rfl,m1,e1',by (try dsimp only);lia,e2',Zt _,by simp⟩
 case fin =>
  refine sO fun c1 na nb out mg st' hh=>?_
  have kp:=hh.1
  have q1:=hh.2.1
  have m:=hh.2.2.1
  have q2:=hh.2.2.2.1
  have q3:=hh.2.2.2.2.1
  have q5:=hh.2.2.2.2.2.1
  have q6:=hh.2.2.2.2.2.2.1
  have q4:=hh.2.2.2.2.2.2.2
  clear hh
  dsimp only at *
  have:=m.size (by lia) (by lia)
  lia
 case post =>
  refine sO fun c1 na nb out mg=>?_
  rintro st' ⟨kp,res,q1,q2⟩
  dsimp only at *
  subst q1
  exact Zs (h _ _ kp q2)
 case step =>
  intro x
  refine sO fun c1 na nb out mg st' _ hx hh=>?_
  have kp:=hh.1
  have q1:=hh.2.1
  have m:=hh.2.2.1
  have q2:=hh.2.2.2.1
  have q3:=hh.2.2.2.2.1
  have q5:=hh.2.2.2.2.2.1
  have q6:=hh.2.2.2.2.2.2.1
  have q4:=hh.2.2.2.2.2.2.2
  clear hh
  dsimp only at *
  refine Zr (wpS_mono (wpS_forRange
   (I:=fun y c st'=>fz st st'/\c.1=none/\HI r a b c.2.2.2.1 c.2.1 c.2.2.1/\0 < c.2.1/\c.2.1<=a.size/\1 < c.2.2.1/\c.2.2.1<=b.size/\x+y < c.2.2.2.1.size)
   (Q:=fun c st'=>fz st st'/\((∃ res,c.1=some res/\MR r a b res)\/(c.1=none/\HI r a b c.2.2.2.1 c.2.1 c.2.2.1/\0 < c.2.1/\c.2.1<=a.size/\1 < c.2.2.1/\c.2.2.1<=b.size/\x+1 < c.2.2.2.1.size))) ?step2 ?fin2 ?init2) ?post2)
  case init2=>exact ⟨kp,rfl,m,q2,q3,q5,q6,by simpa using q4⟩
  case fin2 =>
   refine oC fun c1 na nb out ac bc st' hh=>?_
   have kp:=hh.1
   have q1:=hh.2.1
   have m:=hh.2.2.1
   have q2:=hh.2.2.2.1
   have q3:=hh.2.2.2.2.1
   have q5:=hh.2.2.2.2.2.1
   have q6:=hh.2.2.2.2.2.2.1
   have q4:=hh.2.2.2.2.2.2.2
   clear hh
   dsimp only at *
   exact ⟨kp,.inr ⟨q1,m,q2,q3,q5,q6,by (try dsimp only);lia⟩⟩
  case step2 =>
   intro y
   refine oC fun c1 na nb out ac bc st' _ hy hh=>?_
   have kp:=hh.1
   have q1:=hh.2.1
   have m:=hh.2.2.1
   have q2:=hh.2.2.2.1
   have q3:=hh.2.2.2.2.1
   have q5:=hh.2.2.2.2.2.1
   have q6:=hh.2.2.2.2.2.2.1
   have q4:=hh.2.2.2.2.2.2.2
   clear hh
   dsimp only at *
   have hA1:na - 1 < a.size:=by lia
   have hB1:nb - 1 < b.size:=by lia
   have gA:=M.ga _ (Zl hA1)
   have gB:=M.gb _ (Zl hB1)
   refine gO hB1 (dw hA1 ?_)
   refine Zr (C.run _ _ _ _ (kp.1.trans hk) gB gA ?_)
   dsimp only
   cases e:r b[nb - 1] a[na - 1] with
   | true =>
    rw [if_pos rfl]
    have m2:=m.pushA M.sa q2 hA1 (fun j hj hjn=>C.tr (M.gb _ (Zl hj)) gB gA (M.sb j _ hj hB1 (Nat.zero_le _) (by lia) hB1) (C.le_of gB gA e))
    refine ba hA1 (fun e3=>?_) fun e3=>?_
    ·exact Zs ⟨kp,.inl ⟨_,rfl,m2.fin M.sa M.sb (.inl (by simpa using e3))⟩⟩
    ·have e3':0 < na - 1:=by simp at e3;lia
     refine aA (fun _=>?_) fun _=>?_
     ·exact Zs ⟨kp,.inr ⟨rfl,m2,e3',by (try dsimp only);lia,q5,q6,by simp;lia⟩⟩
     ·exact Zs ⟨kp,rfl,m2,e3',by (try dsimp only);lia,q5,q6,by simp;lia⟩
   | false =>
    rw [if_neg Zp]
    have m2:=m.pushB M.sb (by lia) hB1 (fun j hj hjn=>C.tr (M.ga _ (Zl hj)) gA gB (M.sa j _ hj hA1 (Nat.zero_le _) (by lia) hA1) e)
    refine ba hB1 (fun e3=>?_) fun e3=>?_
    ·exact Zs ⟨kp,.inl ⟨_,rfl,m2.first M.sa (by simpa using e3) M.nb (M.first' C)⟩⟩
    ·have e3':1 < nb - 1:=by simp at e3;lia
     refine aA (fun _=>?_) fun _=>?_
     ·exact Zs ⟨kp,.inr ⟨rfl,m2,q2,q3,e3',by (try dsimp only);lia,by simp;lia⟩⟩
     ·exact Zs ⟨kp,rfl,m2,q2,q3,e3',by (try dsimp only);lia,by simp;lia⟩
  case post2 =>
   refine oC fun c1 na nb out ac bc=>?_
   rintro st' ⟨kp,⟨res,q1,q2⟩ | ⟨q1,m,q2,q3,q5,q6,q4⟩⟩
   ·dsimp only at *
    subst q1
    exact Zs ⟨kp,res,rfl,q2⟩
   ·dsimp only at *
    subst q1
    dsimp only
    refine Zr (fJ ?_)
    refine Zr (wpS_mono (wpS_forRange
     (I:=fun y c st'=>fz st st'/\c.1=none/\HI r a b c.2.2.2.1 c.2.1 c.2.2.1/\0 < c.2.1/\c.2.1<=a.size/\1 < c.2.2.1/\c.2.2.1<=b.size/\x+1 < c.2.2.2.1.size)
     (Q:=fun c st'=>fz st st'/\((∃ res,c.1=some res/\MR r a b res)\/(c.1=none/\HI r a b c.2.2.2.1 c.2.1 c.2.2.1/\0 < c.2.1/\c.2.1<=a.size/\1 < c.2.2.1/\c.2.2.1<=b.size/\x+1 < c.2.2.2.1.size))) ?step3 ?fin3 ?init3) ?post3)
    case init3=>exact ⟨kp,rfl,m,q2,q3,q5,q6,q4⟩
    case fin3 =>
     refine oC fun c1 na nb out ac bc st' hh=>?_
     have kp:=hh.1
     have q1:=hh.2.1
     have m:=hh.2.2.1
     have q2:=hh.2.2.2.1
     have q3:=hh.2.2.2.2.1
     have q5:=hh.2.2.2.2.2.1
     have q6:=hh.2.2.2.2.2.2.1
     have q4:=hh.2.2.2.2.2.2.2
     clear hh
     exact ⟨kp,.inr ⟨q1,m,q2,q3,q5,q6,q4⟩⟩
    case post3 =>
     refine yy fun c1 na nb out mg ac bc=>?_
     rintro st' ⟨kp,⟨res,q1,q2⟩ | ⟨q1,m,q2,q3,q5,q6,q4⟩⟩
     ·dsimp only at *
      subst q1
      exact Zs ⟨kp,res,rfl,q2⟩
     ·dsimp only at *
      subst q1
      dsimp only
      exact Zr (gn kp fun st2 kp2=>Zs ⟨kp2,rfl,m,q2,q3,q5,q6,q4⟩)
    case step3 =>
     intro y
     refine yy fun c1 na nb out mg ac bc st' _ hy hh=>?_
     have kp:=hh.1
     have q1:=hh.2.1
     have m:=hh.2.2.1
     have q2:=hh.2.2.2.1
     have q3:=hh.2.2.2.2.1
     have q5:=hh.2.2.2.2.2.1
     have q6:=hh.2.2.2.2.2.2.1
     have q4:=hh.2.2.2.2.2.2.2
     clear hh
     dsimp only at *
     have both:∀ {mg:Nat} {F:Unit->StateT SortSt Sem (ForInStep (Option (Array Keyed)×Nat×Nat×Array Keyed×Nat×Nat×Nat))} {P},(∀ st2,fz st st2->wpS (model prog w) A E s (F ()) P st2)->wpS (model prog w) A E s (dR mg >>= F) P st':=fun hF=>Zr (gn kp fun st2 kp2=>hF st2 kp2)
     revert mg
     refine qy (fun _=>rfl) fun mg2=>?_
     refine both fun st2 kp2=>?_
     have hB0:0 < nb:=by lia
     have hB1:nb - 1 < b.size:=by lia
     have gB:=M.gb _ (Zl hB1)
     refine gO hB1 (ft C (kp2.1.trans hk) gB M.ga (by lia) (by lia) (gU M.sa _ _) fun k hk1 hk2 hk3=>?_)
     dsimp only
     refine aA (fun e5=>?_) fun e5=>?_
     ·have m2:=m.appA (k:=k) M.sa (by lia) (fun i hi h1 h2 j hj h3=>C.tr (M.gb _ (Zl hj)) gB (M.ga _ (Zl hi)) (M.sb j _ hj hB1 (Nat.zero_le _) (by lia) hB1) (hk3 i hi (by lia) (by lia)))
      refine aA (fun e7=>?_) fun e7=>?_
      ·exact Zs ⟨kp2,.inl ⟨_,rfl,m2.fin M.sa M.sb (.inl (by simpa using e7))⟩⟩
      have hA0:0 < k:=by simp at e7;lia
      have hA1:k - 1 < a.size:=by lia
      have hle:∀ j (hj:j < a.size),j < k->le r a[j] b[nb - 1]:=fun j hj h=>hk2 j hj (Nat.zero_le _) (by lia)
      clear e7
      have m3:=m2.pushB M.sb hB0 hB1 hle
      refine ba hB1 (fun e4=>?_) fun e4=>?_
      ·exact Zs ⟨kp2,.inl ⟨_,rfl,m3.first M.sa (by simpa using e4) M.nb (M.first' C)⟩⟩
      have e4':1 < nb - 1:=by simp at e4;lia
      refine gO hA1 (ft C (kp2.1.trans hk) (M.ga _ (Zl hA1)) M.gb (by lia) (by lia) (gU M.sb _ _) fun k2 hl1 hl2 hl3=>?_)
      dsimp only
      have m4:=m3.appB (k:=k2) M.sb (by lia) (fun i hi h1 h2 j hj h3=>C.tr (M.ga _ (Zl hj)) (M.ga _ (Zl hA1)) (M.gb _ (Zl hi)) (M.sa j _ hj hA1 (Nat.zero_le _) (by lia) hA1) (hl3 i hi (by lia) (by lia)))
      refine aA (fun e5=>?_) fun e5=>?_
      ·refine aA (fun e6=>?_) fun e6=>?_
       ·exact Zs ⟨kp2,.inl ⟨_,rfl,m4.first M.sa (by simpa using e6) M.nb (M.first' C)⟩⟩
       refine aA (fun e8=>?_) fun e8=>?_
       ·exact Zs ⟨kp2,.inl ⟨_,rfl,m4.fin M.sa M.sb (.inr (by simpa using e8))⟩⟩
       have m5:=m4.pushA M.sa hA0 hA1 (fun j hj h=>hl2 j hj (Nat.zero_le _) (by lia))
       refine ba hA1 (fun e7=>?_) fun e7=>?_
       ·exact Zs ⟨kp2,.inl ⟨_,rfl,m5.fin M.sa M.sb (.inl (by simpa using e7))⟩⟩
       have e7':=e7
       simp at e7'
       refine aA (fun _=>?_) fun _=>?_
       ·exact Zs ⟨kp2,.inr ⟨rfl,m5,by (try dsimp only);lia,by (try dsimp only);lia,by (try dsimp only);(try simp at e6);(try simp at e8);lia,by (try dsimp only);(try simp at e6);lia,by simp;lia⟩⟩
       ·exact Zs ⟨kp2,rfl,m5,by (try dsimp only);lia,by (try dsimp only);lia,by (try dsimp only);(try simp at e6);(try simp at e8);lia,by (try dsimp only);(try simp at e6);lia,by simp;lia⟩
      ·have m5:=m3.pushA M.sa hA0 hA1 (fun j hj h=>hl2 j hj (Nat.zero_le _) (by lia))
       refine ba hA1 (fun e7=>?_) fun e7=>?_
       ·exact Zs ⟨kp2,.inl ⟨_,rfl,m5.fin M.sa M.sb (.inl (by simpa using e7))⟩⟩
       have e7':=e7
       simp at e7'
       refine aA (fun _=>?_) fun _=>?_
       ·exact Zs ⟨kp2,.inr ⟨rfl,m5,by (try dsimp only);lia,by (try dsimp only);lia,by (try dsimp only);(try simp at e6);(try simp at e8);lia,by (try dsimp only);(try simp at e6);lia,by simp;lia⟩⟩
       ·exact Zs ⟨kp2,rfl,m5,by (try dsimp only);lia,by (try dsimp only);lia,by (try dsimp only);(try simp at e6);(try simp at e8);lia,by (try dsimp only);(try simp at e6);lia,by simp;lia⟩
     ·have m2:=m
      have hA0:0 < na:=q2
      have hA1:na - 1 < a.size:=by lia
      have hle:∀ j (hj:j < a.size),j < na->le r a[j] b[nb - 1]:=fun j hj h=>hk2 j hj (Nat.zero_le _) (by lia)
      have m3:=m2.pushB M.sb hB0 hB1 hle
      refine ba hB1 (fun e4=>?_) fun e4=>?_
      ·exact Zs ⟨kp2,.inl ⟨_,rfl,m3.first M.sa (by simpa using e4) M.nb (M.first' C)⟩⟩
      have e4':1 < nb - 1:=by simp at e4;lia
      refine gO hA1 (ft C (kp2.1.trans hk) (M.ga _ (Zl hA1)) M.gb (by lia) (by lia) (gU M.sb _ _) fun k2 hl1 hl2 hl3=>?_)
      dsimp only
      have m4:=m3.appB (k:=k2) M.sb (by lia) (fun i hi h1 h2 j hj h3=>C.tr (M.ga _ (Zl hj)) (M.ga _ (Zl hA1)) (M.gb _ (Zl hi)) (M.sa j _ hj hA1 (Nat.zero_le _) (by lia) hA1) (hl3 i hi (by lia) (by lia)))
      refine aA (fun e5=>?_) fun e5=>?_
      ·refine aA (fun e6=>?_) fun e6=>?_
       ·exact Zs ⟨kp2,.inl ⟨_,rfl,m4.first M.sa (by simpa using e6) M.nb (M.first' C)⟩⟩
       refine aA (fun e8=>?_) fun e8=>?_
       ·exact Zs ⟨kp2,.inl ⟨_,rfl,m4.fin M.sa M.sb (.inr (by simpa using e8))⟩⟩
       have m5:=m4.pushA M.sa hA0 hA1 (fun j hj h=>hl2 j hj (Nat.zero_le _) (by lia))
       refine ba hA1 (fun e7=>?_) fun e7=>?_
       ·exact Zs ⟨kp2,.inl ⟨_,rfl,m5.fin M.sa M.sb (.inl (by simpa using e7))⟩⟩
       have e7':=e7
       simp at e7'
       refine aA (fun _=>?_) fun _=>?_
       ·exact Zs ⟨kp2,.inr ⟨rfl,m5,by (try dsimp only);lia,by (try dsimp only);lia,by (try dsimp only);(try simp at e6);(try simp at e8);lia,by (try dsimp only);(try simp at e6);lia,by simp;lia⟩⟩
       ·exact Zs ⟨kp2,rfl,m5,by (try dsimp only);lia,by (try dsimp only);lia,by (try dsimp only);(try simp at e6);(try simp at e8);lia,by (try dsimp only);(try simp at e6);lia,by simp;lia⟩
      ·have m5:=m3.pushA M.sa hA0 hA1 (fun j hj h=>hl2 j hj (Nat.zero_le _) (by lia))
       refine ba hA1 (fun e7=>?_) fun e7=>?_
       ·exact Zs ⟨kp2,.inl ⟨_,rfl,m5.fin M.sa M.sb (.inl (by simpa using e7))⟩⟩
       have e7':=e7
       simp at e7'
       refine aA (fun _=>?_) fun _=>?_
       ·exact Zs ⟨kp2,.inr ⟨rfl,m5,by (try dsimp only);lia,by (try dsimp only);lia,by (try dsimp only);(try simp at e6);(try simp at e8);lia,by (try dsimp only);(try simp at e6);lia,by simp;lia⟩⟩
       ·exact Zs ⟨kp2,rfl,m5,by (try dsimp only);lia,by (try dsimp only);lia,by (try dsimp only);(try simp at e6);(try simp at e8);lia,by (try dsimp only);(try simp at e6);lia,by simp;lia⟩
end TS
end
section
open PySem PyProof.Rows
namespace TS
variable {prog:Program} {w:World} {A:Around} {E:Value->Shared->Prop} {s:Shared} {κ:SortKind} {G:Keyed->Prop} {r:Keyed->Keyed->Bool}
noncomputable def K (xs:Array Keyed) (i:Nat):Keyed:=(xs[i]?).getD (.none,.none)
theorem uR {xs:Array Keyed} {i:Nat} (h:i < xs.size):K xs i=xs[i]:=by unfold K;rw [getElem?_pos xs i h];rfl
noncomputable def Sg (r:Keyed->Keyed->Bool) (xs:Array Keyed) (lo hi:Nat):Prop:=∀ i j,lo<=i->i<=j->j < hi->le r (K xs i) (K xs j)
noncomputable def Ds (r:Keyed->Keyed->Bool) (xs:Array Keyed) (lo hi:Nat):Prop:=∀ i j,lo<=i->i<=j->j < hi->le r (K xs j) (K xs i)
theorem je {xs:Array Keyed} {i j:Nat} (hj:j<=xs.size) (k:Nat):K (mirror xs i j ((j - i) / 2)) k=if i<=k/\k < j then K xs (i+j - 1 - k) else K xs k:=by
 unfold K
 rw [getElem?_mirror_all hj]
 split <;> rfl
theorem zS {xs:Array Keyed} {src d:Nat} (hs:src < xs.size) (hd:d<=src) (k:Nat):K (bubble xs src d) k=if k=src - d then K xs src else if src - d < k/\k<=src then K xs (k - 1) else K xs k:=by
 unfold K
 rw [getElem?_bubble hs d hd]
 split
 ·rfl
 ·split <;> rfl
structure Lc (lo:Nat) (st0 st:SortSt):Prop where
 kind:kindOf st=kindOf st0
 pend:pendingOf st=pendingOf st0
 fail:failedOf st=failedOf st0
 perm:(arrOf st).Perm (arrOf st0)
 pre:∀ j,j < lo->(arrOf st)[j]?=(arrOf st0)[j]?
theorem Lc.refl (lo:Nat) (st:SortSt):Lc lo st st:=⟨rfl,rfl,rfl,Array.Perm.refl _,fun _ _=>rfl⟩
theorem Lc.size {lo:Nat} {st0 st:SortSt} (L:Lc lo st0 st):(arrOf st).size=(arrOf st0).size:=L.perm.size_eq
theorem Lc.good {lo:Nat} {st0 st:SortSt} (L:Lc lo st0 st) (g:∀ x∈arrOf st0,G x) {i:Nat} (hi:i < (arrOf st0).size):G (K (arrOf st) i):=by
 rw [uR (by rw [L.size];exact hi)]
 refine g _ ?_
 have:(arrOf st)[i]'(by rw [L.size];exact hi)∈(arrOf st).toList:=by simp
 have:=(Array.perm_iff_toList_perm.mp L.perm).mem_iff.mp this
 simpa using this
theorem Lc.arr {lo:Nat} {st0 st:SortSt} (L:Lc lo st0 st) {xs:Array Keyed} (hp:xs.Perm (arrOf st)) (hx:∀ j,j < lo->xs[j]?=(arrOf st)[j]?):Lc lo st0 (setArr st xs) :=
 ⟨L.kind,L.pend,L.fail,hp.trans L.perm,fun j hj=>(hx j hj).trans (L.pre j hj)⟩
theorem Lc.mir {lo:Nat} {st0 st:SortSt} (L:Lc lo st0 st) {i j:Nat} (hi:lo<=i) (hj:j<=(arrOf st0).size):Lc lo st0 (setArr st (mirror (arrOf st) i j ((j - i) / 2))) :=
 L.arr (mirror_perm _ _ _ _) fun k hk=>by rw [getElem?_mirror_all (by rw [L.size];exact hj),if_neg (by lia)]
theorem i5 (C:Cmp prog w A E s κ G r) {lo:Nat} {st0 st:SortSt} (hk:kindOf st0=κ) (g:∀ x∈arrOf st0,G x) (L:Lc lo st0 st) {i j:Nat} {Q:Option Bool->SortSt->Prop} (hi:i < (arrOf st0).size) (hj:j < (arrOf st0).size)
  (h:Q (some (r (K (arrOf st) i) (K (arrOf st) j))) st):wpS (model prog w) A E s (ltAt' i j) Q st:=by
 have gi:=L.good g hi
 have gj:=L.good g hj
 have hi':i < (arrOf st).size:=by rw [L.size];exact hi
 have hj':j < (arrOf st).size:=by rw [L.size];exact hj
 rw [ltAt'_eq]
 refine Zr (wpS_get ?_)
 refine Zr (dw hi' (Zr (dw hj' ?_)))
 rw [uR hi'] at gi h
 rw [uR hj'] at gj h
 exact C.run st _ _ _ (L.kind.trans hk) gi gj h
theorem Ds.mir (C:Cmp prog w A E s κ G r) {xs:Array Keyed} {lo hi i:Nat} (D:Ds r xs lo hi) (gx:∀ k,k < hi->G (K xs k)) (h1:lo<=i) (h2:hi<=xs.size) (h3:∀ k,i<=k->k < hi->le r (K xs k) (K xs (hi - 1))) :
  Ds r (mirror xs i hi ((hi - i) / 2)) lo hi:=fun p q hp hpq hq=>by
 rw [je h2,je h2]
 have eqv:∀ u v,i<=u->u < hi->i<=v->v < hi->le r (K xs u) (K xs v):=fun u v a b c d=>C.tr (gx u b) (gx _ (by omega)) (gx v d) (h3 u a b) (D v (hi - 1) (by omega) (by omega) (by omega))
 split
 ·split
  ·exact eqv _ _ (by omega) (by omega) (by omega) (by omega)
  ·exact D p _ hp (by omega) (by omega)
 ·split
  ·omega
  ·exact D p q hp hpq hq
theorem Ds.rev {xs:Array Keyed} {lo hi:Nat} (D:Ds r xs lo hi) (h2:hi<=xs.size):Sg r (mirror xs lo hi ((hi - lo) / 2)) lo hi:=fun p q hp hpq hq=>by
 rw [je h2,je h2,if_pos ⟨hp,by omega⟩,if_pos ⟨by omega,hq⟩]
 exact D _ _ (by omega) (by omega) (by omega)
theorem Sg.snoc (C:Cmp prog w A E s κ G r) {xs:Array Keyed} {lo n:Nat} (S:Sg r xs lo (lo+n)) (gx:∀ k,k<=lo+n->G (K xs k)) (h1:1<=n) (h:le r (K xs (lo+n - 1)) (K xs (lo+n))):Sg r xs lo (lo+n+1):=fun i j hi hij hj=>by
 by_cases e:j < lo+n
 ·exact S i j hi hij e
 ·have:j=lo+n:=by lia
  subst this
  by_cases e2:i=lo+n
  ·subst e2
   exact C.refl (gx _ (Zt _))
  ·exact C.tr (gx i (by lia)) (gx _ (by lia)) (gx _ (Zt _)) (S i (lo+n - 1) hi (by lia) (by lia)) h
theorem Ds.snoc (C:Cmp prog w A E s κ G r) {xs:Array Keyed} {lo n:Nat} (S:Ds r xs lo (lo+n)) (gx:∀ k,k<=lo+n->G (K xs k)) (h1:1<=n) (h:le r (K xs (lo+n)) (K xs (lo+n - 1))):Ds r xs lo (lo+n+1):=fun i j hi hij hj=>by
 by_cases e:j < lo+n
 ·exact S i j hi hij e
 ·have:j=lo+n:=by lia
  subst this
  by_cases e2:i=lo+n
  ·subst e2
   exact C.refl (gx _ (Zt _))
  ·exact C.tr (gx _ (Zt _)) (gx _ (by lia)) (gx i (by lia)) h (S i (lo+n - 1) hi (by lia) (by lia))
theorem jx {st:SortSt} {i j:Nat} {Q:Unit->SortSt->Prop} (h:Q () (setArr st (mirror (arrOf st) i j ((j - i) / 2)))):wpS (model prog w) A E s (reverseSlice' i j) Q st:=by
 rw [reverseSlice'_eq]
 exact wpS_modify h
theorem nL {α:Type} {c:Prop} [Decidable c] {x R:StateT SortSt Sem α} {Q:α->SortSt->Prop} {P:SortSt->Prop} {st:SortSt} (D:∀ st1,P st1->wpS (model prog w) A E s R Q st1) (h2:¬ c->P st) (h1:c->(∀ st1,P st1->wpS (model prog w) A E s R Q st1)->wpS (model prog w) A E s x Q st):wpS (model prog w) A E s (if c then x else R) Q st :=
 aA (fun z=>h1 z D) fun z=>D st (h2 z)
theorem Ba (C:Cmp prog w A E s κ G r) {lo n:Nat} {st:SortSt} {Q:Option Nat->SortSt->Prop} (hk:kindOf st=κ) (g:∀ x∈arrOf st,G x) (h0:1<=n) (hn:lo+n<=(arrOf st).size)
  (h:∀ m st',Lc lo st st'->1<=m->m<=n->Sg r (arrOf st') lo (lo+m)->Q (some m) st'):wpS (model prog w) A E s (countRun' lo n) Q st:=by
 unfold countRun'
 change wpS (model prog w) A E s (_ >>= _) Q st
 dsimp only
 have L0:=Lc.refl lo st
 have n01:1<=1:=Zt _
 have s0:Sg r (arrOf st) lo (lo+1):=fun i j h1 h2 h3=>by
  have e1:i=lo:=by lia
  have e2:j=lo:=by lia
  subst e1 e2
  exact C.refl (L0.good g (by lia))
 refine Zr (wpS_mono (wpS_forRange
  (I:=fun x c st'=>Lc lo st st'/\c.1=none/\c.2=x/\1<=x/\Sg r (arrOf st') lo (lo+x))
  (Q:=fun c st'=>Lc lo st st'/\c.1=none/\1<=c.2/\c.2<=n/\Sg r (arrOf st') lo (lo+c.2)/\(c.2 < n->r (K (arrOf st') (lo+c.2)) (K (arrOf st') (lo+c.2 - 1))=true)) ?stepA ?finA ?initA) ?postA)
 case initA=>exact ⟨L0,rfl,rfl,n01,s0⟩
 case finA =>
  refine all2 fun c1 c2=>?_
  rintro st' ⟨L,q1,q2,q3,q4⟩
  dsimp only at *
  subst q2
  refine ⟨L,q1,by (try dsimp only);lia,by (try dsimp only);lia,q4,fun z=>?_⟩
  (try dsimp only at z)
  lia
 case stepA =>
  intro x
  refine all2 fun c1 c2=>?_
  rintro st' hx1 hx2 ⟨L,q1,q2,q3,q4⟩
  dsimp only at *
  subst q2
  refine Zr (i5 C hk g L (by lia) (by lia) ?_)
  dsimp only
  have gx:∀ k,k<=lo+c2->G (K (arrOf st') k):=fun k hk=>L.good g (by lia)
  cases e:r (K (arrOf st') (lo+c2)) (K (arrOf st') (lo+c2 - 1)) with
  | true=>exact Zs ⟨L,rfl,q3,by (try dsimp only);lia,q4,fun _=>e⟩
  | false=>exact Zs ⟨L,rfl,rfl,by lia,Sg.snoc C q4 gx q3 e⟩
 case postA =>
  refine all2 fun c1 c2=>?_
  rintro st' ⟨L,q1,q2,q3,q4,q5⟩
  dsimp only at *
  subst q1
  dsimp only
  refine aA (fun e=>?_) fun e=>?_
  ·exact Zs (h c2 st' L q2 q3 q4)
  have e':c2 < n:=by simp at e;lia
  have sm:=q5 e'
  have gx:∀ k,k<=lo+c2->G (K (arrOf st') k):=fun k hk=>L.good g (by lia)
  have le1:le r (K (arrOf st') (lo+c2)) (K (arrOf st') (lo+c2 - 1)):=C.le_of (gx _ (by lia)) (gx _ (by lia)) sm
  have hsz:=L.size
  refine nL (P:=fun st1=>Lc lo st st1/\Ds r (arrOf st1) lo (lo+(c2+1))) ?D ?two ?one
  case one =>
   intro e3 Dk
   refine Zr (i5 C hk g L (by lia) (by lia) ?_)
   dsimp only
   cases e4:r (K (arrOf st') lo) (K (arrOf st') (lo+c2 - 1)) with
   | true=>exact Zs (h c2 st' L q2 q3 q4)
   | false =>
    rw [if_neg Zp]
    refine Zr (jx ?_)
    have L1:=L.mir (i:=lo) (j:=lo+c2) (by lia) (by lia)
    have d0:Ds r (arrOf st') lo (lo+c2):=fun i j h1 h2 h3=>C.tr (gx j (by lia)) (gx _ (by lia)) (gx i (by lia)) (q4 j (lo+c2 - 1) (by lia) (by lia) (by lia))
     (C.tr (gx _ (by lia)) (gx _ (by lia)) (gx i (by lia)) e4 (q4 lo i (by lia) h1 (by lia)))
    have d2:=Ds.mir C d0 (fun k hk=>gx k (by lia)) (i:=lo) (by lia) (by lia) (fun k h1 h2=>q4 k _ h1 (by lia) (by lia))
    have d1:=Ds.snoc C d2 (fun k hk=>L1.good g (by lia)) q2 (by
     rw [je (by lia),je (by lia),if_neg (by lia),if_pos (by lia)]
     exact C.tr (gx _ (by lia)) (gx _ (by lia)) (gx _ (by lia)) le1 (d0 _ _ (by lia) (by lia) (by lia)))
    exact Dk _ ⟨L1,d1⟩
  case two =>
   intro e3
   have e5:c2=1:=by lia
   have d0:Ds r (arrOf st') lo (lo+c2):=fun i j h1 h2 h3=>by
    have e1:i=lo:=by lia
    have e2:j=lo:=by lia
    subst e1 e2
    exact C.refl (gx _ (by lia))
   have d1:=Ds.snoc C d0 gx q2 le1
   exact ⟨L,d1⟩
  case D =>
   rintro st' ⟨L1,d1⟩
   clear gx hsz
   refine Zr (fJ ?_)
   refine Zr (wpS_mono (wpS_forRange
    (I:=fun x c st'=>Lc lo st st'/\c.1=none/\c.2.1=x/\c.2.2+1<=x/\Ds r (arrOf st') lo (lo+x)/\(∀ k,lo+x - (c.2.2+1)<=k->k < lo+x->le r (K (arrOf st') k) (K (arrOf st') (lo+x - 1))))
    (Q:=fun c st'=>Lc lo st st'/\c.1=none/\c.2.2+1<=c.2.1/\c.2.1<=n/\Ds r (arrOf st') lo (lo+c.2.1)/\(∀ k,lo+c.2.1 - (c.2.2+1)<=k->k < lo+c.2.1->le r (K (arrOf st') k) (K (arrOf st') (lo+c.2.1 - 1)))) ?stepD ?finD ?initD) ?postD)
   case initD =>
    refine ⟨L1,rfl,rfl,by (try dsimp only);lia,d1,fun k h1 h2=>?_⟩
    (try dsimp only at h1 h2)
    have e:k=lo+(c2+1) - 1:=by lia
    subst e
    exact C.refl (L1.good g (by lia))
   case finD =>
    refine gw fun c1 c2' neq=>?_
    rintro st' ⟨L,q1,q2,q3,q4,q5⟩
    dsimp only at *
    subst q2
    exact ⟨L,q1,q3,by (try dsimp only);lia,q4,q5⟩
   case stepD =>
    intro x
    refine gw fun c1 c2' neq=>?_
    rintro st' hx1 hx2 ⟨L,q1,q2,q3,q4,q5⟩
    dsimp only at *
    subst q2
    refine Zr (i5 C hk g L (by lia) (by lia) ?_)
    dsimp only
    have gx:∀ k,k<=lo+c2'->G (K (arrOf st') k):=fun k hk=>L.good g (by lia)
    have hsz:=L.size
    cases e:r (K (arrOf st') (lo+c2')) (K (arrOf st') (lo+c2' - 1)) with
    | true =>
     rw [if_pos rfl]
     have le1:le r (K (arrOf st') (lo+c2')) (K (arrOf st') (lo+c2' - 1)):=C.le_of (gx _ (by lia)) (gx _ (by lia)) e
     refine aA (fun z=>?_) fun z=>?_
     ·refine Zr (jx ?_)
      have L2:=L.mir (i:=lo+c2' - (neq+1)) (j:=lo+c2') (by lia) (by lia)
      have d2:=Ds.mir C q4 (fun k hk=>gx k (by lia)) (i:=lo+c2' - (neq+1)) (by lia) (by lia) q5
      refine Zs ⟨L2,rfl,rfl,by (try dsimp only);lia,Ds.snoc C d2 (fun k hk=>L2.good g (by lia)) (by lia) ?_,fun k h1 h2=>?_⟩
      ·show le r (K (mirror _ _ _ _) _) (K (mirror _ _ _ _) _)
       rw [je (by lia),je (by lia),if_neg (by lia),if_pos (by lia)]
       exact C.tr (gx _ (by lia)) (gx _ (by lia)) (gx _ (by lia)) le1 (q4 _ _ (by lia) (by lia) (by lia))
      ·(try dsimp only at h1 h2)
       have e:k=lo+(c2'+1) - 1:=by lia
       subst e
       exact C.refl (L2.good g (by lia))
     ·refine Zs ⟨L,rfl,rfl,by (try dsimp only);lia,Ds.snoc C q4 gx (by lia) le1,fun k h1 h2=>?_⟩
      (try dsimp only at h1 h2)
      have e:k=lo+(c2'+1) - 1:=by lia
      subst e
      exact C.refl (L.good g (by lia))
    | false =>
     rw [if_neg Zp]
     refine Zr (i5 C hk g L (by lia) (by lia) ?_)
     dsimp only
     cases e2:r (K (arrOf st') (lo+c2' - 1)) (K (arrOf st') (lo+c2')) with
     | true=>exact Zs ⟨L,rfl,q3,by (try dsimp only);lia,q4,q5⟩
     | false =>
      refine Zs ⟨L,rfl,rfl,by (try dsimp only);lia,Ds.snoc C q4 gx (by lia) e2,fun k h1 h2=>?_⟩
      (try dsimp only at h1 h2)
      have ee:lo+(c2'+1) - 1=lo+c2':=by lia
      rw [ee]
      by_cases ek:k=lo+c2'
      ·subst ek
       exact C.refl (gx _ (by lia))
      ·exact C.tr (gx _ (by lia)) (gx _ (by lia)) (gx _ (by lia)) (q5 k (by lia) (by lia)) e
   case postD =>
    refine gw fun c1 c2' neq=>?_
    rintro st' ⟨L,q1,q3,q6,q4,q5⟩
    dsimp only at *
    subst q1
    dsimp only
    have gx:∀ k,k < lo+c2'->G (K (arrOf st') k):=fun k hk=>L.good g (by lia)
    have hsz:=L.size
    have n01:1<=c2':=by lia
    refine nL (P:=fun st1=>Lc lo st st1/\Ds r (arrOf st1) lo (lo+c2')) ?R ?two2 ?one2
    case one2 =>
     intro z Dk2
     refine Zr (jx ?_)
     have L2:=L.mir (i:=lo+c2' - (neq+1)) (j:=lo+c2') (by lia) (by lia)
     have d2:=Ds.mir C q4 gx (i:=lo+c2' - (neq+1)) (by lia) (by lia) q5
     exact Dk2 _ ⟨L2,d2⟩
    case two2=>exact fun _=>⟨L,q4⟩
    case R =>
     clear q4 q5 gx hsz L
     rintro st' ⟨L,q4⟩
     have hsz:=L.size
     refine Zr (jx ?_)
     have L0:=L.mir (i:=lo) (j:=lo+c2') (by lia) (by lia)
     have s0:=q4.rev (by lia)
     refine Zr (wpS_mono (wpS_forRange
      (I:=fun x c st'=>Lc lo st st'/\c.1=none/\c.2=x/\1<=x/\Sg r (arrOf st') lo (lo+x))
      (Q:=fun c st'=>Lc lo st st'/\c.1=none/\1<=c.2/\c.2<=n/\Sg r (arrOf st') lo (lo+c.2)/\(c.2 < n->r (K (arrOf st') (lo+c.2)) (K (arrOf st') (lo+c.2 - 1))=true)) ?stepA ?finA ?initA) ?postA)
     case initA=>exact ⟨L0,rfl,rfl,n01,s0⟩
     case finA =>
      refine all2 fun c1 c2=>?_
      rintro st' ⟨L,q1,q2,q3,q4⟩
      dsimp only at *
      subst q2
      refine ⟨L,q1,by (try dsimp only);lia,by (try dsimp only);lia,q4,fun z=>?_⟩
      (try dsimp only at z)
      lia
     case stepA =>
      intro x
      refine all2 fun c1 c2=>?_
      rintro st' hx1 hx2 ⟨L,q1,q2,q3,q4⟩
      dsimp only at *
      subst q2
      refine Zr (i5 C hk g L (by lia) (by lia) ?_)
      dsimp only
      have gx:∀ k,k<=lo+c2->G (K (arrOf st') k):=fun k hk=>L.good g (by lia)
      cases e:r (K (arrOf st') (lo+c2)) (K (arrOf st') (lo+c2 - 1)) with
      | true=>exact Zs ⟨L,rfl,q3,by (try dsimp only);lia,q4,fun _=>e⟩
      | false=>exact Zs ⟨L,rfl,rfl,by lia,Sg.snoc C q4 gx q3 e⟩
     case postA =>
      refine all2 fun c1 c3=>?_
      rintro st' ⟨L,q1,q2,q3,q4,q5⟩
      dsimp only at *
      subst q1
      exact Zs (h c3 st' L q2 q3 q4)
end TS
end
section
open PySem PyProof.Rows
namespace TS
variable {prog:Program} {w:World} {A:Around} {E:Value->Shared->Prop} {s:Shared} {κ:SortKind} {G:Keyed->Prop} {r:Keyed->Keyed->Bool}
theorem um {st:SortSt} {i j:Nat} {Q:Unit->SortSt->Prop} (h:Q () (setArr st (bubble (arrOf st) i (i - j)))):wpS (model prog w) A E s (moveDown' i j) Q st:=by
 rw [moveDown'_eq]
 exact wpS_modify h
theorem Lc.bub {lo:Nat} {st0 st:SortSt} (L:Lc lo st0 st) {i d:Nat} (hd:lo+d<=i) (hj:i < (arrOf st0).size):Lc lo st0 (setArr st (bubble (arrOf st) i d)) :=
 L.arr (bubble_perm _ _ _) fun k hk=>by rw [getElem?_bubble (by rw [L.size];exact hj) d (by lia),if_neg (by lia),if_neg (by lia)]
theorem Bn (C:Cmp prog w A E s κ G r) {lo n ok:Nat} {st:SortSt} {Q:Bool->SortSt->Prop} (hk:kindOf st=κ) (g:∀ x∈arrOf st,G x) (h0:1<=ok) (hok:ok<=n) (hn:lo+n<=(arrOf st).size) (S:Sg r (arrOf st) lo (lo+ok))
  (h:∀ st',Lc lo st st'->Sg r (arrOf st') lo (lo+n)->Q true st'):wpS (model prog w) A E s (binarySort' lo n ok) Q st:=by
 unfold binarySort'
 change wpS (model prog w) A E s (_ >>= _) Q st
 dsimp only
 have em:max ok 1=ok:=by lia
 rw [em]
 refine Zr (wpS_mono (wpS_forRange
  (I:=fun x c st'=>Lc lo st st'/\c.1=none/\Sg r (arrOf st') lo (lo+x))
  (Q:=fun c st'=>Lc lo st st'/\c.1=none/\Sg r (arrOf st') lo (lo+n)) ?step ?fin ?init) ?post)
 case init=>exact ⟨Lc.refl _ _,rfl,S⟩
 case fin =>
  refine all2 fun c1 c2=>?_
  rintro st' ⟨L,q1,q2⟩
  have e:max ok n=n:=by lia
  rw [e] at q2
  exact ⟨L,q1,q2⟩
 case post =>
  refine all2 fun c1 c2=>?_
  rintro st' ⟨L,q1,q2⟩
  dsimp only at *
  subst q1
  exact Zs (h st' L q2)
 case step =>
  intro k
  refine all2 fun c1 c2=>?_
  rintro st' hk1 hk2 ⟨L,q1,q2⟩
  dsimp only at *
  have hsz:=L.size
  have gx:∀ j,j<=lo+k->G (K (arrOf st') j):=fun j hj=>L.good g (by lia)
  refine Zr (wpS_mono (wpS_forRange
   (I:=fun x c st2=>st'=st2/\c.1=none/\c.2.1<=c.2.2/\c.2.2<=k/\c.2.2 - c.2.1+x<=k/\(∀ i,lo<=i->i < lo+c.2.1->le r (K (arrOf st') i) (K (arrOf st') (lo+k)))/\(∀ i,lo+c.2.2<=i->i < lo+k->le r (K (arrOf st') (lo+k)) (K (arrOf st') i)))
   (Q:=fun c st2=>st'=st2/\c.1=none/\c.2.1=c.2.2/\c.2.2<=k/\(∀ i,lo<=i->i < lo+c.2.1->le r (K (arrOf st') i) (K (arrOf st') (lo+k)))/\(∀ i,lo+c.2.2<=i->i < lo+k->le r (K (arrOf st') (lo+k)) (K (arrOf st') i))) ?step2 ?fin2 ?init2) ?post2)
  case init2=>exact ⟨rfl,rfl,by (try dsimp only);lia,by (try dsimp only);lia,by (try dsimp only);lia,fun i h1 h2=>by (try dsimp only at h2);lia,fun i h1 h2=>by (try dsimp only at h1);lia⟩
  case fin2 =>
   refine gw fun d1 l rr=>?_
   rintro st2 ⟨e,q3,q4,q5,q6,q7,q8⟩
   dsimp only at *
   exact ⟨e,q3,by (try dsimp only);lia,q5,q7,q8⟩
  case step2 =>
   intro x
   refine gw fun d1 l rr=>?_
   rintro st2 _ hx ⟨e,q3,q4,q5,q6,q7,q8⟩
   subst e
   dsimp only at *
   refine aA (fun z=>?_) fun z=>?_
   ·exact Zs ⟨rfl,rfl,by (try dsimp only);lia,q5,q7,q8⟩
   ·refine Zr (i5 C hk g L (by lia) (by lia) ?_)
    dsimp only
    cases e2:r (K (arrOf st') (lo+k)) (K (arrOf st') (lo+(l+rr) / 2)) with
    | true =>
     have l1:=C.le_of (gx _ (by lia)) (gx _ (by lia)) e2
     exact Zs ⟨rfl,rfl,by (try dsimp only);lia,by (try dsimp only);lia,by (try dsimp only);lia,q7,fun i h1 h2=>C.tr (gx _ (by lia)) (gx _ (by lia)) (gx _ (by lia)) l1 (q2 _ i (by lia) h1 h2)⟩
    | false =>
     refine Zs ⟨rfl,rfl,by (try dsimp only);lia,by (try dsimp only);lia,by (try dsimp only);lia,fun i h1 h2=>?_,q8⟩
     (try dsimp only at h2)
     exact C.tr (gx _ (by lia)) (gx _ (by lia)) (gx _ (by lia)) (q2 i (lo+(l+rr) / 2) h1 (by lia) (by lia)) e2
  case post2 =>
   refine gw fun d1 l rr=>?_
   rintro st2 ⟨e,q3,q4,q5,q7,q8⟩
   subst e
   dsimp only at *
   subst q3
   dsimp only
   refine Zr (um ?_)
   have ed:lo+k - (lo+l)=k - l:=by lia
   rw [ed]
   refine Zs ⟨L.bub (by lia) (by lia),rfl,fun i j h1 h2 h3=>?_⟩
   show le r (K (bubble _ _ _) i) (K (bubble _ _ _) j)
   rw [zS (by lia) (by lia),zS (by lia) (by lia)]
   by_cases c1:i=lo+k - (k - l)
   ·rw [if_pos c1]
    by_cases c2:j=lo+k - (k - l)
    ·rw [if_pos c2];exact C.refl (gx _ (by lia))
    ·rw [if_neg c2,if_pos (by lia)]
     exact q8 _ (by lia) (by lia)
   ·rw [if_neg c1]
    by_cases c3:lo+k - (k - l) < i/\i<=lo+k
    ·rw [if_pos c3]
     rw [if_neg (by lia),if_pos (by lia)]
     exact q2 _ _ (by lia) (by lia) (by lia)
    ·rw [if_neg c3]
     by_cases c2:j=lo+k - (k - l)
     ·rw [if_pos c2]
      exact q7 i h1 (by lia)
     ·rw [if_neg c2]
      by_cases c4:lo+k - (k - l) < j/\j<=lo+k
      ·rw [if_pos c4]
       exact q2 _ _ h1 (by lia) (by lia)
      ·rw [if_neg c4]
       exact q2 _ _ h1 h2 (by lia)
theorem qS (base:Nat):∀ (l:List Keyed) (off:Nat) (arr:Array Keyed),base+off+l.length<=arr.size →
  ((l.zipIdx off).foldl (fun a x=>a.setIfInBounds (base+x.snd) x.fst) arr).toList=arr.toList.take (base+off)++l++arr.toList.drop (base+off+l.length)
 | [],off,arr,h=>by simp
 | x :: l,off,arr,h=>by
  rw [List.zipIdx_cons,List.foldl_cons]
  rw [List.length_cons] at h
  rw [qS base l (off+1) _ (by rw [Array.size_setIfInBounds];lia)]
  dsimp only
  have hl:base+off < arr.toList.length:=by simp;lia
  rw [Array.toList_setIfInBounds,List.set_eq_take_append_cons_drop,if_pos hl]
  have e1:(arr.toList.take (base+off)++x :: arr.toList.drop (base+off+1)).take (base+(off+1))=arr.toList.take (base+off)++[x]:=by
   have:(arr.toList.take (base+off)).length=base+off:=by rw [List.length_take];lia
   rw [List.take_append,this,List.take_of_length_le (by rw [this];lia)]
   have:base+(off+1) - (base+off)=1:=by lia
   rw [this];rfl
  have e2:(arr.toList.take (base+off)++x :: arr.toList.drop (base+off+1)).drop (base+(off+1)+l.length)=arr.toList.drop (base+off+(l.length+1)):=by
   have:(arr.toList.take (base+off)).length=base+off:=by rw [List.length_take];lia
   rw [List.drop_append,this,List.drop_eq_nil_of_le (by rw [this];lia),List.nil_append]
   have:base+(off+1)+l.length - (base+off)=l.length+1:=by lia
   rw [this,List.drop_succ_cons,List.drop_drop]
   congr 1
   lia
  rw [e1,e2]
  simp
end TS
end
section
open PySem PyProof.Rows
namespace TS
variable {prog:Program} {w:World} {A:Around} {E:Value->Shared->Prop} {s:Shared} {κ:SortKind} {G:Keyed->Prop} {r:Keyed->Keyed->Bool}
theorem gf {a:Array Keyed} {P X S:List Keyed} (e:a.toList=P++X++S) (j:Nat) (hj:j < X.length):∃ h:P.length+j < a.size,a[P.length+j]=X[j]:=by
 have hs:a.size=P.length+X.length+S.length:=by
  have:=congrArg List.length e
  simp at this
  lia
 have h:P.length+j < a.size:=by lia
 refine ⟨h,?_⟩
 have h1:a[P.length+j]?=X[j]?:=by
  rw [← Array.getElem?_toList,e,Zf,List.getElem?_append_right (by lia),Nat.add_sub_cancel_left,List.getElem?_append_left hj]
 rw [getElem?_pos a _ h,getElem?_pos X _ hj] at h1
 exact Option.some.inj h1
theorem qX (C:Cmp prog w A E s κ G r) {a:Array Keyed} {P X S:List Keyed} (e:a.toList=P++X++S) (g:∀ x∈a,G x) (sx:X.Pairwise (le r)):Seg r a P.length (P.length+X.length):=by
 intro i j hi hj h1 h2 h3
 obtain ⟨i',rfl⟩:∃ i',i=P.length+i':=⟨i - P.length,by lia⟩
 obtain ⟨j',rfl⟩:∃ j',j=P.length+j':=⟨j - P.length,by lia⟩
 obtain ⟨_,e1⟩:=gf e i' (by lia)
 obtain ⟨_,e2⟩:=gf e j' (by lia)
 rcases Nat.lt_or_ge i' j' with hlt | hge
 ·rw [e1,e2]
  exact List.pairwise_iff_getElem.mp sx i' j' (by lia) (by lia) hlt
 ·have:i'=j':=by lia
  subst this
  exact C.refl (g _ (Zl hi))
theorem BE (C:Cmp prog w A E s κ G r) {i pw pw2:Nat} {st:SortSt} {Q:Bool->SortSt->Prop} {P X Y S:List Keyed} (hk:kindOf st=κ) (g:∀ x∈arrOf st,G x) (hf:failedOf st=none)
  (e1:(arrOf st).toList=P++X++(Y++S)) (p1:(pendingOf st)[i]?=some (P.length,X.length,pw)) (p2:(pendingOf st)[i+1]?=some (P.length+X.length,Y.length,pw2))
  (sX:X.Pairwise (le r)) (sY:Y.Pairwise (le r)) (nX:0 < X.length) (nY:0 < Y.length)
  (h:∀ st' M,M.Perm (X++Y)->M.Pairwise (le r)->(arrOf st').toList=P++M++S->kindOf st'=kindOf st->failedOf st'=none →
   pendingOf st'=((pendingOf st).setIfInBounds i (P.length,X.length+Y.length,pw)).eraseIdxIfInBounds (i+1)->Q true st'):wpS (model prog w) A E s (mergeAt' i) Q st:=by
 have e2:(arrOf st).toList=(P++X)++Y++S:=by rw [e1];simp
 have hs:(arrOf st).size=P.length+X.length+Y.length+S.length:=by
  have:=congrArg List.length e1
  simp at this
  lia
 have gm:∀ x,x∈(arrOf st).toList->G x:=fun x hx=>g x (by simpa using hx)
 have gX:∀ x∈X,G x:=fun x hx=>gm x (by rw [e1];simp [hx])
 have gY:∀ x∈Y,G x:=fun x hx=>gm x (by rw [e1];simp [hx])
 have segX:=qX C e1 g sX
 have segY:=qX C e2 g sY
 rw [Zj] at segY
 obtain ⟨hb,eb⟩:=gf e2 0 nY
 simp only [Zj,Nat.add_zero] at hb eb
 obtain ⟨hl,el⟩:=gf e1 (X.length - 1) (by lia)
 have gb:G (arrOf st)[P.length+X.length]:=g _ (Zl hb)
 unfold mergeAt'
 change wpS (model prog w) A E s (_ >>= _) Q st
 dsimp only
 refine Zr (wpS_get ?_)
 rw [show (sortPriv% PySem.Builtin.SortState.pending) st=pendingOf st from rfl,p1,p2]
 dsimp only
 refine Zr (show wpS _ _ _ _ (set _) _ _ from ?_)
 refine (show wpS (model prog w) A E s (modify (fun _=>SortSt.mk' (kindOf st) (arrOf st) (((pendingOf st).setIfInBounds i (P.length,X.length+Y.length,pw)).eraseIdxIfInBounds (i+1)) (gallopOf st) (failedOf st))) _ st from wpS_modify ?_)
 refine Zr (dw hb ?_)
 refine Zr (ft C (hint:=0) (by exact hk) gb g (by show P.length+X.length<=(arrOf st).size;lia) nX segX fun k hk1 hk2 hk3=>?_)
 dsimp only
 have z1:∀ x∈X.take k,le r x (arrOf st)[P.length+X.length]:=fun x hx=>by
  obtain ⟨j,hj,rfl⟩:=List.getElem_of_mem hx
  rw [List.length_take] at hj
  obtain ⟨h1,e3⟩:=gf e1 j (by lia)
  rw [List.getElem_take,← e3]
  exact hk2 _ h1 (by lia) (by lia)
 have z2:∀ x∈X.drop k,le r (arrOf st)[P.length+X.length] x:=fun x hx=>by
  obtain ⟨j,hj,rfl⟩:=List.getElem_of_mem hx
  rw [List.length_drop] at hj
  obtain ⟨h1,e3⟩:=gf e1 (k+j) (by lia)
  rw [List.getElem_drop,← e3]
  exact hk3 _ h1 (by lia) (by lia)
 have b0Y:∀ y∈Y,le r (arrOf st)[P.length+X.length] y:=fun y hy=>by
  obtain ⟨j,hj,rfl⟩:=List.getElem_of_mem hy
  obtain ⟨h1,e3⟩:=gf e2 j hj
  simp only [Zj] at h1 e3
  rw [← e3]
  exact segY _ _ hb h1 (by lia) (by lia) (by lia)
 refine aA (fun e3=>?_) fun e3=>?_
 ·have e3':X.length<=k:=by simp at e3;lia
  refine Zs (h _ (X++Y) (List.Perm.refl _) ?_ (by show (arrOf st).toList=_;rw [e1];simp) rfl hf rfl)
  rw [List.pairwise_append]
  refine ⟨sX,sY,fun x hx y hy=>C.tr (gX x hx) gb (gY y hy) (z1 x (by rw [List.take_of_length_le e3'];exact hx)) (b0Y y hy)⟩
 have hk':k < X.length:=by simp at e3;lia
 have ei:P.length+k+(X.length - k) - 1=P.length+(X.length - 1):=by lia
 refine Zr (dw (show P.length+k+(X.length - k) - 1 < (arrOf st).size by lia) ?_)
 have elst:∀ (q:P.length+k+(X.length - k) - 1 < (arrOf st).size),(arrOf st)[P.length+k+(X.length - k) - 1]=X[X.length - 1]:=fun q=>by
  simp only [ei]
  exact el
 rw [elst]
 have gl:G X[X.length - 1]:=gX _ (List.getElem_mem _)
 refine Zr (ft C (hint:=Y.length - 1) (by exact hk) gl g (by show P.length+X.length+Y.length<=(arrOf st).size;lia) (by lia) segY fun m hm1 hm2 hm3=>?_)
 dsimp only
 have y1:∀ x∈Y.take m,le r x X[X.length - 1]:=fun x hx=>by
  obtain ⟨j,hj,rfl⟩:=List.getElem_of_mem hx
  rw [List.length_take] at hj
  obtain ⟨h1,e3⟩:=gf e2 j (by lia)
  simp only [Zj] at h1 e3
  rw [List.getElem_take,← e3]
  exact hm2 _ h1 (by lia) (by lia)
 have y2:∀ x∈Y.drop m,le r X[X.length - 1] x:=fun x hx=>by
  obtain ⟨j,hj,rfl⟩:=List.getElem_of_mem hx
  rw [List.length_drop] at hj
  obtain ⟨h1,e3⟩:=gf e2 (m+j) (by lia)
  simp only [Zj] at h1 e3
  rw [List.getElem_drop,← e3]
  exact hm3 _ h1 (by lia) (by lia)
 have xl:∀ x∈X,le r x X[X.length - 1]:=fun x hx=>by
  obtain ⟨j,hj,rfl⟩:=List.getElem_of_mem hx
  rcases Nat.lt_or_ge j (X.length - 1) with hlt | hge
  ·exact List.pairwise_iff_getElem.mp sX j _ hj (by lia) hlt
  ·have:j=X.length - 1:=by lia
   subst this
   exact C.refl gl
 refine aA (fun e4=>?_) fun e4=>?_
 ·have e4':m=0:=by simpa using e4
  subst e4'
  refine Zs (h _ (X++Y) (List.Perm.refl _) ?_ (by show (arrOf st).toList=_;rw [e1];simp) rfl hf rfl)
  rw [List.pairwise_append]
  exact ⟨sX,sY,fun x hx y hy=>C.tr (gX x hx) gl (gY y hy) (xl x hx) (y2 y hy)⟩
 have hm':0 < m:=by simp at e4;lia
 have ex:((arrOf st).extract (P.length+k) (P.length+X.length)).toList=X.drop k:=by
  rw [Array.toList_extract,List.extract_eq_drop_take,e1,Zf,List.drop_append,List.drop_eq_nil_of_le (by lia),List.nil_append]
  have:P.length+k - P.length=k:=by lia
  rw [this,List.drop_append,Nat.sub_eq_zero_of_le (by lia:k<=X.length),List.drop_zero]
  rw [List.take_append_of_le_length (by rw [List.length_drop];lia),List.take_of_length_le (by rw [List.length_drop];lia)]
 have ey:((arrOf st).extract (P.length+X.length) (P.length+X.length+m)).toList=Y.take m:=by
  rw [Array.toList_extract,List.extract_eq_drop_take,e2,Zf,List.drop_append,List.drop_eq_nil_of_le (by simp),List.nil_append]
  have:P.length+X.length - (P++X).length=0:=by simp
  rw [this,List.drop_zero]
  have:P.length+X.length+m - (P.length+X.length)=m:=by lia
  rw [this,List.take_append_of_le_length (by lia)]
 obtain ⟨ax,hax⟩:∃ ax,ax=(arrOf st).extract (P.length+k) (P.length+X.length):=⟨_,rfl⟩
 obtain ⟨ay,hay⟩:∃ ay,ay=(arrOf st).extract (P.length+X.length) (P.length+X.length+m):=⟨_,rfl⟩
 rw [← hax] at ex
 rw [← hay] at ey
 have mx:∀ x,x∈ax->x∈X.drop k:=fun x hx=>by rw [← ex];simpa using hx
 have my:∀ x,x∈ay->x∈Y.take m:=fun x hx=>by rw [← ey];simpa using hx
 have szx:ax.size=X.length - k:=by have:=congrArg List.length ex;simpa using this
 have szy:ay.size=m:=by have:=congrArg List.length ey;simp at this;lia
 have gax:∀ x∈ax,G x:=fun x hx=>gX x (List.mem_of_mem_drop (mx x hx))
 have gay:∀ x∈ay,G x:=fun x hx=>gY x (List.mem_of_mem_take (my x hx))
 have y0:∀ (q:0 < ay.size),ay[0]=(arrOf st)[P.length+X.length]:=fun q=>by
  rw [eb]
  have:ay[0]?=Y[0]?:=by rw [← Array.getElem?_toList,ey,List.getElem?_take_of_lt hm']
  rw [getElem?_pos ay 0 q,getElem?_pos Y 0 nY] at this
  exact Option.some.inj this
 have xl0:∀ (q:ax.size - 1 < ax.size),ax[ax.size - 1]=X[X.length - 1]:=fun q=>by
  have:ax[ax.size - 1]?=X[X.length - 1]?:=by
   rw [← Array.getElem?_toList,ex,List.getElem?_drop]
   congr 1
   lia
  rw [getElem?_pos ax _ q,getElem?_pos X _ (by lia)] at this
  exact Option.some.inj this
 have M:MC G r ax ay:=by
  refine ⟨gax,gay,wI C gax (by rw [ex];exact sX.drop),wI C gay (by rw [ey];exact sY.take),by lia,by lia,?_,fun j hj=>?_⟩
  ·rw [y0]
   exact z2 _ (mx _ (Zl _))
  ·rw [xl0]
   exact y1 _ (my _ (Zl hj))
 have fin:∀ (st1:SortSt) (res:Array Keyed),fz (SortSt.mk' (kindOf st) (arrOf st) (((pendingOf st).setIfInBounds i (P.length,X.length+Y.length,pw)).eraseIdxIfInBounds (i+1)) (gallopOf st) (failedOf st)) st1->MR r ax ay res →
   Q (failedOf st1).isNone (SortSt.mk' (kindOf st1) (res.toList.zipIdx.foldl (fun a x=>a.setIfInBounds (P.length+k+x.snd) x.fst) (arrOf st1)) (pendingOf st1) (gallopOf st1) (failedOf st1)):=fun st1 res kp mr=>by
  obtain ⟨k1,k2,k3,k4⟩:=kp
  have k4':failedOf st1=none:=k4.trans hf
  have k2':arrOf st1=arrOf st:=k2
  rw [k4']
  have hl:res.toList.length=X.length - k+m:=by
   rw [mr.1.length_eq,ex,ey]
   simp
   lia
  have mem:∀ x,x∈res.toList->x∈X.drop k\/x∈Y.take m:=fun x hx=>by
   have:=mr.1.mem_iff.mp hx
   rw [ex,ey] at this
   exact Zh.mp this
  have bk:=qS (P.length+k) res.toList 0 (arrOf st1) (by rw [k2'];lia)
  rw [k2',Nat.add_zero] at bk
  have t1:(arrOf st).toList.take (P.length+k)=P++X.take k:=by
   rw [e1,Zf,List.take_append,List.take_of_length_le (by lia),Nat.add_sub_cancel_left,List.take_append_of_le_length (by lia)]
  have t2:(arrOf st).toList.drop (P.length+k+res.toList.length)=Y.drop m++S:=by
   rw [e2,Zf,List.drop_append,List.drop_eq_nil_of_le (by rw [Zj];lia),List.nil_append]
   have:P.length+k+res.toList.length - (P++X).length=m:=by rw [Zj];lia
   rw [this,List.drop_append_of_le_length (by lia)]
  refine h _ (X.take k++res.toList++Y.drop m) ?_ ?_ ?_ k1 rfl k3
  ·have p:(X.take k++(X.drop k++Y.take m)++Y.drop m)=X++Y:=by
    rw [← Zf,List.take_append_drop,Zf,List.take_append_drop]
   rw [← p]
   have:=mr.1
   rw [ex,ey] at this
   exact (this.append_left _).append_right _
  ·rw [List.pairwise_append,List.pairwise_append]
   refine ⟨⟨sX.take,mr.2,fun x hx y hy=>?_⟩,sY.drop,fun x hx y hy=>?_⟩
   ·rcases mem y hy with hy | hy
    ·have:=sX
     rw [← List.take_append_drop k X,List.pairwise_append] at this
     exact this.2.2 x hx y hy
    ·exact C.tr (gX _ (List.mem_of_mem_take hx)) gb (gY _ (List.mem_of_mem_take hy)) (z1 x hx) (b0Y y (List.mem_of_mem_take hy))
   ·rcases Zh.mp hx with hx | hx
    ·exact C.tr (gX _ (List.mem_of_mem_take hx)) gb (gY _ (List.mem_of_mem_drop hy)) (z1 x hx) (b0Y y (List.mem_of_mem_drop hy))
    ·rcases mem x hx with hx | hx
     ·exact C.tr (gX _ (List.mem_of_mem_drop hx)) gl (gY _ (List.mem_of_mem_drop hy)) (xl x (List.mem_of_mem_drop hx)) (y2 y hy)
     ·have:=sY
      rw [← List.take_append_drop m Y,List.pairwise_append] at this
      exact this.2.2 x hx y hy
  ·show (List.foldl _ (arrOf st1) _).toList=_
   rw [k2',bk,t1,t2]
   simp
 refine aA (fun _=>?_) fun _=>?_
 ·refine Zr (?_:wpS (model prog w) A E s (kA ((arrOf st).extract (P.length+k) (P.length+X.length)) ((arrOf st).extract (P.length+X.length) (P.length+X.length+m))) _ _)
  rw [← hax,← hay]
  refine Co C (by exact hk) M fun res st1 kp mr=>?_
  exact Zr (wpS_modify (Zr (wpS_get (Zs (fin st1 res kp mr)))))
 ·refine Zr (?_:wpS (model prog w) A E s (jC ((arrOf st).extract (P.length+k) (P.length+X.length)) ((arrOf st).extract (P.length+X.length) (P.length+X.length+m))) _ _)
  rw [← hax,← hay]
  refine Ce C (by exact hk) M fun res st1 kp mr=>?_
  exact Zr (wpS_modify (Zr (wpS_get (Zs (fin st1 res kp mr)))))
end TS
end
section
open PySem PyProof.Rows
namespace TS
variable {prog:Program} {w:World} {A:Around} {E:Value->Shared->Prop} {s:Shared} {κ:SortKind} {G:Keyed->Prop} {r:Keyed->Keyed->Bool}
noncomputable def hV:Nat->List (List Keyed)->List (Nat×Nat)
 | _,[]=>[]
 | o,R :: Rs=>(o,R.length) :: hV (o+R.length) Rs
theorem gQ:∀ (a b:List (List Keyed)) (o:Nat),hV o (a++b)=hV o a++hV (o+a.flatten.length) b
 | [],b,o=>by simp [hV]
 | R :: a,b,o=>by
  show (o,R.length) :: hV (o+R.length) (a++b)=(o,R.length) :: (hV (o+R.length) a++_)
  rw [gQ a b]
  simp [Nat.add_assoc]
theorem gS:∀ (a:List (List Keyed)) (o:Nat),(hV o a).length=a.length
 | [],o=>rfl
 | R :: a,o=>by show (hV _ a).length+1=_;rw [gS a];rfl
theorem kZ {α β:Type} (f:α->β):∀ (l:List α) (i:Nat),(l.eraseIdx i).map f=(l.map f).eraseIdx i
 | [],i=>rfl
 | x :: l,0=>rfl
 | x :: l,i+1=>by show f x :: (l.eraseIdx i).map f=f x :: (l.map f).eraseIdx i;rw [kZ f l i]
structure RI (κ:SortKind) (r:Keyed->Keyed->Bool) (a₀:Array Keyed) (st:SortSt) (runs:List (List Keyed)) (rest:List Keyed):Prop where
 kind:kindOf st=κ
 fail:failedOf st=none
 arr:(arrOf st).toList=runs.flatten++rest
 pend:(pendingOf st).toList.map (fun p=>(p.1,p.2.1))=hV 0 runs
 ok:∀ R∈runs,0 < R.length/\R.Pairwise (le r)
 perm:(arrOf st).Perm a₀
theorem RI.good {a₀:Array Keyed} {st:SortSt} {runs:List (List Keyed)} {rest:List Keyed} (h:RI κ r a₀ st runs rest) (g:∀ x∈a₀,G x):∀ x∈arrOf st,G x:=fun x hx=>by
 have:x∈(arrOf st).toList:=by simpa using hx
 exact g x (by simpa using (Array.perm_iff_toList_perm.mp h.perm).mem_iff.mp this)
theorem RI.psize {a₀:Array Keyed} {st:SortSt} {runs:List (List Keyed)} {rest:List Keyed} (h:RI κ r a₀ st runs rest):(pendingOf st).size=runs.length:=by
 have:=congrArg List.length h.pend
 rw [Zk,gS] at this
 simpa using this
theorem RI.at {a₀:Array Keyed} {st:SortSt} {pre post:List (List Keyed)} {X:List Keyed} {rest:List Keyed} (h:RI κ r a₀ st (pre++X :: post) rest):∃ pw,(pendingOf st)[pre.length]?=some (pre.flatten.length,X.length,pw):=by
 have e:((pendingOf st).toList.map (fun p=>(p.1,p.2.1)))[pre.length]?=some (pre.flatten.length,X.length):=by
  rw [h.pend,gQ,List.getElem?_append_right (by rw [gS];exact Zt _),gS,Nat.sub_self,Nat.zero_add]
  rfl
 rw [List.getElem?_map,Array.getElem?_toList] at e
 obtain ⟨⟨a,b,c⟩,e1,e2⟩:=Zq.mp e
 injection e2 with e3 e4
 dsimp only at e3 e4
 exact ⟨c,by rw [e1,e3,e4]⟩
theorem oB {α:Type}:∀ {l:List α} {i:Nat},i+1 < l.length->∃ pre X Y post,l=pre++X :: Y :: post/\pre.length=i
 | [],i,h=>by simp at h
 | [x],i,h=>by simp at h
 | x :: y :: l,0,h=>⟨[],x,y,l,rfl,rfl⟩
 | x :: y :: l,i+1,h=>by
  obtain ⟨pre,X,Y,post,e,hp⟩:=oB (l:=y :: l) (i:=i) (by simp at h ⊢;omega)
  exact ⟨x :: pre,X,Y,post,by rw [e];rfl,by rw [List.length_cons,hp]⟩
theorem RI.merge (C:Cmp prog w A E s κ G r) {a₀:Array Keyed} {st:SortSt} {runs:List (List Keyed)} {rest:List Keyed} {i:Nat} {Q:Bool->SortSt->Prop} (h:RI κ r a₀ st runs rest) (g:∀ x∈a₀,G x) (hi:i+1 < runs.length)
  (hq:∀ st' runs',RI κ r a₀ st' runs' rest->runs'.length+1=runs.length->runs'.flatten.length=runs.flatten.length->Q true st'):wpS (model prog w) A E s (mergeAt' i) Q st:=by
 obtain ⟨pre,X,Y,post,rfl,rfl⟩:=oB hi
 obtain ⟨pw,p1⟩:=h.at
 have h':RI κ r a₀ st ((pre++[X])++Y :: post) rest:=by
  have e:(pre++[X])++Y :: post=pre++X :: Y :: post:=by simp
  rw [e];exact h
 obtain ⟨pw2,p2⟩:=h'.at
 have oX:=h.ok X (by simp)
 have oY:=h.ok Y (by simp)
 have p2':(pendingOf st)[pre.length+1]?=some (pre.flatten.length+X.length,Y.length,pw2):=by
  simpa using p2
 refine BE C (P:=pre.flatten) (X:=X) (Y:=Y) (S:=post.flatten++rest) h.kind (h.good g) h.fail (by rw [h.arr];simp) p1 p2' oX.2 oY.2 oX.1 oY.1 fun st' M m1 m2 m3 m4 m5 m6=>?_
 have hl:=m1.length_eq
 rw [Zj] at hl
 refine hq st' (pre++M :: post) ⟨m4.trans h.kind,m5,by rw [m3];simp,?_,fun R hR=>?_,?_⟩ (by simp;lia) (by simp;lia)
 ·rw [m6]
  have e0:(((pendingOf st).setIfInBounds pre.length (pre.flatten.length,X.length+Y.length,pw)).eraseIdxIfInBounds (pre.length+1)).toList=((pendingOf st).toList.set pre.length (pre.flatten.length,X.length+Y.length,pw)).eraseIdx (pre.length+1):=by
   simp
  rw [e0,kZ,List.map_set,h.pend]
  show ((hV 0 (pre++X :: Y :: post)).set pre.length (pre.flatten.length,X.length+Y.length)).eraseIdx (pre.length+1)=hV 0 (pre++M :: post)
  rw [gQ,gQ]
  have ol:=gS pre 0
  have e1:∀ (u v t:List (Nat×Nat)) (x y z:Nat×Nat),u.length=pre.length->((u++x :: y :: t).set pre.length z).eraseIdx (pre.length+1)=u++z :: t:=fun u v t x y z hu=>by
   rw [List.set_append_right _ _ (by lia),hu,Nat.sub_self,List.eraseIdx_append_of_length_le (by lia),hu]
   have:pre.length+1 - pre.length=1:=by lia
   rw [this]
   rfl
  show ((hV 0 pre++(0+pre.flatten.length,X.length) :: (0+pre.flatten.length+X.length,Y.length) :: hV (0+pre.flatten.length+X.length+Y.length) post).set _ _).eraseIdx _=hV 0 pre++(0+pre.flatten.length,M.length) :: hV (0+pre.flatten.length+M.length) post
  rw [e1 _ [] _ _ _ _ ol,hl,Nat.zero_add,Nat.add_assoc]
 ·rcases Zh.mp hR with hR | hR
  ·exact h.ok R (by simp [hR])
  ·rcases Zg.mp hR with rfl | hR
   ·exact ⟨by lia,m2⟩
   ·exact h.ok R (by simp [hR])
 ·refine Array.Perm.trans ?_ h.perm
  rw [Array.perm_iff_toList_perm,m3,h.arr]
  have e:(pre++X :: Y :: post).flatten++rest=pre.flatten++(X++Y)++(post.flatten++rest):=by simp
  rw [e]
  exact (m1.append_left _).append_right _
end TS
end
section
open PySem PyProof.Rows
namespace TS
variable {prog:Program} {w:World} {A:Around} {E:Value->Shared->Prop} {s:Shared} {κ:SortKind} {G:Keyed->Prop} {r:Keyed->Keyed->Bool}
theorem RI.loc {a₀:Array Keyed} {st st2:SortSt} {runs:List (List Keyed)} {rest:List Keyed} (h:RI κ r a₀ st runs rest) (L:Lc runs.flatten.length st st2):RI κ r a₀ st2 runs ((arrOf st2).toList.drop runs.flatten.length):=by
 refine ⟨L.kind.trans h.kind,L.fail.trans h.fail,?_,by rw [L.pend];exact h.pend,h.ok,L.perm.trans h.perm⟩
 have e:(arrOf st2).toList.take runs.flatten.length=runs.flatten:=by
  have e2:(arrOf st).toList.take runs.flatten.length=runs.flatten:=by rw [h.arr,List.take_left]
  refine Eq.trans ?_ e2
  apply List.ext_getElem?
  intro i
  rw [List.getElem?_take,List.getElem?_take]
  split
  ·rename_i hi
   rw [Array.getElem?_toList,Array.getElem?_toList]
   exact L.pre i hi
  ·rfl
 conv=>lhs;rw [← List.take_append_drop runs.flatten.length (arrOf st2).toList,e]
theorem RI.push {a₀:Array Keyed} {st:SortSt} {runs:List (List Keyed)} {rest:List Keyed} {n lo:Nat} (h:RI κ r a₀ st runs rest) (hl:runs.flatten.length=lo) (h0:0 < n) (hn:n<=rest.length) (hp:(rest.take n).Pairwise (le r)) :
  RI κ r a₀ (setPending st ((pendingOf st).push (lo,n,0))) (runs++[rest.take n]) (rest.drop n):=by
 refine ⟨h.kind,h.fail,?_,?_,fun R hR=>?_,h.perm⟩
 ·show (arrOf st).toList=_
  rw [h.arr]
  simp
 ·show ((pendingOf st).push (lo,n,0)).toList.map _=_
  rw [Array.toList_push,List.map_append,h.pend,gQ,Nat.zero_add,hl]
  show _++[(lo,n)]=_++[(lo,(rest.take n).length)]
  rw [List.length_take,Nat.min_eq_left hn]
 ·rcases Zh.mp hR with hR | hR
  ·exact h.ok R hR
  ·rw [Zi.mp hR]
   exact ⟨by rw [List.length_take];lia,hp⟩
theorem qP {α β:Type} (f:α->β) (g:α->α) (hg:∀ x,f (g x)=f x):∀ (l:List α) (i:Nat),(l.modify i g).map f=l.map f
 | [],i=>by simp
 | x :: l,0=>by simp [hg]
 | x :: l,i+1=>by simp [qP f g hg l i]
theorem RI.mod {a₀:Array Keyed} {st:SortSt} {runs:List (List Keyed)} {rest:List Keyed} (h:RI κ r a₀ st runs rest) (i pw:Nat):RI κ r a₀ (setPending st ((pendingOf st).modify i fun x=>(x.1,x.2.1,pw))) runs rest :=
 ⟨h.kind,h.fail,h.arr,by
  show ((pendingOf st).modify i fun x=>(x.1,x.2.1,pw)).toList.map _=_
  rw [Array.toList_modify,qP (fun p:Nat×Nat×Nat=>(p.1,p.2.1)) (fun x=>(x.1,x.2.1,pw)) (fun x=>rfl),h.pend],h.ok,h.perm⟩
theorem Sg.pw {xs:Array Keyed} {lo n:Nat} (h:Sg r xs lo (lo+n)) (hs:lo+n<=xs.size):((xs.toList.drop lo).take n).Pairwise (le r):=by
 rw [List.pairwise_iff_getElem]
 intro i j hi hj hij
 rw [List.length_take,List.length_drop] at hi hj
 rw [List.getElem_take,List.getElem_take,List.getElem_drop,List.getElem_drop]
 have:=h (lo+i) (lo+j) (by lia) (by lia) (by lia)
 rw [uR (by lia),uR (by lia)] at this
 simpa using this
theorem RI.size {a₀:Array Keyed} {st:SortSt} {runs:List (List Keyed)} {rest:List Keyed} (h:RI κ r a₀ st runs rest):runs.flatten.length+rest.length=a₀.size:=by
 have e:=congrArg List.length h.arr
 rw [Zj,Array.length_toList,h.perm.size_eq] at e
 exact e.symm
theorem yF {runs:List (List Keyed)} (h:∀ R∈runs,0 < R.length/\R.Pairwise (le r)):runs.length<=runs.flatten.length:=by
 induction runs with
 | nil=>exact Zt _
 | cons R Rs ih =>
  have h1:=(h R (Zv ..)).1
  have h2:=ih fun x hx=>h x (Zw _ hx)
  simp only [List.length_cons,Ze,Zj]
  lia
theorem An {c:Prop} [Decidable c] {a b n:Nat} (h1:a+1 < n) (h2:b+1 < n):(if c then a else b)+1 < n:=by
 split
 ·exact h1
 ·exact h2
theorem rP {α:Type} {a b d:Nat->Prop} {c:Nat->Prop} [∀ n,Decidable (c n)] {x R:Nat->StateT SortSt Sem α} {Q:α->SortSt->Prop} {P:Nat->SortSt->Prop} {st:SortSt} (D:∀ n st1,P n st1->wpS (model prog w) A E s (R n) Q st1) (h2:∀ m,a m->b m->d m->¬ c m->P m st)
  (h1:∀ m,a m->b m->d m->c m->(∀ n st1,P n st1->wpS (model prog w) A E s (R n) Q st1)->wpS (model prog w) A E s (x m) Q st):∀ m,a m->b m->d m->wpS (model prog w) A E s (if c m then x m else R m) Q st :=
 fun m p q z=>aA (fun y=>h1 m p q z y D) fun y=>D m st (h2 m p q z y)
theorem rj (C:Cmp prog w A E s κ G r) {a₀:Array Keyed} {st:SortSt} {Q:Unit->SortSt->Prop} (hk:kindOf st=κ) (g:∀ x∈a₀,G x) (ha:arrOf st=a₀) (hp:pendingOf st=#[]) (hf:failedOf st=none)
  (h:∀ st',(arrOf st').Perm a₀->failedOf st'=none->(arrOf st').toList.Pairwise (le r)->Q () st'):wpS (model prog w) A E s sortRuns' Q st:=by
 have R0:RI κ r a₀ st [] a₀.toList:=⟨hk,hf,by rw [ha];rfl,by rw [hp];rfl,fun R hR=>by simp at hR,by rw [ha]⟩
 unfold sortRuns'
 change wpS (model prog w) A E s (_ >>= _) Q st
 dsimp only
 refine Zr (wpS_get ?_)
 have esz:((sortPriv% PySem.Builtin.SortState.a) st).size=a₀.size:=by rw [← ha]
 rw [esz]
 refine Zr (wpS_mono (wpS_forRange
  (I:=fun x c st'=>c.1=none/\∃ runs rest,RI κ r a₀ st' runs rest/\runs.flatten.length=c.2/\x<=c.2)
  (Q:=fun c st'=>c.1=none/\∃ runs,RI κ r a₀ st' runs []) ?step ?fin ?init) ?post)
 case init=>exact ⟨rfl,_,_,R0,rfl,Zt _⟩
 case fin =>
  refine all2 fun c1 lo=>?_
  rintro st' ⟨q1,runs,rest,R,hl,hx⟩
  dsimp only at *
  have:=R.size
  have e:rest=[]:=List.eq_nil_of_length_eq_zero (by lia)
  subst e
  exact ⟨q1,runs,R⟩
 case step =>
  intro x
  refine all2 fun c1 lo=>?_
  rintro st' _ hx ⟨q1,runs,rest,R,hl,hxl⟩
  dsimp only at *
  have hsz:=R.size
  refine aA (fun e=>?_) fun e=>?_
  ·have e:rest=[]:=List.eq_nil_of_length_eq_zero (by lia)
   subst e
   exact Zs ⟨rfl,runs,R⟩
  have asz:(arrOf st').size=a₀.size:=R.perm.size_eq
  refine Zr (Ba C R.kind (R.good g) (by lia) (by rw [asz];lia) fun m st2 L2 m1 m2 S2=>?_)
  dsimp only
  have I2:RI κ r a₀ st2 runs ((arrOf st2).toList.drop runs.flatten.length):=R.loc (by rw [hl];exact L2)
  have asz2:(arrOf st2).size=a₀.size:=I2.perm.size_eq
  revert m
  refine rP (P:=fun nn st3=>∃ rest3,RI κ r a₀ st3 runs rest3/\rest3.length=a₀.size - lo/\0 < nn/\nn<=rest3.length/\(rest3.take nn).Pairwise (le r)) ?D ?two ?one
  case one =>
   intro m m1 m2 S2 e2 Dk
   refine Zr (fJ ?_)
   refine Zr (Bn C I2.kind (I2.good g) m1 (by lia) (by lia) S2 fun st3 L3 S3=>?_)
   refine aA (fun e=>absurd e (by decide)) fun _=>?_
   have I3':RI κ r a₀ st3 runs ((arrOf st3).toList.drop runs.flatten.length):=I2.loc (by rw [hl];exact L3)
   have asz3:(arrOf st3).size=a₀.size:=I3'.perm.size_eq
   obtain ⟨rest3,er3⟩:∃ l,l=(arrOf st3).toList.drop runs.flatten.length:=⟨_,rfl⟩
   have I3:RI κ r a₀ st3 runs rest3:=by rw [er3];exact I3'
   have hl3:=hl
   have h3l:rest3.length=a₀.size - lo:=by rw [er3,List.length_drop,Array.length_toList,asz3,hl]
   obtain ⟨n3,en3⟩:∃ n,n=min (a₀.size - lo) ((sortPriv% PySem.Builtin.minRun) a₀.size a₀.size 0):=⟨_,rfl⟩
   rw [← en3] at S3 ⊢
   have h30:0 < n3:=by lia
   have h3n:n3<=rest3.length:=by lia
   have h3p:(rest3.take n3).Pairwise (le r):=by rw [er3,hl];exact S3.pw (by lia)
   exact Dk n3 st3 ⟨rest3,I3,h3l,h30,h3n,h3p⟩
  case two =>
   intro m m1 m2 S2 e2
   obtain ⟨rest3,er3⟩:∃ l,l=(arrOf st2).toList.drop runs.flatten.length:=⟨_,rfl⟩
   have I3:RI κ r a₀ st2 runs rest3:=by rw [er3];exact I2
   have hl3:=hl
   have h3l:rest3.length=a₀.size - lo:=by rw [er3,List.length_drop,Array.length_toList,asz2,hl]
   have h30:0 < m:=by lia
   have h3n:m<=rest3.length:=by lia
   have h3p:(rest3.take m).Pairwise (le r):=by rw [er3,hl];exact S2.pw (by lia)
   exact ⟨rest3,I3,h3l,h30,h3n,h3p⟩
  case D =>
   rintro nn st3 ⟨rest3,I3,h3l,h30,h3n,h3p⟩
   have hl3:=hl
   refine Zr (wpS_get ?_)
   cases hb:(pendingOf st3).back? with
   | none =>
    dsimp only
    refine Zr (wpS_modify ?_)
    refine Zs ⟨rfl,_,_,I3.push hl3 h30 h3n h3p,?_,by (try dsimp only);lia⟩
    rw [List.flatten_append,Zj,List.flatten_singleton,List.length_take]
    (try dsimp only)
    lia
   | some v =>
    obtain ⟨s1,n1,pw1⟩:=v
    dsimp only
    refine Zr (wpS_mono (wpS_forRange
     (I:=fun x c st'=>c.1=none/\∃ runs',RI κ r a₀ st' runs' rest3/\runs'.flatten.length=lo)
     (Q:=fun c st'=>c.1=none/\∃ runs',RI κ r a₀ st' runs' rest3/\runs'.flatten.length=lo) ?stepM ?finM ?initM) ?postM)
    case initM=>exact ⟨rfl,_,I3,hl3⟩
    case finM=>exact fun c st' h=>h
    case stepM =>
     intro x
     refine all2 fun c1 c2=>?_
     rintro st' _ hx ⟨q1,runs',R,hR⟩
     refine Zr (wpS_get ?_)
     split
     ·rename_i a b c hh
      refine aA (fun _=>?_) fun _=>?_
      ·exact Zs ⟨rfl,runs',R,hR⟩
      ·have hp1:(pendingOf st').size > 1:=by
        by_cases z:(pendingOf st').size > 1
        ·exact z
        ·rw [if_neg z] at hh;cases hh
       have hp2:=R.psize
       refine Zr (R.merge C g (show (pendingOf st').size - 2+1 < runs'.length by lia) fun st4 runs4 R4 l4 f4=>?_)
       refine aA (fun e=>absurd e (by decide)) fun _=>?_
       exact Zs ⟨rfl,runs4,R4,by rw [f4,hR]⟩
     ·exact Zs ⟨rfl,runs',R,hR⟩
    case postM =>
     refine all2 fun c1 c2=>?_
     rintro st' ⟨q1,runs',R,hR⟩
     dsimp only at *
     subst q1
     dsimp only
     refine Zr (wpS_modify ?_)
     refine Zr (wpS_modify ?_)
     refine Zs ⟨rfl,_,_,(R.mod _ _).push hR h30 h3n h3p,?_,by (try dsimp only);lia⟩
     rw [List.flatten_append,Zj,List.flatten_singleton,List.length_take]
     (try dsimp only)
     lia
 case post =>
  refine all2 fun c1 lo=>?_
  rintro st' ⟨q1,runs,R⟩
  dsimp only at *
  subst q1
  dsimp only
  have rl:=yF R.ok
  have hsz:=R.size
  simp only [List.length_nil,Nat.add_zero] at hsz
  refine Zr (wpS_mono (wpS_forRange
   (I:=fun x c st'=>c.1=none/\∃ runs,RI κ r a₀ st' runs []/\(runs.length<=1\/runs.length+x<=a₀.size))
   (Q:=fun c st'=>c.1=none/\∃ runs,RI κ r a₀ st' runs []/\runs.length<=1) ?step2 ?fin2 ?init2) ?post2)
  case init2=>exact ⟨rfl,runs,R,.inr (by lia)⟩
  case fin2 =>
   refine all2 fun c1 c2=>?_
   rintro st' ⟨q1,runs,R,hr⟩
   exact ⟨q1,runs,R,by lia⟩
  case step2 =>
   intro x
   refine all2 fun c1 c2=>?_
   rintro st' _ hx ⟨q1,runs,R,hr⟩
   have hp2:=R.psize
   refine Zr (wpS_get ?_)
   refine aA (fun e=>?_) fun e=>?_
   ·exact Zs ⟨rfl,runs,R,by rw [← hp2];exact e⟩
   ·have e':1 < runs.length:=by rw [← hp2];exact Nat.lt_of_not_le e
    refine Zr (R.merge C g ?_ fun st4 runs4 R4 l4 f4=>?_)
    ·exact An (show (pendingOf st').size - 2 - 1+1 < _ by lia) (show (pendingOf st').size - 2+1 < _ by lia)
    ·refine aA (fun e=>absurd e (by decide)) fun _=>?_
     exact Zs ⟨rfl,runs4,R4,by lia⟩
  case post2 =>
   refine all2 fun c1 c2=>?_
   rintro st' ⟨q1,runs,R,hr⟩
   dsimp only at *
   subst q1
   refine Zs (h st' R.perm R.fail ?_)
   rw [R.arr,List.append_nil]
   match runs,hr,R.ok with
   | [],_,_=>exact List.Pairwise.nil
   | [X],_,ok =>
    rw [List.flatten_singleton]
    exact (ok X (Zv ..)).2
   | X :: Y :: t,hr,_=>simp at hr
end TS
end
section
open PySem PyProof.Rows
namespace TS
variable {prog:Program} {w:World} {A:Around} {E:Value->Shared->Prop} {s:Shared} {G:Keyed->Prop} {r:Keyed->Keyed->Bool}
noncomputable def cG (h:Heap) (a:Addr) (vs:List Value):Heap:=((h.update a (Obj.mapSeq fun _=>#[])).push (seqObj "tuple" vs.toArray 0)).push (seqObj "list" #[] 0)
theorem sD {vs:List Value} {xs:Array Keyed} (hp:xs.Perm (pairsOf vs)):(xs.map (·.2)).toList.Perm vs/\(xs.map (·.2)).toList.map (fun v=>(v,v))=xs.toList:=by
 have hp':=Array.perm_iff_toList_perm.mp hp
 rw [pairsOf_toList] at hp'
 constructor
 ·rw [Array.toList_map]
  refine (hp'.map _).trans ?_
  rw [show (fun x:Keyed=>x.2)=Prod.snd from rfl,List.map_snd_zip (Zt _)]
 ·rw [Array.toList_map,List.map_map]
  conv=>rhs;rw [← List.map_id xs.toList]
  apply List.map_congr_left
  intro p hpm
  have:=mem_zip_self (hp'.mem_iff.mp hpm)
  exact Prod.ext this.1.symm rfl
theorem pF {h:Heap} {a:Addr} {vs:List Value} {o:Obj} (ha:a < h.objs.size) (g:(h.update a (Obj.mapSeq fun _=>#[])).get? a=some o):(cG h a vs).get? a=some o:=by
 have k1:a ≠ (h.update a (Obj.mapSeq fun _=>#[])).objs.size:=by rw [Heap.size_update];exact Zn ha
 have k2:a ≠ ((h.update a (Obj.mapSeq fun _=>#[])).push (seqObj "tuple" vs.toArray 0)).objs.size:=by rw [size_push',Heap.size_update];exact Zn (Nat.lt_succ_of_lt ha)
 exact (Heap.get?_push_ne _ _ _ k2).trans ((Heap.get?_push_ne _ _ _ k1).trans g)
theorem uk {a:Addr} {vs:List Value} {n:Nat} {P:PySem.Fin->Shared->Prop} {kd:SortKind} (ho:s.heap.get? a=some (seqObj "list" vs.toArray n))
  (hC:Cmp prog w A E { s with heap:=cG s.heap a vs } kd G r) (hG:∀ v∈vs,G (v,v)) (hlen:vs.length<=sizeLine)
  (hkk:2<=vs.length->∀ Q:SortKind->Shared->Prop,Q kd { s with heap:=cG s.heap a vs }->wpAny (model prog w) A (keyKind' vs.toArray) Q E { s with heap:=cG s.heap a vs })
  (h:∀ out:List Value,out.Perm vs->(out.map fun v=>(v,v)).Pairwise (le r)->P (.done (.ret .none)) { s with heap:=sortedHeap s.heap a vs out.toArray }) :
  wpAny (model prog w) A (Builtin.«list.sort» ⟨[.ref a],[]⟩) P E s:=by
 have few:vs.toArray.size=vs.length:=rfl
 obtain ⟨ep,at1⟩:∃ k,(s.heap.update a (Obj.mapSeq fun _=>#[])).get? a=some (seqObj "list" #[] k):=⟨_,get?_update_seq ho _⟩
 have at2:=pF (vs:=vs) (Zm ho) at1
 have done:∀ xs:Array Keyed,xs.Perm (pairsOf vs)->xs.toList.Pairwise (le r)->P (.done (.ret .none)) { s with heap:=sortedHeap s.heap a vs (xs.map (·.2)) }:=fun xs p1 p2=>by
  obtain ⟨q1,q2⟩:=sD p1
  have:=h _ q1 (by rw [q2];exact p2)
  rwa [Array.toArray_toList] at this
 have room:∀ xs:Array Keyed,xs.Perm (pairsOf vs)->(xs.map (·.2)).size<=sizeLine+1:=fun xs p1=>by
  rw [Array.size_map,p1.size_eq,pairsOf_size]
  exact Nat.le_succ_of_le hlen
 rw [list_sort_plain]
 refine Zz (listItems_at ho rfl (Zz (listUpdate_at ho rfl (Zz (seqEpoch_at at1 rfl (Zz (wpAny_newTuple (Zz (wpAny_newList (wpAny_holding ?_))))))))))
 refine (show wpAny (model prog w) A _ P E { s with heap:=cG s.heap a vs } from ?_)
 dsimp only
 by_cases two:2<=vs.length
 ·have no:¬ (vs.toArray.size < 2):=by lia
  rw [if_neg no,if_neg no]
  have good:∀ x∈pairsOf vs,G x:=fun x hx=>by
   have hm:x∈(pairsOf vs).toList:=by simpa using hx
   rw [pairsOf_toList] at hm
   obtain ⟨e1,e2⟩:=mem_zip_self hm
   have:=hG x.1 e2
   obtain ⟨p,q⟩:=x
   dsimp only at e1 this
   rw [← e1]
   exact this
  refine Zz (hkk two _ (Zz (wpAny_mono (rj hC (a₀:=pairsOf vs) (st:=SortSt.mk' kd (vs.toArray.zip vs.toArray) #[] 7 none)
   (Q:=fun _ st'=>(arrOf st').Perm (pairsOf vs)/\failedOf st'=none/\(arrOf st').toList.Pairwise (le r)) rfl good rfl rfl rfl fun st' a1 a2 a3=>⟨a1,a2,a3⟩) ?_ fun _ _ e=>e)))
  rintro ⟨⟨⟩,st'⟩ s' ⟨rfl,p1,p2,p3⟩
  refine Zz (seqEpoch_at at2 rfl (Zz (listUpdate_at at2 rfl ?_ (hsz2:=room _ p1))))
  rw [p2]
  simp only [bne_self_eq_false,Bool.false_eq_true,↓reduceIte]
  exact Zy (done _ p1 p3)
 ·have no:vs.toArray.size < 2:=by lia
  rw [if_pos no,if_pos no]
  refine Zz (Zy (Zz ?_))
  rw [StateT.run_pure]
  refine Zy (Zz (seqEpoch_at at2 rfl (Zz (listUpdate_at at2 rfl ?_ (hsz2:=room _ (Array.Perm.refl _))))))
  simp only [bne_self_eq_false,Bool.false_eq_true,↓reduceIte]
  refine Zy (done (vs.toArray.zip vs.toArray) (Array.Perm.refl _) ?_)
  match vs,two with
  | [],_=>simp
  | [_],_=>simp
  | _ :: _ :: _,q=>simp at q
theorem nl {b n:Nat} (h:b < n) (k:Nat):b ≠ n+k:=Zn (Nat.lt_of_lt_of_le h (Nat.le_add_right _ _))
structure SortPre (prog:Program) (w:World) (Q:Value->Shared->Prop) (vs:List Value) (s1:Shared) where
 G:Keyed->Prop
 r:Keyed->Keyed->Bool
 kd:SortKind
 hC:∀ (A:Around) (E:Value->Shared->Prop) (h:Heap),(∀ b o,s1.heap.get? b=some o->h.get? b=some o)->Cmp prog w A E { s1 with heap:=h } kd G r
 hG:∀ v∈vs,G (v,v)
 hlen:vs.length<=sizeLine
 hkk:2<=vs.length->∀ (A:Around) (E:Value->Shared->Prop) (h:Heap),(∀ b o,s1.heap.get? b=some o->h.get? b=some o)->∀ Q:SortKind->Shared->Prop,Q kd { s1 with heap:=h }->wpAny (model prog w) A (keyKind' vs.toArray) Q E { s1 with heap:=h }
 h:∀ (out:List Value) (h':Heap) (e:Nat),out.Perm vs->(out.map fun v=>(v,v)).Pairwise (le r)->(∀ b o,s1.heap.get? b=some o->h'.get? b=some o)->h'.get? s1.heap.objs.size=some (seqObj "list" out.toArray e)->Q (.ref s1.heap.objs.size) { s1 with heap:=h' }
theorem pY {x:Value} {Q:Value->Shared->Prop}
  (hcol:∀ (A':Around) (E':Value->Shared->Prop),A'.handled=A.handled->wpAny (model prog w) A' (collect x) (fun vs s1=>Nonempty (SortPre prog w Q vs s1)) E' s) :
  wpAny (model prog w) A (call (.builtin "sorted") [x]) Q E s:=by
 refine Calls.call_function_entry kind_sorted plain_sorted entry_sorted (args_sorted1 _) (show wpAny _ _ (Builtin.«sorted» _) _ _ _ from ?_)
 unfold Builtin.«sorted»
 refine Zz (m:=checkCount "sorted" 1 1 _) (Zy (Zz (wpAny_mono (hcol A.in1 (fun _ _=>False) rfl) ?_ fun _ _ e=>e.elim)))
 rintro vs s1 ⟨⟨G,r,kd,hC,hG,hlen,hkk,h⟩⟩
 refine Zz (wpAny_newList ?_ (by exact hlen))
 have hoL:(s1.heap.push (seqObj "list" vs.toArray 0)).get? s1.heap.objs.size=some (seqObj "list" vs.toArray 0):=Zo _ rfl
 have old:∀ b o,s1.heap.get? b=some o->(cG (s1.heap.push (seqObj "list" vs.toArray 0)) s1.heap.objs.size vs).get? b=some o:=fun b o e=>by
  have hb:=Zm e
  unfold cG
  rw [Heap.get?_push_ne _ _ _ (by rw [size_push',Heap.size_update,size_push'];exact nl hb 2),Heap.get?_push_ne _ _ _ (by rw [Heap.size_update,size_push'];exact nl hb 1),Heap.get?_update_ne _ _ _ _ (Zn hb),Heap.get?_push_ne _ _ _ (Zn hb)]
  exact e
 show wpAny _ _ _ _ _ { s1 with heap:=s1.heap.push (seqObj "list" vs.toArray 0) }
 refine Zz (wpAny_holding (wpAny_call_entry slot_list_sort ⟨_,hoL,rfl⟩ entry_list_sort (uk hoL (hC _ _ _ old) hG hlen (fun h2=>hkk h2 _ _ _ old) fun out o1 o2=>⟨_,rfl,?_⟩) (args_list_sort _)))
 obtain ⟨e,he⟩:=sortedHeap_at (out:=out.toArray) hoL
 exact Zy ⟨_,rfl,h out _ e o1 o2 (fun b o eb=>by
  have hb:=Zm eb
  show (sortedHeap (s1.heap.push (seqObj "list" vs.toArray 0)) s1.heap.objs.size vs out.toArray).get? b=some o
  rw [sortedHeap_old (Zn hb) (by rw [size_push'];exact Nat.lt_succ_of_lt hb),Heap.get?_push_ne _ _ _ (Zn hb)]
  exact eb) he⟩
theorem AY {κ:KeyKind} (hO:κ.OneLt):Cmp prog w A E s oneType' (fun p=>∃ a,κ.keyOf p.1=some a) (fun p q=>match κ.keyOf p.1,κ.keyOf q.1 with | some a,some b=>κ.blt a b | _,_=>false):=by
 refine ⟨?_,?_,?_⟩
 ·rintro st x y Q hk ⟨a,ha⟩ ⟨b,hb⟩ h
  rw [lt'_eq]
  refine Zr (wpS_get ?_)
  rw [hk,keyLt'_oneType]
  refine Zr (wpS_lift (wpAny_attempt (hO prog w A _ s x.1 y.1 a b ha hb ⟨rfl,?_⟩)))
  rw [ha,hb] at h
  exact Zs h
 ·rintro x y ⟨a,ha⟩ ⟨b,hb⟩ h
  rw [ha,hb] at h ⊢
  exact KeyOrd.klt_asymm (O:=κ.toKeyOrd) h
 ·rintro x y z ⟨a,ha⟩ ⟨b,hb⟩ ⟨c,hc⟩ h1 h2
  rw [ha,hb] at h1
  rw [hb,hc] at h2
  rw [ha,hc]
  exact KeyOrd.kle_trans (O:=κ.toKeyOrd) h1 h2
end TS
end
section
namespace L2
open PySem PySem.Spec PyProof.Rows TS
section
variable {X:Cx}
theorem nE:∀ {us:List Value},(∀ v∈us,∃ x t,v=Value.str x t)->aK ((us.map strOf).map V.str) us
 | [],_=>.nil
 | u :: us,h=>by
  obtain ⟨x,t,rfl⟩:=h u (Zv ..)
  exact .cons ⟨t,rfl⟩ (nE fun v hv=>h v (Zw _ hv))
theorem xt {pins:List (Addr×Obj)} {σ:St} {H:Hp} {s s1:Shared} {Q:VK} {ss:List Str} {us:List Value} (I:Inv X pins σ H s1) (hv:∀ v∈us,∃ x t,v=Value.str x t) (es:us.map strOf=ss) (hlen:us.length<=sizeLine)
  (q:∀ (l:Addr) (ss':List Str),H l=none->ss'.Perm ss->ss'.Pairwise (fun a b=>¬ b.cps.toList < a.cps.toList)->Q (.ref l) (upd H l (.lst (ss'.map V.str)))) :
  Nonempty (SortPre X.prog X.w (EP X pins σ Q) us s1):=by
 refine ⟨⟨_,_,oneType',fun A E h _=>AY strKind_oneLt,fun v hm=>?_,hlen,fun h2 A E h _ Q hq=>?_,fun out h' e o1 o2 kp he=>?_⟩⟩
 ·obtain ⟨x,t,rfl⟩:=hv v hm
  exact ⟨_,rfl⟩
 ·match us,h2,hv with
  | v₁ :: v₂ :: vs,_,hv =>
   rw [keyKind_strs (strsAre_map _ hv)]
   exact Zy hq
 ·have hv':∀ v∈out,∃ x t,v=Value.str x t:=fun v hm=>hv v (o1.mem_iff.mp hm)
  have hz:((out.map strOf).map V.str).length<=sizeLine:=by rw [Zk,Zk,o1.length_eq];exact hlen
  refine ⟨.ref s1.heap.objs.size,_,I.laid (t':=s1.toks) kp (Zt _) (show aS X.prog X.w _ h' _ (.lst ((out.map strOf).map V.str)) from ⟨hz,out,e,nE hv',he⟩),rfl,q _ _ (I.hok.fresh (Zt _)) (by rw [← es];exact o1.map _) ?_⟩
  rw [List.pairwise_map] at o2 ⊢
  refine List.Pairwise.imp_of_mem (fun {a b} ha hb hab=>?_) o2
  obtain ⟨x,t,rfl⟩:=hv' a ha
  obtain ⟨y,u,rfl⟩:=hv' b hb
  have:decide (y.cps.toList < x.cps.toList)=false:=hab
  exact of_decide_eq_false this
end
end L2
end
section
namespace VS
theorem qU {n k:Nat} (h:k < n):ixP n (k:Int)=some k:=by
 unfold ixP
 rw [if_pos (by lia),if_pos (by lia),Int.toNat_natCast]
mutual
theorem oh:∀ (n:Nat) (t:T),eqD n t=true->eqT t t=true
 | n,.non,_=>by simp
 | n,.bl _,_=>by simp
 | n,.int _,_=>by simp
 | n,.str _,_=>by simp
 | n+1,.tup l,h=>by
  simp only [eqD,List.all_eq_true] at h
  simp only [eqT]
  exact iN n l h
 | n+1,.lst l,h=>by
  simp only [eqD,List.all_eq_true] at h
  simp only [eqT]
  exact iN n l h
 | 0,.tup _,h=>by simp at h
 | 0,.lst _,h=>by simp at h
 | _,.scr _,h=>by simp at h
 | _,.dct _ _,h=>by simp at h
 | _,.obj _ _,h=>by simp at h
theorem iN:∀ (n:Nat) (l:List T),(∀ t∈l,eqD n t=true)->kS l l=true
 | _,[],_=>rfl
 | n,t :: r,h=>by
  simp only [kS,Bool.and_eq_true]
  exact ⟨oh n t (h t Zv),iN n r fun u hu=>h u (Zw _ hu)⟩
end
theorem oW {m n:Md} {t:T} (h:eqD 60 t=true):oEq (m,t) (n,t)=some (.fr,.bl true):=by
 show (if eqD 60 t/\eqD 60 t then some (Md.fr,T.bl (eqT t t)) else none)=_
 rw [if_pos ⟨h,h⟩,oh 60 t h]
theorem jT {a:Ex} {η:Env} {m:Md} {l:List T} (e:a η=some (m,.lst l)):gz a η=some (m,l):=by
 simp [gz,e]
theorem jv {tg:Tg} {it:Its} {body:Sx} {η:Env} {m:Md} {l:List T} (e:it η=some (m,l)) (h:okF m=true):du tg it body η=forL tg body l η:=by
 unfold du
 rw [e]
 exact if_pos h
theorem dy {g:Fn} {as:Exs} {η:Env} {xs:List Val} {t:T} (h:as η=some xs) (h2:g (trees xs)=some (.fr,t)):aT g as η=some (.fr,t):=by
 simp only [aT,h,Option.bind_some,h2]
theorem bG {i:Nat} {e:Ex} {η:Env} {m:Md} {t:T} (h:e η=some (m,t)) (hm:m ≠ .bo) (hi:i < η.length):aM i e η=some (.nx (η.set i (some (.pu t)))):=by
 simp only [aM,h,Option.bind_some]
 cases m with
 | bo=>exact absurd rfl hm
 | _=>simp [hi]
theorem nz {m n:Md} {s t:List T}:bP (m,.lst s) (n,.lst t)=mkL (m.join n) (s++t):=rfl
theorem gD {a b:Sx} {η η':Env} (h:a η=some (.nx η')):ar a b η=b η':=by simp only [ar,h,Option.bind_some]
theorem kF {a b:Sx} {η η':Env} {v:Val} (h:a η=some (.rt v η')):ar a b η=some (.rt v η'):=by simp only [ar,h,Option.bind_some]
theorem C3 {np nn:Nat} {body:Sx} {ts:List T} {v:Val} (η:Env) {η':Env} (hl:ts.length=np) (he:ts.map (fun t=>some (Cell.pu t))++List.replicate (nn - np) none=η) (h:body η=some (.rt v η')):fn np nn body ts=some v:=by
 unfold fn
 rw [if_pos hl,he,h]
 rfl
end VS
end
section
namespace VS
open PySem PySem.Spec PyProof.Rows L2
theorem CP {a b c:Tx} (h:a < b) (h':¬ c < b):a < c:=by
 by_cases e:a < c
 ·exact e
 ·exact absurd (List.lt_of_le_of_lt (List.not_lt.mp e) h) h'
theorem ie (x:Tx):∀ l:List Tx,(jF x l).Perm (x :: l)
 | []=>List.Perm.refl _
 | y :: r=>by
  unfold jF
  split
  ·exact ((ie x r).cons y).trans (List.Perm.swap _ _ _)
  ·exact List.Perm.refl _
theorem fq:∀ l:List Tx,(dP l).Perm l
 | []=>List.Perm.refl _
 | x :: l=>(ie x _).trans ((fq l).cons x)
theorem oq (x:Tx):∀ {l:List Tx},l.Pairwise (fun a b=>¬ b < a)->(jF x l).Pairwise (fun a b=>¬ b < a)
 | [],_=>by simp [jF]
 | y :: r,h=>by
  unfold jF
  rw [jW]
  obtain ⟨h1,h2⟩:=List.pairwise_cons.mp h
  split
  ·rename_i c
   have c':y < x:=by simpa using c
   refine List.pairwise_cons.mpr ⟨fun z hz=>?_,oq x h2⟩
   rcases Zg.mp ((ie x r).mem_iff.mp hz) with rfl | hz
   ·exact fun z=>List.lt_irrefl _ (List.lt_trans c' z)
   ·exact h1 z hz
  ·rename_i c
   have c':¬ y < x:=by simpa using c
   refine List.pairwise_cons.mpr ⟨fun z hz=>?_,h⟩
   rcases Zg.mp hz with rfl | hz
   ·exact c'
   ·exact fun w=>h1 z hz (CP w c')
theorem lB:∀ l:List Tx,(dP l).Pairwise (fun a b=>¬ b < a)
 | []=>List.Pairwise.nil
 | x :: l=>oq x (lB l)
theorem su {l l':List Tx} (h:l'.Perm l) (hp:l'.Pairwise (fun a b=>¬ b < a)):l'=dP l :=
 List.Perm.eq_of_pairwise (le:=fun a b=>¬ b < a) (fun a b _ _ h1 h2=>List.le_antisymm (List.not_lt.mp h1) (List.not_lt.mp h2)) hp (lB l) (h.trans (fq l).symm)
theorem mO (s:Tx):(sx s).cps.toList=s:=rfl
theorem wD {ss:List Tx} {ss':List Str} (h:ss'.Perm (ss.map sx)) (hp:ss'.Pairwise (fun a b=>¬ b.cps.toList < a.cps.toList)):ss'=(dP ss).map sx:=by
 have e:ss'=(ss'.map fun x=>x.cps.toList).map sx:=by
  rw [List.map_map]
  conv=>lhs;rw [← List.map_id ss']
  apply List.map_congr_left
  intro x hx
  obtain ⟨s,_,rfl⟩:=List.mem_map.mp (h.mem_iff.mp hx)
  show sx s=sx (sx s).cps.toList
  rw [mO]
 have e2:(ss'.map fun x=>x.cps.toList)=dP ss:=by
  refine su ?_ ?_
  ·have:=h.map fun x:Str=>x.cps.toList
   rw [List.map_map] at this
   have e3:((fun x:Str=>x.cps.toList) ∘ sx)=id:=by
    funext s
    exact mO s
   rw [e3,List.map_id] at this
   exact this
  ·rw [List.pairwise_map];exact hp
 rw [e,e2]
noncomputable def txB (s:Tx):Bool:=decide (s.length<=eW) && s.all (fun c=>decide (c < 1114112))
theorem vc {s:Tx} (h:txB s=true):gG s:=by
 unfold txB at h
 simp at h
 exact h
section
variable {G:Gx} {X:Cx} {e:Expr} {cs:Exs} {p pos:Pos}
theorem jE {H:Hp}:∀ {ss:List Tx},(∀ s∈ss,gG s)->RpL G H (ss.map fun s=>V.str (sx s)) (ss.map T.str) (ss.map fun _=>[])
 | [],_=>.nil
 | s :: ss,h=>.cons (.str s (h s (Zv ..))) (jE fun x hx=>h x (Zw _ hx))
theorem iD {α β:Type}:∀ (l:List α),(l.map fun _=>([]:List β)).flatten=[]
 | []=>rfl
 | _ :: l=>by simp
theorem uS {Φ:Fps} {η:VS.Env} {H0 H:Hp} {ss:List Tx} {Q:VK} (k:∀ v H' F,aL H H'->Rp G H' v (.lst ((dP ss).map T.str)) F->Fp Φ η H0 .fr F->Q v H') (s0:aL H0 H) (tk:∀ s∈ss,gG s) :
  ∀ (l:Addr) (ss':List Str),H l=none->ss'.Perm (ss.map sx)->ss'.Pairwise (fun a b=>¬ b.cps.toList < a.cps.toList)->Q (.ref l) (upd H l (.lst (ss'.map V.str))):=fun q ss' hq hp hw=>by
 rw [wD hp hw]
 have sm:aL H (upd H q (.lst (((dP ss).map sx).map V.str))):=bH hq
 have r0:=jE (G:=G) (H:=upd H q (.lst (((dP ss).map sx).map V.str))) fun s hs=>tk s ((fq ss).mem_iff.mp hs)
 have r:Rp G (upd H q (.lst (((dP ss).map sx).map V.str))) (.ref q) (.lst ((dP ss).map T.str)) (q :: ((dP ss).map fun _=>[]).flatten):=.lst (by rw [aF,List.map_map];rfl) r0
 rw [iD] at r
 exact k _ _ _ sm r (Fp.new (s0.free hq) (by simp) Fp.nil)
theorem keys_str:∀ {ks:List Key} {ss:List Tx},strs? (ks.map aH)=some ss->ks=(ss.map sx).map Sum.inr
 | [],_,e=>by cases e;rfl
 | .inl i :: ks,_,e=>by cases e
 | .inr x :: ks,ss,e=>by
  simp only [List.map_cons,aH,strs?] at e
  obtain ⟨ss',e1,e2⟩:=Zq.mp e
  subst e2
  rw [keys_str e1]
  simp [sx]
theorem lI:bootBuiltins ("sorted" : Str)=some (.builtin "sorted"):=by decide +kernel
end
end VS
end
section
namespace VS
open PySem PySem.Builtin.Str PySem.StrLaws
end VS
end
section
namespace VS
open PySem PySem.Spec PyProof.Rows L2
section
variable {G:Gx} {X:Cx} {a e:Expr} {ca:Ex} {cs:Exs}
end
end VS
end
section
namespace ST
open PySem PySem.Spec PyProof.Rows
variable {prog:Program} {w:World} {A:Around} {E:Value->Shared->Prop} {s:Shared}
noncomputable def byT (w:World):Bool:=w.params.followText "set-order"
structure Tb (w:World) (n:Nat) (t:SetTable):Prop where
 fit:t.fits n=true
 led:t.led=!byT w
 pl:n ≠ 0->t.plain=false
noncomputable def Els (w:World) (l:List (Int×Value)):Prop:=∀ e∈l,∃ x tk,e=(hashStr w x,Value.str x tk)
noncomputable def nm (l:List (Int×Value)):List Str:=l.map fun e=>strOf e.2
structure Ts (w:World) (h:Heap) (a:Addr) (ss:List Str) (es:Array (Int×Value)) (ep:Nat) (t:SetTable):Prop where
 at_:h.get? a=some { cls:=.type "set",dict:=none,data:=.set es ep t }
 tb:Tb w es.size t
 els:Els w es.toList
 pm:(nm es.toList).Perm ss
 nd:ss.Nodup
 few:es.size < scanBound
theorem Els.of {l:List (Int×Value)} (h:Els w l):ElemsOf (strKind prog w) l:=fun e he=>by
 obtain ⟨x,tk,rfl⟩:=h e he
 exact ⟨⟨x,strKind_is prog w x tk,rfl⟩,rfl⟩
theorem vR {l:List (Int×Value)} (h:Els w l) {e:Int×Value} (he:e∈l) {k:Str}:(strKind prog w).is k e.2=true ↔ strOf e.2=k:=by
 obtain ⟨x,tk,rfl⟩:=h e he
 constructor
 ·intro hk
  obtain ⟨u,e⟩:=Value.isStrOf_shape (show Value.isStrOf k (.str x tk)=true from hk)
  cases e
  rfl
 ·intro hk
  cases hk
  exact strKind_is prog w _ tk
theorem Bl (t:SetTable) (n:Nat):(t.orStandIn n).led=t.led/\(t.plain=false->(t.orStandIn n).plain=false):=by
 unfold SetTable.orStandIn
 by_cases hf:t.fits n=true
 ·rw [if_pos hf]
  exact ⟨rfl,fun q=>q⟩
 ·rw [if_neg hf]
  exact ⟨rfl,fun _=>rfl⟩
theorem xq (t:SetTable) (es:Array (Int×Value)) (h:Int) (x:Value):(layNew t es h x).2.1.led=t.led/\(t.plain=false->(layNew t es h x).2.1.plain=false):=by
 unfold layNew
 split
 ·exact Bl _ _
 ·exact ⟨rfl,fun _=>rfl⟩
theorem sM (t:SetTable) (es:Array (Int×Value)) (n:Nat):(relayAll t es n).2.1.led=t.led/\(t.plain=false->(relayAll t es n).2.1.plain=false):=by
 unfold relayAll
 cases hr:t.relaid (es.map fun y=>y.1) n with
 | none=>exact ⟨rfl,fun _=>rfl⟩
 | some p =>
  obtain ⟨t',ord⟩:=p
  have hp:t'.led=t.led/\t'.plain=t.plain:=by
   unfold SetTable.relaid SetTable.laid at hr
   cases hc:SetTable.layClean (SetTable.sizeAbove n - 1) (es.map fun y=>y.1) with
   | none=>rw [hc] at hr;cases hr
   | some o =>
    rw [hc] at hr
    cases hr
    exact ⟨rfl,rfl⟩
  dsimp only
  split
  ·exact ⟨hp.1,fun q=>by rw [hp.2];exact q⟩
  ·exact ⟨rfl,fun _=>rfl⟩
theorem uc {a:Addr} {ss:List Str} {x:Str} {tk:Tok} {es:Array (Int×Value)} {ep:Nat} {t:SetTable} {Q:Bool->Shared->Prop} (T:Ts w s.heap a ss es ep t) (hr:ss.length+1 < scanBound)
  (h:∀ h' ss' es' ep' t' b,Heap.SameBut a s.heap h'->Ts w h' a ss' es' ep' t'->(∀ y,y∈ss' ↔ y∈ss\/y=x)->ss'.length<=ss.length+1->Q b { s with heap:=h' }) :
  wpAny (model prog w) A (setAddHashed a (.str x tk) (hashStr w x)) Q E s:=by
 have hel:=T.els.of (prog:=prog)
 have hkey:=strKind_is prog w x tk
 have hsz:es.size=ss.length:=by rw [← T.pm.length_eq];simp [nm]
 unfold setAddHashed setAddHashedIn
 refine wpAny_holding (Zz (wpAny_setState_of T.at_ rfl T.tb.fit ?_))
 dsimp only
 rw [byScan_of (knd:=strKind prog w) rfl T.few hel,if_pos rfl]
 unfold setAddByScan
 refine Zz (Zz (wpAny_rule (Zz (wpAny_setScan_of (knd:=strKind prog w) hkey T.at_ rfl T.tb.fit hel ?_))))
 cases hf:List.findIdx? (fun e=>(strKind prog w).is x e.2) es.toList with
 | some j =>
  obtain ⟨hj,hpj,_⟩:=List.findIdx?_eq_some_iff_getElem.mp hf
  have hx:x∈ss:=T.pm.mem_iff.mp (List.mem_map.mpr ⟨_,List.getElem_mem hj,(vR T.els (List.getElem_mem hj)).mp hpj⟩)
  refine Zy (Zy ?_)
  exact h s.heap ss es ep t _ (Heap.SameBut.refl a s.heap) T (fun y=>⟨.inl,fun z=>z.elim id fun e=>e ▸ hx⟩) (Nat.le_succ _)
 | none =>
  have hx:x ∉ ss:=fun hm=>by
   obtain ⟨e,he,q⟩:=List.mem_map.mp (T.pm.mem_iff.mpr hm)
   have:=List.findIdx?_eq_none_iff.mp hf e he
   rw [(vR T.els he).mpr q] at this
   cases this
  have hperm:=layNew_perm t es (hashStr w x) (.str x tk)
  have hfits:=layNew_fits t es (hashStr w x) (.str x tk)
  have hled:=xq t es (hashStr w x) (.str x tk)
  dsimp only
  generalize layNew t es (hashStr w x) (.str x tk)=L at hperm hfits hled ⊢
  obtain ⟨es1,t1,wd,gv⟩:=L
  dsimp only at hperm hfits hled ⊢
  rw [Array.toList_push] at hperm
  have els1:Els w es1.toList:=fun e he=>by
   rcases Zh.mp (hperm.mem_iff.mp he) with q | q
   ·exact T.els e q
   ·exact ⟨x,tk,Zi.mp q⟩
  have pm1:(nm es1.toList).Perm (ss++[x]):=(hperm.map _).trans (by
   rw [List.map_append]
   exact T.pm.append_right _)
  have nd1:(ss++[x]).Nodup:=List.nodup_append.mpr ⟨T.nd,by simp,fun y hy z hz e=>hx (by rw [← Zi.mp hz,← e];exact hy)⟩
  have sz1:es1.size=ss.length+1:=by
   have:=pm1.length_eq
   simpa [nm] using this
  have few1:es1.size < scanBound:=by rw [sz1];exact hr
  have fin:∀ (es2:Array (Int×Value)) (ep2:Nat) (t2:SetTable) (h':Heap) (b:Bool),es2.toList.Perm es1.toList->t2.fits es2.size=true->t2.led=t.led->t2.plain=false->Heap.SameBut a s.heap h' →
    h'.get? a=some { cls:=.type "set",dict:=none,data:=.set es2 ep2 t2 }->Q b { s with heap:=h' }:=fun es2 ep2 t2 h' b p2 f2 l2 q2 sb g2 =>
   h h' (ss++[x]) es2 ep2 t2 b sb ⟨g2,⟨f2,l2.trans T.tb.led,fun _=>q2⟩,fun e he=>els1 e (p2.mem_iff.mp he),(p2.map _).trans pm1,nd1,by
    rw [← Array.length_toList,p2.length_eq,Array.length_toList];exact few1⟩ (fun y=>by simp) (by simp)
  have rest:∀ (t2:SetTable),t2.fits es1.size=true->t2.led=t.led->t2.plain=false->wpAny (model prog w) A (do
    storeSet a es1 t2
    if (!wd && t2.tooFull)=true then
     let r:=relayAll t2 es1 (SetTable.grown es1.size)
     (match r.2.2 with
      | true=>rule "set.scan.the-table-gave-way"
      | false=>pure ())
     storeSet a r.1 r.2.1
     pure (some true)
    else pure (some true)) (fun o s'=>∃ b,o=some b/\Q b s') E s:=fun t2 f2 l2 q2=>by
   refine Zz (wpAny_storeSet_of T.at_ rfl ?_ (fits_of_scanBound few1))
   have g2:(s.heap.update a (Obj.putSet es1 t2)).get? a=some { cls:=.type "set",dict:=none,data:=.set es1 (ep+1) t2 }:=Heap.get?_update_self _ T.at_ rfl
   have sb2:Heap.SameBut a s.heap (s.heap.update a (Obj.putSet es1 t2)):=Heap.SameBut.update ..
   by_cases hq:(!wd && t2.tooFull)=true
   ·rw [if_pos hq]
    have rp:=relayAll_perm t2 es1 (SetTable.grown es1.size)
    have rf:=relayAll_fits t2 es1 (SetTable.grown es1.size)
    have rl:=sM t2 es1 (SetTable.grown es1.size)
    generalize relayAll t2 es1 (SetTable.grown es1.size)=R at rp rf rl ⊢
    obtain ⟨es2,t3,gv2⟩:=R
    dsimp only at rp rf rl ⊢
    have few2:es2.size < scanBound:=by rw [← Array.length_toList,rp.length_eq,Array.length_toList];exact few1
    have g3:((s.heap.update a (Obj.putSet es1 t2)).update a (Obj.putSet es2 t3)).get? a=some { cls:=.type "set",dict:=none,data:=.set es2 (ep+1+1) t3 }:=Heap.get?_update_self _ g2 rfl
    have st:wpAny (model prog w) A (storeSet a es2 t3 >>= fun _=>pure (some true)) (fun o s'=>∃ b,o=some b/\Q b s') E { s with heap:=s.heap.update a (Obj.putSet es1 t2) } :=
     Zz (wpAny_storeSet_of g2 rfl (Zy ⟨true,rfl,fin es2 _ t3 _ _ rp rf (rl.1.trans l2) (rl.2 q2) (sb2.trans (Heap.SameBut.update ..)) g3⟩) (fits_of_scanBound few2))
    cases gv2 with
    | true=>exact Zz (wpAny_rule st)
    | false=>exact Zz (Zy st)
   ·rw [if_neg hq]
    exact Zy ⟨true,rfl,fin es1 _ t2 _ _ (List.Perm.refl _) f2 l2 q2 sb2 g2⟩
  have out:∀ (m:Sem (Option Bool)),wpAny (model prog w) A m (fun o s'=>∃ b,o=some b/\Q b s') E s->wpAny (model prog w) A m (fun o s'=>wpAny (model prog w) A (match o with | some added=>pure added | none=>setAddHashedIn a (.str x tk) (hashStr w x) 99999) Q E s') E s:=fun m hm =>
   wpAny_mono hm (fun o s' ⟨b,e,q⟩=>by subst e;exact Zy q) fun _ _ e=>e
  refine out _ ?_
  have mid:∀ (m:Sem Unit),(∀ (s1:Shared) (Q1:Unit->Shared->Prop),Q1 () s1->wpAny (model prog w) A m Q1 E s1)->∀ (f:Unit->Sem (Option Bool)),wpAny (model prog w) A (f ()) (fun o s'=>∃ b,o=some b/\Q b s') E s->wpAny (model prog w) A (m >>= f) (fun o s'=>∃ b,o=some b/\Q b s') E s:=fun m hm f hf=>Zz (hm s _ hf)
  refine mid _ (fun s1 Q1 q1=>by cases gv <;> first | exact Zy q1 | exact wpAny_rule q1) _ ?_
  by_cases hp:t1.plain=true
  ·rw [if_pos hp]
   refine Zz (m:=hashByValue 8 (.str x tk)) (Zy ?_)
   simp only [Bool.false_eq_true,↓reduceIte]
   exact rest { t1 with plain:=false } (SetTable.fits_plain_off hfits) hled.1 rfl
  ·rw [if_neg hp]
   refine Zz (Zy ?_)
   simp only [↓reduceIte]
   exact rest t1 hfits hled.1 (by simpa using hp)
theorem oV {R:Result->Shared->Prop} {I S:Addr} {fp wr:List Addr} {G:Array GenState->Array GenState->Prop} {n:Nat} {P:Nat->Value->Prop} {St:Nat->Shared->Prop} {xs:List Str}
  (W:WalksS prog w A.in1 I fp wr G n P St) (off:S ∉ fp) (hn:n=xs.length) (hP:∀ i v,P i v->∃ x t,v=.str x t/\xs[i]?=some x) (hb:n+1 < scanBound) :
  ∀ (k i:Nat) (s:Shared) (ss:List Str) (es:Array (Int×Value)) (ep:Nat) (t:SetTable),i+k=n->St i s->Ts w s.heap S ss es ep t->(∀ y,y∈ss ↔ y∈xs.take i)->ss.length<=i →
   (∀ s' ss' es' ep' t',Moved (S :: wr) G s s'->Ts w s'.heap S ss' es' ep' t'->(∀ y,y∈ss' ↔ y∈xs)->ss'.length<=n->R (.ok (.ret .none)) s') →
   codeAny (model prog w) A (.builtin "set.update.loop" ⟨[.ref S,.ref I],[]⟩) R s
 | 0,i,s,ss,es,ep,t,hk,st,T,hm,hl,hR=>by
  have hi:i=n:=by lia
  subst hi
  refine codeAny_builtin F.entry_set_update_loop ?_
  rw [Around.under_plainId F.plain_set_update_loop]
  refine Zz (m:=pyNext (.ref I)) (W.done s _ _ st fun s' mv=>Zy (hR s' ss es ep t (mv.mono fun b hb=>Zw _ hb) ⟨mv.heap S _ (fun h=>off (W.sub _ h)) T.at_,T.tb,T.els,T.pm,T.nd,T.few⟩ (fun y=>?_) hl))
  rw [hm y,hn,List.take_length]
 | k+1,i,s,ss,es,ep,t,hk,st,T,hm,hl,hR=>by
  refine codeAny_builtin F.entry_set_update_loop ?_
  rw [Around.under_plainId F.plain_set_update_loop]
  refine Zz (m:=pyNext (.ref I)) (W.item i s _ _ (by lia) st fun v s1 pv st1 mv=>?_)
  obtain ⟨x,tk,rfl,hx⟩:=hP i v pv
  have T1:Ts w s1.heap S ss es ep t:=⟨mv.heap S _ (fun h=>off (W.sub _ h)) T.at_,T.tb,T.els,T.pm,T.nd,T.few⟩
  refine Zz (m:=holding [Value.str x tk] (setAdd S (.str x tk))) (wpAny_holding ?_)
  unfold setAdd
  refine wpAny_holding (Zz (wpAny_pyHash_str (uc (s:={ s1 with toks:=s1.toks+1 }) T1 (by lia) fun h' ss' es' ep' t' b sb T2 hm2 hl2=>?_)))
  refine Zy ⟨plainId_quiet F.plain_set_update_loop _,oV W off hn hP hb k (i+1) _ ss' es' ep' t' (by lia) (W.frame _ s1 _ _ st1 (Nat.le_succ _) fun c hc o e=>?_) T2 (fun y=>?_) (by lia) fun s2 ss2 es2 ep2 t2 mv2 T3 hm3 hl3=>?_⟩
  ·rw [sb.2 c fun e'=>off (e' ▸ hc)]
   exact e
  ·rw [hm2 y,hm y,List.take_add_one,hx,Zh]
   simp
  ·refine hR s2 ss2 es2 ep2 t2 (Moved.trans W.gtrans (Moved.then_heap (mv.mono fun b hb=>Zw _ hb) (Nat.le_succ _) fun c o hc e=>?_) mv2) T3 hm3 hl3
   rw [sb.2 c fun e'=>hc (by rw [e'];exact Zv)]
   exact e
noncomputable abbrev bare (w:World):Obj:={ cls:=.type "set",dict:=none,data:=.set #[] 0 (.fresh 0 0 (!byT w)) }
theorem yH (v:Value) {Q:Value->Shared->Prop} (h:Q (.ref s.heap.objs.size) { s with heap:=s.heap.push (bare w) }) :
  codeAny (model prog w) A (.call (.builtin "set.__new__") ⟨[.type "set",v],[]⟩) (wants Q E) s:=by
 refine codeAny_of_tree (Zz (m:=checkBuiltinCall "set.__new__" ⟨[.type "set",v],[]⟩) (wpAny_of_eq (F.newCall_set_1 v) (Zy ⟨plainId_quiet F.plain_set_new _,codeAny_builtin F.entry_set_new ?_⟩)))
 rw [Around.under_plainId F.plain_set_new]
 have own:=sub_set_self
 cases s
 unfold Builtin.«set.__new__» Builtin.Frozenset.newClass
 wp_walk
 refine wpAny_askSetting (Zy ?_)
 simp only [newObj]
 exact Zz (wpAny_alloc (Zy (Zy h)))
theorem Ts.bare (h:Heap):Ts w (h.push (ST.bare w)) h.objs.size [] #[] 0 (.fresh 0 0 (!byT w)) :=
 ⟨Zo _ rfl,⟨rfl,rfl,fun e=>absurd rfl e⟩,fun e he=>by simp at he,List.Perm.refl _,List.nodup_nil,by decide⟩
end ST
end
section
namespace ST
open PySem PySem.Spec PyProof.Rows
variable {prog:Program} {w:World} {A:Around} {E:Value->Shared->Prop} {s:Shared}
theorem ju:Slot "set_iterator" "__next__" "set_iterator.__next__" := .of (owner := "set_iterator") (n := "__next__") (by rw [typeLookup_type,builtinLookup_eq_fast];kernel_rfl) (by decide +kernel) (by decide +kernel)
 (by decide +kernel) (by first | exact .inl (by decide +kernel) | exact .inr (by decide +kernel)) (by rw [isSubtype_type];kernel_rfl)
theorem qZ:Slot "set_iterator" "__iter__" "set_iterator.__iter__" := .of (owner := "set_iterator") (n := "__iter__") (by rw [typeLookup_type,builtinLookup_eq_fast];kernel_rfl) (by decide +kernel) (by decide +kernel)
 (by decide +kernel) (by first | exact .inl (by decide +kernel) | exact .inr (by decide +kernel)) (by rw [isSubtype_type];kernel_rfl)
theorem zj:entryFor table "set_iterator.__next__" = some Builtin.«set_iterator.__next__» := entryFor_of_fast (by kernel_rfl)
theorem xD:entryFor table "set_iterator.__iter__" = some Builtin.«dict_keyiterator.__iter__» := entryFor_alias (id' := "dict_keyiterator.__iter__") (by kernel_rfl) rfl (by decide +kernel) (by kernel_rfl)
theorem xn:entryFor table "set.__iter__" = some Builtin.«frozenset.__iter__» := entryFor_alias (id' := "frozenset.__iter__") (by kernel_rfl) rfl (by decide +kernel) (by kernel_rfl)
theorem xw (v:Value):argsOk "set_iterator.__next__" ⟨[v],[]⟩:=by unfold argsOk;kernel_rfl
theorem yw (v:Value):argsOk "set_iterator.__iter__" ⟨[v],[]⟩:=by unfold argsOk;kernel_rfl
theorem wp_choose {src:Source} {n:Nat} {Q:Nat->Shared->Prop} (hn:n ≠ 0) (h:∀ i d,i < n->Q i { s with drawn:=d }):wpAny (model prog w) A (choose src n) Q E s:=fun Γ p _=>by
 show n ≠ 0/\_
 exact ⟨hn,h _ _ (Nat.mod_lt _ (Nat.pos_of_ne_zero hn))⟩
theorem mN {α:Type}:∀ (l:List α) {i:Nat} (h:i < l.length),(l[i] :: l.eraseIdx i).Perm l
 | a :: l,0,_=>List.Perm.refl _
 | a :: l,i+1,h=>((List.Perm.swap _ _ _).trans ((mN l (by simpa using h)).cons a))
theorem yC {α:Type}:∀ (n:Nat) (xs:List α) (s:Shared) (Q:List α->Shared->Prop),n=xs.length->(∀ ys d,ys.Perm xs->Q ys { s with drawn:=d })->wpAny (model prog w) A (drawOrder n xs) Q E s:=by
 intro n
 induction n with
 | zero =>
  intro xs s Q e h
  cases xs with
  | nil=>exact Zy (h [] s.drawn (List.Perm.refl _))
  | cons x xs=>exact absurd e (by simp)
 | succ n ih =>
  intro xs s Q e h
  cases xs with
  | nil=>exact absurd e (by simp)
  | cons x xs =>
   unfold drawOrder
   refine Zz (wp_choose (by simp) fun i d hi=>?_)
   rw [Zd hi]
   refine Zz (ih _ _ _ (by rw [List.length_eraseIdx,if_pos hi];simp at e ⊢;omega) fun ys d' hp=>Zy (h _ d' ?_))
   exact (List.Perm.cons _ hp).trans (mN _ hi)
noncomputable abbrev itO (first:Value) (i:Nat) (a:Addr) (n ep:Nat):Obj:={ cls:=.type "set_iterator",data:=.fields #[first,.int i 0,.ref a,.int n 0,.int ep 0] }
theorem va {t:SetTable} {n:Nat} (h:t.fits n=true):¬ ((t.place.size != n || decide (t.fill > t.mask))=true):=by
 unfold SetTable.fits at h
 simp at h
 simp [h.1]
 exact h.2
theorem wH {Q:PySem.Fin->Shared->Prop} {E':Value->Shared->Prop} (hh:A.handled=none) (h:∀ (h':Heap) (x:Addr),(∀ b o,s.heap.get? b=some o->h'.get? b=some o)->(∃ o,h'.get? x=some o/\o.cls=.type "StopIteration")->E' (.ref x) { s with heap:=h' }) :
  wpAny (model prog w) A (newExc (.type "StopIteration") [] >>= fun e=>raiseNew e) Q E' s:=by
 simp only [newExc,newTuple]
 refine Zz (Zz (wpAny_newObj_type (Zz (m:=firstArgMember _ _) (wpAny_of_eq (a:=Value.none) (by first | rfl | (simp only [firstArgMember];rfl)) (wpAny_newObj_type ?_ (by size_fits)))) (by size_fits)))
 simp only [raiseNew]
 refine Zz (wpAny_handled ?_)
 rw [hh]
 exact Zz (Zy (wpAny_throw (h _ _ (fun b o e=>Zu _ (Zu _ e)) ⟨_,Zo _ rfl,rfl⟩)))
theorem rA {I:Addr} {fs:Array Value} {Q:Option Value->Shared->Prop} (hI:s.heap.get? I=some { cls:=.type "set_iterator",data:=.fields fs })
  (h:wpAny (model prog w) A.in1 (Builtin.«set_iterator.__next__» ⟨[.ref I],[]⟩) (fun f s'=>∃ v,f=.done (.ret v)/\Q (some v) s') (fun e s'=>∃ x,e=.ref x/\(∃ o,s'.heap.get? x=some o/\o.cls=.type "StopIteration")/\Q none s') s) :
  wpAny (model prog w) A (pyNext (.ref I)) Q E s:=by
 unfold pyNext
 have ty:s.TypeIs (.ref I) "set_iterator" := ⟨_,hI,rfl⟩
 refine Zz (wpAny_attempt (wpAny_callSpecial?_slot (name:=Str.ofString "__next__") ty ju (wpAny_call_entry ju ty zj (wpAny_mono h (fun f s' hf=>?_) fun e s' he=>?_) (xw _))))
 ·obtain ⟨v,rfl,q⟩:=hf
  exact ⟨v,rfl,Zy q⟩
 ·obtain ⟨x,rfl,⟨o,ho,hc⟩,q⟩:=he
  exact Zz (wpAny_isInstance (T := "StopIteration") (b:=true) ⟨o,ho,hc⟩ isSubtype_stop (Zy q))
noncomputable abbrev kJ (es:Array (Int×Value)) (ep:Nat) (t:SetTable):Obj:={ cls:=.type "set",dict:=none,data:=.set es ep t }
theorem jD {I a p:Addr} {i ep:Nat} {q:List Nat} {es:Array (Int×Value)} {t:SetTable} {op:Obj} {np:Nat} {Q:Option Value->Shared->Prop} (hh:A.handled=none) (ht:s.heap.get? a=some (kJ es ep t)) (hf:t.fits es.size=true)
  (hI:s.heap.get? I=some (itO (.ref p) i a es.size ep)) (hp:s.heap.get? p=some op) (hd:op.data=.seq (q.map fun (k:Nat)=>rawInt k).toArray np)
  (h1:∀ j x,q[i]?=some j->es[j]?=some x->∀ h',Heap.SameBut I s.heap h'->h'.get? I=some (itO (.ref p) (i+1) a es.size ep)->Q (some x.2) { s with heap:=h' })
  (h2:∀ j,q[i]?=some j->j < es.size) (h3:q[i]?=none->∀ h',(∀ b o,b ≠ I->s.heap.get? b=some o->h'.get? b=some o)->Q none { s with heap:=h' }) :
  wpAny (model prog w) A (pyNext (.ref I)) Q E s:=by
 refine rA hI ?_
 unfold Builtin.«set_iterator.__next__»
 wp_walk
 rw [if_neg (va hf)]
 refine Zy (Zy ?_)
 dsimp only
 rw [if_neg (by simp)]
 refine Zz (wpAny_seqItems hp hd ?_)
 dsimp only
 rw [Int.toNat_natCast]
 cases hq:q[i]? with
 | some j =>
  have e1:(q.map fun (k:Nat)=>rawInt k).toArray[i]?=some (rawInt j):=by simp [hq]
  rw [e1]
  have hj:=h2 j hq
  unfold setNextDrawn
  refine Zz (Zz (wpAny_setState_of ht rfl hf ?_))
  dsimp only
  rw [Int.toNat_natCast,if_neg (by simp)]
  show wpAny _ _ (match es[(j:Int).toNat]? with | some (_,x)=>pure x | _=>unsupported "internal:set_iterator") _ _ _
  rw [Int.toNat_natCast]
  cases hx:es[j]? with
  | none=>rw [Array.getElem?_eq_getElem hj] at hx;cases hx
  | some x =>
   refine Zy (Zz (wpAny_setField hI rfl (by show 1 < 5;decide) (Zy ⟨_,rfl,h1 j x hq hx _ (Heap.SameBut.update ..) ?_⟩)))
   exact Heap.get?_update_self _ hI rfl
 | none =>
  have e1:(q.map fun (k:Nat)=>rawInt k).toArray[i]?=none:=by simp at hq ⊢;exact hq
  rw [e1]
  dsimp only
  have g1:=Heap.get?_update_self (Obj.mapFields (·.setIfInBounds 0 (rawInt 0))) hI rfl
  refine Zz (wpAny_setField hI rfl (by show 0 < 5;decide) (Zz (wpAny_setField g1 rfl (by show 2 < 5;decide) (wH hh fun h' x kp hx=>⟨x,rfl,hx,h3 hq h' fun b o hb e=>kp b o ?_⟩))))
  exact (Heap.get?_update_other _ _ (Ne.symm hb)).trans ((Heap.get?_update_other _ _ (Ne.symm hb)).trans e)
theorem fG {I a:Addr} {i ep sl:Nat} {es:Array (Int×Value)} {t:SetTable} {r:Option (Value×Nat)} {Q:Option Value->Shared->Prop} (hh:A.handled=none) (ht:s.heap.get? a=some (kJ es ep t)) (hf:t.fits es.size=true)
  (hI:s.heap.get? I=some (itO (.int sl 0) i a es.size ep)) (hr:∀ (Q:Option (Value×Nat)->Shared->Prop) (E:Value->Shared->Prop),Q r s->wpAny (model prog w) A.in1 (setNext a sl i ep) Q E s)
  (h1:∀ x nx,r=some (x,nx)->∀ h',Heap.SameBut I s.heap h'->h'.get? I=some (itO (.int nx 0) (i+1) a es.size ep)->Q (some x) { s with heap:=h' })
  (h3:r=none->∀ h',(∀ b o,b ≠ I->s.heap.get? b=some o->h'.get? b=some o)->Q none { s with heap:=h' }) :
  wpAny (model prog w) A (pyNext (.ref I)) Q E s:=by
 refine rA hI ?_
 unfold Builtin.«set_iterator.__next__»
 wp_walk
 rw [if_neg (va hf)]
 refine Zy (Zy ?_)
 dsimp only
 rw [if_neg (by simp)]
 simp only [Int.toNat_natCast]
 refine Zz (hr _ _ ?_)
 match r,h1,h3 with
 | some (x,nx),h1,_ =>
  have g1:=Heap.get?_update_self (Obj.mapFields (·.setIfInBounds 0 (rawInt nx))) hI rfl
  have g2:=Heap.get?_update_self (Obj.mapFields (·.setIfInBounds 1 (rawInt ((i:Int)+1)))) g1 rfl
  exact Zz (wpAny_setField hI rfl (by show 0 < 5;decide) (Zz (wpAny_setField g1 rfl (by show 1 < 5;decide) (Zy ⟨x,rfl,h1 x nx rfl _ (Heap.SameBut.trans (Heap.SameBut.update ..) (Heap.SameBut.update ..)) g2⟩))))
 | none,_,h3 =>
  refine Zz (wpAny_setField hI rfl (by show 2 < 5;decide) (wH hh fun h' x kp hx=>⟨x,rfl,hx,h3 rfl h' fun b o hb e=>kp b o ?_⟩))
  exact (Heap.get?_update_other _ _ (Ne.symm hb)).trans e
theorem qT {α:Type} (f:Nat->Nat):∀ (n k:Nat) (l:List α) (out:Array α),l.length=n->(pickOrder.go f n k l out).toList.Perm (out.toList++l)
 | 0,k,l,out,h=>by
  cases l with
  | nil=>unfold pickOrder.go;simp
  | cons a l=>simp at h
 | n+1,k,l,out,h=>by
  have hl:f k % l.length < l.length:=Nat.mod_lt _ (by lia)
  unfold pickOrder.go
  rw [Zd hl]
  dsimp only
  refine (qT f n (k+1) _ _ (by rw [List.length_eraseIdx,if_pos hl];lia)).trans ?_
  rw [Array.toList_push,Zf]
  exact List.Perm.append_left _ (mN l hl)
theorem iX {α:Type} (f:Nat->Nat) (xs:Array α):(pickOrder f xs).toList.Perm xs.toList:=by
 unfold pickOrder
 simpa using qT f xs.size 0 xs.toList #[] rfl
theorem qE {a:Addr} {i ep sl:Nat} {es:Array (Int×Value)} {t:SetTable} (hb:byT w=true) (ht:s.heap.get? a=some (kJ es ep t)) (hf:t.fits es.size=true) (Q:Option (Value×Nat)->Shared->Prop) (E:Value->Shared->Prop)
  (h:Q (((pickOrder (w.params.setOrder a ep) es)[i]?).map fun e=>(e.2,sl)) s):wpAny (model prog w) A (setNext a sl i ep) Q E s:=by
 have sb:∀ (Q:Bool->Shared->Prop),Q true s->wpAny (model prog w) A setsByText Q E s:=fun Q q=>Zz (wpAny_askSetting (Zy (by show Q (byT w) s;rw [hb];exact q)))
 unfold setNext
 refine Zz (wpAny_setState_of ht rfl hf (Zz (sb _ ?_)))
 dsimp only
 rw [if_pos rfl,if_neg (by simp)]
 unfold setWalk
 refine Zz (Zz (wpAny_setState_of ht rfl hf (Zz (sb _ ?_))))
 rw [if_pos rfl]
 exact Zz (wpAny_askSetting (Zy (Zy h)))
theorem ui {a:Addr} {i ep sl:Nat} {es:Array (Int×Value)} {t:SetTable} (hb:byT w=false) (ht:s.heap.get? a=some (kJ es ep t)) (hf:t.fits es.size=true) (hl:t.led=true) (h1:es.size<=1) (Q:Option (Value×Nat)->Shared->Prop) (E:Value->Shared->Prop)
  (h:Q (match es[SetTable.below t.place sl]?,t.place[SetTable.below t.place sl]? with | some (_,x),some j=>some (x,j+1) | _,_=>none) s):wpAny (model prog w) A (setNext a sl i ep) Q E s:=by
 have sb:∀ (Q:Bool->Shared->Prop),Q false s->wpAny (model prog w) A setsByText Q E s:=fun Q q=>Zz (wpAny_askSetting (Zy (by show Q (byT w) s;rw [hb];exact q)))
 unfold setNext
 refine Zz (wpAny_setState_of ht rfl hf (Zz (sb _ ?_)))
 dsimp only
 rw [if_neg Zp]
 have dn:∀ b:Bool,¬ ((b && decide (es.size > 1))=true):=fun b=>by cases b <;> simp <;> omega
 refine (show wpAny _ _ (if (!t.plain && decide (es.size > 1))=true then _ else _) _ _ _ from ?_)
 rw [if_neg (dn _)]
 refine Zz (show wpAny _ _ (if (!t.led && !es.isEmpty)=true then _ else _) _ _ _ from ?_)
 rw [if_neg (by rw [hl];simp)]
 exact Zy (Zy h)
end ST
end
section
namespace ST
open PySem PySem.Spec PyProof.Rows
variable {prog:Program} {w:World} {A:Around} {E:Value->Shared->Prop} {s:Shared}
theorem vn {α:Type} {xs:Array α} (h:xs.size=1):∃ x,xs=#[x]:=by
 obtain ⟨l⟩:=xs
 match l,h with
 | [x],_=>exact ⟨x,rfl⟩
noncomputable abbrev Gs:Array GenState->Array GenState->Prop:=fun a b=>b=a
theorem g0 {I a:Addr} {fp:List Addr} {es:Array (Int×Value)} {ep:Nat} {t:SetTable} {ord:List Value} (first:Nat->Value) (more:Heap->Prop) (hI:I∈fp) (ha:a∈fp) (hne:a ≠ I)
  (hm:∀ h h':Heap,more h->(∀ b∈fp,b ≠ I->∀ o,h.get? b=some o->h'.get? b=some o)->more h')
  (step:∀ (i:Nat) (s:Shared) (Q:Option Value->Shared->Prop) (E:Value->Shared->Prop),i < es.size->s.heap.get? a=some (kJ es ep t)->s.heap.get? I=some (itO (first i) i a es.size ep)->more s.heap →
   (∀ v h',ord[i]?=some v->Heap.SameBut I s.heap h'->h'.get? I=some (itO (first (i+1)) (i+1) a es.size ep)->Q (some v) { s with heap:=h' })->wpAny (model prog w) A (pyNext (.ref I)) Q E s)
  (stop:∀ (s:Shared) (Q:Option Value->Shared->Prop) (E:Value->Shared->Prop),s.heap.get? a=some (kJ es ep t)->s.heap.get? I=some (itO (first es.size) es.size a es.size ep)->more s.heap →
   (∀ h',(∀ b o,b ≠ I->s.heap.get? b=some o->h'.get? b=some o)->Q none { s with heap:=h' })->wpAny (model prog w) A (pyNext (.ref I)) Q E s) :
  WalksS prog w A I fp [I] Gs es.size (fun i v=>ord[i]?=some v) (fun i s=>s.heap.get? a=some (kJ es ep t)/\s.heap.get? I=some (itO (first i) i a es.size ep)/\more s.heap) where
 sub:=fun b hb=>by rw [Zi.mp hb];exact hI
 grefl:=fun _=>rfl
 gtrans:=fun _ _ _ p q=>q.trans p
 frame:=fun i s h' tk st _ kp=>⟨kp a ha _ st.1,kp I hI _ st.2.1,hm _ _ st.2.2 fun b hb _ o e=>kp b hb o e⟩
 item:=fun i s Q E hi st hQ=>step i s Q E hi st.1 st.2.1 st.2.2 fun v h' hv sb g=>hQ v _ hv ⟨(sb.2 a hne).trans st.1,g,hm _ _ st.2.2 fun b _ hb o e=>(sb.2 b hb).trans e⟩ ⟨fun b o hb e=>(sb.2 b fun q=>hb (by rw [q];exact Zi.mpr rfl)).trans e,rfl,rfl,rfl,Zt _⟩
 done:=fun s Q E st hQ=>stop s Q E st.1 st.2.1 st.2.2 fun h' kp=>hQ _ ⟨fun b o hb e=>kp b o (fun q=>hb (by rw [q];exact Zi.mpr rfl)) e,rfl,rfl,rfl,Zt _⟩
 self:=fun i s Q E st hQ=>wpAny_pyIter_slot ⟨_,st.2.1,rfl⟩ qZ (wpAny_call_entry qZ ⟨_,st.2.1,rfl⟩ xD (show wpAny _ _ (ret (.ref I)) _ _ _ from Zy ⟨_,rfl, "set_iterator",_,⟨_,st.2.1,rfl⟩,ju.lookup,hQ⟩) (yw _))
noncomputable def Ready (prog:Program) (w:World) (n0:Nat) (a:Addr) (es:Array (Int×Value)) (I:Addr) (s:Shared):Prop :=
 ∃ (ord:List Value) (p:Addr),ord.Perm (es.toList.map (·.2))/\n0<=I/\n0<=p/\∃ St:Nat->Shared->Prop,(∀ A:Around,A.handled=none->WalksS prog w A I [I,a,p] [I] Gs es.size (fun i v=>ord[i]?=some v) St)/\St 0 s
theorem wz {a:Addr} {ss:List Str} {es:Array (Int×Value)} {ep:Nat} {t:SetTable} {Q:Value->Shared->Prop} (T:Ts w s.heap a ss es ep t)
  (h:∀ (I:Addr) (h':Heap) d,(∀ b o,s.heap.get? b=some o->h'.get? b=some o)->Ready prog w s.heap.objs.size a es I { s with heap:=h',drawn:=d }->I < h'.objs.size->Q (.ref I) { s with heap:=h',drawn:=d }) :
  wpAny (model prog w) A (pyIter (.ref a)) Q E s:=by
 have ht:s.heap.get? a=some (kJ es ep t):=T.at_
 have hlt:=Zm ht
 have ty:s.TypeIs (.ref a) "set" := ⟨_,ht,rfl⟩
 refine wpAny_pyIter_slot ty F.slot_set_iter (wpAny_call_entry F.slot_set_iter ty xn ?_ (F.args_set_iter_1 _))
 unfold Builtin.«frozenset.__iter__» Builtin.Frozenset.slot0 Builtin.Frozenset.sizeOf setEntries
 refine Zz (m:=(do Builtin.Frozenset.addrOf (← slotArgs "__iter__" 0 ⟨[.ref a],[]⟩).1)) (Zy ?_)
 refine Zz (Zz (Zz (wpAny_setState_of ht rfl T.tb.fit (Zy (Zy ?_)))))
 unfold setDrawn
 have sb:∀ (Q:Bool->Shared->Prop) (E:Value->Shared->Prop),Q (byT w) s->wpAny (model prog w) A.in1 setsByText Q E s:=fun Q E q=>Zz (wpAny_askSetting (Zy q))
 refine Zz (Zz (wpAny_setState_of ht rfl T.tb.fit (Zz (sb _ _ (Zy ?_)))))
 refine (show wpAny _ _ (if (!byT w && (!t.plain && decide (es.size > 1)))=true then _ else _) _ _ _ from ?_)
 dsimp only
 have fin:∀ (first:Value) (h1:Heap) (d:_),(∀ b o,s.heap.get? b=some o->h1.get? b=some o)->Ready prog w s.heap.objs.size a es h1.objs.size { s with heap:=h1.push (itO first 0 a es.size ep),drawn:=d } →
   wpAny (model prog w) A.in1 (do
    let e ← setEpoch a
    let v ← newFields "set_iterator" [first,rawInt 0,Value.ref a,rawInt es.size,rawInt e]
    ret v) (fun f s'=>∃ v,f=.done (.ret v)/\∃ T' r,s'.TypeIs v T'/\typeLookup (Value.type T') (Str.ofString "__next__")=pure (some r)/\Q v s') E { s with heap:=h1,drawn:=d }:=fun first h1 d kp rd=>by
  refine Zz (wpAny_setEpoch_of (s:={ s with heap:=h1,drawn:=d }) (kp _ _ ht) rfl T.tb.fit (Zz (wpAny_newObj_type (Zy ⟨_,rfl, "set_iterator",_,⟨_,Zo _ rfl,rfl⟩,ju.lookup,?_⟩))))
  exact h h1.objs.size _ d (fun b o e=>Zu _ (kp b o e)) rd (by rw [Heap.size_push];exact Nat.lt_succ_self _)
 have hne:a ≠ s.heap.objs.size:=Zn hlt
 cases hb:byT w with
 | true =>
  rw [if_neg (by simp)]
  refine Zz (Zy (fin (rawInt 0) s.heap s.drawn (fun b o e=>e) ⟨(pickOrder (w.params.setOrder a ep) es).toList.map (·.2),s.heap.objs.size,(iX _ _).map _,Zt _,Zt _,_,fun A' hh =>
   g0 (ep:=ep) (t:=t) (fun _=>rawInt 0) (fun _=>True) (by simp) (by simp) hne (fun _ _ _ _=>trivial) ?step ?stop,⟨Zu _ ht,Zo _ rfl,trivial⟩⟩))
  case step =>
   intro i s1 Q1 E1 hi h1 h2 _ q
   have hl:(pickOrder (w.params.setOrder a ep) es).size=es.size:=by rw [← Array.length_toList,(iX _ es).length_eq,Array.length_toList]
   refine fG hh h1 T.tb.fit h2 (fun Q E hq=>qE hb h1 T.tb.fit Q E hq) (fun x nx e h' sb g=>?_) fun e=>?_
   ·rw [Array.getElem?_eq_getElem (by lia)] at e
    cases e
    exact q _ h' (by rw [List.getElem?_map,Array.getElem?_toList,Array.getElem?_eq_getElem (by lia)];rfl) sb g
   ·rw [Array.getElem?_eq_getElem (by lia)] at e
    cases e
  case stop =>
   intro s1 Q1 E1 h1 h2 _ q
   have hl:(pickOrder (w.params.setOrder a ep) es).size=es.size:=by rw [← Array.length_toList,(iX _ es).length_eq,Array.length_toList]
   refine fG hh h1 T.tb.fit h2 (fun Q E hq=>qE hb h1 T.tb.fit Q E hq) (fun x nx e h' sb g=>?_) fun e=>q
   rw [Array.getElem?_eq_none (by lia)] at e
   cases e
 | false =>
  by_cases h1:es.size > 1
  ·rw [if_pos (by rw [T.tb.pl (by lia)];simp [h1])]
   refine Zz (yC _ _ _ _ (by simp) fun q d hq=>Zz (wpAny_newObj_type (fin _ _ d (fun b o e=>Zu _ e) ?_) ?_))
   ·have hql:q.length=es.size:=by rw [hq.length_eq,List.length_range]
    have hqm:∀ j∈q,j < es.size:=fun j hj=>List.mem_range.mp (hq.mem_iff.mp hj)
    refine ⟨q.map fun j=>((es[j]?).map (·.2)).getD .none,s.heap.objs.size,?_,by rw [Heap.size_push];exact Nat.le_succ _,Zt _,_,fun A' hh =>
     g0 (ep:=ep) (t:=t) (fun _=>.ref s.heap.objs.size) (fun h=>h.get? s.heap.objs.size=some { cls:=.type "tuple",data:=.seq (q.map fun (k:Nat)=>rawInt k).toArray }) (by simp) (by simp)
      (by rw [Heap.size_push];exact Zn (Nat.lt_succ_of_lt hlt)) (fun x y e k=>k _ (by simp) (by rw [Heap.size_push];exact Zn (Nat.lt_succ_self _)) _ e) ?step ?stop,⟨Zu _ (Zu _ ht),Zo _ rfl,Zu _ (Zo _ rfl)⟩⟩
    case step =>
     intro i s1 Q1 E1 hi g1 g2 g3 q1
     refine jD hh g1 T.tb.fit g2 g3 rfl (fun j x e1 e2 h' sb g=>q1 _ h' ?_ sb g) (fun j e=>hqm j (List.mem_of_getElem? e)) fun e=>?_
     ·rw [List.getElem?_map,e1]
      simp [e2]
     ·rw [Zd (by lia)] at e
      cases e
    case stop =>
     intro s1 Q1 E1 g1 g2 g3 q1
     refine jD hh g1 T.tb.fit g2 g3 rfl (fun j x e1 e2 h' sb g=>?_) (fun j e=>hqm j (List.mem_of_getElem? e)) fun e=>q1
     rw [List.getElem?_eq_none (by lia)] at e1
     cases e1
    refine (hq.map _).trans (List.Perm.of_eq ?_)
    apply List.ext_getElem?
    intro i
    rw [List.getElem?_map,List.getElem?_map]
    by_cases hi:i < es.size
    ·rw [List.getElem?_range hi,Array.getElem?_toList,Array.getElem?_eq_getElem hi]
     simp [hi]
    ·rw [List.getElem?_eq_none (by rw [List.length_range];lia),Array.getElem?_toList,Array.getElem?_eq_none (by lia)]
     rfl
   ·show _<=sizeLine
    have hql:q.length=es.size:=by rw [hq.length_eq,List.length_range]
    have:=fits_of_scanBound T.few
    simp
    lia
  ·rw [if_neg (by simp [h1])]
   have hled:t.led=true:=by rw [T.tb.led,hb];rfl
   have hps:t.place.size=es.size:=by
    have:=T.tb.fit
    unfold SetTable.fits at this
    simp at this
    exact this.1
   have hbp:∀ (i sl:Nat) (s1:Shared),s1.heap.get? a=some (kJ es ep t)->∀ (A':Around) (Q:Option (Value×Nat)->Shared->Prop) (E:Value->Shared->Prop),Q (match es[SetTable.below t.place sl]?,t.place[SetTable.below t.place sl]? with | some (_,x),some j=>some (x,j+1) | _,_=>none) s1 →
     wpAny (model prog w) A' (setNext a sl i ep) Q E s1:=fun i sl s1 g A' Q E hq=>ui hb g T.tb.fit hled (by lia) Q E hq
   by_cases h0:es.size=0
   ·have he:es=#[]:=Array.eq_empty_of_size_eq_zero h0
    refine Zz (Zy (fin (rawInt 0) s.heap s.drawn (fun b o e=>e) ⟨[],s.heap.objs.size,by rw [he];exact List.Perm.refl _,Zt _,Zt _,_,fun A' hh =>
     g0 (ep:=ep) (t:=t) (fun _=>rawInt 0) (fun _=>True) (by simp) (by simp) hne (fun _ _ _ _=>trivial) ?step ?stop,⟨Zu _ ht,Zo _ rfl,trivial⟩⟩))
    case step=>exact fun i s1 Q1 E1 hi=>absurd hi (by lia)
    case stop =>
     intro s1 Q1 E1 g1 g2 _ q
     refine fG hh g1 T.tb.fit g2 (hbp es.size 0 s1 g1 _) (fun x nx e h' sb g=>?_) fun e=>q
     rw [Array.getElem?_eq_none (by lia)] at e
     cases e
   ·have hs1:es.size=1:=by lia
    obtain ⟨x0,hx0⟩:∃ x,es=#[x]:=vn hs1
    obtain ⟨j0,hj0⟩:∃ j,t.place=#[j]:=vn (by lia)
    have b0:SetTable.below t.place 0=0:=by rw [hj0];simp [SetTable.below,SetTable.below.go]
    have b1:SetTable.below t.place (j0+1)=1:=by rw [hj0];simp [SetTable.below,SetTable.below.go]
    refine Zz (Zy (fin (rawInt 0) s.heap s.drawn (fun b o e=>e) ⟨[x0.2],s.heap.objs.size,by rw [hx0];exact List.Perm.refl _,Zt _,Zt _,_,fun A' hh =>
     g0 (ep:=ep) (t:=t) (fun i=>.int ((if i=0 then 0 else j0+1:Nat):Int) 0) (fun _=>True) (by simp) (by simp) hne (fun _ _ _ _=>trivial) ?step ?stop,⟨Zu _ ht,Zo _ rfl,trivial⟩⟩))
    case step =>
     intro i s1 Q1 E1 hi g1 g2 _ q
     have hi0:i=0:=by lia
     subst hi0
     refine fG hh g1 T.tb.fit g2 (hbp 0 0 s1 g1 _) (fun x nx e h' sb g=>?_) fun e=>?_
     ·rw [b0,hx0,hj0] at e
      cases e
      exact q x0.2 h' rfl sb g
     ·rw [b0,hx0,hj0] at e
      cases e
    case stop =>
     intro s1 Q1 E1 g1 g2 _ q
     rw [hs1] at g2
     have g3:s1.heap.get? s.heap.objs.size=some (itO (.int ((j0+1:Nat):Int) 0) 1 a es.size ep):=by rw [hs1];exact g2
     refine fG hh g1 T.tb.fit g3 (hbp 1 (j0+1) s1 g1 _) (fun x nx e h' sb g=>?_) fun e=>q
     rw [b1,Array.getElem?_eq_none (by lia)] at e
     cases e
theorem wm {a:Addr} {Q:Bool->Shared->Prop} (ty:s.TypeIs (.ref a) "set") (h:Q false s):wpAny (model prog w) A (Builtin.List.listLengthHint (.ref a)) Q E s:=by
 unfold Builtin.List.listLengthHint
 refine Zz (wpAny_specialOf ty PySem.F.slot_set_len.lookup ?_)
 generalize hid:("set.__len__" : String)=nm
 wp_delta
 rw [show splitId nm=some ("set", "__len__") from by subst hid;decide +kernel]
 subst hid
 exact Zz (wpAny_isInstance (T := "set") (b:=true) ty sub_set_self (wpAny_ite_split (fun e=>absurd e (by decide)) fun _=>wpAny_ite_split (fun _=>Zz (wpAny_typeOf ty (Zy h))) fun e=>absurd (by decide +kernel) e))
theorem wW {a:Addr} {ss:List Str} {es:Array (Int×Value)} {ep:Nat} {t:SetTable} {R:List Value->Shared->Prop} (hh:A.handled=none) (T:Ts w s.heap a ss es ep t)
  (h:∀ (h':Heap) d (tk:Nat) (vs:List Value),(∀ b o,s.heap.get? b=some o->h'.get? b=some o)->(∀ v∈vs,∃ x u,v=Value.str x u)->(vs.map strOf).Perm ss->R vs { s with heap:=h',drawn:=d,toks:=tk }) :
  wpAny (model prog w) A (collect (.ref a)) R E s:=by
 have ht:s.heap.get? a=some (kJ es ep t):=T.at_
 have hlt:=Zm ht
 have hz:=fits_of_scanBound T.few
 unfold collect
 refine Zz (wpAny_runValue (codeAny_builtin entry_proto_collect' ?_))
 rw [Around.under_plainId PySem.F.plain_proto_collect]
 refine Zz (m:=newList []) (wpAny_newObj_type (Zy ⟨plainId_quiet PySem.F.plain_list_iadd _,codeAny_builtin entry_list_iadd' ?_⟩))
 rw [Around.under_plainId PySem.F.plain_list_iadd]
 refine (show wpAny _ A.in1 (Builtin.List.listExtendWith (.ref s.heap.objs.size) (.ref a) (.ref s.heap.objs.size)) _ _ _ from ?_)
 have L0:(s.heap.push { cls:=.type "list",data:=.seq ([]:List Value).toArray }).get? s.heap.objs.size=some { cls:=.type "list",data:=.seq #[] }:=Zo _ rfl
 have T1:Ts w (s.heap.push { cls:=.type "list",data:=.seq ([]:List Value).toArray }) a ss es ep t:=⟨Zu _ ht,T.tb,T.els,T.pm,T.nd,T.few⟩
 unfold Builtin.List.listExtendWith
 have ty:Shared.TypeIs { s with heap:=s.heap.push { cls:=.type "list",data:=.seq ([]:List Value).toArray } } (.ref a) "set" := ⟨_,T1.at_,rfl⟩
 refine Zz (wpAny_typeOf (T := "set") ty ?_)
 rw [if_neg (by
  have:Builtin.List.listSameRef (.ref s.heap.objs.size) (.ref a)=false:=by simp [Builtin.List.listSameRef];exact Nat.ne_of_gt hlt
  rw [this]
  decide)]
 refine Zz (wz T1 fun I h1 d kp rd hI=>?_)
 obtain ⟨ord,p,hord,hI0,hp0,St,W,st⟩:=rd
 have ty1:Shared.TypeIs { s with heap:=h1,drawn:=d } (.ref a) "set" := ⟨_,kp _ _ T1.at_,rfl⟩
 refine Zz (wpAny_holding (wm ty1 ?_))
 have hIs:s.heap.objs.size < I:=Nat.lt_of_lt_of_le (by rw [Heap.size_push];exact Nat.lt_succ_self _) hI0
 have hps:s.heap.objs.size < p:=Nat.lt_of_lt_of_le (by rw [Heap.size_push];exact Nat.lt_succ_self _) hp0
 have off:s.heap.objs.size ∉ [I,a,p]:=by
  simp only [Zg,List.not_mem_nil,or_false,not_or]
  exact ⟨Zn hIs,Nat.ne_of_gt hlt,Zn hps⟩
 have W1:=W A.in1 hh
 have loop:∀ (h2:Heap) (c:Nat),(∀ b o,b ≠ s.heap.objs.size->h1.get? b=some o->h2.get? b=some o)->h2.get? s.heap.objs.size=some { cls:=.type "list",data:=.seq #[] c } →
   codeAny (model prog w) A (.builtin "list.extend.loop" ⟨[.ref s.heap.objs.size,.ref I,.ref s.heap.objs.size],[]⟩) (fun r s'=>∃ acc c',r=.ok (.ret (.ref s.heap.objs.size))/\s'.heap.get? s.heap.objs.size=some { cls:=.type "list",data:=.seq acc c' }/\R acc.toList s') { s with heap:=h2,drawn:=d }:=fun h2 c k2 g2=>by
  refine codeAny_extend_loopS W1 hz s.heap.objs.size off _ es.size 0 _ #[] c rfl (Nat.zero_le _) (W1.frame 0 _ h2 s.toks st (Zt _) fun b hb o e=>k2 b o (fun q=>off (q ▸ hb)) e) g2 (ItemsOf.nil _) fun s' acc c' mv g' ha=>⟨acc,c',rfl,g',?_⟩
  obtain ⟨h3,g3,d3,tk3,os3⟩:=s'
  have e1:g3=s.gens:=mv.gens
  have e2:d3=d:=mv.drawn
  have e3:os3=s.os:=mv.os
  subst e1 e2 e3
  have eacc:acc.toList=ord:=by
   apply List.ext_getElem?
   intro i
   rw [Array.getElem?_toList]
   cases e:acc[i]? with
   | some v=>exact (ha.2 i v e).symm
   | none =>
    have h4:acc.size<=i:=Array.getElem?_eq_none_iff.mp e
    have h5:ord.length=es.size:=by rw [hord.length_eq];simp
    exact (List.getElem?_eq_none (by rw [h5,← ha.1];exact h4)).symm
  refine h h3 d3 tk3 acc.toList (fun b o e=>?_) (fun v hv=>?_) ?_
  ·have hb:=Zm e
   refine mv.heap b o (fun hin=>?_) (k2 b o (Zn hb) (kp b o (Zu _ e)))
   simp only [Zg,List.not_mem_nil,or_false] at hin
   rcases hin with q | q
   ·exact Zn hb q
   ·exact Zn (Nat.lt_trans hb hIs) q
  ·rw [eacc] at hv
   obtain ⟨e,he,rfl⟩:=List.mem_map.mp (hord.mem_iff.mp hv)
   obtain ⟨x,u,rfl⟩:=T.els e he
   exact ⟨x,u,rfl⟩
  ·rw [eacc]
   refine (hord.map strOf).trans (List.Perm.trans (List.Perm.of_eq ?_) T.pm)
   rw [List.map_map]
   rfl
 have gL:=kp _ _ L0
 have end_:∀ (h2:Heap) (c:Nat),(∀ b o,b ≠ s.heap.objs.size->h1.get? b=some o->h2.get? b=some o)->h2.get? s.heap.objs.size=some { cls:=.type "list",data:=.seq #[] c }->_:=fun h2 c k2 g2 =>
  codeAny_mono (loop h2 c k2 g2) (R':=fun r s'=>match r with | .ok (.ret v)=>wpAny (model prog w) A (match v with | .ref a=>load a >>= fun o=>(match o.data with | .seq xs _=>pure xs.toList | _=>unsupported "internal:collect") | _=>unsupported "internal:collect") R E s' | .ok _=>False | .error e=>E e s') fun r s' ⟨acc,c',e,g',q⟩=>by
   subst e
   exact Zz (wpAny_load g' (Zy q))
 rw [if_pos (by decide)]
 have g2:=Heap.get?_update_self (Obj.mapSeq (·.push Value.none)) gL rfl
 have g3:=Heap.get?_update_self (Obj.mapSeq (·.pop)) g2 rfl
 refine Zz (wpAny_rule (Zz ?_))
 refine (show wpAny _ _ (updateSeq s.heap.objs.size (·.push .none) >>= fun _=>updateSeq s.heap.objs.size (·.pop)) _ _ _ from ?_)
 refine Zz (wpAny_updateSeq gL rfl (wpAny_updateSeq (hz:=by seq_fits) g2 rfl (Zy ⟨plainId_quiet PySem.F.plain_extend_loop _,end_ _ _ (fun b o hb e=>?_) g3⟩)))
 exact (Heap.get?_update_other _ _ (Ne.symm hb)).trans ((Heap.get?_update_other _ _ (Ne.symm hb)).trans e)
end ST
end
section
namespace L2
open PySem PySem.Spec PyProof.Rows TS
section
variable {X:Cx}
noncomputable def yE (w:World) (a:Addr) (xs:List Str):HO:=.ext fun h=>∃ ss es ep t,ST.Ts w h a ss es ep t/\∀ y,y∈ss ↔ y∈xs
theorem Inv.drew {pins:List (Addr×Obj)} {σ:St} {H:Hp} {s:Shared} (I:Inv X pins σ H s) (d:Drawn):Inv X pins σ H { s with drawn:=d } :=
 ⟨I.ok,I.os,I.bare,I.base,I.loc,I.cell,I.free,I.freeC,I.pin,I.hok,I.len⟩
theorem ji (hc:X.calm=true):dq X (.builtin "sorted") (fun xs H Q=>∃ p,∃ ss:List Str,xs=[.ref p]/\H p=some (yE X.w p ss) ∧
  ∀ (l:Addr) (ss':List Str),H l=none->ss'.Nodup->(∀ y,y∈ss' ↔ y∈ss)->ss'.Pairwise (fun a b=>¬ b.cps.toList < a.cps.toList)->Q (.ref l) (upd H l (.lst (ss'.map V.str)))):=by
 intro pins s σ H xs us Q I rx h
 obtain ⟨p,ss,rfl,hq,q⟩:=h
 obtain ⟨u,rfl,ru⟩:=rx.one
 cases ru
 obtain ⟨⟨ss1,es,ep,t,T,hm⟩,_,_⟩:=I.hok p _ hq
 refine pY fun A' E' hA=>ST.wW (hA.trans (I.ok.hd hc)) T fun h' d tk vs kp hv hp=>?_
 have I1:Inv X pins σ H { s with heap:=h',drawn:=d,toks:=tk }:=(I.kept kp).drew d
 refine xt (s:=s) (ss:=vs.map strOf) I1 hv rfl ?_ fun l ss' hl p' w'=>q l ss' hl (((p'.trans hp).nodup_iff).mpr T.nd) (fun y=>((p'.trans hp).mem_iff).trans (hm y)) w'
 have h1:=fits_of_scanBound T.few
 have h2:=hp.length_eq
 have h3:=T.pm.length_eq
 simp [ST.nm] at h2 h3
 lia
end
end L2
namespace VS
open PySem PySem.Spec PyProof.Rows L2
section
variable {G:Gx} {X:Cx} {a b c e tg:Expr} {es:List Expr} {ca cb cc ce:Ex} {cs:Exs} {pos p p1 p2 apos cpos pos':Pos} {k k':Nat}
theorem fF:∀ (l:List Tx) (x:Tx),x∈dedup l ↔ x∈l
 | [],x=>by simp [dedup]
 | a :: l,x=>by
  simp only [dedup,Zg,List.mem_filter,fF l x,ne_eq,decide_not,Bool.not_eq_eq_eq_not,Bool.not_true,decide_eq_false_iff_not]
  by_cases h:x=a
  ·simp [h]
  ·simp [h]
theorem i9:∀ (l:List Tx),(dedup l).Nodup
 | []=>by simp [dedup]
 | a :: l=>by
  simp only [dedup,List.nodup_cons]
  exact ⟨by simp,(i9 l).filter _⟩
theorem zZ:bootBuiltins ("set" : Str)=some (.type "set"):=by decide +kernel
theorem Cf {a b:Tx} (h:sx a=sx b):a=b:=by
 have:=congrArg (fun s:Str=>s.cps.toList) h
 simpa [sx] using this
end
section
variable {G:Gx}
theorem qx {Fs:List (List Addr)} {i j:Nat} {F F':List Addr} (nd:Fs.flatten.Nodup) (hi:Fs[i]?=some F) (hj:Fs[j]?=some F') (n:i ≠ j) {a:Addr} (ha:a∈F):a ∉ F':=by
 intro hb
 induction Fs generalizing i j with
 | nil=>simp at hi
 | cons G Gs ih =>
  rw [Ze,List.nodup_append] at nd
  cases i with
  | zero =>
   simp at hi;subst hi
   cases j with
   | zero=>exact n rfl
   | succ j=>exact nd.2.2 a ha a (eA (by simpa using hj) hb) rfl
  | succ i =>
   cases j with
   | zero =>
    simp at hj;subst hj
    exact nd.2.2 a hb a (eA (by simpa using hi) ha) rfl
   | succ j=>exact ih nd.2.1 (by simpa using hi) (by simpa using hj) (by lia)
theorem gh {Fs:List (List Addr)} {j:Nat} {F':List Addr} {a:Addr} (h:a∈(Fs.set j F').flatten):a∈F'\/∃ i F,i ≠ j/\Fs[i]?=some F/\a∈F:=by
 obtain ⟨i,F,h1,h2⟩:=eu h
 by_cases e:i=j
 ·subst e
  rw [List.getElem?_set_self' ] at h1
  cases q:Fs[i]? with
  | none=>rw [q] at h1;cases h1
  | some _=>rw [q] at h1;cases h1;exact .inl h2
 ·rw [List.getElem?_set_ne (Ne.symm e)] at h1
  exact .inr ⟨i,F,e,h1,h2⟩
theorem gR:∀ {Fs:List (List Addr)} {j:Nat} {F':List Addr},Fs.flatten.Nodup->F'.Nodup->(∀ i F,i ≠ j->Fs[i]?=some F->∀ a∈F,a ∉ F')->(Fs.set j F').flatten.Nodup
 | [],_,_,h,_,_=>by simpa using h
 | G :: Gs,0,F',h,h',d=>by
  rw [Ze,List.nodup_append] at h
  rw [List.set_cons_zero,Ze,List.nodup_append]
  refine ⟨h',h.2.1,fun a ha b hb e=>?_⟩
  subst e
  obtain ⟨i,F,h1,h2⟩:=eu hb
  exact d (i+1) F (by lia) (by simpa using h1) a h2 ha
 | G :: Gs,j+1,F',h,h',d=>by
  rw [Ze,List.nodup_append] at h
  rw [List.set_cons_succ,Ze,List.nodup_append]
  refine ⟨h.1,gR h.2.1 h' fun i F n hi=>d (i+1) F (by lia) (by simpa using hi),fun a ha b hb e=>?_⟩
  subst e
  rcases gh hb with z | ⟨i,F,n,h1,h2⟩
  ·exact d 0 G (by lia) rfl a ha z
  ·exact h.2.2 a ha a (eA h1 h2) rfl
theorem RpL.each {H H2:Hp}:∀ {vs:List V} {ts:List T} {Fs:List (List Addr)},RpL G H vs ts Fs->(∀ (i:Nat) v t F,vs[i]?=some v->ts[i]?=some t->Fs[i]?=some F->Rp G H v t F->Rp G H2 v t F)->RpL G H2 vs ts Fs
 | _,_,_,.nil,_=>.nil
 | _,_,_,.cons r q,k=>.cons (k 0 _ _ _ rfl rfl rfl r) (RpL.each q fun i v t F a b c d=>k (i+1) v t F (by simpa using a) (by simpa using b) (by simpa using c) d)
theorem RpL.setAt {H H2:Hp}:∀ {vs:List V} {ts:List T} {Fs:List (List Addr)} {j:Nat} {u:V} {x':T} {F':List Addr},RpL G H vs ts Fs->vs[j]?=some u->Rp G H2 u x' F'->(∀ (i:Nat) v t F,i ≠ j->vs[i]?=some v->ts[i]?=some t->Fs[i]?=some F->Rp G H v t F->Rp G H2 v t F)->RpL G H2 vs (ts.set j x') (Fs.set j F')
 | _,_,_,_,_,_,_,.nil,h,_,_=>by simp at h
 | _,_,_,0,_,_,_,.cons r q,h,r',k=>by
  simp at h;subst h
  exact .cons r' (RpL.each q fun i v t F a b c d=>k (i+1) v t F (by lia) (by simpa using a) (by simpa using b) (by simpa using c) d)
 | _,_,_,j+1,_,_,_,.cons r q,h,r',k=>.cons (k 0 _ _ _ (by lia) rfl rfl rfl r) (RpL.setAt q (by simpa using h) r' fun i v t F n a b c d=>k (i+1) v t F (by lia) (by simpa using a) (by simpa using b) (by simpa using c) d)
theorem qN {H H2:Hp} {a:Addr} {o:HO} {vs:List V} {ts:List T} {Fs:List (List Addr)} {j:Nat} {u:V} {x':T} {Fj Fj':List Addr} (ha:H a=some o) (ra:RpL G H vs ts Fs) (nd:(a :: Fs.flatten).Nodup) (hu:vs[j]?=some u) (hF:Fs[j]?=some Fj)
  (g:Chg G H u Fj x' H2 Fj'):H2 a=some o/\RpL G H2 vs (ts.set j x') (Fs.set j Fj')/\(a :: (Fs.set j Fj').flatten).Nodup/\(∀ b∈a :: (Fs.set j Fj').flatten,b∈a :: Fs.flatten\/H b=none)/\∀ b o,b ∉ a :: Fs.flatten->H b=some o->H2 b=some o:=by
 rw [List.nodup_cons] at nd
 have subF:∀ b∈Fj,b∈Fs.flatten:=fun b hb=>eA hF hb
 have dis:∀ i F,i ≠ j->Fs[i]?=some F->∀ b∈F,b ∉ Fj':=fun i F n hi b hb hb'=>by
  rcases g.sub b hb' with z | z
  ·exact qx nd.2 hi hF n hb z
  ·exact Mut.ne_none (ra.dom b (eA hi hb)) z
 refine ⟨g.keep a o (fun z=>nd.1 (subF a z)) ha,ra.setAt hu g.rp (fun i v t F n h1 h2 h3 r=>r.keep g.kept fun b hb o' ho=>g.keep b o' (qx nd.2 h3 hF n hb) ho),?_,fun b hb=>?_,fun b o' hb ho=>g.keep b o' (fun z=>hb (Zw _ (subF b z))) ho⟩
 ·rw [List.nodup_cons]
  refine ⟨fun h=>?_,gR nd.2 g.nd dis⟩
  rcases gh h with z | ⟨i,F,n,h1,h2⟩
  ·rcases g.sub a z with z | z
   ·exact nd.1 (subF a z)
   ·rw [ha] at z;cases z
  ·exact nd.1 (eA h1 h2)
 ·rcases Zg.mp hb with rfl | hb
  ·exact .inl Zv
  ·rcases gh hb with z | ⟨i,F,n,h1,h2⟩
   ·rcases g.sub b z with z | z
    ·exact .inl (Zw _ (subF b z))
    ·exact .inr z
   ·exact .inl (Zw _ (eA h1 h2))
theorem lZ {α β:Type}:∀ (as:List α) (bs:List β) (i:Nat) (a:α) (y:β),as[i]?=some a->(as.zip bs).set i (a,y)=as.zip (bs.set i y)
 | [],_,_,_,_,h=>by simp at h
 | a :: as,[],i,_,_,_=>by cases i <;> simp
 | a :: as,b :: bs,0,_,y,h=>by simp at h;subst h;rfl
 | a :: as,b :: bs,i+1,_,y,h=>by
  have:=lZ as bs i _ y (by simpa using h)
  simp [this]
theorem pq {α β:Type} (p:α->Bool):∀ {as:List α} {bs:List β} {i:Nat},as.length=bs.length->(as.zip bs).findIdx? (fun q=>p q.1)=some i->∃ a b,as[i]?=some a/\bs[i]?=some b/\p a=true/\(as.zip bs).find? (fun q=>p q.1)=some (a,b)
 | [],[],_,_,h=>by simp at h
 | a :: as,b :: bs,i,hl,h=>by
  rw [List.zip_cons_cons,List.findIdx?_cons] at h
  by_cases hp:p a=true
  ·rw [if_pos hp] at h
   cases h
   exact ⟨a,b,rfl,rfl,hp,by simp [hp]⟩
  ·rw [if_neg hp] at h
   obtain ⟨j,hj,rfl⟩:=Zq.mp h
   obtain ⟨a',b',h1,h2,h3,h4⟩:=pq p (by simpa using hl) hj
   exact ⟨a',b',by simpa using h1,by simpa using h2,h3,by simp [hp,h4]⟩
theorem iG (k k':Key):eqT (aH k') (aH k)=true ↔ k'=k:=by
 cases k with
 | inl i=>cases k' <;> simp [aH]
 | inr x =>
  obtain ⟨⟨x⟩⟩:=x
  cases k' with
  | inl j=>simp [aH]
  | inr y=>obtain ⟨⟨y⟩⟩:=y;simp [aH]
theorem qL {k:Key} {u:V}:∀ {ns:List Key} {ts:List T} {vs:List V} {i:Nat},ns.length=ts.length->ns.length=vs.length->((ns.map aH).zip ts).findIdx? (fun q=>eqT q.1 (aH k))=some i->vs[i]?=some u->cf (ns.zip vs) k=some u
 | [],_,_,_,_,_,h,_=>by simp at h
 | n :: ns,t :: ts,v :: vs,i,h1,h2,h,hu=>by
  rw [List.map_cons,List.zip_cons_cons,List.findIdx?_cons] at h
  by_cases hp:eqT (aH n) (aH k)=true
  ·rw [if_pos hp] at h
   cases h
   simp at hu;subst hu
   exact bO ((iG k n).mp hp)
  ·rw [if_neg hp] at h
   obtain ⟨j,hj,rfl⟩:=Zq.mp h
   have hn:n ≠ k:=fun z=>hp ((iG k n).mpr z)
   have:cf ((n :: ns).zip (v :: vs)) k=cf (ns.zip vs) k:=by simp [cf,hn]
   rw [this]
   exact qL (by simpa using h1) (by simpa using h2) hj (by simpa using hu)
 | _ :: _,[],_,_,h,_,_,_=>by simp at h
 | _ :: _,_ :: _,[],_,_,h,_,_=>by simp at h
end
section
variable {G:Gx}
variable {X:Cx} {e:Expr} {es:List Expr} {i:Nat} {way:List Stp} {pos pos' p1 apos cpos:Pos} {c:Ex} {cs:Exs} {b:Expr} {k:Nat}
@[simp] noncomputable def Et (i:Nat) (way:List Stp) (f:T->List Val->Option (T×Val)) (as:Exs) (η:VS.Env):Option (Val×VS.Env):=match η[i]? with
 | some (some (.ow t))=>(keys way η).bind fun ks=>(as η).bind fun xs=>(pm (fun x=>f x xs) ks t).map fun z=>(z.2,η.set i (some (.ow z.1)))
 | _=>none
noncomputable def AL (G:Gx):Prop:=∀ c k k':Nat,(G.ct c).2 k=(G.ct c).2 k'->k=k'
end
section
variable {G:Gx} {X:Cx} {e o:Expr} {es:List Expr} {i:Nat} {way:List Stp} {pos pos' p1 apos cpos:Pos} {c:Ex} {cs:Exs} {b:Expr} {k:Nat} {ce ck:Ex}
theorem qq {H:Hp} {kk:Key} {xv:V} {t:T} (rv:Rp G H xv t []):∀ {ks:List Key} {vs:List V} {ts:List T} {Fs:List (List Addr)},ks.length=vs.length->RpL G H vs ts Fs →
  ∃ vs' ts' Fs',(ks.zip vs).map (fun kv=>if kv.1=kk then (kv.1,xv) else kv)=ks.zip vs'/\ks.length=vs'.length/\((ks.map aH).zip ts).map (fun p=>if eqT p.1 (aH kk) then (p.1,t) else p)=(ks.map aH).zip ts'/\RpL G H vs' ts' Fs'/\Fs'.flatten.Sublist Fs.flatten
 | [],[],_,_,_,.nil=>⟨[],[],[],rfl,rfl,rfl,.nil,List.Sublist.refl _⟩
 | k :: ks,v :: vs,_,_,hl,.cons (t:=t0) (F:=F) (ts:=ts) (Fs:=Fs) r q=>by
  obtain ⟨vs',ts',Fs',h1,h2,h3,h4,h5⟩:=qq rv (by simpa using hl) q
  by_cases hk:k=kk
  ·have e:eqT (aH k) (aH kk)=true:=(iG kk k).mpr hk
   refine ⟨xv :: vs',t :: ts',[] :: Fs',?_,by simp [h2],?_,.cons rv h4,?_⟩
   ·rw [List.zip_cons_cons,List.map_cons,h1,List.zip_cons_cons];simp [hk]
   ·rw [List.map_cons,List.zip_cons_cons,List.map_cons,h3,List.zip_cons_cons];simp [e]
   ·rw [Ze,Ze]
    exact h5.trans (List.sublist_append_right _ _)
  ·have e:¬ eqT (aH k) (aH kk)=true:=fun z=>hk ((iG kk k).mp z)
   refine ⟨v :: vs',t0 :: ts',F :: Fs',?_,by simp [h2],?_,.cons r h4,?_⟩
   ·rw [List.zip_cons_cons,List.map_cons,h1,List.zip_cons_cons];simp [hk]
   ·rw [List.map_cons,List.zip_cons_cons,List.map_cons,h3,List.zip_cons_cons];simp [e]
   ·rw [Ze,Ze]
    exact List.Sublist.append (List.Sublist.refl _) h5
theorem ny {kk:Key}:∀ {ks:List Key} {vs:List V} {ts:List T},ks.length=vs.length->ks.length=ts.length->((ks.zip vs).any fun kv=>decide (kv.1=kk))=(((ks.map aH).zip ts).any fun p=>eqT p.1 (aH kk))
 | [],_,_,_,_=>by simp
 | k :: ks,v :: vs,t :: ts,h1,h2=>by
  rw [List.map_cons,List.zip_cons_cons,List.zip_cons_cons,List.any_cons,List.any_cons,ny (by simpa using h1) (by simpa using h2)]
  have:decide (k=kk)=eqT (aH k) (aH kk):=by rw [Bool.eq_iff_iff,decide_eq_true_eq];exact (iG kk k).symm
  rw [this]
 | _ :: _,[],_,h,_=>by simp at h
 | _ :: _,_ :: _,[],_,h=>by simp at h
theorem mG {H:Hp} {kk:Key} {xv:V} {t:T} (rv:Rp G H xv t []) {ks:List Key} {vs:List V} {ts:List T} {Fs:List (List Addr)} (hl:ks.length=vs.length) (ra:RpL G H vs ts Fs) :
  ∃ (ks':List Key) (vs':List V) (ts':List T) (Fs':List (List Addr)),putK (ks.zip vs) kk xv=ks'.zip vs'/\ks'.length=vs'.length/\dput ((ks.map aH).zip ts) (aH kk) t=(ks'.map aH).zip ts'/\RpL G H vs' ts' Fs'/\Fs'.flatten.Sublist Fs.flatten:=by
 have an:=ny (kk:=kk) hl (hl.trans ra.len.1)
 unfold putK dput
 rw [an]
 by_cases h:(((ks.map aH).zip ts).any fun p=>eqT p.1 (aH kk))=true
 ·rw [if_pos h,if_pos h]
  obtain ⟨vs',ts',Fs',h1,h2,h3,h4,h5⟩:=qq (kk:=kk) rv hl ra
  exact ⟨ks,vs',ts',Fs',h1,h2,h3,h4,h5⟩
 ·rw [if_neg h,if_neg h]
  refine ⟨ks++[kk],vs++[xv],ts++[t],Fs++[[]],?_,by simp [hl],?_,ra.append (.cons rv .nil),by simp⟩
  ·rw [List.zip_append hl];rfl
  ·rw [List.map_append,List.zip_append (by rw [Zk];exact hl.trans ra.len.1)];rfl
noncomputable def C2:xK:=fun o i v H Q=>zR o i v H Q\/∃ a H4,o=.ref a/\wG H a i v H4/\Q H4
theorem B4 (hu:X.A.units+1 < cLine):AI X C2:=by
 intro pins s σ H o i v ov iv u Q I ro ri rv h
 rcases h with h | ⟨a,H4,rfl,g,q⟩
 ·exact set_list pins s σ H o i v ov iv u Q I ro ri rv h
 ·cases ro
  exact tN hu I g ri rv fun s4 I4=>⟨H4,I4,q⟩
end
theorem Bi {K:PySem.W.Frag} {H:Hp} {a:Addr} {ns:List Int} (hO:ve H) (hS:SqL K H a (ns.map V.int)):ja K H a ns:=by
 rcases hS with h | h
 ·rcases h with h | h
  ·rcases hO a with z | ⟨o,xs,z⟩
   ·rw [z] at h;cases h
   ·rw [z] at h;cases h
  ·exact .inl h
 ·exact .inr h
theorem Ac {G:Gx} {g:Fn} {H:Hp} {a:Addr} {ns:List Int} {E:XK} (hg:g [.scr ns]=some (.fr,.bl true)) (hO:ve H) (hS:SqL G.K H a (ns.map V.int)):spF G g [.ref a] H (fun v _=>v=.bl true) E :=
 ⟨[.scr ns],[[]],.fr,.bl true,.cons (.scr (Bi hO hS)) .nil,hg,fun v H' F _ r _=>r.bl_inv⟩
noncomputable def gx0 (K:PySem.W.Frag):Gx:=⟨K,fun _=>(0,fun k=>⟨#[k]⟩)⟩
theorem yp {l:PySem.W.OpenLaw} {q:Program} {loose:List Str} {XP:(Str->Option Value)->Heap->Prop} {YP:World->Heap->Prop} {d:DefRec} {K:Params->PySem.W.Frag} {g:Fn} {x:Str} {k:Nat} (hn:l.most=some 63) (hdf:d.params.defaults=[]) (hr:Room k callerA)
  (hY:∀ (w:World) (h:Heap),YP w h->(K w.params).In h) (hg:∀ ns:List Int,g [.scr ns]=some (.fr,.bl true))
  (F:∀ (w:World) (mg:Str->Option Value) (fa:Addr) (h:Heap),(K w.params).In h->h.Ns mainGlobals mg->mg d.name=some (.ref fa) →
   ∃ fd:FuncData,(∀ (s:Shared) (u:Value),BindsTo s fd ⟨[u],[]⟩ [(x,u)])/\∀ base:Heap,(K w.params).In base->base.Ns mainGlobals mg->FnOk l.prog w (K w.params) mg base CX0 k fa fd [x] (spF (gx0 (K w.params)) g)) :
  PySem.W.WalkO q loose XP YP l.row.toRowW d [] (fun f vs=>PySem.call f vs) :=
 L2.g0 (n:=63) (k:=k) (x:=x) (CX:=fun _=>CX0) (sp:=fun w=>spF (gx0 (K w.params)) g) hn (by decide) hdf hr hY F (fun w H a ns _ hO hS=>Ac (G:=gx0 (K w.params)) (hg ns) hO hS) fun _ _ _ _ _ z=>z
end VS
end
section
namespace L2
open PySem PySem.Spec PyProof.Rows
section
variable {X:Cx}
theorem pB (hc:X.calm=true):dq X (.type "list") (fun xs H Q=>∃ x:Str,xs=[.str x]/\x.cps.size<=sizeLine/\∀ l,H l=none->Q (.ref l) (upd H l (.lst (x.cps.toList.map fun c=>V.str ⟨#[c]⟩)))):=by
 intro pins s σ H xs us Q I rx h
 obtain ⟨x,rfl,hz,q⟩:=h
 obtain ⟨u,rfl,t,rfl⟩:=vals1 rx
 refine call_list_str (I.ok.hd hc) x t (fun h' tk acc c kp g ha=>?_) hz
 have hv:aK (x.cps.toList.map fun c=>V.str ⟨#[c]⟩) acc.toList:=by
  have key:∀ (cs:List Nat) (vs:List Value),cs.length=vs.length->(∀ (i:Nat) (v:Value),vs[i]?=some v->∃ c u,cs[i]?=some c/\v=.str ⟨#[c]⟩ u)->aK (cs.map fun c=>V.str ⟨#[c]⟩) vs:=by
   intro cs
   induction cs with
   | nil =>
    intro vs hl _
    cases vs with
    | nil=>exact .nil
    | cons v vs=>simp at hl
   | cons c cs ih =>
    intro vs hl hg
    cases vs with
    | nil=>simp at hl
    | cons v vs =>
     obtain ⟨d,u,e1,e2⟩:=hg 0 v rfl
     cases e1
     exact .cons ⟨u,e2⟩ (ih vs (by simpa using hl) fun i w hw=>by simpa using hg (i+1) w (by simpa using hw))
  refine key _ _ (by rw [Array.length_toList,Array.length_toList,ha.1]) fun i v hi=>?_
  rw [Array.getElem?_toList] at hi
  obtain ⟨d,u,e1,e2⟩:=ha.2 i v hi
  exact ⟨d,u,by rw [Array.getElem?_toList];exact e1,e2⟩
 refine ⟨.ref s.heap.objs.size,_,I.laid kp (Zt _) (show aS X.prog X.w _ h' _ (.lst (x.cps.toList.map fun c=>V.str ⟨#[c]⟩)) from ⟨by rw [Zk,Array.length_toList];exact hz,acc.toList,c,hv,g⟩),rfl,q _ (I.hok.fresh (Zt _))⟩
end
end L2
namespace VS
open PySem PySem.Spec PyProof.Rows L2
section
variable {G:Gx} {X:Cx} {a b c e tg:Expr} {es:List Expr} {ca cb cc ce ck:Ex} {cs:Exs} {pos p p1 p2 apos cpos pos':Pos} {k k' kr:Nat}
@[simp] noncomputable def i6:List Val->Option Val
 | [(m,.lst l)]=>mkL m l
 | [(m,.tup l)]=>mkL m l
 | [(_,.str s)]=>mkL .fr (s.map fun c=>.str [c])
 | _=>none
theorem u7:fA G (fun xs H Q=>zQ G.K xs H Q\/∃ x:Str,xs=[.str x]/\x.cps.size<=sizeLine/\∀ l,H l=none->Q (.ref l) (upd H l (.lst (x.cps.toList.map fun c=>V.str ⟨#[c]⟩)))) i6:=by
 intro Φ η H0 H l vs Fs m t Q A e k
 unfold i6 at e
 split at e
 ·exact .inl (qK Φ η H0 H _ vs Fs m t Q A e k)
 ·exact .inl (qK Φ η H0 H _ vs Fs m t Q A e k)
 ·rename_i mx x
  obtain ⟨v,F,rfl,rfl,rx⟩:=(show RpL G H vs [.str x] Fs from A.rp).one
  have ts:=rx.str_inv.2
  refine .inr ⟨sx x,by rw [rx.str_inv.1],?_,fun q hq=>?_⟩
  ·have:=ts.1
   simp only [sx,List.size_toArray]
   exact this
  ·have ec:(sx x).cps.toList.map (fun c=>V.str ⟨#[c]⟩)=(x.map fun c=>[c]).map fun s=>V.str (sx s):=by
    simp [sx]
   have et:(x.map fun c=>T.str [c])=(x.map fun c=>[c]).map T.str:=by simp
   rw [ec]
   rw [et] at e
   have r0:=jE (G:=G) (H:=H) (ss:=x.map fun c=>[c]) fun s hs=>by
    obtain ⟨c,hc,rfl⟩:=List.mem_map.mp hs
    exact ⟨by show 1<=eW;decide,fun y hy=>by rw [Zi.mp hy];exact ts.2 c hc⟩
   refine fR A.same e r0 ?_ k q hq
   rw [iD]
   exact Fp.nil
 ·cases e
theorem ym (hm:X.mg "list" = none) (ha:PVs G X [e] cs) (hg:Gl X "list" := by rfl) (hK:X.K=G.K:=by rfl) (hc:X.calm=true:=by rfl) (he:starEach [e] X.env=(false,eval e X.env) :: starEach [] X.env:=by rfl):PV G X (.Call (.Name "list" p) [e] [] pos) (eN i6 cs) :=
 g7 (mY.or (pB hc)) (hK ▸ u7) hg hm qB ha (he:=he) (hpl:=rfl)
theorem xk (K:PySem.W.Frag):AL (gx0 K):=fun c k k' h=>by
 have:(#[k]:Array Nat)=#[k']:=congrArg Str.cps h
 simpa using this
end
end VS
end
section
open PySem PyProof.Rows
namespace TS
noncomputable abbrev Ky:=Sum Int Str
noncomputable def ltK:Ky->Ky->Bool
 | .inl i,.inl j=>decide (i < j)
 | .inr x,.inr y=>decide (x.cps.toList < y.cps.toList)
 | _,_=>false
noncomputable def dW:List Ky->List Ky->Bool
 | [],[]=>false
 | [],_ :: _=>true
 | _ :: _,[]=>false
 | a :: as,b :: bs=>if a=b then dW as bs else ltK a b
noncomputable def kind (k:Ky):Bool:=k.isLeft
theorem zd {x y:Str} (h:x.cps.toList=y.cps.toList):x=y:=by
 cases x;cases y
 simp only [Str.mk.injEq]
 exact Array.toList_inj.mp h
theorem wX (a:Ky):ltK a a=false:=by
 cases a with
 | inl i=>simp [ltK]
 | inr x=>simp [ltK,List.lt_irrefl]
theorem nM {a b:Ky} (h:ltK a b=true):ltK b a=false:=by
 cases a <;> cases b <;> simp only [ltK,decide_eq_true_eq,decide_eq_false_iff_not,Bool.false_eq_true] at h ⊢
 ·lia
 ·exact fun q=>List.lt_irrefl _ (List.lt_trans h q)
theorem sE {a b c:Ky} (h:ltK a b=true) (h':ltK b c=true):ltK a c=true:=by
 cases a <;> cases b <;> cases c <;> simp only [ltK,decide_eq_true_eq,Bool.false_eq_true] at h h' ⊢
 ·lia
 ·exact List.lt_trans h h'
theorem qk {a b:Ky} (k:kind a=kind b) (h:ltK a b=false) (h':ltK b a=false):a=b:=by
 cases a <;> cases b <;> simp only [ltK,decide_eq_false_iff_not,kind,Sum.isLeft,Bool.true_eq_false,Bool.false_eq_true] at h h' k ⊢
 ·congr 1;lia
 ·congr 1
  exact zd (List.le_antisymm (List.not_lt.mp h') (List.not_lt.mp h))
theorem lH:∀ {l m:List Ky},dW l m=true->dW m l=false
 | [],[],h=>by simp [dW] at h
 | [],_ :: _,_=>rfl
 | _ :: _,[],h=>by simp [dW] at h
 | a :: l,b :: m,h=>by
  unfold dW at h ⊢
  by_cases e:a=b
  ·rw [if_pos e] at h
   rw [if_pos e.symm]
   exact lH h
  ·rw [if_neg e] at h
   rw [if_neg (Ne.symm e)]
   exact nM h
theorem qJ:∀ {l m n:List Ky},l.map kind=m.map kind->m.map kind=n.map kind->dW m l=false->dW n m=false->dW n l=false
 | [],[],[],_,_,_,_=>rfl
 | [],[],_ :: _,_,h,_,_=>by simp at h
 | [],_ :: _,_,h,_,_,_=>by simp at h
 | _ :: _,[],_,h,_,_,_=>by simp at h
 | _ :: _,_ :: _,[],_,h,_,_=>by simp at h
 | a :: l,b :: m,c :: n,h1,h2,h3,h4=>by
  simp only [List.map_cons,List.cons.injEq] at h1 h2
  unfold dW at h3 h4 ⊢
  by_cases e1:b=a
  ·subst e1
   rw [if_pos rfl] at h3
   by_cases e2:c=b
   ·rw [if_pos e2] at h4 ⊢
    exact qJ h1.2 h2.2 h3 h4
   ·rw [if_neg e2] at h4 ⊢
    exact h4
  ·rw [if_neg e1] at h3
   have hab:ltK a b=true:=by
    cases q:ltK a b with
    | true=>rfl
    | false=>exact absurd (qk h1.1 q h3).symm e1
   by_cases e2:c=b
   ·subst e2
    rw [if_neg e1]
    exact h3
   ·rw [if_neg e2] at h4
    have hbc:ltK b c=true:=by
     cases q:ltK b c with
     | true=>rfl
     | false=>exact absurd (qk h2.1 q h4).symm e2
    have hac:=sE hab hbc
    have hne:c ≠ a:=fun e=>by rw [e,wX] at hac;cases hac
    rw [if_neg hne]
    exact nM hac
variable {prog:Program} {w:World} {A:Around} {E:Value->Shared->Prop} {s:Shared}
noncomputable def KyV:Ky->Value->Prop
 | .inl i,v=>∃ t,v=.int i t
 | .inr x,v=>∃ t,v=.str x t
inductive KysV:List Ky->List Value->Prop where
 | nil:KysV [] []
 | cons {k:Ky} {v:Value} {ks:List Ky} {vs:List Value}:KyV k v->KysV ks vs->KysV (k :: ks) (v :: vs)
theorem KyV.fn {k k':Ky} {v:Value} (h:KyV k v) (h':KyV k' v):k=k':=by
 cases k <;> cases k' <;> obtain ⟨t,rfl⟩:=h <;> obtain ⟨t',e⟩:=h' <;> cases e <;> rfl
theorem KysV.fn:∀ {ks ls:List Ky} {vs:List Value},KysV ks vs->KysV ls vs->ks=ls
 | _,_,_,.nil,.nil=>rfl
 | _,_,_,.cons h q,.cons h' q'=>by rw [h.fn h',q.fn q']
noncomputable def ic (h:Heap) (v:Value) (ks:List Ky):Prop:=∃ b o items n,v=.ref b/\h.get? b=some o/\o.cls=.type "tuple" ∧ o.data=.seq items n/\KysV ks items.toList
theorem ic.fn {h:Heap} {v:Value} {ks ls:List Ky} (x:ic h v ks) (y:ic h v ls):ks=ls:=by
 obtain ⟨b,o,items,n,rfl,g,_,d,k⟩:=x
 obtain ⟨b',o',items',n',e,g',_,d',k'⟩:=y
 cases e
 rw [g] at g'
 cases g'
 rw [d] at d'
 cases d'
 exact k.fn k'
theorem Ci {k k':Ky} {v v':Value} {Q:Bool->Shared->Prop} (hk:kind k=kind k') (h:KyV k v) (h':KyV k' v') (q:Q (decide (k=k')) s):wpAny (model prog w) A (eqBool v v') Q E s:=by
 cases k <;> cases k' <;> simp only [kind,Sum.isLeft,Bool.true_eq_false,Bool.false_eq_true] at hk <;> obtain ⟨t,rfl⟩:=h <;> obtain ⟨t',rfl⟩:=h'
 ·exact wpAny_eqBool_int (by have e:∀ i j:Int,(i == j)=decide (Sum.inl (β:=Str) i=.inl j):=fun i j=>by by_cases z:i=j <;> simp [z]
                             rw [e];exact q)
 ·exact wpAny_eqBool_str (by simpa using q)
theorem Cq {k k':Ky} {v v':Value} {b:Bool} {Q:Bool->Shared->Prop} (hk:kind k=kind k') (h:KyV k v) (h':KyV k' v') (q:Q (ltK k k') s):wpAny (model prog w) A (oneLt' b v v') Q E s:=by
 cases k <;> cases k' <;> simp only [kind,Sum.isLeft,Bool.true_eq_false,Bool.false_eq_true] at hk <;> obtain ⟨t,rfl⟩:=h <;> obtain ⟨t',rfl⟩:=h'
 ·cases b with
  | true=>exact oneLt_int q
  | false =>
   rw [oneLt'_eq,if_neg Zp]
   exact Zz (PyProof.Rows.lt_int (wpAny_truthy_bool q):wpAny (model prog w) A (compareOp .Lt (.int _ t) (.int _ t')) _ E s)
 ·cases b with
  | true=>exact oneLt_str q
  | false =>
   rw [oneLt'_eq,if_neg Zp]
   exact Zz (PySem.P.lt_str (wpAny_truthy_bool q):wpAny (model prog w) A (compareOp .Lt (.str _ t) (.str _ t')) _ E s)
theorem tQ (a b:Ky) (l m:List Ky):dW (a :: l) (b :: m)=if a=b then dW l m else ltK a b:=rfl
theorem BB {f:Bool} {x y:Value} {ks ls:List Ky} {Q:Bool->Shared->Prop} (hx:ic s.heap x ks) (hy:ic s.heap y ls) (hs:ks.map kind=ls.map kind) (q:Q (dW ks ls) s):wpAny (model prog w) A (keyLt' (tuples' f) x y) Q E s:=by
 obtain ⟨b,o,items,n,rfl,g,_,d,k⟩:=hx
 obtain ⟨b',o',items',n',rfl,g',_,d',k'⟩:=hy
 refine (show wpAny (model prog w) A (Builtin.List.listItems (.ref b) >>= _) Q E s from ?_)
 refine Zz (listItems_at g d (Zz (listItems_at g' d' ?_)))
 have hsz:items.size=items'.size:=by
  have e1:∀ {ks:List Ky} {vs:List Value},KysV ks vs->ks.length=vs.length:=fun h=>by induction h with | nil=>rfl | cons _ _ ih=>simp [ih]
  have h1:=e1 k
  have h2:=e1 k'
  have h3:=congrArg List.length hs
  simp at h1 h2 h3
  lia
 refine Zz (wpAny_forIn_list _ (fun rest b s'=>b=(none,())/\s'=s/\∃ (ks' ls':List Ky) (vs us:List Value) (i:Nat),rest=(vs.zip us).zipIdx i/\KysV ks' vs/\KysV ls' us/\ks'.map kind=ls'.map kind/\dW ks ls=dW ks' ls') _ ?turn ?fin _ _ ⟨rfl,rfl,ks,ls,_,_,0,rfl,k,k',hs,rfl⟩)
 case turn =>
  rintro x rest b s' ⟨rfl,rfl,ks',ls',vs,us,i,e,k1,k2,hs',hl⟩
  cases k1 with
  | nil=>simp at e
  | @cons a v ks1 vs1 ha k1 =>
   cases k2 with
   | nil=>simp at e
   | @cons b u ls1 us1 hb k2 =>
    simp only [List.zip_cons_cons,List.zipIdx_cons,List.cons.injEq] at e
    obtain ⟨rfl,rfl⟩:=e
    simp only [List.map_cons,List.cons.injEq] at hs'
    refine Zz (Ci hs'.1 ha hb ?_)
    rw [tQ] at hl
    by_cases hab:a=b
    ·rw [if_pos hab] at hl
     rw [decide_eq_true hab,if_neg (by simp)]
     exact Zy ⟨rfl,rfl,ks1,ls1,vs1,us1,i+1,rfl,k1,k2,hs'.2,hl⟩
    ·rw [if_neg hab] at hl
     rw [decide_eq_false hab,if_pos (by simp)]
     refine Zz (m:=oneLt' _ v u) (Cq hs'.1 ha hb (Zy (Zy ?_)))
     rw [← hl]
     exact q
 case fin =>
  rintro b s' ⟨rfl,rfl,ks',ls',vs,us,i,e,k1,k2,hs',hl⟩
  have:dW ks ls=decide (items.size < items'.size):=by
   rw [hl,hsz]
   cases k1 with
   | nil =>
    cases k2 with
    | nil=>simp [dW]
    | cons _ _=>simp at hs'
   | cons _ _ =>
    cases k2 with
    | nil=>simp at hs'
    | cons _ _=>simp at e
  refine Zy ?_
  rw [← this]
  exact q
theorem mV {α β:Type} {f:α->Sem β} {P:β->Prop}:∀ {vs:List α} {Q:List β->Shared->Prop},(∀ v∈vs,∃ x,P x/\∀ (Q:β->Shared->Prop),Q x s->wpAny (model prog w) A (f v) Q E s)->(∀ xs:List β,xs.length=vs.length->(∀ x∈xs,P x)->Q xs s)->wpAny (model prog w) A (vs.mapM f) Q E s
 | [],Q,_,q=>by
  rw [List.mapM_nil]
  exact Zy (q [] rfl (by simp))
 | v :: vs,Q,h,q=>by
  rw [List.mapM_cons]
  obtain ⟨x,px,hx⟩:=h v Zv
  refine Zz (hx _ (Zz (mV (fun u hu=>h u (Zw _ hu)) fun xs hl hp=>Zy (q _ (by simp [hl]) fun y hy=>?_))))
  rcases Zg.mp hy with e | e
  ·rw [e];exact px
  ·exact hp y e
theorem wc {vs:List Value} {k0:Bool} {sh:List Bool} {Q:SortKind->Shared->Prop} (h2:0 < vs.length) (hv:∀ v∈vs,∃ ks,ic s.heap v ks/\ks.map kind=k0 :: sh) (q:Q (tuples' true) s):wpAny (model prog w) A (keyKind' vs.toArray) Q E s:=by
 have fst:∀ v∈vs,∃ x,(∀ (Q:Option Value->Shared->Prop),Q (some x) s->wpAny (model prog w) A (firstOfTuple' v) Q E s)/\(∀ (Q:Value->Shared->Prop),Q (.type (if k0 then "int" else "str")) s->wpAny (model prog w) A (typeOf x) Q E s):=fun v hm=>by
  obtain ⟨ks,⟨b,o,items,n,rfl,g,c,d,k⟩,hk⟩:=hv v hm
  cases k':items.toList with
  | nil =>
   rw [k'] at k
   cases k
   simp at hk
  | cons x xs =>
   rw [k'] at k
   cases k with
   | @cons a _ ks1 _ ha k1 =>
    simp only [List.map_cons,List.cons.injEq] at hk
    have hx:items[0]?=some x:=by rw [← Array.getElem?_toList,k'];rfl
    refine ⟨x,fun Q q=>?_,fun Q q=>?_⟩
    ·refine (show wpAny _ _ (typeOf (.ref b) >>= _) _ _ _ from Zz (wpAny_typeOf (T := "tuple") ⟨o,g,c⟩ ?_))
     rw [if_neg (by decide)]
     refine Zz (listItems_at g d (Zy ?_))
     rw [hx]
     exact q
    ·cases a with
     | inl i =>
      obtain ⟨t,rfl⟩:=ha
      have:k0=true:=hk.1.symm
      subst this
      exact wpAny_typeOf (T := "int") rfl q
     | inr y =>
      obtain ⟨t,rfl⟩:=ha
      have:k0=false:=hk.1.symm
      subst this
      exact wpAny_typeOf (T := "str") rfl q
 obtain ⟨tn,htn⟩:∃ tn:String,tn=(if k0 then "int" else "str"):=⟨_,rfl⟩
 have hne:(Value.type tn != Value.type "tuple")=true:=by subst htn;cases k0 <;> decide
 rw [← htn] at fst
 have mp:∀ {α β:Type} (f:α->Sem β) (l:List α) (Q:Array β->Shared->Prop),wpAny (model prog w) A (l.mapM f) (fun xs s'=>Q xs.toArray s') E s->wpAny (model prog w) A (l.toArray.mapM f) Q E s:=fun f l Q hm=>by
  rw [List.mapM_toArray]
  exact Zz (wpAny_mono hm (fun _ _ z=>Zy z) fun _ _ e=>e)
 rw [keyKind'_eq]
 refine Zz (mp _ _ _ (mV (P:=fun o=>∃ x,o=some x/\∀ (Q:Value->Shared->Prop),Q (.type tn) s->wpAny (model prog w) A (typeOf x) Q E s) (fun v hm=>by
  obtain ⟨x,h1,h3⟩:=fst v hm
  exact ⟨some x,⟨x,rfl,h3⟩,h1⟩) fun xs hl hp=>?_))
 rw [if_pos (by
  rw [List.all_toArray,List.all_eq_true]
  intro o ho
  obtain ⟨x,rfl,_⟩:=hp o ho
  rfl)]
 refine Zz (wpAny_rule (Zz ?_))
 rw [oneTypeOnly'_eq]
 have hf:(xs.toArray.filterMap id)=(xs.filterMap id).toArray:=by simp
 rw [hf]
 refine Zz (mp _ _ _ (mV (P:=fun ty=>ty=Value.type tn) (fun v hm=>by
  obtain ⟨o,ho,e⟩:=List.mem_filterMap.mp hm
  obtain ⟨x,rfl,h3⟩:=hp o ho
  cases e
  exact ⟨_,rfl,h3⟩) fun ts hl2 ht=>?_))
 have hfl:(xs.filterMap id).length=xs.length:=by
  have:∀ l:List (Option Value),(∀ o∈l,∃ x,o=some x)->(l.filterMap id).length=l.length:=fun l=>by
   induction l with
   | nil=>intro _;rfl
   | cons o l ih =>
    intro h
    obtain ⟨x,rfl⟩:=h o Zv
    simp [ih fun o ho=>h o (Zw _ ho)]
  exact this xs fun o ho=>let ⟨x,e,_⟩:=hp o ho;⟨x,e⟩
 cases ts with
 | nil=>simp at hl2;lia
 | cons t0 ts =>
  have e0:=ht t0 Zv
  subst e0
  have e1:(Value.type tn :: ts).toArray[0]?=some (Value.type tn):=rfl
  rw [e1]
  dsimp only
  rw [if_pos (by
   rw [List.all_toArray,List.all_eq_true]
   intro y hy
   rw [ht y hy]
   simp)]
  refine Zy (Zy ?_)
  simp only [Option.any_some,hne]
  exact q
noncomputable def GT (h:Heap) (sh:List Bool) (x:Keyed):Prop:=∃ ks,ic h x.1 ks/\ks.map kind=sh
open Classical in
noncomputable def rT (h:Heap) (x y:Keyed):Bool:=decide (∃ ks ls,ic h x.1 ks/\ic h y.1 ls/\dW ks ls=true)
open Classical in
theorem kl {h:Heap} {x y:Keyed} {ks ls:List Ky} (hx:ic h x.1 ks) (hy:ic h y.1 ls):rT h x y=dW ks ls:=by
 unfold rT
 cases e:dW ks ls with
 | true=>exact decide_eq_true ⟨ks,ls,hx,hy,e⟩
 | false =>
  refine decide_eq_false fun ⟨ks',ls',hx',hy',e'⟩=>?_
  rw [hx'.fn hx,hy'.fn hy,e] at e'
  cases e'
theorem yR {sh:List Bool} {f:Bool} {h:Heap} (hk:∀ v ks,ic h v ks->ic s.heap v ks):Cmp prog w A E s (tuples' f) (GT h sh) (rT h):=by
 refine ⟨?_,?_,?_⟩
 ·rintro st x y Q hkd ⟨ks,hx,ex⟩ ⟨ls,hy,ey⟩ q
  rw [lt'_eq]
  refine Zr (wpS_get ?_)
  rw [hkd]
  rw [kl hx hy] at q
  exact Zr (wpS_lift (wpAny_attempt (BB (hk _ _ hx) (hk _ _ hy) (ex.trans ey.symm) ⟨rfl,Zs q⟩)))
 ·rintro x y ⟨ks,hx,_⟩ ⟨ls,hy,_⟩ q
  rw [kl hx hy] at q
  rw [kl hy hx]
  exact lH q
 ·rintro x y z ⟨ks,hx,ex⟩ ⟨ls,hy,ey⟩ ⟨ms,hz,ez⟩ q1 q2
  rw [kl hy hx] at q1
  rw [kl hz hy] at q2
  rw [kl hz hx]
  exact qJ (ex.trans ey.symm) (ey.trans ez.symm) q1 q2
end TS
end
section
namespace ST
open PySem PySem.Spec PyProof.Rows
variable {prog:Program} {w:World} {A:Around} {E:Value->Shared->Prop} {s:Shared}
noncomputable abbrev dO (es:Array DictEntry) (ep:Nat):Obj:={ cls:=.type "dict",data:=.dict es ep }
noncomputable abbrev kO (d:Addr) (i n ep:Nat):Obj:={ cls:=.type "dict_keyiterator",data:=.fields #[.ref d,.int i 0,.int n 0,.int ep 0] }
theorem nO {d:Addr} {es:Array DictEntry} {ep:Nat} {Q:Value->Shared->Prop} (hd:(d == sysModules)=false) (hm:s.heap.get? d=some (dO es ep)) (q:Q (.ref s.heap.objs.size) { s with heap:=s.heap.push (kO d 0 es.size ep) }) :
  wpAny (model prog w) A (pyIter (.ref d)) Q E s:=by
 have ty:s.TypeIs (.ref d) "dict" := ⟨_,hm,rfl⟩
 refine wpAny_pyIter_slot ty F.slot_dict_iter (wpAny_call_entry F.slot_dict_iter ty F.entry_dict_iter (show wpAny _ _ (Builtin.«dict.__iter__» _) _ _ _ from ?_) (F.args_dict_iter_1 _))
 unfold Builtin.«dict.__iter__» Builtin.Dict.dictSlotNone Builtin.Dict.showsAll
 refine Zz (Zz (wpAny_notOrdered_dict ty (show wpAny _ _ (pure (Value.ref d)) _ _ s from Zy (Zz (m:=Builtin.Dict.addrOf (.ref d)) (Zy ?_)))))
 rw [if_neg (by rw [hd];exact Zp)]
 exact Zz (Zy (Zz (wpAny_dictEntries hm rfl (Zz (wpAny_dictEpoch hm rfl (Zz (wpAny_newObj_type (Zy ⟨_,rfl, "dict_keyiterator",_,⟨_,Zo _ rfl,rfl⟩,F.slot_dict_keyiterator_next.lookup,q⟩))))))))
theorem iy {I d:Addr} {i ep:Nat} {es:Array DictEntry} {Q:Option Value->Shared->Prop} (hh:A.handled=none) (hI:s.heap.get? I=some (kO d i es.size ep)) (hm:s.heap.get? d=some (dO es ep))
  (h1:∀ e,es[i]?=some e->∀ h',Heap.SameBut I s.heap h'->h'.get? I=some (kO d (i+1) es.size ep)->Q (some e.key) { s with heap:=h' })
  (h2:es[i]?=none->∀ h',(∀ b o,b ≠ I->s.heap.get? b=some o->h'.get? b=some o)->Q none { s with heap:=h' }):wpAny (model prog w) A (pyNext (.ref I)) Q E s:=by
 have ty:s.TypeIs (.ref I) "dict_keyiterator" := ⟨_,hI,rfl⟩
 unfold pyNext
 refine Zz (wpAny_attempt (wpAny_callSpecial?_slot (name:=Str.ofString "__next__") ty F.slot_dict_keyiterator_next (wpAny_call_entry F.slot_dict_keyiterator_next ty F.entry_dict_keyiterator_next (wpAny_mono
  (Q:=fun f s'=>∃ v,f=.done (.ret v)/\Q (some v) s') (E:=fun e s'=>∃ x,e=.ref x/\(∃ o,s'.heap.get? x=some o/\o.cls=.type "StopIteration")/\Q none s') ?_ (fun f s' ⟨v,e,q⟩=>⟨v,e,Zy q⟩) fun e s' ⟨x,e1,⟨o,g,c⟩,q⟩=>?_) (F.args_dict_keyiterator_next_1 _))))
 ·refine Zz (Zy (Zz (Zz (Zz (wpAny_typeNameOfWhole_keyiter ty (Zy (Zz (wpAny_fieldsOf hI rfl ?_))))))))
  have own:Builtin.Dict_items.ownsTuple "dict_keyiterator" = false:=rfl
  simp only [own,Bool.false_eq_true,↓reduceIte]
  refine (show wpAny _ _ (if (Value.ref d == Value.none)=true then _ else _) _ _ s from ?_)
  rw [if_neg (fun e:(Value.ref d == Value.none)=true=>Zp e)]
  refine Zz (Zy (Zz (wpAny_dictEntries hm rfl ?_)))
  rw [if_neg (by simp)]
  refine Zz (Zy (Zz (wpAny_dictEpoch hm rfl ?_)))
  rw [if_neg (by simp)]
  refine Zy ?_
  simp only [show ¬ ((i:Int) < 0) from by lia,↓reduceIte,Int.toNat_natCast]
  cases he:es[i]? with
  | some e =>
   dsimp only
   have g1:(s.heap.update I (Obj.mapFields (·.setIfInBounds 1 (rawInt ((i:Int)+1))))).get? I=some (kO d (i+1) es.size ep):=Heap.get?_update_self _ hI rfl
   refine Zz (Zz (wpAny_typeNameOfWhole_keyiter ty (Zy (Zz (wpAny_isOneOf_keyiter ty ?_)))))
   refine (show wpAny _ _ (setField (.ref I) 1 (rawInt ((i:Int)+1)) >>= _) _ _ s from Zz (wpAny_setField hI rfl (by show 1 < 4;decide) (Zz (wpAny_holding ?_))))
   refine Zz (wpAny_isOneOf_keyiter (s:={ s with heap:=s.heap.update I (Obj.mapFields (·.setIfInBounds 1 (rawInt ((i:Int)+1)))) }) ⟨_,g1,rfl⟩ ?_)
   refine (show wpAny _ _ (pure e.key) _ _ _ from Zy (Zy ⟨_,rfl,h1 e he _ (Heap.SameBut.update ..) g1⟩))
  | none =>
   dsimp only
   refine Zz (Zz (wpAny_typeNameOfWhole_keyiter ty (Zy ?_)))
   refine (show wpAny _ _ (setField (.ref I) 0 .none >>= _) _ _ s from Zz (wpAny_setField hI rfl (by show 0 < 4;decide) (wH hh fun h' x kp hx=>⟨x,rfl,hx,h2 he h' fun b o hb e=>kp b o ?_⟩)))
   rw [Heap.get?_update_other _ _ (Ne.symm hb)]
   exact e
 ·subst e1
  exact Zz (wpAny_isInstance (T := "StopIteration") (b:=true) ⟨o,g,c⟩ isSubtype_stop (Zy q))
theorem Walks.raw {I d:Addr} {es:Array DictEntry} {ep:Nat} (hh:A.handled=none) (hne:d ≠ I) :
  Walks prog w A I [I,d] [I] es.size (fun i v=>(es[i]?).map (·.key)=some v) (fun i h=>h.get? I=some (kO d i es.size ep)/\h.get? d=some (dO es ep)) where
 sub:=fun b hb=>by rw [Zi.mp hb];exact Zv
 frame:=fun _ _ _ st k=>⟨k I (by simp) _ st.1,k d (by simp) _ st.2⟩
 item:=fun i s Q E hi st hQ=>iy hh st.1 st.2 (fun e he h' sb g=>hQ e.key h' s.toks (by rw [he];rfl) ⟨g,(sb.2 d hne).trans st.2⟩ (fun b o hb q=>(sb.2 b fun z=>hb (by rw [z];exact Zi.mpr rfl)).trans q)) fun e=>by
  rw [Array.getElem?_eq_getElem hi] at e
  cases e
 done:=fun s Q E st hQ=>iy hh st.1 st.2 (fun e he=>by rw [Array.getElem?_eq_none (Zt _)] at he;cases he) fun _ h' kp=>hQ h' s.toks (fun b o hb q=>kp b o (fun z=>hb (by rw [z];exact Zi.mpr rfl)) q)
 self:=fun _ _ _ _ st hQ=>wpAny_pyIter_slot ⟨_,st.1,rfl⟩ F.slot_dict_keyiterator_iter (wpAny_call_entry F.slot_dict_keyiterator_iter ⟨_,st.1,rfl⟩ F.entry_dict_keyiterator_iter (show wpAny _ _ (ret (.ref I)) _ _ _ from Zy ⟨_,rfl, "dict_keyiterator",_,⟨_,st.1,rfl⟩,F.slot_dict_keyiterator_next.lookup,hQ⟩) (F.args_dict_keyiterator_iter_1 _))
theorem zo {d:Addr} {es:Array DictEntry} {ep:Nat} (lo:(d == sysModules)=false):PySem.W.KdlSrc prog w "dict" d d es.size (fun i v=>(es[i]?).map (·.key)=some v) (fun h=>h.get? d=some (dO es ep)) where
 type:=fun _ hm=>⟨_,hm,rfl⟩
 there:=fun _ hm=>⟨Zm hm,Zm hm⟩
 keep:=fun _ _ hm k=>k d (.inl rfl) _ hm
 notList:=rfl
 notTuple:=rfl
 hint:=fun _ _ _ _ hm q=>PySem.W.kdl_hint_dict ⟨_,hm,rfl⟩ q
 iter:=fun A s hh hm=>⟨_,_,fun _ _ q=>nO lo hm q,Walks.raw hh (Zn (Zm hm)),⟨Zo _ rfl,Zu _ hm⟩⟩
end ST
end
section
namespace L2
open PySem PySem.Spec PyProof.Rows TS
section
variable {X:Cx}
theorem uY:∀ {ks:List Key} {vs:List Value},aK (ks.map kV) vs->KysV ks vs
 | [],[],_=>.nil
 | k :: ks,v :: vs,h=>by
  cases h with
  | cons r q =>
   refine .cons ?_ (uY q)
   cases k with
   | inl i=>exact r
   | inr x=>exact r
theorem yZ {P:Program} {w:World} {H:Hp} {h:Heap} {a:Addr} {ks:List Key} (ok:HOk P w H h) (e:H a=some (.tup (ks.map kV))):ic h (.ref a) ks:=by
 obtain ⟨_,its,r,_,o,h1,h2,n,h3⟩:=(show aS P w H h a (.tup (ks.map kV)) from ok a _ e)
 exact ⟨a,o,its.toArray,n,rfl,h1,h2,h3,uY r⟩
end
section
variable {X:Cx}
end
end L2
end
section
namespace VS
open PySem PySem.Spec PyProof.Rows L2 TS
section
variable {G:Gx} {X:Cx} {a b c e tg:Expr} {es:List Expr} {ca cb cc ce ck:Ex} {cs:Exs} {pos p p1 p2 apos cpos pos':Pos} {k k' kr:Nat}
noncomputable def AS:T->Bool
 | .tup l=>l.all eO
 | _=>false
@[simp] noncomputable def DV (x y:Val):Option Val:=match y.2 with
 | .dct 1 l=>if AS x.2 then some (.fr,.bl (bT l x.2).isSome) else none
 | .lst l=>if AS x.2 && l.all AS then some (.fr,.bl (l.any fun z=>eqT z x.2)) else none
 | _=>none
@[simp] noncomputable def DM (x y:Val):Option Val:=match DV x y with
 | some (_,.bl b)=>some (.fr,.bl (!b))
 | _=>none
end
section
variable {G:Gx} {X:Cx} {a b c e o tg:Expr} {es:List Expr} {ca cb cc ce ck:Ex} {cs:Exs} {pos p p1 p2 apos cpos pos':Pos} {k k' kr i:Nat}
end
end VS
namespace VS
open PySem PySem.Spec PyProof.Rows L2
theorem Ct {G:Gx} {X:Cx} {i:Int} {j:Nat} {pos p:Pos}:PV G X (.UnaryOp .USub (.Constant (.int i) j p) pos) (eC (.int (-i))) :=
 PE.weak (Du Av wK) fun σ H Q ⟨Φ,η,m,t,s,e,k⟩=>by
  cases (show some (Md.fr,T.int (-i))=some (m,t) from e)
  exact ⟨i,rfl,k _ H [] (aL.refl _) (.int _) Fp.nil⟩
end VS
end
section
namespace L2
open PySem PySem.Spec PyProof.Rows
section
variable {X:Cx}
noncomputable def wY:V->List V->Hp->VK->Prop:=fun x vs H Q=>∃ (a:Addr) (kvs:List (Key×V)) (k:Key) (y:V),x=.ref a/\vs=[kV k,y]/\H a=some (.dK kvs)/\kvs.length < sizeLine ∧
 (∀ v,cf kvs k=some v->Q v H)/\(cf kvs k=none->Q y (upd H a (.dK (putK kvs k y))))
theorem rS:MtR X "dict.setdefault" wY:=by
 intro pins s σ H x vs v us Q I rx rv h
 obtain ⟨a,kvs,k,y,rfl,rfl,e,hl,q1,q2⟩:=h
 cases rx
 obtain ⟨u,u2,rfl,ru,ru2⟩:=rv.two
 obtain ⟨z,hd,ws,rel,dd⟩:=oF I.hok e
 have hz:ws.length<=sizeLine:=by rw [← rel.length];exact z
 have hval:=rel.val k
 refine call_meetsIn PySem.F.slot_dict_setdefault dd.typeIs PySem.F.entry_dict_setdefault (PySem.F.args_dict_setdefault_3 _ _ _) (kt_meets_setdefault (aN X.prog X.w) a (jb ru) hd u2) ⟨ws,dd,hz,fun v hv=>?_,fun hn h' dd' hs=>?_⟩
 ·rw [hv] at hval
  cases hx:cf kvs k with
  | none=>rw [hx] at hval;cases hval
  | some w =>
   rw [hx] at hval
   exact ⟨w,H,I.tok _,hval,q1 w hx⟩
 ·rw [hn] at hval
  have hx:cf kvs k=none:=by
   cases hx:cf kvs k with
   | none=>rfl
   | some w=>rw [hx] at hval;cases hval
  have hl2:(putK kvs k y).length<=sizeLine:=by have:=dZ kvs k y;lia
  have he:∃ q,h'.get? a=some q:=let ⟨q,_,_,hq,_⟩:=dd';⟨q,hq⟩
  exact ⟨y,_,g8 I (by rw [e];exact True.intro) hs he (mZ hl2 hd (rel.put k ru2) dd'),ru2,q2 hx⟩
end
end L2
namespace VS
open PySem PySem.Spec PyProof.Rows L2
section
variable {G:Gx} {X:Cx} {a b c e o tg:Expr} {es:List Expr} {ca cb cc ce ck cv:Ex} {cs:Exs} {pos p p1 p2 apos cpos pos' ap1 cp1 lp:Pos} {k k' kr i:Nat}
noncomputable def cy (l:List (T×T)) (k:T):List (T×T):=if (bT l k).isSome then l else l++[(k,.lst [])]
noncomputable def gW (i:Nat) (k:Ex) (v:Exs) (η:VS.Env):Option Out:=match η[i]? with
 | some (some (.ow (.dct 0 l)))=>(k η).bind fun kv=>if eO kv.2/\l.length < eW then
   (v (η.set i (some (.ow (.dct 0 (cy l kv.2)))))).bind fun vv=>(pm (fun x=>aW x vv) [.at kv.2] (.dct 0 (cy l kv.2))).map fun z=>.nx (η.set i (some (.ow z.1))) else none
 | _=>none
theorem Chg.none {H H':Hp} {v:V} {F:List Addr} {t:T} (sm:aL H H') (r:Rp G H v t F) (nd:F.Nodup):Chg G H v F t H' F :=
 ⟨Kept.of sm,fun b o _ h=>sm b o h,fun b h z=>h (sm.free z),r.same sm,nd,fun a ha=>.inl ha⟩
theorem Ap {H:Hp} {f:T->Option (T×Val)} {kk:Key} {a:Addr} {L:List (T×T)} {t':T} {F:List Addr} {y:Val} {kvs:List (Key×V)} {w:V} (r:Rp G H (.ref a) (.dct 0 L) F) (nd:F.Nodup) (e:pm f [.at (aH kk)] (.dct 0 L)=some (t',y)) (h3:H a=some (.dK kvs)) (hw:cf kvs kk=some w) :
  ∃ x F1 x',Rp G H w x F1/\F1.Nodup/\f x=some (x',y)/\∀ H2 F1',Chg G H w F1 x' H2 F1'->∃ F',Chg G H (.ref a) F t' H2 F':=by
 have e:((L.findIdx? fun p=>eqT p.1 (aH kk)).bind fun i=>(L[i]?).bind fun p=>(pm f [] p.2).map fun z=>(T.dct 0 (L.set i (p.1,z.1)),z.2))=some (t',y):=by
  cases kk <;> exact e
 obtain ⟨i,h1,e⟩:=Zx.mp e
 obtain ⟨p,h2,e⟩:=Zx.mp e
 obtain ⟨⟨z,y'⟩,e1,e2⟩:=Zq.mp e
 cases e2
 obtain ⟨a',ns,vs,ts,Fs,ea,rfl,ha,hl,rfl,ra⟩:=fU r
 cases ea
 rw [h3] at ha
 cases ha
 have lts:(ns.map aH).length=ts.length:=by rw [Zk];exact hl.trans ra.len.1
 obtain ⟨k0,x0,g1,g2,g3,g4⟩:=pq (fun n=>eqT n (aH kk)) lts h1
 have ep:p=(k0,x0):=by
  have:((ns.map aH).zip ts)[i]?=some (k0,x0):=by rw [List.getElem?_zip_eq_some];exact ⟨g1,g2⟩
  rw [this] at h2;exact (Option.some.inj h2).symm
 subst ep
 obtain ⟨u,Fi,u1,u2,u3⟩:=ra.get i g2
 have ew:cf (ns.zip vs) kk=some u:=qL (by simpa using lts) hl h1 u1
 rw [hw] at ew
 cases ew
 refine ⟨x0,Fi,z,u3,((List.nodup_cons.mp nd).2).sublist (fP u2),e1,fun H2 F1' g=>?_⟩
 obtain ⟨s1,s2,s3,s4,s5⟩:=qN h3 ra nd u1 u2 g
 refine ⟨_,g.kept,s5,g.dom,?_,s3,s4⟩
 rw [lZ (ns.map aH) ts i k0 z g1]
 exact .dct s1 hl s2
theorem vi (J:AL G) (i:Nat) {x:Str} (hk:PV G X b ck) (hv:PVs G X [e] cs) (hK:X.K=G.K) (hN:X.N[i]?=some x) (hvis:Vis X.env.scope x) (hd:(x == ("__debug__" : Str))=false) (hcd:(x == ("__classdict__" : Str))=false)
  (hb1:attributeBase (.Name x p1) "setdefault" X.env (eval (.Name x p1) X.env)=eval (.Name x p1) X.env)
  (hf1:((backTo cp1 (starEach [b,.List [] lp] X.env)).all (fun x=>!x.1) && (backToKw cp1 (keywordEach [] X.env)).all (fun x=>x.1.isSome)
   && decide ([b,Expr.List [] lp].length+([]:List Keyword).length+(if ([]:List Keyword).isEmpty then 0 else 1) < 30))=true)
  (hl1:(ap1.endLine == cp1.line)=true) (hs1:starEach [b,.List [] lp] X.env=(false,eval b X.env) :: starEach [.List [] lp] X.env) (hs1':starEach [.List [] lp] X.env=(false,eval (.List [] lp) X.env) :: starEach [] X.env) (hp1:(backTo cp1 (starEach [.List [] lp] X.env)).any (·.1)=false)
  (hb2:attributeBase (.Call (.Attribute (.Name x p1) "setdefault" ap1) [b,.List [] lp] [] cp1) "append" X.env (eval (.Call (.Attribute (.Name x p1) "setdefault" ap1) [b,.List [] lp] [] cp1) X.env)=eval (.Call (.Attribute (.Name x p1) "setdefault" ap1) [b,.List [] lp] [] cp1) X.env)
  (hf2:((backTo cpos (starEach [e] X.env)).all (fun x=>!x.1) && (backToKw cpos (keywordEach [] X.env)).all (fun x=>x.1.isSome)
   && decide ([e].length+([]:List Keyword).length+(if ([]:List Keyword).isEmpty then 0 else 1) < 30))=true)
  (hl2:(apos.endLine == cpos.line)=true) (hs2:starEach [e] X.env=(false,eval e X.env) :: starEach [] X.env) (hp2:(backTo cpos (starEach [] X.env)).any (·.1)=false)
  (hsw:swapsWith (.Call (.Attribute (.Call (.Attribute (.Name x p1) "setdefault" ap1) [b,.List [] lp] [] cp1) "append" apos) [e] [] cpos) none pos.line X.env=pure false) :
  PSV G X (.Expr (.Call (.Attribute (.Call (.Attribute (.Name x p1) "setdefault" ap1) [b,.List [] lp] [] cp1) "append" apos) [e] [] cpos) pos) (gW i ck cs) :=
 PS.weak (mW (oi PySem.F.plainAttrs_list PySem.F.slot_list_append PySem.F.type_list_append gZ
  (oi PySem.F.plainAttrs_dict PySem.F.slot_dict_setdefault PySem.F.type_dict_setdefault rS (fu hN hvis hd hcd) (dU hk (dU (mB fB) fB hs1') hs1) hb1 hf1 hl1 hs1 hp1) hv hb2 hf2 hl2 hs2 hp2) hsw) fun D σ H ⟨Φ,η,out,s,e,k⟩=>by
  refine L2.fM fun P_ k_=>?_
  unfold gW at e
  split at e
  ·rename_i l hl
   obtain ⟨⟨mk,tk⟩,ekk,e⟩:=Zx.mp e
   split at e
   ·rename_i hc
    obtain ⟨c1,c2⟩:=hc
    obtain ⟨lv,ev,e⟩:=Zx.mp e
    obtain ⟨⟨t',y'⟩,e5,e6⟩:=Zq.mp e
    cases e6
    obtain ⟨v,g1,g2⟩:=s.rp _ _ hl
    have nd0:=s.nd i _ hl
    obtain ⟨a,ns,vs,ts,Fs,rfl,eΦ,ha,hln,el,ra⟩:=fU g2
    subst el
    rw [eΦ] at nd0
    refine k_ ?_
    refine ⟨.ref a,g1,by rw [hK];exact .inr (.inr (.inl ⟨rfl,.inl ⟨_,ha⟩⟩)),?_⟩
    refine ⟨Φ,η,mk,tk,s,ekk,fun kv H1 Fk sm1 rk fk=>⟨Nat.zero_le _,fun q hq=>?_⟩⟩
    refine L2.fM fun P_ k_=>?_
    obtain ⟨kk,rfl,etk⟩:=eI rk c1
    dsimp only at etk ekk e5 ev c1
    subst etk
    refine k_ ?_
    have fin:∀ (H3:Hp) (F3:List Addr) (kvs3:List (Key×V)) (w:V),Chg G H (.ref a) (Φ i) (.dct 0 (cy ((ns.map aH).zip ts) (aH kk))) H3 F3->H3 a=some (.dK kvs3)->cf kvs3 kk=some w →
      tyV X.K "list" w H3/\tEs G cs σ H3 (fun vs2 H4=>jA w vs2 H4 (fun _ H5=>D.nx σ H5)):=fun H3 F3 kvs3 w g h3 hw=>by
     refine L2.fM fun P_ k_=>?_
     obtain ⟨z1,z2⟩:=s.mut hl g1 g
     have hset:(η.set i (some (.ow (.dct 0 (cy ((ns.map aH).zip ts) (aH kk))))))[i]?=some (some (.ow (.dct 0 (cy ((ns.map aH).zip ts) (aH kk))))):=by
      have hi:i < η.length:=(List.getElem?_eq_some_iff.mp hl).1
      rw [List.getElem?_set_self hi]
     obtain ⟨x',F1,x3,w2,w3,w4,w5⟩:=Ap g.rp g.nd e5 h3 hw
     refine k_ ?_
     refine ⟨by rw [hK];exact gE w2 w4,hJ Φ i F3,_,lv,z1,ev,fun vs2 H4 Fs2 q1 q2 q3=>?_⟩
     refine i4 (hJ Φ i F3) _ H3 H4 w x' x3 F1 lv vs2 Fs2 y' _ w2 w3 ⟨q1,q2,q3⟩ w4 fun u H5 F' g5=>?_
     obtain ⟨F2,g6⟩:=w5 H5 F' g5
     have g6':Chg G H3 (.ref a) (hJ Φ i F3 i) t' H5 F2:=by rw [eX];exact g6
     obtain ⟨y1,y2⟩:=z1.mut hset g1 g6'
     rw [List.set_set] at y1 y2
     exact k _ σ H5 y1 (z2.trans y2)
    have sm2:aL H1 (upd H1 q (.lst [])):=bH hq
    have sm:aL H (upd H1 q (.lst [])):=sm1.trans sm2
    have ha2:upd H1 q (.lst []) a=some (.dK (ns.zip vs)):=sm a _ ha
    have ln:(ns.zip vs).length < sizeLine:=by
     have:((ns.map aH).zip ts).length < 16777216:=c2
     rw [List.length_zip,Zk] at this
     rw [List.length_zip]
     have:=ra.len.1
     have:(sizeLine:Nat)=16777216:=rfl
     lia
    have dg:=jt (G:=G) (k:=kk) hln ra
    refine ⟨a,ns.zip vs,kk,.ref q,rfl,rfl,ha2,ln,fun w hw=>?_,fun hn=>?_⟩
    ·refine fin _ (a :: Fs.flatten) (ns.zip vs) w ?_ ha2 hw
     have es:cy ((ns.map aH).zip ts) (aH kk)=(ns.map aH).zip ts:=by
      unfold cy
      rcases dg with ⟨h1,h2⟩ | ⟨_,_,t2,_,h1,_⟩
      ·rw [h2] at hw;cases hw
      ·rw [h1];rfl
     rw [es,eΦ]
     exact Chg.none sm (by rw [eΦ] at g2;exact g2) nd0
    ·have es:cy ((ns.map aH).zip ts) (aH kk)=((ns++[kk]).map aH).zip (ts++[.lst []]):=by
      unfold cy
      rcases dg with ⟨h1,h2⟩ | ⟨_,_,t2,_,h1,h2,_⟩
      ·rw [h1,if_neg (by simp),List.map_append,List.zip_append (by rw [Zk];exact hln.trans ra.len.1)]
       rfl
      ·rw [h2] at hn;cases hn
     have ep:putK (ns.zip vs) kk (.ref q)=(ns++[kk]).zip (vs++[.ref q]):=by
      unfold putK
      rw [gC,hn,if_neg (by simp),List.zip_append hln]
      rfl
     have qa:q ≠ a:=fun z=>by
      have:H1 a=some (.dK (ns.zip vs)):=sm1 a _ ha
      rw [← z,hq] at this
      cases this
     have qH:H q=none:=sm1.free hq
     have m2:Mut (upd H1 q (.lst []) a):=by rw [ha2];exact True.intro
     have nd:=List.nodup_cons.mp nd0
     have qF:q ∉ Fs.flatten:=fun z=>Mut.ne_none (ra.dom q z) qH
     have h3q:upd (upd H1 q (.lst [])) a (.dK (putK (ns.zip vs) kk (.ref q))) q=some (.lst []):=by rw [aw qa,aF]
     have rq:Rp G (upd (upd H1 q (.lst [])) a (.dK (putK (ns.zip vs) kk (.ref q)))) (.ref q) (.lst []) (q :: ([]:List (List Addr)).flatten):=.lst h3q .nil
     refine fin _ (a :: (Fs++[[q]]).flatten) (putK (ns.zip vs) kk (.ref q)) (.ref q) ?_ aF (by rw [vd,if_pos rfl])
     rw [es,eΦ]
     refine Chg.upd sm Zv m2 (.dct (by rw [aF,ep]) (by simp [hln]) (((ra.same sm).off m2 nd.1).append (.cons rq .nil))) ?_ ?_
     ·rw [List.flatten_append]
      refine List.nodup_cons.mpr ⟨fun z=>?_,List.nodup_append.mpr ⟨nd.2,by simp,fun x hx y hy z=>?_⟩⟩
      ·rcases Zh.mp z with z | z
       ·exact nd.1 z
       ·have h:a=q:=by simpa using z
        exact qa h.symm
      ·subst z
       exact qF (by simpa [show x=q by simpa using hy] using hx)
     ·intro y hy
      rcases Zg.mp hy with rfl | hy
      ·exact .inl Zv
      ·rw [List.flatten_append] at hy
       rcases Zh.mp hy with hy | hy
       ·exact .inl (Zw _ hy)
       ·rw [show y=q by simpa using hy]
        exact .inr qH
   ·cases e
  ·cases e
end
end VS
end
section
namespace L2
open PySem PySem.Spec PyProof.Rows
theorem Dw {X:Cx} {pins:List (Addr×Obj)} {σ:St} {H:Hp} {s:Shared} {p:Addr} {kvs:List (aX×Addr×V)} (I:Inv X pins σ H s) (e:H p=some (DN p kvs)):s.TypeIs (.ref p) "dict" ∧ ∀ a,Value.ref p=.ref a->∃ ob,s.heap.get? a=some ob/\ob.dict=none:=by
 obtain ⟨⟨_,_,_,_,o,_,_,g,ex,_⟩,_⟩:=(show aS X.prog X.w H s.heap p (DN p kvs) from I.hok p _ e)
 refine ⟨⟨o,g,ex.1⟩,fun a e2=>?_⟩
 cases e2
 exact ⟨o,g,ex.2.1⟩
noncomputable def tyN (x:V) (H:Hp):Prop:=∃ p kvs,x=.ref p/\H p=some (DN p kvs)
noncomputable def D4 (r:V->List V->Hp->VK->Prop) (to:TE) (t:TA):TE:=fun σ H Q=>to σ H fun x H1=>tyN x H1/\t σ H1 fun xs H2=>r x xs H2 Q
section
variable {X:Cx} {o e:Expr} {es:List Expr} {to:TE} {t:TA} {name:Str} {apos cpos:Pos} {id:String} {r:V->List V->Hp->VK->Prop}
theorem Be (slot:Slot "dict" name id) (hty:typeOf (.builtin id)=pure (.type "method_descriptor")) (hm:MtR X id r) (ho:PE X o to) (ha:PA X (e :: es) t)
  (hbase:attributeBase o name X.env (eval o X.env)=eval o X.env)
  (hfew:((backTo cpos (starEach (e :: es) X.env)).all (fun x=>!x.1) && (backToKw cpos (keywordEach [] X.env)).all (fun x=>x.1.isSome)
   && decide ((e :: es).length+([]:List Keyword).length+(if ([]:List Keyword).isEmpty then 0 else 1) < 30))=true)
  (hline:(apos.endLine == cpos.line)=true) (hs:starEach (e :: es) X.env=(false,eval e X.env) :: starEach es X.env) (hplain:(backTo cpos (starEach es X.env)).any (·.1)=false) :
  PE X (.Call (.Attribute o name apos) (e :: es) [] cpos) (D4 r to t):=by
 intro pins s σ H Q I h
 refine wpAny_Call_method_late hbase hfew hline rfl (thn (ho pins s σ H _ I h) fun v s1 ⟨x,H1,I1,r1,⟨p,kvs,ex,hp⟩,q1⟩=>?_)
 subst ex
 obtain rfl:=(show v=Value.ref p from r1)
 obtain ⟨h1,h2⟩:=Dw I1 hp
 have hA:=ha cpos pins s1 σ H1 _ I1 q1
 refine ⟨"dict",id,PySem.F.plainAttrs_dict,slot,hty,h1,h2,?_⟩
 rw [hs] at hA ⊢
 exact Calls.callWith_builtin (by show (false || (backTo cpos (starEach es X.env)).any (·.1))=false;rw [hplain];rfl) (Calls.evalArgs_plain (thn hA fun us s2 ⟨vs,H2,I2,r2,q2⟩=>hm pins s2 σ H2 (.ref p) vs _ us Q I2 rfl r2 q2))
end
end L2
namespace VS
open PySem PySem.Spec PyProof.Rows L2
noncomputable def nkI:T->Option Int
 | .int i=>some i
 | _=>none
noncomputable def nk1:T->Option (List Int)
 | .tup l=>l.mapM nkI
 | _=>none
noncomputable def xY:T->Option aX
 | .tup l=>l.mapM nk1
 | _=>none
theorem yx {t:T} {i:Int} (h:nkI t=some i):t=.int i:=by cases t <;> simp [nkI] at h;subst h;rfl
theorem kc {α β:Type} {f:α->Option β} {g:β->α} (h:∀ a b,f a=some b->a=g b):∀ {l:List α} {m:List β},l.mapM f=some m->l=m.map g
 | [],m,e=>by simp at e;subst e;rfl
 | a :: l,m,e=>by
  simp only [List.mapM_cons,Option.pure_def,Option.bind_eq_bind] at e
  obtain ⟨b,hb,e⟩:=Zx.mp e
  obtain ⟨bs,hbs,e⟩:=Zx.mp e
  cases e
  rw [List.map_cons,← h a b hb,← kc h hbs]
theorem yr {t:T} {k:List Int} (h:nk1 t=some k):t=.tup (k.map T.int):=by
 cases t with
 | tup l=>exact congrArg T.tup (kc (fun a b=>yx) h)
 | _=>simp [nk1] at h
theorem vt {t:T} {k:aX} (h:xY t=some k):t=nkT k:=by
 cases t with
 | tup l=>exact congrArg T.tup (kc (fun a b=>yr) h)
 | _=>simp [xY] at h
section
variable {G:Gx} {X:Cx} {a b c e o tg:Expr} {es:List Expr} {ca cb cc ce ck cv:Ex} {cs:Exs} {pos p p1 p2 apos cpos pos' ap1 cp1 lp:Pos} {k k' kr i:Nat}
theorem RpL.ints {H:Hp}:∀ {k:List Int} {vs:List V} {Fs:List (List Addr)},RpL G H vs (k.map T.int) Fs->vs=k.map V.int
 | [],_,_,r=>by rw [List.map_nil] at r;cases r;rfl
 | i :: k,_,_,r=>by
  rw [List.map_cons] at r
  cases r with
  | cons h t=>rw [List.map_cons,← RpL.ints t,h.int_inv]
theorem Rp.tup_inv' {H:Hp} {v:V} {ts:List T} {F:List Addr} (r:Rp G H v (.tup ts) F):∃ b vs Fs,v=.ref b/\H b=some (.tup vs)/\RpL G H vs ts Fs:=by
 cases r with
 | tup h q=>exact ⟨_,_,_,rfl,h,q⟩
theorem Ad {H:Hp} {v:V} {k:aX} {F:List Addr} (r:Rp G H v (nkT k) F):∃ b,v=.ref b/\NAt H k b:=by
 obtain ⟨b,vs,Fs,rfl,h,q⟩:=Rp.tup_inv' r
 have all:∀ {k:aX} {vs:List V} {Fs:List (List Addr)},RpL G H vs (k.map fun x=>T.tup (x.map T.int)) Fs->∃ cs:List Addr,vs=cs.map V.ref/\Paired (fun (x:List Int) (c:Addr)=>H c=some (.tup (x.map V.int))) k cs:=by
  intro k
  induction k with
  | nil=>intro vs Fs q;rw [List.map_nil] at q;cases q;exact ⟨[],rfl,.nil⟩
  | cons x k ih =>
   intro vs Fs q
   rw [List.map_cons] at q
   cases q with
   | cons h t =>
    obtain ⟨c,us,Gs,rfl,hc,qc⟩:=Rp.tup_inv' h
    obtain ⟨cs,e,pr⟩:=ih t
    rw [RpL.ints qc] at hc
    exact ⟨c :: cs,by rw [e];rfl,.cons hc pr⟩
 obtain ⟨cs,e,pr⟩:=all q
 exact ⟨b,rfl,cs,by rw [h,e],pr⟩
theorem lS:∀ (x y:List Int),kS (x.map T.int) (y.map T.int)=decide (x=y)
 | [],[]=>rfl
 | [],_ :: _=>rfl
 | _ :: _,[]=>rfl
 | i :: x,j :: y=>by
  rw [List.map_cons,List.map_cons,kS,lS x y]
  simp only [eqT,List.cons.injEq,Bool.decide_and]
  rfl
theorem kj:∀ (x y:aX),eqT (nkT x) (nkT y)=decide (x=y):=by
 intro x y
 unfold nkT
 rw [eqT]
 induction x generalizing y with
 | nil=>cases y <;> simp
 | cons i x ih =>
  cases y with
  | nil=>simp
  | cons j y =>
   rw [List.map_cons,List.map_cons,kS,ih y,eqT,lS]
   simp only [List.cons.injEq,Bool.decide_and]
noncomputable abbrev kvN (ks:List (aX×Addr)) (vs:List V):List (aX×Addr×V):=(ks.zip vs).map fun p=>(p.1.1,p.1.2,p.2)
theorem jQ {H:Hp} {k:aX}:∀ {ks:List (aX×Addr)} {vs:List V} {ts:List T} {Fs:List (List Addr)},ks.length=vs.length->RpL G H vs ts Fs →
  (((ks.map fun p=>nkT p.1).zip ts).findIdx? (fun q=>eqT q.1 (nkT k))=none/\atN (kvN ks vs) k=none) ∨
  ∃ (j:Nat) (v:V) (t:T) (F:List Addr),((ks.map fun p=>nkT p.1).zip ts).findIdx? (fun q=>eqT q.1 (nkT k))=some j/\(ks.map fun p=>nkT p.1)[j]?=some (nkT k)/\ts[j]?=some t/\atN (kvN ks vs) k=some v/\vs[j]?=some v/\Fs[j]?=some F/\Rp G H v t F
 | [],[],_,_,_,.nil=>.inl ⟨rfl,rfl⟩
 | k' :: ks,v :: vs,_,_,hl,.cons (t:=t) (F:=F) (ts:=ts) (Fs:=Fs) r q=>by
  by_cases hk:k'.1=k
  ·refine .inr ⟨0,v,t,F,?_,by simp [hk],rfl,by simp [atN,kvN,hk],rfl,rfl,r⟩
   rw [List.map_cons,List.zip_cons_cons,List.findIdx?_cons,if_pos (by rw [kj];exact decide_eq_true hk)]
  ·have e1:((((k' :: ks).map fun p=>nkT p.1).zip (t :: ts)).findIdx? fun q=>eqT q.1 (nkT k))=((((ks.map fun p=>nkT p.1).zip ts)).findIdx? fun q=>eqT q.1 (nkT k)).map (·+1):=by
    rw [List.map_cons,List.zip_cons_cons,List.findIdx?_cons,if_neg (by rw [kj];simp [hk])]
   have e2:atN (kvN (k' :: ks) (v :: vs)) k=atN (kvN ks vs) k:=by simp [atN,kvN,hk]
   rcases jQ (k:=k) (by simpa using hl) q with ⟨h1,h2⟩ | ⟨j,v',t',F',h1,h2,h3,h4,h5,h6,h7⟩
   ·exact .inl ⟨by rw [e1,h1];rfl,by rw [e2];exact h2⟩
   ·exact .inr ⟨j+1,v',t',F',by rw [e1,h1];rfl,by simpa using h2,by simpa using h3,by rw [e2];exact h4,by simpa using h5,by simpa using h6,h7⟩
theorem m8 {H:Hp} {v:V} {l:List (T×T)} {F:List Addr} (r:Rp G H v (.dct 2 l) F):∃ (a:Addr) (ks:List (aX×Addr)) (vs:List V) (ts:List T) (Fs:List (List Addr)),v=.ref a/\F=a :: Fs.flatten/\H a=some (DN a (kvN ks vs))/\ks.length=vs.length/\(∀ p∈ks,NAt H p.1 p.2)/\l=(ks.map fun p=>nkT p.1).zip ts/\RpL G H vs ts Fs:=by
 cases r with
 | dctN h hl n q=>exact ⟨_,_,_,_,_,rfl,rfl,h,hl,n,rfl,q⟩
theorem kg {H:Hp} {ks:List (aX×Addr)} {vs:List V} (h:∀ p∈ks,NAt H p.1 p.2):∀ p∈kvN ks vs,NAt H p.1 p.2.1:=fun p hp=>by
 obtain ⟨q,hq,rfl⟩:=List.mem_map.mp hp
 exact h q.1 (List.of_mem_zip (a:=q.1) (b:=q.2) hq).1
noncomputable def bD (l:List (T×T)) (k:T):List (T×T):=if (l.findIdx? fun p=>eqT p.1 k).isSome then l else l++[(k,.lst [])]
noncomputable def oz (f:T->Option (T×Val)) (l:List (T×T)) (k:T):Option (List (T×T)):=(l.findIdx? fun p=>eqT p.1 k).bind fun j=>(l[j]?).bind fun p=>(f p.2).map fun z=>l.set j (p.1,z.1)
noncomputable def fE (i:Nat) (k:Ex) (v:Exs) (η:VS.Env):Option Out:=match η[i]? with
 | some (some (.ow (.dct 2 l)))=>(k η).bind fun kv=>if (xY kv.2).isSome/\l.length < eW then
   (v (η.set i (some (.ow (.dct 2 (bD l kv.2)))))).bind fun vv=>(oz (fun x=>aW x vv) (bD l kv.2) kv.2).map fun z=>.nx (η.set i (some (.ow (.dct 2 z)))) else none
 | _=>none
theorem sZ (i:Nat) {x:Str} (hr:Room kr X.A) (hk:PV G X b ck) (hv:PVs G X [e] cs) (hK:X.K=G.K) (hN:X.N[i]?=some x) (hvis:Vis X.env.scope x) (hd:(x == ("__debug__" : Str))=false) (hcd:(x == ("__classdict__" : Str))=false)
  (hb1:attributeBase (.Name x p1) "setdefault" X.env (eval (.Name x p1) X.env)=eval (.Name x p1) X.env)
  (hf1:((backTo cp1 (starEach [b,.List [] lp] X.env)).all (fun x=>!x.1) && (backToKw cp1 (keywordEach [] X.env)).all (fun x=>x.1.isSome)
   && decide ([b,Expr.List [] lp].length+([]:List Keyword).length+(if ([]:List Keyword).isEmpty then 0 else 1) < 30))=true)
  (hl1:(ap1.endLine == cp1.line)=true) (hs1:starEach [b,.List [] lp] X.env=(false,eval b X.env) :: starEach [.List [] lp] X.env) (hs1':starEach [.List [] lp] X.env=(false,eval (.List [] lp) X.env) :: starEach [] X.env) (hp1:(backTo cp1 (starEach [.List [] lp] X.env)).any (·.1)=false)
  (hb2:attributeBase (.Call (.Attribute (.Name x p1) "setdefault" ap1) [b,.List [] lp] [] cp1) "append" X.env (eval (.Call (.Attribute (.Name x p1) "setdefault" ap1) [b,.List [] lp] [] cp1) X.env)=eval (.Call (.Attribute (.Name x p1) "setdefault" ap1) [b,.List [] lp] [] cp1) X.env)
  (hf2:((backTo cpos (starEach [e] X.env)).all (fun x=>!x.1) && (backToKw cpos (keywordEach [] X.env)).all (fun x=>x.1.isSome)
   && decide ([e].length+([]:List Keyword).length+(if ([]:List Keyword).isEmpty then 0 else 1) < 30))=true)
  (hl2:(apos.endLine == cpos.line)=true) (hs2:starEach [e] X.env=(false,eval e X.env) :: starEach [] X.env) (hp2:(backTo cpos (starEach [] X.env)).any (·.1)=false)
  (hsw:swapsWith (.Call (.Attribute (.Call (.Attribute (.Name x p1) "setdefault" ap1) [b,.List [] lp] [] cp1) "append" apos) [e] [] cpos) none pos.line X.env=pure false) :
  PSV G X (.Expr (.Call (.Attribute (.Call (.Attribute (.Name x p1) "setdefault" ap1) [b,.List [] lp] [] cp1) "append" apos) [e] [] cpos) pos) (fE i ck cs) :=
 PS.weak (mW (oi PySem.F.plainAttrs_list PySem.F.slot_list_append PySem.F.type_list_append gZ
  (Be PySem.F.slot_dict_setdefault PySem.F.type_dict_setdefault (pE (by have:=hr.un;lia)) (fu hN hvis hd hcd) (dU hk (dU (mB fB) fB hs1') hs1) hb1 hf1 hl1 hs1 hp1) hv hb2 hf2 hl2 hs2 hp2) hsw) fun D σ H ⟨Φ,η,out,s,e,k⟩=>by
  refine L2.fM fun P_ k_=>?_
  unfold fE at e
  split at e
  ·rename_i l hl
   obtain ⟨⟨mk,tk⟩,ekk,e⟩:=Zx.mp e
   split at e
   ·rename_i hc
    obtain ⟨c1,c2⟩:=hc
    obtain ⟨lv,ev,e⟩:=Zx.mp e
    obtain ⟨t',e5,e6⟩:=Zq.mp e
    cases e6
    obtain ⟨kk,ek1⟩:=Option.isSome_iff_exists.mp c1
    dsimp only at ek1
    have etk:=vt ek1
    subst etk
    obtain ⟨v,g1,g2⟩:=s.rp _ _ hl
    have nd0:=s.nd i _ hl
    obtain ⟨a,ns,vs,ts,Fs,rfl,eΦ,ha,hln,hat,el,ra⟩:=m8 g2
    subst el
    rw [eΦ] at nd0
    refine k_ ?_
    refine ⟨.ref a,g1,⟨a,_,rfl,ha⟩,?_⟩
    refine ⟨Φ,η,mk,nkT kk,s,ekk,fun kv H1 Fk sm1 rk fk=>⟨Nat.zero_le _,fun q hq=>?_⟩⟩
    obtain ⟨kb,rfl,hkb⟩:=Ad rk
    dsimp only at ekk e5 ev c1
    have fin:∀ (H3:Hp) (ns3:List (aX×Addr)) (vs3:List V) (ts3:List T) (Fs3:List (List Addr)) (w:V),bD ((ns.map fun p=>nkT p.1).zip ts) (nkT kk)=(ns3.map fun p=>nkT p.1).zip ts3->Chg G H (.ref a) (Φ i) (.dct 2 (bD ((ns.map fun p=>nkT p.1).zip ts) (nkT kk))) H3 (a :: Fs3.flatten) →
      H3 a=some (DN a (kvN ns3 vs3))->ns3.length=vs3.length->(∀ p∈ns3,NAt H3 p.1 p.2)->RpL G H3 vs3 ts3 Fs3->atN (kvN ns3 vs3) kk=some w →
      tyV X.K "list" w H3/\tEs G cs σ H3 (fun vs2 H4=>jA w vs2 H4 (fun _ H5=>D.nx σ H5)):=fun H3 ns3 vs3 ts3 Fs3 w es g h3 hl3 hn3 ra3 hw=>by
     refine L2.fM fun P_ k_=>?_
     obtain ⟨z1,z2⟩:=s.mut hl g1 g
     have hset:(η.set i (some (.ow (.dct 2 (bD ((ns.map fun p=>nkT p.1).zip ts) (nkT kk))))))[i]?=some (some (.ow (.dct 2 (bD ((ns.map fun p=>nkT p.1).zip ts) (nkT kk))))):=by
      have hi:i < η.length:=(List.getElem?_eq_some_iff.mp hl).1
      rw [List.getElem?_set_self hi]
     rcases jQ (G:=G) (k:=kk) hl3 ra3 with ⟨_,h2⟩ | ⟨j,w',x',F1,h1,h2,h4,h5,h6,h7,h8⟩
     ·rw [h2] at hw;cases hw
     rw [h5] at hw
     obtain rfl:=Option.some.inj hw
     rw [es] at e5
     unfold oz at e5
     rw [h1,Option.bind_some,show ((ns3.map fun p=>nkT p.1).zip ts3)[j]?=some (nkT kk,x') from by rw [List.getElem?_zip_eq_some];exact ⟨h2,h4⟩,Option.bind_some] at e5
     obtain ⟨⟨x3,y'⟩,w4,e7⟩:=Zq.mp e5
     have nd3:F1.Nodup:=((List.nodup_cons.mp g.nd).2).sublist (fP h7)
     refine k_ ?_
     refine ⟨by rw [hK];exact gE h8 w4,hJ Φ i (a :: Fs3.flatten),_,lv,z1,ev,fun vs2 H4 Fs2 q1 q2 q3=>?_⟩
     refine i4 (hJ Φ i (a :: Fs3.flatten)) _ H3 H4 w' x' x3 F1 lv vs2 Fs2 y' _ h8 nd3 ⟨q1,q2,q3⟩ w4 fun u H5 F' g5=>?_
     obtain ⟨s1,s2,s3,s4,s5⟩:=qN h3 ra3 g.nd h6 h7 g5
     have g6:Chg G H3 (.ref a) (hJ Φ i (a :: Fs3.flatten) i) (.dct 2 t') H5 (a :: (Fs3.set j F').flatten):=by
      rw [eX]
      refine ⟨g5.kept,s5,g5.dom,?_,s3,s4⟩
      rw [← e7,lZ _ ts3 j _ x3 h2]
      exact .dctN s1 hl3 (fun p hp=>(hn3 p hp).mono g5.kept.tup) s2
     obtain ⟨y1,y2⟩:=z1.mut hset g1 g6
     rw [List.set_set] at y1 y2
     exact k _ σ H5 y1 (z2.trans y2)
    have sm2:aL H1 (upd H1 q (.lst [])):=bH hq
    have sm:aL H (upd H1 q (.lst [])):=sm1.trans sm2
    have ha2:upd H1 q (.lst []) a=some (DN a (kvN ns vs)):=sm a _ ha
    have hat2:∀ p∈ns,NAt (upd H1 q (.lst [])) p.1 p.2:=fun p hp=>(hat p hp).mono fun b xs z=>sm b _ z
    have hkb2:NAt (upd H1 q (.lst [])) kk kb:=hkb.mono fun b xs z=>sm2 b _ z
    have ln:(kvN ns vs).length < sizeLine:=by
     have:((ns.map fun p=>nkT p.1).zip ts).length < 16777216:=c2
     rw [List.length_zip,Zk] at this
     rw [Zk,List.length_zip]
     have:=ra.len.1
     have:(sizeLine:Nat)=16777216:=rfl
     lia
    have dg:=jQ (G:=G) (k:=kk) hln ra
    refine ⟨a,kb,kvN ns vs,kk,.ref q,rfl,rfl,ha2,kg hat2,hkb2,ln,fun w hw=>?_,fun hn=>?_⟩
    ·have es:bD ((ns.map fun p=>nkT p.1).zip ts) (nkT kk)=(ns.map fun p=>nkT p.1).zip ts:=by
      unfold bD
      rcases dg with ⟨h1,h2⟩ | ⟨_,_,t2,_,h1,_⟩
      ·rw [h2] at hw;cases hw
      ·rw [h1];rfl
     refine fin _ ns vs ts Fs w es ?_ ha2 hln hat2 (ra.same sm) hw
     rw [es,eΦ]
     exact Chg.none sm (by rw [eΦ] at g2;exact g2) nd0
    ·have es:bD ((ns.map fun p=>nkT p.1).zip ts) (nkT kk)=((ns++[(kk,kb)]).map fun p=>nkT p.1).zip (ts++[.lst []]):=by
      unfold bD
      rcases dg with ⟨h1,h2⟩ | ⟨_,_,t2,_,h1,_,_,h2,_⟩
      ·rw [h1,if_neg (by simp),List.map_append,List.zip_append (by rw [Zk];exact hln.trans ra.len.1)]
       rfl
      ·rw [h2] at hn;cases hn
     have ep:kvN ns vs++[(kk,kb,.ref q)]=kvN (ns++[(kk,kb)]) (vs++[.ref q]):=by
      unfold kvN
      rw [List.zip_append hln,List.map_append]
      rfl
     have qa:q ≠ a:=fun z=>by
      have:H1 a=some (DN a (kvN ns vs)):=sm1 a _ ha
      rw [← z,hq] at this
      cases this
     have qH:H q=none:=sm1.free hq
     have m2:Mut (upd H1 q (.lst []) a):=by rw [ha2];exact True.intro
     have nd:=List.nodup_cons.mp nd0
     have qF:q ∉ Fs.flatten:=fun z=>Mut.ne_none (ra.dom q z) qH
     rw [ep]
     have h3q:upd (upd H1 q (.lst [])) a (DN a (kvN (ns++[(kk,kb)]) (vs++[.ref q]))) q=some (.lst []):=by rw [aw qa,aF]
     have rq:Rp G (upd (upd H1 q (.lst [])) a (DN a (kvN (ns++[(kk,kb)]) (vs++[.ref q])))) (.ref q) (.lst []) (q :: ([]:List (List Addr)).flatten):=.lst h3q .nil
     have kp:Kept (upd H1 q (.lst [])) (upd (upd H1 q (.lst [])) a (DN a (kvN (ns++[(kk,kb)]) (vs++[.ref q])))):=Kept.upd (.inl m2)
     have ln2:(ns++[(kk,kb)]).length=(vs++[V.ref q]).length:=by simp [hln]
     have hat3:∀ p∈ns++[(kk,kb)],NAt (upd (upd H1 q (.lst [])) a (DN a (kvN (ns++[(kk,kb)]) (vs++[.ref q])))) p.1 p.2:=fun p hp=>by
      rcases Zh.mp hp with hp | hp
      ·exact (hat2 p hp).mono kp.tup
      ·rw [Zi.mp hp];exact hkb2.mono kp.tup
     have ra3:=((ra.same sm).off (o:=DN a (kvN (ns++[(kk,kb)]) (vs++[.ref q]))) m2 nd.1).append (.cons rq .nil)
     refine fin _ (ns++[(kk,kb)]) (vs++[.ref q]) (ts++[.lst []]) (Fs++[[q]]) (.ref q) es ?_ aF ln2 hat3 ra3 ?_
     ·rw [es,eΦ]
      refine Chg.upd sm Zv m2 (.dctN aF ln2 hat3 ra3) ?_ ?_
      ·rw [List.flatten_append]
       refine List.nodup_cons.mpr ⟨fun z=>?_,List.nodup_append.mpr ⟨nd.2,by simp,fun x hx y hy z=>?_⟩⟩
       ·rcases Zh.mp z with z | z
        ·exact nd.1 z
        ·have h:a=q:=by simpa using z
         exact qa h.symm
       ·subst z
        exact qF (by simpa [show x=q by simpa using hy] using hx)
      ·intro y hy
       rcases Zg.mp hy with rfl | hy
       ·exact .inl Zv
       ·rw [List.flatten_append] at hy
        rcases Zh.mp hy with hy | hy
        ·exact .inl (Zw _ hy)
        ·rw [show y=q by simpa using hy]
         exact .inr qH
     ·rw [← ep]
      unfold atN at hn ⊢
      rw [List.find?_append,Option.map_eq_none_iff.mp hn]
      simp
   ·cases e
  ·cases e
end
end VS
end
section
namespace L2
open PySem PySem.Spec PyProof.Rows
section
variable {X:Cx} {tg:Expr} {pos:Pos}
noncomputable def A7:TE:=fun _ H Q=>∀ p,H p=none->Q (.ref p) (upd H p (DN p []))
theorem wF:PE X (.Dict [] [] pos) A7:=fun pins s σ H Q I h =>
 wpAny_Dict_empty ⟨.ref s.heap.objs.size,_,I.laid (a:=s.heap.objs.size) (o:=DN s.heap.objs.size []) (t':=s.toks) (fun _ _ q=>Zu _ q) (Zt _)
  (wy (xs:=[]) (Nat.zero_le _) (beq_eq_false_iff_ne.mpr (Ne.symm (Zn I.big))) .nil (Heap.DictOfH.new s.heap)),rfl,h _ (I.hok.fresh (Zt _))⟩
theorem mR {pins:List (Addr×Obj)} {σ:St} {H:Hp} {s:Shared} {d:Addr} {kvs:List (aX×Addr×V)} {o:Obj} (I:Inv X pins σ H s) (e:H d=some (DN d kvs)) (g:s.heap.get? d=some o):Inv X pins σ (upd H d (.frz o (DN d kvs))) s :=
 g8 (t':=s.toks) I (by rw [e];exact True.intro) ⟨rfl,fun _ _=>rfl⟩ ⟨o,g⟩ ⟨g,I.hok d _ e⟩
noncomputable def Itn (d:Addr) (o:Obj) (kvs:List (aX×Addr×V)):It :=
 ⟨fun i H=>H d=some (.frz o (DN d kvs))/\i < kvs.length,fun i H x H'=>H'=H/\∃ p,kvs[i]?=some p/\x=.ref p.2.1,fun i H=>H d=some (.frz o (DN d kvs))/\kvs.length<=i⟩
theorem KN.get {l:List (aX×Addr×V)} {m:List (aX×Addr×Value)} (r:KN l m) {i:Nat} {q:aX×Addr×Value} (h:m[i]?=some q):∃ p,l[i]?=some p/\p.1=q.1/\p.2.1=q.2.1:=by
 induction r generalizing i with
 | nil=>simp at h
 | @cons p' q' ps qs hq t ih =>
  cases i with
  | zero=>simp at h;subst h;exact ⟨p',rfl,hq.1,hq.2.1⟩
  | succ i=>simpa using ih (by simpa using h)
theorem KN.keys {l:List (aX×Addr×V)} {m:List (aX×Addr×Value)} (r:KN l m):l.map (·.1)=m.map (·.1):=by
 induction r with
 | nil=>rfl
 | cons hq _ ih=>rw [List.map_cons,List.map_cons,hq.1,ih]
theorem B0 {P:Program} {w:World} {K:PySem.W.Frag} (d it:Addr) {kvs:List (aX×Addr×V)} {es:Array DictEntry} {ep:Nat} {xs:List (aX×Addr×Value)} (rel:KN kvs xs) (he:es.toList=xs.map CL) :
  Turn P w K tg (Itn d (ST.dO es ep) kvs) [it] it (fun i h=>h.get? it=some (ST.kO d i es.size ep)) where
 mem:=by simp
 obj:=fun i h st b hb=>by
  rw [Zi.mp hb]
  exact ⟨_,st,fun v z=>by cases z⟩
 keep:=fun i h h' st k=>k it (by simp) _ st
 item:=by
  intro X hP hw hK hc i pins s σ H E I hf st hg
  subst hP hw hK
  obtain ⟨f0,f1,f2,f3,f4,f5⟩:=hf it (by simp)
  refine ST.iy (I.ok.hd hc) st (show s.heap.get? d=some (ST.dO es ep) from (I.hok d _ hg.1).1) (fun e hi h' sb g=>?_) fun hn=>?_
  ·have I1:Inv X pins σ H { s with heap:=h' }:=I.turned (t':=s.toks) (fun b o hb e=>(sb.2 b hb).trans e) f0 f1 f3 f4 f5
   rw [← Array.getElem?_toList,he,List.getElem?_map] at hi
   obtain ⟨q,hq,rfl⟩:=Zq.mp hi
   obtain ⟨p,hp,_,hb⟩:=rel.get hq
   exact ⟨_,rfl,nZ (s:={ s with heap:=h' }) g rfl rfl rfl ⟨.ref p.2.1,H,I1,by rw [hb];rfl,⟨rfl,p,hp,rfl⟩,g,fun b hb=>(hf b hb).1⟩⟩
  ·exfalso
   rw [← Array.getElem?_toList,he,List.getElem?_eq_none_iff,Zk,← rel.length] at hn
   exact absurd hg.2 (by lia)
 done:=by
  intro X hP hw hK hc i pins s σ H E I hf st hg
  subst hP hw hK
  obtain ⟨f0,f1,f2,f3,f4,f5⟩:=hf it (by simp)
  refine ST.iy (I.ok.hd hc) st (show s.heap.get? d=some (ST.dO es ep) from (I.hok d _ hg.1).1) (fun e hi h' sb g=>?_) fun hn h' kp=>⟨rfl,I.turned (t':=s.toks) (fun b o hb e=>kp b o hb e) f0 f1 f3 f4 f5⟩
  exfalso
  rw [← Array.getElem?_toList,he,List.getElem?_map] at hi
  obtain ⟨q,hq,rfl⟩:=Zq.mp hi
  have:=(List.getElem?_eq_some_iff.mp hq).1
  have h2:=hg.2
  rw [rel.length] at h2
  lia
 self:=fun _ _ _ _ _ st hQ=>wpAny_pyIter_slot ⟨_,st,rfl⟩ F.slot_dict_keyiterator_iter (wpAny_call_entry F.slot_dict_keyiterator_iter ⟨_,st,rfl⟩ F.entry_dict_keyiterator_iter (show wpAny _ _ (ret (.ref it)) _ _ _ from Zy ⟨_,rfl, "dict_keyiterator",_,⟨_,st,rfl⟩,F.slot_dict_keyiterator_next.lookup,hQ⟩) (F.args_dict_keyiterator_iter_1 _))
noncomputable def iDn (tl:TE):TI:=fun σ H R=>tl σ H fun x H1=>∃ d kvs,x=.ref d/\H1 d=some (DN d kvs)/\∀ o,kvs.length<=sizeLine->(kvs.map (·.1)).Nodup->R (Itn d o kvs) (upd H1 d (.frz o (DN d kvs)))
theorem oe {o:Obj} {es:Array DictEntry} {ep:Nat} (h:o.ExactDict) (e:o.data=.dict es ep):o=ST.dO es ep:=by
 obtain ⟨c,d,dt,sl⟩:=o
 obtain ⟨h1,h2,h3⟩:=h
 simp only at h1 h2 h3 e
 subst h1 h2 h3 e
 rfl
theorem CU {l:Expr} {tl:TE} (hl:PE X l tl):PI X tg l (iDn tl):=by
 intro pins s σ H R I h
 refine thn (hl pins s σ H _ I h) fun v s1 ⟨x,H1,I1,r1,q1⟩=>?_
 obtain ⟨d,kvs,ex,e,q⟩:=q1
 subst ex
 cases r1
 obtain ⟨⟨z,y,xs,rel,o,es,ep,g,ex,hd,he,hn⟩,_⟩:=(show aS X.prog X.w H1 s1.heap d (DN d kvs) from I1.hok d _ e)
 have eo:=oe ex hd
 subst eo
 refine ST.nO y g ?_
 refine ⟨s1.heap.objs.size,[s1.heap.objs.size],_,_,_,rfl,(mR I1 e g).kept (t':=s1.toks) fun b o e=>Zu _ e,B0 d _ rel he,Zo _ rfl,fun b hb=>?_,q _ z (by rw [rel.keys];exact hn)⟩
 have eb:b=s1.heap.objs.size:=by simpa using hb
 subst eb
 exact (mR I1 e g).fpOk (Zt _) ((mR I1 e g).hok.fresh (Zt _))
noncomputable def Ed:R2:=fun x y H Q=>∃ d o kvs k b v,x=.ref d/\y=.ref b/\H d=some (.frz o (DN d kvs))/\(∀ p∈kvs,NAt H p.1 p.2.1)/\NAt H k b/\atN kvs k=some v/\Q v H
theorem D3 (hu:X.A.units+2 < cLine):IxR X Ed:=by
 intro value slice pins s σ H x y v u Q I rx ry h hs
 obtain ⟨d,o,kvs,k,b,w,rfl,rfl,e,hks,hk,hw,q⟩:=h
 cases rx
 obtain rfl:=(show u=Value.ref b from ry)
 obtain ⟨g,ok⟩:=(show aS X.prog X.w H s.heap d (.frz o (DN d kvs)) from I.hok d _ e)
 obtain ⟨⟨z,y,xs,rel,o',es,ep,h1,h2,h3,h4,h5⟩,_⟩:=(show aS X.prog X.w H s.heap d (DN d kvs) from ok)
 have all:∀ {l:List (aX×Addr×V)} {m:List (aX×Addr×Value)},KN l m->(∀ p∈l,NAt H p.1 p.2.1)->∀ x∈m,NK.IsN (intKind X.prog X.w) s.heap x.1 x.2.1:=by
  intro l m q
  induction q with
  | nil=>intro _ x hx;exact nomatch hx
  | @cons p q ps qs hq t ih =>
   intro hl x hx
   rcases Zg.mp hx with e | hx
   ·subst e
    rw [← hq.1,← hq.2.1]
    exact (hl p Zv).is I.hok
   ·exact ih (fun p hp=>hl p (Zw _ hp)) x hx
 have dd:s.heap.DictOfH (NK.nest (intKind X.prog X.w)) d xs:=⟨o',es,ep,h1,h2,h3,h4,fun x hx=>all rel hks x hx,h5⟩
 have hT:=dd.typeIs
 have hat:=rel.at k
 rw [hw] at hat
 obtain ⟨pv,hp,rp⟩:∃ pv,atKey xs k=some pv/\RelV w pv.2:=by
  cases hz:atKey xs k with
  | none=>rw [hz] at hat;exact False.elim hat
  | some pv=>rw [hz] at hat;exact ⟨pv,rfl,hat⟩
 unfold subscriptTail
 refine Zz ?_
 rw [getitemInPython_of_ne hT.not_modules]
 refine Zz (wpAny_specialOf hT PySem.F.slot_dict_getitem.lookup ?_)
 have fin:wpAny (model X.prog X.w) X.A (subscripted slice false (.ref d) (.ref b)) (fun r s₃=>wpAny (model X.prog X.w) X.A (letTemporaryGo value (.ref d) r >>= fun _=>pure r) (EP X pins σ Q) X.xe s₃) X.xe s:=by
  rw [hs]
  exact wpAny_operating (wpAny_getItem_heap (knd:=NK.nest (intKind X.prog X.w)) (by show X.A.units+1+1 < cLine;omega) (hk.is I.hok) dd hp (Zz (wpAny_letTemporaryGo (Zy ⟨w,H,I.tok _,rp,q⟩))))
 first
  | exact Zy (Zz fin)
  | exact Zz (Zy (Zz fin))
  | exact Zz fin
theorem Bm {kvs:List (aX×Addr×V)}:∀ {i:Nat} {p:aX×Addr×V},(kvs.map (·.1)).Nodup->kvs[i]?=some p->atN kvs p.1=some p.2.2:=by
 induction kvs with
 | nil=>intro i p _ h;simp at h
 | cons x l ih =>
  intro i p hn h
  rw [List.map_cons,List.nodup_cons] at hn
  cases i with
  | zero=>simp at h;subst h;simp [atN]
  | succ i =>
   have h':l[i]?=some p:=by simpa using h
   have ne:x.1 ≠ p.1:=fun e=>hn.1 (by rw [e];exact List.mem_map.mpr ⟨p,List.mem_of_getElem? h',rfl⟩)
   have:=ih hn.2 h'
   unfold atN at this ⊢
   rw [List.find?_cons,decide_eq_false ne]
   exact this
end
end L2
namespace VS
open PySem PySem.Spec PyProof.Rows L2
section
variable {G:Gx} {X:Cx} {pos p p1 p2 p3 p4 spos:Pos} {kr i:Nat} {sc:Scope}
theorem yX:PV G X (.Dict [] [] pos) (jg 2 []):=PE.weak wF fun σ H Q ⟨Φ,η,m,t,s,e,k⟩=>by
 cases (show some (Md.fr,T.dct 2 [])=some (m,t) from e)
 intro q hq
 have:Rp G (upd H q (DN q [])) (.ref q) (.dct 2 ((([]:List (aX×Addr)).map fun p=>nkT p.1).zip [])) (q :: ([]:List (List Addr)).flatten):=.dctN (vs:=[]) aF rfl (fun p hp=>by simp at hp) .nil
 exact k _ _ [q] (bH hq) this ⟨by simp,fun b hb=>by rw [Zi.mp hb];exact hq⟩
noncomputable def gK (i:Nat) (η:VS.Env):Option Out:=match η[i]? with
 | some (some (.ow (.dct 2 l)))=>some (.rt (.fr,.lst (l.map (·.2))) (η.set i none))
 | _=>none
theorem rW (i:Nat) (N:List Str) {x y:Str} (hr:Room kr X.A) (hcalm:X.calm=true) (hN:X.N[i]?=some x) (hv:Vis X.env.scope x) (hd:(x == ("__debug__" : Str))=false) (hcd:(x == ("__classdict__" : Str))=false)
  (hin:∀ cl C s H fp,PG (bQ X N sc cl C s H fp) (.Name y p3) (qi 0)/\PE (bQ X N sc cl C s H fp) (.Name x p1) (sJ (i+1))/\PE (bQ X N sc cl C s H fp) (.Name y p2) (sJ 0)/\(bQ X N sc cl C s H fp).A.units=X.A.units)
  (hix:fQ (.Name y p2)) (hsc:mJ X.env sc=true) (hnm:jo sc (N.drop 1) X.N=true) (hNl:1<=N.length) (hs:∀ z,foldedSetIterable (.Name x p4) X.env z=pure z) :
  PSV G X (.Return (some (.ListComp (.Subscript (.Name x p1) (.Name y p2) p) [⟨.Name y p3,.Name x p4,[],0⟩] sc pos)) spos) (gK i) :=
 PS.weak (p0 (qR (k:=1) hcalm (CU (fu hN hv hd hcd)) hsc hnm hNl (fun cl C s H fp=>⟨(hin cl C s H fp).1,nS,vZ (D3 (by have:=hr.un;rw [(hin cl C s H fp).2.2.2];lia)) (hin cl C s H fp).2.1 (hin cl C s H fp).2.2.1 hix⟩) hs)) fun D σ H ⟨Φ,η,out,s,e,k⟩=>by
  refine L2.fM fun P_ k_=>?_
  unfold gK at e
  split at e
  ·rename_i l hl
   cases e
   obtain ⟨v,g1,g2⟩:=s.rp _ _ hl
   have nd0:=s.nd i _ hl
   obtain ⟨a,ns,vs,ts,Fs,rfl,eΦ,ha,hln,hat,el,ra⟩:=m8 g2
   subst el
   rw [eΦ] at nd0
   have nd:=List.nodup_cons.mp nd0
   refine k_ ?_
   refine ⟨.ref a,g1,a,kvN ns vs,rfl,ha,fun o hz hnd Dn hD=>?_⟩
   have mu:Mut (H a):=by rw [ha];exact True.intro
   have aD:Dn ≠ a:=fun z=>by rw [z,aF] at hD;cases hD
   have HD:H Dn=none:=by rw [aw aD] at hD;exact hD
   have kp:∀ ys,Kept H (upd (upd H a (.frz o (DN a (kvN ns vs)))) Dn (.lst ys)):=fun ys=>(Kept.upd (.inl mu)).trans (Kept.upd (.inr hD))
   refine ⟨fun j m σ' H'=>m+j=(kvN ns vs).length/\(∃ c,σ'=c :: σ)/\H'=upd (upd H a (.frz o (DN a (kvN ns vs)))) Dn (.lst (((kvN ns vs).take j).map (·.2.2))),⟨(kvN ns vs).length,rfl,⟨none,rfl⟩,rfl⟩,?_⟩
   rintro j m σ' H' ⟨hm,⟨c,rfl⟩,rfl⟩
   have hfz:∀ ys,upd (upd H a (.frz o (DN a (kvN ns vs)))) Dn (.lst ys) a=some (.frz o (DN a (kvN ns vs))):=fun ys=>by rw [aw (Ne.symm aD),aF]
   by_cases hj:j < (kvN ns vs).length
   ·refine .inr ⟨⟨hfz _,hj⟩,?_⟩
    rintro x' H2 ⟨rfl,q,hq,rfl⟩
    refine ⟨.ref a,?_,.ref q.2.1,?_,a,o,kvN ns vs,q.1,q.2.1,q.2.2,rfl,rfl,hfz _,fun r hr=>(kg hat r hr).mono (kp _).tup,(kg hat q (List.mem_of_getElem? hq)).mono (kp _).tup,Bm hnd hq,?_⟩
    ·show (σ:L2.St)[i]?=_
     exact g1
    ·rfl
    ·refine ⟨_,aF,?_,m - 1,by lia,by lia,⟨_,rfl⟩,?_⟩
     ·rw [Zk,List.length_take];lia
     ·rw [xg,List.take_add_one,hq,List.map_append]
      rfl
   ·have ej:(kvN ns vs).take j=kvN ns vs:=List.take_of_length_le (by lia)
    refine .inl ⟨⟨hfz _,by lia⟩,?_⟩
    rw [ej]
    have ev:(kvN ns vs).map (·.2.2)=vs:=by
     unfold kvN
     rw [List.map_map]
     exact List.map_snd_zip (Nat.le_of_eq hln.symm)
    have et:((ns.map fun p=>nkT p.1).zip ts).map (·.2)=ts:=List.map_snd_zip (by rw [Zk,hln,ra.len.1];exact Zt _)
    rw [ev]
    have nF:∀ b∈Fs.flatten,b ≠ a/\b ≠ Dn:=fun b hb=>⟨fun z=>nd.1 (z ▸ hb),fun z=>Mut.ne_none (ra.dom b hb) (z ▸ HD)⟩
    have Da:∀ b,H b ≠ none->b ≠ Dn:=fun b h z=>h (z ▸ HD)
    have ai:bM Φ η a:=⟨i,_,hl,by rw [eΦ];exact Zv⟩
    have sub:∀ b,bM Φ (η.set i none) b->bM Φ η b/\b ≠ a:=fun b ⟨j,t,h1,h2⟩=>⟨⟨j,t,(bR h1).2,h2⟩,fun z=>by
     subst z
     exact s.sep i j _ _ hl (bR h1).2 (bR h1).1.symm b (by rw [eΦ];exact Zv) h2⟩
    have subp:∀ b,cY Φ (η.set i none) b->cY Φ η b/\b ≠ a:=fun b ⟨j,t,h1,h2⟩=>⟨⟨j,t,(bR h1).2,h2⟩,fun z=>by
     subst z
     exact s.sep i j _ _ hl (bR h1).2 (bR h1).1.symm b (by rw [eΦ];exact Zv) h2⟩
    have dmo:∀ b,bM Φ η b->H b ≠ none:=fun b ⟨j,t,h1,h2⟩=>by
     obtain ⟨v',_,r'⟩:=s.rp _ _ h1
     exact Mut.ne_none (r'.dom b h2)
    have dmp:∀ b,cY Φ η b->H b ≠ none:=fun b ⟨j,t,h1,h2⟩=>by
     obtain ⟨v',_,r'⟩:=s.rp _ _ h1
     exact Mut.ne_none (r'.dom b h2)
    rw [et] at k
    refine k (.ref Dn) _ (Dn :: Fs.flatten) Φ σ (SR.off (SR.off (s.drop i) (.inl mu) (fun z=>(subp a z).2 rfl) fun z=>(sub a z).2 rfl) (.inr hD) (fun z=>dmp _ (subp _ z).1 HD) fun z=>dmo _ (sub _ z).1 HD) ⟨fun b ob h n=>⟨?_,fun z=>n (sub b z).1⟩,fun b h=>?_,fun b z=>.inl (sub b z).1,fun b z=>.inl (subp b z).1,kp _⟩ (.lst aF (ra.keep (kp _) fun b hb ob h=>?_)) ⟨List.nodup_cons.mpr ⟨fun z=>(nF Dn z).2 rfl,nd.2⟩,fun b hb=>?_⟩
    ·have h1:b ≠ a:=fun z=>n (z ▸ ai)
     have h2:b ≠ Dn:=Da b (by rw [h];simp)
     rw [aw h2,aw h1]
     exact h
    ·rw [aw (Da b h)]
     by_cases z:b=a
     ·rw [z,aF];simp
     ·rw [aw z];exact h
    ·rw [aw (nF b hb).2,aw (nF b hb).1]
     exact h
    ·rcases Zg.mp hb with rfl | hb
     ·exact .inl HD
     ·exact .inr ⟨i,_,hl,by rw [eΦ];exact Zw _ hb⟩
  ·cases e
end
section
variable {G:Gx} {X:Cx} {pos:Pos}
theorem zl {x:Str} {t:Tx} {j:Nat} {q q':Pos} (h:x=sx t) (hl:gG t):PV G X (.Dict [some (.Constant (.str x) j q)] [.List [] q'] pos) (jg 0 [(eC (.str t),eU av)]) :=
 PE.weak (wR (uV u6 (mB fB) zD) rfl rfl (by simp) (by show 1<=15;decide)) fun σ H Q ⟨Φ,η,m,r,s,e,k⟩=>by
  subst h
  cases (show some (Md.fr,T.dct 0 [(.str t,.lst [])])=some (m,r) from e)
  intro p hp
  refine ⟨Nat.zero_le _,fun b hb=>?_⟩
  have bp:b ≠ p:=fun z=>by rw [z,aF] at hb;cases hb
  have Hb:H b=none:=by rw [aw bp] at hb;exact hb
  refine ⟨by rw [aw (Ne.symm bp),aF],[(Sum.inr (sx t),.ref b)],rfl,(by show 1<=15;decide),?_⟩
  have hk:aH (Sum.inr (sx t))=.str t:=rfl
  have sm:aL H (upd (upd (upd H p (.dK [])) b (.lst [])) p (.dK (iU [] [(Sum.inr (sx t),.ref b)]))):=fun c o hc=>by
   rw [aw (bz hc hp),aw (bz hc Hb),aw (bz hc hp)]
   exact hc
  have:Rp G (upd (upd (upd H p (.dK [])) b (.lst [])) p (.dK [(Sum.inr (sx t),.ref b)])) (.ref p) (.dct 0 ((([Sum.inr (sx t)]:List Key).map aH).zip [.lst []])) (p :: ([[b]]:List (List Addr)).flatten) :=
   .dct (ks:=[Sum.inr (sx t)]) (vs:=[V.ref b]) aF rfl (.cons (F:=b :: ([]:List (List Addr)).flatten) (.lst (by rw [aw bp,aF]) .nil) .nil)
  simp only [List.map_cons,List.map_nil,hk,List.zip_cons_cons,List.zip_nil_right] at this
  exact k _ _ _ sm this ⟨by simp [Ne.symm bp],fun c hc=>by
   rcases Zg.mp hc with rfl | hc
   ·exact hp
   ·simp at hc;rw [hc];exact Hb⟩
end
end VS
end
section
open PySem PyProof.Rows
namespace TS
variable {prog:Program} {w:World} {A:Around} {E:Value->Shared->Prop} {s:Shared} {G:Keyed->Prop} {r:Keyed->Keyed->Bool}
noncomputable def gJ (h:Heap) (a:Addr) (vs:List Value):Addr:=((h.update a (Obj.mapSeq fun _=>#[])).push (seqObj "tuple" vs.toArray 0)).objs.size
theorem o8 (h:Heap) (a:Addr) (vs:List Value):gJ h a vs=h.objs.size+1:=by unfold gJ;rw [size_push',Heap.size_update]
structure KeyPre (prog:Program) (w:World) (A:Around) (E:Value->Shared->Prop) (P:PySem.Fin->Shared->Prop) (f:Value) (a K:Addr) (oa:Option Obj) (vs:List Value) (J:List Value->Shared->Prop):Prop where
 keys:∀ ks s',J ks s'->∃ e,s'.heap.get? K=some (seqObj "list" ks.toArray e)
 self:∀ ks s',J ks s'->s'.heap.get? a=oa
 step:∀ ks x s',vs[ks.length]?=some x->J ks s'->wpAny (model prog w) A (call f [x]) (fun k s2=>(∃ e,s2.heap.get? K=some (seqObj "list" ks.toArray e))/\J (ks++[k]) { s2 with heap:=s2.heap.update K (Obj.mapSeq fun xs=>xs.push k) }) (fun _ _=>False) s'
 fin:∀ ks s',J ks s'->ks.length=vs.length->∃ kd G r,Cmp prog w A E s' kd G r/\(∀ p∈ks.zip vs,G p)/\(2<=vs.length->∀ Q:SortKind->Shared->Prop,Q kd s'->wpAny (model prog w) A (keyKind' ks.toArray) Q E s') ∧
  ∀ out:List Keyed,out.Perm (ks.zip vs)->out.Pairwise (le r)->P (.done (.ret .none)) { s' with heap:=(s'.heap.update K (Obj.mapSeq fun _=>#[])).update a (Obj.mapSeq fun _=>(out.map (·.2)).toArray) }
theorem tJ {a:Addr} {f:Value} {vs:List Value} {n:Nat} {P:PySem.Fin->Shared->Prop} {J:List Value->Shared->Prop} (hf:(f != Value.none)=true) (ho:s.heap.get? a=some (seqObj "list" vs.toArray n)) (hlen:vs.length<=sizeLine)
  (j0:J [] { s with heap:=cG s.heap a vs }) (p:KeyPre prog w A E P f a (gJ s.heap a vs) ((cG s.heap a vs).get? a) vs J) :
  wpAny (model prog w) A (Builtin.«list.sort» ⟨[.ref a],[(("key" : Str),f)]⟩) P E s:=by
 obtain ⟨ep,at1⟩:∃ k,(s.heap.update a (Obj.mapSeq fun _=>#[])).get? a=some (seqObj "list" #[] k):=⟨_,get?_update_seq ho _⟩
 have at2:=pF (vs:=vs) (Zm ho) at1
 have ne:a ≠ gJ s.heap a vs:=by rw [o8];exact Zn (Nat.lt_succ_of_lt (Zm ho))
 unfold Builtin.«list.sort»
 refine (show wpAny (model prog w) A (Builtin.List.listItems (.ref a) >>= _) P E s from ?_)
 refine Zz (listItems_at ho rfl (Zz (listUpdate_at ho rfl (Zz (seqEpoch_at at1 rfl (Zz (wpAny_newTuple (Zz (wpAny_newList (wpAny_holding ?_))))))))))
 refine (show wpAny (model prog w) A (if (f != Value.none)=true then _ else _) P E { s with heap:=cG s.heap a vs } from ?_)
 rw [if_pos hf]
 refine Zz (wpAny_rule (Zz ?_))
 rw [← Array.forIn_toList]
 refine wpAny_forIn_list _ (fun rest _ s'=>∃ ks,J ks s'/\rest=vs.drop ks.length/\ks.length<=vs.length) _ ?turn ?fin _ _ ⟨[],j0,by simp,by simp⟩
 case turn =>
  rintro x rest r s' ⟨ks,jk,e,hl⟩
  have hlt:ks.length < vs.length:=by
   have:=congrArg List.length e
   rw [List.length_cons,List.length_drop] at this
   lia
  have e2:x :: rest=vs[ks.length] :: vs.drop (ks.length+1):=by rw [e];exact List.drop_eq_getElem_cons hlt
  injection e2 with ex er
  have hx:vs[ks.length]?=some x:=by rw [Zd hlt,ex]
  refine Zz (wpAny_attempt (wpAny_mono (p.step ks x s' hx jk) (fun k s2 ⟨⟨e2,he⟩,j2⟩=>?_) fun _ _ z=>z.elim))
  have sz:ks.toArray.size<=sizeLine:=by rw [List.size_toArray];lia
  exact (show wpAny (model prog w) A (Builtin.List.listUpdate (.ref (gJ s.heap a vs)) (fun xs=>xs.push k) >>= _) _ _ _ from Zz (listUpdate_at he rfl (Zy ⟨ks++[k],j2,by rw [er];simp,by simp;lia⟩) (hsz:=sz) (hsz2:=by rw [Array.size_push];lia)))
 case fin =>
  rintro r s' ⟨ks,jk,e,hl⟩
  have hln:ks.length=vs.length:=by
   have:=congrArg List.length e
   rw [List.length_nil,List.length_drop] at this
   lia
  obtain ⟨eK,hK⟩:=p.keys ks s' jk
  have hS:=p.self ks s' jk
  rw [at2] at hS
  obtain ⟨kd,G,r,hC,hG,hkk,hP⟩:=p.fin ks s' jk hln
  have fin:∀ st':SortSt,(arrOf st').Perm (ks.zip vs).toArray->failedOf st'=none->(arrOf st').toList.Pairwise (le r)->P (.done (.ret .none)) { s' with heap:=(s'.heap.update (gJ s.heap a vs) (Obj.mapSeq fun _=>#[])).update a (Obj.mapSeq fun _=>(arrOf st').map (·.2)) }:=fun st' p1 _ p3=>by
   have:=hP (arrOf st').toList (by simpa using Array.perm_iff_toList_perm.mp p1) p3
   rwa [← Array.toList_map,Array.toArray_toList] at this
  have hS2:(s'.heap.update (gJ s.heap a vs) (Obj.mapSeq fun _=>#[])).get? a=some (seqObj "list" #[] ep):=by rw [Heap.get?_update_other _ _ (Ne.symm ne)];exact hS
  refine (show wpAny (model prog w) A (if (f != Value.none)=true then _ else _) P E s' from ?_)
  rw [if_pos hf]
  refine (show wpAny (model prog w) A (Builtin.List.listItems (.ref (gJ s.heap a vs)) >>= _) P E s' from Zz (listItems_at hK rfl ?_))
  have room:∀ st':SortSt,(arrOf st').Perm (ks.zip vs).toArray->((arrOf st').map (·.2)).size<=sizeLine+1:=fun st' p1=>by
   rw [Array.size_map,p1.size_eq,List.size_toArray,List.length_zip]
   lia
  have szK:ks.toArray.size<=sizeLine:=by rw [List.size_toArray];lia
  have ez:ks.toArray.zip vs.toArray=(ks.zip vs).toArray:=by simp
  by_cases two:2<=vs.length
  ·have no:¬ (vs.toArray.size < 2):=by rw [List.size_toArray];lia
   refine (show wpAny (model prog w) A (if vs.toArray.size < 2 then _ else _) P E s' from ?_)
   rw [if_neg no]
   refine Zz (hkk two _ ?_)
   refine (show wpAny (model prog w) A (StateT.run (if vs.toArray.size < 2 then pure () else sortRuns') (SortSt.mk' kd (ks.toArray.zip vs.toArray) #[] 7 none) >>= _) P E s' from ?_)
   rw [if_neg no]
   refine Zz (wpAny_mono (rj hC (a₀:=(ks.zip vs).toArray) (st:=SortSt.mk' kd (ks.toArray.zip vs.toArray) #[] 7 none)
    (Q:=fun _ st'=>(arrOf st').Perm (ks.zip vs).toArray/\failedOf st'=none/\(arrOf st').toList.Pairwise (le r)) rfl (fun x hx=>hG x (by simpa using hx)) ez rfl rfl fun st' a1 a2 a3=>⟨a1,a2,a3⟩) ?_ fun _ _ e=>e)
   rintro ⟨⟨⟩,st'⟩ s2 ⟨rfl,p1,p2,p3⟩
   refine (show wpAny (model prog w) A (if (f != Value.none)=true then _ else _) P E s2 from ?_)
   rw [if_pos hf]
   refine (show wpAny (model prog w) A (Builtin.List.listUpdate (.ref (gJ s.heap a vs)) (fun _=>#[]) >>= _) P E s2 from Zz (listUpdate_at hK rfl (Zz (wpAny_letGo (Zz (seqEpoch_at hS2 rfl (Zz (listUpdate_at hS2 rfl ?_ (hsz2:=room st' p1))))))) (hsz:=szK)))
   have q2:=p2
   unfold failedOf at q2
   rw [q2]
   simp only [bne_self_eq_false,Bool.false_eq_true,↓reduceIte]
   exact Zy (fin st' p1 p2 p3)
  ·have yes:vs.toArray.size < 2:=by rw [List.size_toArray];lia
   have p1:(arrOf (SortSt.mk' general' (ks.toArray.zip vs.toArray) #[] 7 none)).Perm (ks.zip vs).toArray:=by
    show (ks.toArray.zip vs.toArray).Perm _
    rw [ez]
   have p3:(arrOf (SortSt.mk' general' (ks.toArray.zip vs.toArray) #[] 7 none)).toList.Pairwise (le r):=by
    show (ks.toArray.zip vs.toArray).toList.Pairwise (le r)
    rw [ez]
    match vs,ks,two with
    | [],_,_=>simp
    | [_],[],_=>simp
    | [_],_ :: _,_=>simp
    | _ :: _ :: _,_,q=>simp at q
   refine (show wpAny (model prog w) A (if vs.toArray.size < 2 then _ else _) P E s' from ?_)
   rw [if_pos yes]
   refine Zz (Zy ?_)
   refine (show wpAny (model prog w) A (StateT.run (if vs.toArray.size < 2 then pure () else sortRuns') (SortSt.mk' general' (ks.toArray.zip vs.toArray) #[] 7 none) >>= _) P E s' from ?_)
   rw [if_pos yes,StateT.run_pure]
   refine Zz (Zy ?_)
   refine (show wpAny (model prog w) A (if (f != Value.none)=true then _ else _) P E s' from ?_)
   rw [if_pos hf]
   refine (show wpAny (model prog w) A (Builtin.List.listUpdate (.ref (gJ s.heap a vs)) (fun _=>#[]) >>= _) P E s' from Zz (listUpdate_at hK rfl (Zz (wpAny_letGo (Zz (seqEpoch_at hS2 rfl (Zz (listUpdate_at hS2 rfl ?_ (hsz2:=room _ p1))))))) (hsz:=szK)))
   have b0:(ep != ep)=false:=bne_self_eq_false _
   refine (show wpAny (model prog w) A (if (ep != ep)=true then _ else ret Value.none) P E _ from ?_)
   rw [if_neg (by rw [b0];simp)]
   exact Zy (fin _ p1 rfl p3)
end TS
end
section
open PySem PyProof.Rows
namespace TS
variable {prog:Program} {w:World} {A:Around} {E:Value->Shared->Prop} {s:Shared}
theorem md (a f:Value):argsOk "sorted" ⟨[a],[(("key" : Str),f)]⟩:=by unfold argsOk;kernel_rfl
theorem p5 (a f:Value):argsOk "list.sort" ⟨[a],[(("key" : Str),f)]⟩:=by unfold argsOk;kernel_rfl
noncomputable def fY (h:Heap) (vs:List Value):Heap:=cG (h.push (seqObj "list" vs.toArray 0)) h.objs.size vs
theorem oQ {h:Heap} {vs:List Value} {b:Addr} {o:Obj} (e:h.get? b=some o):(fY h vs).get? b=some o:=by
 have hb:=Zm e
 unfold fY cG
 rw [Heap.get?_push_ne _ _ _ (by rw [size_push',Heap.size_update,size_push'];exact nl hb 2),Heap.get?_push_ne _ _ _ (by rw [Heap.size_update,size_push'];exact nl hb 1),Heap.get?_update_ne _ _ _ _ (Zn hb),Heap.get?_push_ne _ _ _ (Zn hb)]
 exact e
theorem mT (h:Heap) (vs:List Value):∃ e,(fY h vs).get? h.objs.size=some (seqObj "list" #[] e):=by
 have hoL:(h.push (seqObj "list" vs.toArray 0)).get? h.objs.size=some (seqObj "list" vs.toArray 0):=Zo _ rfl
 obtain ⟨k,at1⟩:∃ k,((h.push (seqObj "list" vs.toArray 0)).update h.objs.size (Obj.mapSeq fun _=>#[])).get? h.objs.size=some (seqObj "list" #[] k):=⟨_,get?_update_seq hoL _⟩
 exact ⟨k,pF (vs:=vs) (Zm hoL) at1⟩
theorem mS (h:Heap) (vs:List Value):(fY h vs).get? (h.objs.size+2)=some (seqObj "list" #[] 0):=by
 unfold fY cG
 have e:(((h.push (seqObj "list" vs.toArray 0)).update h.objs.size (Obj.mapSeq fun _=>#[])).push (seqObj "tuple" vs.toArray 0)).objs.size=h.objs.size+2:=by rw [size_push',Heap.size_update,size_push']
 rw [← e]
 exact Zo _ rfl
theorem pd {x f:Value} {Q:Value->Shared->Prop} (hf:(f != Value.none)=true)
  (hcol:∀ (A':Around) (E':Value->Shared->Prop),A'.handled=A.handled->wpAny (model prog w) A' (collect x) (fun vs s1=>vs.length<=sizeLine/\∃ J,J [] { s1 with heap:=fY s1.heap vs } ∧
   KeyPre prog w A.in1.in1 E (fun fin s'=>fin=.done (.ret .none)/\Q (.ref s1.heap.objs.size) s') f s1.heap.objs.size (s1.heap.objs.size+2) ((fY s1.heap vs).get? s1.heap.objs.size) vs J) E' s) :
  wpAny (model prog w) A (call (.builtin "sorted") [x] [(("key" : Str),f)]) Q E s:=by
 refine call_function_entry_kw kind_sorted plain_sorted entry_sorted (md _ _) (show wpAny _ _ (Builtin.«sorted» _) _ _ _ from ?_)
 unfold Builtin.«sorted»
 refine Zz (m:=checkCount "sorted" 1 1 _) (Zy (Zz (wpAny_mono (hcol A.in1 (fun _ _=>False) rfl) ?_ fun _ _ e=>e.elim)))
 rintro vs s1 ⟨hlen,J,j0,kp⟩
 refine Zz (wpAny_newList ?_ (by exact hlen))
 have hoL:(s1.heap.push (seqObj "list" vs.toArray 0)).get? s1.heap.objs.size=some (seqObj "list" vs.toArray 0):=Zo _ rfl
 have eK:gJ (s1.heap.push (seqObj "list" vs.toArray 0)) s1.heap.objs.size vs=s1.heap.objs.size+2:=by rw [o8,size_push']
 refine (show wpAny _ _ _ _ _ { s1 with heap:=s1.heap.push (seqObj "list" vs.toArray 0) } from ?_)
 have main:=tJ (J:=J) (s:={ s1 with heap:=s1.heap.push (seqObj "list" vs.toArray 0) }) hf hoL hlen j0 (P:=fun fin s'=>fin=.done (.ret .none)/\Q (.ref s1.heap.objs.size) s') (by rw [eK];exact kp)
 exact Zz (wpAny_holding (wpAny_call_entry_kw slot_list_sort ⟨_,hoL,rfl⟩ entry_list_sort (wpAny_mono main (fun fin s' h=>⟨_,h.1,Zy ⟨_,rfl,h.2⟩⟩) fun _ _ e=>e) (p5 _ _)))
end TS
end
section
namespace L2
open PySem PySem.Spec PyProof.Rows TS
section
variable {X:Cx} {pins:List (Addr×Obj)} {σ:St} {H:Hp} {s:Shared} {h':Heap}
theorem Inv.adopt {a:Addr} {o:HO} {t':Nat} (I:Inv X pins σ H s) (f:ik X pins H a) (k:∀ b u,b ≠ a->s.heap.get? b=some u->h'.get? b=some u) (he:∃ u,h'.get? a=some u) (new:aS X.prog X.w (upd H a o) h' a o) :
  Inv X pins σ (upd H a o) { s with heap:=h',toks:=t' }:=by
 obtain ⟨f0,f1,f2,f3,f4,f5⟩:=f
 have ne:∀ b u,H b=some u->b ≠ a:=fun b u e z=>by rw [z,f0] at e;cases e
 refine I.step (g':=s.gens) (d':=s.drawn) (ch:=[a]) (fun b hb=>?_) (fun b o _ _ hc e _=>k b o (fun z=>hc (by simp [z])) e) (fun b o _ _ hc e _=>⟨o.slots,k b o (fun z=>hc (by simp [z])) e⟩) (fun b _ hc _ n=>?_)
  (fun b o hc e=>⟨o,k b o (fun z=>hc (by simp [z])) e⟩) (fun b xs e=>?_) (fun b o u e=>?_) (fun b ps e=>⟨#[],?_⟩) (fun m hm=>?_) (fun b u e=>?_) I.bare
 ·rw [Zi.mp hb]
  exact ⟨f3,f1,f4,f5⟩
 ·rw [aw (fun z=>hc (by simp [z]))];exact n
 ·rw [aw (ne b _ e)];exact e
 ·rw [aw (ne b _ e)];exact e
 ·rw [aw (ne b _ e),e];simp
 ·obtain ⟨o,es,ep,ho,r⟩:=hm
  exact ⟨o,es,ep,k _ o (Ne.symm f1) ho,r⟩
 ·by_cases hb:b=a
  ·subst hb
   rw [aF] at e
   cases e
   exact new
  ·rw [aw hb] at e
   refine (I.hok b u e).stay (fun c v hc q=>k c v ?_ q) (fun c q=>by rw [aw (ne c _ q)];exact q) fun c xs q=>by rw [aw (ne c _ q)];exact q
   rcases hc with z | z
   ·rw [z];exact hb
   ·exact ne c _ z
theorem AX {k:Nat} {f:Addr} {fd:FuncData} {ps:List Str} {sp:Sp} {A':Around} {E:XK} {Q:VK} {us:List Value} {vs:List V} (F:FnOk X.prog X.w X.K X.mg X.base CX0 k f fd ps sp) (hr:Room k A') (hfr:A'.frames=X.A.frames) (hb:Binds X.K fd ps [])
  (I:Inv X pins σ H s) (r:aK vs us) (h:sp vs H Q E):wpAny (model X.prog X.w) A' (call (.ref f) us) (fun u s'=>∃ v H',Inv X pins σ H' s'/\RelV v u/\Q v H'/\∀ b o,ik X pins H b->s.heap.get? b=some o->s'.heap.get? b=some o/\ik X pins H' b) (fun _ _=>False) s:=by
 have hl:us.length=ps.length:=by rw [← r.length];exact F.len _ _ _ _ h
 have e0:Env0 X.prog X.w X.K X.mg X.base A' X.stack s H:=⟨hfr.trans I.env0.frames,I.env0.mod,I.env0.bs,I.env0.bsz,I.env0.funs,I.env0.frf,I.env0.hok,I.env0.bare⟩
 have hb':=hb s us I.kIn (by rw [List.append_nil];exact hl)
 rw [List.append_nil] at hb'
 refine wpAny_call (codeAny_mono (F.run A' X.stack s H ⟨us,[]⟩ us vs Q E hr e0 hb' r h) fun r s' hq=>?_)
 cases r with
 | error e=>exact hq.elim
 | ok fl =>
  cases fl with
  | ret u =>
   obtain ⟨v,H',os,bare,un,hok,r,q⟩:=hq
   obtain ⟨v2,H2,I2,r2,rfl,rfl,q2⟩:=I.after (Q:=fun v1 H1=>v1=v/\H1=H'/\Q v1 H1) ⟨v,H',os,bare,un,hok,r,rfl,rfl,q⟩
   refine ⟨v2,H2,I2,r2,q2,fun b o fb e=>?_⟩
   have nf:b ∉ frs X.stack:=fun z=>(Zg.mp (I.stkSub b z)).elim fb.2.1 fb.2.2.1
   exact ⟨un.keep b o e fb.1 nf (by simp),un.free b o e fb.1 (by simp),fb.2⟩
  | next=>exact False.elim hq
  | brk=>exact False.elim hq
  | cont=>exact False.elim hq
noncomputable def kL (x:Str):List Key:=[.inl (x.cps.toList.length:Int),.inr x]
noncomputable def txV:Value->Str
 | .str x _=>x
 | _=>⟨#[]⟩
noncomputable def JK (X:Cx) (pins:List (Addr×Obj)) (σ:St) (H:Hp) (ss:List Str) (n0 e0:Nat) (ks:List Value) (s':Shared):Prop:=∃ H1,Inv X pins σ H1 s'/\aL H H1/\ik X pins H1 n0/\ik X pins H1 (n0+2)/\(∃ e,s'.heap.get? (n0+2)=some (seqObj "list" ks.toArray e))/\s'.heap.get? n0=some (seqObj "list" #[] e0) ∧
  ∀ (i:Nat) (u:Value),ks[i]?=some u->∃ (b:Addr) (x:Str),u=Value.ref b/\ss[i]?=some x/\H1 b=some (.tup ((kL x).map kV))
theorem jj {k:Nat} {f p:Addr} {fd:FuncData} {ps:List Str} {sp:Sp} {E:XK} {Q:VK} {ss:List Str} {ws:List V} (hc:X.calm=true) (F:FnOk X.prog X.w X.K X.mg X.base CX0 k f fd ps sp) (hr:Room (k+2) X.A) (hb:Binds X.K fd ps [])
  (I:Inv X pins σ H s) (hl:ss.length=ws.length) (hq:H p=some (.dK ((ss.map Sum.inr).zip ws)))
  (hsp:∀ x∈ss,∀ H1,aL H H1->∀ Q1:VK,(∀ b H2,aL H1 H2->H2 b=some (.tup ((kL x).map kV))->Q1 (.ref b) H2)->sp [.str x] H1 Q1 E)
  (q:∀ (l:Addr) (H1:Hp) (ys:List Str),aL H H1->H1 l=none->ys.Perm ss->ys.Pairwise (fun a b=>dW (kL b) (kL a)=false)->Q (.ref l) (upd H1 l (.lst (ys.map V.str)))) :
  wpAny (model X.prog X.w) X.A (call (.builtin "sorted") [.ref p] [(("key" : Str),.ref f)]) (EP X pins σ Q) X.xe s:=by
 obtain ⟨hz,hS,kvs,rel,dd⟩:=oF I.hok hq
 obtain ⟨ep,dd⟩:=dd.dictAt
 rw [List.length_zip,Zk] at hz
 have hkl:kvs.length=ss.length:=by
  have:=rel.length
  rw [List.length_zip,Zk] at this
  lia
 have hky:∀ i:Nat,(kvs[i]?).map (fun x=>x.1)=(ss[i]?).map (Sum.inr:Str->Key):=fun i=>by
  have h1:((kvs.map (·.1)))[i]?=(ss.map (Sum.inr:Str->Key))[i]?:=by
   rw [← rel.keys,List.map_fst_zip (by rw [Zk];lia)]
  rw [List.getElem?_map,List.getElem?_map] at h1
  exact h1
 refine pd rfl fun A' E' hA=>PySem.W.kdu_collect (PySem.W.kdl_dict hS) (hA.trans (I.ok.hd hc)) dd (by lia) fun h1 tk acc kp hacc=>?_
 have I1:Inv X pins σ H { s with heap:=h1,toks:=tk }:=I.kept kp
 have hal:acc.toList.length=ss.length:=by rw [Array.length_toList,hacc.1,hkl]
 have each:∀ i v,acc.toList[i]?=some v->∃ x t,v=Value.str x t/\ss[i]?=some x:=fun i v hv=>by
  rw [Array.getElem?_toList] at hv
  obtain ⟨k,x,e1,e2⟩:=hacc.2 i v hv
  have e3:=hky i
  rw [e1] at e3
  cases e4:ss[i]? with
  | none=>rw [e4] at e3;cases e3
  | some y =>
   rw [e4] at e3
   have e5:k=Sum.inr y:=Option.some.inj e3
   subst e5
   obtain ⟨t,rfl⟩:=Value.isStrOf_shape (show Value.isStrOf y v=true from e2)
   exact ⟨y,t,rfl,e4⟩
 have hvs:acc.toList.map txV=ss:=by
  apply List.ext_getElem?
  intro i
  rw [List.getElem?_map]
  cases e:acc.toList[i]? with
  | some v =>
   obtain ⟨x,t,rfl,e2⟩:=each i v e
   rw [e2];rfl
  | none =>
   rw [List.getElem?_eq_none_iff] at e
   rw [List.getElem?_eq_none (by lia)];rfl
 generalize hvv:acc.toList=vs at *
 obtain ⟨e0,hL0⟩:=mT h1 vs
 have LK:h1.objs.size ≠ h1.objs.size+2:=by lia
 refine ⟨by lia,JK X pins σ H ss h1.objs.size e0,?_,?_⟩
 ·exact ⟨H,I1.kept (t':=tk) fun b o e=>oQ e,aL.refl _,I1.fpOk (Zt _) (I1.hok.fresh (Zt _)),I1.fpOk (Nat.le_add_right _ 2) (I1.hok.fresh (Nat.le_add_right _ 2)),⟨0,mS h1 vs⟩,hL0,fun i u e=>by simp at e⟩
 ·refine ⟨fun ks s' ⟨H1,_,_,_,_,e,_⟩=>e,fun ks s' ⟨H1,_,_,_,_,_,e,_⟩=>e.trans hL0.symm,?_,?_⟩
  ·rintro ks x s' hx ⟨H1,I2,sm,fL,fK,⟨eK,hK⟩,hL,hks⟩
   obtain ⟨y,t,rfl,hy⟩:=each _ _ hx
   refine wpAny_mono (AX (A':=X.A.in1.in1) F (Room.in1 (Room.in1 hr)) rfl hb I2 (vs:=[.str y]) (.cons ⟨t,rfl⟩ .nil) (hsp y (List.mem_of_getElem? hy) H1 sm (fun v H2=>∃ b,v=.ref b/\aL H1 H2/\H2 b=some (.tup ((kL y).map kV))) fun b H2 s2 h2=>⟨b,rfl,s2,h2⟩)) ?_ fun _ _ e=>e
   rintro u s2 ⟨v,H2,I3,ru,⟨b,rfl,sm2,hb2⟩,kp2⟩
   obtain rfl:=(show u=Value.ref b from ru)
   obtain ⟨kK,fK2⟩:=kp2 _ _ fK hK
   obtain ⟨kL',fL2⟩:=kp2 _ _ fL hL
   have hK3:∃ e,(s2.heap.update (h1.objs.size+2) (Obj.mapSeq fun xs=>xs.push (Value.ref b))).get? (h1.objs.size+2)=some (seqObj "list" (ks++[Value.ref b]).toArray e):=by
    have:=get?_update_seq kK fun xs=>xs.push (Value.ref b)
    rw [this,show ks.toArray.push (Value.ref b)=(ks++[Value.ref b]).toArray by simp]
    exact ⟨_,rfl⟩
   refine ⟨⟨eK,kK⟩,H2,I3.turned (it:=h1.objs.size+2) (t':=s2.toks) (fun c o hc e=>by rw [Heap.get?_update_ne _ _ _ _ hc];exact e) fK2.1 fK2.2.1 fK2.2.2.2.1 fK2.2.2.2.2.1 fK2.2.2.2.2.2,sm.trans sm2,fL2,fK2,hK3,?_,fun i u hu=>?_⟩
   ·rw [Heap.get?_update_ne _ _ _ _ LK];exact kL'
   ·by_cases hi:i < ks.length
    ·rw [List.getElem?_append_left hi] at hu
     obtain ⟨c,x,e1,e2,e3⟩:=hks i u hu
     exact ⟨c,x,e1,e2,sm2 _ _ e3⟩
    ·rw [List.getElem?_append_right (by lia)] at hu
     have hi0:i=ks.length:=by
      by_cases z:i - ks.length=0
      ·lia
      ·rw [List.getElem?_eq_none (by simp;lia)] at hu;cases hu
     subst hi0
     simp at hu
     exact ⟨b,y,hu.symm,hy,hb2⟩
  ·rintro ks s' ⟨H1,I2,sm,fL,fK,⟨eK,hK⟩,hL,hks⟩ hln
   have kz:∀ z∈ks.zip vs,∃ b x t,z=(Value.ref b,Value.str x t)/\H1 b=some (.tup ((kL x).map kV)):=fun z hz=>by
    obtain ⟨i,hi,e⟩:=List.getElem_of_mem hz
    have e':(ks.zip vs)[i]?=some z:=by rw [Zd hi,e]
    obtain ⟨z1,z2⟩:=z
    rw [List.getElem?_zip_eq_some] at e'
    obtain ⟨b,x,rfl,e2,e3⟩:=hks i z1 e'.1
    obtain ⟨x2,t,rfl,e4⟩:=each i z2 e'.2
    rw [e2] at e4
    cases e4
    exact ⟨b,x,t,rfl,e3⟩
   have tk1:∀ {b:Addr} {x:Str},H1 b=some (.tup ((kL x).map kV))->ic s'.heap (.ref b) (kL x):=fun e=>yZ I2.hok e
   refine ⟨tuples' true,GT s'.heap [true,false],rT s'.heap,yR fun v ks t=>t,fun z hz=>?_,fun two Q1 q1=>?_,fun out o1 o2=>⟨rfl,?_⟩⟩
   ·obtain ⟨b,x,t,rfl,e⟩:=kz z hz
    exact ⟨_,tk1 e,rfl⟩
   ·refine wc (k0:=true) (sh:=[false]) (by lia) (fun v hv=>?_) q1
    obtain ⟨i,hi,e⟩:=List.getElem_of_mem hv
    obtain ⟨b,x,rfl,_,e3⟩:=hks i v (by rw [Zd hi,e])
    exact ⟨_,tk1 e3,rfl⟩
   ·have I3:=I2.turned (it:=h1.objs.size+2) (t':=s'.toks) (h':=s'.heap.update (h1.objs.size+2) (Obj.mapSeq fun _=>#[])) (fun c o hc e=>by rw [Heap.get?_update_ne _ _ _ _ hc];exact e) fK.1 fK.2.1 fK.2.2.2.1 fK.2.2.2.2.1 fK.2.2.2.2.2
    have hL2:(s'.heap.update (h1.objs.size+2) (Obj.mapSeq fun _=>#[])).get? h1.objs.size=some (seqObj "list" #[] e0):=by rw [Heap.get?_update_ne _ _ _ _ LK];exact hL
    have hL3:=get?_update_seq hL2 fun _=>(out.map (·.2)).toArray
    have ho:∀ z∈out,∃ b x t,z=(Value.ref b,Value.str x t)/\H1 b=some (.tup ((kL x).map kV)):=fun z hz=>kz z (o1.mem_iff.mp hz)
    have olen:out.length=ss.length:=by
     rw [o1.length_eq,List.length_zip]
     lia
    have vals:∀ {out:List Keyed},(∀ z∈out,∃ b x t,z=(Value.ref b,Value.str x t)/\H1 b=some (.tup ((kL x).map kV)))->aK ((out.map fun z=>txV z.2).map V.str) (out.map (·.2)):=by
     intro out
     induction out with
     | nil=>intro _;exact .nil
     | cons z out ih =>
      intro h
      obtain ⟨b,x,t,rfl,_⟩:=h z Zv
      exact .cons ⟨t,rfl⟩ (ih fun z hz=>h z (Zw _ hz))
    refine ⟨.ref h1.objs.size,_,I3.adopt (o:=.lst ((out.map fun z=>txV z.2).map V.str)) (t':=s'.toks) fL (fun c o hc e=>by rw [Heap.get?_update_ne _ _ _ _ hc];exact e) ⟨_,hL3⟩ (show aS X.prog X.w _ _ _ (.lst _) from ⟨by rw [Zk,Zk,olen];lia,out.map (·.2),_,vals ho,hL3⟩),rfl,q _ H1 _ sm fL.1 ?_ ?_⟩
    ·have:=o1.map fun z=>txV z.2
     have e2:(ks.zip vs).map (fun z=>txV z.2)=ss:=by
      rw [← hvs]
      have:(ks.zip vs).map (fun z=>txV z.2)=((ks.zip vs).map Prod.snd).map txV:=by rw [List.map_map];rfl
      rw [this,List.map_snd_zip (by lia)]
     rw [e2] at this
     exact this
    ·rw [List.pairwise_map]
     refine List.Pairwise.imp_of_mem (fun {a b} ha hb h=>?_) o2
     obtain ⟨c,x,t,rfl,e⟩:=ho a ha
     obtain ⟨c2,x2,t2,rfl,e2⟩:=ho b hb
     unfold le at h
     rw [kl (tk1 e2) (tk1 e)] at h
     exact h
end
end L2
end
section
namespace VS
open PySem PySem.Spec PyProof.Rows L2 TS
noncomputable def lL (a b:Tx):Prop:=a.length < b.length\/a.length=b.length/\a < b
noncomputable def ltL (a b:Tx):Bool:=decide (a.length < b.length) || (decide (a.length=b.length) && ltx a b)
theorem qO (a b:Tx):ltL a b=true ↔ lL a b:=by
 unfold ltL lL
 rw [jW]
 simp
theorem sP (a:Tx):¬ lL a a:=fun h=>by
 rcases h with h | ⟨_,h⟩
 ·exact Nat.lt_irrefl _ h
 ·exact List.lt_irrefl _ h
theorem oT {a b c:Tx} (h:lL a b) (h':lL b c):lL a c:=by
 rcases h with h | ⟨e,h⟩ <;> rcases h' with h' | ⟨e',h'⟩
 ·exact .inl (by lia)
 ·exact .inl (by lia)
 ·exact .inl (by lia)
 ·exact .inr ⟨by lia,List.lt_trans h h'⟩
theorem wb (a b:Tx):lL a b\/a=b\/lL b a:=by
 rcases Nat.lt_trichotomy a.length b.length with h | h | h
 ·exact .inl (.inl h)
 ·by_cases h1:a < b
  ·exact .inl (.inr ⟨h,h1⟩)
  ·by_cases h2:b < a
   ·exact .inr (.inr (.inr ⟨h.symm,h2⟩))
   ·exact .inr (.inl (List.le_antisymm (List.not_lt.mp h2) (List.not_lt.mp h1)))
 ·exact .inr (.inr (.inl h))
noncomputable def pU (x:Tx):List Tx->List Tx
 | []=>[x]
 | y :: r=>if ltL y x then y :: pU x r else x :: y :: r
noncomputable def bV (l:List Tx):List Tx:=l.foldr pU []
theorem iQ (x:Tx):∀ l:List Tx,(pU x l).Perm (x :: l)
 | []=>List.Perm.refl _
 | y :: r=>by
  unfold pU
  split
  ·exact ((iQ x r).cons y).trans (List.Perm.swap _ _ _)
  ·exact List.Perm.refl _
theorem cX:∀ l:List Tx,(bV l).Perm l
 | []=>List.Perm.refl _
 | x :: l=>(iQ x _).trans ((cX l).cons x)
theorem qM (x:Tx):∀ {l:List Tx},l.Pairwise (fun a b=>¬ lL b a)->(pU x l).Pairwise (fun a b=>¬ lL b a)
 | [],_=>by simp [pU]
 | y :: r,h=>by
  unfold pU
  obtain ⟨h1,h2⟩:=List.pairwise_cons.mp h
  split
  ·rename_i c
   have c':=(qO y x).mp c
   refine List.pairwise_cons.mpr ⟨fun z hz=>?_,qM x h2⟩
   rcases Zg.mp ((iQ x r).mem_iff.mp hz) with rfl | hz
   ·exact fun w=>sP _ (oT c' w)
   ·exact h1 z hz
  ·rename_i c
   have c':¬ lL y x:=fun z=>c ((qO y x).mpr z)
   refine List.pairwise_cons.mpr ⟨fun z hz=>?_,h⟩
   rcases Zg.mp hz with rfl | hz
   ·exact c'
   ·intro w
    rcases wb y x with z1 | z1 | z1
    ·exact c' z1
    ·subst z1;exact h1 z hz w
    ·exact h1 z hz (oT w z1)
theorem kB:∀ l:List Tx,(bV l).Pairwise (fun a b=>¬ lL b a)
 | []=>List.Pairwise.nil
 | x :: l=>qM x (kB l)
theorem pN {l l':List Tx} (h:l'.Perm l) (hp:l'.Pairwise (fun a b=>¬ lL b a)):l'=bV l :=
 List.Perm.eq_of_pairwise (le:=fun a b=>¬ lL b a) (fun a b _ _ h1 h2=>(wb a b).elim (fun z=>absurd z h2) fun z=>z.elim id fun z=>absurd z h1) hp (kB l) (h.trans (cX l).symm)
theorem zG (a b:Str):dW (kL a) (kL b)=true ↔ lL a.cps.toList b.cps.toList:=by
 unfold kL lL
 rw [dW]
 by_cases h:((a.cps.toList.length:Int))=(b.cps.toList.length:Int)
 ·rw [if_pos (by rw [h]),dW]
  have h':a.cps.toList.length=b.cps.toList.length:=by lia
  by_cases e:a=b
  ·subst e
   simp [dW,List.lt_irrefl]
  ·rw [if_neg (by simpa using e),ltK]
   simp [h']
 ·rw [if_neg (fun z=>h (by injection z)),ltK,decide_eq_true_eq]
  constructor
  ·intro h2
   exact .inl (by lia)
  ·rintro (h2 | ⟨h2,_⟩)
   ·lia
   ·lia
noncomputable def iR:List Val->Option Val
 | [(_,.dct 0 l)]=>(strs? (l.map (·.1))).bind fun ss=>if ss.all txB then some (.fr,.lst ((bV ss).map .str)) else none
 | _=>none
section
variable {G:Gx} {X:Cx} {e:Expr} {cs:Exs} {p p2 kp pos:Pos} {k:Nat} {f:Addr} {fd:FuncData} {ps:List Str} {cg:Fn} {x:Str}
theorem rK {ss:List Tx} {ys:List Str} (h:ys.Perm (ss.map sx)) (hp:ys.Pairwise (fun a b=>dW (kL b) (kL a)=false)):ys=(bV ss).map sx:=by
 have e:ys=(ys.map fun x=>x.cps.toList).map sx:=by
  rw [List.map_map]
  conv=>lhs;rw [← List.map_id ys]
  apply List.map_congr_left
  intro x hx
  obtain ⟨s,_,rfl⟩:=List.mem_map.mp (h.mem_iff.mp hx)
  show sx s=sx (sx s).cps.toList
  rw [mO]
 have e2:(ys.map fun x=>x.cps.toList)=bV ss:=by
  refine pN ?_ ?_
  ·have:=h.map fun x:Str=>x.cps.toList
   rw [List.map_map] at this
   have e3:((fun x:Str=>x.cps.toList) ∘ sx)=id:=by
    funext s
    exact mO s
   rw [e3,List.map_id] at this
   exact this
  ·rw [List.pairwise_map]
   exact hp.imp fun {a b} h z=>by
    rw [(zG b a).mpr z] at h
    cases h
 rw [e,e2]
theorem xC (F:FnOk X.prog X.w X.K X.mg X.base CX0 k f fd ps (spF G cg)) (hcg:∀ t:Tx,gG t->cg [.str t]=some (.fr,.tup [.int t.length,.str t])) (hr:Room (k+2) X.A) (hgx:Gl X x) (hmx:X.mg x=some (.ref f)) (hb:Binds X.K fd ps [])
  (hm:X.mg "sorted" = none) (ha:PVs G X [e] cs) (hg:Gl X "sorted") (hc:X.calm=true) (hdx:(x == ("__debug__" : Str))=false)
  (he:backTo pos (starEach [e] X.env)=(false,eval e X.env) :: backTo pos (starEach [] X.env)) (hpl:(backTo pos (starEach [e] X.env)).any (·.1)=false) :
  PV G X (.Call (.Name "sorted" p) [e] [⟨some "key",.Name x p2,kp⟩] pos) (eN iR cs):=by
 intro pins s σ H Q I h
 refine L2.fM fun P_ k_=>?_
 obtain ⟨Φ,η,m,t,sr,e0,kk⟩:=h
 unfold eN at e0
 obtain ⟨l,el,e0⟩:=Zx.mp e0
 refine k_ ?_
 refine wpAny_Call_Name_kw (iY I hg hm lI ?_ (by decide) rfl)
 refine PyProof.Rows.callWith_kw (thn (ha pos pins s σ H (fun vs H1=>∃ Fs,Args G Φ η H H1 l vs Fs) I ⟨Φ,η,l,sr,el,fun vs H1 Fs q1 q2 q3=>⟨Fs,q1,q2,q3⟩⟩) fun us s1 ⟨vs,H1,I1,r1,Fs,A⟩=>?_) he hpl rfl rfl
 refine thn ((yI (nm:=some "key") (kpos:=kp) (yW (v:=.ref f) (pos:=p2) hgx hmx rfl hdx) Bs) pos pins s1 σ H1 (fun zs H2=>zs=[.ref f]/\H2=H1) I1 ⟨rfl,rfl⟩) fun ws s2 ⟨zs,H2,I2,rz,ez,eH⟩=>?_
 subst ez eH
 obtain ⟨u,rfl,ru⟩:=rz.one
 obtain rfl:=(show u=Value.ref f from ru)
 refine (show wpAny (model X.prog X.w) X.A (call (.builtin "sorted") us [(("key" : Str),Value.ref f)]) (EP X pins σ Q) X.xe s2 from ?_)
 refine L2.fM fun P_ k_=>?_
 unfold iR at e0
 split at e0
 ·rename_i mx y hh
  obtain ⟨ss,e1,e2⟩:=Zx.mp e0
  split at e2
  ·rename_i hbt
   cases e2
   obtain ⟨v,F',rfl,rfl,rx⟩:=(show RpL G H2 vs [.dct 0 y] Fs from A.rp).one
   obtain ⟨a,ks,ys,ts,Gs,rfl,rfl,hha,hl,rfl,ra⟩:=fU rx
   obtain ⟨u,rfl,ru⟩:=r1.one
   obtain rfl:=(show u=Value.ref a from ru)
   have hl2:ks.length=ts.length:=by rw [hl,ra.len.1]
   have e3:((ks.map aH).zip ts).map (·.1)=ks.map aH:=List.map_fst_zip (by rw [Zk];lia)
   rw [e3] at e1
   have e4:=keys_str e1
   have tok:∀ s∈ss,gG s:=fun s hs=>vc (List.all_eq_true.mp hbt s hs)
   refine k_ ?_
   refine jj (ss:=ss.map sx) (ws:=ys) (E:=E0) hc F hr hb I2 (by rw [← hl,e4];simp) (by rw [← e4];exact hha) (fun x hx H3 sm Q1 q1=>?_) fun l H3 zs sm hl3 pz pw=>?_
   ·obtain ⟨s,hs,rfl⟩:=List.mem_map.mp hx
    refine ⟨[.str s],[[]],.fr,_,.cons (.str s (tok s hs)) .nil,hcg s (tok s hs),fun v H4 F4 sm4 r4 _=>?_⟩
    cases r4 with
    | tup h4 q4 =>
     cases q4 with
     | cons c1 q4 =>
      cases q4 with
      | cons c2 q4 =>
       cases q4
       cases c1
       cases c2
       refine q1 _ _ sm4 ?_
       rw [h4]
       simp [kL,kV,sx]
   ·rw [rK pz pw]
    have r0:RpL G (upd H3 l (.lst (((bV ss).map sx).map V.str))) ((bV ss).map fun s=>V.str (sx s)) ((bV ss).map T.str) ((bV ss).map fun _=>[]):=jE fun s hs=>tok s ((cX ss).mem_iff.mp hs)
    have r:Rp G (upd H3 l (.lst (((bV ss).map sx).map V.str))) (.ref l) (.lst ((bV ss).map T.str)) (l :: ((bV ss).map fun _=>[]).flatten):=.lst (by rw [aF,List.map_map];rfl) r0
    rw [iD] at r
    exact kk _ _ _ ((A.same.trans sm).trans (bH hl3)) r (Fp.new ((A.same.trans sm).free hl3) (by simp) Fp.nil)
  ·cases e2
 ·cases e0
end
end VS
end
section
namespace L2
open PySem PySem.Spec PyProof.Rows
section
variable {X:Cx}
end
end L2
namespace VS
open PySem PySem.Spec PyProof.Rows L2
section
variable {G:Gx} {X:Cx} {e:Expr} {cs:Exs} {p p2 pos pos2:Pos}
end
section
variable {G:Gx} {X:Cx} {e b:Expr} {cs:Exs} {cb:Ex} {pos p p1 p2 kp apos cpos:Pos} {k k' kr:Nat} {x:Str} {ps:List Str} {g:Fn}
theorem sq {gk:Fn} (F:FnAt X.prog X.w X.K X.mg X.base k x ps G gk) (hk:k+2<=k') (hcg:∀ t:Tx,gG t->gk [.str t]=some (.fr,.tup [.int t.length,.str t])) (hr:Room k' X.A) (hm:X.mg "sorted" = none) (ha:PVs G X [e] cs) (hgx:Gl X x) (hg:Gl X "sorted") (hc:X.calm=true) (hdx:(x == ("__debug__" : Str))=false)
  (he:backTo pos (starEach [e] X.env)=(false,eval e X.env) :: backTo pos (starEach [] X.env)) (hpl:(backTo pos (starEach [e] X.env)).any (·.1)=false) :
  PV G X (.Call (.Name "sorted" p) [e] [⟨some "key",.Name x p2,kp⟩] pos) (eN iR cs):=by
 obtain ⟨f,fd,h1,h2,h3,h4⟩:=F.ex
 exact xC h1 hcg (hr.mono hk) hgx h2 h4 hm ha hg hc hdx he hpl
@[simp] noncomputable def EC (i:Nat) (c:Ex) (as:Exs) (η:VS.Env):Option (Val×VS.Env):=match η[i]? with
 | some (some (.ow (.lst l)))=>(c η).bind fun kv=>(int? kv.2).bind fun n=>(ixP l.length n).bind fun j=>(l[j]?).bind fun x=>(as η).bind fun xs=>(aW x xs).map fun z=>(z.2,η.set i (some (.ow (.lst (l.set j z.1)))))
 | _=>none
end
section
variable {G:Gx} {X:Cx} {a b e:Expr} {ca ck ce:Ex} {pos pos' p1:Pos} {kr:Nat}
noncomputable def lR (i:Nat) (k e:Ex) (η:VS.Env):Option Out:=(e η).bind fun v=>match η[i]? with
 | some (some (.ow (.dct 0 l)))=>(k η).bind fun kv=>if eO kv.2/\imm v.2/\l.length < eW then some (.nx (η.set i (some (.ow (.dct 0 (dput l kv.2 v.2)))))) else none
 | _=>none
theorem BJ (i:Nat) {x:Str} (hr:Room kr X.A) (hk:PV G X b ck) (he:PV G X e ce) (hN:X.N[i]?=some x) (hv:Vis X.env.scope x) (hd:(x == ("__debug__" : Str))=false) (hcd:(x == ("__classdict__" : Str))=false)
  (ha:∀ v,assign (.Subscript (.Name x p1) b pos') X.env v=(do
   let ov ← holding [v] (eval (.Name x p1) X.env)
   let iv ← holding [v,ov] (eval b X.env)
   standAt pos'
   holding [v,ov,iv] (setItem ov iv v)
   release [v,ov,iv] [])) (hs:swapsWithSole [.Subscript (.Name x p1) b pos'] e pos.line X.env=pure false) (hw:swappedStores [.Subscript (.Name x p1) b pos'] e X.env=pure none)
  (h1:(assignEach [.Subscript (.Name x p1) b pos'] X.env).map (·.2)=[assign (.Subscript (.Name x p1) b pos') X.env]):PSV G X (.Assign [.Subscript (.Name x p1) b pos'] e pos) (lR i ck ce) :=
 PS.weak (As he (AH (fu hN hv hd hcd) hk (B4 (ql hr)) ha) hs hw h1) fun D σ H ⟨Φ,η,out,s,e,k⟩=>by
  unfold lR at e
  obtain ⟨⟨mv,tv⟩,ev,e⟩:=Zx.mp e
  split at e
  ·rename_i l ht
   obtain ⟨⟨mk,tk⟩,ekk,e⟩:=Zx.mp e
   split at e
   ·rename_i hc
    obtain ⟨c1,c2,c3⟩:=hc
    cases e
    obtain ⟨w,g1,w2⟩:=s.rp _ _ ht
    have w3:=s.nd i _ ht
    refine ⟨Φ,η,mv,tv,s,ev,fun xv H1 Fv sm1 rv fv=>⟨w,g1,Φ,η,mk,tk,s.same sm1,ekk,fun kv H3 Fk sm3 rk fk=>?_⟩⟩
    have sm:aL H H3:=sm1.trans sm3
    have rv3:Rp G H3 xv tv Fv:=rv.same sm3
    have eF:=rv3.imm c2
    subst eF
    obtain ⟨a,ns,vs,ts,Fs,rfl,eF1,ha',hl,rfl,ra⟩:=fU w2
    rw [eF1] at w3
    obtain ⟨kk,rfl,ekk'⟩:=eI rk c1
    subst ekk'
    have ha3:H3 a=some (.dK (ns.zip vs)):=sm a _ ha'
    have m3:Mut (H3 a):=by rw [ha3];exact True.intro
    have nd:=List.nodup_cons.mp w3
    obtain ⟨ks',vs',ts',Fs',q1,q2,q3,q4,q5⟩:=mG (kk:=kk) rv3 hl (ra.same sm)
    have ln:(ns.zip vs).length < sizeLine:=by
     have:((ns.map aH).zip ts).length < 16777216:=c3
     rw [List.length_zip,Zk] at this
     rw [List.length_zip]
     have:=ra.len.1
     have:(sizeLine:Nat)=16777216:=rfl
     lia
    refine .inr ⟨a,_,rfl,wG.k ha3 ln,?_⟩
    have g:Chg G H (.ref a) (Φ i) (.dct 0 (dput ((ns.map aH).zip ts) (aH kk) tv)) (upd H3 a (.dK (putK (ns.zip vs) kk xv))) (a :: Fs'.flatten):=by
     rw [eF1,q1,q3]
     refine Chg.upd sm Zv m3 (.dct aF q2 (q4.off m3 fun z=>nd.1 (q5.subset z))) ?_ ?_
     ·exact List.nodup_cons.mpr ⟨fun z=>nd.1 (q5.subset z),nd.2.sublist q5⟩
     ·intro bb hb
      rcases Zg.mp hb with rfl | hb
      ·exact .inl Zv
      ·exact .inl (Zw _ (q5.subset hb))
    obtain ⟨z1,z2⟩:=s.mut ht g1 g
    exact k _ σ _ z1 z2
   ·cases e
  ·cases e
end
end VS
end
section
namespace DP
open PySem PySem.Spec PyProof.Rows
variable {prog:Program} {w:World} {A:Around} {E:Value->Shared->Prop}
theorem yS:typeLookup (.type "tuple") "keys" = pure none:=by rw [typeLookup_type,builtinLookup_eq_fast];kernel_rfl
theorem zy {h:Heap} {g:Array GenState} {d:Drawn} {tk:Nat} {os} {a:Addr} {xs:Array Value} {k:Nat} {sl:Array (Option Value)} {u:Tok} {Q:Value->Shared->Prop} (hx:h.get? a=some { cls:=.type "tuple",dict:=none,data:=.seq xs k,slots:=sl }) (hA:A.handled=none)
  (hE:∀ h' tk' e,Heap.NewExcOf h h' e "AttributeError" → E (.ref e) ⟨h',g,d,tk',os⟩):wpAny (model prog w) A (getAttrBy (.ref a) (.str "keys" u) false) Q E ⟨h,g,d,tk,os⟩:=by
 have hT:∀ tk',(⟨h,g,d,tk',os⟩:Shared).TypeIs (.ref a) "tuple" := fun _=>⟨_,hx,rfl⟩
 have f1:=sub_AttributeError
 have f3:=F.slot_tuple_getattribute.lookup
 have f4:=F.slot_tuple_getattribute.bind (.ref a)
 have f5:=am_tuple_getattr_none
 unfold getAttrBy
 repeat (any_goals (first | assumption | exact hT _ | ((with_reducible show wpAny _ _ (call (Value.builtin "tuple.__getattribute__") _ _) _ _ _);refine call_meets F.slot_tuple_getattribute (hT _) am_entry_tuple_getattribute (F.args_tuple_getattribute_2 _ _) (meets_getattribute_miss_tuple a xs k sl "keys" _ yS (by decide +kernel)) ⟨hx,hA,fun h' tk' e hx'=>?_⟩) | wp_step))
 obtain ⟨t',u',he⟩:=hx'.there
 show wpAny _ _ (getattributeRaised _ _ _ _ _ _ _) _ _ _
 unfold getattributeRaised
 repeat (any_goals (first | assumption | wp_step))
 exact hE _ _ _ hx'.of
end DP
end
section
namespace DP
open PySem PySem.Spec PyProof.Rows L2
variable {prog:Program} {w:World} {A:Around} {E:Value->Shared->Prop}
theorem sQ {h:Heap} {g:Array GenState} {d:Drawn} {tk:Nat} {os} {a:Addr} {xs:Array Value} {k:Nat} {sl:Array (Option Value)} {Q:Option Value->Shared->Prop} (hx:h.get? a=some { cls:=.type "tuple",dict:=none,data:=.seq xs k,slots:=sl }) (hA:A.handled=none)
  (hQ:∀ h' tk' e,Heap.NewExcOf h h' e "AttributeError" → Q none ⟨h',g,d,tk',os⟩):wpAny (model prog w) A (getAttr? (.ref a) "keys") Q E ⟨h,g,d,tk,os⟩:=by
 have f1:=sub_AttributeError
 unfold getAttr? getAttrBy?
 repeat (any_goals (first | assumption | (with_reducible refine zy hx (by assumption) fun h' tk' e hx'=>?_) | wp_step))
 obtain ⟨⟨oc,od,odt,osl⟩,vs,ge,ce,_,_⟩:=hx'.there
 dsimp only at ce
 subst ce
 repeat (any_goals (first | assumption | wp_step))
 exact hQ _ _ _ hx'
theorem ki:entryFor table "dict.update.loop" = some Builtin.«dict.update.loop» := entryFor_of_tree (by kernel_rfl)
theorem fS:plainId "dict.update.loop" = true:=by decide +kernel
section
variable {R:Result->Shared->Prop} {I:Addr} {fp wr:List Addr} {G:Array GenState->Array GenState->Prop} {n:Nat} {P:Nat->Value->Prop} {St:Nat->Shared->Prop}
theorem loop (W:WalksS prog w A.in1 I fp wr G n P St) (d:Addr) (hdf:d ∉ fp) (h0:Heap) (kv:Nat->Key×Value)
  (hP:∀ i v,P i v->∃ p m sl kx,v=.ref p/\h0.get? p=some { cls:=.type "tuple",dict:=none,data:=.seq #[kx,(kv i).2] m,slots:=sl }/\(aN prog w).is (kv i).1 kx=true/\p ∉ d :: wr) (hb:n<=sizeLine) :
  ∀ (k i:Nat) (s:Shared),n - i=k->i<=n->St i s->(∀ b o,b ∉ d :: wr->h0.get? b=some o->s.heap.get? b=some o)->s.heap.DictOf (aN prog w) d (merged [] ((List.range i).map kv)) →
   (∀ s',Moved (d :: wr) G s s'->s'.heap.DictOf (aN prog w) d (merged [] ((List.range n).map kv))->R (.ok (.ret .none)) s') →
   codeAny (model prog w) A (.builtin "dict.update.loop" ⟨[.ref d,.ref I,rawInt i,.none],[]⟩) R s:=by
 have hSw:d ∉ wr:=fun h=>hdf (W.sub _ h)
 have hsub:∀ b∈wr,b∈d :: wr:=fun b hb=>Zw _ hb
 intro k
 induction k with
 | zero =>
  intro i s hk hi hst hh hS hR
  have hin:i=n:=by lia
  subst hin
  refine codeAny_builtin ki ?_
  rw [Around.under_plainId fS _]
  show wpAny _ A.in1 (pyNext (.ref I) >>= _) _ _ s
  refine Zz (W.done s _ _ hst fun s' hm=>?_)
  show wpAny _ A.in1 (Builtin.Dict.addKeywords d [] >>= fun _=>ret Value.none) _ _ s'
  refine Zz (Zy ?_)
  exact Zy (hR s' (hm.mono hsub) (by
   obtain ⟨o,es,ep,ho,rest⟩:=hS
   exact ⟨o,es,ep,hm.heap d _ hSw ho,rest⟩))
 | succ k ih =>
  intro i s hk hi hst hh hS hR
  have hlt:i < n:=by lia
  refine codeAny_builtin ki ?_
  rw [Around.under_plainId fS _]
  show wpAny _ A.in1 (pyNext (.ref I) >>= _) _ _ s
  refine Zz (W.item i s _ _ hlt hst fun v s' hPv hst' hm=>?_)
  obtain ⟨p,m,sl,kx,rfl,hp,hkx,hpn⟩:=hP i v hPv
  have hp':s'.heap.get? p=some { cls:=.type "tuple",dict:=none,data:=.seq #[kx,(kv i).2] m,slots:=sl }:=hm.heap p _ (fun z=>hpn (hsub p z)) (hh p _ hpn hp)
  have hS':s'.heap.DictOf (aN prog w) d (merged [] ((List.range i).map kv)):=by
   obtain ⟨o,es,ep,ho,rest⟩:=hS
   exact ⟨o,es,ep,hm.heap d _ hSw ho,rest⟩
  show wpAny _ A.in1 (holding [Value.ref p] _ >>= _) _ _ s'
  refine Zz (wpAny_holding ?_)
  have ty:s'.TypeIs (.ref p) "tuple" := ⟨_,hp',rfl⟩
  refine Zz (thn (Q:=fun r s2=>r=[kx,(kv i).2]/\s2=s') ?pair fun r s2 hr=>?rest)
  case pair =>
   refine wpAny_tryCatch ?_
   unfold Builtin.Dict.pairItems
   repeat (any_goals (first | assumption | wp_step))
   exact ⟨rfl,rfl⟩
  case rest =>
   obtain ⟨rfl,rfl⟩:=hr
   dsimp only
   refine wpAny_holding ?_
   refine wpAny_dictSet_pairs hkx hS' (fun h' dd sb=>?_) (by have:=merged_length_le (K:=Key) [] ((List.range i).map kv);simp at this;lia)
   have e1:((i:Int)+1)=((i+1:Nat):Int):=by lia
   rw [e1]
   have dd':h'.DictOf (aN prog w) d (merged [] ((List.range (i+1)).map kv)):=by
    rw [List.range_succ,List.map_append,show merged ([]:List (Key×Value)) ((List.range i).map kv++[i].map kv)=stored (merged [] ((List.range i).map kv)) (kv i).1 (kv i).2 by unfold merged;rw [List.foldl_append];rfl]
    exact dd
   refine Zy ⟨plainId_quiet fS _,ih (i+1) _ (by lia) hlt (W.frame _ s2 _ _ hst' (Nat.le_succ _) fun b hb o e=>?_) (fun b o hb e=>?_) dd' fun s'' hm'' hS''=>?_⟩
   ·rw [sb.2 b (fun h:b=d=>hdf (by rw [← h];exact hb))];exact e
   ·rw [sb.2 b (fun h:b=d=>hb (by rw [h];exact Zv))]
    exact hm.heap b _ (fun z=>hb (hsub b z)) (hh b o hb e)
   ·refine hR s'' (Moved.trans W.gtrans ((hm.mono hsub).then_heap (Nat.le_succ _) fun b o hb e=>?_) hm'') hS''
    rw [sb.2 b (fun h:b=d=>hb (by rw [h];exact Zv))];exact e
end
end DP
end
section
namespace DP
open PySem PySem.Spec PyProof.Rows L2
variable {prog:Program} {w:World} {A:Around} {E:Value->Shared->Prop} {s:Shared}
theorem jP:mroOf (.type "dict")=pure [.type "dict",.type "object"]:=by rw [mroOf_type];kernel_rfl
theorem jq:typeLookup (.type "dict") "__new__" = pure (some (.builtin "dict.__new__")):=by rw [typeLookup_type,builtinLookup_eq_fast];kernel_rfl
theorem nA:TypeCalled "dict" "dict.__new__" "dict.__init__" :=
 ⟨by decide +kernel,by decide +kernel,⟨_,_,jP⟩,madeBy_type jP jq (by decide +kernel),by decide +kernel,by rw [isSubtype_type];kernel_rfl,F.slot_dict_init⟩
theorem jh (a:Value):checkTypeCall "dict" ⟨[a],[]⟩=pure ():=by kernel_rfl
theorem jN (a:Value):checkBuiltinCall "dict.__new__" ⟨[.type "dict",a],[]⟩=pure ():=by kernel_rfl
theorem j3:entryFor table "dict.__new__" = some Builtin.«dict.__new__» := entryFor_of_tree (by kernel_rfl)
theorem gN:plainId "dict.__new__" = true:=by decide +kernel
theorem kQ:isSubtype (.type "dict") (.type "dict")=pure true:=by rw [isSubtype_type];kernel_rfl
theorem kN (a:Value) {Q₁:Value->Shared->Prop} (h:Q₁ (.ref s.heap.objs.size) { s with heap:=s.heap.push { cls:=.type "dict",data:=.dict #[] } }) :
  codeAny (model prog w) A (.call (.builtin "dict.__new__") ⟨[.type "dict",a],[]⟩) (wants Q₁ E) s:=by
 refine codeAny_of_tree (Zz (m:=checkBuiltinCall "dict.__new__" ⟨[.type "dict",a],[]⟩) (wpAny_of_eq (jN a) (Zy ⟨plainId_quiet gN _,codeAny_builtin j3 ?_⟩)))
 rw [Around.under_plainId gN]
 have own:=kQ
 have mro:=jP
 cases s
 unfold Builtin.«dict.__new__»
 wp_walk
 exact h
theorem sA {a:Addr} {its:Array Value} {m0:Nat} {sl0:Array (Option Value)} {kv:Nat->Key×Value} {Q:Value->Shared->Prop} (hh:A.handled=none) (ht:s.heap.get? a=some { cls:=.type "tuple",dict:=none,data:=.seq its m0,slots:=sl0 }) (hz:its.size<=sizeLine)
  (hp:∀ (i:Nat) (v:Value),its[i]?=some v->∃ p m sl kx,v=.ref p/\s.heap.get? p=some { cls:=.type "tuple",dict:=none,data:=.seq #[kx,(kv i).2] m,slots:=sl }/\(aN prog w).is (kv i).1 kx=true)
  (h:∀ (h':Heap) (tk:Nat),h'.DictOf (aN prog w) s.heap.objs.size (merged [] ((List.range its.size).map kv))->(∀ b o,s.heap.get? b=some o->h'.get? b=some o)->Q (.ref s.heap.objs.size) { s with heap:=h',toks:=tk }) :
  wpAny (model prog w) A (call (.type "dict") [.ref a]) Q E s:=by
 refine callType_codes (Q₁:=fun obj s₁=>obj=.ref s.heap.objs.size/\s₁={ s with heap:=s.heap.push { cls:=.type "dict",data:=.dict #[] } }) nA (jh _) F.entry_dict_init (kN _ ⟨rfl,rfl⟩) fun obj s₁ hq=>?_
 obtain ⟨rfl,rfl⟩:=hq
 have ty:Shared.TypeIs { s with heap:=s.heap.push { cls:=.type "dict",data:=.dict #[] } } (.ref s.heap.objs.size) "dict" := ⟨_,Zo _ rfl,rfl⟩
 refine ⟨ty,F.args_dict_init_2 _ _,?_⟩
 obtain ⟨hp0,g,d,tk,os⟩:=s
 have at1:=Zu { cls:=.type "dict",data:=.dict #[] } ht
 unfold Builtin.«dict.__init__» Builtin.Dict.updateCommon Builtin.Dict.updateFrom
 generalize eP:pyIter=itr
 generalize eG:getAttr?=ga
 repeat (any_goals (first | assumption | wp_step))
 subst eG
 dsimp only at *
 refine sQ at1 (by simp [hh]) fun h1 tk1 e ne=>?_
 simp only [Option.isNone_none,if_true]
 refine Zz (wpAny_rule ?_)
 subst eP
 have at2:=ne.keeps _ _ at1
 have dat:=ne.keeps hp0.objs.size { cls:=.type "dict",data:=.dict #[] } (Zo _ rfl)
 have dlt:=Zm dat
 have lt0:∀ {b:Addr} {o:Obj},hp0.get? b=some o->b < hp0.objs.size:=fun e=>Zm e
 have kp1:∀ b o,hp0.get? b=some o->h1.get? b=some o:=fun b o e=>ne.keeps _ _ (Zu _ e)
 have tup:h1.IsTuple a its:=⟨_,at2,rfl,m0,rfl⟩
 refine Zz (wpAny_pyIter_tuple tup (Zy ⟨plainId_quiet fS _,?_⟩))
 have alt:=lt0 ht
 have D0:(h1.push { cls:=.type "tuple_iterator",data:=.fields #[.ref a,.int 0 0] }).DictOf (aN prog w) hp0.objs.size (merged [] ((List.range 0).map kv)):=by
  obtain ⟨o,es,ep,ho,rest⟩:=(Heap.DictOf.new (knd:=aN prog w) hp0)
  exact ⟨o,es,ep,Zu _ (ne.keeps _ _ ho),rest⟩
 refine loop (A:=A.in1) ((Walks.tuple (by simp [hh]) h1.objs.size a (Zn (Nat.lt_trans alt dlt)) its).toS) hp0.objs.size (by simp only [Zg,List.not_mem_nil,or_false,not_or];exact ⟨Zn dlt,Nat.ne_of_gt alt⟩) hp0 kv (fun i v hv=>?_) hz its.size 0 _ (by lia) (Nat.zero_le _) ?_ (fun b o hb e=>Zu _ (kp1 b o e)) D0 fun s' mv dd=>?_
 ·obtain ⟨p,m,sl,kx,rfl,g1,g2⟩:=hp i v hv
  have:=lt0 g1
  exact ⟨p,m,sl,kx,rfl,g1,g2,by simp only [Zg,List.not_mem_nil,or_false,not_or];exact ⟨Zn this,Zn (Nat.lt_trans this dlt)⟩⟩
 ·exact ⟨⟨_,Zo _ rfl,rfl,rfl⟩,tup.push _⟩
 ·obtain ⟨h',g',d',tk',os'⟩:=s'
  have e1:g'=g:=mv.gens
  have e2:d'=d:=mv.drawn
  have e3:os'=os:=mv.os
  subst e1 e2 e3
  refine ⟨rfl,h h' tk' dd fun b o e=>mv.heap b o (fun hin=>?_) (Zu _ (kp1 b o e))⟩
  have:=lt0 e
  simp only [Zg,List.not_mem_nil,or_false] at hin
  rcases hin with q | q
  ·exact Zn this q
  ·exact Zn (Nat.lt_trans this dlt) q
end DP
end
section
namespace L2
open PySem PySem.Spec PyProof.Rows
section
variable {X:Cx}
noncomputable abbrev DPr:=Addr×Key×V
theorem xZ {pins:List (Addr×Obj)} {σ:St} {H:Hp} {s:Shared} (I:Inv X pins σ H s) {q:DPr} (h:H q.1=some (.tup [kV q.2.1,q.2.2])):∃ vx m sl kx,RelV q.2.2 vx/\s.heap.get? q.1=some { cls:=.type "tuple",dict:=none,data:=.seq #[kx,vx] m,slots:=sl }/\(aN X.prog X.w).is q.2.1 kx=true:=by
 obtain ⟨_,its,rv,nd,⟨oc,od,odt,osl⟩,g,gc,n,gd⟩:=(show aS X.prog X.w H s.heap q.1 (.tup [kV q.2.1,q.2.2]) from I.hok _ _ h)
 have hd:=nd _ g
 dsimp only at gc gd hd
 subst gc gd hd
 obtain ⟨kx,vx,rfl,r1,r2⟩:=vals2 rv
 exact ⟨vx,n,osl,kx,r2,g,jb r1⟩
theorem oP {pins:List (Addr×Obj)} {σ:St} {H:Hp} {s:Shared} (I:Inv X pins σ H s):∀ (ps:List DPr),(∀ q∈ps,H q.1=some (.tup [kV q.2.1,q.2.2])) →
  ∃ kvs:List (Key×Value),Paired (fun (q:DPr) (kv:Key×Value)=>q.2.1=kv.1/\RelV q.2.2 kv.2/\∃ m sl kx,s.heap.get? q.1=some { cls:=.type "tuple",dict:=none,data:=.seq #[kx,kv.2] m,slots:=sl }/\(aN X.prog X.w).is kv.1 kx=true) ps kvs
 | [],_=>⟨[],.nil⟩
 | q :: ps,h=>by
  obtain ⟨vx,m,sl,kx,r,g,k⟩:=xZ I (h q Zv)
  obtain ⟨kvs,p⟩:=oP I ps fun x hx=>h x (Zw _ hx)
  exact ⟨(q.2.1,vx) :: kvs,.cons ⟨rfl,r,m,sl,kx,g,k⟩ p⟩
theorem lr {R:DPr->Key×Value->Prop} (hR:∀ q kv,R q kv->q.2.1=kv.1/\RelV q.2.2 kv.2):∀ {ps:List DPr} {kvs:List (Key×Value)},Paired R ps kvs->∀ {a:List (Key×V)} {b:List (Key×Value)},KV a b->KV (ps.foldl (fun acc q=>putK acc q.2.1 q.2.2) a) (merged b kvs)
 | _,_,.nil,_,_,r=>r
 | _,_,.cons (a:=q) (b:=kv) h t,a,b,r=>by
  obtain ⟨e1,e2⟩:=hR _ _ h
  have:=lr hR t (r.put kv.1 e2)
  simp only [List.foldl_cons,merged]
  rw [e1]
  exact this
theorem oM:∀ (ps:List DPr) (a:List (Key×V)),(ps.foldl (fun acc q=>putK acc q.2.1 q.2.2) a).length<=a.length+ps.length
 | [],a=>Zt _
 | q :: ps,a=>by
  have h1:=oM ps (putK a q.2.1 q.2.2)
  have h2:=dZ a q.2.1 q.2.2
  simp only [List.foldl_cons,List.length_cons]
  lia
theorem Paired.at_ {α β:Type} {R:α->β->Prop}:∀ {l:List α} {m:List β},Paired R l m->∀ (i:Nat) {a:α},l[i]?=some a->∃ b,m[i]?=some b/\R a b
 | _,_,.nil,i,a,h=>by simp at h
 | _,_,.cons r t,0,a,h=>by simp at h;subst h;exact ⟨_,rfl,r⟩
 | _,_,.cons r t,i+1,a,h=>by simpa using Paired.at_ t i (by simpa using h)
theorem pK (hc:X.calm=true):dq X (.type "dict") (fun xs H Q=>∃ (p:Addr) (ps:List DPr),xs=[.ref p]/\H p=some (.tup (ps.map fun q=>V.ref q.1))/\(∀ q∈ps,H q.1=some (.tup [kV q.2.1,q.2.2])) ∧
  ∀ l,H l=none->Q (.ref l) (upd H l (.dK (ps.foldl (fun acc q=>putK acc q.2.1 q.2.2) [])))):=by
 intro pins s σ H xs us Q I rx h
 obtain ⟨p,ps,rfl,hp,hq,q⟩:=h
 obtain ⟨u,rfl,ru⟩:=rx.one
 cases ru
 obtain ⟨hz,its,rv,nd,⟨oc,od,odt,osl⟩,g,gc,n,gd⟩:=(show aS X.prog X.w H s.heap p (.tup (ps.map fun q=>V.ref q.1)) from I.hok _ _ hp)
 have hd:=nd _ g
 dsimp only at gc gd hd
 subst gc gd hd
 obtain ⟨kvs,pr⟩:=oP I ps hq
 have l1:its.length=ps.length:=by have:=rv.length;simpa using this.symm
 have l2:kvs.length=ps.length:=pr.length.symm
 rw [Zk] at hz
 have hkv:(List.range its.toArray.size).map (fun i=>(kvs[i]?).getD (.inl 0,.none))=kvs:=by
  apply List.ext_getElem?
  intro i
  rw [List.getElem?_map]
  by_cases hi:i < kvs.length
  ·rw [List.getElem?_range (by simp;lia),Zd hi]
   simp [hi]
  ·rw [List.getElem?_eq_none (by simp;lia),List.getElem?_eq_none (by lia)]
   rfl
 refine DP.sA (kv:=fun i=>(kvs[i]?).getD (.inl 0,.none)) (I.ok.hd hc) g (by simp;lia) (fun i v hv=>?_) fun h' tk dd kp=>?_
 ·rw [List.getElem?_toArray] at hv
  have hi:i < ps.length:=by have:=(List.getElem?_eq_some_iff.mp hv).1;lia
  obtain ⟨w,e1,e2⟩:=Paired.at_ rv i (a:=V.ref ps[i].1) (by rw [List.getElem?_map,Zd hi];rfl)
  rw [hv] at e1
  cases e1
  obtain ⟨kv,e3,e4,_,m,sl,kx,g1,g2⟩:=Paired.at_ pr i (Zd hi)
  rw [e3]
  exact ⟨ps[i].1,m,sl,kx,e2,g1,g2⟩
 ·rw [hkv] at dd
  have rel:=lr (fun _ _ h=>⟨h.1,h.2.1⟩) pr (.nil:KV [] [])
  have ln:=oM ps []
  exact ⟨.ref s.heap.objs.size,_,I.laid (t':=tk) kp (Zt _) (mZ (by simp at ln;lia) (beq_eq_false_iff_ne.mpr (Ne.symm (Zn I.big))) rel dd),rfl,q _ (I.hok.fresh (Zt _))⟩
end
end L2
end
section
namespace VS
open PySem PySem.Spec PyProof.Rows L2
noncomputable def mw:List T->Option (List (T×T))
 | []=>some []
 | .tup [k,v] :: r=>if eO k/\imm v then (mw r).map ((k,v) :: ·) else none
 | _=>none
noncomputable def iq:List Val->Option Val
 | [(_,.tup l)]=>(mw l).map fun ps=>(.fr,.dct 0 (ps.foldl (fun d q=>dput d q.1 q.2) []))
 | _=>none
section
variable {G:Gx} {X:Cx} {e:Expr} {cs:Exs} {p pos:Pos}
theorem xB {t:T} {l:List T} {ps:List (T×T)} (h:mw (t :: l)=some ps):∃ k v qs,t=.tup [k,v]/\eO k=true/\imm v=true/\mw l=some qs/\ps=(k,v) :: qs:=by
 unfold mw at h
 split at h
 ·rename_i hh
  cases hh
 ·rename_i k v r hh
  cases hh
  split at h
  ·rename_i c
   obtain ⟨qs,e1,e2⟩:=Zq.mp h
   exact ⟨k,v,qs,rfl,c.1,c.2,e1,e2.symm⟩
  ·cases h
 ·cases h
theorem oR {H:Hp}:∀ {ts:List T} {ws:List V} {Gs:List (List Addr)} {qs:List (T×T)},RpL G H ws ts Gs->mw ts=some qs →
  ∃ ps:List DPr,ws=ps.map (fun q=>V.ref q.1)/\(∀ q∈ps,H q.1=some (.tup [kV q.2.1,q.2.2]))/\Paired (fun (q:DPr) (x:T×T)=>x.1=aH q.2.1/\Rp G H q.2.2 x.2 []) ps qs
 | [],_,_,qs,r,h=>by
  cases r
  cases (show some ([]:List (T×T))=some qs from h)
  exact ⟨[],rfl,fun q hq=>by simp at hq,.nil⟩
 | t :: ts,_,_,qs,r,h=>by
  obtain ⟨k,v,qs',rfl,hk,hv,h2,rfl⟩:=xB h
  cases r with
  | cons r1 r2 =>
   obtain ⟨ps,e1,e2,e3⟩:=oR r2 h2
   obtain ⟨b,vs,Fs,rfl,hb,q⟩:=Rp.tup_inv' r1
   cases q with
   | cons rk q =>
    cases q with
    | cons rv q =>
     cases q
     obtain ⟨kk,rfl,ek⟩:=eI rk hk
     have ei:=rv.imm hv
     subst ei
     refine ⟨(b,kk,_) :: ps,by rw [e1];rfl,fun x hx=>?_,.cons ⟨ek,rv⟩ e3⟩
     rcases Zg.mp hx with rfl | hx
     ·exact hb
     ·exact e2 x hx
theorem pb {H:Hp}:∀ {ps:List DPr} {qs:List (T×T)},Paired (fun (q:DPr) (x:T×T)=>x.1=aH q.2.1/\Rp G H q.2.2 x.2 []) ps qs->∀ {ns:List Key} {vs:List V} {ts:List T} {Fs:List (List Addr)},ns.length=vs.length->RpL G H vs ts Fs->Fs.flatten=[] →
  ∃ (ns':List Key) (vs':List V) (ts':List T) (Fs':List (List Addr)),ps.foldl (fun acc q=>putK acc q.2.1 q.2.2) (ns.zip vs)=ns'.zip vs'/\qs.foldl (fun d q=>dput d q.1 q.2) ((ns.map aH).zip ts)=(ns'.map aH).zip ts'/\ns'.length=vs'.length/\RpL G H vs' ts' Fs'/\Fs'.flatten=[]
 | _,_,.nil,ns,vs,ts,Fs,hl,r,hF=>⟨ns,vs,ts,Fs,rfl,rfl,hl,r,hF⟩
 | _,_,.cons (a:=q) (b:=x) h t,ns,vs,ts,Fs,hl,r,hF=>by
  obtain ⟨ks',vs',ts',Fs',q1,q2,q3,q4,q5⟩:=mG (kk:=q.2.1) h.2 hl r
  rw [hF] at q5
  have hF':Fs'.flatten=[]:=List.sublist_nil.mp q5
  obtain ⟨n2,v2,t2,F2,a1,a2,a3,a4,a5⟩:=pb t q2 q4 hF'
  refine ⟨n2,v2,t2,F2,?_,?_,a3,a4,a5⟩
  ·rw [List.foldl_cons,q1];exact a1
  ·rw [List.foldl_cons,h.1,q3];exact a2
theorem tZ:fA G (fun xs H Q=>∃ (p:Addr) (ps:List DPr),xs=[.ref p]/\H p=some (.tup (ps.map fun q=>V.ref q.1))/\(∀ q∈ps,H q.1=some (.tup [kV q.2.1,q.2.2])) ∧
  ∀ l,H l=none->Q (.ref l) (upd H l (.dK (ps.foldl (fun acc q=>putK acc q.2.1 q.2.2) [])))) iq:=by
 intro Φ η H0 H l vs Fs m t Q A e k
 unfold iq at e
 split at e
 ·rename_i mx ts
  obtain ⟨qs,e1,e2⟩:=Zq.mp e
  cases e2
  obtain ⟨v,F,rfl,rfl,r⟩:=(show RpL G H vs [.tup ts] Fs from A.rp).one
  obtain ⟨b,ws,Gs,rfl,hb,q⟩:=Rp.tup_inv' r
  obtain ⟨ps,rfl,hps,pr⟩:=oR q e1
  refine ⟨b,ps,rfl,hb,hps,fun l hl=>?_⟩
  obtain ⟨ns,us,ts',Fs',a1,a2,a3,a4,a5⟩:=pb pr (ns:=[]) (vs:=[]) (ts:=[]) (Fs:=[]) rfl .nil rfl
  have a1':ps.foldl (fun acc q=>putK acc q.2.1 q.2.2) []=ns.zip us:=a1
  have a2':qs.foldl (fun d q=>dput d q.1 q.2) []=(ns.map aH).zip ts':=a2
  rw [a1']
  have sm:aL H (upd H l (.dK (ns.zip us))):=bH hl
  refine k _ _ (l :: Fs'.flatten) sm (by rw [a2'];exact .dct aF a3 (a4.same sm)) ?_
  rw [a5]
  exact Fp.new (A.same.free hl) (by simp) Fp.nil
 ·cases e
theorem zA:bootBuiltins ("dict" : Str)=some (.type "dict"):=by decide +kernel
theorem ye (hm:X.mg "dict" = none) (ha:PVs G X [e] cs) (hg:Gl X "dict" := by rfl) (hc:X.calm=true:=by rfl) (he:starEach [e] X.env=(false,eval e X.env) :: starEach [] X.env:=by rfl):PV G X (.Call (.Name "dict" p) [e] [] pos) (eN iq cs) :=
 g7 (pK hc) tZ hg hm zA ha (he:=he) (hpl:=rfl)
@[simp] noncomputable def EB:List Val->Option Val
 | [(_,.int i)]=>some (.fr,.int i)
 | [(_,.bl b)]=>some (.fr,.int (if b then 1 else 0))
 | _=>none
end
end VS
end
section
namespace L2
open PySem PySem.Spec PyProof.Rows
section
variable {X:Cx} {pins:List (Addr×Obj)} {σ:St} {H:Hp} {s:Shared}
end
theorem yB {k:Key} {v:Value} (h:jc k v=true):RelV (kV k) v:=by
 rcases bt h with ⟨i,t,rfl,rfl⟩ | ⟨x,t,rfl,rfl⟩
 ·exact ⟨t,rfl⟩
 ·exact ⟨t,rfl⟩
theorem tB {P:Program} {w:World} {es:List DictEntry} {m:List (Key×Value)} (r:Pairs (aN P w) es m) {i:Nat} {e:DictEntry} (h:es[i]?=some e):∃ q,m[i]?=some q/\jc q.1 e.key=true:=by
 induction r generalizing i with
 | nil=>simp at h
 | @cons e' kv es kvs h1 h2 _ ih =>
  cases i with
  | zero =>
   simp at h
   subst h
   exact ⟨kv,rfl,h1⟩
  | succ i=>simpa using ih (by simpa using h)
theorem Ay {l:List (Key×V)} {m:List (Key×Value)} (r:KV l m) {i:Nat} {q:Key×Value} (h:m[i]?=some q):∃ p,l[i]?=some p/\p.1=q.1:=by
 induction r generalizing i with
 | nil=>simp at h
 | @cons p' q' ps qs hq t ih =>
  cases i with
  | zero=>simp at h;subst h;exact ⟨p',rfl,hq.1⟩
  | succ i=>simpa using ih (by simpa using h)
section
variable {X:Cx} {tg:Expr} {pos:Pos}
end
end L2
namespace VS
open PySem PySem.Spec PyProof.Rows L2
noncomputable def sca:T->Bool
 | .non=>true
 | .bl _=>true
 | .int _=>true
 | .str _=>true
 | _=>false
theorem xa {G:Gx} {H H':Hp} {v:V} {t:T} {F:List Addr} (h:sca t=true) (r:Rp G H v t F):F=[]/\Rp G H' v t []:=by
 cases r with
 | non=>exact ⟨rfl,.non⟩
 | bl b=>exact ⟨rfl,.bl b⟩
 | int i=>exact ⟨rfl,.int i⟩
 | str s ok=>exact ⟨rfl,.str s ok⟩
 | _=>cases h
section
variable {G:Gx} {X:Cx} {p1 p2 pos pos' spos:Pos} {sc:Scope} {elt:Expr} {ce:Ex}
end
section
variable {G:Gx} {X:Cx} {a b c:Expr} {ca cb cc:Ex} {pos:Pos}
end
end VS
end
section
namespace L2
open PySem PySem.Spec PyProof.Rows
noncomputable def pick {α:Type} (l:List α) (is:List Nat):List α:=is.filterMap (l[·]?)
noncomputable def gI {α:Type} (l:List α) (lo hi st:Option Int):List α:=pick l (sliceRange (sliceBounds lo hi st l.length).1 (sliceBounds lo hi st l.length).2.1 (sliceBounds lo hi st l.length).2.2)
theorem vS {α:Type} (l:List α) (is:List Nat) {x:α} (h:x∈pick l is):x∈l:=by
 obtain ⟨i,_,e⟩:=List.mem_filterMap.mp h
 exact List.mem_of_getElem? e
theorem wx {α β:Type} (f:α->β) (l:List α) (is:List Nat):pick (l.map f) is=(pick l is).map f:=by
 unfold pick
 rw [List.map_filterMap]
 congr 1
 funext i
 rw [List.getElem?_map]
theorem ox {α β:Type} (f:α->β) (l:List α) (lo hi st:Option Int):gI (l.map f) lo hi st=(gI l lo hi st).map f:=by
 unfold gI
 rw [Zk,wx]
theorem vq {α:Type} (l:List α) (lo hi st:Option Int):(gI l lo hi st).length<=l.length:=by
 have h:=slicePick_size_le (l.map fun _=>Value.none).toArray lo hi st
 have e:(slicePick (l.map fun _=>Value.none).toArray lo hi st).size=(gI (l.map fun _=>Value.none) lo hi st).length:=by
  unfold slicePick gI pick
  simp only [List.size_toArray,List.getElem?_toArray]
 rw [e,ox,Zk,List.size_toArray,Zk] at h
 exact h
theorem rO {xs:List V} {us:List Value} (r:aK xs us) (is:List Nat):aK (pick xs is) (pick us is):=by
 induction is with
 | nil=>exact .nil
 | cons i is ih =>
  unfold pick at ih ⊢
  rw [List.filterMap_cons,List.filterMap_cons]
  cases hx:xs[i]? with
  | none =>
   have:us[i]?=none:=by
    rw [List.getElem?_eq_none_iff] at hx ⊢
    rw [← r.length]
    exact hx
   rw [this]
   exact ih
  | some x =>
   obtain ⟨u,hu,ru⟩:=r.get hx
   rw [hu]
   exact .cons ru ih
section
variable {X:Cx} {e st:Expr} {lo hi:Option Expr} {te:TE} {tl th ts:TO} {pos p2:Pos}
noncomputable def Dx (X:Cx) (r:V->Option Int->Option Int->Option Int->Hp->VK->Prop):Prop :=
 ∀ (pins:List (Addr×Obj)) (s:Shared) (σ:St) (H:Hp) (x:V) (v vl vu vs:Value) (lo hi st:Option Int) (sl:Addr) (Q:VK),Inv X pins σ H s->RelV x v->s.heap.IsSliceOf sl vl vu vs->IsPart vl lo->IsPart vu hi->IsPart vs st->r x lo hi st H Q →
  ∃ T id,typeLookup (.type T) "__getitem__" = pure (some (.builtin id))/\s.TypeIs v T/\wpAny (model X.prog X.w) X.A (getItem v (.ref sl)) (EP X pins σ Q) X.xe s
noncomputable def Er (r:V->Option Int->Option Int->Option Int->Hp->VK->Prop) (te:TE) (tl th ts:TO):TE:=fun σ H Q=>te σ H fun x H1=>tl σ H1 fun l H2=>th σ H2 fun u H3=>ts σ H3 fun c H4=>r x l u c H4 Q
theorem rL {r:V->Option Int->Option Int->Option Int->Hp->VK->Prop} (hr:Dx X r) (he:PE X e te) (hl:PO X lo tl) (hu:PO X hi th) (hs:PO X (some st) ts):PE X (.Subscript e (.Slice lo hi (some st) p2) pos) (Er r te tl th ts):=by
 intro pins s σ H Q I h
 refine Subscript_ (thn (he pins s σ H _ I h) fun v s1 ⟨x,H1,I1,r1,q1⟩=>?_)
 refine wpAny_Slice (thn (hl pins s1 σ H1 _ I1 q1) fun vl s2 ⟨l,H2,I2,pl,q2⟩=>thn (hu pins s2 σ H2 _ I2 q2) fun vu s3 ⟨u,H3,I3,pu,q3⟩=>thn (hs pins s3 σ H3 _ I3 q3) fun vs s4 ⟨c,H4,I4,ps,q4⟩=>?_)
 have I5:Inv X pins σ H4 { s4 with heap:=s4.heap.push { cls:=.type "slice",data:=.fields #[vl,vu,vs] } }:=I4.kept (t':=s4.toks) fun b ob q=>Zu _ q
 obtain ⟨T,id,hT,ht,hg⟩:=hr pins { s4 with heap:=s4.heap.push { cls:=.type "slice",data:=.fields #[vl,vu,vs] } } σ H4 x v vl vu vs l u c s4.heap.objs.size Q I5 r1 (Heap.IsSliceOf.new ..) pl pu ps q4
 show wpAny (model X.prog X.w) X.A (subscriptTail e (.Slice lo hi (some st) p2) v (.ref s4.heap.objs.size)) (EP X pins σ Q) X.xe { s4 with heap:=s4.heap.push { cls:=.type "slice",data:=.fields #[vl,vu,vs] } }
 exact tail_any (ops:=[v,.ref s4.heap.objs.size]) ht hT hg (by with_unfolding_all rfl)
noncomputable def Df (K:PySem.W.Frag):V->Option Int->Option Int->Option Int->Hp->VK->Prop:=fun x lo hi st H Q=>∃ a xs,x=.ref a/\SqL K H a xs/\st ≠ some 0/\∀ p,H p=none->Q (.ref p) (upd H p (.lst (gI xs lo hi st)))
theorem vA:Dx X (Df X.K):=by
 intro pins s σ H x v vl vu vs lo hi st sl Q I rx hs pl pu ps h
 obtain ⟨a,xs,rfl,hx,h0,q⟩:=h
 cases rx
 obtain ⟨its,r,ht,hz⟩:=I.list hx
 have hlen:=r.length
 refine ⟨"list",_,slot_list_getitem.lookup,ht.isList.typeIs,?_⟩
 refine wpAny_getItem_list_slice ht.isList hs pl pu ps h0 ?_ (by rw [List.size_toArray] <;> lia)
 have e:slicePick its.toArray lo hi st=(gI its lo hi st).toArray:=by
  unfold slicePick gI pick
  simp only [List.size_toArray,List.getElem?_toArray]
 rw [e]
 refine ⟨.ref s.heap.objs.size,_,I.laid (t':=s.toks) (o:=.lst (gI xs lo hi st)) (fun b ob q=>Zu _ q) (Zt _) ?_,rfl,q _ (I.hok.fresh (Zt _))⟩
 refine ⟨Nat.le_trans (vq xs lo hi st) hz,_,0,?_,Zo _ rfl⟩
 unfold gI
 rw [← hlen]
 exact rO r _
end
end L2
namespace VS
open PySem PySem.Spec PyProof.Rows L2
section
variable {G:Gx} {X:Cx} {a:Expr} {ca:Ex} {pos:Pos}
noncomputable def sl3 (x:Val) (l h c:Option Int):Option Val:=match x with
 | (_,.lst ts)=>if ts.all sca/\c ≠ some 0 then some (.fr,.lst (gI ts l h c)) else none
 | _=>none
noncomputable def se (a:Ex) (lo hi st:Option Ex) (η:VS.Env):Option Val:=(a η).bind fun x=>(ky lo η).bind fun l=>(ky hi η).bind fun h=>(ky st η).bind fun c=>sl3 x l h c
theorem zx {H H':Hp} {vs:List V} {ts:List T} {Fs:List (List Addr)} (r:RpL G H vs ts Fs) (hs:ts.all sca=true) (is:List Nat):RpL G H' (pick vs is) (pick ts is) (List.replicate (pick ts is).length []):=by
 induction is with
 | nil=>exact .nil
 | cons i is ih =>
  unfold pick at ih ⊢
  rw [List.filterMap_cons,List.filterMap_cons]
  cases hx:ts[i]? with
  | none =>
   have:vs[i]?=none:=by
    rw [List.getElem?_eq_none_iff] at hx ⊢
    rw [r.len.1]
    exact hx
   rw [this]
   exact ih
  | some t =>
   obtain ⟨v,F,hv,_,rv⟩:=r.get i hx
   rw [hv]
   exact .cons (xa (List.all_eq_true.mp hs t (List.mem_of_getElem? hx)) rv).2 ih
theorem uT {st:Expr} {lo hi:Option Expr} {cl ch cs:Option Ex} {p2:Pos} (ha:PV G X a ca) (hl:PVO G X lo cl) (hh:PVO G X hi ch) (hst:PVO G X (some st) cs) (hK:X.K=G.K:=by rfl):PV G X (.Subscript a (.Slice lo hi (some st) p2) pos) (se ca cl ch cs) :=
 PE.weak (rL vA ha hl hh hst) fun σ H Q ⟨Φ,η,m,t,s,e,k⟩=>by
  unfold se at e
  obtain ⟨⟨mx,x⟩,ea,w1⟩:=Zx.mp e
  obtain ⟨l,el,w2⟩:=Zx.mp w1
  obtain ⟨h,eh,w3⟩:=Zx.mp w2
  obtain ⟨c,ec,w4⟩:=Zx.mp w3
  clear e w1 w2 w3
  refine ⟨Φ,η,mx,x,s,ea,fun v H1 F e1 r1 f1=>⟨Φ,η,l,s.same e1,el,fun H2 e2=>⟨Φ,η,h,(s.same e1).same e2,eh,fun H3 e3=>⟨Φ,η,c,((s.same e1).same e2).same e3,ec,fun H4 e4=>?_⟩⟩⟩⟩
  have e04:aL H H4:=((e1.trans e2).trans e3).trans e4
  have r4:=((r1.same e2).same e3).same e4
  unfold sl3 at w4
  split at w4
  ·rename_i m' ts q
   cases q
   split at w4
   ·rename_i hc
    cases w4
    obtain ⟨a',vs,Fs,rfl,rfl,ha',ra⟩:=r4.lst_inv
    refine ⟨a',vs,rfl,by rw [hK];exact SqL.of ha',hc.2,fun p hp=>?_⟩
    have fl:(List.replicate (gI ts l h c).length ([]:List Addr)).flatten=[]:=by simp
    refine k (.ref p) _ (p :: (List.replicate (gI ts l h c).length ([]:List Addr)).flatten) (e04.trans (bH hp)) (.lst aF ?_) ⟨?_,fun b hb=>?_⟩
    ·have el:vs.length=ts.length:=ra.len.1
     unfold gI
     rw [el]
     exact zx ra hc.1 _
    ·rw [fl]
     exact List.nodup_cons.mpr ⟨(fun z=>nomatch z),List.nodup_nil⟩
    ·rw [fl] at hb
     rw [Zi.mp hb]
     exact e04.free hp
   ·cases w4
  ·cases w4
end
end VS
end
section
namespace L2
open PySem PySem.Spec PyProof.Rows
section
variable {X:Cx}
theorem pV (hc:X.calm=true):dq X (.type "list") (fun xs H Q=>∃ p,∃ kvs:List (Key×V),xs=[.ref p]/\H p=some (.dK kvs)/\∀ l,H l=none->Q (.ref l) (upd H l (.lst (kvs.map fun q=>kV q.1)))):=by
 intro pins s σ H xs us Q I rx h
 obtain ⟨p,kvs,rfl,e,q⟩:=h
 obtain ⟨u,rfl,ru⟩:=vals1 rx
 cases ru
 obtain ⟨z,y,ws,rel,o,es,ep,g,ex,hd,_,he,hn⟩:=oF I.hok e
 have eo:=oe ex hd
 subst eo
 have hl:es.toList.length=kvs.length:=by rw [he.length,← Paired.length rel]
 have hz:es.size<=sizeLine:=by rw [← Array.length_toList,hl];exact z
 refine PySem.W.kdl_call (ST.zo y) (I.ok.hd hc) g hz fun h' tk acc c kp g' ha=>?_
 have hv:aK (kvs.map fun q=>kV q.1) acc.toList:=by
  have key:∀ (ks:List (Key×V)) (vs:List Value),ks.length=vs.length->(∀ (i:Nat) (v:Value),vs[i]?=some v->∃ k,ks[i]?=some k/\RelV (kV k.1) v)->aK (ks.map fun q=>kV q.1) vs:=by
   intro ks
   induction ks with
   | nil =>
    intro vs hl _
    cases vs with
    | nil=>exact .nil
    | cons v vs=>simp at hl
   | cons c cs ih =>
    intro vs hl hg
    cases vs with
    | nil=>simp at hl
    | cons v vs =>
     obtain ⟨d,e1,e2⟩:=hg 0 v rfl
     cases e1
     exact .cons e2 (ih vs (by simpa using hl) fun i w hw=>by simpa using hg (i+1) w (by simpa using hw))
  refine key _ _ (by rw [← hl,Array.length_toList,Array.length_toList,ha.1]) fun i v hi=>?_
  rw [Array.getElem?_toList] at hi
  obtain ⟨en,h1,h2⟩:=Zq.mp (ha.2 i v hi)
  rw [← Array.getElem?_toList] at h1
  obtain ⟨w1,hw,hk⟩:=tB he h1
  obtain ⟨p1,hp,hb⟩:=Ay rel hw
  exact ⟨p1,hp,by rw [hb,← h2];exact yB hk⟩
 exact ⟨.ref s.heap.objs.size,_,I.laid kp (Zt _) (show aS X.prog X.w _ h' _ (.lst (kvs.map fun q=>kV q.1)) from ⟨by rw [Zk];exact z,acc.toList,c,hv,g'⟩),rfl,q _ (I.hok.fresh (Zt _))⟩
end
end L2
namespace VS
open PySem PySem.Spec PyProof.Rows L2
section
variable {G:Gx} {X:Cx} {e:Expr} {cs:Exs} {p pos:Pos}
noncomputable def j9:List Val->Option Val
 | [(_,.dct 0 l)]=>(strs? (l.map (·.1))).bind fun ks=>if ks.all txB/\ks.length<=eW then some (.fr,.lst (ks.map T.str)) else none
 | _=>none
theorem kY:∀ {ns:List Key} {ks:List Tx},strs? (ns.map aH)=some ks->ns.map kV=ks.map fun k=>V.str (sx k)
 | [],ks,h=>by cases h;rfl
 | n :: ns,ks,h=>by
  cases n with
  | inl i=>cases h
  | inr w =>
   obtain ⟨r,h1,rfl⟩:=Zq.mp (show (strs? (ns.map aH)).map (w.cps.toList :: ·)=some ks from h)
   rw [List.map_cons,kY h1]
   rfl
theorem vw:fA G (fun xs H Q=>∃ p,∃ kvs:List (Key×V),xs=[.ref p]/\H p=some (.dK kvs)/\∀ l,H l=none->Q (.ref l) (upd H l (.lst (kvs.map fun q=>kV q.1)))) j9:=by
 intro Φ η H0 H l vs Fs m t Q A e k
 unfold j9 at e
 split at e
 ·rename_i mx x
  obtain ⟨ks,e1,e2⟩:=Zx.mp e
  split at e2
  ·rename_i hc
   cases e2
   obtain ⟨v,F,rfl,rfl,rx⟩:=(show RpL G H vs [.dct 0 x] Fs from A.rp).one
   obtain ⟨d,ns,us,ts,Fs,rfl,eΦ,hdk,hln,el,ra⟩:=fU rx
   have ek:x.map (·.1)=ns.map aH:=by
    rw [el]
    exact List.map_fst_zip (by rw [Zk,hln,ra.len.1];exact Zt _)
   rw [ek] at e1
   refine ⟨d,ns.zip us,rfl,hdk,fun q hq=>?_⟩
   have ev:(ns.zip us).map (fun q=>kV q.1)=ks.map fun k=>V.str (sx k):=by
    rw [← kY e1]
    have:=congrArg (List.map kV) (List.map_fst_zip (Nat.le_of_eq hln))
    rw [List.map_map] at this
    exact this
   rw [ev]
   have r0:=jE (G:=G) (H:=H) (ss:=ks) fun s hs=>vc (List.all_eq_true.mp hc.1 s hs)
   have im:d5 (ks.map T.str)=true:=fN _ (fun _=>rfl) _
   refine fR A.same (mj:=.fr) (m:=.fr) (l:=ks.map T.str) (by unfold mkL;rw [if_pos (by rw [Zk];exact hc.2),im];rfl) r0 ?_ k q hq
   rw [iD]
   exact Fp.nil
  ·cases e2
 ·cases e
theorem xo (hm:X.mg "list" = none) (ha:PVs G X [e] cs) (hg:Gl X "list" := by rfl) (hc:X.calm=true:=by rfl) (he:starEach [e] X.env=(false,eval e X.env) :: starEach [] X.env:=by rfl):PV G X (.Call (.Name "list" p) [e] [] pos) (eN j9 cs) :=
 g7 (pV hc) vw hg hm qB ha (he:=he) (hpl:=rfl)
end
end VS
end
section
namespace ST
open PySem PySem.Spec PyProof.Rows
variable {prog:Program} {w:World} {A:Around} {E:Value->Shared->Prop} {s:Shared}
theorem sR {y:Str} {tk0:Tok} {xs:List Str} {Q:Value->Shared->Prop} (hh:A.handled=none) (hx:xs=y.cps.toList.map fun c=>(⟨#[c]⟩:Str)) (hb:xs.length+1 < scanBound)
  (h:∀ (h':Heap) (tk:Nat) ss es ep t,Ts w h' s.heap.objs.size ss es ep t->(∀ y,y∈ss ↔ y∈xs)->(∀ b o,s.heap.get? b=some o->h'.get? b=some o)->Q (.ref s.heap.objs.size) { s with heap:=h',toks:=tk }) :
  wpAny (model prog w) A (call (.type "set") [.str y tk0]) Q E s:=by
 have f:=F.called_set
 obtain ⟨c,tl,mro⟩:=f.mro
 have made:=f.made
 have sub:=f.sub
 have nt:=f.notType
 have cc:=f.canCreate
 have tc:=F.typeCall_set_1 (.str y tk0)
 refine wpAny_call (codeAny_of_tree (Zy (show _/\codeAny _ _ (.builtin "type.__call__" _) _ _ from ⟨Code.quiet_builtin _ (by decide +kernel),codeAny_builtin F.entry_type_call ?_⟩)))
 rw [Around.under_plain (weight_type_call_type "set" [.str y tk0] []) rfl]
 repeat any_goals first | assumption | wp_step
 refine codeAny_mono (yH (.str y tk0) (E:=E) (Q:=fun v s1=>v=.ref s.heap.objs.size/\s1={ s with heap:=s.heap.push (bare w) }) ⟨rfl,rfl⟩) fun r s1 hr=>?_
 match r,hr with
 | .error e,hr=>exact hr
 | .ok (.ret v),⟨e1,e2⟩ =>
  subst e1 e2
  have T0:=Ts.bare (w:=w) s.heap
  have ty:Shared.TypeIs { s with heap:=s.heap.push (bare w) } (.ref s.heap.objs.size) "set" := ⟨_,T0.at_,rfl⟩
  have il:=f.init.lookup
  have ib:=f.init.bind (.ref s.heap.objs.size)
  repeat any_goals first | assumption | wp_step
  refine codeAny_mono (codeAny_call_builtin (R:=wants (fun v s2=>v=.none/\Q (.ref s.heap.objs.size) s2) E) f.init.plain F.entry_set_init (check_set_init_1 ty ?_)) fun r2 s2 h2=>?_
  ·have n1:=F.sub_str_set
   have n2:isSubtype (.type "str") (.type "frozenset")=pure false:=by rw [isSubtype_type];kernel_rfl
   have n3:(Value.type "str" == Value.type "dict")=false:=rfl
   unfold Builtin.«set.__init__» noKeywords Builtin.Frozenset.updateFrom
   generalize eP:pyIter=itr
   wp_walk
   subst eP
   refine wpAny_pyIter_str fun o St W hst=>Zz (wpAny_runValue ?_)
   have off:s.heap.objs.size ∉ [(s.heap.push (bare w)).objs.size]:=by
    rw [Heap.size_push]
    simp only [Zg,List.not_mem_nil,or_false]
    exact Zn (Nat.lt_succ_self _)
   have T1:Ts w ((s.heap.push (bare w)).push o) s.heap.objs.size [] #[] 0 (.fresh 0 0 (!byT w)) :=
    ⟨Zu _ T0.at_,T0.tb,T0.els,T0.pm,T0.nd,T0.few⟩
   have hz:y.cps.size=xs.length:=by rw [hx,Zk,Array.length_toList]
   have hv:∀ (i:Nat) (v:Value),SignAt y i v->∃ x t,v=.str x t/\xs[i]?=some x:=fun i v ⟨c,u,e1,e2⟩=>⟨_,u,e2,by rw [hx,List.getElem?_map,Array.getElem?_toList,e1];rfl⟩
   refine oV ((W _ (by simp [hh])).toS) off hz hv (by lia) y.cps.size 0 _ [] #[] 0 _ (by lia) hst T1 (by simp) (Zt _) fun s' ss' es' ep' t' mv T hm _=>?_
   obtain ⟨h',g',d',tk',os'⟩:=s'
   have e1:g'=s.gens:=mv.gens
   have e2:d'=s.drawn:=mv.drawn
   have e3:os'=s.os:=mv.os
   subst e1 e2 e3
   refine Zy (Zy ⟨rfl,h h' tk' ss' es' ep' t' T hm fun b o e=>mv.heap b o (fun hin=>?_) (Zu _ (Zu _ e))⟩)
   have hb':=Zm e
   rw [Heap.size_push] at hin
   simp only [Zg,List.not_mem_nil,or_false] at hin
   rcases hin with q | q
   ·exact Zn hb' q
   ·exact Zn (Nat.lt_succ_of_lt hb') q
  ·match r2,h2 with
   | .error e,h2=>exact h2
   | .ok (.ret v),⟨e1,e2⟩ =>
    subst e1
    repeat any_goals first | assumption | wp_step
   | .ok .next,h2=>exact h2.elim
   | .ok .brk,h2=>exact h2.elim
   | .ok .cont,h2=>exact h2.elim
 | .ok .next,hr=>exact hr.elim
 | .ok .brk,hr=>exact hr.elim
 | .ok .cont,hr=>exact hr.elim
end ST
namespace L2
open PySem PySem.Spec PyProof.Rows TS
section
variable {X:Cx}
theorem pO (hc:X.calm=true):dq X (.type "set") (fun xs H Q=>∃ x:Str,xs=[.str x]/\x.cps.size+1 < scanBound/\∀ l,H l=none->Q (.ref l) (upd H l (yE X.w l (x.cps.toList.map fun c=>(⟨#[c]⟩:Str))))):=by
 intro pins s σ H xs us Q I rx h
 obtain ⟨x,rfl,hb,q⟩:=h
 obtain ⟨u,rfl,t,rfl⟩:=vals1 rx
 refine ST.sR (I.ok.hd hc) rfl (by rw [Zk,Array.length_toList];exact hb) fun h' tk ss' es' ep t T hm kp=>?_
 exact ⟨.ref s.heap.objs.size,_,I.laid kp (Zt _) (show aS X.prog X.w _ h' _ (yE X.w s.heap.objs.size _) from ⟨⟨ss',es',ep,t,T,hm⟩,⟨_,T.at_⟩,fun h1 h2 ⟨a1,a2,a3,a4,b1,b2⟩ k=>⟨a1,a2,a3,a4,⟨k _ b1.at_,b1.tb,b1.els,b1.pm,b1.nd,b1.few⟩,b2⟩⟩),rfl,q _ (I.hok.fresh (Zt _))⟩
end
end L2
namespace VS
open PySem PySem.Spec PyProof.Rows L2
section
variable {G:Gx} {X:Cx} {e:Expr} {cs:Exs} {pos p p2 pos':Pos}
noncomputable def dD:List Val->Option Val
 | [(_,.str x)]=>if x.length+1 < 4096 then some (.fr,.lst ((dP (dedup (x.map fun c=>[c]))).map .str)) else none
 | _=>none
theorem mI (hm:X.mg "sorted" = none) (hm2:X.mg "set" = none) (ha:PVs G X [e] cs) (hg:Gl X "sorted" := by rfl) (hg2:Gl X "set" := by rfl) (hc:X.calm=true:=by rfl)
  (he:starEach [e] X.env=(false,eval e X.env) :: starEach [] X.env:=by rfl) (he2:starEach [.Call (.Name "set" p2) [e] [] pos'] X.env=(false,eval (.Call (.Name "set" p2) [e] [] pos') X.env) :: starEach [] X.env:=by rfl) :
  PV G X (.Call (.Name "sorted" p) [.Call (.Name "set" p2) [e] [] pos'] [] pos) (eN dD cs):=by
 refine PE.weak (kf (ji hc) hg hm lI (dU (lX (pO hc) hg2 hm2 zZ ha (he:=he) (hpl:=rfl)) fB he2) (he:=he2) (hpl:=rfl)) fun σ H Q ⟨Φ,η,m,t,s,e0,k⟩=>?_
 unfold eN at e0
 obtain ⟨l,el,e0⟩:=Zx.mp e0
 refine ⟨Φ,η,l,s,el,fun vs H1 Fs s1 r1 f1=>?_⟩
 have A:Args G Φ η H H1 l vs Fs:=⟨s1,r1,f1⟩
 unfold dD at e0
 split at e0
 ·rename_i mx x
  split at e0
  ·rename_i hb
   cases e0
   obtain ⟨v,F,rfl,rfl,rx⟩:=(show RpL G H1 vs [.str x] Fs from A.rp).one
   have ts:=rx.str_inv.2
   have ex:(sx x).cps.toList.map (fun c=>(⟨#[c]⟩:Str))=(x.map fun c=>[c]).map sx:=by
    simp [sx]
   refine ⟨sx x,by rw [rx.str_inv.1],by simp only [sx,List.size_toArray];exact hb,fun q hq=>⟨q,(sx x).cps.toList.map fun c=>(⟨#[c]⟩:Str),rfl,aF,fun l2 ss' hl2 hnd hme hpw=>?_⟩⟩
   have sm:aL H1 (upd H1 q (yE X.w q ((sx x).cps.toList.map fun c=>(⟨#[c]⟩:Str)))):=bH hq
   refine uS (G:=G) (Φ:=Φ) (η:=η) (H0:=H) (ss:=dedup (x.map fun c=>[c])) (fun v H' F e2 r2 f2=>k v H' F ((A.same.trans sm).trans e2) r2 f2) (A.same.trans sm) (fun s hs=>?_) l2 ss' hl2 ?_ hpw
   ·obtain ⟨c,hc',rfl⟩:=List.mem_map.mp ((fF _ s).mp hs)
    exact ⟨by show 1<=eW;decide,fun y hy=>by rw [Zi.mp hy];exact ts.2 c hc'⟩
   ·have nd2:((dedup (x.map fun c=>[c])).map sx).Nodup:=(i9 _).map _ fun a b hab e=>hab (Cf e)
    refine (List.perm_ext_iff_of_nodup hnd nd2).mpr fun y=>?_
    rw [hme y,ex,List.mem_map,List.mem_map]
    exact ⟨fun ⟨z,hz,e⟩=>⟨z,(fF _ z).mpr hz,e⟩,fun ⟨z,hz,e⟩=>⟨z,(fF _ z).mp hz,e⟩⟩
  ·cases e0
 ·cases e0
end
end VS
end
section
namespace L2
theorem De {α:Type} {n:Nat} {us:List α} (hl:us.length=n+1):∃ a t,us=a :: t/\t.length=n:=by
 obtain ⟨a,t,e⟩:=List.exists_cons_of_length_eq_add_one hl
 subst e
 exact ⟨a,t,rfl,Nat.succ.inj hl⟩
theorem pI {α:Type} {us:List α} (hl:us.length=1):∃ a,us=[a]:=List.length_eq_one_iff.mp hl
theorem pj {α:Type} {us:List α} (hl:us.length=2):∃ a b,us=[a,b]:=by
 obtain ⟨a,t,rfl,ht⟩:=De hl
 obtain ⟨b,rfl⟩:=pI ht
 exact ⟨a,b,rfl⟩
theorem Ea {α:Type} {us:List α} (hl:us.length=3):∃ a b c,us=[a,b,c]:=by
 obtain ⟨a,t,rfl,ht⟩:=De hl
 obtain ⟨b,c,rfl⟩:=pj ht
 exact ⟨a,b,c,rfl⟩
end L2
end
section
namespace VS
open PySem PySem.Spec PyProof.Rows L2
structure Q (p:Prop):Prop where h:p
section
variable {G:Gx} {X:Cx} {a b c e tg iter elt:Expr} {es rest:List Expr} {ca cb cc ce:Ex} {cs:Exs} {pos pos' spos p p1 p2 apos cpos tpos:Pos} {k k' n i:Nat} {x:Str} {st:Stmt} {sts:List Stmt} {c1 c2:Sx} {sc:Scope} {N:List Str} {ci:Its} {g:Tg} {elts:List Expr} {ps:List Str}
theorem ae {i j pos}:Q (PV G X (.Constant (.int i) j pos) (eC (.int i))):=⟨Bp⟩
theorem xO {i j pos}:Q (PV G X (.Constant (.bool i) j pos) (eC (.bl i))):=⟨CZ⟩
theorem ph {j pos}:Q (PV G X (.Constant .none j pos) (eC .non)):=⟨AC⟩
theorem ef {x:Str} {t:Tx} {j pos} (h:x=sx t) (hl:gG t):Q (PV G X (.Constant (.str x) j pos) (eC (.str t))):=⟨BC h hl⟩
theorem aa (i:Nat) {x:Str} {pos:Pos} (hN:X.N[i]?=some x) (hv:Vis X.env.scope x) (hd:(x == ("__debug__" : Str))=false) (hcd:(x == ("__classdict__" : Str))=false):Q (PV G X (.Name x pos) (ah i)):=⟨AR i hN hv hd hcd⟩
theorem aj  : Q (PVs G X [] av):=⟨yq⟩
theorem ab (ha:Q (PV G X e ca)) (hr:Q (PVs G X es cs)) (hs:starEach (e :: es) X.env=(false,eval e X.env) :: starEach es X.env):Q (PVs G X (e :: es) (af ca cs)):=⟨uP ha.h hr.h hs⟩
theorem cA (h:Q (PVs G X es cs)):Q (PV G X (.List es pos) (eU cs)):=⟨AA h.h⟩
theorem iu {x1} (h:Q (PVs G X es cs)):Q (PV G X (.Tuple es x1 pos) (oo cs)):=⟨Ab h.h⟩
theorem rY (h:Q (PV G X a ca)) (hK:X.K=G.K) (he:∀ whole,isTrue a X.env whole=(do let v ← whole;standAt a.pos;holding [v] (truthy v))):Q (PVT G X a ca):=⟨zq h.h hK he⟩
theorem lj (h:Q (PVW G X e ca)):Q (PVT G X e ca):=⟨PVW.pvt h.h⟩
theorem jG (ha:Q (PVT G X a ca)):Q (PVW G X (.BoolOp .And [a] pos) ca):=⟨uv ha.h⟩
theorem iP (ha:Q (PVT G X a ca)) (hb:Q (PVW G X (.BoolOp .And (b :: rest) pos) cb)):Q (PVW G X (.BoolOp .And (a :: b :: rest) pos) (i7 ca cb)):=⟨yV ha.h hb.h⟩
theorem rX (ha:Q (PVT G X a ca)):Q (PVT G X (.UnaryOp .Not a pos) (kI ca)):=⟨zc ha.h⟩
theorem vo (ha:Q (PV G X a ca)):Q (PV G X (.UnaryOp .Not a pos) (kI ca)):=⟨AU ha.h⟩
theorem vX {op} (h:Q (PV G X a ca)):Q (PV G X (.BoolOp op [a] pos) ca):=⟨BP h.h⟩
theorem nu (ha:Q (PV G X a ca)) (hb:Q (PV G X (.BoolOp .And (b :: rest) pos) cb)):Q (PV G X (.BoolOp .And (a :: b :: rest) pos) (i7 ca cb)):=⟨AM ha.h hb.h⟩
theorem xI (hc:Q (PVT G X c cc)) (ha:Q (PV G X a ca)) (hb:Q (PV G X b cb)):Q (PV G X (.IfExp c a b pos) (eIf cc ca cb)):=⟨CS hc.h ha.h hb.h⟩
theorem t7 {j pos'} (ha:Q (PV G X a ca)):Q (PV G X (.Compare a [.Is] [.Constant .none j pos'] pos) (ud ca)):=⟨AV ha.h⟩
theorem eJ  : Q (PVO G X none none):=⟨vy⟩
theorem bI (h:Q (PV G X a ca)):Q (PVO G X (some a) (some ca)):=⟨vE h.h⟩
theorem dJ {lo hi:Option Expr} {cl ch:Option Ex} {p2:Pos} (ha:Q (PV G X a ca)) (hl:Q (PVO G X lo cl)) (hh:Q (PVO G X hi ch)) (hK:X.K=G.K):Q (PV G X (.Subscript a (.Slice lo hi none p2) pos) (eSl ca cl ch)):=⟨uK ha.h hl.h hh.h hK⟩
theorem sI {apos cpos:Pos} (ho:Q (PV G X a ca)) (ha:Q (PVs G X [e] cs)) (hK:X.K=G.K) (hbase:attributeBase a "join" X.env (eval a X.env)=eval a X.env) (hfew:((backTo cpos (starEach [e] X.env)).all (fun x=>!x.1) && (backToKw cpos (keywordEach [] X.env)).all (fun x=>x.1.isSome)
   && decide ([e].length+([]:List Keyword).length+(if ([]:List Keyword).isEmpty then 0 else 1) < 30))=true) (hline:(apos.endLine == cpos.line)=true) (hs:starEach [e] X.env=(false,eval e X.env) :: starEach [] X.env) (hplain:(backTo cpos (starEach [] X.env)).any (·.1)=false):Q (PV G X (.Call (.Attribute a "join" apos) [e] [] cpos) (eM gr ca cs)):=⟨yL ho.h ha.h hK hbase hfew hline hs hplain⟩
theorem cp  : Q (eV G X [] gu):=⟨yd⟩
theorem ag (h1:Q (PSV G X st c1)) (h2:Q (eV G X sts c2)):Q (eV G X (st :: sts) (ar c1 c2)):=⟨wu h1.h h2.h⟩
theorem aq (h1:Q (PSV G X st c1)):Q (eV G X [st] c1):=⟨yu h1.h⟩
theorem cC {t:Expr} {ct:Ex} {a b:List Stmt} (hc:Q (PVT G X t ct)) (ha:Q (eV G X a c1)) (hb:Q (eV G X b c2)):Q (PSV G X (.If t a b pos) (sIf ct c1 c2)):=⟨AQ hc.h ha.h hb.h⟩
theorem bu (he:Q (PV G X e ce)):Q (PSV G X (.Return (some e) pos) (d9 ce)):=⟨zF he.h⟩
theorem dG (i:Nat) {x:Str} {p:Pos} (hN:X.N[i]?=some x) (hv:Vis X.env.scope x) (hd:(x == ("__debug__" : Str))=false) (hcd:(x == ("__classdict__" : Str))=false):Q (PSV G X (.Return (some (.Name x p)) pos) (gM i)):=⟨wq i hN hv hd hcd⟩
theorem dm {i:Nat} {x:Str} {pos':Pos} (he:Q (PV G X e ce)) (hN:X.N.Nodup) (hi:X.N[i]?=some x) (hx:Loc X.env.scope x) (hs:swapsWith e (some (.Name x pos')) pos.line X.env=pure false) (hf:X.fn x=true\/X.env.scope.names.lookup x=some .local):Q (PSV G X (.Assign [.Name x pos'] e pos) (jm i ce)):=⟨zg he.h hN hi hx hs hf⟩
theorem ak {i:Nat} {x:Str} {pos':Pos} (he:Q (PV G X e ce)) (hN:X.N.Nodup) (hi:X.N[i]?=some x) (hx:Loc X.env.scope x) (hs:swapsWith e (some (.Name x pos')) pos.line X.env=pure false) (hf:X.fn x=true\/X.env.scope.names.lookup x=some .local):Q (PSV G X (.Assign [.Name x pos'] e pos) (aM i ce)):=⟨tY he.h hN hi hx hs hf⟩
theorem kW {c:Sx} (i:Nat) (h:Q (eV G X sts c)):Q (eV G X sts (ar (tL i) c)):=⟨yk i h.h⟩
theorem bZ (ha:Q (PV G X a ca)) (hg:Gl X "range") (hm:X.mg "range" = none) (hs:starEach [a] X.env=(false,eval a X.env) :: starEach [] X.env) (hs':starEach [a] X.env=[(false,eval a X.env)]):Q (PVI G X tg (.Call (.Name "range" p) [a] [] pos) (bK ca)):=⟨pJ ha.h hg hm hs hs'⟩
theorem aJ (i:Nat) {x:Str} (hN:X.N.Nodup) (hi:X.N[i]?=some x) (hx:Loc X.env.scope x) (hf:X.fn x=true\/X.env.scope.names.lookup x=some .local):Q (PVG G X (.Name x pos) (bh i)):=⟨uz i hN hi hx hf⟩
theorem jH  : Q (n9 G X [] []):=⟨uq⟩
theorem eY {g:Tg} {gs:List Tg} (h1:Q (PVG G X e g)) (h2:Q (n9 G X es gs)) (hs:(assignEach (e :: es) X.env).map (·.2)=assign e X.env :: (assignEach es X.env).map (·.2)):Q (n9 G X (e :: es) (g :: gs)):=⟨sW h1.h h2.h hs⟩
theorem lM {gs:List Tg} {k:Nat} (hc:X.calm=true) (h:Q (n9 G X es gs)) (hn:(assignEach es X.env).length=gs.length) (hst:(assignEach es X.env).findIdx? (·.1)=none) (hK:X.K=G.K):Q (PVG G X (.Tuple es k pos) (kH gs)):=⟨wU hc h.h hn hst hK⟩
theorem bg {iter:Expr} {body:List Stmt} {ci:Its} {g:Tg} {cb:Sx} (hp:PassesOwn (model X.prog X.w) X.A X.env X.xe) (hc:X.calm=true) (hi:Q (PVI G X tg iter ci)) (hg:Q (PVG G X tg g)) (hb:Q (eV G X body cb)) (hs:∀ x,foldedSetIterable iter X.env x=pure x):Q (PSV G X (.For tg iter body [] pos) (du g ci cb)):=⟨zB hp hc hi.h hg.h hb.h hs⟩
theorem lO (k:Nat) (N:List Str) (hcalm:X.calm=true) (hi:Q (PVI G X tg iter ci)) (hin:ya k g) (hg:∀ cl C s H fp,Q (PVG G (bQ X N sc cl C s H fp) tg g)) (he:∀ cl C s H fp,Q (PV G (bQ X N sc cl C s H fp) elt ce)) (hsc:mJ X.env sc=true) (hnm:jo sc (N.drop k) X.N=true) (hNl:k<=N.length) (hs:∀ x,foldedSetIterable iter X.env x=pure x):Q (PV G X (.ListComp elt [⟨tg,iter,[],0⟩] sc pos) (hZ k g ci none ce)):=⟨zt k N hcalm hi.h hin (fun cl C s H fp=>(hg cl C s H fp).h) (fun cl C s H fp=>(he cl C s H fp).h) hsc hnm hNl hs⟩
theorem j6 (ha:Q (PV G X a ca)) (hg:Gl X "enumerate") (hm:X.mg "enumerate" = none) (hs:starEach [a] X.env=(false,eval a X.env) :: starEach [] X.env) (hs':starEach [a] X.env=[(false,eval a X.env)]):Q (PVI G X (.Tuple elts n tpos) (.Call (.Name "enumerate" p) [a] [] pos) (kX ca)):=⟨uf ha.h hg hm hs hs'⟩
theorem aZ (ha:Q (PV G X a ca)) (hb:Q (PV G X b cb)):Q (PV G X (.BinOp a .Add b pos) (e2 bP ca cb)):=⟨w_add ha.h hb.h⟩
theorem jr (ha:Q (PV G X a ca)) (hb:Q (PV G X b cb)):Q (PV G X (.BinOp a .Sub b pos) (e2 nB ca cb)):=⟨w_sub ha.h hb.h⟩
theorem dQ (ha:Q (PV G X a ca)) (hb:Q (PV G X b cb)):Q (PV G X (.BinOp a .Mult b pos) (e2 eR ca cb)):=⟨w_mul ha.h hb.h⟩
theorem dB (ha:Q (PV G X a ca)) (hb:Q (PV G X b cb)):Q (PV G X (.BinOp a .FloorDiv b pos) (e2 dY ca cb)):=⟨AJ ha.h hb.h⟩
theorem aV (ha:Q (PV G X a ca)) (hb:Q (PV G X b cb)):Q (PV G X (.BinOp a .Mod b pos) (e2 oMod ca cb)):=⟨w_mod ha.h hb.h⟩
theorem xj (ha:Q (PV G X a ca)) (hb:Q (PV G X b cb)):Q (PVT G X (.Compare a [.Lt] [b] pos) (e2 oLt ca cb)):=⟨CH ha.h hb.h⟩
theorem wa (hr:Room k X.A) (ha:Q (PV G X a ca)) (hb:Q (PV G X b cb)):Q (PV G X (.Compare a [.Eq] [b] pos) (e2 oEq ca cb)):=⟨w_eq hr ha.h hb.h⟩
theorem mf (hr:Room k X.A) (ha:Q (PV G X a ca)) (hb:Q (PV G X b cb)):Q (PVT G X (.Compare a [.Eq] [b] pos) (e2 oEq ca cb)):=⟨Cb hr ha.h hb.h⟩
theorem xb (hr:Room k X.A) (ha:Q (PV G X a ca)) (hb:Q (PV G X b cb)):Q (PVT G X (.Compare a [.NotEq] [b] pos) (e2 oNe ca cb)):=⟨Cw hr ha.h hb.h⟩
theorem bq (ha:Q (PV G X a ca)) (hb:Q (PV G X b cb)) (hs:fQ b) (hK:X.K=G.K):Q (PV G X (.Subscript a b pos) (e2 aU ca cb)):=⟨CW ha.h hb.h hs hK⟩
theorem cT (hm:X.mg "len" = none) (ha:Q (PVs G X [e] cs)) (hg:Gl X "len") (hK:X.K=G.K) (he:starEach [e] X.env=(false,eval e X.env) :: starEach [] X.env):Q (PV G X (.Call (.Name "len" p) [e] [] pos) (eN d6 cs)):=⟨B9 hm ha.h hg hK he⟩
theorem nU (hm:X.mg "min" = none) (ha:Q (PVs G X [a,b] cs)) (hc:X.calm=true) (hg:Gl X "min") (he:starEach [a,b] X.env=(false,eval a X.env) :: starEach [b] X.env) (hpl:(backTo pos (starEach [b] X.env)).any (·.1)=false):Q (PV G X (.Call (.Name "min" p) [a,b] [] pos) (eN lQ cs)):=⟨BH hm ha.h hc hg he hpl⟩
theorem vp (t:Ty) (hm:X.mg "isinstance" = none) (hm2:X.mg (tyN t)=none) (ha:Q (PV G X a ca)) (hg:Gl X "isinstance") (hg2:Gl X (tyN t)) (hK:X.K=G.K) (hs:starEach [a,.Name (tyN t) p2] X.env=(false,eval a X.env) :: starEach [.Name (tyN t) p2] X.env):Q (PV G X (.Call (.Name "isinstance" p1) [a,.Name (tyN t) p2] [] pos) (eIs t ca)):=⟨w_is t hm hm2 ha.h hg hg2 hK hs⟩
theorem dN (i:Nat) {x:Str} (ha:Q (PVs G X [e] cs)) (hK:X.K=G.K) (hN:X.N[i]?=some x) (hv:Vis X.env.scope x) (hd:(x == ("__debug__" : Str))=false) (hcd:(x == ("__classdict__" : Str))=false) (hfew:((backTo cpos (starEach [e] X.env)).all (fun x=>!x.1) && (backToKw cpos (keywordEach [] X.env)).all (fun x=>x.1.isSome)
   && decide ([e].length+([]:List Keyword).length+(if ([]:List Keyword).isEmpty then 0 else 1) < 30))=true) (hline:(apos.endLine == cpos.line)=true) (hs:starEach [e] X.env=(false,eval e X.env) :: starEach [] X.env):Q (PSV G X (.Expr (.Call (.Attribute (.Name x p1) "append" apos) [e] [] cpos) pos) (sX (jI i [] aW cs))):=⟨vP i ha.h hK hN hv hd hcd hfew hline hs⟩
theorem aP {g:Fn} (F:FnAt X.prog X.w X.K X.mg X.base k x ps G g) (hr:Room k' X.A) (ha:Q (PVs G X (e :: es) cs)) (hk:k<=k') (hg:Gl X x) (hdb:(x == ("__debug__" : Str))=false) (he:starEach (e :: es) X.env=(false,eval e X.env) :: starEach es X.env) (hpl:(backTo pos (starEach es X.env)).any (·.1)=false):Q (PV G X (.Call (.Name x p) (e :: es) [] pos) (aT g cs)):=⟨AB F hr ha.h hk hg hdb he hpl⟩
theorem dk (ha:Q (PV G X a ca)) (hK:X.K=G.K):Q (PVI G X tg a (gz ca)):=⟨yQ ha.h hK⟩
theorem kU (hm:X.mg "tuple" = none) (ha:Q (PVs G X [e] cs)) (hg:Gl X "tuple") (hK:X.K=G.K) (he:starEach [e] X.env=(false,eval e X.env) :: starEach [] X.env):Q (PV G X (.Call (.Name "tuple" p) [e] [] pos) (eN eZ cs)):=⟨yn hm ha.h hg hK he⟩
theorem jy (ha:Q (PV G X a ca)) (hb:Q (PV G X b cb)):Q (PVT G X (.Compare a [.Gt] [b] pos) (e2 oGt ca cb)):=⟨C5 ha.h hb.h⟩
theorem qG (ha:Q (PV G X a ca)) (hb:Q (PV G X b cb)):Q (PVT G X (.Compare a [.GtE] [b] pos) (e2 oGe ca cb)):=⟨B8 ha.h hb.h⟩
theorem t6  : Q (PV G X (.Dict [] [] pos) (jg 0 [])):=⟨Bu⟩
theorem j8 (hr:Room k X.A) (ha:Q (PV G X a ca)) (hb:Q (PV G X b cb)) (hs:fQ b) (hK:X.K=G.K):Q (PV G X (.Subscript a b pos) (e2 oIx ca cb)):=⟨DZ hr ha.h hb.h hs hK⟩
theorem zm (hr:Room k X.A) (ha:Q (PV G X a ca)) (hb:Q (PV G X b cb)) (hm:behindInMarks .In b=false) (hK:X.K=G.K):Q (PVT G X (.Compare a [.In] [b] pos) (e2 mM ca cb)):=⟨Dl hr ha.h hb.h hm hK⟩
theorem oU (hr:Room k X.A) (ha:Q (PV G X a ca)) (hb:Q (PV G X b cb)) (hm:behindInMarks .NotIn b=false) (hK:X.K=G.K):Q (PVT G X (.Compare a [.NotIn] [b] pos) (e2 cS ca cb)):=⟨Br hr ha.h hb.h hm hK⟩
theorem rV (hm:X.mg "list" = none) (ha:Q (PVs G X [e] cs)) (hg:Gl X "list") (hK:X.K=G.K) (hc:X.calm=true) (he:starEach [e] X.env=(false,eval e X.env) :: starEach [] X.env):Q (PV G X (.Call (.Name "list" p) [e] [] pos) (eN i6 cs)):=⟨ym hm ha.h hg hK hc he⟩
theorem lY {G:Gx} {X:Cx} {i:Int} {j:Nat} {pos p:Pos}:Q (PV G X (.UnaryOp .USub (.Constant (.int i) j p) pos) (eC (.int (-i)))):=⟨Ct⟩
theorem pW (J:AL G) (i:Nat) {x:Str} (hk:Q (PV G X b ck)) (hv:Q (PVs G X [e] cs)) (hK:X.K=G.K) (hN:X.N[i]?=some x) (hvis:Vis X.env.scope x) (hd:(x == ("__debug__" : Str))=false) (hcd:(x == ("__classdict__" : Str))=false) (hb1:attributeBase (.Name x p1) "setdefault" X.env (eval (.Name x p1) X.env)=eval (.Name x p1) X.env) (hf1:((backTo cp1 (starEach [b,.List [] lp] X.env)).all (fun x=>!x.1) && (backToKw cp1 (keywordEach [] X.env)).all (fun x=>x.1.isSome)
   && decide ([b,Expr.List [] lp].length+([]:List Keyword).length+(if ([]:List Keyword).isEmpty then 0 else 1) < 30))=true) (hl1:(ap1.endLine == cp1.line)=true) (hs1:starEach [b,.List [] lp] X.env=(false,eval b X.env) :: starEach [.List [] lp] X.env) (hs1':starEach [.List [] lp] X.env=(false,eval (.List [] lp) X.env) :: starEach [] X.env) (hp1:(backTo cp1 (starEach [.List [] lp] X.env)).any (·.1)=false) (hb2:attributeBase (.Call (.Attribute (.Name x p1) "setdefault" ap1) [b,.List [] lp] [] cp1) "append" X.env (eval (.Call (.Attribute (.Name x p1) "setdefault" ap1) [b,.List [] lp] [] cp1) X.env)=eval (.Call (.Attribute (.Name x p1) "setdefault" ap1) [b,.List [] lp] [] cp1) X.env) (hf2:((backTo cpos (starEach [e] X.env)).all (fun x=>!x.1) && (backToKw cpos (keywordEach [] X.env)).all (fun x=>x.1.isSome)
   && decide ([e].length+([]:List Keyword).length+(if ([]:List Keyword).isEmpty then 0 else 1) < 30))=true) (hl2:(apos.endLine == cpos.line)=true) (hs2:starEach [e] X.env=(false,eval e X.env) :: starEach [] X.env) (hp2:(backTo cpos (starEach [] X.env)).any (·.1)=false) (hsw:swapsWith (.Call (.Attribute (.Call (.Attribute (.Name x p1) "setdefault" ap1) [b,.List [] lp] [] cp1) "append" apos) [e] [] cpos) none pos.line X.env=pure false):Q (PSV G X (.Expr (.Call (.Attribute (.Call (.Attribute (.Name x p1) "setdefault" ap1) [b,.List [] lp] [] cp1) "append" apos) [e] [] cpos) pos) (gW i ck cs)):=⟨vi J i hk.h hv.h hK hN hvis hd hcd hb1 hf1 hl1 hs1 hs1' hp1 hb2 hf2 hl2 hs2 hp2 hsw⟩
theorem nV (i:Nat) {x:Str} (hr:Room kr X.A) (hk:Q (PV G X b ck)) (hv:Q (PVs G X [e] cs)) (hK:X.K=G.K) (hN:X.N[i]?=some x) (hvis:Vis X.env.scope x) (hd:(x == ("__debug__" : Str))=false) (hcd:(x == ("__classdict__" : Str))=false) (hb1:attributeBase (.Name x p1) "setdefault" X.env (eval (.Name x p1) X.env)=eval (.Name x p1) X.env) (hf1:((backTo cp1 (starEach [b,.List [] lp] X.env)).all (fun x=>!x.1) && (backToKw cp1 (keywordEach [] X.env)).all (fun x=>x.1.isSome)
   && decide ([b,Expr.List [] lp].length+([]:List Keyword).length+(if ([]:List Keyword).isEmpty then 0 else 1) < 30))=true) (hl1:(ap1.endLine == cp1.line)=true) (hs1:starEach [b,.List [] lp] X.env=(false,eval b X.env) :: starEach [.List [] lp] X.env) (hs1':starEach [.List [] lp] X.env=(false,eval (.List [] lp) X.env) :: starEach [] X.env) (hp1:(backTo cp1 (starEach [.List [] lp] X.env)).any (·.1)=false) (hb2:attributeBase (.Call (.Attribute (.Name x p1) "setdefault" ap1) [b,.List [] lp] [] cp1) "append" X.env (eval (.Call (.Attribute (.Name x p1) "setdefault" ap1) [b,.List [] lp] [] cp1) X.env)=eval (.Call (.Attribute (.Name x p1) "setdefault" ap1) [b,.List [] lp] [] cp1) X.env) (hf2:((backTo cpos (starEach [e] X.env)).all (fun x=>!x.1) && (backToKw cpos (keywordEach [] X.env)).all (fun x=>x.1.isSome)
   && decide ([e].length+([]:List Keyword).length+(if ([]:List Keyword).isEmpty then 0 else 1) < 30))=true) (hl2:(apos.endLine == cpos.line)=true) (hs2:starEach [e] X.env=(false,eval e X.env) :: starEach [] X.env) (hp2:(backTo cpos (starEach [] X.env)).any (·.1)=false) (hsw:swapsWith (.Call (.Attribute (.Call (.Attribute (.Name x p1) "setdefault" ap1) [b,.List [] lp] [] cp1) "append" apos) [e] [] cpos) none pos.line X.env=pure false):Q (PSV G X (.Expr (.Call (.Attribute (.Call (.Attribute (.Name x p1) "setdefault" ap1) [b,.List [] lp] [] cp1) "append" apos) [e] [] cpos) pos) (fE i ck cs)):=⟨sZ i hr hk.h hv.h hK hN hvis hd hcd hb1 hf1 hl1 hs1 hs1' hp1 hb2 hf2 hl2 hs2 hp2 hsw⟩
theorem sk  : Q (PV G X (.Dict [] [] pos) (jg 2 [])):=⟨yX⟩
theorem nN (i:Nat) (N:List Str) {x y:Str} (hr:Room kr X.A) (hcalm:X.calm=true) (hN:X.N[i]?=some x) (hv:Vis X.env.scope x) (hd:(x == ("__debug__" : Str))=false) (hcd:(x == ("__classdict__" : Str))=false) (hin:∀ cl C s H fp,PG (bQ X N sc cl C s H fp) (.Name y p3) (qi 0)/\PE (bQ X N sc cl C s H fp) (.Name x p1) (sJ (i+1))/\PE (bQ X N sc cl C s H fp) (.Name y p2) (sJ 0)/\(bQ X N sc cl C s H fp).A.units=X.A.units) (hix:fQ (.Name y p2)) (hsc:mJ X.env sc=true) (hnm:jo sc (N.drop 1) X.N=true) (hNl:1<=N.length) (hs:∀ z,foldedSetIterable (.Name x p4) X.env z=pure z):Q (PSV G X (.Return (some (.ListComp (.Subscript (.Name x p1) (.Name y p2) p) [⟨.Name y p3,.Name x p4,[],0⟩] sc pos)) spos) (gK i)):=⟨rW i N hr hcalm hN hv hd hcd hin hix hsc hnm hNl hs⟩
theorem rJ {x:Str} {t:Tx} {j:Nat} {q q':Pos} (h:x=sx t) (hl:gG t):Q (PV G X (.Dict [some (.Constant (.str x) j q)] [.List [] q'] pos) (jg 0 [(eC (.str t),eU av)])):=⟨zl h hl⟩
theorem o5 {gk:Fn} (F:FnAt X.prog X.w X.K X.mg X.base k x ps G gk) (hk:k+2<=k') (hcg:∀ t:Tx,gG t->gk [.str t]=some (.fr,.tup [.int t.length,.str t])) (hr:Room k' X.A) (hm:X.mg "sorted" = none) (ha:Q (PVs G X [e] cs)) (hgx:Gl X x) (hg:Gl X "sorted") (hc:X.calm=true) (hdx:(x == ("__debug__" : Str))=false) (he:backTo pos (starEach [e] X.env)=(false,eval e X.env) :: backTo pos (starEach [] X.env)) (hpl:(backTo pos (starEach [e] X.env)).any (·.1)=false):Q (PV G X (.Call (.Name "sorted" p) [e] [⟨some "key",.Name x p2,kp⟩] pos) (eN iR cs)):=⟨sq F hk hcg hr hm ha.h hgx hg hc hdx he hpl⟩
theorem uw (i:Nat) {x:Str} (hr:Room kr X.A) (hk:Q (PV G X b ck)) (he:Q (PV G X e ce)) (hN:X.N[i]?=some x) (hv:Vis X.env.scope x) (hd:(x == ("__debug__" : Str))=false) (hcd:(x == ("__classdict__" : Str))=false) (ha:∀ v,assign (.Subscript (.Name x p1) b pos') X.env v=(do
   let ov ← holding [v] (eval (.Name x p1) X.env)
   let iv ← holding [v,ov] (eval b X.env)
   standAt pos'
   holding [v,ov,iv] (setItem ov iv v)
   release [v,ov,iv] [])) (hs:swapsWithSole [.Subscript (.Name x p1) b pos'] e pos.line X.env=pure false) (hw:swappedStores [.Subscript (.Name x p1) b pos'] e X.env=pure none) (h1:(assignEach [.Subscript (.Name x p1) b pos'] X.env).map (·.2)=[assign (.Subscript (.Name x p1) b pos') X.env]):Q (PSV G X (.Assign [.Subscript (.Name x p1) b pos'] e pos) (lR i ck ce)):=⟨BJ i hr hk.h he.h hN hv hd hcd ha hs hw h1⟩
theorem tD (hm:X.mg "dict" = none) (ha:Q (PVs G X [e] cs)) (hg:Gl X "dict") (hc:X.calm=true) (he:starEach [e] X.env=(false,eval e X.env) :: starEach [] X.env):Q (PV G X (.Call (.Name "dict" p) [e] [] pos) (eN iq cs)):=⟨ye hm ha.h hg hc he⟩
theorem qb {st:Expr} {lo hi:Option Expr} {cl ch cs:Option Ex} {p2:Pos} (ha:Q (PV G X a ca)) (hl:Q (PVO G X lo cl)) (hh:Q (PVO G X hi ch)) (hst:Q (PVO G X (some st) cs)) (hK:X.K=G.K):Q (PV G X (.Subscript a (.Slice lo hi (some st) p2) pos) (se ca cl ch cs)):=⟨uT ha.h hl.h hh.h hst.h hK⟩
theorem rQ (hm:X.mg "list" = none) (ha:Q (PVs G X [e] cs)) (hg:Gl X "list") (hc:X.calm=true) (he:starEach [e] X.env=(false,eval e X.env) :: starEach [] X.env):Q (PV G X (.Call (.Name "list" p) [e] [] pos) (eN j9 cs)):=⟨xo hm ha.h hg hc he⟩
theorem jZ (hm:X.mg "sorted" = none) (hm2:X.mg "set" = none) (ha:Q (PVs G X [e] cs)) (hg:Gl X "sorted") (hg2:Gl X "set") (hc:X.calm=true) (he:starEach [e] X.env=(false,eval e X.env) :: starEach [] X.env) (he2:starEach [.Call (.Name "set" p2) [e] [] pos'] X.env=(false,eval (.Call (.Name "set" p2) [e] [] pos') X.env) :: starEach [] X.env):Q (PV G X (.Call (.Name "sorted" p) [.Call (.Name "set" p2) [e] [] pos'] [] pos) (eN dD cs)):=⟨mI hm hm2 ha.h hg hg2 hc he he2⟩
end
section
variable {G:Gx} {P:Program} {w:World} {K:PySem.W.Frag} {mg:Str->Option Value} {base:Heap}
theorem fg {x:Str} {st:Stmt} {f:Addr} {fd:FuncData} {N ps:List Str} {k np nn:Nat} {c:Sx} (F:Fun K x x st f fd) (hm:mg x=some (.ref f)) (S:FnScope N ps (ao st)) (hp:ps.length=np) (hn:N.length=nn)
  (hbd:∀ (kV doc pm:Value) (an:Option Addr) (cdv ct:Value) (us:List Value),us.length=ps.length->bindArgs (PySem.W.fnOf x x (aY st) (aR st) (ao st) .none kV doc pm an cdv ct) ⟨us,[]⟩=pure (ps.zip us))
  (hb:∀ (cdv:Value) (A:Around) (outer:List PySem.Env) (s:Shared) (H:Hp) (E:XK),Room k (A.deeper (envOfC x (ao st) s.heap.objs.size f cdv))->Q (eV G (kP CX0 P w K mg base N x (ao st) f cdv A outer s H E).nox (aR st) c)) :
  FnAt P w K mg base (k+1) x ps G (fn np nn c):=Dm F hm S hp hn hbd fun cdv A outer s H E hr=>(hb cdv A outer s H E hr).h
theorem Ek {x qual:Str} {st:Stmt} {f:Addr} {fd:FuncData} {N ps:List Str} {k np nn:Nat} {c:Sx} (F:Fun K x qual st f fd) (S:FnScope N ps (ao st)) (hp:ps.length=np) (hn:N.length=nn)
  (hb:∀ (cdv:Value) (A:Around) (outer:List PySem.Env) (s:Shared) (H:Hp) (E:XK),Room k (A.deeper (envOfC qual (ao st) s.heap.objs.size f cdv))->Q (eV G (kP CX0 P w K mg base N qual (ao st) f cdv A outer s H E).nox (aR st) c)) :
  FnOk P w K mg base CX0 (k+1) f fd ps (spF G (fn np nn c)):=fnV F S hp hn fun cdv A outer s H E hr=>(hb cdv A outer s H E hr).h
end
end VS
end
section
namespace T14
open VS
noncomputable def bS:Sx :=
  (ar (aM 4 (eN iq (af (e2 aU (e2 aU (ah 0) (e2 aU (ah 2) (eC (.int (-1))))) (eC (.int 3))) av)))
  (ar (sIf (e2 cS (ah 3) (ah 4)) (gM 2) gu)
  (sX (jI 2 [] aW (af (e2 oIx (ah 4) (ah 3)) av)))))
noncomputable def jB:Fn:=fn 2 5
  (ar (jm 2 (eU (af (eC (.int 0)) av)))
  (ar (du (bh 3) (gz (ah 1)) bS)
  (gM 2)))
noncomputable def eQ:Fn:=fn 2 3
  (ar (aM 2 (aT jB (af (ah 0) (af (ah 1) av))))
  (d9 (eIf (e2 oEq (eN d6 (af (ah 2) av)) (e2 bP (eN d6 (af (ah 1) av)) (eC (.int 1)))) (e2 aU (ah 2) (eC (.int (-1)))) (eC .non))))
noncomputable def bw:Fn:=fn 2 2
  (ar (sIf (e2 oLt (ah 1) (eN d6 (af (ah 0) av))) (d9 (e2 aU (ah 0) (ah 1))) gu)
  (d9 (eC (.int 0))))
noncomputable def aG:Fn:=fn 2 4
  (ar (aM 2 (eC (.int 7)))
  (ar (sIf (e2 oGt (eN d6 (af (ah 0) av)) (eC (.int 0))) (aM 2 (e2 aU (ah 0) (e2 oMod (ah 1) (eN d6 (af (ah 0) av))))) gu)
  (ar (aM 3 (e2 oMod (e2 eR (e2 bP (e2 bP (e2 oMod (ah 2) (eC (.int 2147483629))) (e2 eR (eC (.int 40503)) (ah 1))) (eC (.int 1))) (eC (.int 48271))) (eC (.int 2147483647))))
  (ar (aM 3 (e2 oMod (e2 eR (ah 3) (ah 3)) (eC (.int 2147483629))))
  (ar (aM 3 (e2 oMod (e2 eR (e2 bP (ah 3) (ah 1)) (eC (.int 69621))) (eC (.int 2147483587))))
  (d9 (e2 dY (e2 oMod (e2 eR (ah 3) (ah 3)) (eC (.int 2147483563))) (eC (.int 3)))))))))
noncomputable def cD:Fn:=fn 1 3
  (ar (aM 1 (e2 oMod (ah 0) (eC (.int 26))))
  (ar (aM 2 (e2 aU (eU (af (eC (.int 1)) (af (eC (.int 3)) (af (eC (.int 5)) (af (eC (.int 7)) (af (eC (.int 9)) av)))))) (e2 oMod (e2 dY (ah 0) (eC (.int 26))) (eC (.int 5)))))
  (d9 (hZ 1 (bh 0) (bK (eC (.int 26))) none (e2 aU (eC (.str [97,98,99,100,101,102,103,104,105,106,107,108,109,110,111,112,113,114,115,116,117,118,119,120,121,122])) (e2 oMod (e2 bP (ah 2) (e2 eR (ah 3) (ah 0))) (eC (.int 26))))))))
noncomputable def bX:Sx :=
  (ar (aM 8 (e2 bP (ah 8) (e2 aU (ah 1) (e2 oMod (ah 0) (ah 2)))))
  (aM 0 (e2 dY (ah 0) (ah 2))))
noncomputable def b5:Sx :=
  (ar (aM 7 (eN lQ (af (ah 4) (af (e2 oMod (ah 0) (eC (.int 25))) av))))
  (ar (aM 0 (e2 dY (ah 0) (eC (.int 25))))
  (ar (aM 4 (e2 nB (ah 4) (ah 7)))
  (ar (aM 8 (eC (.str [])))
  (ar (du (bh 9) (bK (ah 7)) bX)
  (sX (jI 5 [] aW (af (ah 8) av))))))))
noncomputable def br:Fn:=fn 1 10
  (ar (aM 1 (aT cD (af (ah 0) av)))
  (ar (aM 2 (e2 aU (eU (af (eC (.int 1)) (af (eC (.int 2)) (af (eC (.int 3)) (af (eC (.int 4)) (af (eC (.int 2)) (af (eC (.int 3)) (af (eC (.int 4)) (af (eC (.int 26)) av))))))))) (e2 oMod (e2 dY (ah 0) (eC (.int 130))) (eC (.int 8)))))
  (ar (aM 3 (e2 oMod (e2 dY (ah 0) (eC (.int 1040))) (eC (.int 5))))
  (ar (aM 0 (e2 dY (ah 0) (eC (.int 5200))))
  (ar (aM 4 (eC (.int 24)))
  (ar (jm 5 (eU av))
  (ar (du (bh 6) (bK (ah 3)) b5)
  (gM 5))))))))
noncomputable def bB:Sx :=
  (ar (aM 11 (aT aG (af (ah 0) (af (e2 bP (e2 bP (e2 eR (eC (.int 20)) (ah 6)) (eC (.int 6))) (ah 10)) av))))
  (sIf (i7 (e2 oGe (eN d6 (af (ah 9) av)) (ah 8)) (e2 oGt (e2 oMod (ah 11) (eC (.int 4))) (eC (.int 0)))) (aM 9 (e2 bP (ah 9) (e2 aU (ah 9) (e2 nB (eN d6 (af (ah 9) av)) (ah 8))))) (aM 9 (e2 bP (ah 9) (e2 aU (ah 2) (e2 oMod (e2 dY (ah 11) (eC (.int 4))) (ah 3)))))))
noncomputable def b6:Sx :=
  (ar (aM 7 (eN lQ (af (ah 4) (af (e2 oMod (aT aG (af (ah 0) (af (e2 bP (e2 eR (eC (.int 20)) (ah 6)) (eC (.int 4))) av))) (e2 bP (ah 1) (eC (.int 1)))) av))))
  (ar (aM 4 (e2 nB (ah 4) (ah 7)))
  (ar (aM 8 (e2 bP (eC (.int 1)) (e2 oMod (aT aG (af (ah 0) (af (e2 bP (e2 eR (eC (.int 20)) (ah 6)) (eC (.int 5))) av))) (eC (.int 5)))))
  (ar (aM 9 (eC (.str [])))
  (ar (du (bh 10) (bK (ah 7)) bB)
  (ar (sX (jI 5 [] aW (af (ah 9) av)))
  (sIf (i7 (e2 oGt (ah 7) (eC (.int 2))) (i7 (e2 oEq (e2 oMod (aT aG (af (ah 0) (af (e2 bP (e2 eR (eC (.int 20)) (ah 6)) (eC (.int 5))) av))) (eC (.int 3))) (eC (.int 0))) (e2 oGe (ah 4) (eC (.int 2))))) (ar (sX (jI 5 [] aW (af (eSl (ah 9) (some (eC (.int 1))) (some (eC (.int 3)))) av)))
  (aM 4 (e2 nB (ah 4) (eC (.int 2))))) gu)))))))
noncomputable def b9:Fn:=fn 2 12
  (ar (aM 2 (aT cD (af (aT aG (af (ah 0) (af (eC (.int 1)) av))) av)))
  (ar (aM 3 (e2 aU (eU (af (eC (.int 1)) (af (eC (.int 2)) (af (eC (.int 3)) (af (eC (.int 4)) (af (eC (.int 2)) (af (eC (.int 3)) (af (eC (.int 9)) (af (eC (.int 26)) av))))))))) (e2 oMod (aT aG (af (ah 0) (af (eC (.int 2)) av))) (eC (.int 8)))))
  (ar (aM 4 (ah 1))
  (ar (jm 5 (eU av))
  (ar (du (bh 6) (bK (e2 oMod (aT aG (af (ah 0) (af (eC (.int 3)) av))) (eC (.int 6)))) b6)
  (ar (tL 5)
  (d9 (eSl (ah 5) none (some (eC (.int 8)))))))))))
noncomputable def cZ:Fn:=fn 2 2
  (ar (sIf (e2 oEq (e2 oMod (aT bw (af (ah 0) (af (eC (.int 0)) av))) (eC (.int 2))) (eC (.int 0))) (d9 (aT br (af (e2 dY (aT bw (af (ah 0) (af (eC (.int 0)) av))) (eC (.int 2))) av))) gu)
  (d9 (aT b9 (af (ah 0) (af (e2 aU (eU (af (eC (.int 24)) (af (eC (.int 24)) (af (eC (.int 24)) (af (ah 1) av))))) (e2 oMod (aT aG (af (ah 0) (af (eC (.int 0)) av))) (eC (.int 4)))) av)))))
noncomputable def cR:Sx :=
  (gW 1 (eSl (ah 3) (some (ah 5)) (some (ah 4))) (af (oo (af (ah 2) (af (ah 4) av))) av))
noncomputable def cV:Sx :=
  (du (bh 5) (bK (e2 bP (ah 4) (eC (.int 1)))) cR)
noncomputable def b8:Sx :=
  (du (bh 4) (bK (e2 bP (eN d6 (af (ah 3) av)) (eC (.int 1)))) cV)
noncomputable def bY:Fn:=fn 1 6
  (ar (jm 1 (jg 0 [((eC (.str [])),(eU av))]))
  (ar (du (kH [(bh 2),(bh 3)]) (kX (ah 0)) b8)
  (gM 1)))
noncomputable def dS:Fn:=fn 1 1
  (d9 (oo (af (eN d6 (af (ah 0) av)) (af (ah 0) av))))
noncomputable def cU:Sx :=
  (fE 1 (eN eZ (af (e2 oIx (ah 0) (ah 2)) av)) (af (ah 2) av))
noncomputable def cK:Fn:=fn 1 3
  (ar (jm 1 (jg 2 []))
  (ar (du (bh 2) (gz (eN iR (af (ah 0) av))) cU)
  (gK 1)))
noncomputable def cF:Sx :=
  (lR 1 (ah 4) (ah 2))
noncomputable def dM:Sx :=
  (du (bh 4) (gz (ah 3)) cF)
noncomputable def cx:Fn:=fn 1 5
  (ar (jm 1 (jg 0 []))
  (ar (du (kH [(bh 2),(bh 3)]) (kX (ah 0)) dM)
  (gM 1)))
noncomputable def bN:Sx :=
  (sIf (e2 mM (e2 bP (e2 aU (ah 3) (eC (.int 0))) (ah 5)) (ah 1)) (sX (jI 4 [] aW (af (oo (af (ah 5) (af (e2 oIx (ah 1) (e2 bP (e2 aU (ah 3) (eC (.int 0))) (ah 5))) av))) av))) gu)
noncomputable def dz:Sx :=
  (ar (jm 4 (eU av))
  (ar (du (bh 5) (gz (eC (.str [97,98,99,100,101,102,103,104,105,106,107,108,109,110,111,112,113,114,115,116,117,118,119,120,121,122]))) bN)
  (ar (tL 4)
  (ar (aM 6 (eC .non))
  (ar (sIf (e2 oNe (e2 aU (ah 3) (eC (.int 0))) (eC (.str []))) (aM 6 (e2 oIx (ah 1) (eSl (e2 aU (ah 3) (eC (.int 0))) (some (eC (.int 1))) none))) gu)
  (sX (jI 2 [] aW (af (oo (af (eN d6 (af (e2 aU (ah 3) (eC (.int 0))) av)) (af (eN d6 (af (e2 aU (ah 3) (eC (.int (-1)))) av)) (af (ah 6) (af (eN eZ (af (ah 4) av)) av))))) av))))))))
noncomputable def dj:Fn:=fn 2 7
  (ar (jm 2 (eU av))
  (ar (du (bh 3) (gz (ah 0)) dz)
  (gM 2)))
noncomputable def dh:Fn:=fn 3 4
  (ar (aM 3 (aT eQ (af (ah 0) (af (ah 2) av))))
  (ar (sIf (e2 cS (ah 2) (ah 1)) (d9 (ud (ah 3))) gu)
  (d9 (i7 (eIs .int (ah 3)) (i7 (kI (eIs .bool (ah 3))) (e2 oEq (ah 3) (e2 oIx (ah 1) (ah 2))))))))
noncomputable def kh:Sx :=
  (sIf (kI (aT dh (af (ah 5) (af (ah 3) (af (ah 9) av))))) (d9 (eC (.bl false))) gu)
noncomputable def ir:Sx :=
  (du (bh 9) (gz (e2 bP (eU (af (ah 8) (af (eSl (ah 8) (some (eC (.int 1))) none) av))) (hZ 1 (bh 0) (gz (ah 6)) none (e2 bP (ah 9) (ah 0))))) kh)
noncomputable def lW:Fn:=fn 1 10
  (ar (aM 1 (aT cZ (af (ah 0) (af (eC (.int 24)) av))))
  (ar (aM 2 (aT cK (af (aT bY (af (ah 1) av)) av)))
  (ar (aM 3 (aT cx (af (ah 2) av)))
  (ar (aM 4 (aT dj (af (ah 2) (af (ah 3) av))))
  (ar (aM 5 (eN i6 (af (ah 4) av)))
  (ar (aM 6 (e2 bP (eSl (eN dD (af (eM gr (eC (.str [])) (af (ah 1) av)) av)) none (some (eC (.int 2)))) (eU (af (eC (.str [122])) av))))
  (ar (aM 7 (eN j9 (af (ah 3) av)))
  (ar (sIf (e2 oGt (eN d6 (af (ah 7) av)) (eC (.int 60))) (aM 7 (se (ah 7) (some (e2 oMod (aT aG (af (ah 0) (af (eC (.int 300)) av))) (eC (.int 5)))) none (some (eC (.int 5))))) gu)
  (ar (du (bh 8) (gz (ah 7)) ir)
  (d9 (e2 oEq (ah 5) (ah 4))))))))))))
theorem jX (t:Tx) (h:gG t):dS [.str t]=some (.fr,.tup [.int t.length,.str t]):=by
 have h1:=h.1
 simp [dS,fn,d6,C4,rC]
 rw [if_pos (by decide)]
 rfl
theorem Ae (ns:List Int):∃ c,bw [.scr ns,.int 0]=some (.fr,.int c):=by
 cases ns with
 | cons a r =>
  refine ⟨a,?_⟩
  have h2:(0:Int) < ((a :: r).length:Int):=by simp
  simp [bw,h2,ixP]
 | nil=>exact ⟨0,by simp [bw]⟩
theorem e2v {f:Val->Val->Option Val} {a b:Ex} {η:Env} {x y z:Val} (h1:a η=some x) (h2:b η=some y) (h3:f x y=some z):e2 f a b η=some z:=by
 show (a η).bind _=_
 rw [h1,Option.bind_some,h2]
 exact h3
theorem fj (ns:List Int) (k:Int) (h0:0<=k) (h1:k < 1000):∃ n,aG [.scr ns,.int k]=some (.fr,.int n)/\0<=n/\n < 2147483648:=by
 obtain ⟨c,hc⟩:∃ c,(sIf (e2 oGt (eN d6 (af (ah 0) av)) (eC (.int 0))) (aM 2 (e2 aU (ah 0) (e2 oMod (ah 1) (eN d6 (af (ah 0) av))))) gu) [some (.pu (.scr ns)),some (.pu (.int k)),some (.pu (.int 7)),none]=some (.nx [some (.pu (.scr ns)),some (.pu (.int k)),some (.pu (.int c)),none]):=by
  cases ns with
  | nil=>exact ⟨7,by simp⟩
  | cons a r =>
   have hp:(0:Int) < ((a :: r).length:Int):=by simp
   have b0:=Int.emod_nonneg k (b:=((a :: r).length:Int)) (by lia)
   have b1:=Int.emod_lt_of_pos k (b:=((a :: r).length:Int)) hp
   generalize hl:(a :: r)=ns at *
   have hne:ns ≠ []:=by rw [← hl];simp
   have b2:(k % (ns.length:Int)).toNat < ns.length:=by lia
   refine ⟨ns[(k % (ns.length:Int)).toNat],?_⟩
   simp [hp,hne,aQ hp,ixP,b0,b1,b2]
 have a0:=Int.emod_nonneg c (b:=2147483629) (by decide)
 have a1:=Int.emod_lt_of_pos c (b:=2147483629) (by decide)
 generalize hx1:c % 2147483629=x1 at a0 a1
 have b0:=Int.emod_nonneg ((x1+40503 * k+1) * 48271) (b:=2147483647) (by decide)
 have b1:=Int.emod_lt_of_pos ((x1+40503 * k+1) * 48271) (b:=2147483647) (by decide)
 generalize hx2:(x1+40503 * k+1) * 48271 % 2147483647=x2 at b0 b1
 have c0:=Int.emod_nonneg (x2 * x2) (b:=2147483629) (by decide)
 have c1:=Int.emod_lt_of_pos (x2 * x2) (b:=2147483629) (by decide)
 generalize hx3:x2 * x2 % 2147483629=x3 at c0 c1
 have d0:=Int.emod_nonneg ((x3+k) * 69621) (b:=2147483587) (by decide)
 have d1:=Int.emod_lt_of_pos ((x3+k) * 69621) (b:=2147483587) (by decide)
 generalize hx4:(x3+k) * 69621 % 2147483587=x4 at d0 d1
 have e0:=Int.emod_nonneg (x4 * x4) (b:=2147483563) (by decide)
 have e1:=Int.emod_lt_of_pos (x4 * x4) (b:=2147483563) (by decide)
 refine ⟨x4 * x4 % 2147483563 / 3,?_,by lia,by lia⟩
 have m1:∀ m n,eR (m,.int (x1+40503 * k+1)) (n,.int 48271)=some (.fr,.int ((x1+40503 * k+1) * 48271)):=fun m n=>d7 (by lia)
 have m2:∀ m n,eR (m,.int x2) (n,.int x2)=some (.fr,.int (x2 * x2)):=fun m n=>d7 (by lia)
 have m3:∀ m n,eR (m,.int (x3+k)) (n,.int 69621)=some (.fr,.int ((x3+k) * 69621)):=fun m n=>d7 (by lia)
 have m4:∀ m n,eR (m,.int x4) (n,.int x4)=some (.fr,.int (x4 * x4)):=fun m n=>d7 (by lia)
 have m0:∀ m n,eR (m,.int 40503) (n,.int k)=some (.fr,.int (40503 * k)):=fun m n=>d7 (by decide)
 unfold aG
 refine C3 [some (.pu (.scr ns)),some (.pu (.int k)),none,none] (η':=[some (.pu (.scr ns)),some (.pu (.int k)),some (.pu (.int c)),some (.pu (.int x4))]) rfl rfl ?_
 rw [gD (η':=[some (.pu (.scr ns)),some (.pu (.int k)),some (.pu (.int 7)),none]) rfl,gD hc]
 rw [gD (bG (m:=.fr) (t:=.int x2) (e2v (e2v (e2v (e2v (e2v rfl rfl ((aQ (by decide)).trans (by rw [hx1]))) (e2v rfl rfl (m0 _ _)) rfl) rfl rfl) rfl (m1 _ _)) rfl ((aQ (by decide)).trans (by rw [hx2]))) (by decide) (by simp))]
 refine (show ar _ _ [some (.pu (.scr ns)),some (.pu (.int k)),some (.pu (.int c)),some (.pu (.int x2))]=_ from ?_)
 rw [gD (bG (m:=.fr) (t:=.int x3) (e2v (e2v rfl rfl (m2 _ _)) rfl ((aQ (by decide)).trans (by rw [hx3]))) (by decide) (by simp))]
 refine (show ar _ _ [some (.pu (.scr ns)),some (.pu (.int k)),some (.pu (.int c)),some (.pu (.int x3))]=_ from ?_)
 rw [gD (bG (m:=.fr) (t:=.int x4) (e2v (e2v (e2v rfl rfl rfl) rfl (m3 _ _)) rfl ((aQ (by decide)).trans (by rw [hx4]))) (by decide) (by simp))]
 refine (show d9 _ [some (.pu (.scr ns)),some (.pu (.int k)),some (.pu (.int c)),some (.pu (.int x4))]=_ from ?_)
 have r:=e2v (f:=dY) (η:=[some (.pu (.scr ns)),some (.pu (.int k)),some (.pu (.int c)),some (.pu (.int x4))]) (e2v (f:=oMod) (a:=e2 eR (ah 3) (ah 3)) (b:=eC (.int 2147483563)) (e2v rfl rfl (m4 _ _)) rfl (aQ (by decide))) (show eC (.int 3) _=some (.fr,.int 3) from rfl) (eT (by decide))
 simp only [d9,r,Option.bind_some]
noncomputable abbrev abc:Tx:=[97,98,99,100,101,102,103,104,105,106,107,108,109,110,111,112,113,114,115,116,117,118,119,120,121,122]
theorem wt {m n:Md} (t:Tx) (i:Int) (h0:0<=i) (h1:i < t.length):aU (m,.str t) (n,.int i)=some (.fr,.str [t.getD i.toNat 0]):=by
 have b2:i.toNat < t.length:=by lia
 simp [ixP,h0,h1,List.getD_eq_getElem?_getD,b2]
theorem BX (i:Nat) (h:i < 26):97<=abc.getD i 0/\abc.getD i 0<=122:=by
 have:∀ i,i < 26->97<=abc.getD i 0/\abc.getD i 0<=122:=by decide
 exact this i h
theorem qr (c:Int):∃ sg:List Nat,cD [.int c]=some (.fr,.lst (sg.map fun x=>T.str [x]))/\sg.length=26/\∀ x∈sg,97<=x/\x<=122:=by
 have a0:=Int.emod_nonneg (c / 26) (b:=5) (by decide)
 have a1:=Int.emod_lt_of_pos (c / 26) (b:=5) (by decide)
 have li:=ka (m:=.fr) (n:=.fr) T.int [1,3,5,7,9] (c / 26 % 5) 0 a0 (by simpa using a1) rfl
 simp only [List.map_cons,List.map_nil] at li
 obtain ⟨st,hst,s0,s1⟩:∃ st:Int,List.getD [1,3,5,7,9] (c / 26 % 5).toNat 0=st/\0<=st/\st < 10:=by
  have pk:∀ i,i < 5->0<=(List.getD [1,3,5,7,9] i 0:Int)/\(List.getD [1,3,5,7,9] i 0:Int) < 10:=by decide
  have h:=pk (c / 26 % 5).toNat (by lia)
  exact ⟨_,rfl,h.1,h.2⟩
 rw [hst] at li
 have k0:=Int.emod_nonneg c (b:=26) (by decide)
 have k1:=Int.emod_lt_of_pos c (b:=26) (by decide)
 generalize hs:c % 26=s at k0 k1
 have comp:=lJ (k:=1) (tg:=bh 0) (it:=bK (eC (.int 26))) (elt:=e2 aU (eC (.str abc)) (e2 oMod (e2 bP (ah 2) (e2 eR (ah 3) (ah 0))) (eC (.int 26))))
  (η:=[some (.pu (.int c)),some (.pu (.int s)),some (.pu (.int st))]) (m:=.fr) (fun (j:Nat)=>T.int (j:Int)) (fun j:Nat=>T.str [abc.getD ((s+st * (j:Int)) % 26).toNat 0]) (List.range 26)
  (by rw [km (m:=.fr) (j:=26) rfl (by lia),oj];rfl) rfl (by decide) (fun j hj=>⟨_,by simp;rfl,by
   have e0:=Int.emod_nonneg (s+st * (j:Int)) (b:=26) (by decide)
   have e1:=Int.emod_lt_of_pos (s+st * (j:Int)) (b:=26) (by decide)
   have ix:=wt (m:=.fr) (n:=.fr) abc ((s+st * (j:Int)) % 26) e0 (by exact e1)
   have mu:∀ m n,eR (m,.int st) (n,.int (j:Int))=some (.fr,.int (st * (j:Int))):=fun m n=>d7 (by lia)
   simp [-aU,mu,aQ (j:=26) (by decide)]
   exact ix⟩)
 refine ⟨(List.range 26).map fun j:Nat=>abc.getD ((s+st * (j:Int)) % 26).toNat 0,?_,by simp,fun x hx=>?_⟩
 ·simp [-aU,cD,aQ,eT,hs,fX,li]
  rw [comp]
  simp
 ·obtain ⟨j,_,rfl⟩:=List.mem_map.mp hx
  have e0:=Int.emod_nonneg (s+st * (j:Int)) (b:=26) (by decide)
  have e1:=Int.emod_lt_of_pos (s+st * (j:Int)) (b:=26) (by decide)
  exact BX _ (by lia)
noncomputable def Az (t:List Nat):Prop:=∀ x∈t,97<=x/\x<=122
theorem Az.app {s t:List Nat} (a:Az s) (b:Az t):Az (s++t):=fun x hx=>(Zh.mp hx).elim (a x) (b x)
noncomputable abbrev sgT (sg:List Nat):T:=.lst (sg.map fun x=>T.str [x])
theorem vQ {m n:Md} (sg:List Nat) (i:Int) (h0:0<=i) (h1:i < sg.length):aU (m,sgT sg) (n,.int i)=some (.fr,.str [sg.getD i.toNat 0]):=ka (fun x=>T.str [x]) sg i 0 h0 h1 rfl
theorem m7 {sg:List Nat} (h:Az sg) {i:Nat} (hi:i < sg.length):Az [sg.getD i 0]:=fun x hx=>by
 rw [Zi.mp hx,List.getD_eq_getElem?_getD,Zd hi]
 exact h _ (List.getElem_mem hi)
theorem Dg (sg:List Nat) (hsg:Az sg) (so many room size:Int) (h0:0 < so) (h1:so<=sg.length) (h2:so < 1000) (bk:List T) (k6:Option Cell):∀ (ks:List Nat) (c:Int) (t:Tx) (z:Option Cell),t.length+ks.length<=1000->Az t →
  ∃ c' t' z',forL (bh 9) bX (ks.map fun (k:Nat)=>T.int (k:Int)) [some (.pu (.int c)),some (.pu (sgT sg)),some (.pu (.int so)),some (.pu (.int many)),some (.pu (.int room)),some (.ow (.lst bk)),k6,some (.pu (.int size)),some (.pu (.str t)),z] =
   some (.nx [some (.pu (.int c')),some (.pu (sgT sg)),some (.pu (.int so)),some (.pu (.int many)),some (.pu (.int room)),some (.ow (.lst bk)),k6,some (.pu (.int size)),some (.pu (.str t')),z'])/\t'.length=t.length+ks.length/\Az t'
 | [],c,t,z,_,ht=>⟨c,t,z,by simp [forL],by simp,ht⟩
 | k :: ks,c,t,z,hl,ht=>by
  have e0:=Int.emod_nonneg c (b:=so) (by lia)
  have e1:=Int.emod_lt_of_pos c (b:=so) h0
  rw [List.length_cons] at hl
  have ix:=fun m n=>vQ (m:=m) (n:=n) sg (c % so) e0 (by lia)
  have ad:∀ m n,bP (m,.str t) (n,.str [sg.getD (c % so).toNat 0])=some (.fr,.str (t++[sg.getD (c % so).toNat 0])):=fun m n=>iH (by simp;lia)
  obtain ⟨c',t',z',e,hl',ht'⟩:=Dg sg hsg so many room size h0 h1 h2 bk k6 ks (c / so) (t++[sg.getD (c % so).toNat 0]) (some (.pu (.int k))) (by rw [Zj,List.length_singleton];lia) (ht.app (m7 hsg (by lia)))
  refine ⟨c',t',z',?_,by rw [hl',Zj,List.length_singleton,List.length_cons];lia,ht'⟩
  rw [List.map_cons,bL (η1:=[some (.pu (.int c)),some (.pu (sgT sg)),some (.pu (.int so)),some (.pu (.int many)),some (.pu (.int room)),some (.ow (.lst bk)),k6,some (.pu (.int size)),some (.pu (.str t)),some (.pu (.int k))]) rfl
   (η2:=[some (.pu (.int (c / so))),some (.pu (sgT sg)),some (.pu (.int so)),some (.pu (.int many)),some (.pu (.int room)),some (.ow (.lst bk)),k6,some (.pu (.int size)),some (.pu (.str (t++[sg.getD (c % so).toNat 0]))),some (.pu (.int k))]) (by
    simp [-aU,-List.getD_eq_getElem?_getD,-List.map_cons,bX,aQ h0,ix,ad,eT (show 0 < so/\so < 1073741824 by lia)]),e]
structure Bk (most:Nat) (bk:List Tx):Prop where
 n:bk.flatten.length<=most
 az:∀ t∈bk,Az t
theorem Bk.snoc {m m':Nat} {bk:List Tx} {t:Tx} (B:Bk m bk) (h:m+t.length<=m') (ht:Az t):Bk m' (bk++[t]):=by
 refine ⟨?_,fun s hs=>?_⟩
 ·have:=B.n
  rw [List.flatten_append,Zj,show [t].flatten=t by simp]
  lia
 ·rcases Zh.mp hs with hs | hs
  ·exact B.az s hs
  ·rw [Zi.mp hs];exact ht
theorem lF {a:Ex} {η:Env} {m:Md} {n:Nat} (e:a η=some (m,.int (n:Int))) (h:n < 100000):bK a η=some (.fr,(List.range n).map fun (k:Nat)=>T.int (k:Int)):=by
 rw [km e (by lia),oj]
 rfl
theorem fD {tg:Tg} {it:Its} {body:Sx} {η:Env} {l:List T} (h:it η=some (.fr,l)):du tg it body η=forL tg body l η:=by
 simp [du,h]
theorem iZ {i:Nat} {η:Env} {l:List T} {t:T} {e:Ex} (h:η[i]?=some (some (.ow (.lst l)))) (he:e η=some (.fr,t)) (hl:l.length < 16777216):(sX (jI i [] aW (af e av))) η=some (.nx (η.set i (some (.ow (.lst (l++[t])))))):=by
 simp [h,he,eg hl]
theorem au {a b:Sx} {η η1:Env} (h:a η=some (.nx η1)):ar a b η=b η1:=by simp [ar,h]
theorem rE (sg:List Nat) (hsg:Az sg) (so many:Int) (h0:0 < so) (h1:so<=sg.length) (h2:so < 1000) (k:Nat) (c:Int) (room:Nat) (bk:List Tx) (z7 z8 z9:Option Cell) (hr:room<=24) (B:Bk (24 - room) bk) (hl:bk.length < 1000) :
  ∃ (c1:Int) (sz:Nat) (t1:Tx) (z1:Option Cell),sz<=room/\Bk (24 - (room - sz)) (bk++[t1])/\b5 [some (.pu (.int c)),some (.pu (sgT sg)),some (.pu (.int so)),some (.pu (.int many)),some (.pu (.int (room:Int))),some (.ow (.lst (bk.map T.str))),some (.pu (.int k)),z7,z8,z9] =
   some (.nx [some (.pu (.int c1)),some (.pu (sgT sg)),some (.pu (.int so)),some (.pu (.int many)),some (.pu (.int ((room - sz:Nat):Int))),some (.ow (.lst ((bk++[t1]).map T.str))),some (.pu (.int k)),some (.pu (.int sz)),some (.pu (.str t1)),z1]):=by
 have e0:=Int.emod_nonneg c (b:=25) (by decide)
 have e1:=Int.emod_lt_of_pos c (b:=25) (by decide)
 obtain ⟨sz,hsz,hsr,hs2⟩:∃ sz:Nat,(if c % 25 < (room:Int) then c % 25 else (room:Int))=(sz:Int)/\sz<=room/\sz<=24:=by
  by_cases h:c % 25 < (room:Int)
  ·exact ⟨(c % 25).toNat,by rw [if_pos h];lia,by lia,by lia⟩
  ·exact ⟨room,by rw [if_neg h],Zt _,hr⟩
 have er:((room:Int) - (sz:Int))=((room - sz:Nat):Int):=by lia
 generalize ht:(room - sz:Nat)=r1 at er
 obtain ⟨c1,t1,z1,ee,hl1,ht1⟩:=Dg sg hsg so many (r1:Int) (sz:Int) h0 h1 h2 (bk.map T.str) (some (.pu (.int k))) (List.range sz) (c / 25) [] z9 (by rw [List.length_range];simp;lia) (fun x hx=>by simp at hx)
 rw [List.length_range,List.length_nil,Nat.zero_add] at hl1
 refine ⟨c1,sz,t1,z1,hsr,B.snoc (by lia) ht1,?_⟩
 have fo:du (bh 9) (bK (ah 7)) bX [some (.pu (.int (c / 25))),some (.pu (sgT sg)),some (.pu (.int so)),some (.pu (.int many)),some (.pu (.int (r1:Int))),some (.ow (.lst (bk.map T.str))),some (.pu (.int k)),some (.pu (.int sz)),some (.pu (.str [])),z9] =
   some (.nx [some (.pu (.int c1)),some (.pu (sgT sg)),some (.pu (.int so)),some (.pu (.int many)),some (.pu (.int (r1:Int))),some (.ow (.lst (bk.map T.str))),some (.pu (.int k)),some (.pu (.int sz)),some (.pu (.str t1)),z1]):=by
  rw [fD (lF (m:=.fr) (n:=sz) rfl (by lia))]
  exact ee
 have ap:=iZ (i:=5) (e:=ah 8) (t:=.str t1) (l:=bk.map T.str) (η:=[some (.pu (.int c1)),some (.pu (sgT sg)),some (.pu (.int so)),some (.pu (.int many)),some (.pu (.int (r1:Int))),some (.ow (.lst (bk.map T.str))),some (.pu (.int k)),some (.pu (.int sz)),some (.pu (.str t1)),z1]) rfl rfl (by rw [Zk];lia)
 rw [ht]
 unfold b5
 rw [au (η:=[some (.pu (.int c)),some (.pu (sgT sg)),some (.pu (.int so)),some (.pu (.int many)),some (.pu (.int (room:Int))),some (.ow (.lst (bk.map T.str))),some (.pu (.int k)),z7,z8,z9]) (η1:=[some (.pu (.int c)),some (.pu (sgT sg)),some (.pu (.int so)),some (.pu (.int many)),some (.pu (.int (room:Int))),some (.ow (.lst (bk.map T.str))),some (.pu (.int k)),some (.pu (.int sz)),z8,z9]) (by simp [aQ (j:=25) (by decide),hsz])]
 rw [au (η:=[some (.pu (.int c)),some (.pu (sgT sg)),some (.pu (.int so)),some (.pu (.int many)),some (.pu (.int (room:Int))),some (.ow (.lst (bk.map T.str))),some (.pu (.int k)),some (.pu (.int sz)),z8,z9]) (η1:=[some (.pu (.int (c / 25))),some (.pu (sgT sg)),some (.pu (.int so)),some (.pu (.int many)),some (.pu (.int (room:Int))),some (.ow (.lst (bk.map T.str))),some (.pu (.int k)),some (.pu (.int sz)),z8,z9]) rfl]
 rw [au (η:=[some (.pu (.int (c / 25))),some (.pu (sgT sg)),some (.pu (.int so)),some (.pu (.int many)),some (.pu (.int (room:Int))),some (.ow (.lst (bk.map T.str))),some (.pu (.int k)),some (.pu (.int sz)),z8,z9]) (η1:=[some (.pu (.int (c / 25))),some (.pu (sgT sg)),some (.pu (.int so)),some (.pu (.int many)),some (.pu (.int (r1:Int))),some (.ow (.lst (bk.map T.str))),some (.pu (.int k)),some (.pu (.int sz)),z8,z9]) (by simp [er])]
 rw [au (η:=[some (.pu (.int (c / 25))),some (.pu (sgT sg)),some (.pu (.int so)),some (.pu (.int many)),some (.pu (.int (r1:Int))),some (.ow (.lst (bk.map T.str))),some (.pu (.int k)),some (.pu (.int sz)),z8,z9]) (η1:=[some (.pu (.int (c / 25))),some (.pu (sgT sg)),some (.pu (.int so)),some (.pu (.int many)),some (.pu (.int (r1:Int))),some (.ow (.lst (bk.map T.str))),some (.pu (.int k)),some (.pu (.int sz)),some (.pu (.str [])),z9]) rfl]
 rw [au fo,ap]
 simp
theorem DU (sg:List Nat) (hsg:Az sg) (so many:Int) (h0:0 < so) (h1:so<=sg.length) (h2:so < 1000) (ks:List Nat):∀ (c:Int) (room:Nat) (bk:List Tx) (z6 z7 z8 z9:Option Cell),room<=24->Bk (24 - room) bk->bk.length+ks.length<=1000 →
  ∃ c' r' bk' z6' z7' z8' z9',forL (bh 6) b5 (ks.map fun (k:Nat)=>T.int (k:Int)) [some (.pu (.int c)),some (.pu (sgT sg)),some (.pu (.int so)),some (.pu (.int many)),some (.pu (.int (room:Int))),some (.ow (.lst (bk.map T.str))),z6,z7,z8,z9] =
   some (.nx [some (.pu (.int c')),some (.pu (sgT sg)),some (.pu (.int so)),some (.pu (.int many)),some (.pu (.int r')),some (.ow (.lst (bk'.map T.str))),z6',z7',z8',z9'])/\Bk 24 bk'/\bk'.length=bk.length+ks.length:=by
 induction ks with
 | nil=>exact fun c room bk z6 z7 z8 z9 hr B _=>⟨c,room,bk,z6,z7,z8,z9,by simp [forL],⟨by have:=B.n;lia,B.az⟩,by simp⟩
 | cons k ks ih =>
  intro c room bk z6 z7 z8 z9 hr B hl
  rw [List.length_cons] at hl
  obtain ⟨c1,sz,t1,z1,hsr,B1,eb⟩:=rE sg hsg so many h0 h1 h2 k c room bk z7 z8 z9 hr B (by lia)
  obtain ⟨c',r',bk',z6',z7',z8',z9',e,B',hl'⟩:=ih c1 (room - sz) (bk++[t1]) (some (.pu (.int k))) (some (.pu (.int sz))) (some (.pu (.str t1))) z1 (by lia) B1 (by rw [Zj,List.length_singleton];lia)
  refine ⟨c',r',bk',z6',z7',z8',z9',?_,B',by rw [hl',Zj,List.length_singleton,List.length_cons];lia⟩
  rw [List.map_cons,bL rfl eb,e]
theorem fO {np nn:Nat} {b:Sx} {ts:List T} {v:Val} {η:Env} (hl:ts.length=np) (h:b (ts.map (fun t=>some (.pu t))++List.replicate (nn - np) none)=some (.rt v η)):fn np nn b ts=some v:=by
 unfold fn
 rw [if_pos hl]
 subst hl
 rw [h]
 rfl
theorem vK (c:Int):∃ bk:List Tx,br [.int c]=some (.fr,.lst (bk.map T.str))/\Bk 24 bk/\bk.length<=4:=by
 obtain ⟨sg,hs,hl,haz⟩:=qr c
 have a0:=Int.emod_nonneg (c / 130) (b:=8) (by decide)
 have a1:=Int.emod_lt_of_pos (c / 130) (b:=8) (by decide)
 have li:=fun m n=>ka (m:=m) (n:=n) T.int [1,2,3,4,2,3,4,26] (c / 130 % 8) 0 a0 (by simpa using a1) rfl
 simp only [List.map_cons,List.map_nil] at li
 obtain ⟨so,hso,s0,s1⟩:∃ so:Int,List.getD [1,2,3,4,2,3,4,26] (c / 130 % 8).toNat 0=so/\0 < so/\so<=26:=by
  have pk:∀ i,i < 8->0 < (List.getD [1,2,3,4,2,3,4,26] i 0:Int)/\(List.getD [1,2,3,4,2,3,4,26] i 0:Int)<=26:=by decide
  have h:=pk (c / 130 % 8).toNat (by lia)
  exact ⟨_,rfl,h.1,h.2⟩
 rw [hso] at li
 have b0:=Int.emod_nonneg (c / 1040) (b:=5) (by decide)
 have b1:=Int.emod_lt_of_pos (c / 1040) (b:=5) (by decide)
 obtain ⟨mn,hmn,m1⟩:∃ mn:Nat,c / 1040 % 5=(mn:Int)/\mn<=4:=⟨(c / 1040 % 5).toNat,by lia,by lia⟩
 obtain ⟨c',r',bk',z6',z7',z8',z9',e,B',hl'⟩:=DU sg haz so mn s0 (by lia) (by lia) (List.range mn) (c / 5200) 24 [] none none none none (Zt _) ⟨by simp,fun t ht=>by simp at ht⟩ (by rw [List.length_range];simp;lia)
 rw [List.length_range,List.length_nil,Nat.zero_add] at hl'
 refine ⟨bk',?_,B',by lia⟩
 unfold br
 refine fO rfl (η:=[some (.pu (.int c')),some (.pu (sgT sg)),some (.pu (.int so)),some (.pu (.int mn)),some (.pu (.int r')),none,z6',z7',z8',z9']) ?_
 refine (show ar _ _ [some (.pu (.int c)),none,none,none,none,none,none,none,none,none]=_ from ?_)
 rw [au (η1:=[some (.pu (.int c)),some (.pu (sgT sg)),none,none,none,none,none,none,none,none]) (by simp [hs])]
 rw [au (η1:=[some (.pu (.int c)),some (.pu (sgT sg)),some (.pu (.int so)),none,none,none,none,none,none,none]) (by simp [-aU,aQ (j:=8) (by decide),eT (j:=130) (by decide),fX,li])]
 rw [au (η1:=[some (.pu (.int c)),some (.pu (sgT sg)),some (.pu (.int so)),some (.pu (.int mn)),none,none,none,none,none,none]) (by simp [aQ (j:=5) (by decide),eT (j:=1040) (by decide),hmn])]
 rw [au (η1:=[some (.pu (.int (c / 5200))),some (.pu (sgT sg)),some (.pu (.int so)),some (.pu (.int mn)),none,none,none,none,none,none]) rfl]
 rw [au (η1:=[some (.pu (.int (c / 5200))),some (.pu (sgT sg)),some (.pu (.int so)),some (.pu (.int mn)),some (.pu (.int ((24:Nat):Int))),none,none,none,none,none]) rfl]
 rw [au (η1:=[some (.pu (.int (c / 5200))),some (.pu (sgT sg)),some (.pu (.int so)),some (.pu (.int mn)),some (.pu (.int ((24:Nat):Int))),some (.ow (.lst (([]:List Tx).map T.str))),none,none,none,none]) rfl]
 rw [au (show du _ _ _ _=_ from by
  rw [fD (lF (m:=.fr) (n:=mn) rfl (by lia))]
  exact e)]
 simp
theorem m9 {c:Ex} {a b:Sx} {η:Env} {m:Md} (h:c η=some (m,.bl true)):sIf c a b η=a η:=by simp [sIf,h]
theorem mE {c:Ex} {a b:Sx} {η:Env} {m:Md} (h:c η=some (m,.bl false)):sIf c a b η=b η:=by simp [sIf,h]
theorem sN (ns:List Int) (sg:List Nat) (hsg:Az sg) (most so room size:Int) (h0:0 < so) (h1:so<=sg.length) (bk:List T) (k back:Nat) (hk:k < 6) (hb:1<=back) (hb2:back<=5) (j:Nat) (hj:j < 200) (t:Tx) (ht:Az t) (hl:t.length<=1000) (z11:Option Cell) :
  ∃ x n,Az [x]/\bB [some (.pu (.scr ns)),some (.pu (.int most)),some (.pu (sgT sg)),some (.pu (.int so)),some (.pu (.int room)),some (.ow (.lst bk)),some (.pu (.int k)),some (.pu (.int size)),some (.pu (.int (back:Int))),some (.pu (.str t)),some (.pu (.int j)),z11] =
   some (.nx [some (.pu (.scr ns)),some (.pu (.int most)),some (.pu (sgT sg)),some (.pu (.int so)),some (.pu (.int room)),some (.ow (.lst bk)),some (.pu (.int k)),some (.pu (.int size)),some (.pu (.int (back:Int))),some (.pu (.str (t++[x]))),some (.pu (.int j)),some (.pu (.int n))]):=by
 obtain ⟨n,hn,n0,n1⟩:=fj ns (20 * (k:Int)+6+(j:Int)) (by lia) (by lia)
 unfold bB
 rw [au (η1:=[some (.pu (.scr ns)),some (.pu (.int most)),some (.pu (sgT sg)),some (.pu (.int so)),some (.pu (.int room)),some (.ow (.lst bk)),some (.pu (.int k)),some (.pu (.int size)),some (.pu (.int (back:Int))),some (.pu (.str t)),some (.pu (.int j)),some (.pu (.int n))]) (by simp [hn,d7 (i:=20) (by decide)])]
 by_cases p:(back:Int)<=(t.length:Int)/\0 < n % 4
 ·have ix:=fun m n=>wt (m:=m) (n:=n) t ((t.length:Int) - (back:Int)) (by lia) (by lia)
  have ad:∀ x m n,bP (m,.str t) (n,.str [x])=some (.fr,.str (t++[x])):=fun x m n=>iH (by simp;lia)
  refine ⟨t.getD ((t.length:Int) - (back:Int)).toNat 0,n,m7 ht (by lia),?_⟩
  rw [m9 (m:=.fr) (by simp [aQ (j:=4) (by decide),p.1,p.2])]
  simp [-aU,-List.getD_eq_getElem?_getD,ix,ad]
 ·have e0:=Int.emod_nonneg (n / 4) (b:=so) (by lia)
  have e1:=Int.emod_lt_of_pos (n / 4) (b:=so) h0
  have ix:=fun m n'=>vQ (m:=m) (n:=n') sg (n / 4 % so) e0 (by lia)
  have ad:∀ x m n,bP (m,.str t) (n,.str [x])=some (.fr,.str (t++[x])):=fun x m n=>iH (by simp;lia)
  refine ⟨sg.getD (n / 4 % so).toNat 0,n,m7 hsg (by lia),?_⟩
  rw [mE (m:=.fr) (by
   by_cases p1:(back:Int)<=(t.length:Int)
   ·have p2:¬ 0 < n % 4:=fun z=>p ⟨p1,z⟩
    simp [aQ (j:=4) (by decide),p1,p2]
   ·simp [aQ (j:=4) (by decide),p1])]
  simp [-aU,-List.getD_eq_getElem?_getD,eT (j:=4) (by decide),aQ h0,ix,ad]
theorem DQ (ns:List Int) (sg:List Nat) (hsg:Az sg) (most so room size:Int) (h0:0 < so) (h1:so<=sg.length) (bk:List T) (k back:Nat) (hk:k < 6) (hb:1<=back) (hb2:back<=5) (js:List Nat):∀ (t:Tx) (z10 z11:Option Cell),(∀ j∈js,j < 200)->t.length+js.length<=1000->Az t →
  ∃ t' z10' z11',forL (bh 10) bB (js.map fun (j:Nat)=>T.int (j:Int)) [some (.pu (.scr ns)),some (.pu (.int most)),some (.pu (sgT sg)),some (.pu (.int so)),some (.pu (.int room)),some (.ow (.lst bk)),some (.pu (.int k)),some (.pu (.int size)),some (.pu (.int (back:Int))),some (.pu (.str t)),z10,z11] =
   some (.nx [some (.pu (.scr ns)),some (.pu (.int most)),some (.pu (sgT sg)),some (.pu (.int so)),some (.pu (.int room)),some (.ow (.lst bk)),some (.pu (.int k)),some (.pu (.int size)),some (.pu (.int (back:Int))),some (.pu (.str t')),z10',z11'])/\t'.length=t.length+js.length/\Az t':=by
 induction js with
 | nil=>exact fun t z10 z11 _ _ ht=>⟨t,z10,z11,by simp [forL],by simp,ht⟩
 | cons j js ih =>
  intro t z10 z11 hj hl ht
  rw [List.length_cons] at hl
  obtain ⟨x,n,hx,eb⟩:=sN ns sg hsg most so room size h0 h1 bk k back hk hb hb2 j (hj j Zv) t ht (by lia) z11
  obtain ⟨t',a,b,e,hl',ht'⟩:=ih (t++[x]) (some (.pu (.int j))) (some (.pu (.int n))) (fun i hi=>hj i (Zw _ hi)) (by rw [Zj,List.length_singleton];lia) (ht.app hx)
  refine ⟨t',a,b,?_,by rw [hl',Zj,List.length_singleton,List.length_cons];lia,ht'⟩
  rw [List.map_cons,bL rfl eb,e]
theorem qu (t:Tx) (i L:Nat) (h:i<=t.length):cut t (some (i:Int)) (some ((i:Int)+(L:Int)))=(t.drop i).take L:=by
 have h1:¬ ((i:Int) < 0):=by lia
 have h2:¬ ((i:Int)+(L:Int) < 0):=by lia
 simp only [cut,clip,if_neg h1,if_neg h2,Int.toNat_natCast]
 rw [show ((i:Int)+(L:Int)).toNat=i+L by lia,Nat.min_eq_left h]
 by_cases q:i+L<=t.length
 ·rw [Nat.min_eq_left q,show i+L - i=L by lia]
 ·rw [Nat.min_eq_right (by lia),List.take_of_length_le (l:=t.drop i) (by simp),List.take_of_length_le (l:=t.drop i) (by simp;lia)]
theorem sL (ns:List Int) (sg:List Nat) (hsg:Az sg) (most so:Int) (hm0:0<=most) (hm1:most<=120) (h0:0 < so) (h1:so<=sg.length) (k:Nat) (hk:k < 6) (room:Nat) (hr:(room:Int)<=most) (bk:List Tx) (B:Bk (most.toNat - room) bk) (hl:bk.length<=100) (z7 z8 z9 z10 z11:Option Cell) :
  ∃ (room':Nat) (bk':List Tx) (y7 y8 y9 y10 y11:Option Cell),room'<=room/\Bk (most.toNat - room') bk'/\bk'.length<=bk.length+2/\b6 [some (.pu (.scr ns)),some (.pu (.int most)),some (.pu (sgT sg)),some (.pu (.int so)),some (.pu (.int (room:Int))),some (.ow (.lst (bk.map T.str))),some (.pu (.int k)),z7,z8,z9,z10,z11] =
   some (.nx [some (.pu (.scr ns)),some (.pu (.int most)),some (.pu (sgT sg)),some (.pu (.int so)),some (.pu (.int (room':Int))),some (.ow (.lst (bk'.map T.str))),some (.pu (.int k)),y7,y8,y9,y10,y11]):=by
 obtain ⟨n4,hn4,n40,n41⟩:=fj ns (20 * (k:Int)+4) (by lia) (by lia)
 obtain ⟨n5,hn5,n50,n51⟩:=fj ns (20 * (k:Int)+5) (by lia) (by lia)
 have e0:=Int.emod_nonneg n4 (b:=most+1) (by lia)
 have e1:=Int.emod_lt_of_pos n4 (b:=most+1) (by lia)
 have f0:=Int.emod_nonneg n5 (b:=5) (by decide)
 have f1:=Int.emod_lt_of_pos n5 (b:=5) (by decide)
 obtain ⟨sz,hsz,hsr⟩:∃ sz:Nat,(if n4 % (most+1) < (room:Int) then n4 % (most+1) else (room:Int))=(sz:Int)/\sz<=room:=by
  by_cases h:n4 % (most+1) < (room:Int)
  ·exact ⟨(n4 % (most+1)).toNat,by rw [if_pos h];lia,by lia⟩
  ·exact ⟨room,by rw [if_neg h],Zt _⟩
 have er:((room:Int) - (sz:Int))=((room - sz:Nat):Int):=by lia
 generalize ht:(room - sz:Nat)=r1 at er
 obtain ⟨bc,hbc,c0,c1⟩:∃ bc:Nat,1+n5 % 5=(bc:Int)/\1<=bc/\bc<=5:=⟨(1+n5 % 5).toNat,by lia,by lia,by lia⟩
 obtain ⟨t1,y10,y11,ee,hl1,ht1⟩:=DQ ns sg hsg most so (r1:Int) (sz:Int) h0 h1 (bk.map T.str) k bc hk c0 c1 (List.range sz) [] z10 z11 (fun j hj=>by have:=List.mem_range.mp hj;lia) (by rw [List.length_range];simp;lia) (fun x hx=>by simp at hx)
 rw [List.length_range,List.length_nil,Nat.zero_add] at hl1
 have B1:Bk (most.toNat - r1) (bk++[t1]):=B.snoc (by lia) ht1
 have ap:=iZ (i:=5) (e:=ah 9) (t:=.str t1) (l:=bk.map T.str) (η:=[some (.pu (.scr ns)),some (.pu (.int most)),some (.pu (sgT sg)),some (.pu (.int so)),some (.pu (.int (r1:Int))),some (.ow (.lst (bk.map T.str))),some (.pu (.int k)),some (.pu (.int (sz:Int))),some (.pu (.int (bc:Int))),some (.pu (.str t1)),y10,y11]) rfl (by simp) (by rw [Zk];lia)
 have fo:du (bh 10) (bK (ah 7)) bB [some (.pu (.scr ns)),some (.pu (.int most)),some (.pu (sgT sg)),some (.pu (.int so)),some (.pu (.int (r1:Int))),some (.ow (.lst (bk.map T.str))),some (.pu (.int k)),some (.pu (.int (sz:Int))),some (.pu (.int (bc:Int))),some (.pu (.str [])),z10,z11]=some (.nx [some (.pu (.scr ns)),some (.pu (.int most)),some (.pu (sgT sg)),some (.pu (.int so)),some (.pu (.int (r1:Int))),some (.ow (.lst (bk.map T.str))),some (.pu (.int k)),some (.pu (.int (sz:Int))),some (.pu (.int (bc:Int))),some (.pu (.str t1)),y10,y11]):=by
  rw [fD (lF (m:=.fr) (n:=sz) (by simp) (by lia))]
  exact ee
 unfold b6
 rw [au (η1:=[some (.pu (.scr ns)),some (.pu (.int most)),some (.pu (sgT sg)),some (.pu (.int so)),some (.pu (.int (room:Int))),some (.ow (.lst (bk.map T.str))),some (.pu (.int k)),some (.pu (.int (sz:Int))),z8,z9,z10,z11]) (by simp [hn4,aQ (show 0 < most+1 by lia),hsz,d7 (i:=20) (by decide)])]
 rw [au (η1:=[some (.pu (.scr ns)),some (.pu (.int most)),some (.pu (sgT sg)),some (.pu (.int so)),some (.pu (.int (r1:Int))),some (.ow (.lst (bk.map T.str))),some (.pu (.int k)),some (.pu (.int (sz:Int))),z8,z9,z10,z11]) (by simp [er])]
 rw [au (η1:=[some (.pu (.scr ns)),some (.pu (.int most)),some (.pu (sgT sg)),some (.pu (.int so)),some (.pu (.int (r1:Int))),some (.ow (.lst (bk.map T.str))),some (.pu (.int k)),some (.pu (.int (sz:Int))),some (.pu (.int (bc:Int))),z9,z10,z11]) (by simp [hn5,aQ (j:=5) (by decide),hbc,d7 (i:=20) (by decide)])]
 rw [au (η1:=[some (.pu (.scr ns)),some (.pu (.int most)),some (.pu (sgT sg)),some (.pu (.int so)),some (.pu (.int (r1:Int))),some (.ow (.lst (bk.map T.str))),some (.pu (.int k)),some (.pu (.int (sz:Int))),some (.pu (.int (bc:Int))),some (.pu (.str [])),z10,z11]) (by simp)]
 rw [au fo,au (η1:=[some (.pu (.scr ns)),some (.pu (.int most)),some (.pu (sgT sg)),some (.pu (.int so)),some (.pu (.int (r1:Int))),some (.ow (.lst ((bk++[t1]).map T.str))),some (.pu (.int k)),some (.pu (.int (sz:Int))),some (.pu (.int (bc:Int))),some (.pu (.str t1)),y10,y11]) (by rw [ap];simp)]
 by_cases p:(2:Int) < (sz:Int)/\n5 % 3=0/\(2:Int)<=(r1:Int)
 ·have cu:cut t1 (some 1) (some 3)=(t1.drop 1).take 2:=qu t1 1 2 (by lia)
  have az2:Az ((t1.drop 1).take 2):=fun x hx=>ht1 x (List.mem_of_mem_drop (List.mem_of_mem_take hx))
  have l2:((t1.drop 1).take 2).length<=2:=by rw [List.length_take];lia
  have ap2:=iZ (i:=5) (e:=eSl (ah 9) (some (eC (.int 1))) (some (eC (.int 3)))) (t:=.str ((t1.drop 1).take 2)) (l:=(bk++[t1]).map T.str) (η:=[some (.pu (.scr ns)),some (.pu (.int most)),some (.pu (sgT sg)),some (.pu (.int so)),some (.pu (.int (r1:Int))),some (.ow (.lst ((bk++[t1]).map T.str))),some (.pu (.int k)),some (.pu (.int (sz:Int))),some (.pu (.int (bc:Int))),some (.pu (.str t1)),y10,y11]) rfl (by simp [cu]) (by rw [Zk,Zj,List.length_singleton];lia)
  refine ⟨r1 - 2,bk++[t1]++[(t1.drop 1).take 2],some (.pu (.int (sz:Int))),some (.pu (.int (bc:Int))),some (.pu (.str t1)),y10,y11,by lia,B1.snoc (by lia) az2,by simp,?_⟩
  rw [m9 (m:=.fr) (by simp [hn5,aQ (j:=3) (by decide),p.1,p.2.1,p.2.2,d7 (i:=20) (by decide)])]
  rw [au (η1:=[some (.pu (.scr ns)),some (.pu (.int most)),some (.pu (sgT sg)),some (.pu (.int so)),some (.pu (.int (r1:Int))),some (.ow (.lst ((bk++[t1]++[(t1.drop 1).take 2]).map T.str))),some (.pu (.int k)),some (.pu (.int (sz:Int))),some (.pu (.int (bc:Int))),some (.pu (.str t1)),y10,y11]) (by rw [ap2];simp)]
  have e2':((r1:Int) - 2)=((r1 - 2:Nat):Int):=by lia
  simp [e2']
 ·refine ⟨r1,bk++[t1],some (.pu (.int (sz:Int))),some (.pu (.int (bc:Int))),some (.pu (.str t1)),y10,y11,by lia,B1,by simp,?_⟩
  rw [mE (m:=.fr) (by
   by_cases p1:(2:Int) < (sz:Int)
   ·by_cases p2:n5 % 3=0
    ·have p3:¬ (2:Int)<=(r1:Int):=fun z=>p ⟨p1,p2,z⟩
     simp [hn5,aQ (j:=3) (by decide),p1,p2,p3,d7 (i:=20) (by decide)]
    ·have q2:(n5 % 3 == 0)=false:=by simpa using p2
     simp [hn5,aQ (j:=3) (by decide),p1,q2,d7 (i:=20) (by decide)]
   ·simp [p1])]
  simp
theorem El (ns:List Int) (sg:List Nat) (hsg:Az sg) (most so:Int) (hm0:0<=most) (hm1:most<=120) (h0:0 < so) (h1:so<=sg.length) (ks:List Nat):∀ (room:Nat) (bk:List Tx) (z6 z7 z8 z9 z10 z11:Option Cell),(∀ k∈ks,k < 6)->(room:Int)<=most->Bk (most.toNat - room) bk->bk.length+2 * ks.length<=100 →
  ∃ (room':Int) (bk':List Tx) (y6 y7 y8 y9 y10 y11:Option Cell),Bk most.toNat bk'/\bk'.length<=bk.length+2 * ks.length/\forL (bh 6) b6 (ks.map fun (k:Nat)=>T.int (k:Int)) [some (.pu (.scr ns)),some (.pu (.int most)),some (.pu (sgT sg)),some (.pu (.int so)),some (.pu (.int (room:Int))),some (.ow (.lst (bk.map T.str))),z6,z7,z8,z9,z10,z11] =
   some (.nx [some (.pu (.scr ns)),some (.pu (.int most)),some (.pu (sgT sg)),some (.pu (.int so)),some (.pu (.int room')),some (.ow (.lst (bk'.map T.str))),y6,y7,y8,y9,y10,y11]):=by
 induction ks with
 | nil=>exact fun room bk z6 z7 z8 z9 z10 z11 _ hr B _=>⟨room,bk,z6,z7,z8,z9,z10,z11,⟨by have:=B.n;lia,B.az⟩,by simp,by simp [forL]⟩
 | cons k ks ih =>
  intro room bk z6 z7 z8 z9 z10 z11 hk hr B hl
  rw [List.length_cons] at hl
  obtain ⟨r1,b1,y7,y8,y9,y10,y11,hr1,B1,hl1,eb⟩:=sL ns sg hsg most so hm0 hm1 h0 h1 k (hk k Zv) room hr bk B (by lia) z7 z8 z9 z10 z11
  obtain ⟨r2,b2,x6,x7,x8,x9,x10,x11,B2,hl2,e⟩:=ih r1 b1 (some (.pu (.int k))) y7 y8 y9 y10 y11 (fun i hi=>hk i (Zw _ hi)) (by lia) B1 (by lia)
  refine ⟨r2,b2,x6,x7,x8,x9,x10,x11,B2,by rw [List.length_cons];lia,?_⟩
  rw [List.map_cons,bL rfl eb,e]
theorem D9 {α:Type} (l:List α):cut l none (some 8)=l.take 8:=by
 simp only [cut,clip]
 by_cases h:8<=l.length
 ·simp [Nat.min_eq_left h]
 ·simp [Nat.min_eq_right (Nat.le_of_lt (Nat.lt_of_not_le h))]
  rw [List.take_of_length_le (by lia)]
theorem Bk.take {m:Nat} {bk:List Tx} (B:Bk m bk) (n:Nat):Bk m (bk.take n):=by
 refine ⟨?_,fun t ht=>B.az t (List.mem_of_mem_take ht)⟩
 have h:bk.flatten=(bk.take n).flatten++(bk.drop n).flatten:=by rw [← List.flatten_append,List.take_append_drop]
 have:=B.n
 rw [h,Zj] at this
 lia
theorem t9 (l:List Tx):d5 (l.map T.str)=true:=by
 induction l with
 | nil=>rfl
 | cons a l ih=>simpa [d5,imm] using ih
theorem wo (ns:List Int) (most:Int) (hm0:0<=most) (hm1:most<=120):∃ bk:List Tx,b9 [.scr ns,.int most]=some (.fr,.lst (bk.map T.str))/\Bk most.toNat bk/\bk.length<=8:=by
 obtain ⟨n1,hn1,_,_⟩:=fj ns 1 (by lia) (by lia)
 obtain ⟨n2,hn2,_,_⟩:=fj ns 2 (by lia) (by lia)
 obtain ⟨n3,hn3,_,_⟩:=fj ns 3 (by lia) (by lia)
 obtain ⟨sg,hs,hl,haz⟩:=qr n1
 have a0:=Int.emod_nonneg n2 (b:=8) (by decide)
 have a1:=Int.emod_lt_of_pos n2 (b:=8) (by decide)
 have li:=fun m n=>ka (m:=m) (n:=n) T.int [1,2,3,4,2,3,9,26] (n2 % 8) 0 a0 (by simpa using a1) rfl
 simp only [List.map_cons,List.map_nil] at li
 obtain ⟨so,hso,s0,s1⟩:∃ so:Int,List.getD [1,2,3,4,2,3,9,26] (n2 % 8).toNat 0=so/\0 < so/\so<=26:=by
  have pk:∀ i,i < 8->0 < (List.getD [1,2,3,4,2,3,9,26] i 0:Int)/\(List.getD [1,2,3,4,2,3,9,26] i 0:Int)<=26:=by decide
  have h:=pk (n2 % 8).toNat (by lia)
  exact ⟨_,rfl,h.1,h.2⟩
 rw [hso] at li
 have b0:=Int.emod_nonneg n3 (b:=6) (by decide)
 have b1:=Int.emod_lt_of_pos n3 (b:=6) (by decide)
 obtain ⟨mn,hmn,m1⟩:∃ mn:Nat,n3 % 6=(mn:Int)/\mn < 6:=⟨(n3 % 6).toNat,by lia,by lia⟩
 obtain ⟨rm,hrm⟩:∃ rm:Nat,most=(rm:Int):=⟨most.toNat,by lia⟩
 obtain ⟨r2,b2,x6,x7,x8,x9,x10,x11,B2,hl2,e⟩:=El ns sg haz most so hm0 hm1 s0 (by lia) (List.range mn) rm [] none none none none none none (fun k hk=>by have:=List.mem_range.mp hk;lia) (by lia) ⟨by simp,fun t ht=>by simp at ht⟩ (by rw [List.length_range];simp;lia)
 refine ⟨b2.take 8,?_,B2.take 8,by rw [List.length_take];lia⟩
 unfold b9
 refine fO rfl (η:=[some (.pu (.scr ns)),some (.pu (.int most)),some (.pu (sgT sg)),some (.pu (.int so)),some (.pu (.int r2)),some (.pu (.lst (b2.map T.str))),x6,x7,x8,x9,x10,x11]) ?_
 refine (show ar _ _ [some (.pu (.scr ns)),some (.pu (.int most)),none,none,none,none,none,none,none,none,none,none]=_ from ?_)
 rw [au (η1:=[some (.pu (.scr ns)),some (.pu (.int most)),some (.pu (sgT sg)),none,none,none,none,none,none,none,none,none]) (by simp [hn1,hs])]
 rw [au (η1:=[some (.pu (.scr ns)),some (.pu (.int most)),some (.pu (sgT sg)),some (.pu (.int so)),none,none,none,none,none,none,none,none]) (by simp [-aU,hn2,aQ (j:=8) (by decide),fX,li])]
 rw [au (η1:=[some (.pu (.scr ns)),some (.pu (.int most)),some (.pu (sgT sg)),some (.pu (.int so)),some (.pu (.int (rm:Int))),none,none,none,none,none,none,none]) (by simp [hrm])]
 rw [au (η1:=[some (.pu (.scr ns)),some (.pu (.int most)),some (.pu (sgT sg)),some (.pu (.int so)),some (.pu (.int (rm:Int))),some (.ow (.lst (([]:List Tx).map T.str))),none,none,none,none,none,none]) rfl]
 rw [au (show du _ _ _ _=_ from by
  rw [fD (lF (m:=.fr) (n:=mn) (by simp [hn3,aQ (j:=6) (by decide),hmn]) (by lia))]
  exact e)]
 rw [au (η1:=[some (.pu (.scr ns)),some (.pu (.int most)),some (.pu (sgT sg)),some (.pu (.int so)),some (.pu (.int r2)),some (.pu (.lst (b2.map T.str))),x6,x7,x8,x9,x10,x11]) (by simp [tL])]
 have mk:mkL .pu ((b2.take 8).map T.str)=some (.fr,.lst ((b2.take 8).map T.str)):=by
  unfold mkL
  rw [if_pos (show ((b2.take 8).map T.str).length<=eW by rw [Zk,List.length_take];show _<=16777216;lia),if_pos (t9 _)]
 simp [D9,← List.map_take,mk]
theorem Bk.up {m n:Nat} {bk:List Tx} (B:Bk m bk) (h:m<=n):Bk n bk:=⟨Nat.le_trans B.n h,B.az⟩
theorem A8 (ns:List Int):∃ bk:List Tx,cZ [.scr ns,.int 24]=some (.fr,.lst (bk.map T.str))/\Bk 120 bk/\bk.length<=8:=by
 obtain ⟨c,hc⟩:=Ae ns
 obtain ⟨n0,hn0,_,_⟩:=fj ns 0 (by lia) (by lia)
 by_cases p:c % 2=0
 ·obtain ⟨bk,hb,B,hl⟩:=vK (c / 2)
  refine ⟨bk,?_,B.up (by lia),by lia⟩
  unfold cZ
  refine fO rfl (η:=[some (.pu (.scr ns)),some (.pu (.int 24))]) ?_
  refine (show ar _ _ [some (.pu (.scr ns)),some (.pu (.int 24))]=_ from ?_)
  have st:(sIf (e2 oEq (e2 oMod (aT bw (af (ah 0) (af (eC (.int 0)) av))) (eC (.int 2))) (eC (.int 0))) (d9 (aT br (af (e2 dY (aT bw (af (ah 0) (af (eC (.int 0)) av))) (eC (.int 2))) av))) gu) [some (.pu (.scr ns)),some (.pu (.int 24))]=some (.rt (.fr,.lst (bk.map T.str)) [some (.pu (.scr ns)),some (.pu (.int 24))]):=by
   rw [m9 (m:=.fr) (by simp [hc,aQ (j:=2) (by decide),p])]
   simp [hc,eT (j:=2) (by decide),hb]
  unfold ar
  rw [st]
  rfl
 ·have q2:(c % 2 == 0)=false:=by simpa using p
  have st1:(sIf (e2 oEq (e2 oMod (aT bw (af (ah 0) (af (eC (.int 0)) av))) (eC (.int 2))) (eC (.int 0))) (d9 (aT br (af (e2 dY (aT bw (af (ah 0) (af (eC (.int 0)) av))) (eC (.int 2))) av))) gu) [some (.pu (.scr ns)),some (.pu (.int 24))]=some (.nx [some (.pu (.scr ns)),some (.pu (.int 24))]):=by
   rw [mE (m:=.fr) (by simp [hc,aQ (j:=2) (by decide),q2])]
   simp
  have a0:=Int.emod_nonneg n0 (b:=4) (by decide)
  have a1:=Int.emod_lt_of_pos n0 (b:=4) (by decide)
  have li:=fun m n=>ka (m:=m) (n:=n) T.int [24,24,24,24] (n0 % 4) 0 a0 (by simpa using a1) rfl
  simp only [List.map_cons,List.map_nil] at li
  obtain ⟨mo,hmo,m0,m1⟩:∃ mo:Int,List.getD [24,24,24,24] (n0 % 4).toNat 0=mo/\0<=mo/\mo<=120:=by
   have pk:∀ i,i < 4->0<=(List.getD [24,24,24,24] i 0:Int)/\(List.getD [24,24,24,24] i 0:Int)<=120:=by decide
   have h:=pk (n0 % 4).toNat (by lia)
   exact ⟨_,rfl,h.1,h.2⟩
  rw [hmo] at li
  obtain ⟨bk,hb,B,hl⟩:=wo ns mo m0 m1
  refine ⟨bk,?_,B.up (by lia),hl⟩
  unfold cZ
  refine fO rfl (η:=[some (.pu (.scr ns)),some (.pu (.int 24))]) ?_
  refine (show ar _ _ [some (.pu (.scr ns)),some (.pu (.int 24))]=_ from ?_)
  rw [au st1]
  simp [-aU,hn0,aQ (j:=4) (by decide),fX,li,hb]
noncomputable abbrev Pl:=Nat×Nat
noncomputable def tP (p:Pl):T:=.tup [.int p.1,.int p.2]
noncomputable abbrev Fd:=List (Tx×List Pl)
noncomputable def dT (d:Fd):List (T×T):=d.map fun p=>(T.str p.1,T.lst (p.2.map tP))
noncomputable def cM:Fd->Tx->Pl->Fd
 | [],w,p=>[(w,[p])]
 | (x,l) :: d,w,p=>if x=w then (x,l++[p]) :: d else (x,l) :: cM d w p
noncomputable def p6 (f:T->Option (T×Val)) (w:Tx) (L:List (T×T)):Option (List (T×T)):=(L.findIdx? fun q=>eqT q.1 (.str w)).bind fun i=>(L[i]?).bind fun q=>(f q.2).map fun z=>L.set i (q.1,z.1)
theorem tW {f:T->Option (T×Val)} {w:Tx} {a:T×T} {L:List (T×T)} (h:eqT a.1 (.str w)=false):p6 f w (a :: L)=(p6 f w L).map (a :: ·):=by
 unfold p6
 rw [List.findIdx?_cons,if_neg (by rw [h];simp)]
 cases e:L.findIdx? fun q=>eqT q.1 (.str w) with
 | none=>rfl
 | some i =>
  simp only [Option.map_some,Option.bind_some,List.getElem?_cons_succ]
  cases e2:L[i]? with
  | none=>rfl
  | some q =>
   simp only [Option.bind_some]
   cases f q.2 with
   | none=>rfl
   | some z=>rfl
theorem nC {f:T->Option (T×Val)} {w:Tx} {a:T×T} {L:List (T×T)} (h:eqT a.1 (.str w)=true):p6 f w (a :: L)=(f a.2).map fun z=>(a.1,z.1) :: L:=by
 unfold p6
 rw [List.findIdx?_cons,if_pos h]
 rfl
theorem ou {k:T} {a:T×T} {L:List (T×T)} (h:eqT a.1 k=false):cy (a :: L) k=a :: cy L k:=by
 unfold cy bT
 rw [List.find?_cons,h]
 dsimp only
 by_cases q:(Option.map (fun x=>x.2) (L.find? fun p=>eqT p.1 k)).isSome=true
 ·rw [if_pos q,if_pos q]
 ·rw [if_neg q,if_neg q]
  rfl
theorem pR {k:T} {a:T×T} {L:List (T×T)} (h:eqT a.1 k=true):cy (a :: L) k=a :: L:=by
 unfold cy bT
 rw [List.find?_cons,h]
 rfl
theorem mG (d:Fd) (w:Tx) (p:Pl) (hl:∀ q∈d,q.2.length < 16777216):p6 (fun x=>aW x [(.fr,tP p)]) w (cy (dT d) (.str w))=some (dT (cM d w p)):=by
 induction d with
 | nil =>
  have:cy (dT []) (.str w)=[(.str w,.lst [])]:=rfl
  rw [this,nC (by simp),eg (by decide)]
  rfl
 | cons a d ih =>
  obtain ⟨x,l⟩:=a
  by_cases e:x=w
  ·subst e
   have h:eqT (T.str x) (.str x)=true:=by simp
   rw [show dT ((x,l) :: d)=(T.str x,T.lst (l.map tP)) :: dT d from rfl,pR h,nC h,eg (by rw [Zk];exact hl (x,l) Zv)]
   simp [cM,dT]
  ·have h:eqT (T.str x) (.str w)=false:=by simpa using e
   rw [show dT ((x,l) :: d)=(T.str x,T.lst (l.map tP)) :: dT d from rfl,ou h,tW h,ih fun q hq=>hl q (Zw _ hq)]
   simp [cM,dT,e]
theorem tj {i:Nat} {ck:Ex} {cv:Ex} {η:Env} {d:Fd} {w:Tx} {p:Pl} {m:Md} (h:η[i]?=some (some (.ow (.dct 0 (dT d))))) (hk:ck η=some (m,.str w)) (hv:∀ c,cv (η.set i c)=some (.fr,tP p)) (hl:∀ q∈d,q.2.length < 16777216) (hd:d.length < 16777216) :
  gW i ck (af cv av) η=some (.nx (η.set i (some (.ow (.dct 0 (dT (cM d w p))))))):=by
 unfold gW
 simp only [h]
 rw [hk,Option.bind_some,if_pos ⟨rfl,by rw [dT,Zk];exact hd⟩]
 have e:af cv av (η.set i (some (.ow (.dct 0 (cy (dT d) (.str w))))))=some [(.fr,tP p)]:=by simp [hv]
 rw [e,Option.bind_some]
 have pk:=mG d w p hl
 unfold p6 at pk
 obtain ⟨j,h1,pk⟩:=Zx.mp pk
 obtain ⟨q,h2,pk⟩:=Zx.mp pk
 obtain ⟨z,h3,pk⟩:=Zq.mp pk
 have hp:pm (fun x=>aW x [(.fr,tP p)]) [.at (.str w)] (.dct 0 (cy (dT d) (.str w)))=some (.dct 0 (dT (cM d w p)),z.2):=by
  show (if eO (.str w) then _ else none)=_
  rw [if_pos (show eO (.str w)=true from rfl),h1,Option.bind_some,h2,Option.bind_some]
  show (aW q.2 [(.fr,tP p)]).map _=_
  rw [show aW q.2 [(.fr,tP p)]=some z from h3,Option.map_some,pk]
 rw [hp]
 rfl
noncomputable def Sz (N:Nat) (d:Fd):Prop:=d.length<=N/\∀ q∈d,q.2.length<=N
theorem vF (d:Fd) (w:Tx) (p:Pl):(cM d w p).length<=d.length+1:=by
 induction d with
 | nil=>simp [cM]
 | cons a d ih =>
  obtain ⟨x,l⟩:=a
  unfold cM
  split
  ·simp
  ·simp only [List.length_cons];lia
theorem uH (d:Fd) (w:Tx) (p:Pl) (N:Nat) (h:∀ q∈d,q.2.length<=N):∀ q∈cM d w p,q.2.length<=N+1:=by
 induction d with
 | nil=>intro q hq;simp [cM] at hq;rw [hq];simp
 | cons a d ih =>
  obtain ⟨x,l⟩:=a
  have h1:=h (x,l) Zv
  have ih:=ih fun q hq=>h q (Zw _ hq)
  unfold cM
  split
  ·intro q hq
   rcases Zg.mp hq with rfl | hq
   ·simp only [Zj,List.length_singleton];simp only at h1;lia
   ·have:=h q (Zw _ hq);lia
  ·intro q hq
   rcases Zg.mp hq with rfl | hq
   ·simp only at h1 ⊢;lia
   ·exact ih q hq
theorem Sz.add {N:Nat} {d:Fd} (h:Sz N d) (w:Tx) (p:Pl):Sz (N+1) (cM d w p):=⟨by have:=vF d w p;have:=h.1;lia,uH d w p N h.2⟩
noncomputable def adds (n:Nat) (t:Tx) (e:Nat) (ss:List Nat) (d:Fd):Fd:=ss.foldl (fun d s=>cM d ((t.drop s).take (e - s)) (n,e)) d
theorem pl1 (bk:T) (n:Nat) (t:Tx) (e:Nat) (he:e<=t.length) (ss:List Nat):∀ (d:Fd) (N:Nat) (z:Option Cell),(∀ s∈ss,s<=e)->Sz N d->N+ss.length < 16777216 →
  ∃ z',forL (bh 5) cR (ss.map fun (s:Nat)=>T.int (s:Int)) [some (.pu bk),some (.ow (.dct 0 (dT d))),some (.pu (.int n)),some (.pu (.str t)),some (.pu (.int e)),z] =
   some (.nx [some (.pu bk),some (.ow (.dct 0 (dT (adds n t e ss d)))),some (.pu (.int n)),some (.pu (.str t)),some (.pu (.int e)),z'])/\Sz (N+ss.length) (adds n t e ss d):=by
 induction ss with
 | nil=>exact fun d N z _ h _=>⟨z,by simp [forL,adds],by simpa [adds] using h⟩
 | cons s ss ih =>
  intro d N z hs h hN
  rw [List.length_cons] at hN
  have hse:s<=e:=hs s Zv
  have cu:cut t (some (s:Int)) (some (e:Int))=(t.drop s).take (e - s):=by
   have:=qu t s (e - s) (by lia)
   rwa [show ((s:Int)+((e - s:Nat):Int))=(e:Int) by lia] at this
  obtain ⟨z',ee,hz⟩:=ih (cM d ((t.drop s).take (e - s)) (n,e)) (N+1) (some (.pu (.int s))) (fun i hi=>hs i (Zw _ hi)) (h.add _ _) (by lia)
  refine ⟨z',?_,by rw [List.length_cons];rw [show N+(ss.length+1)=N+1+ss.length by lia];exact hz⟩
  have bo:cR [some (.pu bk),some (.ow (.dct 0 (dT d))),some (.pu (.int n)),some (.pu (.str t)),some (.pu (.int e)),some (.pu (.int s))] =
    some (.nx [some (.pu bk),some (.ow (.dct 0 (dT (cM d ((t.drop s).take (e - s)) (n,e))))),some (.pu (.int n)),some (.pu (.str t)),some (.pu (.int e)),some (.pu (.int s))]):=by
   unfold cR
   rw [tj (d:=d) (w:=(t.drop s).take (e - s)) (p:=(n,e)) (m:=.fr) rfl (by simp [cu]) (fun c=>by simp [kC,tP,up,imm,d5]) (fun q hq=>by have:=h.2 q hq;lia) (by have:=h.1;lia)]
   simp
  rw [List.map_cons,bL rfl bo,ee]
  rfl
noncomputable def fZ (n:Nat) (t:Tx) (es:List Nat) (d:Fd):Fd:=es.foldl (fun d e=>adds n t e (List.range (e+1)) d) d
theorem pl2 (bk:T) (n:Nat) (t:Tx) (ht:t.length<=120) (es:List Nat):∀ (d:Fd) (N:Nat) (z4 z5:Option Cell),(∀ e∈es,e<=t.length)->Sz N d->N+121 * es.length < 16777216 →
  ∃ z4' z5',forL (bh 4) cV (es.map fun (e:Nat)=>T.int (e:Int)) [some (.pu bk),some (.ow (.dct 0 (dT d))),some (.pu (.int n)),some (.pu (.str t)),z4,z5] =
   some (.nx [some (.pu bk),some (.ow (.dct 0 (dT (fZ n t es d)))),some (.pu (.int n)),some (.pu (.str t)),z4',z5'])/\Sz (N+121 * es.length) (fZ n t es d):=by
 induction es with
 | nil=>exact fun d N z4 z5 _ h _=>⟨z4,z5,by simp [forL,fZ],by simpa [fZ] using h⟩
 | cons e es ih =>
  intro d N z4 z5 hs h hN
  rw [List.length_cons] at hN
  have he:e<=t.length:=hs e Zv
  obtain ⟨y5,e1,h1⟩:=pl1 bk n t e he (List.range (e+1)) d N z5 (fun s hs=>by have:=List.mem_range.mp hs;lia) h (by rw [List.length_range];lia)
  rw [List.length_range] at h1
  have h2:Sz (N+121) (adds n t e (List.range (e+1)) d):=⟨by have:=h1.1;lia,fun q hq=>by have:=h1.2 q hq;lia⟩
  obtain ⟨x4,x5,ee,hz⟩:=ih (adds n t e (List.range (e+1)) d) (N+121) (some (.pu (.int e))) y5 (fun i hi=>hs i (Zw _ hi)) h2 (by lia)
  refine ⟨x4,x5,?_,by rw [List.length_cons,show N+121 * (es.length+1)=N+121+121 * es.length by lia];exact hz⟩
  have bo:cV [some (.pu bk),some (.ow (.dct 0 (dT d))),some (.pu (.int n)),some (.pu (.str t)),some (.pu (.int e)),z5] =
    some (.nx [some (.pu bk),some (.ow (.dct 0 (dT (adds n t e (List.range (e+1)) d)))),some (.pu (.int n)),some (.pu (.str t)),some (.pu (.int e)),y5]):=by
   unfold cV
   rw [fD (lF (m:=.fr) (n:=e+1) rfl (by lia))]
   exact e1
  rw [List.map_cons,bL rfl bo,ee]
  rfl
theorem pl3 (bk:T) (n:Nat) (t:Tx) (ht:t.length<=120) (d:Fd) (N:Nat) (z4 z5:Option Cell) (h:Sz N d) (hN:N+14641 < 16777216):∃ z4' z5',b8 [some (.pu bk),some (.ow (.dct 0 (dT d))),some (.pu (.int n)),some (.pu (.str t)),z4,z5] =
   some (.nx [some (.pu bk),some (.ow (.dct 0 (dT (fZ n t (List.range (t.length+1)) d)))),some (.pu (.int n)),some (.pu (.str t)),z4',z5'])/\Sz (N+14641) (fZ n t (List.range (t.length+1)) d):=by
 obtain ⟨z4',z5',e,hz⟩:=pl2 bk n t ht (List.range (t.length+1)) d N z4 z5 (fun e he=>by have:=List.mem_range.mp he;lia) h (by rw [List.length_range];lia)
 rw [List.length_range] at hz
 refine ⟨z4',z5',?_,⟨by have:=hz.1;lia,fun q hq=>by have:=hz.2 q hq;lia⟩⟩
 unfold b8
 rw [fD (lF (m:=.fr) (n:=t.length+1) rfl (by lia))]
 exact e
noncomputable def hU:Nat->List Tx->Fd->Fd
 | _,[],d=>d
 | n,t :: l,d=>hU (n+1) l (fZ n t (List.range (t.length+1)) d)
theorem pl4 (bk:T) (l:List Tx):∀ (n:Nat) (d:Fd) (N:Nat) (z2 z3 z4 z5:Option Cell),(∀ t∈l,t.length<=120)->Sz N d->N+14641 * l.length < 16000000 →
  ∃ z2' z3' z4' z5',forL (kH [bh 2,bh 3]) b8 ((l.zipIdx n).map fun p=>T.tup [.int p.2,.str p.1]) [some (.pu bk),some (.ow (.dct 0 (dT d))),z2,z3,z4,z5] =
   some (.nx [some (.pu bk),some (.ow (.dct 0 (dT (hU n l d)))),z2',z3',z4',z5'])/\Sz (N+14641 * l.length) (hU n l d):=by
 induction l with
 | nil=>exact fun n d N z2 z3 z4 z5 _ h _=>⟨z2,z3,z4,z5,by simp [forL,hU],by simpa [hU] using h⟩
 | cons t l ih =>
  intro n d N z2 z3 z4 z5 ht h hN
  rw [List.length_cons] at hN
  obtain ⟨y4,y5,e1,h1⟩:=pl3 bk n t (ht t Zv) d N z4 z5 h (by lia)
  obtain ⟨x2,x3,x4,x5,ee,hz⟩:=ih (n+1) (fZ n t (List.range (t.length+1)) d) (N+14641) (some (.pu (.int n))) (some (.pu (.str t))) y4 y5 (fun s hs=>ht s (Zw _ hs)) h1 (by lia)
  refine ⟨x2,x3,x4,x5,?_,by rw [List.length_cons,show N+14641 * (l.length+1)=N+14641+14641 * l.length by lia];exact hz⟩
  rw [List.zipIdx_cons,List.map_cons,bL (η1:=[some (.pu bk),some (.ow (.dct 0 (dT d))),some (.pu (.int n)),some (.pu (.str t)),z4,z5]) rfl e1,ee]
  rfl
theorem enum_zip (l:List Tx):∀ n:Nat,eD n (l.map T.str)=(l.zipIdx n).map fun p=>T.tup [.int p.2,.str p.1]:=by
 induction l with
 | nil=>intro n;rfl
 | cons t l ih=>intro n;rw [List.zipIdx_cons,List.map_cons,List.map_cons,eD,ih (n+1)]
noncomputable def found (bk:List Tx):Fd:=hU 0 bk [([],[])]
theorem uQ (bk:List Tx) (B:Bk 120 bk) (hl:bk.length<=8):bY [.lst (bk.map T.str)]=some (.fr,.dct 0 (dT (found bk)))/\Sz 117129 (found bk):=by
 have hlen:∀ t∈bk,t.length<=120:=fun t ht=>by
  have h:t.length<=bk.flatten.length:=by
   obtain ⟨a,b,rfl⟩:=List.append_of_mem ht
   simp only [List.flatten_append,Ze,Zj]
   lia
  have:=B.n
  lia
 obtain ⟨z2,z3,z4,z5,e,hz⟩:=pl4 (.lst (bk.map T.str)) bk 0 [([],[])] 1 none none none none hlen ⟨by simp,fun q hq=>by rw [Zi.mp hq];simp⟩ (by lia)
 refine ⟨?_,⟨by have:=hz.1;unfold found;lia,fun q hq=>by have:=hz.2 q hq;lia⟩⟩
 unfold bY
 refine fO rfl (η:=[some (.pu (.lst (bk.map T.str))),none,z2,z3,z4,z5]) ?_
 refine (show ar _ _ [some (.pu (.lst (bk.map T.str))),none,none,none,none,none]=_ from ?_)
 rw [au (η1:=[some (.pu (.lst (bk.map T.str))),some (.ow (.dct 0 (dT [([],[])]))),none,none,none,none]) (by
  have:jg 0 [((eC (.str [])),(eU av))] [some (.pu (.lst (bk.map T.str))),none,none,none,none,none]=some (.fr,.dct 0 (dT [([],[])])):=rfl
  simp [this])]
 have fo:du (kH [bh 2,bh 3]) (kX (ah 0)) b8 [some (.pu (.lst (bk.map T.str))),some (.ow (.dct 0 (dT [([],[])]))),none,none,none,none]=some (.nx [some (.pu (.lst (bk.map T.str))),some (.ow (.dct 0 (dT (hU 0 bk [([],[])])))),z2,z3,z4,z5]):=by
  rw [← enum_zip] at e
  simp [-forL,zP]
  exact e
 rw [au fo]
 simp [found]
noncomputable def aO (d:Fd):List Tx:=d.map (·.1)
theorem qg (d:Fd) (w:Tx) (p:Pl):aO (cM d w p)=if w∈aO d then aO d else aO d++[w]:=by
 induction d with
 | nil=>simp [aO,cM]
 | cons a d ih =>
  obtain ⟨x,l⟩:=a
  unfold cM
  by_cases e:x=w
  ·rw [if_pos e];subst e;simp [aO]
  ·rw [if_neg e]
   have:aO ((x,l) :: cM d w p)=x :: aO (cM d w p):=rfl
   rw [this,ih]
   have e':¬ w=x:=fun z=>e z.symm
   by_cases m:w∈aO d
   ·rw [if_pos m,if_pos (by simp only [aO,List.map_cons,Zg];exact .inr m)];rfl
   ·rw [if_neg m,if_neg (by simp only [aO,List.map_cons,Zg,not_or];exact ⟨e',m⟩)];rfl
theorem xX {d:Fd} {w x:Tx} {p:Pl}:x∈aO (cM d w p) ↔ x∈aO d\/x=w:=by
 rw [qg]
 by_cases m:w∈aO d
 ·rw [if_pos m]
  constructor
  ·exact .inl
  ·rintro (h | rfl)
   ·exact h
   ·exact m
 ·rw [if_neg m];simp
theorem zX {d:Fd} (w:Tx) (p:Pl) (h:(aO d).Nodup):(aO (cM d w p)).Nodup:=by
 rw [qg]
 by_cases m:w∈aO d
 ·rw [if_pos m];exact h
 ·rw [if_neg m]
  exact List.nodup_append.mpr ⟨h,by simp,fun a ha b hb e=>m (by rw [Zi] at hb;rw [← hb,← e];exact ha)⟩
theorem By {d:Fd} {r:List Tx} (w:Tx) (p:Pl) (h:aO d=[] :: r):∃ r',aO (cM d w p)=[] :: r':=by
 rw [qg]
 split
 ·exact ⟨r,h⟩
 ·exact ⟨r++[w],by rw [h];rfl⟩
theorem lq {P:Fd->Prop} (hP:∀ d w p,P d->P (cM d w p)):∀ (l:List Tx) (n:Nat) (d:Fd),P d->P (hU n l d):=by
 have h1:∀ (n:Nat) (t:Tx) (e:Nat) (ss:List Nat) (d:Fd),P d->P (adds n t e ss d):=by
  intro n t e ss
  induction ss with
  | nil=>exact fun d h=>h
  | cons s ss ih=>exact fun d h=>ih _ (hP _ _ _ h)
 have h2:∀ (n:Nat) (t:Tx) (es:List Nat) (d:Fd),P d->P (fZ n t es d):=by
  intro n t es
  induction es with
  | nil=>exact fun d h=>h
  | cons e es ih=>exact fun d h=>ih _ (h1 n t e _ d h)
 intro l
 induction l with
 | nil=>exact fun n d h=>h
 | cons t l ih=>exact fun n d h=>ih (n+1) _ (h2 n t _ d h)
theorem uX (bk:List Tx):(aO (found bk)).Nodup:=lq (P:=fun d=>(aO d).Nodup) (fun d w p h=>zX w p h) bk 0 _ (by simp [aO])
theorem oA (bk:List Tx):∃ r,aO (found bk)=[] :: r:=lq (P:=fun d=>∃ r,aO d=[] :: r) (fun d w p ⟨r,h⟩=>By w p h) bk 0 _ ⟨[],rfl⟩
theorem vT (n:Nat) (t:Tx) (e:Nat) (x:Tx) (ss:List Nat):∀ d,x∈aO (adds n t e ss d) ↔ x∈aO d\/∃ s∈ss,x=(t.drop s).take (e - s):=by
 induction ss with
 | nil=>intro d;simp [adds]
 | cons s ss ih =>
  intro d
  have:=ih (cM d ((t.drop s).take (e - s)) (n,e))
  rw [show adds n t e (s :: ss) d=adds n t e ss (cM d ((t.drop s).take (e - s)) (n,e)) from rfl,this,xX]
  simp [or_assoc]
theorem wg (n:Nat) (t:Tx) (x:Tx) (es:List Nat):∀ d,x∈aO (fZ n t es d) ↔ x∈aO d\/∃ e∈es,∃ s∈List.range (e+1),x=(t.drop s).take (e - s):=by
 induction es with
 | nil=>intro d;simp [fZ]
 | cons e es ih =>
  intro d
  rw [show fZ n t (e :: es) d=fZ n t es (adds n t e (List.range (e+1)) d) from rfl,ih,vT,or_assoc]
  simp only [Zg,exists_eq_or_imp]
theorem jL (x:Tx) (l:List Tx):∀ n d,x∈aO (hU n l d) ↔ x∈aO d\/∃ t∈l,∃ e∈List.range (t.length+1),∃ s∈List.range (e+1),x=(t.drop s).take (e - s):=by
 induction l with
 | nil=>intro n d;simp [hU]
 | cons t l ih =>
  intro n d
  rw [show hU n (t :: l) d=hU (n+1) l (fZ n t (List.range (t.length+1)) d) from rfl,ih,wg,or_assoc]
  simp only [Zg,exists_eq_or_imp]
theorem qh (bk:List Tx) (x:Tx) (h:x∈aO (found bk)):x.drop 1∈aO (found bk):=by
 unfold found at h ⊢
 rw [jL] at h ⊢
 rcases h with h | ⟨t,ht,e,he,s,hs,rfl⟩
 ·left
  simp [aO] at h ⊢
  rw [h];rfl
 ·have h1:=List.mem_range.mp he
  have h2:=List.mem_range.mp hs
  by_cases q:s=e
  ·left
   subst q
   simp [aO]
  ·right
   refine ⟨t,ht,e,he,s+1,List.mem_range.mpr (by lia),?_⟩
   rw [List.drop_take,List.drop_drop]
   congr 1
theorem nr (bk:List Tx) (B:Bk 120 bk) (x:Tx) (h:x∈aO (found bk)):Az x/\x.length<=120:=by
 unfold found at h
 rw [jL] at h
 rcases h with h | ⟨t,ht,e,he,s,hs,rfl⟩
 ·simp [aO] at h
  subst h
  exact ⟨fun c hc=>by simp at hc,by simp⟩
 ·refine ⟨fun c hc=>B.az t ht c (List.mem_of_mem_drop (List.mem_of_mem_take hc)),?_⟩
  have h1:=List.mem_range.mp he
  have hl:t.length<=bk.flatten.length:=by
   obtain ⟨a,b,rfl⟩:=List.append_of_mem ht
   simp only [List.flatten_append,Ze,Zj]
   lia
  have:=B.n
  rw [List.length_take]
  lia
end T14
end
section
namespace T14
open VS L2
noncomputable abbrev Gr:=List (List Pl×List Tx)
noncomputable def nkP (l:List Pl):aX:=l.map fun q=>[(q.1:Int),(q.2:Int)]
theorem rn:∀ {x y:List Pl},nkP x=nkP y->x=y
 | [],[],_=>rfl
 | [],_ :: _,h=>by simp [nkP] at h
 | _ :: _,[],h=>by simp [nkP] at h
 | (a,b) :: x,(c,d) :: y,h=>by
  simp only [nkP,List.map_cons,List.cons.injEq,Int.natCast_inj,and_true] at h
  obtain ⟨⟨rfl,rfl⟩,h⟩:=h
  rw [rn h]
theorem Ca (l:List Pl):nkT (nkP l)=T.tup (l.map tP):=by simp [nkT,nkP,tP]
theorem xJ (l:List Pl):xY (T.tup (l.map tP))=some (nkP l):=by
 show (l.map tP).mapM nk1=_
 induction l with
 | nil=>rfl
 | cons a l ih =>
  rw [List.map_cons,List.mapM_cons,ih]
  rfl
noncomputable def gT (g:Gr):List (T×T):=g.map fun p=>(nkT (nkP p.1),T.lst (p.2.map T.str))
noncomputable def cO:Gr->List Pl->Tx->Gr
 | [],k,w=>[(k,[w])]
 | (x,l) :: g,k,w=>if x=k then (x,l++[w]) :: g else (x,l) :: cO g k w
theorem rG {f:T->Option (T×Val)} {k:T} {a:T×T} {L:List (T×T)} (h:eqT a.1 k=false):oz f (a :: L) k=(oz f L k).map (a :: ·):=by
 unfold oz
 rw [List.findIdx?_cons,if_neg (by rw [h];simp)]
 cases e:L.findIdx? fun q=>eqT q.1 k with
 | none=>rfl
 | some i =>
  simp only [Option.map_some,Option.bind_some,List.getElem?_cons_succ]
  cases e2:L[i]? with
  | none=>rfl
  | some q =>
   simp only [Option.bind_some]
   cases f q.2 with
   | none=>rfl
   | some z=>rfl
theorem nJ {f:T->Option (T×Val)} {k:T} {a:T×T} {L:List (T×T)} (h:eqT a.1 k=true):oz f (a :: L) k=(f a.2).map fun z=>(a.1,z.1) :: L:=by
 unfold oz
 rw [List.findIdx?_cons,if_pos h]
 rfl
theorem mz {k:T} {a:T×T} {L:List (T×T)} (h:eqT a.1 k=false):bD (a :: L) k=a :: bD L k:=by
 have q:(a :: L).findIdx? (fun q=>eqT q.1 k)=(L.findIdx? fun q=>eqT q.1 k).map (·+1):=by
  rw [List.findIdx?_cons,if_neg (by rw [h];exact Zp)]
 unfold bD
 rw [q]
 cases e:L.findIdx? fun q=>eqT q.1 k with
 | none=>rfl
 | some i=>rfl
theorem nQ {k:T} {a:T×T} {L:List (T×T)} (h:eqT a.1 k=true):bD (a :: L) k=a :: L:=by
 unfold bD
 rw [List.findIdx?_cons,if_pos h]
 rfl
theorem yO (g:Gr) (k:List Pl) (w:Tx) (hl:∀ q∈g,q.2.length < 16777216):oz (fun x=>aW x [(.fr,.str w)]) (bD (gT g) (nkT (nkP k))) (nkT (nkP k))=some (gT (cO g k w)):=by
 induction g with
 | nil =>
  have:bD (gT []) (nkT (nkP k))=[(nkT (nkP k),.lst [])]:=rfl
  rw [this,nJ (by rw [kj];simp),eg (by decide)]
  rfl
 | cons a g ih =>
  obtain ⟨x,l⟩:=a
  by_cases e:x=k
  ·subst e
   have h:eqT (nkT (nkP x)) (nkT (nkP x))=true:=by rw [kj];simp
   rw [show gT ((x,l) :: g)=(nkT (nkP x),T.lst (l.map T.str)) :: gT g from rfl,nQ h,nJ h,eg (by rw [Zk];exact hl (x,l) Zv)]
   simp [cO,gT]
  ·have h:eqT (nkT (nkP x)) (nkT (nkP k))=false:=by rw [kj];exact decide_eq_false fun z=>e (rn z)
   rw [show gT ((x,l) :: g)=(nkT (nkP x),T.lst (l.map T.str)) :: gT g from rfl,mz h,rG h,ih fun q hq=>hl q (Zw _ hq)]
   simp [cO,gT,e]
theorem pD {i:Nat} {ck:Ex} {cv:Ex} {η:Env} {g:Gr} {w:Tx} {k:List Pl} {m:Md} (h:η[i]?=some (some (.ow (.dct 2 (gT g))))) (hk:ck η=some (m,.tup (k.map tP))) (hv:∀ c,cv (η.set i c)=some (.fr,.str w)) (hl:∀ q∈g,q.2.length < 16777216) (hd:g.length < 16777216) :
  fE i ck (af cv av) η=some (.nx (η.set i (some (.ow (.dct 2 (gT (cO g k w))))))):=by
 unfold fE
 simp only [h]
 rw [hk,Option.bind_some,if_pos ⟨by rw [xJ];rfl,by rw [gT,Zk];exact hd⟩]
 have e:af cv av (η.set i (some (.ow (.dct 2 (bD (gT g) (T.tup (k.map tP)))))))=some [(.fr,.str w)]:=by simp [hv]
 rw [e,Option.bind_some,← Ca,yO g k w hl]
 rfl
noncomputable def look:Fd->Tx->List Pl
 | [],_=>[]
 | (x,l) :: d,w=>if x=w then l else look d w
theorem uM (d:Fd) (w:Tx) (h:w∈aO d):bT (dT d) (.str w)=some (.lst ((look d w).map tP)):=by
 induction d with
 | nil=>simp [aO] at h
 | cons a d ih =>
  obtain ⟨x,l⟩:=a
  rw [show dT ((x,l) :: d)=(T.str x,T.lst (l.map tP)) :: dT d from rfl]
  unfold bT
  by_cases e:x=w
  ·rw [List.find?_cons,show eqT (T.str x) (T.str w)=true by simp [e]]
   simp [look,e]
  ·rw [List.find?_cons,show eqT (T.str x) (T.str w)=false by simpa using e]
   have hm:w∈aO d:=by
    rcases Zg.mp (show w∈x :: aO d from h) with h | h
    ·exact absurd h.symm e
    ·exact h
   rw [show look ((x,l) :: d) w=look d w by simp [look,e]]
   exact ih hm
theorem v5 (d:Fd) (w:Tx) (N:Nat) (h:∀ q∈d,q.2.length<=N):(look d w).length<=N:=by
 induction d with
 | nil=>simp [look]
 | cons a d ih =>
  obtain ⟨x,l⟩:=a
  unfold look
  split
  ·exact h _ Zv
  ·exact ih fun q hq=>h q (Zw _ hq)
noncomputable def grp (d:Fd) (ws:List Tx) (g:Gr):Gr:=ws.foldl (fun g w=>cO g (look d w) w) g
theorem zp (g:Gr) (k:List Pl) (w:Tx) (N:Nat) (h:g.length<=N/\∀ q∈g,q.2.length<=N):(cO g k w).length<=N+1/\∀ q∈cO g k w,q.2.length<=N+1:=by
 induction g generalizing N with
 | nil=>simp [cO]
 | cons a g ih =>
  obtain ⟨x,l⟩:=a
  have h1:=h.2 (x,l) Zv
  have h0:=h.1
  unfold cO
  split
  ·refine ⟨by simp only [List.length_cons] at h0 ⊢;lia,fun q hq=>?_⟩
   rcases Zg.mp hq with rfl | hq
   ·simp only [Zj,List.length_singleton];simp only at h1;lia
   ·have:=h.2 q (Zw _ hq);lia
  ·have hN:∀ (g:Gr),(cO g k w).length<=g.length+1:=by
    intro g
    induction g with
    | nil=>simp [cO]
    | cons a g ih=>obtain ⟨x,l⟩:=a;unfold cO;split <;> simp only [List.length_cons] <;> lia
   refine ⟨by have:=hN g;simp only [List.length_cons] at h0 ⊢;lia,fun q hq=>?_⟩
   rcases Zg.mp hq with rfl | hq
   ·simp only at h1 ⊢;lia
   ·exact (ih N ⟨by simp only [List.length_cons] at h0;lia,fun q hq=>h.2 q (Zw _ hq)⟩).2 q hq
theorem st1 (d:Fd) (hd:∀ q∈d,q.2.length<=117129) (ws:List Tx):∀ (g:Gr) (N:Nat) (z:Option Cell),(∀ w∈ws,w∈aO d)->(g.length<=N/\∀ q∈g,q.2.length<=N)->N+ws.length < 16777216 →
  ∃ z',forL (bh 2) cU (ws.map T.str) [some (.pu (.dct 0 (dT d))),some (.ow (.dct 2 (gT g))),z]=some (.nx [some (.pu (.dct 0 (dT d))),some (.ow (.dct 2 (gT (grp d ws g)))),z']):=by
 induction ws with
 | nil=>exact fun g N z _ _ _=>⟨z,by simp [forL,grp]⟩
 | cons w ws ih =>
  intro g N z hw hN hl
  rw [List.length_cons] at hl
  obtain ⟨z',e⟩:=ih (cO g (look d w) w) (N+1) (some (.pu (.str w))) (fun x hx=>hw x (Zw _ hx)) (zp g _ w N hN) (by lia)
  refine ⟨z',?_⟩
  have lk:=uM d w (hw w Zv)
  have ll:=v5 d w 117129 hd
  have bo:cU [some (.pu (.dct 0 (dT d))),some (.ow (.dct 2 (gT g))),some (.pu (.str w))]=some (.nx [some (.pu (.dct 0 (dT d))),some (.ow (.dct 2 (gT (cO g (look d w) w)))),some (.pu (.str w))]):=by
   unfold cU
   have im:d5 ((look d w).map tP)=true:=fN tP (fun x=>by simp [tP]) _
   rw [pD (g:=g) (w:=w) (k:=look d w) (m:=.fr) rfl (by
    have h1:e2 oIx (ah 0) (ah 2) [some (.pu (.dct 0 (dT d))),some (.ow (.dct 2 (gT g))),some (.pu (.str w))]=some (.pu,.lst ((look d w).map tP)):=by
     simp [lk,eO]
    have h2:eZ [(.pu,.lst ((look d w).map tP))]=some (.fr,.tup ((look d w).map tP)):=by
     show (if _ then _ else _)=_
     rw [if_pos (by rw [Zk];exact Nat.le_trans ll (by decide))]
     simp only [up,imm,im,if_true]
    simp only [eN,af,h1,av,Option.bind_some,h2]) (fun c=>by simp) (fun q hq=>by have:=hN.2 q hq;lia) (by have:=hN.1;lia)]
   simp
  rw [List.map_cons,bL rfl bo,e]
  rfl
noncomputable def stT (st:List (List Tx)):T:=.lst (st.map fun s=>T.lst (s.map T.str))
noncomputable def ij (d:Fd):List (List Tx):=(grp d (bV (aO d)) []).map (·.2)
theorem vm (d:Fd) (hz:Sz 117129 d) (haz:∀ x∈aO d,Az x/\x.length<=120):cK [.dct 0 (dT d)]=some (.fr,stT (ij d)):=by
 have pm:=cX (aO d)
 obtain ⟨z',e⟩:=st1 d hz.2 (bV (aO d)) [] 0 none (fun w hw=>pm.mem_iff.mp hw) ⟨by simp,fun q hq=>by simp at hq⟩ (by rw [pm.length_eq,aO,Zk];have:=hz.1;lia)
 have so:iR [(.pu,.dct 0 (dT d))]=some (.fr,.lst ((bV (aO d)).map T.str)):=by
  show ((strs? ((dT d).map (·.1))).bind _)=_
  rw [show (dT d).map (·.1)=d.map fun p=>T.str p.1 by simp [dT],strs_map (fun p:Tx×List Pl=>p.1) d,Option.bind_some,show d.map (fun p=>p.1)=aO d from rfl,if_pos (show ((aO d).all txB)=true from List.all_eq_true.mpr fun x hx=>by
   obtain ⟨h1,h2⟩:=haz x hx
   simp only [txB,Bool.and_eq_true,decide_eq_true_eq,List.all_eq_true]
   exact ⟨Nat.le_trans h2 (by decide),fun c hc=>by have:=h1 c hc;lia⟩)]
 unfold cK
 refine fO rfl (η:=[some (.pu (.dct 0 (dT d))),none,z']) ?_
 refine (show ar _ _ [some (.pu (.dct 0 (dT d))),none,none]=_ from ?_)
 rw [au (η1:=[some (.pu (.dct 0 (dT d))),some (.ow (.dct 2 (gT []))),none]) (by
  have:jg 2 [] [some (.pu (.dct 0 (dT d))),none,none]=some (.fr,.dct 2 (gT [])):=rfl
  simp [this])]
 rw [au (η1:=[some (.pu (.dct 0 (dT d))),some (.ow (.dct 2 (gT (grp d (bV (aO d)) [])))),z']) (by
  rw [fD (l:=(bV (aO d)).map T.str) (by simp [so])]
  exact e)]
 simp [gK,stT,ij,gT]
structure Stn (st:List (List Tx)) (ks:List Tx):Prop where
 ne:∀ s∈st,s ≠ []
 pm:st.flatten.Perm ks
 hd:∃ a b,st=([] :: a) :: b
theorem xp (g:Gr) (k:List Pl) (w:Tx) (h:∀ q∈g,q.2 ≠ []):∀ q∈cO g k w,q.2 ≠ []:=by
 induction g with
 | nil=>intro q hq;simp [cO] at hq;rw [hq];simp
 | cons a g ih =>
  obtain ⟨x,l⟩:=a
  have ih:=ih fun q hq=>h q (Zw _ hq)
  unfold cO
  split
  ·intro q hq
   rcases Zg.mp hq with rfl | hq
   ·simp
   ·exact h q (Zw _ hq)
  ·intro q hq
   rcases Zg.mp hq with rfl | hq
   ·exact h _ Zv
   ·exact ih q hq
theorem xE (g:Gr) (k:List Pl) (w:Tx):((cO g k w).map (·.2)).flatten.Perm (w :: (g.map (·.2)).flatten):=by
 induction g with
 | nil=>simp [cO]
 | cons a g ih =>
  obtain ⟨x,l⟩:=a
  unfold cO
  split
  ·rw [List.map_cons,Ze,List.map_cons,Ze]
   show (l++[w]++_).Perm (w :: (l++_))
   rw [Zf]
   exact List.perm_middle
  ·rw [List.map_cons,Ze,List.map_cons,Ze]
   exact (List.Perm.append_left l ih).trans List.perm_middle
theorem yA (g:Gr) (k:List Pl) (w:Tx) (k0:List Pl) (a:List Tx) (b:Gr) (h:g=(k0,[] :: a) :: b):∃ a' b',cO g k w=(k0,[] :: a') :: b':=by
 subst h
 unfold cO
 split
 ·exact ⟨a++[w],b,rfl⟩
 ·exact ⟨a,_,rfl⟩
theorem AN (d:Fd) (ws:List Tx):∀ g:Gr,(∀ q∈g,q.2 ≠ [])->∀ q∈grp d ws g,q.2 ≠ []:=by
 induction ws with
 | nil=>exact fun g h=>h
 | cons w ws ih=>exact fun g h=>ih _ (xp g _ w h)
theorem BS (d:Fd) (ws:List Tx):∀ g:Gr,((grp d ws g).map (·.2)).flatten.Perm (ws++(g.map (·.2)).flatten):=by
 induction ws with
 | nil=>exact fun g=>by simp [grp]
 | cons w ws ih =>
  intro g
  refine (ih (cO g (look d w) w)).trans ?_
  refine ((xE g (look d w) w).append_left ws).trans ?_
  exact List.perm_middle
theorem Am (d:Fd) (ws:List Tx):∀ (g:Gr) (k0:List Pl) (a:List Tx) (b:Gr),g=(k0,[] :: a) :: b->∃ a' b',grp d ws g=(k0,[] :: a') :: b':=by
 induction ws with
 | nil=>exact fun g k0 a b h=>⟨a,b,h⟩
 | cons w ws ih =>
  intro g k0 a b h
  obtain ⟨a',b',h'⟩:=yA g (look d w) w k0 a b h
  exact ih _ k0 a' b' h'
theorem vO (l:List Tx) (h:[]∈l):∃ r,bV l=[] :: r:=by
 have pm:=cX l
 have pw:=kB l
 have m:[]∈bV l:=pm.mem_iff.mpr h
 cases e:bV l with
 | nil=>rw [e] at m;simp at m
 | cons x r =>
  rw [e] at m pw
  rcases Zg.mp m with m1 | m2
  ·exact ⟨r,by rw [m1]⟩
  ·cases x with
   | nil=>exact ⟨r,rfl⟩
   | cons c x=>exact absurd (.inl (by simp)) ((List.pairwise_cons.mp pw).1 [] m2)
theorem uO (d:Fd) (h:[]∈aO d):Stn (ij d) (aO d):=by
 refine ⟨fun s hs=>?_,?_,?_⟩
 ·obtain ⟨q,hq,rfl⟩:=List.mem_map.mp hs
  exact AN d _ [] (fun q hq=>by simp at hq) q hq
 ·have:=BS d (bV (aO d)) []
  simp only [List.map_nil,List.flatten_nil,List.append_nil] at this
  exact this.trans (cX _)
 ·obtain ⟨r,e⟩:=vO _ h
  obtain ⟨a,b,h'⟩:=Am d r (cO [] (look d []) []) (look d []) [] [] rfl
  refine ⟨a,b.map (·.2),?_⟩
  unfold ij
  rw [e,show grp d ([] :: r) []=grp d r (cO [] (look d []) []) from rfl,h']
  rfl
noncomputable def num:List (List Tx)->Tx->Nat
 | [],_=>0
 | s :: st,w=>if w∈s then 0 else num st w+1
theorem uN (st:List (List Tx)) (w:Tx) (h:w∈st.flatten):num st w < st.length:=by
 induction st with
 | nil=>simp at h
 | cons s st ih =>
  unfold num
  split
  ·simp
  ·rename_i hn
   have:w∈st.flatten:=by
    rw [Ze] at h
    exact (Zh.mp h).resolve_left hn
   have:=ih this
   simp only [List.length_cons];lia
noncomputable def nT (m:List (Tx×Nat)):List (T×T):=m.map fun p=>(T.str p.1,T.int (p.2:Int))
noncomputable def nums:Nat->List (List Tx)->List (Tx×Nat)
 | _,[]=>[]
 | k,s :: st=>s.map (fun w=>(w,k))++nums (k+1) st
theorem tF (st:List (List Tx)):∀ k,(nums k st).map (·.1)=st.flatten:=by
 induction st with
 | nil=>exact fun k=>rfl
 | cons s st ih=>intro k;rw [nums,List.map_append,ih,Ze,List.map_map,show ((fun x:Tx×Nat=>x.1) ∘ fun w:Tx=>(w,k))=id from rfl,List.map_id]
theorem nG (a b:List (T×T)) (k:T):bT (a++b) k=(bT a k).or (bT b k):=by
 unfold bT
 rw [List.find?_append]
 cases a.find? fun p=>eqT p.1 k <;> rfl
theorem uC (s:List Tx) (k:Nat) (w:Tx):bT (nT (s.map fun w=>(w,k))) (.str w)=if w∈s then some (.int (k:Int)) else none:=by
 induction s with
 | nil=>rfl
 | cons x s ih =>
  rw [List.map_cons,show nT ((x,k) :: s.map fun w=>(w,k))=(T.str x,T.int (k:Int)) :: nT (s.map fun w=>(w,k)) from rfl]
  by_cases e:x=w
  ·rw [bT,List.find?_cons,show eqT (T.str x) (T.str w)=true by simp [e],if_pos (by rw [e];simp)]
   rfl
  ·rw [bT,List.find?_cons,show eqT (T.str x) (T.str w)=false by simpa using e]
   have e':¬ w=x:=fun z=>e z.symm
   refine (show bT (nT (s.map fun w=>(w,k))) (.str w)=_ from ?_)
   rw [ih]
   by_cases q:w∈s
   ·rw [if_pos q,if_pos (Zw _ q)]
   ·rw [if_neg q,if_neg fun z=>(Zg.mp z).elim e' q]
theorem i0 (st:List (List Tx)) (w:Tx):∀ k,bT (nT (nums k st)) (.str w)=if w∈st.flatten then some (.int ((k+num st w:Nat):Int)) else none:=by
 induction st with
 | nil=>exact fun k=>rfl
 | cons s st ih =>
  intro k
  rw [nums,nT,List.map_append,nG]
  rw [show bT ((s.map fun w=>(w,k)).map fun p=>(T.str p.1,T.int (p.2:Int))) (.str w)=_ from uC s k w]
  rw [show bT ((nums (k+1) st).map fun p=>(T.str p.1,T.int (p.2:Int))) (.str w)=_ from ih (k+1),Ze]
  by_cases h:w∈s
  ·rw [if_pos h,if_pos (Zh.mpr (.inl h)),show num (s :: st) w=0 by simp [num,h]]
   rfl
  ·rw [if_neg h]
   by_cases h2:w∈st.flatten
   ·rw [if_pos h2,if_pos (Zh.mpr (.inr h2)),show num (s :: st) w=num st w+1 by simp [num,h],show k+(num st w+1)=k+1+num st w by lia]
    rfl
   ·rw [if_neg h2,if_neg fun z=>(Zh.mp z).elim h h2]
    rfl
theorem xS (m:List (Tx×Nat)) (w:Tx) (k:Nat) (h:w ∉ m.map (·.1)):dput (nT m) (.str w) (.int (k:Int))=nT (m++[(w,k)]):=by
 unfold dput
 rw [if_neg (by
  simp only [List.any_eq_true,not_exists,not_and]
  intro p hp
  obtain ⟨q,hq,rfl⟩:=List.mem_map.mp hp
  simp only [eqT,beq_iff_eq]
  intro e
  exact h (List.mem_map.mpr ⟨q,hq,e⟩))]
 simp [nT]
theorem yD {i:Nat} {k e:Ex} {η:Env} {l:List (T×T)} {kv v:T} {m n:Md} (h:η[i]?=some (some (.ow (.dct 0 l)))) (he:e η=some (m,v)) (hk:k η=some (n,kv)) (h1:eO kv=true) (h2:imm v=true) (h3:l.length < 16777216):lR i k e η=some (.nx (η.set i (some (.ow (.dct 0 (dput l kv v)))))):=by
 unfold lR
 rw [he,Option.bind_some,h,hk]
 exact if_pos ⟨h1,h2,h3⟩
theorem nm1 (st:T) (some_:T) (k:Nat) (s:List Tx):∀ (m:List (Tx×Nat)) (z:Option Cell),(m.map (·.1)++s).Nodup->m.length+s.length < 16777216 →
  ∃ z',forL (bh 4) cF (s.map T.str) [some (.pu st),some (.ow (.dct 0 (nT m))),some (.pu (.int k)),some (.pu some_),z]=some (.nx [some (.pu st),some (.ow (.dct 0 (nT (m++s.map fun w=>(w,k))))),some (.pu (.int k)),some (.pu some_),z']):=by
 induction s with
 | nil=>exact fun m z _ _=>⟨z,by simp [forL]⟩
 | cons w s ih =>
  intro m z hn hl
  rw [List.length_cons] at hl
  obtain ⟨z',e⟩:=ih (m++[(w,k)]) (some (.pu (.str w))) (by simpa using hn) (by rw [Zj,List.length_singleton];lia)
  refine ⟨z',?_⟩
  have nw:w ∉ m.map (·.1):=fun hm=>by
   have:=(List.nodup_append.mp hn).2.2 w hm w Zv
   exact this rfl
  have bo:cF [some (.pu st),some (.ow (.dct 0 (nT m))),some (.pu (.int k)),some (.pu some_),some (.pu (.str w))]=some (.nx [some (.pu st),some (.ow (.dct 0 (nT (m++[(w,k)])))),some (.pu (.int k)),some (.pu some_),some (.pu (.str w))]):=by
   unfold cF
   rw [yD (l:=nT m) (kv:=.str w) (v:=.int (k:Int)) (m:=.fr) (n:=.fr) rfl rfl rfl rfl rfl (by rw [nT,Zk];lia),xS m w k nw]
   rfl
  rw [List.map_cons,bL rfl bo,e]
  simp
theorem nm2 (st:T) (l:List (List Tx)):∀ (n:Nat) (m:List (Tx×Nat)) (z2 z3 z4:Option Cell),(m.map (·.1)++l.flatten).Nodup->m.length+l.flatten.length < 16777216 →
  ∃ z2' z3' z4',forL (kH [bh 2,bh 3]) dM (eD n (l.map fun s=>T.lst (s.map T.str))) [some (.pu st),some (.ow (.dct 0 (nT m))),z2,z3,z4]=some (.nx [some (.pu st),some (.ow (.dct 0 (nT (m++nums n l)))),z2',z3',z4']):=by
 induction l with
 | nil=>exact fun n m z2 z3 z4 _ _=>⟨z2,z3,z4,by simp [forL,eD,nums]⟩
 | cons s l ih =>
  intro n m z2 z3 z4 hn hl
  rw [Ze,Zj] at hl
  rw [Ze,← Zf] at hn
  obtain ⟨y4,e1⟩:=nm1 st (.lst (s.map T.str)) n s m z4 (List.nodup_append.mp hn).1 (by lia)
  obtain ⟨x2,x3,x4,e⟩:=ih (n+1) (m++s.map fun w=>(w,n)) (some (.pu (.int n))) (some (.pu (.lst (s.map T.str)))) y4 (by rw [List.map_append,List.map_map,show ((fun x:Tx×Nat=>x.1) ∘ fun w:Tx=>(w,n))=id from rfl,List.map_id];exact hn) (by rw [Zj,Zk];lia)
  refine ⟨x2,x3,x4,?_⟩
  rw [List.map_cons,eD,bL (η1:=[some (.pu st),some (.ow (.dct 0 (nT m))),some (.pu (.int n)),some (.pu (.lst (s.map T.str))),z4]) rfl (by
   unfold dM
   rw [jv (m:=.pu) (l:=s.map T.str) rfl rfl,e1]),e,Zf]
  rfl
theorem sf (st:List (List Tx)) (hn:st.flatten.Nodup) (hl:st.flatten.length < 16777216):cx [stT st]=some (.fr,.dct 0 (nT (nums 0 st))):=by
 obtain ⟨z2,z3,z4,e⟩:=nm2 (stT st) st 0 [] none none none (by simpa using hn) (by simpa using hl)
 unfold cx
 refine fO rfl (η:=[some (.pu (stT st)),none,z2,z3,z4]) ?_
 refine (show ar _ _ [some (.pu (stT st)),none,none,none,none]=_ from ?_)
 rw [au (η1:=[some (.pu (stT st)),some (.ow (.dct 0 (nT []))),none,none,none]) (by
  have:jg 0 [] [some (.pu (stT st)),none,none,none,none]=some (.fr,.dct 0 (nT [])):=rfl
  simp [this])]
 rw [au (η1:=[some (.pu (stT st)),some (.ow (.dct 0 (nT (nums 0 st)))),z2,z3,z4]) (by
  rw [jv (m:=.pu) (l:=eD 0 (st.map fun s=>T.lst (s.map T.str))) rfl rfl]
  exact e)]
 simp
noncomputable def hdW (s:List Tx):Tx:=s.headD []
noncomputable def laW (s:List Tx):Tx:=s.getLast?.getD []
theorem zM {m n:Md} {s:List Tx} (h:s ≠ []):aU (m,.lst (s.map T.str)) (n,.int 0)=some (.fr,.str (hdW s)):=by
 cases s with
 | nil=>exact absurd rfl h
 | cons a s =>
  have:ixP ((T.str a :: s.map T.str).length) 0=some 0:=qU (k:=0) (by simp)
  show (ixP ((T.str a :: s.map T.str).length) 0).bind _=_
  rw [this]
  rfl
theorem Cv {m n:Md} {s:List Tx} (h:s ≠ []):aU (m,.lst (s.map T.str)) (n,.int (-1))=some (.fr,.str (laW s)):=by
 have hl:0 < s.length:=List.length_pos_iff.mpr h
 have:ixP ((s.map T.str).length) (-1)=some (s.length - 1):=by
  unfold ixP
  rw [if_neg (by lia),Zk,if_pos (by lia)]
  congr 1
  lia
 show (ixP ((s.map T.str).length) (-1)).bind _=_
 rw [this,Option.bind_some,List.getElem?_map,Zd (show s.length - 1 < s.length by lia)]
 unfold laW
 rw [List.getLast?_eq_getElem?,Zd (show s.length - 1 < s.length by lia)]
 rfl
noncomputable def wT (p:Nat×Nat):T:=.tup [.str [p.1],.int (p.2:Int)]
noncomputable def eB (st:List (List Tx)) (h:Tx) (c:Nat):List (Nat×Nat):=if h++[c]∈st.flatten then [(c,num st (h++[c]))] else []
noncomputable def bC (st:List (List Tx)) (h:Tx) (cs:List Nat):List (Nat×Nat):=cs.flatMap (eB st h)
theorem v9 (st:List (List Tx)) (h:Tx) (cs:List Nat):(bC st h cs).length<=cs.length:=by
 induction cs with
 | nil=>simp [bC]
 | cons c cs ih =>
  have:bC st h (c :: cs)=eB st h c++bC st h cs:=rfl
  rw [this,Zj,List.length_cons]
  have:(eB st h c).length<=1:=by unfold eB;split <;> simp
  lia
theorem tb1 (st:List (List Tx)) (S:T) (tb:T) (s:List Tx) (hs:s ≠ []) (hl:(hdW s).length<=120) (l6:Option Cell) (cs:List Nat):∀ (ws:List (Nat×Nat)) (z:Option Cell),ws.length+cs.length < 1000 →
  ∃ z',forL (bh 5) bN (cs.map fun c=>T.str [c]) [some (.pu S),some (.pu (.dct 0 (nT (nums 0 st)))),some (.ow tb),some (.pu (.lst (s.map T.str))),some (.ow (.lst (ws.map wT))),z,l6] =
   some (.nx [some (.pu S),some (.pu (.dct 0 (nT (nums 0 st)))),some (.ow tb),some (.pu (.lst (s.map T.str))),some (.ow (.lst ((ws++bC st (hdW s) cs).map wT))),z',l6]):=by
 induction cs with
 | nil=>exact fun ws z _=>⟨z,by simp [forL,bC]⟩
 | cons c cs ih =>
  intro ws z hw
  rw [List.length_cons] at hw
  have hq:=i0 st (hdW s++[c]) 0
  rw [Nat.zero_add] at hq
  have ad:e2 bP (e2 aU (ah 3) (eC (.int 0))) (ah 5) [some (.pu S),some (.pu (.dct 0 (nT (nums 0 st)))),some (.ow tb),some (.pu (.lst (s.map T.str))),some (.ow (.lst (ws.map wT))),some (.pu (.str [c])),l6]=some (.fr,.str (hdW s++[c])):=by
   have h1:e2 aU (ah 3) (eC (.int 0)) [some (.pu S),some (.pu (.dct 0 (nT (nums 0 st)))),some (.ow tb),some (.pu (.lst (s.map T.str))),some (.ow (.lst (ws.map wT))),some (.pu (.str [c])),l6]=some (.fr,.str (hdW s)):=by
    simp [-aU,zM hs]
   simp only [e2] at h1 ⊢
   rw [h1,Option.bind_some]
   simp [iH (show (hdW s).length+[c].length<=16777216 by simp;lia)]
  by_cases p:hdW s++[c]∈st.flatten
  ·rw [if_pos p] at hq
   obtain ⟨z',e⟩:=ih (ws++[(c,num st (hdW s++[c]))]) (some (.pu (.str [c]))) (by rw [Zj,List.length_singleton];lia)
   refine ⟨z',?_⟩
   have bo:bN [some (.pu S),some (.pu (.dct 0 (nT (nums 0 st)))),some (.ow tb),some (.pu (.lst (s.map T.str))),some (.ow (.lst (ws.map wT))),some (.pu (.str [c])),l6] =
     some (.nx [some (.pu S),some (.pu (.dct 0 (nT (nums 0 st)))),some (.ow tb),some (.pu (.lst (s.map T.str))),some (.ow (.lst ((ws++[(c,num st (hdW s++[c]))]).map wT))),some (.pu (.str [c])),l6]):=by
    unfold bN
    rw [m9 (m:=.fr) (by
     rw [e2,ad,Option.bind_some]
     simp [eO,hq])]
    rw [iZ (l:=ws.map wT) (t:=wT (c,num st (hdW s++[c]))) rfl (by
     have h2:e2 oIx (ah 1) (e2 bP (e2 aU (ah 3) (eC (.int 0))) (ah 5)) [some (.pu S),some (.pu (.dct 0 (nT (nums 0 st)))),some (.ow tb),some (.pu (.lst (s.map T.str))),some (.ow (.lst (ws.map wT))),some (.pu (.str [c])),l6]=some (.fr,.int (num st (hdW s++[c]):Nat)):=by
      rw [e2,ad]
      simp [eO,hq]
     simp only [oo,af,h2,av,Option.bind_some]
     simp [kC,wT]) (by rw [Zk];lia)]
    simp
   rw [List.map_cons,bL rfl bo,e]
   simp [bC,eB,p]
  ·rw [if_neg p] at hq
   obtain ⟨z',e⟩:=ih ws (some (.pu (.str [c]))) (by lia)
   refine ⟨z',?_⟩
   have bo:bN [some (.pu S),some (.pu (.dct 0 (nT (nums 0 st)))),some (.ow tb),some (.pu (.lst (s.map T.str))),some (.ow (.lst (ws.map wT))),some (.pu (.str [c])),l6] =
     some (.nx [some (.pu S),some (.pu (.dct 0 (nT (nums 0 st)))),some (.ow tb),some (.pu (.lst (s.map T.str))),some (.ow (.lst (ws.map wT))),some (.pu (.str [c])),l6]):=by
    unfold bN
    rw [mE (m:=.fr) (by
     rw [e2,ad,Option.bind_some]
     simp [eO,hq])]
    simp
   rw [List.map_cons,bL rfl bo,e]
   simp [bC,eB,p]
noncomputable def cL:List Nat:=[97,98,99,100,101,102,103,104,105,106,107,108,109,110,111,112,113,114,115,116,117,118,119,120,121,122]
noncomputable def lkT (st:List (List Tx)) (s:List Tx):T:=if hdW s=[] then .non else .int (num st ((hdW s).drop 1):Nat)
noncomputable def fT (st:List (List Tx)) (s:List Tx):T:=.tup [.int (hdW s).length,.int (laW s).length,lkT st s,.tup ((bC st (hdW s) cL).map wT)]
theorem ma (l:List (Nat×Nat)):d5 (l.map wT)=true:=fN wT (fun x=>by simp [wT]) l
theorem qY (st:List (List Tx)) (s:List Tx):imm (lkT st s)=true:=by unfold lkT;split <;> rfl
theorem oN (st:List (List Tx)) (s:List Tx):imm (fT st s)=true:=by simp [fT,qY,ma]
theorem Cn (t:Tx):cut t (some 1) none=t.drop 1:=by
 unfold cut clip
 simp only [show ¬ ((1:Int) < 0) by lia,if_false]
 by_cases h:1<=t.length
 ·rw [Nat.min_eq_left (by simpa using h),show (1:Int).toNat=1 from rfl,List.take_of_length_le (by simp)]
 ·have:t=[]:=List.length_eq_zero_iff.mp (by lia)
  subst this
  rfl
theorem t4 (st:List (List Tx)) (S:T) (s:List Tx) (hs:s ≠ []) (hl:(hdW s).length<=120) (ht:hdW s ≠ []->(hdW s).drop 1∈st.flatten) (tb:List T) (hb:tb.length < 16777216) (z4 z5 z6:Option Cell) :
  ∃ z4' z5' z6',dz [some (.pu S),some (.pu (.dct 0 (nT (nums 0 st)))),some (.ow (.lst tb)),some (.pu (.lst (s.map T.str))),z4,z5,z6] =
   some (.nx [some (.pu S),some (.pu (.dct 0 (nT (nums 0 st)))),some (.ow (.lst (tb++[fT st s]))),some (.pu (.lst (s.map T.str))),z4',z5',z6']):=by
 obtain ⟨z',e⟩:=tb1 st S (.lst tb) s hs hl z6 cL [] z5 (by decide)
 rw [List.nil_append] at e
 refine ⟨some (.pu (.lst ((bC st (hdW s) cL).map wT))),z',some (.pu (lkT st s)),?_⟩
 unfold dz
 rw [au (η1:=[some (.pu S),some (.pu (.dct 0 (nT (nums 0 st)))),some (.ow (.lst tb)),some (.pu (.lst (s.map T.str))),some (.ow (.lst (([]:List (Nat×Nat)).map wT))),z5,z6]) rfl]
 rw [au (η1:=[some (.pu S),some (.pu (.dct 0 (nT (nums 0 st)))),some (.ow (.lst tb)),some (.pu (.lst (s.map T.str))),some (.ow (.lst ((bC st (hdW s) cL).map wT))),z',z6]) (by
  rw [fD (l:=cL.map fun c=>T.str [c]) rfl]
  exact e)]
 rw [au (η1:=[some (.pu S),some (.pu (.dct 0 (nT (nums 0 st)))),some (.ow (.lst tb)),some (.pu (.lst (s.map T.str))),some (.pu (.lst ((bC st (hdW s) cL).map wT))),z',z6]) rfl]
 rw [au (η1:=[some (.pu S),some (.pu (.dct 0 (nT (nums 0 st)))),some (.ow (.lst tb)),some (.pu (.lst (s.map T.str))),some (.pu (.lst ((bC st (hdW s) cL).map wT))),z',some (.pu .non)]) rfl]
 have ih:=zM (m:=.pu) (n:=.fr) hs
 have il:=Cv (m:=.pu) (n:=.fr) hs
 rw [au (η1:=[some (.pu S),some (.pu (.dct 0 (nT (nums 0 st)))),some (.ow (.lst tb)),some (.pu (.lst (s.map T.str))),some (.pu (.lst ((bC st (hdW s) cL).map wT))),z',some (.pu (lkT st s))]) (by
  by_cases p:hdW s=[]
  ·rw [mE (m:=.fr) (by simp [-aU,ih,p])]
   simp [lkT,p]
  ·have hq:=i0 st ((hdW s).drop 1) 0
   rw [Nat.zero_add,if_pos (ht p)] at hq
   rw [m9 (m:=.fr) (by simp [-aU,ih,p])]
   simp [-aU,ih,lkT,p,Cn,eO,hq,-List.drop_one])]
 have li:=qY st s
 have wi:=ma (bC st (hdW s) cL)
 have wl:(bC st (hdW s) cL).length<=16777216:=Nat.le_trans (v9 _ _ _) (by decide)
 have tl:∀ m,eZ [(m,.lst ((bC st (hdW s) cL).map wT))]=some (.fr,.tup ((bC st (hdW s) cL).map wT)):=fun m=>by
  show (if _ then _ else _)=_
  rw [if_pos (by rw [Zk];exact wl)]
  simp only [up,imm,wi,if_true]
 rw [iZ (l:=tb) (t:=fT st s) rfl (by
  simp [-aU,ih,il,tl,li,wi,kC,fT]) hb]
 simp
theorem tb2 (st:List (List Tx)) (S:T) (l:List (List Tx)):∀ (tb:List T) (z3 z4 z5 z6:Option Cell),(∀ s∈l,s ≠ []/\(hdW s).length<=120/\(hdW s ≠ []->(hdW s).drop 1∈st.flatten))->tb.length+l.length < 16777216 →
  ∃ z3' z4' z5' z6',forL (bh 3) dz (l.map fun s=>T.lst (s.map T.str)) [some (.pu S),some (.pu (.dct 0 (nT (nums 0 st)))),some (.ow (.lst tb)),z3,z4,z5,z6] =
   some (.nx [some (.pu S),some (.pu (.dct 0 (nT (nums 0 st)))),some (.ow (.lst (tb++l.map (fT st)))),z3',z4',z5',z6']):=by
 induction l with
 | nil=>exact fun tb z3 z4 z5 z6 _ _=>⟨z3,z4,z5,z6,by simp [forL]⟩
 | cons s l ih =>
  intro tb z3 z4 z5 z6 h hl
  rw [List.length_cons] at hl
  obtain ⟨h1,h2,h3⟩:=h s Zv
  obtain ⟨y4,y5,y6,eb⟩:=t4 st S s h1 h2 h3 tb (by lia) z4 z5 z6
  obtain ⟨x3,x4,x5,x6,e⟩:=ih (tb++[fT st s]) (some (.pu (.lst (s.map T.str)))) y4 y5 y6 (fun x hx=>h x (Zw _ hx)) (by rw [Zj,List.length_singleton];lia)
  refine ⟨x3,x4,x5,x6,?_⟩
  rw [List.map_cons,bL rfl eb,e]
  simp
noncomputable def bj (st:List (List Tx)):T:=.lst (st.map (fT st))
theorem yN (st:List (List Tx)) (h:∀ s∈st,s ≠ []/\(hdW s).length<=120/\(hdW s ≠ []->(hdW s).drop 1∈st.flatten)) (hl:st.length < 16777216):dj [stT st,.dct 0 (nT (nums 0 st))]=some (.fr,bj st):=by
 obtain ⟨z3,z4,z5,z6,e⟩:=tb2 st (stT st) st [] none none none none h (by simpa using hl)
 rw [List.nil_append] at e
 unfold dj
 refine fO rfl (η:=[some (.pu (stT st)),some (.pu (.dct 0 (nT (nums 0 st)))),none,z3,z4,z5,z6]) ?_
 refine (show ar _ _ [some (.pu (stT st)),some (.pu (.dct 0 (nT (nums 0 st)))),none,none,none,none,none]=_ from ?_)
 rw [au (η1:=[some (.pu (stT st)),some (.pu (.dct 0 (nT (nums 0 st)))),some (.ow (.lst [])),none,none,none,none]) rfl]
 rw [au (η1:=[some (.pu (stT st)),some (.pu (.dct 0 (nT (nums 0 st)))),some (.ow (.lst (st.map (fT st)))),z3,z4,z5,z6]) (by
  rw [jv (m:=.pu) (l:=st.map fun s=>T.lst (s.map T.str)) rfl rfl]
  exact e)]
 simp [bj]
structure GI (f:Tx->List Pl) (g:Gr) (pre:List Tx):Prop where
 nd:(g.map (·.1)).Nodup
 eq:∀ q∈g,q.2=pre.filter fun w=>decide (f w=q.1)
 al:∀ w∈pre,f w∈g.map (·.1)
theorem lh (g:Gr) (k:List Pl) (w:Tx):(cO g k w).map (·.1)=if k∈g.map (·.1) then g.map (·.1) else g.map (·.1)++[k]:=by
 induction g with
 | nil=>simp [cO]
 | cons a g ih =>
  obtain ⟨x,l⟩:=a
  unfold cO
  by_cases e:x=k
  ·rw [if_pos e];subst e;simp
  ·rw [if_neg e,List.map_cons,ih]
   have e':¬ k=x:=fun z=>e z.symm
   by_cases m:k∈g.map (·.1)
   ·rw [if_pos m,if_pos (by rw [List.map_cons];exact Zw _ m)];rfl
   ·rw [if_neg m,if_neg (by rw [List.map_cons,Zg,not_or];exact ⟨e',m⟩)];rfl
theorem uA (g:Gr) (k:List Pl) (w:Tx) (nd:(g.map (·.1)).Nodup) (q:List Pl×List Tx) (h:q∈cO g k w):(q.1 ≠ k/\q∈g)\/(q.1=k/\((∃ l,(k,l)∈g/\q.2=l++[w])\/(k ∉ g.map (·.1)/\q.2=[w]))):=by
 induction g with
 | nil =>
  simp only [cO,Zi] at h
  subst h
  exact .inr ⟨rfl,.inr ⟨by simp,rfl⟩⟩
 | cons a g ih =>
  obtain ⟨x,l⟩:=a
  rw [List.map_cons,List.nodup_cons] at nd
  unfold cO at h
  by_cases e:x=k
  ·rw [if_pos e] at h
   rcases Zg.mp h with rfl | h
   ·exact .inr ⟨e,.inl ⟨l,by rw [← e];exact Zv,rfl⟩⟩
   ·exact .inl ⟨fun z=>nd.1 (List.mem_map.mpr ⟨q,h,z.trans e.symm⟩),Zw _ h⟩
  ·rw [if_neg e] at h
   rcases Zg.mp h with rfl | h
   ·exact .inl ⟨e,Zv⟩
   ·rcases ih nd.2 h with ⟨h1,h2⟩ | ⟨h1,⟨l',h2,h3⟩ | ⟨h2,h3⟩⟩
    ·exact .inl ⟨h1,Zw _ h2⟩
    ·exact .inr ⟨h1,.inl ⟨l',Zw _ h2,h3⟩⟩
    ·exact .inr ⟨h1,.inr ⟨by rw [List.map_cons,Zg,not_or];exact ⟨fun z=>e z.symm,h2⟩,h3⟩⟩
theorem GI.add {f:Tx->List Pl} {g:Gr} {pre:List Tx} (I:GI f g pre) (w:Tx):GI f (cO g (f w) w) (pre++[w]):=by
 refine ⟨?_,fun q hq=>?_,fun x hx=>?_⟩
 ·rw [lh]
  by_cases m:f w∈g.map (·.1)
  ·rw [if_pos m];exact I.nd
  ·rw [if_neg m]
   exact List.nodup_append.mpr ⟨I.nd,by simp,fun a ha b hb e=>m (by rw [Zi] at hb;rw [← hb,← e];exact ha)⟩
 ·rw [List.filter_append]
  rcases uA g (f w) w I.nd q hq with ⟨h1,h2⟩ | ⟨h1,⟨l,h2,h3⟩ | ⟨h2,h3⟩⟩
  ·rw [I.eq q h2,show [w].filter (fun w=>decide (f w=q.1))=[] by rw [List.filter_cons_of_neg (by simp only [decide_eq_true_eq];exact fun z=>h1 z.symm)];rfl,List.append_nil]
  ·rw [h3,show l=pre.filter fun w'=>decide (f w'=f w) from I.eq (f w,l) h2,h1,show [w].filter (fun w'=>decide (f w'=f w))=[w] by simp]
  ·rw [h3,h1,show [w].filter (fun w'=>decide (f w'=f w))=[w] by simp,List.filter_eq_nil_iff.mpr fun x hx=>by
    have:=I.al x hx
    simp only [decide_eq_true_eq]
    intro z
    rw [z] at this
    exact h2 this]
   rfl
 ·rw [lh]
  rcases Zh.mp hx with hx | hx
  ·have:=I.al x hx
   by_cases m:f w∈g.map (·.1)
   ·rw [if_pos m];exact this
   ·rw [if_neg m];exact Zh.mpr (.inl this)
  ·rw [Zi.mp hx]
   by_cases m:f w∈g.map (·.1)
   ·rw [if_pos m];exact m
   ·rw [if_neg m];simp
theorem GI.grp {d:Fd} (ws:List Tx):∀ {g:Gr} {pre:List Tx},GI (look d) g pre->GI (look d) (grp d ws g) (pre++ws):=by
 induction ws with
 | nil=>intro g pre I;rw [List.append_nil];exact I
 | cons w ws ih =>
  intro g pre I
  have:=ih (I.add w)
  rw [Zf] at this
  exact this
theorem CY (d:Fd):GI (look d) (grp d (bV (aO d)) []) (bV (aO d)):=GI.grp (bV (aO d)) (g:=[]) (pre:=[]) ⟨by simp,fun q hq=>by simp at hq,fun w hw=>by simp at hw⟩
theorem Dh (d:Fd) (s:List Tx) (h:s∈ij d):∃ k,s=(bV (aO d)).filter fun w=>decide (look d w=k):=by
 obtain ⟨q,hq,rfl⟩:=List.mem_map.mp h
 exact ⟨q.1,(CY d).eq q hq⟩
theorem ze (st:List (List Tx)) (w:Tx) (h:w∈st.flatten):w∈st.getD (num st w) []:=by
 induction st with
 | nil=>simp at h
 | cons s st ih =>
  by_cases m:w∈s
  ·rw [show num (s :: st) w=0 by simp [num,m]];exact m
  ·rw [show num (s :: st) w=num st w+1 by simp [num,m],List.getD_cons_succ]
   rw [Ze] at h
   exact ih ((Zh.mp h).resolve_left m)
theorem getD_mem (st:List (List Tx)) (i:Nat) (h:i < st.length):st.getD i []∈st:=by
 rw [List.getD_eq_getElem?_getD,Zd h]
 exact List.getElem_mem h
theorem wj (d:Fd) (w x:Tx) (p:Pl):look (cM d w p) x=if x=w then look d x++[p] else look d x:=by
 induction d with
 | nil =>
  by_cases e:x=w
  ·simp [cM,look,e]
  ·have e':¬ w=x:=fun z=>e z.symm
   simp [cM,look,e,e']
 | cons a d ih =>
  obtain ⟨y,l⟩:=a
  unfold cM
  by_cases e:y=w
  ·rw [if_pos e]
   subst e
   by_cases e2:y=x
   ·simp [look,e2]
   ·have e3:¬ x=y:=fun z=>e2 z.symm
    simp [look,e2,e3]
  ·rw [if_neg e]
   by_cases e2:y=x
   ·have e3:¬ x=w:=fun z=>e (e2.trans z)
    simp [look,e2,e3]
   ·rw [show look ((y,l) :: cM d w p) x=look (cM d w p) x by simp [look,e2],show look ((y,l) :: d) x=look d x by simp [look,e2],ih]
theorem sS (n:Nat) (t:Tx) (e:Nat) (x:Tx) (ss:List Nat):∀ d,look (adds n t e ss d) x=look d x++(ss.filter fun s=>decide ((t.drop s).take (e - s)=x)).map fun _=>(n,e):=by
 induction ss with
 | nil=>intro d;simp [adds]
 | cons s ss ih =>
  intro d
  rw [show adds n t e (s :: ss) d=adds n t e ss (cM d ((t.drop s).take (e - s)) (n,e)) from rfl,ih,wj]
  by_cases h:x=(t.drop s).take (e - s)
  ·rw [if_pos h,List.filter_cons_of_pos (by simpa using h.symm)]
   simp
  ·rw [if_neg h,List.filter_cons_of_neg (by simpa using fun z=>h z.symm)]
theorem kD {P:Nat->Bool} {s0:Nat}:∀ {l:List Nat},l.Nodup->(∀ s∈l,P s=true->s=s0)->l.filter P=if s0∈l/\P s0=true then [s0] else []
 | [],_,_=>by simp
 | a :: l,hn,h=>by
  obtain ⟨h1,h2⟩:=List.nodup_cons.mp hn
  have ih:=kD h2 fun s hs=>h s (Zw _ hs)
  by_cases q:P a=true
  ·have e:=h a Zv q
   subst e
   rw [List.filter_cons_of_pos q,ih,if_neg fun z=>h1 z.1,if_pos ⟨Zv,q⟩]
  ·rw [List.filter_cons_of_neg q,ih]
   by_cases z:s0∈l/\P s0=true
   ·rw [if_pos z,if_pos ⟨Zw _ z.1,z.2⟩]
   ·rw [if_neg z,if_neg]
    rintro ⟨z1,z2⟩
    rcases Zg.mp z1 with rfl | z1
    ·exact q z2
    ·exact z ⟨z1,z2⟩
theorem starts (t x:Tx) (e:Nat) (he:e<=t.length):((List.range (e+1)).filter fun s=>decide ((t.drop s).take (e - s)=x)).map (fun _=>())=if x <:+ t.take e then [()] else []:=by
 have cut:∀ s,s<=e->(t.drop s).take (e - s)=(t.take e).drop s:=fun s hs=>by rw [List.drop_take]
 have len:∀ s,s<=e->((t.take e).drop s).length=e - s:=fun s hs=>by rw [List.length_drop,List.length_take];omega
 rw [kD (s0:=e - x.length) List.nodup_range fun s hs hp=>by
  have h1:=List.mem_range.mp hs
  have h2:=of_decide_eq_true hp
  rw [cut s (by omega)] at h2
  have:=len s (by omega)
  rw [h2] at this
  omega]
 by_cases h:x <:+ t.take e
 ·have hl:x.length<=e:=by have:=h.length_le;rw [List.length_take] at this;omega
  rw [if_pos h,if_pos]
  ·rfl
  ·refine ⟨List.mem_range.mpr (by omega),decide_eq_true ?_⟩
   rw [cut _ (by omega)]
   obtain ⟨y,hy⟩:=h
   have h1:(t.take e).length=e:=by rw [List.length_take];omega
   rw [← hy,Zj] at h1
   rw [← hy,show e - x.length=y.length by omega,List.drop_left]
 ·rw [if_neg h,if_neg]
  ·rfl
  ·rintro ⟨h1,h2⟩
   have h1:=List.mem_range.mp h1
   have h2:=of_decide_eq_true h2
   rw [cut _ (by omega)] at h2
   exact h (by rw [← h2];exact List.drop_suffix _ _)
theorem rZ (n:Nat) (t x:Tx) (es:List Nat):∀ d,(∀ e∈es,e<=t.length)->look (fZ n t es d) x=look d x++(es.filter fun e=>decide (x <:+ t.take e)).map fun e=>(n,e):=by
 induction es with
 | nil=>intro d _;simp [fZ]
 | cons e es ih =>
  intro d h
  rw [show fZ n t (e :: es) d=fZ n t es (adds n t e (List.range (e+1)) d) from rfl,ih _ fun i hi=>h i (Zw _ hi),sS]
  have st:=starts t x e (h e Zv)
  have:((List.range (e+1)).filter fun s=>decide ((t.drop s).take (e - s)=x)).map (fun _=>(n,e))=(if x <:+ t.take e then [()] else []).map fun _=>(n,e):=by
   rw [← st,List.map_map];rfl
  rw [this]
  by_cases q:x <:+ t.take e
  ·rw [if_pos q,List.filter_cons_of_pos (by simpa using q)]
   simp
  ·rw [if_neg q,List.filter_cons_of_neg (by simpa using q)]
   simp
noncomputable def iK:Nat->List Tx->List Pl
 | _,[]=>[]
 | n,t :: l=>(List.range (t.length+1)).map (fun e=>(n,e))++iK (n+1) l
theorem zr (l:List Tx):∀ n p,p∈iK n l->n<=p.1:=by
 induction l with
 | nil=>intro n p h;simp [iK] at h
 | cons t l ih =>
  intro n p h
  rcases Zh.mp h with h | h
  ·obtain ⟨e,_,rfl⟩:=List.mem_map.mp h
   exact Zt _
  ·have:=ih (n+1) p h
   omega
theorem tX (x:Tx) (l:List Tx):∀ n d,look (hU n l d) x=look d x++(iK n l).filter fun p=>decide (x <:+ (l.getD (p.1 - n) []).take p.2):=by
 induction l with
 | nil=>intro n d;simp [hU,iK]
 | cons t l ih =>
  intro n d
  rw [show hU n (t :: l) d=hU (n+1) l (fZ n t (List.range (t.length+1)) d) from rfl,ih,rZ n t x _ d fun e he=>by have:=List.mem_range.mp he;omega,Zf]
  congr 1
  rw [iK,List.filter_append,List.filter_map]
  congr 1
  ·congr 1
   apply List.filter_congr
   intro e _
   simp
  ·apply List.filter_congr
   intro p hp
   have:=zr l (n+1) p hp
   rw [show p.1 - n=(p.1 - (n+1))+1 by omega,List.getD_cons_succ]
noncomputable def En (bk:List Tx) (x:Tx) (p:Pl):Prop:=x <:+ (bk.getD p.1 []).take p.2
noncomputable instance (bk:List Tx) (x:Tx) (p:Pl):Decidable (En bk x p):=inferInstanceAs (Decidable (_ <:+ _))
theorem ig (bk:List Tx) (x:Tx):look (found bk) x=(iK 0 bk).filter fun p=>decide (En bk x p):=by
 unfold found
 rw [tX,show look [([],[])] x=[] by unfold look;split <;> rfl,List.nil_append]
 rfl
theorem oy {bk:List Tx} {x:Tx} {p:Pl}:p∈look (found bk) x ↔ p∈iK 0 bk/\En bk x p:=by
 rw [ig,List.mem_filter,decide_eq_true_eq]
theorem look_same {bk:List Tx} {x y:Tx}:look (found bk) x=look (found bk) y ↔ ∀ p∈iK 0 bk,En bk x p ↔ En bk y p:=by
 constructor
 ·intro h p hp
  have h1:=oy (bk:=bk) (x:=x) (p:=p)
  have h2:=oy (bk:=bk) (x:=y) (p:=p)
  rw [h] at h1
  exact ⟨fun z=>(h2.mp (h1.mpr ⟨hp,z⟩)).2,fun z=>(h1.mp (h2.mpr ⟨hp,z⟩)).2⟩
 ·intro h
  rw [ig,ig]
  apply List.filter_congr
  intro p hp
  exact decide_eq_decide.mpr (h p hp)
theorem fH (l:List Tx):∀ n p,p∈iK n l ↔ n<=p.1/\p.1 < n+l.length/\p.2<=(l.getD (p.1 - n) []).length:=by
 induction l with
 | nil=>intro n p;simp [iK];omega
 | cons t l ih =>
  intro n p
  obtain ⟨i,e⟩:=p
  rw [iK,Zh,ih,List.mem_map]
  simp only [List.mem_range,Prod.mk.injEq,List.length_cons]
  constructor
  ·rintro (⟨a,h1,h2,h3⟩ | ⟨h1,h2,h3⟩)
   ·subst h2 h3
    simp
    omega
   ·refine ⟨by omega,by omega,?_⟩
    rw [show i - n=(i - (n+1))+1 by omega,List.getD_cons_succ]
    exact h3
  ·rintro ⟨h1,h2,h3⟩
   by_cases q:i=n
   ·subst q
    simp at h3
    exact .inl ⟨e,by omega,rfl,rfl⟩
   ·rw [show i - n=(i - (n+1))+1 by omega,List.getD_cons_succ] at h3
    exact .inr ⟨by omega,by omega,h3⟩
theorem qd {bk:List Tx} {x:Tx}:x∈aO (found bk) ↔ x=[]\/∃ p∈iK 0 bk,En bk x p:=by
 unfold found
 rw [jL]
 constructor
 ·rintro (h | ⟨t,ht,e,he,s,hs,rfl⟩)
  ·left;simpa [aO] using h
  ·right
   obtain ⟨i,hi,rfl⟩:=List.getElem_of_mem ht
   have h1:=List.mem_range.mp he
   refine ⟨(i,e),(fH bk 0 (i,e)).mpr ⟨Nat.zero_le _,by simpa using hi,?_⟩,?_⟩
   ·simp [hi];omega
   ·show _ <:+ (bk.getD i []).take e
    rw [List.getD_eq_getElem?_getD,Zd hi,Option.getD_some,← List.drop_take]
    exact List.drop_suffix _ _
 ·rintro (h | ⟨⟨i,e⟩,hp,h⟩)
  ·left;rw [h];simp [aO]
  ·right
   obtain ⟨_,h2,h3⟩:=(fH bk 0 (i,e)).mp hp
   have hi:i < bk.length:=by simpa using h2
   have hg:bk.getD i []=bk[i]:=by rw [List.getD_eq_getElem?_getD,Zd hi,Option.getD_some]
   have h3:e<=bk[i].length:=by simpa [hi] using h3
   have h4:x <:+ bk[i].take e:=by rw [← hg];exact h
   have hl:x.length<=e:=by have:=h4.length_le;rw [List.length_take] at this;omega
   refine ⟨bk[i],List.getElem_mem hi,e,List.mem_range.mpr (by omega),e - x.length,List.mem_range.mpr (by omega),?_⟩
   obtain ⟨y,hy⟩:=h4
   have h5:(bk[i].take e).length=e:=by rw [List.length_take];omega
   rw [← hy,Zj] at h5
   rw [← List.drop_take,← hy,show e - x.length=y.length by omega,List.drop_left]
theorem qv {s:List Tx} (h:s ≠ []):hdW s∈s:=by
 cases s with
 | nil=>exact absurd rfl h
 | cons a s=>exact Zv
theorem pC {d:Fd} {s:List Tx} (hs:s∈ij d) (hne:s ≠ []) (w:Tx):w∈s ↔ w∈aO d/\look d w=look d (hdW s):=by
 obtain ⟨k,e⟩:=Dh d s hs
 have hk:look d (hdW s)=k:=by
  have:=qv hne
  rw [e] at this
  have:=(List.mem_filter.mp this).2
  rw [← e] at this
  exact of_decide_eq_true this
 rw [hk]
 conv=>lhs;rw [e]
 rw [List.mem_filter,decide_eq_true_eq,(cX (aO d)).mem_iff]
theorem tf (st:List (List Tx)) (u v:Tx) (h:∀ s∈st,u∈s ↔ v∈s):num st u=num st v:=by
 induction st with
 | nil=>rfl
 | cons s st ih =>
  have e:=ih fun x hx=>h x (Zw _ hx)
  have e2:=h s Zv
  unfold num
  by_cases q:u∈s
  ·rw [if_pos q,if_pos (e2.mp q)]
  ·rw [if_neg q,if_neg fun z=>q (e2.mpr z),e]
theorem ua {d:Fd} (h0:∀ s∈ij d,s ≠ []) {u v:Tx} (hu:u∈aO d) (hv:v∈aO d) (h:look d u=look d v):num (ij d) u=num (ij d) v :=
 tf _ u v fun s hs=>by rw [pC hs (h0 s hs),pC hs (h0 s hs),h];exact ⟨fun z=>⟨hv,z.2⟩,fun z=>⟨hu,z.2⟩⟩
theorem pM {bk:List Tx} {x:Tx} {c n e:Nat} (h:e+1<=(bk.getD n []).length):En bk (x++[c]) (n,e+1) ↔ En bk x (n,e)/\(bk.getD n [])[e]?=some c:=by
 unfold En
 dsimp only
 have ht:(bk.getD n []).take (e+1)=(bk.getD n []).take e++[(bk.getD n [])[e]]:=by rw [List.take_add_one,Zd (show e < (bk.getD n []).length by omega)];rfl
 rw [ht,Zd (show e < (bk.getD n []).length by omega)]
 constructor
 ·rintro ⟨y,hy⟩
  rw [← Zf] at hy
  obtain ⟨h1,h2⟩:=List.append_inj' hy rfl
  refine ⟨⟨y,h1⟩,?_⟩
  simp only [List.cons.injEq,and_true] at h2
  rw [h2]
 ·rintro ⟨⟨y,hy⟩,h2⟩
  refine ⟨y,?_⟩
  rw [← Zf,hy,Option.some.inj h2]
theorem me {bk:List Tx} {x:Tx} {n:Nat} (h:En bk x (n,0)):x=[]:=by
 unfold En at h
 simpa using h
theorem vh {bk:List Tx} {x y:Tx} (c:Nat) (h:look (found bk) x=look (found bk) y):look (found bk) (x++[c])=look (found bk) (y++[c]):=by
 rw [look_same] at h ⊢
 rintro ⟨n,e⟩ hp
 cases e with
 | zero=>exact ⟨fun z=>absurd (me z) (by simp),fun z=>absurd (me z) (by simp)⟩
 | succ e =>
  have hp':=(fH bk 0 (n,e+1)).mp hp
  have hl:e+1<=(bk.getD n []).length:=by simpa using hp'.2.2
  rw [pM hl,pM hl]
  have hq:(n,e)∈iK 0 bk:=(fH bk 0 (n,e)).mpr ⟨hp'.1,hp'.2.1,by simpa using (by omega:e<=(bk.getD n []).length)⟩
  rw [h _ hq]
theorem zf {bk:List Tx} {x y:Tx} (hx:x ≠ []) (hy:y ≠ []) (h:look (found bk) x=look (found bk) y):x∈aO (found bk) ↔ y∈aO (found bk):=by
 rw [look_same] at h
 rw [qd,qd]
 constructor
 ·rintro (z | ⟨p,hp,z⟩)
  ·exact absurd z hx
  ·exact .inr ⟨p,hp,(h p hp).mp z⟩
 ·rintro (z | ⟨p,hp,z⟩)
  ·exact absurd z hy
  ·exact .inr ⟨p,hp,(h p hp).mpr z⟩
theorem yG {bk:List Tx} {x:Tx} {c:Nat} (h:x++[c]∈aO (found bk)):x∈aO (found bk):=by
 rw [qd] at h ⊢
 rcases h with h | ⟨⟨n,e⟩,hp,h⟩
 ·simp at h
 ·cases e with
  | zero=>have:=me h;simp at this
  | succ e =>
   have hp':=(fH bk 0 (n,e+1)).mp hp
   have hl:e+1<=(bk.getD n []).length:=by simpa using hp'.2.2
   exact .inr ⟨(n,e),(fH bk 0 (n,e)).mpr ⟨hp'.1,hp'.2.1,by simpa using (by omega:e<=(bk.getD n []).length)⟩,((pM hl).mp h).1⟩
theorem fI {f:Val->Val->Option Val} {a b:Ex} {η:Env} {x y:Val} (h1:a η=some x) (h2:b η=some y):e2 f a b η=f x y:=by simp [h1,h2]
theorem lz {a:Ex} {r:Exs} {η:Env} {x:Val} {xs:List Val} (h1:a η=some x) (h2:r η=some xs):af a r η=some (x :: xs):=by simp [h1,h2]
theorem zC (st:List (List Tx)) (s:List Tx) (n:Nat):eqD (n+3) (fT st s)=true:=by
 have d1:eqD (n+2) (lkT st s)=true:=by unfold lkT;split <;> rfl
 have d2:((bC st (hdW s) cL).map wT).all (eqD (n+1))=true:=by
  rw [List.all_eq_true]
  intro x hx
  obtain ⟨p,_,rfl⟩:=List.mem_map.mp hx
  simp [wT]
 unfold fT
 rw [eqD]
 simp only [List.all_cons,List.all_nil,d1,eqD,d2,Bool.and_self,Bool.true_and]
theorem zv (st:List (List Tx)):eqD 60 (bj st)=true:=by
 unfold bj
 rw [eqD,List.all_eq_true]
 intro x hx
 obtain ⟨s,_,rfl⟩:=List.mem_map.mp hx
 exact zC st s 56
theorem C6 (l:List (List Tx)):(∀ s∈l,s ≠ [])->l.length<=l.flatten.length:=by
 induction l with
 | nil=>exact fun _=>by simp
 | cons s l ih =>
  intro h
  have h1:=List.length_pos_iff.mpr (h s Zv)
  have h2:=ih fun x hx=>h x (Zw _ hx)
  rw [Ze,Zj,List.length_cons]
  lia
theorem Bz (st:List (List Tx)) (h:st.length < 16777216):i6 [(.pu,bj st)]=some (.fr,bj st):=by
 have im:d5 (st.map (fT st))=true:=fN (fT st) (fun s=>oN st s) st
 show mkL .pu (st.map (fT st))=_
 rw [fX (by rw [Zk];lia),im]
 rfl
theorem q9 {f:List Val->Option Val} {as:Exs} {η:Env} {xs:List Val} (h:as η=some xs):eN f as η=f xs:=by simp [h]
theorem Bj {m n:Md} (st:List (List Tx)) (i:Nat) (h:i < st.length):aU (m,bj st) (n,.int (i:Int))=some (.fr,fT st (st.getD i [])):=by
 show (ixP ((st.map (fT st)).length) (i:Int)).bind _=_
 rw [qU (by rw [Zk];exact h),Option.bind_some,List.getElem?_map,Zd h,List.getD_eq_getElem?_getD,Zd h,Option.map_some,Option.map_some,Option.getD_some]
 unfold sub up
 rw [oN,if_pos rfl]
theorem we {m n:Md} (l:List T) (t:T):aU (m,.lst (l++[t])) (n,.int (-1))=some (sub m t):=by
 have:ixP ((l++[t]).length) (-1)=some l.length:=by
  unfold ixP
  rw [if_neg (by lia),Zj,List.length_singleton,if_pos (by lia)]
  congr 1
  lia
 show (ixP ((l++[t]).length) (-1)).bind _=_
 rw [this,Option.bind_some,List.getElem?_append_right (Zt _)]
 simp
noncomputable def wd (ws:List (Nat×Nat)):List (T×T):=ws.map fun p=>(T.str [p.1],T.int (p.2:Int))
theorem Cc (ws:List (Nat×Nat)):mw (ws.map wT)=some (wd ws):=by
 induction ws with
 | nil=>rfl
 | cons w ws ih =>
  show (if eO (T.str [w.1])/\imm (T.int (w.2:Int)) then (mw (ws.map wT)).map _ else none)=_
  rw [if_pos ⟨rfl,rfl⟩,ih]
  rfl
theorem nW:∀ (ws acc:List (Nat×Nat)),((acc++ws).map (·.1)).Nodup->(wd ws).foldl (fun d q=>dput d q.1 q.2) (wd acc)=wd (acc++ws)
 | [],acc,_=>by rw [List.append_nil];rfl
 | w :: ws,acc,h=>by
  have hn:w.1 ∉ acc.map (·.1):=fun z=>by
   rw [List.map_append,List.map_cons] at h
   exact (List.nodup_append.mp h).2.2 w.1 z w.1 Zv rfl
  have e:dput (wd acc) (T.str [w.1]) (T.int (w.2:Int))=wd (acc++[w]):=by
   unfold dput
   rw [if_neg (by
    simp only [List.any_eq_true,not_exists,not_and]
    intro p hp
    obtain ⟨q,hq,rfl⟩:=List.mem_map.mp hp
    simp only [eqT,beq_iff_eq,List.cons.injEq,and_true]
    intro z
    exact hn (List.mem_map.mpr ⟨q,hq,z⟩))]
   simp [wd]
  show (wd ws).foldl _ (dput (wd acc) (T.str [w.1]) (T.int (w.2:Int)))=_
  rw [e,nW ws (acc++[w]) (by rw [Zf];exact h),Zf]
  rfl
theorem qW (st:List (List Tx)) (h:Tx):∀ (cs:List Nat),cs.Nodup->((bC st h cs).map (·.1)).Sublist cs
 | [],_=>by simp [bC]
 | c :: cs,hn=>by
  obtain ⟨h1,h2⟩:=List.nodup_cons.mp hn
  have ih:=qW st h cs h2
  have:bC st h (c :: cs)=eB st h c++bC st h cs:=rfl
  rw [this,List.map_append]
  unfold eB
  split
  ·exact ih.cons₂ c
  ·exact ih.cons c
theorem Ag {m:Md} (st:List (List Tx)) (h:Tx):iq [(m,.tup ((bC st h cL).map wT))]=some (.fr,.dct 0 (wd (bC st h cL))):=by
 show (mw ((bC st h cL).map wT)).map _=_
 rw [Cc,Option.map_some]
 have nd:((bC st h cL).map (·.1)).Nodup:=(qW st h cL (by decide)).nodup (by decide)
 have:=nW (bC st h cL) [] (by simpa using nd)
 rw [List.nil_append] at this
 exact congrArg (fun z=>some (Md.fr,T.dct 0 z)) this
theorem ly (st:List (List Tx)) (h:Tx) (c:Nat):∀ (cs:List Nat),bT (wd (bC st h cs)) (.str [c])=if c∈cs/\h++[c]∈st.flatten then some (.int (num st (h++[c]):Nat)) else none
 | []=>by simp [bC,wd,bT]
 | a :: cs=>by
  have ih:=ly st h c cs
  have e:bC st h (a :: cs)=eB st h a++bC st h cs:=rfl
  rw [e,wd,List.map_append,nG,show bT ((bC st h cs).map fun p=>(T.str [p.1],T.int (p.2:Int))) (.str [c])=_ from ih]
  by_cases q:a=c
  ·subst q
   by_cases p:h++[a]∈st.flatten
   ·have h0:bT ((eB st h a).map fun p=>(T.str [p.1],T.int (p.2:Int))) (.str [a])=some (.int (num st (h++[a]):Nat)):=by rw [eB,if_pos p];simp [bT]
    rw [h0]
    exact (if_pos ⟨Zv,p⟩).symm
   ·have h0:bT ((eB st h a).map fun p=>(T.str [p.1],T.int (p.2:Int))) (.str [a])=none:=by rw [eB,if_neg p];rfl
    rw [h0,if_neg fun z=>p z.2]
    exact (if_neg fun z=>p z.2).symm
  ·have hn:bT ((eB st h a).map fun p=>(T.str [p.1],T.int (p.2:Int))) (.str [c])=none:=by
    unfold eB
    split
    ·simp [bT,q]
    ·rfl
   rw [hn]
   have q':¬ c=a:=fun z=>q z.symm
   by_cases z:c∈cs/\h++[c]∈st.flatten
   ·rw [if_pos z,if_pos ⟨Zw _ z.1,z.2⟩];rfl
   ·rw [if_neg z,if_neg fun y=>z ⟨(Zg.mp y.1).resolve_left q',y.2⟩];rfl
noncomputable def wl (st:List (List Tx)):Tx->Tx->List Nat
 | _,[]=>[]
 | u,c :: cs=>if u++[c]∈st.flatten then num st (u++[c]) :: wl st (u++[c]) cs else []
structure Wk (st:List (List Tx)):Prop where
 ne:∀ s∈st,s ≠ []
 len:st.length<=117129
 z0:num st []=0
 nil:[]∈st.flatten
 az:∀ x∈st.flatten,Az x
 ext:∀ u∈st.flatten,∀ c,(hdW (st.getD (num st u) [])++[c]∈st.flatten ↔ u++[c]∈st.flatten)/\(u++[c]∈st.flatten->num st (hdW (st.getD (num st u) [])++[c])=num st (u++[c]))
theorem yM:∀ c,c < 123->97<=c->c∈cL:=by decide
theorem Wk.way {st:List (List Tx)} (W:Wk st) {u:Tx} (hu:u∈st.flatten) (c:Nat):bT (wd (bC st (hdW (st.getD (num st u) [])) cL)) (.str [c])=if u++[c]∈st.flatten then some (.int (num st (u++[c]):Nat)) else none:=by
 rw [ly]
 obtain ⟨e1,e2⟩:=W.ext u hu c
 by_cases p:u++[c]∈st.flatten
 ·have hc:=W.az _ p c (by simp)
  rw [if_pos p,if_pos ⟨yM c (by lia) hc.1,e1.mpr p⟩,e2 p]
 ·rw [if_neg p,if_neg fun z=>p (e1.mp z.2)]
theorem DR {m n:Md} (st:List (List Tx)) (s:List Tx):aU (m,fT st s) (n,.int 3)=some (.fr,.tup ((bC st (hdW s) cL).map wT)):=by
 have wi:=ma (bC st (hdW s) cL)
 unfold fT
 simp [ixP,wi]
noncomputable abbrev iL (ms:List Nat):T:=.lst (ms.map fun i:Nat=>T.int (i:Int))
noncomputable abbrev E5 (st:List (List Tx)) (w:Tx) (ms:List Nat) (z3 z4:Option Cell):Env:=[some (.pu (bj st)),some (.pu (.str w)),some (.ow (iL ms)),z3,z4]
theorem nj {a b:Ex} {η:Env} {m n:Md} {k:T} {l:List (T×T)} (h1:a η=some (m,k)) (h2:b η=some (n,.dct 0 l)) (hk:eO k=true):e2 cS a b η=some (.fr,.bl (!(bT l k).isSome)):=by
 rw [fI h1 h2]
 simp [hk]
theorem u9 {m n:Md} {k v:T} {l:List (T×T)} (hk:eO k=true) (h:bT l k=some v) (hv:imm v=true):oIx (m,.dct 0 l) (n,k)=some (.fr,v):=by
 show (if eO k=true then (bT l k).map (sub m) else none)=_
 rw [if_pos hk,h]
 simp [hv]
theorem xx {st:List (List Tx)} (W:Wk st) (w:Tx) {u:Tx} (hu:u∈st.flatten) (ms:List Nat) (c:Nat) (z4:Option Cell) :
  aM 4 (eN iq (af (e2 aU (e2 aU (ah 0) (e2 aU (ah 2) (eC (.int (-1))))) (eC (.int 3))) av)) (E5 st w (ms++[num st u]) (some (.pu (.str [c]))) z4)=some (.nx (E5 st w (ms++[num st u]) (some (.pu (.str [c]))) (some (.pu (.dct 0 (wd (bC st (hdW (st.getD (num st u) [])) cL))))))):=by
 have hi:=uN st u hu
 have h1:e2 aU (ah 2) (eC (.int (-1))) (E5 st w (ms++[num st u]) (some (.pu (.str [c]))) z4)=some (.fr,.int (num st u:Nat)):=by
  rw [fI (x:=(.bo,.lst ((ms.map fun i:Nat=>T.int (i:Int))++[.int (num st u:Nat)]))) (y:=(.fr,.int (-1))) (by simp) rfl,we]
  rfl
 have h2:e2 aU (e2 aU (ah 0) (e2 aU (ah 2) (eC (.int (-1))))) (eC (.int 3)) (E5 st w (ms++[num st u]) (some (.pu (.str [c]))) z4)=some (.fr,.tup ((bC st (hdW (st.getD (num st u) [])) cL).map wT)):=by
  rw [fI (x:=(.fr,fT st (st.getD (num st u) []))) (y:=(.fr,.int 3)) (by rw [fI (x:=(.pu,bj st)) (by simp [bj]) h1,Bj st _ hi]) rfl,DR]
 rw [bG (m:=.fr) (t:=.dct 0 (wd (bC st (hdW (st.getD (num st u) [])) cL))) (by rw [q9 (lz h2 rfl),Ag]) (by decide) (by simp)]
 rfl
theorem wk1 {st:List (List Tx)} (W:Wk st) (w:Tx) (cs:Tx):∀ (u:Tx) (ms:List Nat) (z3 z4:Option Cell),u∈st.flatten->ms.length+cs.length < 1000000 →
  (∃ z3' z4',forL (bh 3) bS (cs.map fun c=>T.str [c]) (E5 st w (ms++[num st u]) z3 z4)=some (.nx (E5 st w (ms++[num st u]++wl st u cs) z3' z4'))) ∨
  ∃ η',forL (bh 3) bS (cs.map fun c=>T.str [c]) (E5 st w (ms++[num st u]) z3 z4)=some (.rt (.fr,iL (ms++[num st u]++wl st u cs)) η'):=by
 induction cs with
 | nil=>exact fun u ms z3 z4 _ _=>.inl ⟨z3,z4,by simp [forL,wl]⟩
 | cons c cs ih =>
  intro u ms z3 z4 hu hl
  rw [List.length_cons] at hl
  have dg:=W.way hu c
  have s1:=xx W w hu ms c z4
  have ni:e2 cS (ah 3) (ah 4) (E5 st w (ms++[num st u]) (some (.pu (.str [c]))) (some (.pu (.dct 0 (wd (bC st (hdW (st.getD (num st u) [])) cL))))))=some (.fr,.bl (!(bT (wd (bC st (hdW (st.getD (num st u) [])) cL)) (.str [c])).isSome)):=nj (m:=.fr) (n:=.pu) rfl rfl rfl
  by_cases p:u++[c]∈st.flatten
  ·rw [if_pos p] at dg
   have bo:bS (E5 st w (ms++[num st u]) (some (.pu (.str [c]))) z4)=some (.nx (E5 st w (ms++[num st u]++[num st (u++[c])]) (some (.pu (.str [c]))) (some (.pu (.dct 0 (wd (bC st (hdW (st.getD (num st u) [])) cL))))))):=by
    unfold bS
    rw [au s1,au (η1:=E5 st w (ms++[num st u]) (some (.pu (.str [c]))) (some (.pu (.dct 0 (wd (bC st (hdW (st.getD (num st u) [])) cL)))))) (by rw [mE (m:=.fr) (by rw [ni,dg];rfl)];rfl)]
    rw [iZ (l:=(ms++[num st u]).map fun i:Nat=>T.int (i:Int)) (t:=.int (num st (u++[c]):Nat)) rfl (by rw [fI (x:=(.pu,.dct 0 (wd (bC st (hdW (st.getD (num st u) [])) cL)))) (y:=(.fr,.str [c])) rfl rfl];exact u9 rfl dg rfl) (by rw [Zk,Zj,List.length_singleton];lia)]
    simp
   have hw:wl st u (c :: cs)=num st (u++[c]) :: wl st (u++[c]) cs:=by rw [wl,if_pos p]
   rw [hw]
   have:=ih (u++[c]) (ms++[num st u]) (some (.pu (.str [c]))) (some (.pu (.dct 0 (wd (bC st (hdW (st.getD (num st u) [])) cL))))) p (by rw [Zj,List.length_singleton];lia)
   rw [List.map_cons,bL (η1:=E5 st w (ms++[num st u]) (some (.pu (.str [c]))) z4) rfl bo]
   simpa [Zf] using this
  ·rw [if_neg p] at dg
   right
   have hw:wl st u (c :: cs)=[]:=by rw [wl,if_neg p]
   rw [hw,List.append_nil]
   have bo:bS (E5 st w (ms++[num st u]) (some (.pu (.str [c]))) z4)=some (.rt (.fr,iL (ms++[num st u])) [some (.pu (bj st)),some (.pu (.str w)),none,some (.pu (.str [c])),some (.pu (.dct 0 (wd (bC st (hdW (st.getD (num st u) [])) cL))))]):=by
    unfold bS
    rw [au s1,kF (η':=[some (.pu (bj st)),some (.pu (.str w)),none,some (.pu (.str [c])),some (.pu (.dct 0 (wd (bC st (hdW (st.getD (num st u) [])) cL))))]) (v:=(.fr,iL (ms++[num st u]))) (by rw [m9 (m:=.fr) (by rw [ni,dg];rfl)];rfl)]
   exact ⟨_,xh (η1:=E5 st w (ms++[num st u]) (some (.pu (.str [c]))) z4) rfl bo⟩
theorem Ar {st:List (List Tx)} (W:Wk st) (w:Tx) (hw:w.length<=1000):jB [bj st,.str w]=some (.fr,iL (0 :: wl st [] w)):=by
 have key:=wk1 W w w [] [] none none W.nil (by simp;lia)
 rw [List.nil_append,W.z0] at key
 have h0:ar (jm 2 (eU (af (eC (.int 0)) av))) (ar (du (bh 3) (gz (ah 1)) bS) (gM 2)) [some (.pu (bj st)),some (.pu (.str w)),none,none,none]=ar (du (bh 3) (gz (ah 1)) bS) (gM 2) (E5 st w [0] none none):=by
  rw [au (η1:=E5 st w [0] none none) rfl]
 have it:du (bh 3) (gz (ah 1)) bS (E5 st w [0] none none)=forL (bh 3) bS (w.map fun c=>T.str [c]) (E5 st w [0] none none):=fD rfl
 unfold jB
 rcases key with ⟨z3,z4,e⟩ | ⟨η',e⟩
 ·refine fO rfl (η:=[some (.pu (bj st)),some (.pu (.str w)),none,z3,z4]) ?_
  refine (show ar _ _ [some (.pu (bj st)),some (.pu (.str w)),none,none,none]=_ from ?_)
  rw [h0,au (it.trans e)]
  rfl
 ·refine fO rfl (η:=η') ?_
  refine (show ar _ _ [some (.pu (bj st)),some (.pu (.str w)),none,none,none]=_ from ?_)
  rw [h0,kF (it.trans e)]
  rfl
theorem Dr {c a b:Ex} {η:Env} {m:Md} (h:c η=some (m,.bl true)):eIf c a b η=a η:=by simp [h]
theorem Ck {c a b:Ex} {η:Env} {m:Md} (h:c η=some (m,.bl false)):eIf c a b η=b η:=by simp [h]
section
variable {st:List (List Tx)} (pc:∀ x c,x++[c]∈st.flatten->x∈st.flatten)
include pc
theorem u5:∀ (y x:Tx),x++y∈st.flatten->x∈st.flatten
 | [],x,h=>by rw [List.append_nil] at h;exact h
 | c :: y,x,h=>pc x c (u5 y (x++[c]) (by rw [Zf];exact h))
theorem uj:∀ (cs u:Tx),u++cs∈st.flatten->(wl st u cs).length=cs.length/\(num st u :: wl st u cs).getLast?=some (num st (u++cs))
 | [],u,_=>⟨rfl,by rw [List.append_nil];rfl⟩
 | c :: cs,u,h=>by
  have h':u++[c]++cs∈st.flatten:=by rw [Zf];exact h
  obtain ⟨h1,h2⟩:=uj cs (u++[c]) h'
  have h3:=u5 pc cs (u++[c]) h'
  rw [wl,if_pos h3]
  refine ⟨by rw [List.length_cons,List.length_cons,h1],?_⟩
  rw [List.getLast?_cons_cons,h2,Zf]
  rfl
omit pc in
theorem zK:∀ (cs u:Tx),u++cs ∉ st.flatten->u∈st.flatten->(wl st u cs).length < cs.length
 | [],u,h,h0=>by rw [List.append_nil] at h;exact absurd h0 h
 | c :: cs,u,h,h0=>by
  by_cases q:u++[c]∈st.flatten
  ·have:=zK cs (u++[c]) (by rw [Zf];exact h) q
   rw [wl,if_pos q,List.length_cons,List.length_cons]
   lia
  ·rw [wl,if_neg q,List.length_cons]
   exact Nat.succ_pos _
noncomputable def sdT (st:List (List Tx)) (w:Tx):T:=if w∈st.flatten then .int (num st w:Nat) else .non
theorem yz (W:Wk st) (w:Tx) (hw:w.length<=1000):eQ [bj st,.str w]=some (.fr,sdT st w):=by
 have wk:=Ar W w hw
 have z0:=W.z0
 unfold eQ
 refine fO rfl (η:=[some (.pu (bj st)),some (.pu (.str w)),some (.pu (iL (0 :: wl st [] w)))]) ?_
 refine (show ar _ _ [some (.pu (bj st)),some (.pu (.str w)),none]=_ from ?_)
 rw [au (η1:=[some (.pu (bj st)),some (.pu (.str w)),some (.pu (iL (0 :: wl st [] w)))]) (by
  rw [bG (dy (xs:=[(.pu,bj st),(.fr,.str w)]) rfl wk) (by decide) (by decide:2 < 3)];rfl)]
 have c1:e2 oEq (eN d6 (af (ah 2) av)) (e2 bP (eN d6 (af (ah 1) av)) (eC (.int 1))) [some (.pu (bj st)),some (.pu (.str w)),some (.pu (iL (0 :: wl st [] w)))]=some (.fr,.bl (((((0 :: wl st [] w).map fun i:Nat=>T.int (i:Int)).length:Nat):Int) == (w.length:Int)+1)):=rfl
 rw [Zk,List.length_cons] at c1
 have e:eIf (e2 oEq (eN d6 (af (ah 2) av)) (e2 bP (eN d6 (af (ah 1) av)) (eC (.int 1)))) (e2 aU (ah 2) (eC (.int (-1)))) (eC .non) [some (.pu (bj st)),some (.pu (.str w)),some (.pu (iL (0 :: wl st [] w)))]=some (.fr,sdT st w):=by
  unfold sdT
  by_cases h:w∈st.flatten
  ·obtain ⟨h1,h2⟩:=uj pc w [] (by rw [List.nil_append];exact h)
   rw [if_pos h]
   rw [h1,show ((((w.length+1:Nat):Int)) == (w.length:Int)+1)=true from beq_iff_eq.mpr (by lia)] at c1
   rw [Dr c1]
   rw [z0,List.nil_append] at h2
   have e1:ah 2 [some (.pu (bj st)),some (.pu (.str w)),some (.pu (iL (0 :: wl st [] w)))]=some (.pu,iL (0 :: wl st [] w)):=rfl
   rw [fI e1 (y:=(.fr,.int (-1))) rfl]
   obtain ⟨l,hl⟩:∃ l,0 :: wl st [] w=l++[num st w]:=List.getLast?_eq_some_iff.mp h2
   rw [iL,hl,List.map_append,List.map_cons,List.map_nil,we]
   rfl
  ·have h1:=zK w [] (by rw [List.nil_append];exact h) W.nil
   rw [show ((((wl st [] w).length+1:Nat):Int) == (w.length:Int)+1)=false from beq_eq_false_iff_ne.mpr (by lia)] at c1
   rw [if_neg h,Ck c1]
   rfl
 simp only [d9,e,Option.bind_some]
theorem yU (W:Wk st) (w:Tx) (hw:w.length<=1000):dh [bj st,.dct 0 (nT (nums 0 st)),.str w]=some (.fr,.bl true):=by
 have sd:=yz pc W w hw
 have dg:=i0 st w 0
 unfold dh
 refine fO rfl (η:=[some (.pu (bj st)),some (.pu (.dct 0 (nT (nums 0 st)))),some (.pu (.str w)),some (.pu (sdT st w))]) ?_
 refine (show ar _ _ [some (.pu (bj st)),some (.pu (.dct 0 (nT (nums 0 st)))),some (.pu (.str w)),none]=_ from ?_)
 rw [au (η1:=[some (.pu (bj st)),some (.pu (.dct 0 (nT (nums 0 st)))),some (.pu (.str w)),some (.pu (sdT st w))]) (by
  rw [bG (dy (xs:=[(.pu,bj st),(.fr,.str w)]) rfl sd) (by decide) (by decide:3 < 4)];rfl)]
 have ni:e2 cS (ah 2) (ah 1) [some (.pu (bj st)),some (.pu (.dct 0 (nT (nums 0 st)))),some (.pu (.str w)),some (.pu (sdT st w))]=some (.fr,.bl (!(bT (nT (nums 0 st)) (.str w)).isSome)):=nj (m:=.fr) (n:=.pu) rfl rfl rfl
 unfold sdT at ni ⊢
 by_cases h:w∈st.flatten
 ·rw [if_pos h] at dg ni ⊢
  rw [dg] at ni
  rw [au (η1:=[some (.pu (bj st)),some (.pu (.dct 0 (nT (nums 0 st)))),some (.pu (.str w)),some (.pu (.int (num st w:Nat)))]) (by
   rw [mE (m:=.fr) ni];rfl)]
  have ix:e2 oIx (ah 1) (ah 2) [some (.pu (bj st)),some (.pu (.dct 0 (nT (nums 0 st)))),some (.pu (.str w)),some (.pu (.int (num st w:Nat)))]=some (.fr,.int (num st w:Nat)):=by
   rw [fI (x:=(.pu,.dct 0 (nT (nums 0 st)))) (y:=(.fr,.str w)) rfl rfl,u9 rfl dg rfl,Nat.zero_add]
  have eq:e2 oEq (ah 3) (e2 oIx (ah 1) (ah 2)) [some (.pu (bj st)),some (.pu (.dct 0 (nT (nums 0 st)))),some (.pu (.str w)),some (.pu (.int (num st w:Nat)))]=some (.fr,.bl true):=by
   rw [fI (x:=(.fr,.int (num st w:Nat))) rfl ix]
   exact oW rfl
  have ea:i7 (eIs .int (ah 3)) (i7 (kI (eIs .bool (ah 3))) (e2 oEq (ah 3) (e2 oIx (ah 1) (ah 2)))) [some (.pu (bj st)),some (.pu (.dct 0 (nT (nums 0 st)))),some (.pu (.str w)),some (.pu (.int (num st w:Nat)))]=some (.fr,.bl true):=eq
  simp only [d9,ea,Option.bind_some]
 ·rw [if_neg h] at dg ni ⊢
  rw [dg] at ni
  have st1:(sIf (e2 cS (ah 2) (ah 1)) (d9 (ud (ah 3))) gu) [some (.pu (bj st)),some (.pu (.dct 0 (nT (nums 0 st)))),some (.pu (.str w)),some (.pu .non)]=some (.rt (.fr,.bl true) [some (.pu (bj st)),some (.pu (.dct 0 (nT (nums 0 st)))),some (.pu (.str w)),some (.pu .non)]):=by
   rw [m9 (m:=.fr) ni]
   rfl
  rw [kF st1]
end
theorem DI (bk:List Tx) (B:Bk 120 bk) (hz:Sz 117129 (found bk)):Wk (ij (found bk)):=by
 obtain ⟨r,hd⟩:=oA bk
 have haz:=nr bk B
 have kn:[]∈aO (found bk):=by rw [hd];exact Zv
 have S0:=uO (found bk) kn
 have fl:(ij (found bk)).flatten.length<=117129:=by rw [S0.pm.length_eq,aO,Zk];exact hz.1
 have sl:=C6 _ S0.ne
 have ksf:=fun {x:Tx}=>S0.pm.mem_iff (a:=x)
 refine ⟨S0.ne,by lia,?_,ksf.mpr kn,fun x hx=>(haz x (ksf.mp hx)).1,fun u hu c=>?_⟩
 ·obtain ⟨a,b,hst⟩:=S0.hd
  rw [hst]
  simp [num]
 ·have hi:=uN _ _ hu
  have hin:=getD_mem (ij (found bk)) _ hi
  have lu:=((pC hin (S0.ne _ hin) u).mp (ze _ _ hu)).2
  have lx:=vh c lu
  have kx:=zf (x:=u++[c]) (by simp) (by simp) lx
  refine ⟨ksf.trans (kx.symm.trans ksf.symm),fun h=>?_⟩
  have h':=ksf.mp h
  exact ua S0.ne (kx.mp h') h' lx.symm
theorem wJ (l:List Tx):d5 (l.map T.str)=true:=fN _ (fun _=>rfl) _
section
variable {st:List (List Tx)} (W:Wk st) (pc:∀ x c,x++[c]∈st.flatten->x∈st.flatten) (a0 a1:Option Cell) (sg:List Tx) (some':T)
noncomputable abbrev EA (st:List (List Tx)) (a0 a1:Option Cell) (sg:List Tx) (some':T) (z8 z9:Option Cell):Env:=[a0,a1,some (.pu (stT st)),some (.pu (.dct 0 (nT (nums 0 st)))),some (.pu (bj st)),some (.pu (bj st)),some (.pu (.lst (sg.map T.str))),some (.pu some'),z8,z9]
include W pc
theorem lw1 (z8:Option Cell) (is:List Tx):∀ z9:Option Cell,(∀ w∈is,w.length<=1000)->∃ z9',forL (bh 9) kh (is.map T.str) (EA st a0 a1 sg some' z8 z9)=some (.nx (EA st a0 a1 sg some' z8 z9')):=by
 induction is with
 | nil=>exact fun z9 _=>⟨z9,rfl⟩
 | cons i is ih =>
  intro z9 h
  have ri:=yU pc W i (h i Zv)
  have c1:=dy (g:=dh) (as:=af (ah 5) (af (ah 3) (af (ah 9) av))) (η:=EA st a0 a1 sg some' z8 (some (.pu (.str i)))) (xs:=[(.pu,bj st),(.pu,.dct 0 (nT (nums 0 st))),(.fr,.str i)]) rfl ri
  obtain ⟨x9,e⟩:=ih (some (.pu (.str i))) fun x hx=>h x (Zw _ hx)
  exact ⟨x9,by
   rw [List.map_cons,bL (η1:=EA st a0 a1 sg some' z8 (some (.pu (.str i)))) (η2:=EA st a0 a1 sg some' z8 (some (.pu (.str i)))) rfl (by
    unfold kh
    rw [mE (m:=.fr) (by simp only [kI,c1,Option.bind_some,Bool.not_true])]
    rfl),e]⟩
theorem vG (hs:∀ x∈sg,x.length<=1) (sl:sg.length<=3) (w:Tx) (hw:w.length<=120) (z9:Option Cell):∃ z9',ir (EA st a0 a1 sg some' (some (.pu (.str w))) z9)=some (.nx (EA st a0 a1 sg some' (some (.pu (.str w))) z9')):=by
 have e8:ah 8 (EA st a0 a1 sg some' (some (.pu (.str w))) z9)=some (.fr,.str w):=rfl
 have l1:eU (af (ah 8) (af (eSl (ah 8) (some (eC (.int 1))) none) av)) (EA st a0 a1 sg some' (some (.pu (.str w))) z9)=some (.fr,.lst ([w,w.drop 1].map T.str)):=by
  have:eSl (ah 8) (some (eC (.int 1))) none (EA st a0 a1 sg some' (some (.pu (.str w))) z9)=some (.fr,.str (w.drop 1)):=by
   rw [← Cn]
   rfl
  show (af (ah 8) (af (eSl (ah 8) (some (eC (.int 1))) none) av) _).bind _=_
  rw [lz e8 (lz this rfl)]
  rfl
 have l2:hZ 1 (bh 0) (gz (ah 6)) none (e2 bP (ah 9) (ah 0)) (EA st a0 a1 sg some' (some (.pu (.str w))) z9)=some (.fr,.lst ((sg.map (w++·)).map T.str)):=by
  rw [List.map_map]
  refine lJ (m:=.pu) T.str (fun x=>T.str (w++x)) sg (jT rfl) rfl (by lia) fun x hx=>⟨some (.pu (.str x)) :: EA st a0 a1 sg some' (some (.pu (.str w))) z9,rfl,?_⟩
  have:=hs x hx
  rw [fI (x:=(.fr,.str w)) (y:=(.fr,.str x)) rfl rfl]
  exact if_pos (show w.length+x.length<=16777216 by lia)
 have l3:e2 bP (eU (af (ah 8) (af (eSl (ah 8) (some (eC (.int 1))) none) av))) (hZ 1 (bh 0) (gz (ah 6)) none (e2 bP (ah 9) (ah 0))) (EA st a0 a1 sg some' (some (.pu (.str w))) z9)=some (.fr,.lst (([w,w.drop 1]++sg.map (w++·)).map T.str)):=by
  rw [fI l1 l2,nz,← List.map_append,fX (by rw [Zk,Zj,Zk];simp only [List.length_cons,List.length_nil];lia),wJ]
  rfl
 obtain ⟨z9',e⟩:=lw1 W pc a0 a1 sg some' (some (.pu (.str w))) ([w,w.drop 1]++sg.map (w++·)) z9 fun x hx=>by
  rcases Zh.mp hx with h | h
  ·rcases Zg.mp h with rfl | h
   ·lia
   ·rw [Zi.mp h,List.length_drop];lia
  ·obtain ⟨y,hy,rfl⟩:=List.mem_map.mp h
   have:=hs y hy
   rw [Zj]
   lia
 refine ⟨z9',?_⟩
 unfold ir
 rw [fD (jT l3)]
 exact e
theorem lw2 (hs:∀ x∈sg,x.length<=1) (sl:sg.length<=3) (is:List Tx):∀ z8 z9:Option Cell,(∀ w∈is,w.length<=120)->∃ z8' z9',forL (bh 8) ir (is.map T.str) (EA st a0 a1 sg some' z8 z9)=some (.nx (EA st a0 a1 sg some' z8' z9')):=by
 induction is with
 | nil=>exact fun z8 z9 _=>⟨z8,z9,rfl⟩
 | cons i is ih =>
  intro z8 z9 h
  obtain ⟨y9,eb⟩:=vG W pc a0 a1 sg some' hs sl i (h i Zv) z9
  obtain ⟨x8,x9,e⟩:=ih (some (.pu (.str i))) y9 fun x hx=>h x (Zw _ hx)
  exact ⟨x8,x9,by rw [List.map_cons,bL (η1:=EA st a0 a1 sg some' (some (.pu (.str i))) z9) rfl eb,e]⟩
end
theorem DA {x:Tx} (h:Az x) (hl:x.length<=120):txB x=true:=by
 unfold txB
 rw [decide_eq_true (show x.length<=eW from Nat.le_trans hl (by decide)),Bool.true_and,List.all_eq_true]
 intro c hc
 exact decide_eq_true (Nat.lt_of_le_of_lt (h c hc).2 (by decide))
theorem strs_map (l:List Tx):strs? (l.map T.str)=some l:=by
 induction l with
 | nil=>rfl
 | cons x l ih =>
  show (strs? (l.map T.str)).map (x :: ·)=_
  rw [ih]
  rfl
theorem Cs (bk:List Tx) (h:bk.flatten.length<=120) (hl:bk.length<=8) (η:Env) (he:ah 1 η=some (.pu,.lst (bk.map T.str))):∃ sg:List Tx,(∀ x∈sg,x.length<=1)/\sg.length<=3 ∧
  e2 bP (eSl (eN dD (af (eM gr (eC (.str [])) (af (ah 1) av)) av)) none (some (eC (.int 2)))) (eU (af (eC (.str [122])) av)) η=some (.fr,.lst (sg.map T.str)):=by
 have j:eM gr (eC (.str [])) (af (ah 1) av) η=some (.fr,.str bk.flatten):=by
  show (af (ah 1) av η).bind _=_
  rw [lz he rfl,Option.bind_some]
  exact tH (strs_map bk) (by lia)
 obtain ⟨ws,hws⟩:∃ ws,ws=dP (dedup (bk.flatten.map fun c=>[c])):=⟨_,rfl⟩
 have s:eN dD (af (eM gr (eC (.str [])) (af (ah 1) av)) av) η=some (.fr,.lst (ws.map T.str)):=by
  rw [q9 (lz j rfl),hws]
  exact if_pos (show bk.flatten.length+1 < 4096 by lia)
 have h1:∀ x∈ws,x.length<=1:=fun x hx=>by
  rw [hws] at hx
  have:=(fF _ x).mp ((fq _).mem_iff.mp hx)
  obtain ⟨c,_,rfl⟩:=List.mem_map.mp this
  exact Zt _
 have c2:cut (ws.map T.str) none (some 2)=(ws.take 2).map T.str:=by
  unfold cut clip
  simp only [show ¬ ((2:Int) < 0) by lia,if_false,List.drop_zero,Nat.sub_zero,Zk]
  rw [← List.map_take]
  congr 1
  by_cases q:2<=ws.length
  ·rw [Nat.min_eq_left (by simpa using q)];rfl
  ·rw [Nat.min_eq_right (by simpa using Nat.le_of_not_le q),List.take_of_length_le (Zt _),List.take_of_length_le (by lia)]
 refine ⟨ws.take 2++[[122]],fun x hx=>?_,by rw [Zj,List.length_take];simp only [List.length_singleton];lia,?_⟩
 ·rcases Zh.mp hx with z | z
  ·exact h1 x (List.mem_of_mem_take z)
  ·rw [Zi.mp z];exact Zt _
 ·have sl:eSl (eN dD (af (eM gr (eC (.str [])) (af (ah 1) av)) av)) none (some (eC (.int 2))) η=some (.fr,.lst ((ws.take 2).map T.str)):=by
   unfold eSl
   rw [s]
   show mkL _ (cut (ws.map T.str) none (some 2))=_
   rw [c2,fX (by rw [Zk,List.length_take];lia),wJ]
   rfl
  rw [fI sl (y:=(.fr,.lst ([[122]].map T.str))) rfl,nz,← List.map_append,fX (by rw [Zk,Zj,List.length_take];simp only [List.length_singleton];lia),wJ]
  rfl
theorem BN (ns:List Int) (bk:List Tx) (d:Fd) (st:List (List Tx)) (W:Wk st) (pc:∀ x c,x++[c]∈st.flatten->x∈st.flatten) (hl:bk.flatten.length<=120) (hbl:bk.length<=8) (az:∀ x∈st.flatten,Az x/\x.length<=120) (hz:st.flatten.length<=117129)
  (hb:cZ [.scr ns,.int 24]=some (.fr,.lst (bk.map T.str))) (hp:bY [.lst (bk.map T.str)]=some (.fr,.dct 0 (dT d))) (hsd:cK [.dct 0 (dT d)]=some (.fr,stT st))
  (hn:cx [stT st]=some (.fr,.dct 0 (nT (nums 0 st)))) (ht:dj [stT st,.dct 0 (nT (nums 0 st))]=some (.fr,bj st)):lW [.scr ns]=some (.fr,.bl true):=by
 have sl:=W.len
 obtain ⟨sg,hs1,hs2,hsg⟩:=Cs bk hl hbl [some (.pu (.scr ns)),some (.pu (.lst (bk.map T.str))),some (.pu (stT st)),some (.pu (.dct 0 (nT (nums 0 st)))),some (.pu (bj st)),some (.pu (bj st)),none,none,none,none] rfl
 obtain ⟨mn,hmn,n0,n1⟩:=fj ns 300 (by decide) (by decide)
 have nk:(nT (nums 0 st)).map (·.1)=st.flatten.map T.str:=by
  rw [← tF st 0]
  unfold nT
  rw [List.map_map,List.map_map]
  rfl
 obtain ⟨ws,hw,ew⟩:∃ ws:List Tx,(∀ w∈ws,w.length<=120)/\sIf (e2 oGt (eN d6 (af (ah 7) av)) (eC (.int 60))) (aM 7 (se (ah 7) (some (e2 oMod (aT aG (af (ah 0) (af (eC (.int 300)) av))) (eC (.int 5)))) none (some (eC (.int 5))))) gu (EA st (some (.pu (.scr ns))) (some (.pu (.lst (bk.map T.str)))) sg (.lst (st.flatten.map T.str)) none none)=some (.nx (EA st (some (.pu (.scr ns))) (some (.pu (.lst (bk.map T.str)))) sg (.lst (ws.map T.str)) none none)):=by
  have c1:e2 oGt (eN d6 (af (ah 7) av)) (eC (.int 60)) (EA st (some (.pu (.scr ns))) (some (.pu (.lst (bk.map T.str)))) sg (.lst (st.flatten.map T.str)) none none)=some (.fr,.bl (decide ((60:Int) < ((st.flatten.map T.str).length:Int)))):=rfl
  by_cases h:(60:Int) < ((st.flatten.map T.str).length:Int)
  ·rw [decide_eq_true h] at c1
   refine ⟨gI st.flatten (some (mn % 5)) none (some 5),fun w hw=>(az w (vS _ _ hw)).2,?_⟩
   rw [m9 (m:=.fr) c1]
   have cm:e2 oMod (aT aG (af (ah 0) (af (eC (.int 300)) av))) (eC (.int 5)) (EA st (some (.pu (.scr ns))) (some (.pu (.lst (bk.map T.str)))) sg (.lst (st.flatten.map T.str)) none none)=some (.fr,.int (mn % 5)):=by
    rw [fI (dy (xs:=[(.fr,.scr ns),(.fr,.int 300)]) rfl hmn) (y:=(.fr,.int 5)) rfl]
    exact aQ (by decide)
   have pm:ky (some (e2 oMod (aT aG (af (ah 0) (af (eC (.int 300)) av))) (eC (.int 5)))) (EA st (some (.pu (.scr ns))) (some (.pu (.lst (bk.map T.str)))) sg (.lst (st.flatten.map T.str)) none none)=some (some (mn % 5)):=by
    refine (show (e2 oMod (aT aG (af (ah 0) (af (eC (.int 300)) av))) (eC (.int 5)) (EA st (some (.pu (.scr ns))) (some (.pu (.lst (bk.map T.str)))) sg (.lst (st.flatten.map T.str)) none none)).bind (fun y=>(int? y.2).map some)=_ from ?_)
    rw [cm]
    rfl
   rw [bG (m:=.fr) (t:=.lst ((gI st.flatten (some (mn % 5)) none (some 5)).map T.str)) (by
    unfold se
    rw [pm]
    refine (show sl3 (.pu,.lst (st.flatten.map T.str)) (some (mn % 5)) none (some 5)=_ from ?_)
    refine (if_pos (⟨?_,by decide⟩:(st.flatten.map T.str).all sca/\(some 5:Option Int) ≠ some 0)).trans ?_
    ·rw [List.all_map,List.all_eq_true]
     exact fun _ _=>rfl
    ·rw [ox]) (by decide) (by decide:7 < 10)]
   rfl
  ·rw [decide_eq_false h] at c1
   refine ⟨st.flatten,fun w hw=>(az w hw).2,?_⟩
   rw [mE (m:=.fr) c1]
   rfl
 obtain ⟨x8,x9,e89⟩:=lw2 W pc (some (.pu (.scr ns))) (some (.pu (.lst (bk.map T.str)))) sg (.lst (ws.map T.str)) hs1 hs2 ws none none hw
 unfold lW
 refine fO rfl (η:=EA st (some (.pu (.scr ns))) (some (.pu (.lst (bk.map T.str)))) sg (.lst (ws.map T.str)) x8 x9) ?_
 refine (show ar _ _ [some (.pu (.scr ns)),none,none,none,none,none,none,none,none,none]=_ from ?_)
 rw [au (η1:=[some (.pu (.scr ns)),some (.pu (.lst (bk.map T.str))),none,none,none,none,none,none,none,none]) (by
  rw [bG (dy (xs:=[(.fr,.scr ns),(.fr,.int 24)]) rfl hb) (by decide) (by decide:1 < 10)];rfl)]
 rw [au (η1:=[some (.pu (.scr ns)),some (.pu (.lst (bk.map T.str))),some (.pu (stT st)),none,none,none,none,none,none,none]) (by
  have e1:=dy (g:=bY) (as:=af (ah 1) av) (η:=[some (.pu (.scr ns)),some (.pu (.lst (bk.map T.str))),none,none,none,none,none,none,none,none]) (xs:=[(.pu,.lst (bk.map T.str))]) rfl hp
  rw [bG (dy (lz e1 rfl) hsd) (by decide) (by decide:2 < 10)];rfl)]
 rw [au (η1:=[some (.pu (.scr ns)),some (.pu (.lst (bk.map T.str))),some (.pu (stT st)),some (.pu (.dct 0 (nT (nums 0 st)))),none,none,none,none,none,none]) (by
  rw [bG (dy (xs:=[(.pu,stT st)]) rfl hn) (by decide) (by decide:3 < 10)];rfl)]
 rw [au (η1:=[some (.pu (.scr ns)),some (.pu (.lst (bk.map T.str))),some (.pu (stT st)),some (.pu (.dct 0 (nT (nums 0 st)))),some (.pu (bj st)),none,none,none,none,none]) (by
  rw [bG (dy (xs:=[(.pu,stT st),(.pu,.dct 0 (nT (nums 0 st)))]) rfl ht) (by decide) (by decide:4 < 10)];rfl)]
 rw [au (η1:=[some (.pu (.scr ns)),some (.pu (.lst (bk.map T.str))),some (.pu (stT st)),some (.pu (.dct 0 (nT (nums 0 st)))),some (.pu (bj st)),some (.pu (bj st)),none,none,none,none]) (by
  rw [bG (m:=.fr) (t:=bj st) (by
   rw [q9 (xs:=[(.pu,bj st)]) rfl,Bz st (by lia)]) (by decide) (by decide:5 < 10)];rfl)]
 rw [au (η1:=[some (.pu (.scr ns)),some (.pu (.lst (bk.map T.str))),some (.pu (stT st)),some (.pu (.dct 0 (nT (nums 0 st)))),some (.pu (bj st)),some (.pu (bj st)),some (.pu (.lst (sg.map T.str))),none,none,none]) (by
  rw [bG hsg (by decide) (by decide:6 < 10)];rfl)]
 rw [au (η1:=EA st (some (.pu (.scr ns))) (some (.pu (.lst (bk.map T.str)))) sg (.lst (st.flatten.map T.str)) none none) (by
  rw [bG (m:=.fr) (t:=.lst (st.flatten.map T.str)) (by
   rw [q9 (xs:=[(.pu,.dct 0 (nT (nums 0 st)))]) rfl]
   show (strs? ((nT (nums 0 st)).map (·.1))).bind _=_
   rw [nk,strs_map,Option.bind_some]
   exact if_pos ⟨List.all_eq_true.mpr fun x hx=>DA (az x hx).1 (az x hx).2,Nat.le_trans hz (by decide)⟩) (by decide) (by decide:7 < 10)];rfl)]
 rw [au ew]
 rw [au (η1:=EA st (some (.pu (.scr ns))) (some (.pu (.lst (bk.map T.str)))) sg (.lst (ws.map T.str)) x8 x9) (by
  rw [jv (m:=.pu) (l:=ws.map T.str) (jT rfl) rfl]
  exact e89)]
 have c5:e2 oEq (ah 5) (ah 4) (EA st (some (.pu (.scr ns))) (some (.pu (.lst (bk.map T.str)))) sg (.lst (ws.map T.str)) x8 x9)=some (.fr,.bl true):=by
  rw [fI (x:=(.pu,bj st)) (y:=(.pu,bj st)) rfl rfl]
  exact oW (zv st)
 simp only [d9,c5,Option.bind_some]
theorem vj (ns:List Int):lW [.scr ns]=some (.fr,.bl true):=by
 obtain ⟨bk,hb,B,hbl⟩:=A8 ns
 obtain ⟨hp,hz⟩:=uQ bk B hbl
 obtain ⟨r,hd⟩:=oA bk
 have haz:=nr bk B
 have hsd:=vm (found bk) hz haz
 have S0:=uO (found bk) (by rw [hd];exact Zv)
 have D:=DI bk B hz
 have nd:=uX bk
 have tl:=qh bk
 have pc:∀ x c,x++[c]∈(ij (found bk)).flatten->x∈(ij (found bk)).flatten:=fun x c h=>S0.pm.mem_iff.mpr (yG (S0.pm.mem_iff.mp h))
 generalize ij (found bk)=st at hsd S0 D pc
 have nf:st.flatten.Nodup:=S0.pm.nodup_iff.mpr nd
 have sl:=D.len
 have hm:∀ s∈st,hdW s∈st.flatten:=fun s hs=>List.mem_flatten.mpr ⟨s,hs,qv (S0.ne s hs)⟩
 have dr:∀ x∈st.flatten,x.drop 1∈st.flatten:=fun x hx=>S0.pm.mem_iff.mpr (tl x (S0.pm.mem_iff.mp hx))
 have ht:=yN st (fun s hs=>⟨S0.ne s hs,(haz _ (S0.pm.mem_iff.mp (hm s hs))).2,fun _=>dr _ (hm s hs)⟩) (by lia)
 have fl:st.flatten.length<=117129:=by rw [S0.pm.length_eq,aO,Zk];exact hz.1
 exact BN ns bk (found bk) st D pc B.n hbl (fun x hx=>haz x (S0.pm.mem_iff.mp hx)) fl hb hp hsd (sf st nf (by lia)) ht
end T14
end
section
namespace T14
open PySem PySem.Spec PyProof.Rows L2 VS
noncomputable def top (i:Nat):Stmt:=PySem.Challenge.pw_allparts_k14_stands_of_words.main.body.getD i (.Pass ⟨0,0,0,0⟩)
structure Blt (mg:Str->Option Value):Prop where
 b_bool:mg "bool" = none
 b_dict:mg "dict" = none
 b_enumerate:mg "enumerate" = none
 b_int:mg "int" = none
 b_isinstance:mg "isinstance" = none
 b_len:mg "len" = none
 b_list:mg "list" = none
 b_min:mg "min" = none
 b_range:mg "range" = none
 b_set:mg "set" = none
 b_sorted:mg "sorted" = none
 b_tuple:mg "tuple" = none
section
variable {P:Program} {w:World} {K:PySem.W.Frag} {mg:Str->Option Value} {base:Heap}
noncomputable abbrev iV:Stmt:=top 1
theorem jz:FnScope ["table", "word", "stands", "sign", "ways"] ["table", "word"] (ao iV):=⟨rfl,rfl,rfl,by decide +kernel,rfl,by decide +kernel,by decide +kernel⟩
theorem kE {f:Addr} {fd:FuncData} (F:Fun K "walk" "walk" iV f fd) (hm:mg "walk" = some (.ref f)) (B:Blt mg) :
  FnAt P w K mg base 1 "walk" ["table", "word"] (gx0 K) jB:=fg F hm jz rfl rfl (fun _ _ _ _ _ _ us hl=>by obtain ⟨_,_,rfl⟩:=L2.pj hl;rfl) fun cdv A outer s H E hr =>
  (ag (dm (cA (ab ae aj rfl)) jz.nd rfl (Or.inl rfl) rfl (Or.inl rfl))
  (ag (bg PassesOwn.never rfl (dk (aa 1 rfl (Or.inl rfl) rfl rfl) rfl) (aJ 3 jz.nd rfl (Or.inl rfl) (Or.inl rfl))
  (ag (ak (tD B.b_dict (ab (bq (bq (aa 0 rfl (Or.inl rfl) rfl rfl) (bq (aa 2 rfl (Or.inl rfl) rfl rfl) lY (fun _ _=>rfl) rfl) (fun _ _=>rfl) rfl) ae (fun _ _=>rfl) rfl) aj rfl) rfl rfl rfl) jz.nd rfl (Or.inl rfl) rfl (Or.inl rfl))
  (ag (cC (oU hr (aa 3 rfl (Or.inl rfl) rfl rfl) (aa 4 rfl (Or.inl rfl) rfl rfl) (by with_unfolding_all rfl) rfl) (aq (dG 2 rfl (Or.inl rfl) rfl rfl)) cp)
  (aq (dN 2 (ab (j8 hr (aa 4 rfl (Or.inl rfl) rfl rfl) (aa 3 rfl (Or.inl rfl) rfl rfl) (fun _ _=>rfl) rfl) aj rfl) rfl rfl (Or.inl rfl) rfl rfl rfl rfl rfl)))) (fun _=>rfl))
  (aq (dG 2 rfl (Or.inl rfl) rfl rfl))))
noncomputable abbrev dE:Stmt:=top 2
theorem i8:FnScope ["table", "word", "stands"] ["table", "word"] (ao dE):=⟨rfl,rfl,rfl,by decide +kernel,rfl,by decide +kernel,by decide +kernel⟩
theorem eS {f:Addr} {fd:FuncData} (F:Fun K "stand_of" "stand_of" dE f fd) (hm:mg "stand_of" = some (.ref f)) (B:Blt mg) (kE:FnAt P w K mg base 1 "walk" ["table", "word"] (gx0 K) jB) :
  FnAt P w K mg base 2 "stand_of" ["table", "word"] (gx0 K) eQ:=fg F hm i8 rfl rfl (fun _ _ _ _ _ _ us hl=>by obtain ⟨_,_,rfl⟩:=L2.pj hl;rfl) fun cdv A outer s H E hr =>
  (ag (ak (aP kE hr (ab (aa 0 rfl (Or.inl rfl) rfl rfl) (ab (aa 1 rfl (Or.inl rfl) rfl rfl) aj rfl) rfl) (by decide) rfl rfl rfl rfl) i8.nd rfl (Or.inl rfl) rfl (Or.inl rfl))
  (aq (bu (xI (mf hr (cT B.b_len (ab (aa 2 rfl (Or.inl rfl) rfl rfl) aj rfl) rfl rfl rfl) (aZ (cT B.b_len (ab (aa 1 rfl (Or.inl rfl) rfl rfl) aj rfl) rfl rfl rfl) ae)) (bq (aa 2 rfl (Or.inl rfl) rfl rfl) lY (fun _ _=>rfl) rfl) ph))))
noncomputable abbrev dI:Stmt:=top 4
theorem n6:FnScope ["_law_script", "_law_k"] ["_law_script", "_law_k"] (ao dI):=⟨rfl,rfl,rfl,by decide +kernel,rfl,by decide +kernel,by decide +kernel⟩
theorem dF {f:Addr} {fd:FuncData} (F:Fun K "_law_cell" "_law_cell" dI f fd) (hm:mg "_law_cell" = some (.ref f)) (B:Blt mg) :
  FnAt P w K mg base 1 "_law_cell" ["_law_script", "_law_k"] (gx0 K) bw:=fg F hm n6 rfl rfl (fun _ _ _ _ _ _ us hl=>by obtain ⟨_,_,rfl⟩:=L2.pj hl;rfl) fun cdv A outer s H E hr =>
  (ag (cC (xj (aa 1 rfl (Or.inl rfl) rfl rfl) (cT B.b_len (ab (aa 0 rfl (Or.inl rfl) rfl rfl) aj rfl) rfl rfl rfl)) (aq (bu (bq (aa 0 rfl (Or.inl rfl) rfl rfl) (aa 1 rfl (Or.inl rfl) rfl rfl) (fun _ _=>rfl) rfl))) cp)
  (aq (bu ae)))
noncomputable abbrev de:Stmt:=top 5
theorem cJ:FnScope ["_law_script", "_law_k", "_law_cell_here", "_law_number"] ["_law_script", "_law_k"] (ao de):=⟨rfl,rfl,rfl,by decide +kernel,rfl,by decide +kernel,by decide +kernel⟩
theorem aI {f:Addr} {fd:FuncData} (F:Fun K "_law_mixed" "_law_mixed" de f fd) (hm:mg "_law_mixed" = some (.ref f)) (B:Blt mg) :
  FnAt P w K mg base 1 "_law_mixed" ["_law_script", "_law_k"] (gx0 K) aG:=fg F hm cJ rfl rfl (fun _ _ _ _ _ _ us hl=>by obtain ⟨_,_,rfl⟩:=L2.pj hl;rfl) fun cdv A outer s H E hr =>
  (ag (ak ae cJ.nd rfl (Or.inl rfl) rfl (Or.inl rfl))
  (ag (cC (jy (cT B.b_len (ab (aa 0 rfl (Or.inl rfl) rfl rfl) aj rfl) rfl rfl rfl) ae) (aq (ak (bq (aa 0 rfl (Or.inl rfl) rfl rfl) (aV (aa 1 rfl (Or.inl rfl) rfl rfl) (cT B.b_len (ab (aa 0 rfl (Or.inl rfl) rfl rfl) aj rfl) rfl rfl rfl)) (fun _ _=>rfl) rfl) cJ.nd rfl (Or.inl rfl) rfl (Or.inl rfl))) cp)
  (ag (ak (aV (dQ (aZ (aZ (aV (aa 2 rfl (Or.inl rfl) rfl rfl) ae) (dQ ae (aa 1 rfl (Or.inl rfl) rfl rfl))) ae) ae) ae) cJ.nd rfl (Or.inl rfl) rfl (Or.inl rfl))
  (ag (ak (aV (dQ (aa 3 rfl (Or.inl rfl) rfl rfl) (aa 3 rfl (Or.inl rfl) rfl rfl)) ae) cJ.nd rfl (Or.inl rfl) rfl (Or.inl rfl))
  (ag (ak (aV (dQ (aZ (aa 3 rfl (Or.inl rfl) rfl rfl) (aa 1 rfl (Or.inl rfl) rfl rfl)) ae) ae) cJ.nd rfl (Or.inl rfl) rfl (Or.inl rfl))
  (aq (bu (dB (aV (dQ (aa 3 rfl (Or.inl rfl) rfl rfl) (aa 3 rfl (Or.inl rfl) rfl rfl)) ae) ae))))))))
noncomputable abbrev di:Stmt:=top 6
theorem gq:FnScope ["_law_cell_here", "_law_start", "_law_step"] ["_law_cell_here"] (ao di):=⟨rfl,rfl,rfl,by decide +kernel,rfl,by decide +kernel,by decide +kernel⟩
theorem bU {f:Addr} {fd:FuncData} (F:Fun K "_law_signs" "_law_signs" di f fd) (hm:mg "_law_signs" = some (.ref f)) (B:Blt mg) :
  FnAt P w K mg base 1 "_law_signs" ["_law_cell_here"] (gx0 K) cD:=fg F hm gq rfl rfl (fun _ _ _ _ _ _ us hl=>by obtain ⟨_,rfl⟩:=L2.pI hl;rfl) fun cdv A outer s H E hr =>
  (ag (ak (aV (aa 0 rfl (Or.inl rfl) rfl rfl) ae) gq.nd rfl (Or.inr rfl) rfl (Or.inl rfl))
  (ag (ak (bq (cA (ab ae (ab ae (ab ae (ab ae (ab ae aj rfl) rfl) rfl) rfl) rfl)) (aV (dB (aa 0 rfl (Or.inl rfl) rfl rfl) ae) ae) (fun _ _=>rfl) rfl) gq.nd rfl (Or.inr rfl) rfl (Or.inl rfl))
  (aq (bu (lO 1 ["_law_k", "_law_cell_here", "_law_start", "_law_step"] rfl (bZ ae rfl B.b_range rfl rfl) (q0 (by decide)) (fun _ _ _ _ _=>(aJ 0 (show List.Nodup (["_law_k", "_law_cell_here", "_law_start", "_law_step"]:List Str) from by decide +kernel) rfl (Or.inl rfl) (Or.inr rfl))) (fun _ _ _ _ _=>(bq (ef (by decide +kernel) (by decide)) (aV (aZ (aa 2 rfl (Or.inr (Or.inl rfl)) rfl rfl) (dQ (aa 3 rfl (Or.inr (Or.inl rfl)) rfl rfl) (aa 0 rfl (Or.inl rfl) rfl rfl))) ae) (fun _ _=>rfl) rfl)) rfl rfl (by decide) (fun _=>rfl))))))
noncomputable abbrev bF:Stmt:=top 7
theorem aE:FnScope ["_law_cell_here", "_law_signs_here", "_law_some", "_law_many", "_law_room", "_law_book_here", "_law_k", "_law_size", "_law_text", "_law_j"] ["_law_cell_here"] (ao bF):=⟨rfl,rfl,rfl,by decide +kernel,rfl,by decide +kernel,by decide +kernel⟩
theorem cj {f:Addr} {fd:FuncData} (F:Fun K "_law_by_digits" "_law_by_digits" bF f fd) (hm:mg "_law_by_digits" = some (.ref f)) (B:Blt mg) (bU:FnAt P w K mg base 1 "_law_signs" ["_law_cell_here"] (gx0 K) cD) :
  FnAt P w K mg base 2 "_law_by_digits" ["_law_cell_here"] (gx0 K) br:=fg F hm aE rfl rfl (fun _ _ _ _ _ _ us hl=>by obtain ⟨_,rfl⟩:=L2.pI hl;rfl) fun cdv A outer s H E hr =>
  (ag (ak (aP bU hr (ab (aa 0 rfl (Or.inl rfl) rfl rfl) aj rfl) (by decide) rfl rfl rfl rfl) aE.nd rfl (Or.inl rfl) rfl (Or.inl rfl))
  (ag (ak (bq (cA (ab ae (ab ae (ab ae (ab ae (ab ae (ab ae (ab ae (ab ae aj rfl) rfl) rfl) rfl) rfl) rfl) rfl) rfl)) (aV (dB (aa 0 rfl (Or.inl rfl) rfl rfl) ae) ae) (fun _ _=>rfl) rfl) aE.nd rfl (Or.inl rfl) rfl (Or.inl rfl))
  (ag (ak (aV (dB (aa 0 rfl (Or.inl rfl) rfl rfl) ae) ae) aE.nd rfl (Or.inl rfl) rfl (Or.inl rfl))
  (ag (ak (dB (aa 0 rfl (Or.inl rfl) rfl rfl) ae) aE.nd rfl (Or.inl rfl) rfl (Or.inl rfl))
  (ag (ak ae aE.nd rfl (Or.inl rfl) rfl (Or.inl rfl))
  (ag (dm (cA aj) aE.nd rfl (Or.inl rfl) rfl (Or.inl rfl))
  (ag (bg PassesOwn.never rfl (bZ (aa 3 rfl (Or.inl rfl) rfl rfl) rfl B.b_range rfl rfl) (aJ 6 aE.nd rfl (Or.inl rfl) (Or.inl rfl))
  (ag (ak (nU B.b_min (ab (aa 4 rfl (Or.inl rfl) rfl rfl) (ab (aV (aa 0 rfl (Or.inl rfl) rfl rfl) ae) aj rfl) rfl) rfl rfl rfl rfl) aE.nd rfl (Or.inl rfl) rfl (Or.inl rfl))
  (ag (ak (dB (aa 0 rfl (Or.inl rfl) rfl rfl) ae) aE.nd rfl (Or.inl rfl) rfl (Or.inl rfl))
  (ag (ak (jr (aa 4 rfl (Or.inl rfl) rfl rfl) (aa 7 rfl (Or.inl rfl) rfl rfl)) aE.nd rfl (Or.inl rfl) rfl (Or.inl rfl))
  (ag (ak (ef (by decide +kernel) (by decide)) aE.nd rfl (Or.inl rfl) rfl (Or.inl rfl))
  (ag (bg PassesOwn.never rfl (bZ (aa 7 rfl (Or.inl rfl) rfl rfl) rfl B.b_range rfl rfl) (aJ 9 aE.nd rfl (Or.inl rfl) (Or.inl rfl))
  (ag (ak (aZ (aa 8 rfl (Or.inl rfl) rfl rfl) (bq (aa 1 rfl (Or.inl rfl) rfl rfl) (aV (aa 0 rfl (Or.inl rfl) rfl rfl) (aa 2 rfl (Or.inl rfl) rfl rfl)) (fun _ _=>rfl) rfl)) aE.nd rfl (Or.inl rfl) rfl (Or.inl rfl))
  (aq (ak (dB (aa 0 rfl (Or.inl rfl) rfl rfl) (aa 2 rfl (Or.inl rfl) rfl rfl)) aE.nd rfl (Or.inl rfl) rfl (Or.inl rfl)))) (fun _=>rfl))
  (aq (dN 5 (ab (aa 8 rfl (Or.inl rfl) rfl rfl) aj rfl) rfl rfl (Or.inl rfl) rfl rfl rfl rfl rfl))))))) (fun _=>rfl))
  (aq (dG 5 rfl (Or.inl rfl) rfl rfl)))))))))
noncomputable abbrev bE:Stmt:=top 8
theorem aC:FnScope ["_law_script", "_law_most", "_law_signs_here", "_law_some", "_law_room", "_law_book_here", "_law_k", "_law_size", "_law_back", "_law_text", "_law_j", "_law_number"] ["_law_script", "_law_most"] (ao bE):=⟨rfl,rfl,rfl,by decide +kernel,rfl,by decide +kernel,by decide +kernel⟩
theorem b7 {f:Addr} {fd:FuncData} (F:Fun K "_law_by_mixing" "_law_by_mixing" bE f fd) (hm:mg "_law_by_mixing" = some (.ref f)) (B:Blt mg) (aI:FnAt P w K mg base 1 "_law_mixed" ["_law_script", "_law_k"] (gx0 K) aG) (bU:FnAt P w K mg base 1 "_law_signs" ["_law_cell_here"] (gx0 K) cD) :
  FnAt P w K mg base 2 "_law_by_mixing" ["_law_script", "_law_most"] (gx0 K) b9:=fg F hm aC rfl rfl (fun _ _ _ _ _ _ us hl=>by obtain ⟨_,_,rfl⟩:=L2.pj hl;rfl) fun cdv A outer s H E hr =>
  (ag (ak (aP bU hr (ab (aP aI hr (ab (aa 0 rfl (Or.inl rfl) rfl rfl) (ab ae aj rfl) rfl) (by decide) rfl rfl rfl rfl) aj rfl) (by decide) rfl rfl rfl rfl) aC.nd rfl (Or.inl rfl) rfl (Or.inl rfl))
  (ag (ak (bq (cA (ab ae (ab ae (ab ae (ab ae (ab ae (ab ae (ab ae (ab ae aj rfl) rfl) rfl) rfl) rfl) rfl) rfl) rfl)) (aV (aP aI hr (ab (aa 0 rfl (Or.inl rfl) rfl rfl) (ab ae aj rfl) rfl) (by decide) rfl rfl rfl rfl) ae) (fun _ _=>rfl) rfl) aC.nd rfl (Or.inl rfl) rfl (Or.inl rfl))
  (ag (ak (aa 1 rfl (Or.inl rfl) rfl rfl) aC.nd rfl (Or.inl rfl) rfl (Or.inl rfl))
  (ag (dm (cA aj) aC.nd rfl (Or.inl rfl) rfl (Or.inl rfl))
  (ag (bg PassesOwn.never rfl (bZ (aV (aP aI hr (ab (aa 0 rfl (Or.inl rfl) rfl rfl) (ab ae aj rfl) rfl) (by decide) rfl rfl rfl rfl) ae) rfl B.b_range rfl rfl) (aJ 6 aC.nd rfl (Or.inl rfl) (Or.inl rfl))
  (ag (ak (nU B.b_min (ab (aa 4 rfl (Or.inl rfl) rfl rfl) (ab (aV (aP aI hr (ab (aa 0 rfl (Or.inl rfl) rfl rfl) (ab (aZ (dQ ae (aa 6 rfl (Or.inl rfl) rfl rfl)) ae) aj rfl) rfl) (by decide) rfl rfl rfl rfl) (aZ (aa 1 rfl (Or.inl rfl) rfl rfl) ae)) aj rfl) rfl) rfl rfl rfl rfl) aC.nd rfl (Or.inl rfl) rfl (Or.inl rfl))
  (ag (ak (jr (aa 4 rfl (Or.inl rfl) rfl rfl) (aa 7 rfl (Or.inl rfl) rfl rfl)) aC.nd rfl (Or.inl rfl) rfl (Or.inl rfl))
  (ag (ak (aZ ae (aV (aP aI hr (ab (aa 0 rfl (Or.inl rfl) rfl rfl) (ab (aZ (dQ ae (aa 6 rfl (Or.inl rfl) rfl rfl)) ae) aj rfl) rfl) (by decide) rfl rfl rfl rfl) ae)) aC.nd rfl (Or.inl rfl) rfl (Or.inl rfl))
  (ag (ak (ef (by decide +kernel) (by decide)) aC.nd rfl (Or.inl rfl) rfl (Or.inl rfl))
  (ag (bg PassesOwn.never rfl (bZ (aa 7 rfl (Or.inl rfl) rfl rfl) rfl B.b_range rfl rfl) (aJ 10 aC.nd rfl (Or.inl rfl) (Or.inl rfl))
  (ag (ak (aP aI hr (ab (aa 0 rfl (Or.inl rfl) rfl rfl) (ab (aZ (aZ (dQ ae (aa 6 rfl (Or.inl rfl) rfl rfl)) ae) (aa 10 rfl (Or.inl rfl) rfl rfl)) aj rfl) rfl) (by decide) rfl rfl rfl rfl) aC.nd rfl (Or.inl rfl) rfl (Or.inl rfl))
  (aq (cC (lj (iP (qG (cT B.b_len (ab (aa 9 rfl (Or.inl rfl) rfl rfl) aj rfl) rfl rfl rfl) (aa 8 rfl (Or.inl rfl) rfl rfl)) (jG (jy (aV (aa 11 rfl (Or.inl rfl) rfl rfl) ae) ae)))) (aq (ak (aZ (aa 9 rfl (Or.inl rfl) rfl rfl) (bq (aa 9 rfl (Or.inl rfl) rfl rfl) (jr (cT B.b_len (ab (aa 9 rfl (Or.inl rfl) rfl rfl) aj rfl) rfl rfl rfl) (aa 8 rfl (Or.inl rfl) rfl rfl)) (fun _ _=>rfl) rfl)) aC.nd rfl (Or.inl rfl) rfl (Or.inl rfl))) (aq (ak (aZ (aa 9 rfl (Or.inl rfl) rfl rfl) (bq (aa 2 rfl (Or.inl rfl) rfl rfl) (aV (dB (aa 11 rfl (Or.inl rfl) rfl rfl) ae) (aa 3 rfl (Or.inl rfl) rfl rfl)) (fun _ _=>rfl) rfl)) aC.nd rfl (Or.inl rfl) rfl (Or.inl rfl)))))) (fun _=>rfl))
  (ag (dN 5 (ab (aa 9 rfl (Or.inl rfl) rfl rfl) aj rfl) rfl rfl (Or.inl rfl) rfl rfl rfl rfl rfl)
  (aq (cC (lj (iP (jy (aa 7 rfl (Or.inl rfl) rfl rfl) ae) (iP (mf hr (aV (aP aI hr (ab (aa 0 rfl (Or.inl rfl) rfl rfl) (ab (aZ (dQ ae (aa 6 rfl (Or.inl rfl) rfl rfl)) ae) aj rfl) rfl) (by decide) rfl rfl rfl rfl) ae) ae) (jG (qG (aa 4 rfl (Or.inl rfl) rfl rfl) ae))))) (ag (dN 5 (ab (dJ (aa 9 rfl (Or.inl rfl) rfl rfl) (bI ae) (bI ae) rfl) aj rfl) rfl rfl (Or.inl rfl) rfl rfl rfl rfl rfl)
  (aq (ak (jr (aa 4 rfl (Or.inl rfl) rfl rfl) ae) aC.nd rfl (Or.inl rfl) rfl (Or.inl rfl)))) cp)))))))) (fun _=>rfl))
  (kW 5 (aq (bu (dJ (aa 5 rfl (Or.inl rfl) rfl rfl) eJ (bI ae) rfl)))))))))
noncomputable abbrev dH:Stmt:=top 9
theorem nK:FnScope ["_law_script", "_law_most"] ["_law_script", "_law_most"] (ao dH):=⟨rfl,rfl,rfl,by decide +kernel,rfl,by decide +kernel,by decide +kernel⟩
theorem eL {f:Addr} {fd:FuncData} (F:Fun K "_law_book" "_law_book" dH f fd) (hm:mg "_law_book" = some (.ref f)) (B:Blt mg) (cj:FnAt P w K mg base 2 "_law_by_digits" ["_law_cell_here"] (gx0 K) br) (b7:FnAt P w K mg base 2 "_law_by_mixing" ["_law_script", "_law_most"] (gx0 K) b9) (dF:FnAt P w K mg base 1 "_law_cell" ["_law_script", "_law_k"] (gx0 K) bw) (aI:FnAt P w K mg base 1 "_law_mixed" ["_law_script", "_law_k"] (gx0 K) aG) :
  FnAt P w K mg base 3 "_law_book" ["_law_script", "_law_most"] (gx0 K) cZ:=fg F hm nK rfl rfl (fun _ _ _ _ _ _ us hl=>by obtain ⟨_,_,rfl⟩:=L2.pj hl;rfl) fun cdv A outer s H E hr =>
  (ag (cC (mf hr (aV (aP dF hr (ab (aa 0 rfl (Or.inl rfl) rfl rfl) (ab ae aj rfl) rfl) (by decide) rfl rfl rfl rfl) ae) ae) (aq (bu (aP cj hr (ab (dB (aP dF hr (ab (aa 0 rfl (Or.inl rfl) rfl rfl) (ab ae aj rfl) rfl) (by decide) rfl rfl rfl rfl) ae) aj rfl) (by decide) rfl rfl rfl rfl))) cp)
  (aq (bu (aP b7 hr (ab (aa 0 rfl (Or.inl rfl) rfl rfl) (ab (bq (cA (ab ae (ab ae (ab ae (ab (aa 1 rfl (Or.inl rfl) rfl rfl) aj rfl) rfl) rfl) rfl)) (aV (aP aI hr (ab (aa 0 rfl (Or.inl rfl) rfl rfl) (ab ae aj rfl) rfl) (by decide) rfl rfl rfl rfl) ae) (fun _ _=>rfl) rfl) aj rfl) rfl) (by decide) rfl rfl rfl rfl))))
noncomputable abbrev cE:Stmt:=top 10
theorem cw:FnScope ["_law_book_here", "_law_found", "_law_number", "_law_text", "_law_end", "_law_start"] ["_law_book_here"] (ao cE):=⟨rfl,rfl,rfl,by decide +kernel,rfl,by decide +kernel,by decide +kernel⟩
theorem dv {f:Addr} {fd:FuncData} (F:Fun K "_law_places" "_law_places" cE f fd) (hm:mg "_law_places" = some (.ref f)) (B:Blt mg) :
  FnAt P w K mg base 1 "_law_places" ["_law_book_here"] (gx0 K) bY:=fg F hm cw rfl rfl (fun _ _ _ _ _ _ us hl=>by obtain ⟨_,rfl⟩:=L2.pI hl;rfl) fun cdv A outer s H E hr =>
  (ag (dm (rJ (by decide +kernel) (by decide)) cw.nd rfl (Or.inl rfl) rfl (Or.inl rfl))
  (ag (bg PassesOwn.never rfl (j6 (aa 0 rfl (Or.inl rfl) rfl rfl) rfl B.b_enumerate rfl rfl) (lM rfl (eY (aJ 2 cw.nd rfl (Or.inl rfl) (Or.inl rfl)) (eY (aJ 3 cw.nd rfl (Or.inl rfl) (Or.inl rfl)) jH rfl) rfl) rfl rfl rfl)
  (aq (bg PassesOwn.never rfl (bZ (aZ (cT B.b_len (ab (aa 3 rfl (Or.inl rfl) rfl rfl) aj rfl) rfl rfl rfl) ae) rfl B.b_range rfl rfl) (aJ 4 cw.nd rfl (Or.inl rfl) (Or.inl rfl))
  (aq (bg PassesOwn.never rfl (bZ (aZ (aa 4 rfl (Or.inl rfl) rfl rfl) ae) rfl B.b_range rfl rfl) (aJ 5 cw.nd rfl (Or.inl rfl) (Or.inl rfl))
  (aq (pW (xk _) 1 (dJ (aa 3 rfl (Or.inl rfl) rfl rfl) (bI (aa 5 rfl (Or.inl rfl) rfl rfl)) (bI (aa 4 rfl (Or.inl rfl) rfl rfl)) rfl) (ab (iu (ab (aa 2 rfl (Or.inl rfl) rfl rfl) (ab (aa 4 rfl (Or.inl rfl) rfl rfl) aj rfl) rfl)) aj rfl)  rfl rfl (Or.inl rfl) rfl rfl rfl rfl rfl rfl rfl rfl rfl rfl rfl rfl rfl rfl)) (fun _=>rfl))) (fun _=>rfl))) (fun _=>rfl))
  (aq (dG 1 rfl (Or.inl rfl) rfl rfl))))
noncomputable abbrev cq:Stmt:=top 11
theorem jU:FnScope ["_law_word"] ["_law_word"] (ao cq):=⟨rfl,rfl,rfl,by decide +kernel,rfl,by decide +kernel,by decide +kernel⟩
theorem cP {f:Addr} {fd:FuncData} (F:Fun K "_law_by_size" "_law_by_size" cq f fd) (hm:mg "_law_by_size" = some (.ref f)) (B:Blt mg) :
  FnAt P w K mg base 1 "_law_by_size" ["_law_word"] (gx0 K) dS:=fg F hm jU rfl rfl (fun _ _ _ _ _ _ us hl=>by obtain ⟨_,rfl⟩:=L2.pI hl;rfl) fun cdv A outer s H E hr =>
  (aq (bu (iu (ab (cT B.b_len (ab (aa 0 rfl (Or.inl rfl) rfl rfl) aj rfl) rfl rfl rfl) (ab (aa 0 rfl (Or.inl rfl) rfl rfl) aj rfl) rfl))))
noncomputable abbrev cI:Stmt:=top 12
theorem fC:FnScope ["_law_found", "_law_groups", "_law_word"] ["_law_found"] (ao cI):=⟨rfl,rfl,rfl,by decide +kernel,rfl,by decide +kernel,by decide +kernel⟩
theorem dA {f:Addr} {fd:FuncData} (F:Fun K "_law_stands" "_law_stands" cI f fd) (hm:mg "_law_stands" = some (.ref f)) (B:Blt mg) (cP:FnAt P w K mg base 1 "_law_by_size" ["_law_word"] (gx0 K) dS) :
  FnAt P w K mg base 4 "_law_stands" ["_law_found"] (gx0 K) cK:=fg F hm fC rfl rfl (fun _ _ _ _ _ _ us hl=>by obtain ⟨_,rfl⟩:=L2.pI hl;rfl) fun cdv A outer s H E hr =>
  (ag (dm sk fC.nd rfl (Or.inr rfl) rfl (Or.inl rfl))
  (ag (bg PassesOwn.never rfl (dk (o5 cP (by decide) jX hr B.b_sorted (ab (aa 0 rfl (Or.inl rfl) rfl rfl) aj rfl) rfl rfl rfl rfl rfl rfl) rfl) (aJ 2 fC.nd rfl (Or.inl rfl) (Or.inl rfl))
  (aq (nV 1 hr (kU B.b_tuple (ab (j8 hr (aa 0 rfl (Or.inl rfl) rfl rfl) (aa 2 rfl (Or.inl rfl) rfl rfl) (fun _ _=>rfl) rfl) aj rfl) rfl rfl rfl) (ab (aa 2 rfl (Or.inl rfl) rfl rfl) aj rfl)  rfl rfl (Or.inr (Or.inl rfl)) rfl rfl rfl rfl rfl rfl rfl rfl rfl rfl rfl rfl rfl rfl)) (fun _=>rfl))
  (aq (nN 1 ["_law_some", "_law_found", "_law_groups", "_law_word"] hr rfl rfl (Or.inr (Or.inl rfl)) rfl rfl (fun _ _ _ _ _=>⟨L2.rh (show List.Nodup (["_law_some", "_law_found", "_law_groups", "_law_word"]:List Str) from by decide +kernel) rfl (Or.inl rfl) (Or.inr rfl),L2.fu rfl (Or.inr (Or.inl rfl)) rfl rfl,L2.fu rfl (Or.inl rfl) rfl rfl,rfl⟩) (fun _ _=>rfl) rfl rfl (by decide) (fun _=>rfl)))))
noncomputable abbrev cn:Stmt:=top 13
theorem cB:FnScope ["_law_stands_here", "_law_numbers_here", "_law_k", "_law_some", "_law_word"] ["_law_stands_here"] (ao cn):=⟨rfl,rfl,rfl,by decide +kernel,rfl,by decide +kernel,by decide +kernel⟩
theorem cQ {f:Addr} {fd:FuncData} (F:Fun K "_law_numbers" "_law_numbers" cn f fd) (hm:mg "_law_numbers" = some (.ref f)) (B:Blt mg) :
  FnAt P w K mg base 1 "_law_numbers" ["_law_stands_here"] (gx0 K) cx:=fg F hm cB rfl rfl (fun _ _ _ _ _ _ us hl=>by obtain ⟨_,rfl⟩:=L2.pI hl;rfl) fun cdv A outer s H E hr =>
  (ag (dm t6 cB.nd rfl (Or.inl rfl) rfl (Or.inl rfl))
  (ag (bg PassesOwn.never rfl (j6 (aa 0 rfl (Or.inl rfl) rfl rfl) rfl B.b_enumerate rfl rfl) (lM rfl (eY (aJ 2 cB.nd rfl (Or.inl rfl) (Or.inl rfl)) (eY (aJ 3 cB.nd rfl (Or.inl rfl) (Or.inl rfl)) jH rfl) rfl) rfl rfl rfl)
  (aq (bg PassesOwn.never rfl (dk (aa 3 rfl (Or.inl rfl) rfl rfl) rfl) (aJ 4 cB.nd rfl (Or.inl rfl) (Or.inl rfl))
  (aq (uw 1 hr (aa 4 rfl (Or.inl rfl) rfl rfl) (aa 2 rfl (Or.inl rfl) rfl rfl) rfl (Or.inl rfl) rfl rfl (fun _=>rfl) rfl rfl rfl)) (fun _=>rfl))) (fun _=>rfl))
  (aq (dG 1 rfl (Or.inl rfl) rfl rfl))))
noncomputable abbrev dc:Stmt:=top 14
theorem bW:FnScope ["_law_stands_here", "_law_numbers_here", "_law_table_here", "_law_some", "_law_ways", "_law_sign", "_law_link"] ["_law_stands_here", "_law_numbers_here"] (ao dc):=⟨rfl,rfl,rfl,by decide +kernel,rfl,by decide +kernel,by decide +kernel⟩
theorem dX {f:Addr} {fd:FuncData} (F:Fun K "_law_table" "_law_table" dc f fd) (hm:mg "_law_table" = some (.ref f)) (B:Blt mg) :
  FnAt P w K mg base 1 "_law_table" ["_law_stands_here", "_law_numbers_here"] (gx0 K) dj:=fg F hm bW rfl rfl (fun _ _ _ _ _ _ us hl=>by obtain ⟨_,_,rfl⟩:=L2.pj hl;rfl) fun cdv A outer s H E hr =>
  (ag (dm (cA aj) bW.nd rfl (Or.inl rfl) rfl (Or.inl rfl))
  (ag (bg PassesOwn.never rfl (dk (aa 0 rfl (Or.inl rfl) rfl rfl) rfl) (aJ 3 bW.nd rfl (Or.inl rfl) (Or.inl rfl))
  (ag (dm (cA aj) bW.nd rfl (Or.inl rfl) rfl (Or.inl rfl))
  (ag (bg PassesOwn.never rfl (dk (ef (by decide +kernel) (by decide)) rfl) (aJ 5 bW.nd rfl (Or.inl rfl) (Or.inl rfl))
  (aq (cC (zm hr (aZ (bq (aa 3 rfl (Or.inl rfl) rfl rfl) ae (fun _ _=>rfl) rfl) (aa 5 rfl (Or.inl rfl) rfl rfl)) (aa 1 rfl (Or.inl rfl) rfl rfl) (by with_unfolding_all rfl) rfl) (aq (dN 4 (ab (iu (ab (aa 5 rfl (Or.inl rfl) rfl rfl) (ab (j8 hr (aa 1 rfl (Or.inl rfl) rfl rfl) (aZ (bq (aa 3 rfl (Or.inl rfl) rfl rfl) ae (fun _ _=>rfl) rfl) (aa 5 rfl (Or.inl rfl) rfl rfl)) (fun _ _=>rfl) rfl) aj rfl) rfl)) aj rfl) rfl rfl (Or.inl rfl) rfl rfl rfl rfl rfl)) cp)) (fun _=>rfl))
  (kW 4 (ag (ak ph bW.nd rfl (Or.inl rfl) rfl (Or.inl rfl))
  (ag (cC (xb hr (bq (aa 3 rfl (Or.inl rfl) rfl rfl) ae (fun _ _=>rfl) rfl) (ef (by decide +kernel) (by decide))) (aq (ak (j8 hr (aa 1 rfl (Or.inl rfl) rfl rfl) (dJ (bq (aa 3 rfl (Or.inl rfl) rfl rfl) ae (fun _ _=>rfl) rfl) (bI ae) eJ rfl) (fun _ _=>rfl) rfl) bW.nd rfl (Or.inl rfl) rfl (Or.inl rfl))) cp)
  (aq (dN 2 (ab (iu (ab (cT B.b_len (ab (bq (aa 3 rfl (Or.inl rfl) rfl rfl) ae (fun _ _=>rfl) rfl) aj rfl) rfl rfl rfl) (ab (cT B.b_len (ab (bq (aa 3 rfl (Or.inl rfl) rfl rfl) lY (fun _ _=>rfl) rfl) aj rfl) rfl rfl rfl) (ab (aa 6 rfl (Or.inl rfl) rfl rfl) (ab (kU B.b_tuple (ab (aa 4 rfl (Or.inl rfl) rfl rfl) aj rfl) rfl rfl rfl) aj rfl) rfl) rfl) rfl)) aj rfl) rfl rfl (Or.inl rfl) rfl rfl rfl rfl rfl))))))) (fun _=>rfl))
  (aq (dG 2 rfl (Or.inl rfl) rfl rfl))))
noncomputable abbrev df:Stmt:=top 15
theorem iw:FnScope ["_law_table_here", "_law_numbers_here", "_law_word", "_law_found"] ["_law_table_here", "_law_numbers_here", "_law_word"] (ao df):=⟨rfl,rfl,rfl,by decide +kernel,rfl,by decide +kernel,by decide +kernel⟩
theorem d4 {f:Addr} {fd:FuncData} (F:Fun K "_law_right" "_law_right" df f fd) (hm:mg "_law_right" = some (.ref f)) (B:Blt mg) (eS:FnAt P w K mg base 2 "stand_of" ["table", "word"] (gx0 K) eQ) :
  FnAt P w K mg base 3 "_law_right" ["_law_table_here", "_law_numbers_here", "_law_word"] (gx0 K) dh:=fg F hm iw rfl rfl (fun _ _ _ _ _ _ us hl=>by obtain ⟨_,_,_,rfl⟩:=L2.Ea hl;rfl) fun cdv A outer s H E hr =>
  (ag (ak (aP eS hr (ab (aa 0 rfl (Or.inl rfl) rfl rfl) (ab (aa 2 rfl (Or.inl rfl) rfl rfl) aj rfl) rfl) (by decide) rfl rfl rfl rfl) iw.nd rfl (Or.inl rfl) rfl (Or.inl rfl))
  (ag (cC (oU hr (aa 2 rfl (Or.inl rfl) rfl rfl) (aa 1 rfl (Or.inl rfl) rfl rfl) (by with_unfolding_all rfl) rfl) (aq (bu (t7 (aa 3 rfl (Or.inl rfl) rfl rfl)))) cp)
  (aq (bu (nu (vp .int B.b_isinstance B.b_int (aa 3 rfl (Or.inl rfl) rfl rfl) rfl rfl rfl rfl) (nu (vo (vp .bool B.b_isinstance B.b_bool (aa 3 rfl (Or.inl rfl) rfl rfl) rfl rfl rfl rfl)) (vX (wa hr (aa 3 rfl (Or.inl rfl) rfl rfl) (j8 hr (aa 1 rfl (Or.inl rfl) rfl rfl) (aa 2 rfl (Or.inl rfl) rfl rfl) (fun _ _=>rfl) rfl)))))))))
noncomputable abbrev iF:Stmt:=top 16
theorem eE:FnScope ["_law_script", "_law_book_here", "_law_stands_here", "_law_numbers_here", "_law_table_here", "_law_handed", "_law_signs_here", "_law_some", "_law_word", "_law_other"] ["_law_script"] (ao iF):=⟨rfl,rfl,rfl,by decide +kernel,rfl,by decide +kernel,by decide +kernel⟩
theorem BA {f:Addr} {fd:FuncData} (F:Fun K "law" "law" iF f fd) (B:Blt mg) (eL:FnAt P w K mg base 3 "_law_book" ["_law_script", "_law_most"] (gx0 K) cZ) (aI:FnAt P w K mg base 1 "_law_mixed" ["_law_script", "_law_k"] (gx0 K) aG) (cQ:FnAt P w K mg base 1 "_law_numbers" ["_law_stands_here"] (gx0 K) cx) (dv:FnAt P w K mg base 1 "_law_places" ["_law_book_here"] (gx0 K) bY) (d4:FnAt P w K mg base 3 "_law_right" ["_law_table_here", "_law_numbers_here", "_law_word"] (gx0 K) dh) (dA:FnAt P w K mg base 4 "_law_stands" ["_law_found"] (gx0 K) cK) (dX:FnAt P w K mg base 1 "_law_table" ["_law_stands_here", "_law_numbers_here"] (gx0 K) dj) :
  FnOk P w K mg base CX0 5 f fd ["_law_script"] (spF (gx0 K) lW):=Ek F eE rfl rfl fun cdv A outer s H E hr =>
  (ag (ak (aP eL hr (ab (aa 0 rfl (Or.inl rfl) rfl rfl) (ab ae aj rfl) rfl) (by decide) rfl rfl rfl rfl) eE.nd rfl (Or.inl rfl) rfl (Or.inl rfl))
  (ag (ak (aP dA hr (ab (aP dv hr (ab (aa 1 rfl (Or.inl rfl) rfl rfl) aj rfl) (by decide) rfl rfl rfl rfl) aj rfl) (by decide) rfl rfl rfl rfl) eE.nd rfl (Or.inl rfl) rfl (Or.inl rfl))
  (ag (ak (aP cQ hr (ab (aa 2 rfl (Or.inl rfl) rfl rfl) aj rfl) (by decide) rfl rfl rfl rfl) eE.nd rfl (Or.inl rfl) rfl (Or.inl rfl))
  (ag (ak (aP dX hr (ab (aa 2 rfl (Or.inl rfl) rfl rfl) (ab (aa 3 rfl (Or.inl rfl) rfl rfl) aj rfl) rfl) (by decide) rfl rfl rfl rfl) eE.nd rfl (Or.inl rfl) rfl (Or.inl rfl))
  (ag (ak (rV B.b_list (ab (aa 4 rfl (Or.inl rfl) rfl rfl) aj rfl) rfl rfl rfl rfl) eE.nd rfl (Or.inl rfl) rfl (Or.inl rfl))
  (ag (ak (aZ (dJ (jZ B.b_sorted B.b_set (ab (sI (ef (by decide +kernel) (by decide)) (ab (aa 1 rfl (Or.inl rfl) rfl rfl) aj rfl) rfl rfl rfl rfl rfl rfl) aj rfl) rfl rfl rfl rfl rfl) eJ (bI ae) rfl) (cA (ab (ef (by decide +kernel) (by decide)) aj rfl))) eE.nd rfl (Or.inl rfl) rfl (Or.inl rfl))
  (ag (ak (rQ B.b_list (ab (aa 3 rfl (Or.inl rfl) rfl rfl) aj rfl) rfl rfl rfl) eE.nd rfl (Or.inl rfl) rfl (Or.inl rfl))
  (ag (cC (jy (cT B.b_len (ab (aa 7 rfl (Or.inl rfl) rfl rfl) aj rfl) rfl rfl rfl) ae) (aq (ak (qb (aa 7 rfl (Or.inl rfl) rfl rfl) (bI (aV (aP aI hr (ab (aa 0 rfl (Or.inl rfl) rfl rfl) (ab ae aj rfl) rfl) (by decide) rfl rfl rfl rfl) ae)) eJ (bI ae) rfl) eE.nd rfl (Or.inl rfl) rfl (Or.inl rfl))) cp)
  (ag (bg PassesOwn.never rfl (dk (aa 7 rfl (Or.inl rfl) rfl rfl) rfl) (aJ 8 eE.nd rfl (Or.inr rfl) (Or.inl rfl))
  (aq (bg PassesOwn.never rfl (dk (aZ (cA (ab (aa 8 rfl (Or.inr (Or.inl rfl)) rfl rfl) (ab (dJ (aa 8 rfl (Or.inr (Or.inl rfl)) rfl rfl) (bI ae) eJ rfl) aj rfl) rfl)) (lO 1 ["_law_sign", "_law_script", "_law_book_here", "_law_stands_here", "_law_numbers_here", "_law_table_here", "_law_handed", "_law_signs_here", "_law_some", "_law_word", "_law_other"] rfl (dk (aa 6 rfl (Or.inl rfl) rfl rfl) rfl) (q0 (by decide)) (fun _ _ _ _ _=>(aJ 0 (show List.Nodup (["_law_sign", "_law_script", "_law_book_here", "_law_stands_here", "_law_numbers_here", "_law_table_here", "_law_handed", "_law_signs_here", "_law_some", "_law_word", "_law_other"]:List Str) from by decide +kernel) rfl (Or.inl rfl) (Or.inr rfl))) (fun _ _ _ _ _=>(aZ (aa 9 rfl (Or.inr (Or.inl rfl)) rfl rfl) (aa 0 rfl (Or.inl rfl) rfl rfl))) rfl rfl (by decide) (fun _=>rfl))) rfl) (aJ 9 eE.nd rfl (Or.inl rfl) (Or.inl rfl))
  (aq (cC (rX (rY (aP d4 hr (ab (aa 5 rfl (Or.inl rfl) rfl rfl) (ab (aa 3 rfl (Or.inl rfl) rfl rfl) (ab (aa 9 rfl (Or.inl rfl) rfl rfl) aj rfl) rfl) rfl) (by decide) rfl rfl rfl rfl) rfl (fun _=>rfl))) (aq (bu xO)) cp)) (fun _=>rfl))) (fun _=>rfl))
  (aq (bu (wa hr (aa 5 rfl (Or.inl rfl) rfl rfl) (aa 4 rfl (Or.inl rfl) rfl rfl)))))))))))))
end
theorem all_mk {l:PySem.W.OpenLaw} {w:World} {K:PySem.W.Frag} {h:Heap} {mg:Str->Option Value} {fa f0 f1 f2 f3 f4 f5 f6 f7 f8 f9 f10 f11 f12 f13 f14:Addr} (X:K.In h) (G:h.Ns mainGlobals mg) (hfa:mg "law" = some (.ref fa))
  {od0 an0 od1 an1 od2 an2 od3 an3 od4 an4 od5 an5 od6 an6 od7 an7 od8 an8 od9 an9 od10 an10 od11 an11 od12 an12 od13 an13 od14 an14:Option Addr} {sl0 sl1 sl2 sl3 sl4 sl5 sl6 sl7 sl8 sl9 sl10 sl11 sl12 sl13 sl14:Array (Option Value)} {oc0 kV0 dc0 pm0 cd0 ct0 oc1 kV1 dc1 pm1 cd1 ct1 oc2 kV2 dc2 pm2 cd2 ct2 oc3 kV3 dc3 pm3 cd3 ct3 oc4 kV4 dc4 pm4 cd4 ct4 oc5 kV5 dc5 pm5 cd5 ct5 oc6 kV6 dc6 pm6 cd6 ct6 oc7 kV7 dc7 pm7 cd7 ct7 oc8 kV8 dc8 pm8 cd8 ct8 oc9 kV9 dc9 pm9 cd9 ct9 oc10 kV10 dc10 pm10 cd10 ct10 oc11 kV11 dc11 pm11 cd11 ct11 oc12 kV12 dc12 pm12 cd12 ct12 oc13 kV13 dc13 pm13 cd13 ct13 oc14 kV14 dc14 pm14 cd14 ct14:Value}
  (a0:PySem.W.nsIn K mainGlobals "walk" = some (some (.ref f0))) (l0:K.lookup f0=some ⟨oc0,od0,.func (PySem.W.fnOf "walk" "walk" (aY iV) (aR iV) (ao iV) .none kV0 dc0 pm0 an0 cd0 ct0),sl0⟩) (c0:PySem.W.codeIn K cd0 "walk" = true) (k0:PySem.W.keepIn K (.ref f0)=true)
  (a1:PySem.W.nsIn K mainGlobals "stand_of" = some (some (.ref f1))) (l1:K.lookup f1=some ⟨oc1,od1,.func (PySem.W.fnOf "stand_of" "stand_of" (aY dE) (aR dE) (ao dE) .none kV1 dc1 pm1 an1 cd1 ct1),sl1⟩) (c1:PySem.W.codeIn K cd1 "stand_of" = true) (k1:PySem.W.keepIn K (.ref f1)=true)
  (a2:PySem.W.nsIn K mainGlobals "_law_cell" = some (some (.ref f2))) (l2:K.lookup f2=some ⟨oc2,od2,.func (PySem.W.fnOf "_law_cell" "_law_cell" (aY dI) (aR dI) (ao dI) .none kV2 dc2 pm2 an2 cd2 ct2),sl2⟩) (c2:PySem.W.codeIn K cd2 "_law_cell" = true) (k2:PySem.W.keepIn K (.ref f2)=true)
  (a3:PySem.W.nsIn K mainGlobals "_law_mixed" = some (some (.ref f3))) (l3:K.lookup f3=some ⟨oc3,od3,.func (PySem.W.fnOf "_law_mixed" "_law_mixed" (aY de) (aR de) (ao de) .none kV3 dc3 pm3 an3 cd3 ct3),sl3⟩) (c3:PySem.W.codeIn K cd3 "_law_mixed" = true) (k3:PySem.W.keepIn K (.ref f3)=true)
  (a4:PySem.W.nsIn K mainGlobals "_law_signs" = some (some (.ref f4))) (l4:K.lookup f4=some ⟨oc4,od4,.func (PySem.W.fnOf "_law_signs" "_law_signs" (aY di) (aR di) (ao di) .none kV4 dc4 pm4 an4 cd4 ct4),sl4⟩) (c4:PySem.W.codeIn K cd4 "_law_signs" = true) (k4:PySem.W.keepIn K (.ref f4)=true)
  (a5:PySem.W.nsIn K mainGlobals "_law_by_digits" = some (some (.ref f5))) (l5:K.lookup f5=some ⟨oc5,od5,.func (PySem.W.fnOf "_law_by_digits" "_law_by_digits" (aY bF) (aR bF) (ao bF) .none kV5 dc5 pm5 an5 cd5 ct5),sl5⟩) (c5:PySem.W.codeIn K cd5 "_law_by_digits" = true) (k5:PySem.W.keepIn K (.ref f5)=true)
  (a6:PySem.W.nsIn K mainGlobals "_law_by_mixing" = some (some (.ref f6))) (l6:K.lookup f6=some ⟨oc6,od6,.func (PySem.W.fnOf "_law_by_mixing" "_law_by_mixing" (aY bE) (aR bE) (ao bE) .none kV6 dc6 pm6 an6 cd6 ct6),sl6⟩) (c6:PySem.W.codeIn K cd6 "_law_by_mixing" = true) (k6:PySem.W.keepIn K (.ref f6)=true)
  (a7:PySem.W.nsIn K mainGlobals "_law_book" = some (some (.ref f7))) (l7:K.lookup f7=some ⟨oc7,od7,.func (PySem.W.fnOf "_law_book" "_law_book" (aY dH) (aR dH) (ao dH) .none kV7 dc7 pm7 an7 cd7 ct7),sl7⟩) (c7:PySem.W.codeIn K cd7 "_law_book" = true) (k7:PySem.W.keepIn K (.ref f7)=true)
  (a8:PySem.W.nsIn K mainGlobals "_law_places" = some (some (.ref f8))) (l8:K.lookup f8=some ⟨oc8,od8,.func (PySem.W.fnOf "_law_places" "_law_places" (aY cE) (aR cE) (ao cE) .none kV8 dc8 pm8 an8 cd8 ct8),sl8⟩) (c8:PySem.W.codeIn K cd8 "_law_places" = true) (k8:PySem.W.keepIn K (.ref f8)=true)
  (a9:PySem.W.nsIn K mainGlobals "_law_by_size" = some (some (.ref f9))) (l9:K.lookup f9=some ⟨oc9,od9,.func (PySem.W.fnOf "_law_by_size" "_law_by_size" (aY cq) (aR cq) (ao cq) .none kV9 dc9 pm9 an9 cd9 ct9),sl9⟩) (c9:PySem.W.codeIn K cd9 "_law_by_size" = true) (k9:PySem.W.keepIn K (.ref f9)=true)
  (a10:PySem.W.nsIn K mainGlobals "_law_stands" = some (some (.ref f10))) (l10:K.lookup f10=some ⟨oc10,od10,.func (PySem.W.fnOf "_law_stands" "_law_stands" (aY cI) (aR cI) (ao cI) .none kV10 dc10 pm10 an10 cd10 ct10),sl10⟩) (c10:PySem.W.codeIn K cd10 "_law_stands" = true) (k10:PySem.W.keepIn K (.ref f10)=true)
  (a11:PySem.W.nsIn K mainGlobals "_law_numbers" = some (some (.ref f11))) (l11:K.lookup f11=some ⟨oc11,od11,.func (PySem.W.fnOf "_law_numbers" "_law_numbers" (aY cn) (aR cn) (ao cn) .none kV11 dc11 pm11 an11 cd11 ct11),sl11⟩) (c11:PySem.W.codeIn K cd11 "_law_numbers" = true) (k11:PySem.W.keepIn K (.ref f11)=true)
  (a12:PySem.W.nsIn K mainGlobals "_law_table" = some (some (.ref f12))) (l12:K.lookup f12=some ⟨oc12,od12,.func (PySem.W.fnOf "_law_table" "_law_table" (aY dc) (aR dc) (ao dc) .none kV12 dc12 pm12 an12 cd12 ct12),sl12⟩) (c12:PySem.W.codeIn K cd12 "_law_table" = true) (k12:PySem.W.keepIn K (.ref f12)=true)
  (a13:PySem.W.nsIn K mainGlobals "_law_right" = some (some (.ref f13))) (l13:K.lookup f13=some ⟨oc13,od13,.func (PySem.W.fnOf "_law_right" "_law_right" (aY df) (aR df) (ao df) .none kV13 dc13 pm13 an13 cd13 ct13),sl13⟩) (c13:PySem.W.codeIn K cd13 "_law_right" = true) (k13:PySem.W.keepIn K (.ref f13)=true)
  (a14:PySem.W.nsIn K mainGlobals "law" = some (some (.ref f14))) (l14:K.lookup f14=some ⟨oc14,od14,.func (PySem.W.fnOf "law" "law" (aY iF) (aR iF) (ao iF) .none kV14 dc14 pm14 an14 cd14 ct14),sl14⟩) (c14:PySem.W.codeIn K cd14 "law" = true) (k14:PySem.W.keepIn K (.ref f14)=true)
  (z_bool:PySem.W.nsIn K mainGlobals "bool" = some none)
  (z_dict:PySem.W.nsIn K mainGlobals "dict" = some none)
  (z_enumerate:PySem.W.nsIn K mainGlobals "enumerate" = some none)
  (z_int:PySem.W.nsIn K mainGlobals "int" = some none)
  (z_isinstance:PySem.W.nsIn K mainGlobals "isinstance" = some none)
  (z_len:PySem.W.nsIn K mainGlobals "len" = some none)
  (z_list:PySem.W.nsIn K mainGlobals "list" = some none)
  (z_min:PySem.W.nsIn K mainGlobals "min" = some none)
  (z_range:PySem.W.nsIn K mainGlobals "range" = some none)
  (z_set:PySem.W.nsIn K mainGlobals "set" = some none)
  (z_sorted:PySem.W.nsIn K mainGlobals "sorted" = some none)
  (z_tuple:PySem.W.nsIn K mainGlobals "tuple" = some none)
  : ∃ fd:FuncData,(∀ (s:Shared) (v:Value),BindsTo s fd ⟨[v],[]⟩ [("_law_script",v)])/\∀ base:Heap,K.In base->base.Ns mainGlobals mg->FnOk l.prog w K mg base CX0 5 fa fd ["_law_script"] (spF (gx0 K) lW):=by
 have e:=hfa.symm.trans (PySem.W.mg_of X G a14)
 cases e
 have B:Blt mg:=⟨PySem.W.mg_none_of X G z_bool,PySem.W.mg_none_of X G z_dict,PySem.W.mg_none_of X G z_enumerate,PySem.W.mg_none_of X G z_int,PySem.W.mg_none_of X G z_isinstance,PySem.W.mg_none_of X G z_len,PySem.W.mg_none_of X G z_list,PySem.W.mg_none_of X G z_min,PySem.W.mg_none_of X G z_range,PySem.W.mg_none_of X G z_set,PySem.W.mg_none_of X G z_sorted,PySem.W.mg_none_of X G z_tuple⟩
 refine ⟨PySem.W.fnOf "law" "law" (aY iF) (aR iF) (ao iF) .none kV14 dc14 pm14 an14 cd14 ct14,fun s v=>.of_eq rfl,fun base _ _=>?_⟩
 have kE:=kE (P:=l.prog) (w:=w) (base:=base) (cW (st:=iV) l0 c0 k0) (PySem.W.mg_of X G a0) B
 have eS:=eS (P:=l.prog) (w:=w) (base:=base) (cW (st:=dE) l1 c1 k1) (PySem.W.mg_of X G a1) B kE
 have dF:=dF (P:=l.prog) (w:=w) (base:=base) (cW (st:=dI) l2 c2 k2) (PySem.W.mg_of X G a2) B
 have aI:=aI (P:=l.prog) (w:=w) (base:=base) (cW (st:=de) l3 c3 k3) (PySem.W.mg_of X G a3) B
 have bU:=bU (P:=l.prog) (w:=w) (base:=base) (cW (st:=di) l4 c4 k4) (PySem.W.mg_of X G a4) B
 have cj:=cj (P:=l.prog) (w:=w) (base:=base) (cW (st:=bF) l5 c5 k5) (PySem.W.mg_of X G a5) B bU
 have b7:=b7 (P:=l.prog) (w:=w) (base:=base) (cW (st:=bE) l6 c6 k6) (PySem.W.mg_of X G a6) B aI bU
 have eL:=eL (P:=l.prog) (w:=w) (base:=base) (cW (st:=dH) l7 c7 k7) (PySem.W.mg_of X G a7) B cj b7 dF aI
 have dv:=dv (P:=l.prog) (w:=w) (base:=base) (cW (st:=cE) l8 c8 k8) (PySem.W.mg_of X G a8) B
 have cP:=cP (P:=l.prog) (w:=w) (base:=base) (cW (st:=cq) l9 c9 k9) (PySem.W.mg_of X G a9) B
 have dA:=dA (P:=l.prog) (w:=w) (base:=base) (cW (st:=cI) l10 c10 k10) (PySem.W.mg_of X G a10) B cP
 have cQ:=cQ (P:=l.prog) (w:=w) (base:=base) (cW (st:=cn) l11 c11 k11) (PySem.W.mg_of X G a11) B
 have dX:=dX (P:=l.prog) (w:=w) (base:=base) (cW (st:=dc) l12 c12 k12) (PySem.W.mg_of X G a12) B
 have d4:=d4 (P:=l.prog) (w:=w) (base:=base) (cW (st:=df) l13 c13 k13) (PySem.W.mg_of X G a13) B eS
 exact BA (cW (st:=iF) l14 c14 k14) B eL aI cQ dv d4 dA dX
end T14
open PySem PySem.W PyProof.Rows
set_option maxRecDepth 100000 in
set_option maxHeartbeats 0 in
theorem PySem.Challenge.cw_allparts_k14_stands_of_words_holds : PySem.Challenge.rw_allparts_k14_stands_of_words.Holds := by
 w_on;o_law;k_head;(case hw=>w_witness2)
 k_fill
 refine VS.yp (l:=PySem.Challenge.rw_allparts_k14_stands_of_words) (k:=5) (x := "_law_script") (g:=T14.lW) rfl rfl ⟨rfl,by decide,by decide⟩ (fun w h Y=>PySem.W.kIn_of Y) T14.vj ?F
 case F =>
  intro w mg fa h KX G hmg
  refine' T14.all_mk KX G hmg ?a0 ?l0 ?c0 ?k0 ?a1 ?l1 ?c1 ?k1 ?a2 ?l2 ?c2 ?k2 ?a3 ?l3 ?c3 ?k3 ?a4 ?l4 ?c4 ?k4 ?a5 ?l5 ?c5 ?k5 ?a6 ?l6 ?c6 ?k6 ?a7 ?l7 ?c7 ?k7 ?a8 ?l8 ?c8 ?k8 ?a9 ?l9 ?c9 ?k9 ?a10 ?l10 ?c10 ?k10 ?a11 ?l11 ?c11 ?k11 ?a12 ?l12 ?c12 ?k12 ?a13 ?l13 ?c13 ?k13 ?a14 ?l14 ?c14 ?k14 ?z_bool ?z_dict ?z_enumerate ?z_int ?z_isinstance ?z_len ?z_list ?z_min ?z_range ?z_set ?z_sorted ?z_tuple
  (case a0=>k_is)
  (case l0=>k_is)
  (case c0=>k_is)
  (case k0=>k_is)
  (case a1=>k_is)
  (case l1=>k_is)
  (case c1=>k_is)
  (case k1=>k_is)
  (case a2=>k_is)
  (case l2=>k_is)
  (case c2=>k_is)
  (case k2=>k_is)
  (case a3=>k_is)
  (case l3=>k_is)
  (case c3=>k_is)
  (case k3=>k_is)
  (case a4=>k_is)
  (case l4=>k_is)
  (case c4=>k_is)
  (case k4=>k_is)
  (case a5=>k_is)
  (case l5=>k_is)
  (case c5=>k_is)
  (case k5=>k_is)
  (case a6=>k_is)
  (case l6=>k_is)
  (case c6=>k_is)
  (case k6=>k_is)
  (case a7=>k_is)
  (case l7=>k_is)
  (case c7=>k_is)
  (case k7=>k_is)
  (case a8=>k_is)
  (case l8=>k_is)
  (case c8=>k_is)
  (case k8=>k_is)
  (case a9=>k_is)
  (case l9=>k_is)
  (case c9=>k_is)
  (case k9=>k_is)
  (case a10=>k_is)
  (case l10=>k_is)
  (case c10=>k_is)
  (case k10=>k_is)
  (case a11=>k_is)
  (case l11=>k_is)
  (case c11=>k_is)
  (case k11=>k_is)
  (case a12=>k_is)
  (case l12=>k_is)
  (case c12=>k_is)
  (case k12=>k_is)
  (case a13=>k_is)
  (case l13=>k_is)
  (case c13=>k_is)
  (case k13=>k_is)
  (case a14=>k_is)
  (case l14=>k_is)
  (case c14=>k_is)
  (case k14=>k_is)
  (case z_bool=>k_is)
  (case z_dict=>k_is)
  (case z_enumerate=>k_is)
  (case z_int=>k_is)
  (case z_isinstance=>k_is)
  (case z_len=>k_is)
  (case z_list=>k_is)
  (case z_min=>k_is)
  (case z_range=>k_is)
  (case z_set=>k_is)
  (case z_sorted=>k_is)
  (case z_tuple=>k_is)
end
