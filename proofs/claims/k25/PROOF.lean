import PyProof.Rows.All
import Wide.All
import OpenK.AllK
import Wide.FinOn
import Lean
import PyProof.EqAt
import PyProof.EqKinds
import PyProof.TupleCall
import PyProof.Rows.SortShellK
import PyProof.Rows.SortStr
import PyProof.Rows.SortWalk
import PyProof.StrBlockH
import PyProof.StrLawsIn
import PyProof.Rows.SetFrom
import PyProof.CollectWalk
import KE.KDictSum
import PyProof.ListStr
import PyProof.SeqI3
import PyProof.Rows.CallKwBuiltin
import PyProof.ListRange
import PyProof.AttrMissSeq
import PyProof.DictUpdate
import PyProof.DictList
import PyProof.ListNew
import PyProof.FactsAll.dict_1
import PyProof.SliceList
import PySem.Challenge.RW_allparts_k25_how_many_parts
set_option linter.all false
set_option maxRecDepth 100000
set_option Elab.async false
set_option maxHeartbeats 4000000
section
namespace L2
theorem eT {G:Prop} (h:∀ P:Prop,(G->P)->P):G:=h G id
end L2
namespace VS
noncomputable abbrev Tx:=List Nat
inductive T where
 | non | bl (b:Bool) | int (i:Int) | str (s:Tx) | scr (ns:List Int)
 | tup (l:List T) | lst (l:List T) | dct (kd:Nat) (l:List (T×T)) | obj (c:Nat) (fs:List (Nat×T))
 deriving Inhabited
noncomputable def d5:Nat:=16777216
mutual
@[simp] noncomputable def imm:T->Bool
 | .lst _=>false
 | .dct _ _=>false
 | .obj _ _=>false
 | .tup l=>d6 l
 | _=>true
@[simp] noncomputable def d6:List T->Bool
 | []=>true
 | t :: r=>imm t && d6 r
end
mutual
@[simp] noncomputable def eqT:T->T->Bool
 | .non,.non=>true
 | .bl a,.bl b=>a == b
 | .bl a,.int i=>(if a then 1 else 0) == i
 | .int i,.bl a=>i == (if a then 1 else 0)
 | .int i,.int j=>i == j
 | .str s,.str t=>s == t
 | .tup a,.tup b=>ka a b
 | .lst a,.lst b=>ka a b
 | _,_=>false
@[simp] noncomputable def ka:List T->List T->Bool
 | [],[]=>true
 | a :: as,b :: bs=>eqT a b && ka as bs
 | _,_=>false
end
@[simp] noncomputable def eqD:Nat->T->Bool
 | _,.non=>true
 | _,.bl _=>true
 | _,.int _=>true
 | _,.str _=>true
 | n+1,.tup l=>l.all (eqD n)
 | n+1,.lst l=>l.all (eqD n)
 | _,_=>false
inductive Md where | fr | pu | bo
 deriving DecidableEq,Inhabited
@[simp] noncomputable def Md.join:Md->Md->Md
 | .bo,_=>.bo
 | _,.bo=>.bo
 | .pu,_=>.pu
 | _,.pu=>.pu
 | .fr,.fr=>.fr
inductive Cell where | pu (t:T) | ow (t:T)
 deriving Inhabited
noncomputable abbrev Env:=List (Option Cell)
noncomputable abbrev Val:=Md×T
noncomputable abbrev Ex:=Env->Option Val
noncomputable abbrev Exs:=Env->Option (List Val)
@[simp] noncomputable def up (m:Md) (t:T):Val:=(if imm t then .fr else m,t)
@[simp] noncomputable def AS:T->Bool
 | .lst _=>true
 | .dct _ _=>true
 | .obj _ _=>true
 | _=>false
@[simp] noncomputable def cellOf:Val->Option Cell
 | (.fr,t)=>some (if AS t then .ow t else .pu t)
 | (.pu,t)=>some (.pu t)
 | (.bo,_)=>none
inductive Out where | nx (η:Env) | rt (v:Val) (η:Env) | bk (η:Env) | ct (η:Env)
noncomputable abbrev Sx:=Env->Option Out
@[simp] noncomputable def eC (t:T) (_:Env):Option Val:=some (.fr,t)
@[simp] noncomputable def ah (i:Nat) (η:Env):Option Val:=match η[i]? with
 | some (some (.pu t))=>some (up .pu t)
 | some (some (.ow t))=>some (.bo,t)
 | _=>none
@[simp] noncomputable def e1 (f:Val->Option Val) (a:Ex) (η:Env):Option Val:=(a η).bind f
@[simp] noncomputable def e2 (f:Val->Val->Option Val) (a b:Ex) (η:Env):Option Val:=(a η).bind fun x=>(b η).bind fun y=>f x y
@[simp] noncomputable def aA (_:Env):Option (List Val):=some []
@[simp] noncomputable def af (a:Ex) (r:Exs) (η:Env):Option (List Val):=(a η).bind fun x=>(r η).bind fun xs=>some (x :: xs)
@[simp] noncomputable def eN (f:List Val->Option Val) (as:Exs) (η:Env):Option Val:=(as η).bind f
@[simp] noncomputable def bM:List Val->Md
 | []=>.fr
 | v :: r=>v.1.join (bM r)
@[simp] noncomputable def trees (l:List Val):List T:=l.map (·.2)
noncomputable def mkL (m:Md) (l:List T):Option Val:=if l.length<=d5 then some (if d6 l then .fr else m,.lst l) else none
@[simp] noncomputable def gw (as:Exs) (η:Env):Option Val:=(as η).bind fun l=>mkL (bM l) (trees l)
noncomputable def pO (l:List Val):Option Val:=if l.length<=d5 then some (up (bM l) (.tup (trees l))) else none
@[simp] noncomputable def mW (as:Exs) (η:Env):Option Val:=(as η).bind pO
noncomputable def dput (l:List (T×T)) (k v:T):List (T×T):=if l.any (fun p=>eqT p.1 k) then l.map (fun p=>if eqT p.1 k then (p.1,v) else p) else l++[(k,v)]
noncomputable def gh:T->Bool
 | .int _=>true
 | .str _=>true
 | _=>false
noncomputable def keyOk:Nat->T->Bool
 | 0,t=>gh t
 | 1,.tup l=>l.all gh
 | _,_=>false
noncomputable def pairs:List (Ex×Ex)->Env->Option (List (Val×Val))
 | [],_=>some []
 | (a,b) :: r,η=>(a η).bind fun x=>(b η).bind fun y=>(pairs r η).map ((x,y) :: ·)
noncomputable def i9 (kd:Nat) (ps:List (Ex×Ex)) (η:Env):Option Val:=(pairs ps η).bind fun l=>if l.all (fun p=>keyOk kd p.1.2)/\l.length<=15 then
 some (bM (l.map (·.2)),.dct kd (l.foldl (fun d p=>dput d p.1.2 p.2.2) [])) else none
@[simp] noncomputable def tru:T->Option Bool
 | .bl b=>some b
 | .int i=>some (i != 0)
 | .str s=>some (!s.isEmpty)
 | .lst l=>some (!l.isEmpty)
 | .tup l=>some (!l.isEmpty)
 | .dct 0 l=>some (!l.isEmpty)
 | .non=>some false
 | _=>none
@[simp] noncomputable def gU (a b:Ex) (η:Env):Option Val:=(a η).bind fun x=>match x.2 with
 | .bl true=>b η
 | .bl false=>some (.fr,.bl false)
 | _=>none
@[simp] noncomputable def eOr (a b:Ex) (η:Env):Option Val:=(a η).bind fun x=>match x.2 with
 | .bl true=>some (.fr,.bl true)
 | .bl false=>b η
 | _=>none
@[simp] noncomputable def j3 (a:Ex) (η:Env):Option Val:=(a η).bind fun x=>match x.2 with
 | .bl b=>some (.fr,.bl (!b))
 | _=>none
@[simp] noncomputable def eIf (c a b:Ex) (η:Env):Option Val:=(c η).bind fun x=>(tru x.2).bind fun t=>if t then a η else b η
@[simp] noncomputable def isN:T->Bool
 | .non=>true
 | _=>false
@[simp] noncomputable def CC (a:Ex) (η:Env):Option Val:=(a η).bind fun x=>some (.fr,.bl (isN x.2))
@[simp] noncomputable def Cu (a:Ex) (η:Env):Option Val:=(a η).bind fun x=>some (.fr,.bl (!isN x.2))
@[simp] noncomputable def fQ (f g:Val->Val->Option Val) (a b c:Ex) (η:Env):Option Val:=(a η).bind fun x=>(b η).bind fun y=>(f x y).bind fun r=>match r.2 with
 | .bl true=>(c η).bind fun z=>g y z
 | .bl false=>some (.fr,.bl false)
 | _=>none
@[simp] noncomputable def int?:T->Option Int
 | .int i=>some i
 | _=>none
noncomputable def bt:Val->Val->Option Val
 | (_,.int i),(_,.int j)=>some (.fr,.int (i+j))
 | (_,.str s),(_,.str t)=>if s.length+t.length<=d5 then some (.fr,.str (s++t)) else none
 | (m,.lst s),(n,.lst t)=>mkL (m.join n) (s++t)
 | _,_=>none
@[simp] noncomputable def iV:Val->Val->Option Val
 | (_,.int i),(_,.int j)=>some (.fr,.int (i - j))
 | _,_=>none
noncomputable def B62:Int:=4611686018427387904
noncomputable def B64:Int:=18446744073709551616
noncomputable def dY:Val->Val->Option Val
 | (_,.int i),(_,.int j)=>if (-B64 < i/\i < B64)\/(-B64 < j/\j < B64) then some (.fr,.int (i * j)) else none
 | _,_=>none
noncomputable def jl:Val->Val->Option Val
 | (_,.str s),(_,.int j)=>if s.length * j.toNat<=d5/\-B62<=j/\j < B62 then some (.fr,.str (List.replicate j.toNat s).flatten) else none
 | _,_=>none
noncomputable def dU:Val->Val->Option Val
 | (_,.int i),(_,.int j)=>if 0 < j/\j < 1073741824 then some (.fr,.int (i / j)) else none
 | _,_=>none
noncomputable def oMod:Val->Val->Option Val
 | (_,.int i),(_,.int j)=>if 0 < j then some (.fr,.int (i % j)) else none
 | _,_=>none
noncomputable def ltx:Tx->Tx->Bool
 | [],[]=>false
 | [],_ :: _=>true
 | _ :: _,[]=>false
 | a :: as,b :: bs=>if a < b then true else if b < a then false else ltx as bs
@[simp] noncomputable def oLt:Val->Val->Option Val
 | (_,.int i),(_,.int j)=>some (.fr,.bl (decide (i < j)))
 | (_,.str s),(_,.str t)=>some (.fr,.bl (ltx s t))
 | _,_=>none
@[simp] noncomputable def oLe:Val->Val->Option Val
 | (_,.int i),(_,.int j)=>some (.fr,.bl (decide (i<=j)))
 | (_,.str s),(_,.str t)=>some (.fr,.bl (!ltx t s))
 | _,_=>none
@[simp] noncomputable def oGt (a b:Val):Option Val:=oLt b a
@[simp] noncomputable def oGe (a b:Val):Option Val:=oLe b a
@[simp] noncomputable def oEq (a b:Val):Option Val:=if eqD 60 a.2/\eqD 60 b.2 then some (.fr,.bl (eqT a.2 b.2)) else none
@[simp] noncomputable def oNe (a b:Val):Option Val:=if eqD 60 a.2/\eqD 60 b.2 then some (.fr,.bl (!eqT a.2 b.2)) else none
noncomputable def dQ (l:List (T×T)) (k:T):Option T:=(l.find? fun p=>eqT p.1 k).map (·.2)
noncomputable def ixP (n:Nat) (i:Int):Option Nat:=if 0<=i then (if i < n then some i.toNat else none) else (if 0<=i+n then some (i+n).toNat else none)
@[simp] noncomputable def sub (m:Md) (t:T):Val:=up m t
@[simp] noncomputable def aS:Val->Val->Option Val
 | (m,.lst l),(_,.int i)=>(ixP l.length i).bind fun k=>(l[k]?).map (sub m)
 | (m,.tup l),(_,.int i)=>(ixP l.length i).bind fun k=>(l[k]?).map (sub m)
 | (_,.scr l),(_,.int i)=>(ixP l.length i).bind fun k=>(l[k]?).map fun n=>(.fr,.int n)
 | (_,.str l),(_,.int i)=>(ixP l.length i).bind fun k=>(l[k]?).map fun n=>(.fr,.str [n])
 | _,_=>none
noncomputable def clip (n:Nat) (i:Int):Nat:=if i < 0 then (i+n).toNat else min i.toNat n
noncomputable def cut {α:Type} (l:List α) (a b:Option Int):List α :=
 let lo:=match a with | none=>0 | some i=>clip l.length i
 let hi:=match b with | none=>l.length | some i=>clip l.length i
 (l.drop lo).take (hi - lo)
@[simp] noncomputable def oSl (v:Val) (a b:Option Int):Option Val:=match v with
 | (_,.str s)=>some (.fr,.str (cut s a b))
 | (m,.lst l)=>mkL m (cut l a b)
 | _=>none
@[simp] noncomputable def uG (c:Option Ex) (η:Env):Option (Option Int):=match c with
 | none=>some none
 | some e=>(e η).bind fun y=>(int? y.2).map some
@[simp] noncomputable def eSl (a:Ex) (lo hi:Option Ex) (η:Env):Option Val:=(a η).bind fun x=>(uG lo η).bind fun l=>(uG hi η).bind fun h=>oSl x l h
@[simp] noncomputable def BG:T->Option Nat
 | .lst l=>some l.length
 | .tup l=>some l.length
 | .str l=>some l.length
 | .scr l=>some l.length
 | .dct 0 l=>some l.length
 | _=>none
@[simp] noncomputable def dR:List Val->Option Val
 | [x]=>(BG x.2).map fun n=>(.fr,.int n)
 | _=>none
@[simp] noncomputable def lh:List Val->Option Val
 | [(_,.int i),(_,.int j)]=>some (.fr,.int (if j < i then j else i))
 | _=>none
@[simp] noncomputable def Ct:List Val->Option Val
 | [(_,.int i),(_,.int j)]=>some (.fr,.int (if j > i then j else i))
 | _=>none
noncomputable def gD:List T->Option (List Int)
 | []=>some []
 | .int i :: r=>(gD r).map (i :: ·)
 | _=>none
noncomputable def strs?:List T->Option (List Tx)
 | []=>some []
 | .str i :: r=>(strs? r).map (i :: ·)
 | _=>none
noncomputable def q0:List Val->Option Val
 | [(_,.lst l)]=>(gD l).bind fun is=>some (.fr,.int is.sum)
 | _=>none
@[simp] noncomputable def Cq:T->Option (List T)
 | .lst l=>some l
 | .tup l=>some l
 | .scr l=>some (l.map T.int)
 | .str l=>some (l.map fun c=>T.str [c])
 | .dct _ l=>some (l.map (·.1))
 | _=>none
@[simp] noncomputable def xM:List Val->Option Val
 | [(m,.lst l)]=>mkL m l
 | [(m,.tup l)]=>mkL m l
 | _=>none
noncomputable def eW:List Val->Option Val
 | [(m,.lst l)]=>if l.length<=d5 then some (up m (.tup l)) else none
 | _=>none
inductive Ty where | int | str | bool | list | tuple | dict
@[simp] noncomputable def nq:Ty->T->Bool
 | .int,.int _=>true
 | .int,.bl _=>true
 | .bool,.bl _=>true
 | .str,.str _=>true
 | .list,.lst _=>true
 | .tuple,.tup _=>true
 | .dict,.dct _ _=>true
 | _,_=>false
@[simp] noncomputable def ph:T->Bool
 | .obj _ _=>false
 | .scr _=>false
 | .dct n _=>n != 2
 | _=>true
@[simp] noncomputable def eIs (t:Ty) (a:Ex) (η:Env):Option Val:=(a η).bind fun x=>if ph x.2 then some (.fr,.bl (nq t x.2)) else none
@[simp] noncomputable def eM (f:Val->List Val->Option Val) (o:Ex) (as:Exs) (η:Env):Option Val:=(o η).bind fun x=>(as η).bind fun xs=>f x xs
noncomputable abbrev Fn:=List T->Option Val
@[simp] noncomputable def aJ (g:Fn) (as:Exs) (η:Env):Option Val:=(as η).bind fun xs=>(g (trees xs)).bind fun r=>match r with
 | (.fr,t)=>some (.fr,t)
 | (_,t)=>some ((Md.pu).join (bM xs),t)
noncomputable abbrev Its:=Env->Option (Md×List T)
@[simp] noncomputable def BW:Val->Option (Md×List T)
 | (m,.lst l)=>some (m,l)
 | (m,.tup l)=>some (m,l)
 | (_,.str l)=>some (.fr,l.map fun c=>.str [c])
 | _=>none
@[simp] noncomputable def fq (a:Ex) (η:Env):Option (Md×List T):=(a η).bind BW
noncomputable def rng (lo:Int) (n:Nat):List T:=(List.range n).map fun (k:Nat)=>T.int (lo+k)
noncomputable def bJ (a:Ex) (η:Env):Option (Md×List T):=(a η).bind fun x=>(int? x.2).bind fun j=>if -B62<=j/\j < B62 then some (.fr,rng 0 j.toNat) else none
noncomputable def eE (k:Nat):List T->List T
 | []=>[]
 | t :: r=>.tup [.int k,t] :: eE (k+1) r
@[simp] noncomputable def xG:Val->Option (Md×List T)
 | (m,.lst l)=>some (m,eE 0 l)
 | _=>none
@[simp] noncomputable def kJ (a:Ex) (η:Env):Option (Md×List T):=(a η).bind xG
noncomputable abbrev Tg:=T->Env->Option Env
@[simp] noncomputable def bw (i:Nat) (t:T) (η:Env):Option Env:=if i < η.length then some (η.set i (some (.pu t))) else none
@[simp] noncomputable def mq:List Tg->List T->Env->Option Env
 | [],[],η=>some η
 | g :: gs,t :: ts,η=>(g t η).bind fun η'=>mq gs ts η'
 | _,_,_=>none
@[simp] noncomputable def jC (gs:List Tg) (t:T) (η:Env):Option Env:=match t with
 | .tup l=>mq gs l η
 | _=>none
@[simp] noncomputable def okI (m:Md) (l:List T):Bool:=match m with
 | .bo=>d6 l
 | _=>true
noncomputable def g9 (tg:Tg) (cond:Option Ex) (elt:Ex) (η:Env):List T->Option (List Val)
 | []=>some []
 | t :: r=>(tg t η).bind fun η'=>(match cond with | none=>some true | some c=>(c η').bind fun x=>tru x.2).bind fun b =>
   if b then (elt η').bind fun v=>(g9 tg cond elt η r).map (v :: ·) else g9 tg cond elt η r
noncomputable def de (k:Nat) (tg:Tg) (it:Its) (cond:Option Ex) (elt:Ex) (η:Env):Option Val:=(it η).bind fun (m,l)=>if okI m l then
 (g9 tg cond elt (List.replicate k none++η) l).bind fun vs=>mkL (bM vs) (trees vs) else none
@[simp] noncomputable def gc (η:Env):Option Out:=some (.nx η)
@[simp] noncomputable def av (a b:Sx) (η:Env):Option Out:=(a η).bind fun o=>match o with
 | .nx η'=>b η'
 | o=>some o
@[simp] noncomputable def j9 (i:Nat) (e:Ex) (η:Env):Option Out:=(e η).bind fun v=>(cellOf v).bind fun c=>if i < η.length then some (.nx (η.set i (some c))) else none
@[simp] noncomputable def aK (i:Nat) (e:Ex) (η:Env):Option Out:=(e η).bind fun v=>match v.1 with
 | .bo=>none
 | _=>if i < η.length then some (.nx (η.set i (some (.pu v.2)))) else none
@[simp] noncomputable def cW (e:Ex) (η:Env):Option Out:=(e η).bind fun v=>some (.rt (match v.1 with | .bo=>.pu | m=>m,v.2) η)
@[simp] noncomputable def jz (i:Nat) (η:Env):Option Out:=match η[i]? with
 | some (some (.ow t))=>some (.rt (.fr,t) (η.set i none))
 | some (some (.pu t))=>some (.rt (up .pu t) η)
 | _=>none
@[simp] noncomputable def Cy (η:Env):Option Out:=some (.rt (.fr,.non) η)
@[simp] noncomputable def CB (η:Env):Option Out:=some (.bk η)
@[simp] noncomputable def Cv (η:Env):Option Out:=some (.ct η)
@[simp] noncomputable def sIf (c:Ex) (a b:Sx) (η:Env):Option Out:=(c η).bind fun x=>(tru x.2).bind fun t=>if t then a η else b η
noncomputable def forL (tg:Tg) (body:Sx):List T->Env->Option Out
 | [],η=>some (.nx η)
 | t :: r,η=>(tg t η).bind fun η1=>(body η1).bind fun o=>match o with
   | .nx η2=>forL tg body r η2
   | .ct η2=>forL tg body r η2
   | .bk η2=>some (.nx η2)
   | .rt v η2=>some (.rt v η2)
@[simp] noncomputable def okF:Md->Bool
 | .bo=>false
 | _=>true
@[simp] noncomputable def dW (tg:Tg) (it:Its) (body:Sx) (η:Env):Option Out:=(it η).bind fun (m,l)=>if okF m then forL tg body l η else none
@[simp] noncomputable def p7 (i:Nat) (η:Env):Option Out:=match η[i]? with
 | some (some (.ow t))=>some (.nx (η.set i (some (.pu t))))
 | some (some (.pu _))=>some (.nx η)
 | _=>none
inductive Stp where | fld (k:Nat) | ix (e:Ex)
inductive Ky where | fld (k:Nat) | at (t:T)
@[simp] noncomputable def keys:List Stp->Env->Option (List Ky)
 | [],_=>some []
 | .fld k :: r,η=>(keys r η).map (.fld k :: ·)
 | .ix e :: r,η=>(e η).bind fun x=>(keys r η).map (.at x.2 :: ·)
noncomputable def BU (fs:List (Nat×T)) (k:Nat):Option T:=fs.lookup k
noncomputable def B9 (fs:List (Nat×T)) (k:Nat) (v:T):List (Nat×T):=if fs.any (fun p=>p.1 == k) then fs.map (fun p=>if p.1 == k then (p.1,v) else p) else fs++[(k,v)]
@[simp] noncomputable def wA {α:Type} (f:T->Option (T×α)):List Ky->T->Option (T×α)
 | [],t=>f t
 | .fld k :: r,.obj c fs=>(BU fs k).bind fun x=>(wA f r x).map fun (y,a)=>(.obj c (B9 fs k y),a)
 | .at (.int i) :: r,.lst l=>(ixP l.length i).bind fun j=>(l[j]?).bind fun x=>(wA f r x).map fun (y,a)=>(.lst (l.set j y),a)
 | .at k :: r,.dct d l=>(dQ l k).bind fun x=>(wA f r x).map fun (y,a)=>(.dct d (dput l k y),a)
 | _,_=>none
noncomputable abbrev Xx:=Env->Option (Val×Env)
@[simp] noncomputable def xP (e:Ex) (η:Env):Option (Val×Env):=(e η).map fun v=>(v,η)
@[simp] noncomputable def j7 (i:Nat) (way:List Stp) (f:T->List Val->Option (T×Val)) (as:Exs) (η:Env):Option (Val×Env):=match η[i]? with
 | some (some (.ow t))=>(keys way η).bind fun ks=>(as η).bind fun xs=>(wA (fun x=>f x xs) ks t).map fun (t',v)=>(v,η.set i (some (.ow t')))
 | _=>none
@[simp] noncomputable def fit (v:Val):Option T:=match v.1 with
 | .fr=>some v.2
 | _=>none
noncomputable def bg:T->List Val->Option (T×Val)
 | .lst l,[v]=>(fit v).bind fun t=>if l.length < d5 then some (.lst (l++[t]),(.fr,.non)) else none
 | _,_=>none
@[simp] noncomputable def sX (x:Xx) (η:Env):Option Out:=(x η).map fun r=>.nx r.2
@[simp] noncomputable def Cr (i:Nat) (x:Xx) (η:Env):Option Out:=(x η).bind fun (v,η')=>(cellOf v).bind fun c=>if i < η'.length then some (.nx (η'.set i (some c))) else none
@[simp] noncomputable def CA (x:Xx) (η:Env):Option Out:=(x η).bind fun (v,η')=>some (.rt (match v.1 with | .bo=>.pu | m=>m,v.2) η')
@[simp] noncomputable def fn (np nn:Nat) (body:Sx):Fn:=fun ts=>if ts.length=np then
 (body (ts.map (fun t=>some (.pu t))++List.replicate (nn - np) none)).bind fun o=>match o with
   | .rt v _=>some v
   | .nx _=>some (.fr,.non)
   | _=>none else none
@[simp] theorem AL {m n:Md} {i j:Int}:bt (m,.int i) (n,.int j)=some (.fr,.int (i+j)):=rfl
theorem ft {m n:Md} {s t:Tx} (h:s.length+t.length<=16777216):bt (m,.str s) (n,.str t)=some (.fr,.str (s++t)):=if_pos h
theorem dZ {m n:Md} {i j:Int} (h:-18446744073709551616 < i/\i < 18446744073709551616):dY (m,.int i) (n,.int j)=some (.fr,.int (i * j)):=if_pos (.inl h)
theorem dn {m n:Md} {i j:Int} (h:0 < j/\j < 1073741824):dU (m,.int i) (n,.int j)=some (.fr,.int (i / j)):=if_pos h
theorem aM {m n:Md} {i j:Int} (h:0 < j):oMod (m,.int i) (n,.int j)=some (.fr,.int (i % j)):=if_pos h
theorem eB {l:List T} {t:T} (h:l.length < 16777216):bg (.lst l) [(.fr,t)]=some (.lst (l++[t]),(.fr,.non)):=by
 simp only [bg,fit,Option.bind_some]
 exact if_pos h
theorem hU {a:Ex} {η:Env} {m:Md} {j:Int} (e:a η=some (m,.int j)) (h:-4611686018427387904<=j/\j < 4611686018427387904):bJ a η=some (.fr,rng 0 j.toNat):=by
 simp only [bJ,e,Option.bind_some,int?]
 exact if_pos h
theorem dG {m:Md} {l:List T} (h:l.length<=16777216):mkL m l=some (if d6 l then .fr else m,.lst l):=if_pos h
theorem cx {tg:Tg} {body:Sx} {t:T} {r:List T} {η η1 η2:Env} (h1:tg t η=some η1) (h2:body η1=some (.nx η2)):forL tg body (t :: r) η=forL tg body r η2:=by
 simp [forL,h1,h2]
theorem strs_map {α:Type} (f:α->Tx):∀ l:List α,strs? (l.map fun x=>T.str (f x))=some (l.map f)
 | []=>rfl
 | a :: r=>by simp [strs?,strs_map f r]
theorem ints_map {α:Type} (f:α->Int):∀ l:List α,gD (l.map fun x=>T.int (f x))=some (l.map f)
 | []=>rfl
 | a :: r=>by simp [gD,ints_map f r]
theorem jB (n:Nat):rng 0 n=(List.range n).map fun (k:Nat)=>T.int (k:Int):=by
 unfold rng
 simp
theorem gf {α:Type} (f:α->T) (h:∀ x,imm (f x)=true):∀ l:List α,d6 (l.map f)=true
 | []=>rfl
 | a :: r=>by simp [h,gf f h r]
theorem kE {α:Type} {tg:Tg} {elt:Ex} {η:Env} (g:α->T) (f:α->Val):∀ l:List α,(∀ a∈l,∃ η',tg (g a) η=some η'/\elt η'=some (f a))->g9 tg none elt η (l.map g)=some (l.map f)
 | [],_=>rfl
 | a :: r,h=>by
   obtain ⟨η',h1,h2⟩:=h a List.mem_cons_self
   simp [g9,h1,h2,kE g f r fun b hb=>h b (List.mem_cons_of_mem _ hb)]
theorem iA {α:Type} {tg:Tg} {c elt:Ex} {η:Env} (g:α->T) (p:α->Bool) (f:α->Val):∀ l:List α,(∀ a∈l,∃ η' x,tg (g a) η=some η'/\c η'=some x/\tru x.2=some (p a)/\(p a=true->elt η'=some (f a))) →
   g9 tg (some c) elt η (l.map g)=some ((l.filter p).map f)
 | [],_=>rfl
 | a :: r,h=>by
   obtain ⟨η',x,h1,h2,h3,h4⟩:=h a List.mem_cons_self
   have ih:=iA (c:=c) g p f r fun b hb=>h b (List.mem_cons_of_mem _ hb)
   cases e:p a with
   | true=>simp [-tru,g9,h1,h2,h3,e,h4 e,ih]
   | false=>simp [-tru,g9,h1,h2,h3,e,ih]
theorem jS {α:Type} (f:α->T):∀ l:List α,bM (l.map fun a=>(Md.fr,f a))=.fr
 | []=>rfl
 | a :: r=>by simp [jS f r]
theorem lr {α:Type} (f:α->Val) (l:List α):trees (l.map f)=l.map fun a=>(f a).2:=by simp
theorem kR {α:Type} {k:Nat} {tg:Tg} {it:Its} {elt:Ex} {η:Env} {m:Md} (g:α->T) (f:α->T) (l:List α) (hi:it η=some (m,l.map g)) (hk:okI m (l.map g)=true) (hl:l.length<=16777216)
   (h:∀ a∈l,∃ η',tg (g a) (List.replicate k none++η)=some η'/\elt η'=some (.fr,f a)):de k tg it none elt η=some (.fr,.lst (l.map f)):=by
 simp only [de,hi,Option.bind_some]
 rw [if_pos hk,kE g (fun a=>(Md.fr,f a)) l h]
 simp only [Option.bind_some,jS,lr]
 rw [dG (by rw [List.length_map];exact hl)]
 simp
theorem iD {α:Type} {k:Nat} {tg:Tg} {it:Its} {c elt:Ex} {η:Env} {m:Md} (g:α->T) (p:α->Bool) (f:α->T) (l:List α) (hi:it η=some (m,l.map g)) (hk:okI m (l.map g)=true) (hl:l.length<=16777216)
   (h:∀ a∈l,∃ η' x,tg (g a) (List.replicate k none++η)=some η'/\c η'=some x/\tru x.2=some (p a)/\(p a=true->elt η'=some (.fr,f a))):de k tg it (some c) elt η=some (.fr,.lst ((l.filter p).map f)):=by
 simp only [de,hi,Option.bind_some]
 rw [if_pos hk,iA g p (fun a=>(Md.fr,f a)) l h]
 simp only [Option.bind_some,jS,lr]
 rw [dG (by rw [List.length_map];exact Nat.le_trans (List.length_filter_le _ _) hl)]
 simp
theorem jW {α:Type} {m n:Md} (f:α->T) (l:List α) (i:Int) (d:α) (h0:0<=i) (h1:i < l.length) (hi:imm (f (l.getD i.toNat d))=true):aS (m,.lst (l.map f)) (n,.int i)=some (.fr,f (l.getD i.toNat d)):=by
 have b2:i.toNat < l.length:=by omega
 simp only [List.getD_eq_getElem?_getD,List.getElem?_eq_getElem b2,Option.getD_some] at hi ⊢
 simp [ixP,h0,h1,b2,hi]
theorem jy {l:List Val} (h:l.length<=16777216):pO l=some (up (bM l) (.tup (trees l))):=if_pos h
end VS
end
section
namespace L2
open PySem PySem.Spec PyProof.Rows
noncomputable abbrev Key:=Sum Int Str
noncomputable def i8:Key->Value->Bool
 | .inl k,v=>Value.isInt k v
 | .inr x,v=>Value.isStrOf x v
noncomputable def B0 (w:World):Key->Int
 | .inl k=>hashInt k
 | .inr x=>hashStr w x
theorem bB:∀ {k:Key} {v:Value},i8 k v=true->(∃ i t,k=Sum.inl i/\v=Value.int i t)\/(∃ x t,k=Sum.inr x/\v=Value.str x t)
 | .inl i,v,h=>by
   obtain ⟨t,e⟩:=Value.isInt_shape (k:=i) (v:=v) h
   exact .inl ⟨i,t,rfl,e⟩
 | .inr x,v,h=>by
   obtain ⟨t,e⟩:=Value.isStrOf_shape (x:=x) (v:=v) h
   exact .inr ⟨x,t,rfl,e⟩
theorem p8 (i:Int) (t:Tok):i8 (.inl i) (.int i t)=true:=by simp [i8,Value.isInt]
theorem qy (x:Str) (t:Tok):i8 (.inr x) (.str x t)=true:=by simp [i8,Value.isStrOf]
theorem yH (a b:Int):decide ((Sum.inl a:Key)=Sum.inl b)=(a == b):=by
 by_cases e:a=b
 · subst e;simp
 · have h:¬ (Sum.inl a:Key)=Sum.inl b:=fun q=>e (Sum.inl.inj q)
   rw [decide_eq_false h]
   exact (beq_eq_false_iff_ne.mpr e).symm
theorem zi (a b:Str):decide ((Sum.inr a:Key)=Sum.inr b)=decide (a=b):=by
 by_cases e:a=b
 · subst e;simp
 · have h:¬ (Sum.inr a:Key)=Sum.inr b:=fun q=>e (Sum.inr.inj q)
   rw [decide_eq_false h,decide_eq_false e]
theorem zb (a:Int) (b:Str):decide ((Sum.inl a:Key)=Sum.inr b)=false:=decide_eq_false (fun q=>nomatch q)
theorem yz (a:Str) (b:Int):decide ((Sum.inr a:Key)=Sum.inl b)=false:=decide_eq_false (fun q=>nomatch q)
noncomputable def bx (prog:Program) (w:World):PySem.KeyKind prog w Key where
 is:=i8
 hash:=B0 w
 inj:=fun v a b ha hb=>by
   rcases bB ha with ⟨i,t,rfl,rfl⟩ | ⟨x,t,rfl,rfl⟩
   · rcases bB hb with ⟨j,u,rfl,e⟩ | ⟨y,u,rfl,e⟩
     · injection e with e1 _;rw [e1]
     · exact nomatch e
   · rcases bB hb with ⟨j,u,rfl,e⟩ | ⟨y,u,rfl,e⟩
     · exact nomatch e
     · injection e with e1 _;rw [e1]
 byValue:=fun k v h=>by
   rcases bB h with ⟨i,t,rfl,rfl⟩ | ⟨x,t,rfl,rfl⟩ <;> rfl
 pyHash:=fun hv h=>by
   rcases bB hv with ⟨i,t,rfl,rfl⟩ | ⟨x,t,rfl,rfl⟩
   · exact wpAny_pyHash_int h
   · exact wpAny_pyHash_str h
 eqBool:=fun hu hv h=>by
   rcases bB hu with ⟨i,t,rfl,rfl⟩ | ⟨x,t,rfl,rfl⟩
   · rcases bB hv with ⟨j,u,rfl,rfl⟩ | ⟨y,u,rfl,rfl⟩
     · rw [yH] at h;exact wpAny_eqBool_int h
     · rw [zb] at h;exact SeqAt.EqAt.int_str i t y u _ _ _ _ h
   · rcases bB hv with ⟨j,u,rfl,rfl⟩ | ⟨y,u,rfl,rfl⟩
     · rw [yz] at h;exact SeqAt.EqAt.str_int x t j u _ _ _ _ h
     · rw [zi] at h;exact wpAny_eqBool_str h
 «strs» := fun k x t v h=>by
   rcases bB h with ⟨i,u,rfl,e⟩ | ⟨y,u,rfl,e⟩
   · exact nomatch e
   · injection e with e1 _
     subst e1
     cases v <;> rfl
theorem nH (prog:Program) (w:World) (i:Int) (t:Tok):(bx prog w).is (.inl i) (.int i t)=true:=p8 i t
theorem mT (prog:Program) (w:World) (x:Str) (t:Tok):(bx prog w).is (.inr x) (.str x t)=true:=qy x t
end L2
namespace L2
open PySem PySem.Spec PyProof.Rows
inductive V where
 | non | bl (b:Bool) | int (i:Int) | str (x:Str) | byt (b:Array UInt8) | flt (b:UInt64) | ref (a:Addr) | ty (n:String)
 deriving DecidableEq
noncomputable def RelV:V->Value->Prop
 | .non,u=>u=Value.none
 | .bl b,u=>u=Value.bool b
 | .int i,u=>∃ t,u=Value.int i t
 | .str x,u=>∃ t,u=Value.str x t
 | .byt b,u=>∃ t,u=Value.bytes b t
 | .flt b,u=>∃ t,u=Value.float b t
 | .ref a,u=>u=Value.ref a
 | .ty n,u=>u=Value.type n
noncomputable abbrev aP:List V->List Value->Prop:=Paired RelV
theorem aP.length {xs:List V} {us:List Value} (r:aP xs us):xs.length=us.length:=Paired.length r
theorem aP.get:∀ {xs:List V} {us:List Value} {i:Nat} {x:V},aP xs us->xs[i]?=some x->∃ u,us[i]?=some u/\RelV x u
 | _,_,_,_,.nil,e=>by simp at e
 | _,_,0,_,.cons r _,e=>by simp at e;subst e;exact ⟨_,rfl,r⟩
 | _,_,i+1,x,.cons _ t,e=>by
   obtain ⟨u,h1,h2⟩:=aP.get (i:=i) (x:=x) t (by simpa using e)
   exact ⟨u,by simpa using h1,h2⟩
theorem aP.set {x:V} {u:Value} (r:RelV x u):∀ {xs:List V} {us:List Value} (i:Nat),aP xs us->aP (xs.set i x) (us.set i u)
 | _,_,_,.nil=>.nil
 | _,_,0,.cons _ t=>.cons r t
 | _,_,i+1,.cons q t=>.cons q (aP.set r i t)
theorem aP.append:∀ {xs ys:List V} {us ws:List Value},aP xs us->aP ys ws->aP (xs++ys) (us++ws)
 | _,_,_,_,.nil,s=>s
 | _,_,_,_,.cons r t,s=>.cons r (aP.append t s)
theorem aP.take:∀ {xs:List V} {us:List Value} (n:Nat),aP xs us->aP (xs.take n) (us.take n)
 | _,_,0,_=>.nil
 | _,_,_+1,.nil=>.nil
 | _,_,n+1,.cons r t=>.cons r (aP.take n t)
theorem aP.drop:∀ {xs:List V} {us:List Value} (n:Nat),aP xs us->aP (xs.drop n) (us.drop n)
 | _,_,0,r=>r
 | _,_,_+1,.nil=>.nil
 | _,_,n+1,.cons _ t=>aP.drop n t
theorem aP.none_of:∀ {xs:List V} {us:List Value} {i:Nat},aP xs us->xs[i]?=none->us[i]?=none:=fun {xs us i} r e=>by
 have h1:=r.length
 have h2:xs.length<=i:=List.getElem?_eq_none_iff.mp e
 exact List.getElem?_eq_none_iff.mpr (by lia)
noncomputable def gH:Option V->Option Value->Prop
 | some v,some u=>RelV v u
 | none,none=>True
 | _,_=>False
noncomputable def KV {κ:Type}:List (κ×V)->List (κ×Value)->Prop:=Paired fun (p:κ×V) (q:κ×Value)=>p.1=q.1/\RelV p.2 q.2
noncomputable def kV:Key->V
 | .inl i=>.int i
 | .inr x=>.str x
inductive HO where
 | lst (xs:List V)
 | tup (xs:List V)
 | dK (kvs:List (Key×V)) | dT (kvs:List (List Key×V))
 | set (S:Int->Bool) (n:Nat)
 | ins (C dx:Addr) (fs:List (Str×V))
 | own (x:Addr)
 | xd (fs:List (Str×V))
 | met (f x:Addr)
 | rng (lo hi:Int)
 | frz (o:Obj) (u:HO)
 | tbl (ps:Array Value)
 | ext (φ:Heap->Prop)
noncomputable abbrev Hp:=Addr->Option HO
noncomputable def upd (H:Hp) (a:Addr) (o:HO):Hp:=fun b=>if b=a then some o else H b
theorem aE {H:Hp} {a:Addr} {o:HO}:upd H a o a=some o:=by unfold upd;rw [if_pos rfl]
theorem au {H:Hp} {a b:Addr} {o:HO} (h:b ≠ a):upd H a o b=H b:=by unfold upd;rw [if_neg h]
theorem xa {H:Hp} {a:Addr} {o u:HO}:upd (upd H a o) a u=upd H a u:=by
 funext b;unfold upd;split <;> rfl
theorem AC {H:Hp} {a b:Addr} {o u:HO} (h:H a=some o) (h':H b=some u) (d:o ≠ u):a ≠ b:=by
 intro e;subst e;rw [h] at h';exact d (Option.some.inj h')
theorem bD {H:Hp} {a b:Addr} {o:HO} (h:H a=some o) (h':H b=none):a ≠ b:=by
 intro e;subst e;rw [h] at h';cases h'
noncomputable def NoD (h:Heap) (a:Addr):Prop:=∀ o,h.get? a=some o->o.dict=none
theorem NoD.new (h:Heap) (its:Array Value):NoD (h.push { cls:=.type "tuple",data:=.seq its }) h.objs.size:=fun o e=>by
 rw [Heap.get?_push_size _ rfl] at e
 cases e
 rfl
theorem NoD.of {h:Heap} {a:Addr} {o:Obj} (e:h.get? a=some o) (d:o.dict=none):NoD h a:=fun o' e'=>by
 rw [e] at e'
 cases e'
 exact d
section
variable (P:Program) (w:World)
noncomputable def aW (H:Hp) (h:Heap) (a:Addr):HO->Prop
 | .lst xs=>xs.length<=sizeLine/\∃ (its:List Value) (n:Nat),aP xs its/\h.get? a=some { cls:=.type "list",data:=.seq its.toArray n }
 | .tup xs=>xs.length<=sizeLine/\∃ its:List Value,aP xs its/\NoD h a/\IsTup h a its.toArray
 | .dK kvs=>kvs.length<=sizeLine/\(a == sysModules)=false/\∃ vs,KV kvs vs/\h.DictOf (bx P w) a vs
 | .dT kvs=>kvs.length<=sizeLine/\(a == sysModules)=false/\∃ xs:List (List Key×Addr×Value),
     Paired (fun (p:List Key×V) (q:List Key×Addr×Value)=>p.1=q.1/\H q.2.1=some (.tup (p.1.map kV))/\RelV p.2 q.2.2) kvs xs ∧
     ∃ o es ep,h.get? a=some o/\o.ExactDict/\o.data=.dict es ep/\es.toList=xs.map (entryOfKey (tupleKind (bx P w)))/\(xs.map (·.1)).Nodup
 | .set S n=>h.SetOf (intKind P w) a S n
 | .ins C dx fs=>H dx=some (.own a)/\fs.length<=1000/\dx ≠ a/\h.get? a=some (PySem.W.instObj C dx) ∧
     ∃ mA,h.Ns1 dx mA/\(∀ f,gH (fs.lookup f) (mA f))/\PySem.Within mA (fs.map (·.1))
 | .own _=>∃ o,h.get? a=some o
 | .xd fs=>∃ mA,h.Ns1 a mA/\∀ f,gH (fs.lookup f) (mA f)
 | .rng lo hi=>∃ t u v,h.get? a=some { cls:=.type "range",data:=.fields #[.int lo t,.int hi u,.int 1 v] }
 | .frz o u=>h.get? a=some o/\aW H h a u
 | .tbl ps=>h.get? a=some { cls:=.none,data:=.fields ps }
 | .met f x=>h.get? a=some (PySem.W.methodObj (.ref f) (.ref x))
 | .ext φ=>φ h/\(∃ o,h.get? a=some o)/\∀ h1 h2:Heap,φ h1->(∀ o,h1.get? a=some o->h2.get? a=some o)->φ h2
noncomputable def HOk (H:Hp) (h:Heap):Prop:=∀ a o,H a=some o->aW P w H h a o
end
section
variable {P:Program} {w:World} {H H':Hp} {h h':Heap} {a:Addr} {o:HO}
theorem aW.lt (x:aW P w H h a o):a < h.objs.size:=by
 cases o with
 | lst xs=>obtain ⟨_,_,_,_,e⟩:=x;exact Heap.lt_size e
 | tup xs=>obtain ⟨_,_,_,_,p⟩:=x;exact p.lt
 | dK kvs=>obtain ⟨_,_,_,_,o,_,_,e,_⟩:=x;exact Heap.lt_size e
 | dT kvs=>obtain ⟨_,_,_,_,o,_,_,e,_⟩:=x;exact Heap.lt_size e
 | set S n=>obtain ⟨o,_,_,_,e,_⟩:=x;exact Heap.lt_size e
 | ins C dx fs=>obtain ⟨_,_,_,e,_⟩:=x;exact Heap.lt_size e
 | own y=>obtain ⟨_,e⟩:=x;exact Heap.lt_size e
 | xd fs=>obtain ⟨_,⟨_,_,_,e,_⟩,_⟩:=x;exact Heap.lt_size e
 | rng lo hi=>obtain ⟨_,_,_,e⟩:=x;exact Heap.lt_size e
 | frz ob u=>obtain ⟨e,_⟩:=x;exact Heap.lt_size e
 | tbl ps=>exact Heap.lt_size (show h.get? a=some _ from x)
 | met f y=>exact Heap.lt_size (show h.get? a=some _ from x)
 | ext φ=>obtain ⟨_,⟨_,e⟩,_⟩:=x;exact Heap.lt_size e
theorem Paired.mapP {α β:Type} {F G:α->β->Prop}:∀ {l₁:List α} {l₂:List β},Paired F l₁ l₂->(∀ a b,F a b->G a b)->Paired G l₁ l₂
 | _,_,.nil,_=>.nil
 | _,_,.cons r t,f=>.cons (f _ _ r) (Paired.mapP t f)
theorem aW.stay (x:aW P w H h a o) (k:∀ b u,(b=a\/H b=some (.own a))->h.get? b=some u->h'.get? b=some u)
   (ho:∀ b,H b=some (.own a)->H' b=some (.own a)) (ht:∀ b xs,H b=some (.tup xs)->H' b=some (.tup xs)):aW P w H' h' a o:=by
 induction o with
 | lst xs=>obtain ⟨z,its,n,r,e⟩:=x;exact ⟨z,its,n,r,k _ _ (.inl rfl) e⟩
 | tup xs=>obtain ⟨z,its,r,nd,ob,e,c⟩:=x;exact ⟨z,its,r,NoD.of (k _ _ (.inl rfl) e) (nd _ e),ob,k _ _ (.inl rfl) e,c⟩
 | dK kvs=>obtain ⟨z,y,vs,r,ob,es,ep,e,c⟩:=x;exact ⟨z,y,vs,r,ob,es,ep,k _ _ (.inl rfl) e,c⟩
 | dT kvs =>
   obtain ⟨z,y,xs,r,ob,es,ep,e,c⟩:=x
   exact ⟨z,y,xs,Paired.mapP r fun p q z=>⟨z.1,ht _ _ z.2.1,z.2.2⟩,ob,es,ep,k _ _ (.inl rfl) e,c⟩
 | set S n=>obtain ⟨ob,es,ep,t,e,c⟩:=x;exact ⟨ob,es,ep,t,k _ _ (.inl rfl) e,c⟩
 | ins C dx fs =>
   obtain ⟨d,z,ne,e,mA,⟨od,es,ep,e2,c⟩,r⟩:=x
   exact ⟨ho _ d,z,ne,k _ _ (.inl rfl) e,mA,⟨od,es,ep,k _ _ (.inr d) e2,c⟩,r⟩
 | own y=>obtain ⟨ob,e⟩:=x;exact ⟨ob,k _ _ (.inl rfl) e⟩
 | xd fs=>obtain ⟨mA,⟨od,es,ep,e,c⟩,r⟩:=x;exact ⟨mA,⟨od,es,ep,k _ _ (.inl rfl) e,c⟩,r⟩
 | rng lo hi=>obtain ⟨t,u,v,e⟩:=x;exact ⟨t,u,v,k _ _ (.inl rfl) e⟩
 | frz ob u ih=>obtain ⟨e,q⟩:=x;exact ⟨k _ _ (.inl rfl) e,ih q⟩
 | tbl ps =>
   have e:h.get? a=some { cls:=.none,data:=.fields ps }:=x
   show h'.get? a=some { cls:=.none,data:=.fields ps }
   exact k a _ (.inl rfl) e
 | met f y =>
   have e:h.get? a=some (PySem.W.methodObj (.ref f) (.ref y)):=x
   show h'.get? a=some (PySem.W.methodObj (.ref f) (.ref y))
   exact k a _ (.inl rfl) e
 | ext φ=>obtain ⟨p,⟨o,e⟩,st⟩:=x;exact ⟨st _ _ p fun o q=>k _ _ (.inl rfl) q,⟨o,k _ _ (.inl rfl) e⟩,st⟩
theorem HOk.lt (x:HOk P w H h) (e:H a=some o):a < h.objs.size:=(x a o e).lt
theorem HOk.fresh (x:HOk P w H h) (e:h.objs.size<=a):H a=none:=by
 cases q:H a with
 | none=>rfl
 | some u=>exact absurd (Nat.lt_of_lt_of_le (x.lt q) e) (Nat.lt_irrefl _)
theorem HOk.kept (x:HOk P w H h) (k:∀ b u,h.get? b=some u->h'.get? b=some u):HOk P w H h':=fun a o e =>
 (x a o e).stay (fun b u _ q=>k b u q) (fun _ q=>q) fun _ _ q=>q
theorem HOk.laid (x:HOk P w H h) (k:∀ b u,h.get? b=some u->h'.get? b=some u) (hp:h.objs.size<=a) (new:aW P w (upd H a o) h' a o):HOk P w (upd H a o) h':=fun b u e=>by
 have hn:=x.fresh hp
 by_cases hb:b=a
 · subst hb;rw [aE] at e;cases e;exact new
 · rw [au hb] at e
   exact (x b u e).stay (fun c v _ q=>k c v q) (fun c q=>by rw [au (bD q hn)];exact q) fun c xs q=>by rw [au (bD q hn)];exact q
end
noncomputable def Rd (H:Hp) (a:Addr) (u:HO):Prop:=H a=some u\/∃ o,H a=some (.frz o u)
theorem Rd.of {H:Hp} {a:Addr} {u:HO} (h:H a=some u):Rd H a u:=.inl h
theorem Rd.ok {P:Program} {w:World} {H:Hp} {h:Heap} {a:Addr} {u:HO} (r:Rd H a u) (x:HOk P w H h):aW P w H h a u:=by
 rcases r with r | ⟨o,r⟩
 · exact x a u r
 · obtain ⟨_,q⟩:=x a _ r
   exact q
noncomputable def Mut:Option HO->Prop
 | some (.lst _)=>True
 | some (.dK _)=>True
 | some (.dT _)=>True
 | some (.set _ _)=>True
 | some (.ins _ _ _)=>True
 | some (.ext _)=>True
 | _=>False
section
variable {P:Program} {w:World} {H:Hp} {h h':Heap} {x e:Addr} {o':HO}
theorem HOk.write (ok:HOk P w H h) (mu:Mut (H x)) (he:e=x\/H e=some (.own x)) (k:∀ b u,b ≠ e->h.get? b=some u->h'.get? b=some u) (heo:∃ u,h'.get? e=some u)
   (new:aW P w (upd H x o') h' x o'):HOk P w (upd H x o') h':=fun b u q=>by
 have nown:∀ c y,H c=some (.own y)->c ≠ x:=fun c y r z=>by subst z;rw [r] at mu;exact mu
 have ntup:∀ c xs,H c=some (.tup xs)->c ≠ x:=fun c xs r z=>by subst z;rw [r] at mu;exact mu
 by_cases hb:b=x
 · subst hb;rw [aE] at q;cases q;exact new
 · rw [au hb] at q
   by_cases hbe:b=e
   · have q':H b=some (.own x):=by
       rcases he with z | z
       · exact absurd (hbe.trans z) hb
       · rw [hbe];exact z
     rw [q] at q';cases q'
     obtain ⟨v,hv⟩:=heo
     exact ⟨v,by rw [hbe];exact hv⟩
   · refine (ok b u q).stay (fun c v hc r=>k c v ?_ r) (fun c r=>by rw [au (nown c b r)];exact r) fun c xs r=>by rw [au (ntup c xs r)];exact r
     rcases hc with rfl | hc
     · exact hbe
     · rintro rfl
       rcases he with z | z
       · exact nown c b hc z
       · rw [hc] at z;cases z;exact hb rfl
end
structure Un (fs ex:List Addr) (H H':Hp) (h h':Heap):Prop where
 keep:∀ b o,h.get? b=some o->H b=none->b ∉ fs->b ∉ ex->h'.get? b=some o
 slot:∀ b o,h.get? b=some o->H b=none->b∈fs->b ∉ ex->∃ sl,h'.get? b=some { o with slots:=sl }
 free:∀ b o,h.get? b=some o->H b=none->b ∉ ex->H' b=none
 there:∀ b o,h.get? b=some o->b ∉ ex->∃ o',h'.get? b=some o'
 tups:∀ b xs,H b=some (.tup xs)->H' b=some (.tup xs)
 frzs:∀ b o u,H b=some (.frz o u)->H' b=some (.frz o u)
 tbls:∀ b ps,H b=some (.tbl ps)->∃ more,H' b=some (.tbl (ps++more))
section
variable {fs fs' ex ex':List Addr} {H H1 H2:Hp} {h h1 h2 h':Heap} {a x e:Addr} {o:HO}
theorem Un.any (u:Un fs ex H H1 h h1) {b:Addr} {ob:Obj} (q:h.get? b=some ob) (n:H b=none) (hx:b ∉ ex):∃ sl,h1.get? b=some { ob with slots:=sl }:=by
 by_cases hb:b∈fs
 · exact u.slot b ob q n hb hx
 · exact ⟨ob.slots,u.keep b ob q n hb hx⟩
theorem Un.trans (a:Un fs ex H H1 h h1) (b:Un fs ex H1 H2 h1 h2):Un fs ex H H2 h h2 where
 keep:=fun c ob q n hc hx=>b.keep c ob (a.keep c ob q n hc hx) (a.free c ob q n hx) hc hx
 slot:=fun c ob q n hc hx=>by
   obtain ⟨sl,e1⟩:=a.slot c ob q n hc hx
   obtain ⟨sl',e2⟩:=b.slot c _ e1 (a.free c ob q n hx) hc hx
   exact ⟨sl',e2⟩
 free:=fun c ob q n hx=>by
   obtain ⟨o',e1⟩:=a.there c ob q hx
   exact b.free c o' e1 (a.free c ob q n hx) hx
 there:=fun c ob q hx=>by
   obtain ⟨o',e1⟩:=a.there c ob q hx
   exact b.there c o' e1 hx
 tups:=fun c xs q=>b.tups c xs (a.tups c xs q)
 frzs:=fun c ob xs q=>b.frzs c ob xs (a.frzs c ob xs q)
 tbls:=fun c ps q=>by
   obtain ⟨m1,e1⟩:=a.tbls c ps q
   obtain ⟨m2,e2⟩:=b.tbls c _ e1
   exact ⟨m1++m2,by rw [e2,Array.append_assoc]⟩
theorem Un.kept (k:∀ b u,h.get? b=some u->h'.get? b=some u):Un fs ex H H h h' :=
 ⟨fun b ob q _ _ _=>k b ob q,fun b ob q _ _ _=>⟨ob.slots,k b ob q⟩,fun _ _ _ n _=>n,fun b ob q _=>⟨ob,k b ob q⟩,fun _ _ q=>q,fun _ _ _ q=>q,fun _ ps q=>⟨#[],by rw [q];simp⟩⟩
theorem Un.refl:Un fs ex H H h h:=Un.kept fun _ _ q=>q
theorem Un.laid (k:∀ b u,h.get? b=some u->h'.get? b=some u) (hp:h.objs.size<=a) (hn:H a=none):Un fs ex H (upd H a o) h h' where
 keep:=fun b u q _ _ _=>k b u q
 slot:=fun b u q _ _ _=>⟨u.slots,k b u q⟩
 free:=fun b u q n _=>by rw [au (Nat.ne_of_lt (Nat.lt_of_lt_of_le (Heap.lt_size q) hp))];exact n
 there:=fun b u q _=>⟨u,k b u q⟩
 tups:=fun b xs q=>by rw [au (bD q hn)];exact q
 frzs:=fun b u xs q=>by rw [au (bD q hn)];exact q
 tbls:=fun b ps q=>⟨#[],by rw [au (bD q hn),q];simp⟩
theorem Un.write (mu:Mut (H x)) (he:e=x\/H e=some (.own x)) (k:∀ b u,b ≠ e->h.get? b=some u->h'.get? b=some u) (heo:∃ u,h'.get? e=some u):Un fs ex H (upd H x o) h h':=by
 have hx:∀ b,H b=none->b ≠ x:=fun b n z=>by subst z;rw [n] at mu;exact mu
 have hb:∀ b,H b=none->b ≠ e:=fun b n z=>by
   subst z
   rcases he with r | r
   · exact hx b n r
   · rw [n] at r;cases r
 have hm:∀ b u,H b=some u->¬ Mut (some u)->b ≠ x:=fun b u q nm z=>by subst z;rw [q] at mu;exact nm mu
 refine ⟨fun b u q n _ _=>k b u (hb b n) q,fun b u q n _ _=>⟨u.slots,k b u (hb b n) q⟩,fun b u q n _=>by rw [au (hx b n)];exact n,fun b u q _=>?_,
   fun b xs q=>by rw [au (hm b _ q fun z=>z)];exact q,fun b u xs q=>by rw [au (hm b _ q fun z=>z)];exact q,fun b ps q=>⟨#[],by rw [au (hm b _ q fun z=>z),q];simp⟩⟩
 by_cases hbe:b=e
 · subst hbe;exact heo
 · exact ⟨u,k b u hbe q⟩
theorem Un.mono (u:Un fs ex H H1 h h1) (hs:∀ b∈fs,b∈fs') (hx:∀ b∈ex,b∈ex'):Un fs' ex' H H1 h h1 :=
 ⟨fun b ob q n hb he=>u.keep b ob q n (fun z=>hb (hs b z)) fun z=>he (hx b z),fun _ _ q n _ he=>u.any q n fun z=>he (hx _ z),fun b ob q n he=>u.free b ob q n fun z=>he (hx b z),fun b ob q he=>u.there b ob q fun z=>he (hx b z),u.tups,u.frzs,u.tbls⟩
end
noncomputable def trk (h:Heap) (H:Hp):List Addr:=(List.range h.objs.size).filter fun a=>(H a).isSome
noncomputable def lS (h:Heap) (H:Hp):Heap:=PySem.W.hideAll h (trk h H)
theorem qW (h:Heap) (H:Hp):(lS h H).objs.size=h.objs.size:=PySem.W.hideAll_size _ _
theorem tZ {h:Heap} {H:Hp} {b:Addr} {o:Obj} (e:h.get? b=some o) (n:H b=none):(lS h H).get? b=some o :=
 PySem.W.hideAll_get _ e fun hm=>by
   have q:(H b).isSome=true:=(List.mem_filter.mp hm).2
   rw [n] at q;simp at q
theorem wJ {h:Heap} {H:Hp} {b:Addr} {o:Obj} (e:(lS h H).get? b=some o):h.get? b=some o/\H b=none:=by
 have e':h.get? b=some o:=PySem.W.of_hideAll (trk h H) e
 refine ⟨e',?_⟩
 cases q:H b with
 | none=>rfl
 | some x =>
   have hm:b∈trk h H:=List.mem_filter.mpr ⟨List.mem_range.mpr (Heap.lt_size e'),by simp [q]⟩
   have z:(lS h H).get? b=none:=PySem.W.hideAll_none (trk h H) hm
   rw [z] at e;cases e
noncomputable def v5 (g h:Heap) (L:Addr):List (Addr×Obj):=(List.range h.objs.size).filterMap fun a=>if a=L\/(g.get? a).isSome=true then none else (h.get? a).map fun o=>(a,o)
noncomputable def rest (g h:Heap) (L d:Addr):List (Addr×Obj):=(v5 g h L).filter fun p=>decide (p.1 ≠ d)
end L2
namespace L2
open PySem PySem.Spec PyProof.Rows
structure Mod (K:PySem.W.Frag) (mg:Str->Option Value) (base:Heap):Prop where
 kin:K.In base
 glob:base.Ns mainGlobals mg
 blt:∃ mb,base.Ns builtinsNs mb/\∀ x:Str,x ≠ "__name__" → mb x=bootBuiltins x
 nolimit:base.NoLimit
structure Cx where
 prog:Program
 w:World
 K:PySem.W.Frag
 mg:Str->Option Value
 base:Heap
 A:Around
 N:List Str
 s₀:Shared
 H₀:Hp
 env:Env
 outer:List Env
 stack:List Env
 ex:List Addr
 fn:Str->Bool
 calm:Bool
 pn:List (Addr×Obj)
 xe:Value->Shared->Prop
noncomputable def frs (l:List Env):List Addr:=l.filterMap (·.frame)
noncomputable abbrev Cx.fs (X:Cx):List Addr:=frs X.outer
noncomputable def Vis (sc:Scope) (x:Str):Prop:=sc.names.lookup x=some .local\/sc.names.lookup x=some .cell\/sc.names.lookup x=some .free
noncomputable def Loc (sc:Scope) (x:Str):Prop:=sc.names.lookup x=some .local\/sc.names.lookup x=some .cell
noncomputable def Look (env:Env) (h:Heap) (m:Str->Option Value) (x:Str) (u:Value):Prop :=
 (env.kindOf x=some .local/\m x=some u)\/((env.kindOf x=some .cell\/env.kindOf x=some .free)/\∃ c,env.cells.lookup x=some c/\h.IsCell c (some u))
structure Cx.Ok (X:Cx):Prop where
 mod:Mod X.K X.mg X.base
 kind:X.env.scope.kind=.function
 glob:X.env.globals=mainGlobals
 blt:X.env.builtins=builtinsNs
 above:X.s₀.heap.objs.size<=X.env.locals
 inj:∀ x y c,X.env.cells.lookup x=some c->X.env.cells.lookup y=some c->x=y
 has:∀ x,(X.env.kindOf x=some .cell\/X.env.kindOf x=some .free)->∃ c,X.env.cells.lookup x=some c
 cab:∀ x c,X.fn x=true->X.env.cells.lookup x=some c->X.s₀.heap.objs.size<=c
 hd:X.calm=true->X.A.handled=none
 frames:X.A.frames=some X.stack
 stk:X.stack=X.outer\/(X.stack=X.env :: X.outer/\X.env.frame=some X.env.locals)
 exf:∀ b∈X.ex,b ≠ X.env.locals/\∀ x c,X.env.cells.lookup x=some c->c ≠ b
 bs:∀ b o,X.base.get? b=some o->X.s₀.heap.get? b=some o/\X.H₀ b=none
 bsz:X.base.objs.size<=X.s₀.heap.objs.size
 noex:∀ b o,X.base.get? b=some o->b ∉ X.ex
 exfs:∀ b∈X.ex,b ∉ X.fs
 funs:X.s₀.heap.FunFrames X.base X.outer
 frf:∀ b∈X.fs,X.H₀ b=none
structure Inv (X:Cx) (pins:List (Addr×Obj)) (σ:List (Option V)) (H:Hp) (s:Shared):Prop where
 ok:X.Ok
 os:s.os=X.s₀.os
 bare:AllBare s.gens
 base:Un X.fs X.ex X.H₀ H X.s₀.heap s.heap
 loc:∃ m,s.heap.Ns X.env.locals m/\∀ (i:Nat) (x:Str) (v:V),X.N[i]?=some x->σ[i]?=some (some v)->Vis X.env.scope x->∃ u,RelV v u/\Look X.env s.heap m x u
 cell:∀ x c,X.env.cells.lookup x=some c->∃ v,s.heap.IsCell c v
 free:H X.env.locals=none
 freeC:∀ x c,X.env.cells.lookup x=some c->H c=none
 pin:∀ p∈X.pn++pins,s.heap.get? p.1=some p.2/\H p.1=none/\p.1 ≠ X.env.locals/\p.1 ∉ X.fs/\∀ v,p.2.data ≠ .cell v
 hok:HOk X.prog X.w H s.heap
 len:σ.length=X.N.length
section
variable {X:Cx} {pins:List (Addr×Obj)} {σ:List (Option V)} {H H':Hp} {s:Shared} {h':Heap}
theorem Cx.Ok.nofr (ok:X.Ok) {b:Addr} {o:Obj} (e:X.base.get? b=some o):b ∉ X.fs:=fun hb=>by
 have:=(ok.funs.mem hb).1
 rw [e] at this;cases this
theorem Inv.bs (I:Inv X pins σ H s):∀ b o,X.base.get? b=some o->s.heap.get? b=some o/\H b=none:=fun b o e =>
 ⟨I.base.keep b o (I.ok.bs b o e).1 (I.ok.bs b o e).2 (I.ok.nofr e) (I.ok.noex b o e),I.base.free b o (I.ok.bs b o e).1 (I.ok.bs b o e).2 (I.ok.noex b o e)⟩
theorem Inv.bk (I:Inv X pins σ H s):∀ b o,X.base.get? b=some o->s.heap.get? b=some o:=fun b o e=>(I.bs b o e).1
theorem Inv.mod (I:Inv X pins σ H s):Mod X.K X.mg X.base:=I.ok.mod
theorem Inv.kIn (I:Inv X pins σ H s):X.K.In s.heap:=I.ok.mod.kin.keeps I.bk
theorem Inv.nolimit (I:Inv X pins σ H s):s.heap.NoLimit:=I.ok.mod.nolimit.keeps I.bk
theorem Inv.fr (I:Inv X pins σ H s):∃ m,Fr X.base X.env.locals s.heap m :=
 let ⟨m,hn,_⟩:=I.loc
 ⟨m,hn,I.bk,Nat.le_trans I.ok.bsz I.ok.above⟩
theorem Inv.lt (I:Inv X pins σ H s):X.env.locals < s.heap.objs.size:=let ⟨_,hn,_⟩:=I.loc;hn.lt
theorem Inv.sz (I:Inv X pins σ H s):X.s₀.heap.objs.size<=s.heap.objs.size:=Nat.le_trans I.ok.above (Nat.le_of_lt I.lt)
theorem Inv.nofs (I:Inv X pins σ H s) {a:Addr} (h:s.heap.objs.size<=a):a ∉ X.fs:=fun hb=>by
 obtain ⟨_,o,ho,_⟩:=I.ok.funs.mem hb
 exact absurd (Nat.lt_of_lt_of_le (Heap.lt_size ho) (Nat.le_trans I.sz h)) (Nat.lt_irrefl _)
theorem Inv.cne (I:Inv X pins σ H s):∀ x c,X.env.cells.lookup x=some c->c ≠ X.env.locals:=fun x c e z=>by
 obtain ⟨v,o,ho,hd⟩:=I.cell x c e
 obtain ⟨m,⟨o',es,ep,ho',hd',_⟩,_⟩:=I.loc
 rw [z,ho'] at ho;cases ho;rw [hd'] at hd;cases hd
theorem Inv.funs (I:Inv X pins σ H s):s.heap.FunFrames X.base X.outer:=by
 have all:∀ (l:List Env),(∀ b∈frs l,b∈X.fs)->X.s₀.heap.FunFrames X.base l->s.heap.FunFrames X.base l:=by
   intro l
   induction l with
   | nil=>intro _ _;trivial
   | cons env r ih =>
     intro hs hl
     obtain ⟨hk,⟨L,o,hf,hn,ho,hd⟩,hr⟩:=hl
     have hL:L∈X.fs:=hs L (by unfold frs;rw [List.filterMap_cons,hf];exact List.mem_cons_self)
     obtain ⟨sl,e⟩:=I.base.slot L o ho (I.ok.frf L hL) hL fun z=>I.ok.exfs L z hL
     exact ⟨hk,⟨L,_,hf,hn,e,hd⟩,ih (fun b hb=>hs b (by unfold frs;rw [List.filterMap_cons,hf];exact List.mem_cons_of_mem _ hb)) hr⟩
 exact all X.outer (fun _ hb=>hb) I.ok.funs
theorem Inv.stack (I:Inv X pins σ H s):s.heap.FunFrames X.base X.stack:=by
 rcases I.ok.stk with e | ⟨e,hf⟩
 · rw [e];exact I.funs
 · rw [e]
   obtain ⟨m,hn,_⟩:=I.loc
   refine .cons (by rw [I.ok.kind];decide) hf hn ?_ I.funs
   exact Heap.get?_none_of_le (Nat.le_trans I.ok.bsz I.ok.above)
theorem Inv.stkSub (I:Inv X pins σ H s):∀ b∈frs X.stack,b∈X.env.locals :: X.fs:=fun b hb=>by
 rcases I.ok.stk with e | ⟨e,hf⟩
 · rw [e] at hb;exact List.mem_cons_of_mem _ hb
 · rw [e] at hb
   unfold frs at hb
   rw [List.filterMap_cons,hf] at hb
   exact hb
theorem Inv.stkFree (I:Inv X pins σ H s):∀ b∈frs X.stack,H b=none:=fun b hb=>by
 rcases List.mem_cons.mp (I.stkSub b hb) with e | hb
 · rw [e];exact I.free
 · obtain ⟨_,o,ho,_⟩:=I.ok.funs.mem hb
   exact I.base.free b o ho (I.ok.frf b hb) fun z=>I.ok.exfs b z hb
theorem Inv.step {g':Array GenState} {t':Nat} {d':Drawn} {ch:List Addr} (I:Inv X pins σ H s)
   (hch:∀ b∈ch,(b∈X.ex\/X.s₀.heap.objs.size<=b)/\b ≠ X.env.locals/\(∀ x c,X.env.cells.lookup x=some c->c ≠ b)/\∀ p∈X.pn++pins,p.1 ≠ b)
   (keep:∀ b o,b ≠ X.env.locals->b ∉ X.fs->b ∉ ch->s.heap.get? b=some o->H b=none->h'.get? b=some o)
   (slot:∀ b o,b ≠ X.env.locals->b∈X.fs->b ∉ ch->s.heap.get? b=some o->H b=none->∃ sl,h'.get? b=some { o with slots:=sl }) (free:∀ b o,b ∉ ch->s.heap.get? b=some o->H b=none->H' b=none)
   (there:∀ b o,b ∉ ch->s.heap.get? b=some o->∃ o',h'.get? b=some o')
   (tups:∀ b xs,H b=some (.tup xs)->H' b=some (.tup xs)) (frzs:∀ b o u,H b=some (.frz o u)->H' b=some (.frz o u)) (tbls:∀ b ps,H b=some (.tbl ps)->∃ more,H' b=some (.tbl (ps++more)))
   (ns:∀ m,s.heap.Ns X.env.locals m->h'.Ns X.env.locals m) (hok:HOk X.prog X.w H' h') (hg:AllBare g') :
   Inv X pins σ H' { s with heap:=h',gens:=g',drawn:=d',toks:=t' }:=by
 have neL:∀ b o,X.s₀.heap.get? b=some o->b ≠ X.env.locals:=fun b o e=>Nat.ne_of_lt (Nat.lt_of_lt_of_le (Heap.lt_size e) I.ok.above)
 have neC:∀ b o,X.s₀.heap.get? b=some o->b ∉ X.ex->b ∉ ch:=fun b o e hx hb=>by
   rcases (hch b hb).1 with z | z
   · exact hx z
   · exact absurd (Nat.lt_of_lt_of_le (Heap.lt_size e) z) (Nat.lt_irrefl _)
 have cellK:∀ x c,X.env.cells.lookup x=some c->∀ v,s.heap.IsCell c v->h'.IsCell c v:=fun x c e v ⟨o,ho,hd⟩=>by
   have nch:c ∉ ch:=fun z=>(hch c z).2.2.1 x c e rfl
   by_cases hc:c∈X.fs
   · obtain ⟨sl,q⟩:=slot c o (I.cne x c e) hc nch ho (I.freeC x c e)
     exact ⟨_,q,hd⟩
   · exact ⟨o,keep c o (I.cne x c e) hc nch ho (I.freeC x c e),hd⟩
 refine ⟨I.ok,I.os,hg,⟨fun b o e n hb hx=>?_,fun b o e n hb hx=>?_,fun b o e n hx=>?_,fun b o e hx=>?_,fun b xs e=>tups b xs (I.base.tups b xs e),fun b o xs e=>frzs b o xs (I.base.frzs b o xs e),fun b ps e=>?_⟩,?_,fun x c e=>?_,?_,fun x c e=>?_,fun p hp=>?_,hok,I.len⟩
 · exact keep b o (neL b o e) hb (neC b o e hx) (I.base.keep b o e n hb hx) (I.base.free b o e n hx)
 · obtain ⟨sl,e1⟩:=I.base.slot b o e n hb hx
   obtain ⟨sl',e2⟩:=slot b _ (neL b o e) hb (neC b o e hx) e1 (I.base.free b o e n hx)
   exact ⟨sl',e2⟩
 · obtain ⟨o',e1⟩:=I.base.there b o e hx
   exact free b o' (neC b o e hx) e1 (I.base.free b o e n hx)
 · obtain ⟨o',e1⟩:=I.base.there b o e hx
   exact there b o' (neC b o e hx) e1
 · obtain ⟨m1,e1⟩:=I.base.tbls b ps e
   obtain ⟨m2,e2⟩:=tbls b _ e1
   exact ⟨m1++m2,by rw [e2,Array.append_assoc]⟩
 · obtain ⟨m,hn,hl⟩:=I.loc
   refine ⟨m,ns m hn,fun i x v e1 e2 e3=>?_⟩
   obtain ⟨u,r,l⟩:=hl i x v e1 e2 e3
   refine ⟨u,r,?_⟩
   rcases l with l | ⟨k,c,e,z⟩
   · exact .inl l
   · exact .inr ⟨k,c,e,cellK x c e _ z⟩
 · obtain ⟨v,z⟩:=I.cell x c e
   exact ⟨v,cellK x c e v z⟩
 · obtain ⟨m,⟨o,_,_,ho,_⟩,_⟩:=I.loc
   exact free _ o (fun z=>(hch _ z).2.1 rfl) ho I.free
 · obtain ⟨v,o,ho,hd⟩:=I.cell x c e
   exact free c o (fun z=>(hch c z).2.2.1 x c e rfl) ho (I.freeC x c e)
 · obtain ⟨e,n,ne,nf,d⟩:=I.pin p hp
   have nch:p.1 ∉ ch:=fun z=>(hch p.1 z).2.2.2 p hp rfl
   exact ⟨keep p.1 p.2 ne nf nch e n,free p.1 p.2 nch e n,ne,nf,d⟩
theorem Inv.un {t':Nat} (I:Inv X pins σ H s) (u:Un X.fs [] H H' s.heap h') (hok:HOk X.prog X.w H' h'):Inv X pins σ H' { s with heap:=h',toks:=t' }:=by
 obtain ⟨m,⟨o,es,ep,ho,r⟩,_⟩:=id I.loc
 obtain ⟨sl,hL⟩:=u.any ho I.free (by simp)
 exact I.step (g':=s.gens) (d':=s.drawn) (ch:=[]) (fun _ z=>nomatch z) (fun b o _ hb _ e n=>u.keep b o e n hb (by simp)) (fun b o _ hb _ e n=>u.slot b o e n hb (by simp)) (fun b o _ e n=>u.free b o e n (by simp)) (fun b o _ e=>u.there b o e (by simp)) u.tups u.frzs u.tbls (fun m' hm=>by
   obtain ⟨o',es',ep',ho',r'⟩:=hm
   rw [ho] at ho';cases ho'
   exact ⟨_,es',ep',hL,r'⟩) hok I.bare
theorem Inv.call {g':Array GenState} {t':Nat} {d':Drawn} {ch:List Addr} (I:Inv X pins σ H s) (u:Un (frs X.stack) ch H H' s.heap h') (hok:HOk X.prog X.w H' h') (hg:AllBare g')
   (hch:∀ b∈ch,(b∈X.ex\/X.s₀.heap.objs.size<=b)/\b ≠ X.env.locals/\(∀ x c,X.env.cells.lookup x=some c->c ≠ b)/\∀ p∈X.pn++pins,p.1 ≠ b) :
   Inv X pins σ H' { s with heap:=h',gens:=g',drawn:=d',toks:=t' }:=by
 obtain ⟨m,⟨o,es,ep,ho,r⟩,_⟩:=id I.loc
 obtain ⟨sl,hL⟩:=u.any ho I.free fun z=>(hch _ z).2.1 rfl
 exact I.step (ch:=ch) hch (fun b o hL hb hc e n=>u.keep b o e n (fun z=>(List.mem_cons.mp (I.stkSub b z)).elim hL hb) hc) (fun b o _ _ hc e n=>u.any e n hc) (fun b o hc e n=>u.free b o e n hc) (fun b o hc e=>u.there b o e hc) u.tups u.frzs u.tbls (fun m' hm=>by
   obtain ⟨o',es',ep',ho',r'⟩:=hm
   rw [ho] at ho';cases ho'
   exact ⟨_,es',ep',hL,r'⟩) hok hg
theorem Inv.turned {t':Nat} {it:Addr} (I:Inv X pins σ H s) (k:∀ b o,b ≠ it->s.heap.get? b=some o->h'.get? b=some o) (hn:H it=none) (hL:it ≠ X.env.locals)
   (h1:it∈X.ex\/X.s₀.heap.objs.size<=it) (h2:∀ x c,X.env.cells.lookup x=some c->c ≠ it) (h3:∀ p∈X.pn++pins,p.1 ≠ it):Inv X pins σ H { s with heap:=h',toks:=t' }:=by
 have nit:∀ b u,H b=some u->b ≠ it:=fun b u e z=>by rw [z,hn] at e;cases e
 refine I.step (g':=s.gens) (d':=s.drawn) (ch:=[it]) (fun b hb=>?_) (fun b o _ _ hc e _=>k b o (fun z=>hc (by simp [z])) e) (fun b o _ _ hc e _=>⟨o.slots,k b o (fun z=>hc (by simp [z])) e⟩) (fun _ _ _ _ n=>n)
   (fun b o hc e=>⟨o,k b o (fun z=>hc (by simp [z])) e⟩) (fun _ _ e=>e) (fun _ _ _ e=>e) (fun b ps e=>⟨#[],by rw [e];simp⟩) (fun m hm=>?_) (fun b u e=>?_) I.bare
 · have e:b=it:=by simpa using hb
   subst e
   exact ⟨h1,hL,h2,h3⟩
 · obtain ⟨o,es,ep,ho,r⟩:=hm
   exact ⟨o,es,ep,k _ o (Ne.symm hL) ho,r⟩
 · refine (I.hok b u e).stay (fun c v hc q=>k c v ?_ q) (fun _ q=>q) fun _ _ q=>q
   rcases hc with z | z
   · rw [z];exact nit b u e
   · exact nit c _ z
theorem Inv.tok (I:Inv X pins σ H s) (t:Nat):Inv X pins σ H { s with toks:=t }:=I.un (h':=s.heap) (t':=t) Un.refl I.hok
theorem Inv.kept {t':Nat} (I:Inv X pins σ H s) (k:∀ b u,s.heap.get? b=some u->h'.get? b=some u):Inv X pins σ H { s with heap:=h',toks:=t' }:=I.un (Un.kept k) (I.hok.kept k)
theorem Inv.laid {a:Addr} {o:HO} {t':Nat} (I:Inv X pins σ H s) (k:∀ b u,s.heap.get? b=some u->h'.get? b=some u) (hp:s.heap.objs.size<=a) (new:aW X.prog X.w (upd H a o) h' a o) :
   Inv X pins σ (upd H a o) { s with heap:=h',toks:=t' }:=I.un (Un.laid k hp (I.hok.fresh hp)) (I.hok.laid k hp new)
theorem Inv.write {x e:Addr} {o:HO} {t':Nat} (I:Inv X pins σ H s) (mu:Mut (H x)) (he:e=x\/H e=some (.own x)) (k:∀ b u,b ≠ e->s.heap.get? b=some u->h'.get? b=some u) (heo:∃ u,h'.get? e=some u)
   (new:aW X.prog X.w (upd H x o) h' x o):Inv X pins σ (upd H x o) { s with heap:=h',toks:=t' }:=I.un (Un.write mu he k heo) (I.hok.write mu he k heo new)
theorem Inv.weak {σ':List (Option V)} (I:Inv X pins σ H s) (hl:σ'.length=σ.length) (w:∀ (i:Nat) v,σ'[i]?=some (some v)->σ[i]?=some (some v)):Inv X pins σ' H s :=
 ⟨I.ok,I.os,I.bare,I.base,let ⟨m,hn,hl'⟩:=I.loc;⟨m,hn,fun i x v e1 e2 e3=>hl' i x v e1 (w i v e2) e3⟩,I.cell,I.free,I.freeC,I.pin,I.hok,hl.trans I.len⟩
theorem Inv.pins_of {pins':List (Addr×Obj)} (I:Inv X pins σ H s) (h:∀ p∈pins',s.heap.get? p.1=some p.2/\H p.1=none/\p.1 ≠ X.env.locals/\p.1 ∉ X.fs/\∀ v,p.2.data ≠ .cell v):Inv X pins' σ H s :=
 ⟨I.ok,I.os,I.bare,I.base,I.loc,I.cell,I.free,I.freeC,fun p hp=>(List.mem_append.mp hp).elim (fun z=>I.pin p (List.mem_append_left _ z)) (h p),I.hok,I.len⟩
theorem mF {N:List Str} (hN:N.Nodup) {i j:Nat} {x:Str} (a:N[i]?=some x) (b:N[j]?=some x):i=j:=by
 obtain ⟨h1,e1⟩:=List.getElem?_eq_some_iff.mp a
 obtain ⟨h2,e2⟩:=List.getElem?_eq_some_iff.mp b
 exact (List.getElem_inj hN).mp (e1.trans e2.symm)
theorem lg {M:Model} {A:Around} {E:Value->Shared->Prop} {i:Nat} {x:Str} {v:V} {u:Value} {Q:Unit->Shared->Prop} (I:Inv X pins σ H s) (hN:X.N.Nodup) (hi:X.N[i]?=some x) (hx:Loc X.env.scope x) (r:RelV v u)
   (h:∀ s',Inv X pins (σ.set i (some v)) H s'->(∃ a,Heap.SameBut a s.heap s'.heap/\(a=X.env.locals\/X.env.cells.lookup x=some a))->Q () s') (hf:X.fn x=true\/X.env.scope.names.lookup x=some .local:=by first | exact .inl rfl | exact .inr rfl | assumption):wpAny M A (storeName X.env x u) Q E s:=by
 obtain ⟨m,hn,hl⟩:=id I.loc
 have hcls:(X.env.scope.kind == .class || (X.env.scope.kind == .module && X.env.locals != X.env.globals))=false:=by rw [I.ok.kind];rfl
 have hiσ:i < σ.length:=by rw [I.len];exact (List.getElem?_eq_some_iff.mp hi).1
 have cne:=I.cne
 have tracked:∀ {a:Addr} {h':Heap},(∃ o,s.heap.get? a=some o/\H a=none)->Heap.SameBut a s.heap h'->HOk X.prog X.w H h':=fun {a h'} ha hs b ob e=>by
   obtain ⟨_,_,hfree⟩:=ha
   refine (I.hok b ob e).stay (fun c w' hc q=>(hs.2 c ?_).trans q) (fun _ q=>q) fun _ _ q=>q
   rintro rfl
   rcases hc with rfl | hc
   · rw [hfree] at e;cases e
   · rw [hfree] at hc;cases hc
 rcases hx with hk | hk
 · refine wpAny_storeName_local hk hn (fun h' hn' hs=>?_) hcls
   obtain ⟨oL,_,_,hoL,_⟩:=id hn
   refine h _ ⟨I.ok,I.os,I.bare,⟨fun b o e n hb hx=>?_,fun b o e n hb hx=>?_,I.base.free,fun b o e hx=>?_,I.base.tups,I.base.frzs,I.base.tbls⟩,⟨_,hn',fun j y v' e1 e2 e3=>?_⟩,fun y c e=>?_,I.free,I.freeC,fun p hp=>?_,tracked ⟨oL,hoL,I.free⟩ hs,by simpa using I.len⟩ ⟨_,hs,.inl rfl⟩
   · exact (hs.2 b (Nat.ne_of_lt (Nat.lt_of_lt_of_le (Heap.lt_size e) I.ok.above))).trans (I.base.keep b o e n hb hx)
   · obtain ⟨sl,e1⟩:=I.base.slot b o e n hb hx
     exact ⟨sl,(hs.2 b (Nat.ne_of_lt (Nat.lt_of_lt_of_le (Heap.lt_size e) I.ok.above))).trans e1⟩
   · obtain ⟨o',e1⟩:=I.base.there b o e hx
     exact ⟨o',(hs.2 b (Nat.ne_of_lt (Nat.lt_of_lt_of_le (Heap.lt_size e) I.ok.above))).trans e1⟩
   · by_cases hj:j=i
     · subst hj
       rw [hi] at e1;cases e1
       rw [List.getElem?_set_self hiσ] at e2
       cases e2
       exact ⟨u,r,.inl ⟨hk,by simp⟩⟩
     · rw [List.getElem?_set_ne (Ne.symm hj)] at e2
       obtain ⟨u',r',q⟩:=hl j y v' e1 e2 e3
       refine ⟨u',r',?_⟩
       rcases q with ⟨k,e⟩ | ⟨k,c,e,z⟩
       · refine .inl ⟨k,?_⟩
         have:y ≠ x:=fun e=>hj (mF hN e1 (e ▸ hi))
         simp [this,e]
       · exact .inr ⟨k,c,e,z.sameBut hs (cne y c e)⟩
   · obtain ⟨w',z⟩:=I.cell y c e
     exact ⟨w',z.sameBut hs (cne y c e)⟩
   · obtain ⟨e,n,ne,nf,d⟩:=I.pin p hp
     exact ⟨(hs.2 p.1 ne).trans e,n,ne,nf,d⟩
 · have hfn:X.fn x=true:=by
     rcases hf with z | z
     · exact z
     · rw [z] at hk;cases hk
   obtain ⟨c,hc⟩:=I.ok.has x (.inl hk)
   obtain ⟨w',z⟩:=I.cell x c hc
   refine wpAny_storeName_cell I.ok.kind hk hc z (fun h' hc' hs=>?_)
   obtain ⟨oc,hoc,hocd⟩:=id z
   refine h { s with heap:=h' } ⟨I.ok,I.os,I.bare,⟨fun b o e n hb hx=>?_,fun b o e n hb hx=>?_,I.base.free,fun b o e hx=>?_,I.base.tups,I.base.frzs,I.base.tbls⟩,⟨m,hn.sameBut hs (Ne.symm (cne x c hc)),fun j y v' e1 e2 e3=>?_⟩,fun y c' e=>?_,I.free,I.freeC,fun p hp=>?_,tracked ⟨oc,hoc,I.freeC x c hc⟩ hs,by simpa using I.len⟩ ⟨c,hs,.inr hc⟩
   · exact (hs.2 b (Nat.ne_of_lt (Nat.lt_of_lt_of_le (Heap.lt_size e) (I.ok.cab x c hfn hc)))).trans (I.base.keep b o e n hb hx)
   · obtain ⟨sl,e1⟩:=I.base.slot b o e n hb hx
     exact ⟨sl,(hs.2 b (Nat.ne_of_lt (Nat.lt_of_lt_of_le (Heap.lt_size e) (I.ok.cab x c hfn hc)))).trans e1⟩
   · obtain ⟨o',e1⟩:=I.base.there b o e hx
     exact ⟨o',(hs.2 b (Nat.ne_of_lt (Nat.lt_of_lt_of_le (Heap.lt_size e) (I.ok.cab x c hfn hc)))).trans e1⟩
   · by_cases hj:j=i
     · subst hj
       rw [hi] at e1;cases e1
       rw [List.getElem?_set_self hiσ] at e2
       cases e2
       exact ⟨u,r,.inr ⟨.inl hk,c,hc,hc'⟩⟩
     · rw [List.getElem?_set_ne (Ne.symm hj)] at e2
       obtain ⟨u',r',q⟩:=hl j y v' e1 e2 e3
       refine ⟨u',r',?_⟩
       rcases q with q | ⟨k,c',e,z'⟩
       · exact .inl q
       · refine .inr ⟨k,c',e,z'.sameBut hs ?_⟩
         rintro rfl
         exact hj (mF hN e1 (I.ok.inj _ _ _ e hc ▸ hi))
   · by_cases hcc:c'=c
     · subst hcc;exact ⟨_,hc'⟩
     · obtain ⟨w2,z2⟩:=I.cell y c' e
       exact ⟨w2,z2.sameBut hs hcc⟩
   · obtain ⟨e,n,ne,nf,d⟩:=I.pin p hp
     refine ⟨(hs.2 p.1 ?_).trans e,n,ne,nf,d⟩
     intro q
     rw [q,hoc] at e
     have q':oc=p.2:=Option.some.inj e
     exact d w' (by rw [← q'];exact hocd)
theorem m9 {M:Model} {A:Around} {E:Value->Shared->Prop} {i:Nat} {x:Str} {v:V} {u:Value} {Q:Unit->Shared->Prop} (I:Inv X pins σ H s) (hN:X.N.Nodup) (hi:X.N[i]?=some x) (hx:Loc X.env.scope x) (r:RelV v u)
   (h:∀ s',Inv X pins (σ.set i (some v)) H s'->Q () s') (hf:X.fn x=true\/X.env.scope.names.lookup x=some .local:=by first | exact .inl rfl | exact .inr rfl | assumption):wpAny M A (storeName X.env x u) Q E s :=
 lg I hN hi hx r (fun s' I' _=>h s' I') hf
theorem Inv.call' {s':Shared} {ch:List Addr} (I:Inv X pins σ H s) (ho:s'.os=s.os) (u:Un (frs X.stack) ch H H' s.heap s'.heap) (hok:HOk X.prog X.w H' s'.heap) (hg:AllBare s'.gens)
   (hch:∀ b∈ch,(b∈X.ex\/X.s₀.heap.objs.size<=b)/\b ≠ X.env.locals/\(∀ x c,X.env.cells.lookup x=some c->c ≠ b)/\∀ p∈X.pn++pins,p.1 ≠ b):Inv X pins σ H' s':=by
 obtain ⟨h',g',d',t',o'⟩:=s'
 have e:o'=s.os:=ho
 subst e
 exact I.call (g':=g') (t':=t') (d':=d') u hok hg hch
end
noncomputable abbrev XK:=Value->Option Addr->Hp->Prop
noncomputable abbrev St:=List (Option V)
noncomputable abbrev VK:=V->Hp->Prop
noncomputable abbrev TE:=St->Hp->VK->Prop
noncomputable abbrev TT:=St->Hp->(Bool->Hp->Prop)->Prop
noncomputable abbrev TA:=St->Hp->(List V->Hp->Prop)->Prop
structure Ends where
 nx:St->Hp->Prop
 rt:VK
 bk:St->Hp->Prop:=fun _ _=>False
 ct:St->Hp->Prop:=fun _ _=>False
noncomputable abbrev TS:=Ends->St->Hp->Prop
noncomputable def EP (X:Cx) (pins:List (Addr×Obj)) (σ:St) (Q:VK) (u:Value) (s':Shared):Prop:=∃ v H',Inv X pins σ H' s'/\RelV v u/\Q v H'
noncomputable def TP (X:Cx) (pins:List (Addr×Obj)) (σ:St) (Q:Bool->Hp->Prop) (b:Bool) (s':Shared):Prop:=∃ H',Inv X pins σ H' s'/\Q b H'
noncomputable def AP (X:Cx) (pins:List (Addr×Obj)) (σ:St) (Q:List V->Hp->Prop) (us:List Value) (s':Shared):Prop:=∃ vs H',Inv X pins σ H' s'/\aP vs us/\Q vs H'
noncomputable def SP (X:Cx) (pins:List (Addr×Obj)) (D:Ends) (f:Flow) (s':Shared):Prop :=
 match f with
 | .next=>∃ σ' H',Inv X pins σ' H' s'/\D.nx σ' H'
 | .brk=>∃ σ' H',Inv X pins σ' H' s'/\D.bk σ' H'
 | .cont=>∃ σ' H',Inv X pins σ' H' s'/\D.ct σ' H'
 | .ret u=>∃ v σ' H',Inv X pins σ' H' s'/\RelV v u/\D.rt v H'
noncomputable def PE (X:Cx) (e:Expr) (t:TE):Prop :=
 ∀ (pins:List (Addr×Obj)) (s:Shared) (σ:St) (H:Hp) (Q:VK),Inv X pins σ H s->t σ H Q->wpAny (model X.prog X.w) X.A (eval e X.env) (EP X pins σ Q) X.xe s
noncomputable def PT (X:Cx) (e:Expr) (t:TT):Prop :=
 ∀ (pins:List (Addr×Obj)) (s:Shared) (σ:St) (H:Hp) (Q:Bool->Hp->Prop),Inv X pins σ H s->t σ H Q->wpAny (model X.prog X.w) X.A (isTrue e X.env (eval e X.env)) (TP X pins σ Q) X.xe s
noncomputable def PW (X:Cx) (e:Expr) (t:TT):Prop :=
 ∀ (whole:Sem Value) (pins:List (Addr×Obj)) (s:Shared) (σ:St) (H:Hp) (Q:Bool->Hp->Prop),Inv X pins σ H s->t σ H Q->wpAny (model X.prog X.w) X.A (isTrue e X.env whole) (TP X pins σ Q) X.xe s
theorem PW.pt {X:Cx} {e:Expr} {t:TT} (h:PW X e t):PT X e t:=h _
noncomputable def PA (X:Cx) (es:List Expr) (t:TA):Prop :=
 ∀ (pos:Pos) (pins:List (Addr×Obj)) (s:Shared) (σ:St) (H:Hp) (Q:List V->Hp->Prop),Inv X pins σ H s->t σ H Q->wpAny (model X.prog X.w) X.A (spliced (backTo pos (starEach es X.env))) (AP X pins σ Q) X.xe s
noncomputable def PS (X:Cx) (st:Stmt) (t:TS):Prop :=
 ∀ (pins:List (Addr×Obj)) (s:Shared) (σ:St) (H:Hp) (D:Ends),Inv X pins σ H s->t D σ H->wpAny (model X.prog X.w) X.A (exec st X.env) (SP X pins D) X.xe s
noncomputable def PSs (X:Cx) (st:List Stmt) (t:TS):Prop :=
 ∀ (pins:List (Addr×Obj)) (s:Shared) (σ:St) (H:Hp) (D:Ends),Inv X pins σ H s->t D σ H->wpAny (model X.prog X.w) X.A (execs st X.env) (SP X pins D) X.xe s
theorem thn {α:Type} {t:Sem α} {Q Q':α->Shared->Prop} {M:Model} {A:Around} {E:Value->Shared->Prop} {s:Shared} (h:wpAny M A t Q E s) (hQ:∀ a s,Q a s->Q' a s):wpAny M A t Q' E s:=wpAny_mono h hQ fun _ _ x=>x
end L2
namespace L2
open PySem PySem.Spec PyProof.Rows
section
variable {X:Cx}
noncomputable def rB (i:Nat):TE:=fun σ H Q=>∃ v,σ[i]?=some (some v)/\Q v H
noncomputable def tC (v:V):TE:=fun _ H Q=>Q v H
theorem eG {i:Nat} {x:Str} {pos:Pos} (hN:X.N[i]?=some x) (hv:Vis X.env.scope x) (hd:(x == ("__debug__" : Str))=false:=by decide) (hcd:(x == ("__classdict__" : Str))=false:=by decide):PE X (.Name x pos) (rB i):=by
 intro pins s σ H Q I h
 obtain ⟨v,e,h⟩:=h
 obtain ⟨m,hn,hl⟩:=I.loc
 obtain ⟨u,r,l⟩:=hl i x v hN e hv
 have fin:EP X pins σ Q u s:=⟨v,H,I,r,h⟩
 rcases l with ⟨hk,hm⟩ | ⟨hk,c,hc,hcell⟩
 · exact wpAny_Name (wpAny_loadName_local I.ok.kind hk hn hm fin) hd
 · rcases hk with hk | hk
   · exact wpAny_Name (wpAny_loadName_cell I.ok.kind hk hc hcell fin) hd
   · exact wpAny_Name (wpAny_loadName_free I.ok.kind hk hc hcell fin hcd) hd
theorem sW {i j pos}:PE X (.Constant (.int i) j pos) (tC (.int i)):=fun _ _ _ H _ I h=>wpAny_Constant_int ⟨.int i,H,I.tok _,⟨_,rfl⟩,h⟩
theorem Ap {b j pos}:PE X (.Constant (.bool b) j pos) (tC (.bl b)):=fun _ _ _ H _ I h=>Constant_bool ⟨.bl b,H,I,rfl,h⟩
theorem zv {j pos}:PE X (.Constant .none j pos) (tC .non):=fun _ _ _ H _ I h=>Constant_none ⟨.non,H,I,rfl,h⟩
theorem ur {x j pos}:PE X (.Constant (.str x) j pos) (tC (.str x)):=fun _ _ _ H _ I h=>Calls.Constant_str ⟨.str x,H,I.tok _,⟨_,rfl⟩,h⟩
noncomputable def Gl (X:Cx) (x:Str):Prop:=X.env.kindOf x=some .globalImplicit
theorem pZ {E:Value->Shared->Prop} {pins:List (Addr×Obj)} {s:Shared} {σ:St} {H:Hp} {x:Str} {u:Value} {pos:Pos} {Q:Value->Shared->Prop} (I:Inv X pins σ H s) (hg:Gl X x) (hm:X.mg x=some u) (h:Q u s)
   (hd:(x == ("__debug__" : Str))=false:=by decide):wpAny (model X.prog X.w) X.A (eval (.Name x pos) X.env) Q E s :=
 Calls.Name_function_global I.ok.kind hg (Calls.loadGlobal_global (by rw [I.ok.glob];exact I.mod.glob.keeps I.bk) hm h) hd
theorem iQ {E:Value->Shared->Prop} {pins:List (Addr×Obj)} {s:Shared} {σ:St} {H:Hp} {x:Str} {u:Value} {pos:Pos} {Q:Value->Shared->Prop} (I:Inv X pins σ H s) (hg:Gl X x) (hm:X.mg x=none) (hv:bootBuiltins x=some u) (h:Q u s)
   (hn:x ≠ "__name__" := by decide) (hd:(x == ("__debug__" : Str))=false:=by decide):wpAny (model X.prog X.w) X.A (eval (.Name x pos) X.env) Q E s:=by
 obtain ⟨mb,h1,h2⟩:=I.mod.blt
 exact Calls.Name_function_global I.ok.kind hg (Calls.loadGlobal_builtin (by rw [I.ok.glob];exact I.mod.glob.keeps I.bk) hm (by rw [I.ok.blt];exact h1.keeps I.bk) ((h2 x hn).trans hv) h) hd
theorem xu {x:Str} {v:V} {u:Value} {pos:Pos} (hg:Gl X x) (hm:X.mg x=some u) (r:RelV v u) (hd:(x == ("__debug__" : Str))=false:=by decide):PE X (.Name x pos) (tC v) :=
 fun _ _ _ H _ I h=>pZ I hg hm ⟨v,H,I,r,h⟩ hd
theorem xf {x:Str} {v:V} {u:Value} {pos:Pos} (hg:Gl X x) (hm:X.mg x=none) (hv:bootBuiltins x=some u) (r:RelV v u) (hn:x ≠ "__name__" := by decide) (hd:(x == ("__debug__" : Str))=false:=by decide):PE X (.Name x pos) (tC v) :=
 fun _ _ _ H _ I h=>iQ I hg hm hv ⟨v,H,I,r,h⟩ hn hd
variable {a b:Expr} {ta tb:TE} {pos:Pos}
variable {tA tB':TT} {rest:List Expr}
noncomputable def BP (t u:TT):TT:=fun σ H Q=>t σ H fun c H1=>if c=true then u σ H1 Q else Q false H1
noncomputable def BO (t:TT):TT:=fun σ H Q=>t σ H fun c H1=>Q (!c) H1
theorem vm (ha:PT X a tA):PW X (.BoolOp .And [a] pos) tA:=by
 intro wh pins s σ H Q I h
 refine isTrue_and (thn (ha pins s σ H Q I h) fun c s1 e=>?_)
 cases c with
 | true=>exact isTrue_and_nil e
 | false=>exact e
theorem yW (ha:PT X a tA) (hb:PW X (.BoolOp .And (b :: rest) pos) tB'):PW X (.BoolOp .And (a :: b :: rest) pos) (BP tA tB'):=by
 intro wh pins s σ H Q I h
 refine isTrue_and (thn (ha pins s σ H _ I h) fun c s1 ⟨H1,I1,q1⟩=>?_)
 cases c with
 | true=>exact hb wh pins s1 σ H1 Q I1 q1
 | false=>exact ⟨H1,I1,q1⟩
theorem yS (ha:PT X a tA):PT X (.UnaryOp .Not a pos) (BO tA):=by
 intro pins s σ H Q I h
 exact isTrue_not (ha pins s σ H (fun c H1=>Q (!c) H1) I h)
noncomputable def Bh (ta tb:TE):TE:=fun σ H Q=>ta σ H fun x H1=>∃ c,x=.bl c/\if c=true then tb σ H1 Q else Q (.bl false) H1
noncomputable def Bg (ta:TE):TE:=fun σ H Q=>ta σ H fun x H1=>∃ c,x=.bl c/\Q (.bl (!c)) H1
theorem yn {op} {t:TE} (h:PE X a t):PE X (.BoolOp op [a] pos) t:=fun pins s σ H Q I hw=>BoolOp_one (h pins s σ H Q I hw)
theorem ya (ha:PE X a ta) (hb:PE X (.BoolOp .And (b :: rest) pos) tb):PE X (.BoolOp .And (a :: b :: rest) pos) (Bh ta tb):=by
 intro pins s σ H Q I h
 refine BoolOp_and (thn (ha pins s σ H _ I h) fun v s1 ⟨x,H1,I1,r1,q1⟩=>?_)
 obtain ⟨c,rfl,q1⟩:=q1
 cases r1
 refine wpAny_truthy_bool ?_
 cases c with
 | true=>exact hb pins s1 σ H1 Q I1 q1
 | false=>exact ⟨.bl false,H1,I1,rfl,q1⟩
theorem yb (ha:PE X a ta):PE X (.UnaryOp .Not a pos) (Bg ta):=by
 intro pins s σ H Q I h
 refine UnaryOp_ (thn (ha pins s σ H _ I h) fun v s1 ⟨x,H1,I1,r1,q1⟩=>?_)
 obtain ⟨c,rfl,q1⟩:=q1
 cases r1
 exact not_of (wpAny_truthy_bool ⟨.bl (!c),H1,I1,rfl,q1⟩)
end
end L2
namespace L2
open PySem PySem.Spec PyProof.Rows
noncomputable def SqL (K:PySem.W.Frag) (H:Hp) (a:Addr) (xs:List V):Prop :=
 Rd H a (.lst xs) ∨
   ∃ (o:Obj) (its:Array Value) (n:Nat),K.lookup a=some o/\o.cls=.type "list" ∧ o.dict=none/\o.data=.seq its n/\its.size<=sizeLine/\aP xs its.toList
noncomputable def SqT (K:PySem.W.Frag) (H:Hp) (a:Addr) (xs:List V):Prop :=
 Rd H a (.tup xs) ∨
   ∃ (o:Obj) (its:Array Value) (n:Nat),K.lookup a=some o/\o.cls=.type "tuple" ∧ o.data=.seq its n/\its.size<=sizeLine/\aP xs its.toList
noncomputable def BX:Value->Option V
 | .none=>some .non
 | .bool b=>some (.bl b)
 | .int i _=>some (.int i)
 | .str x _=>some (.str x)
 | .bytes b _=>some (.byt b)
 | .float b _=>some (.flt b)
 | .ref a=>some (.ref a)
 | .type n=>some (.ty n)
 | _=>none
theorem RelV.abs {x:V} {u:Value} (r:RelV x u):BX u=some x:=by
 cases x with
 | non=>cases r;rfl
 | bl _=>cases r;rfl
 | int _=>obtain ⟨t,rfl⟩:=r;rfl
 | str _=>obtain ⟨t,rfl⟩:=r;rfl
 | byt _=>obtain ⟨t,rfl⟩:=r;rfl
 | flt _=>obtain ⟨t,rfl⟩:=r;rfl
 | ref _=>cases r;rfl
 | ty _=>cases r;rfl
theorem RelV.inj {x y:V} {u:Value} (r:RelV x u) (q:RelV y u):x=y:=Option.some.inj (r.abs.symm.trans q.abs)
theorem aP.inj:∀ {xs ys:List V} {us:List Value},aP xs us->aP ys us->xs=ys
 | _,_,_,.nil,.nil=>rfl
 | _,_,_,.cons r t,.cons r' t'=>by rw [r.inj r',aP.inj t t']
section
variable {X:Cx} {pins:List (Addr×Obj)} {σ:St} {H:Hp} {s:Shared} {a:Addr} {xs ys:List V}
theorem SqL.of {K:PySem.W.Frag} (h:H a=some (.lst xs)):SqL K H a xs:=.inl (.inl h)
theorem SqT.of {K:PySem.W.Frag} (h:H a=some (.tup xs)):SqT K H a xs:=.inl (.inl h)
theorem Inv.list (I:Inv X pins σ H s) (h:SqL X.K H a xs):∃ its:List Value,aP xs its/\PlainL s.heap a its.toArray/\xs.length<=sizeLine:=by
 rcases h with h | ⟨o,its,n,hk,hc,hd,hs,hz,r⟩
 · obtain ⟨z,its,n,r,e⟩:=h.ok I.hok
   exact ⟨its,r,⟨_,n,e,rfl,rfl,rfl⟩,z⟩
 · refine ⟨its.toList,r,⟨o,n,I.kIn a o hk,hc,hd,by simpa using hs⟩,?_⟩
   have e:=r.length
   simp only [Array.length_toList] at e
   lia
theorem Inv.tuple (I:Inv X pins σ H s) (h:SqT X.K H a xs):∃ its:List Value,aP xs its/\IsTup s.heap a its.toArray/\xs.length<=sizeLine:=by
 rcases h with h | ⟨o,its,n,hk,hc,hs,hz,r⟩
 · obtain ⟨z,its,r,_,p⟩:=h.ok I.hok
   exact ⟨its,r,p,z⟩
 · refine ⟨its.toList,r,⟨o,I.kIn a o hk,hc,n,by simpa using hs⟩,?_⟩
   have e:=r.length
   simp only [Array.length_toList] at e
   lia
theorem Inv.list_inj (I:Inv X pins σ H s) (h:SqL X.K H a xs) (h':SqL X.K H a ys):xs=ys:=by
 obtain ⟨its,r,⟨o,n,e,_,_,d⟩,_⟩:=I.list h
 obtain ⟨its',r',⟨o',n',e',_,_,d'⟩,_⟩:=I.list h'
 rw [e] at e';cases e'
 rw [d] at d'
 injection d' with d1 _
 have:its=its':=by simpa using congrArg Array.toList d1
 subst this
 exact r.inj r'
theorem Inv.tuple_inj (I:Inv X pins σ H s) (h:SqT X.K H a xs) (h':SqT X.K H a ys):xs=ys:=by
 obtain ⟨its,r,⟨o,e,_,n,d⟩,_⟩:=I.tuple h
 obtain ⟨its',r',⟨o',e',_,n',d'⟩,_⟩:=I.tuple h'
 rw [e] at e';cases e'
 rw [d] at d'
 injection d' with d1 _
 have:its=its':=by simpa using congrArg Array.toList d1
 subst this
 exact r.inj r'
end
noncomputable abbrev Cx.wish (X:Cx) (E:Value->Shared->Prop):Cx:={ X with xe:=E }
noncomputable abbrev Cx.nox (X:Cx):Cx:=X.wish fun _ _=>False
theorem Cx.Ok.wish {X:Cx} (ok:X.Ok) (E:Value->Shared->Prop):(X.wish E).Ok :=
 ⟨ok.mod,ok.kind,ok.glob,ok.blt,ok.above,ok.inj,ok.has,ok.cab,ok.hd,ok.frames,ok.stk,ok.exf,ok.bs,ok.bsz,ok.noex,ok.exfs,ok.funs,ok.frf⟩
theorem Cx.Ok.unwish {X:Cx} {E:Value->Shared->Prop} (ok:(X.wish E).Ok):X.Ok :=
 ⟨ok.mod,ok.kind,ok.glob,ok.blt,ok.above,ok.inj,ok.has,ok.cab,ok.hd,ok.frames,ok.stk,ok.exf,ok.bs,ok.bsz,ok.noex,ok.exfs,ok.funs,ok.frf⟩
section
variable {X:Cx} {pins:List (Addr×Obj)} {σ:St} {H:Hp} {s:Shared} {E:Value->Shared->Prop}
theorem Inv.wish (I:Inv X pins σ H s) (E:Value->Shared->Prop):Inv (X.wish E) pins σ H s:=⟨I.ok.wish E,I.os,I.bare,I.base,I.loc,I.cell,I.free,I.freeC,I.pin,I.hok,I.len⟩
theorem Inv.unwish (I:Inv (X.wish E) pins σ H s):Inv X pins σ H s:=⟨I.ok.unwish,I.os,I.bare,I.base,I.loc,I.cell,I.free,I.freeC,I.pin,I.hok,I.len⟩
theorem SP.unwish {D:Ends} {f:Flow} {s':Shared} (h:SP (X.wish E) pins D f s'):SP X pins D f s':=by
 cases f with
 | next=>obtain ⟨σ',H',I,q⟩:=h;exact ⟨σ',H',I.unwish,q⟩
 | brk=>obtain ⟨σ',H',I,q⟩:=h;exact ⟨σ',H',I.unwish,q⟩
 | cont=>obtain ⟨σ',H',I,q⟩:=h;exact ⟨σ',H',I.unwish,q⟩
 | ret u=>obtain ⟨v,σ',H',I,r,q⟩:=h;exact ⟨v,σ',H',I.unwish,r,q⟩
theorem PE.nox {e:Expr} {t:TE} (h:PE X.nox e t):PE X e t:=fun pins s σ H Q I hw =>
 wpAny_mono (h pins s σ H Q (I.wish _) hw) (fun _ _ ⟨v,H',I',r,q⟩=>⟨v,H',I'.unwish,r,q⟩) fun _ _ z=>False.elim z
theorem PT.nox {e:Expr} {t:TT} (h:PT X.nox e t):PT X e t:=fun pins s σ H Q I hw =>
 wpAny_mono (h pins s σ H Q (I.wish _) hw) (fun _ _ ⟨H',I',q⟩=>⟨H',I'.unwish,q⟩) fun _ _ z=>False.elim z
theorem PSs.nox {st:List Stmt} {t:TS} (h:PSs X.nox st t):PSs X st t:=fun pins s σ H D I hw =>
 wpAny_mono (h pins s σ H D (I.wish _) hw) (fun _ _ q=>q.unwish) fun _ _ z=>False.elim z
end
section
variable {X:Cx} {st:Stmt} {rest:List Stmt} {t u:TS} {e:Expr} {te:TE} {pos:Pos}
noncomputable def Ad:TS:=fun D σ H=>D.nx σ H
noncomputable def Cj (t u:TS):TS:=fun D σ H=>t { D with nx:=u D } σ H
theorem wC:PSs X [] Ad:=fun _ _ σ H _ I h=>wpAny_execs_nil ⟨σ,H,I,h⟩
theorem sJ (h1:PS X st t) (h2:PSs X rest u):PSs X (st :: rest) (Cj t u):=by
 intro pins s σ H D I h
 refine wpAny_execs_cons (thn (h1 pins s σ H { D with nx:=u D } I h) fun f s1 q=>?_)
 cases f with
 | next =>
   obtain ⟨σ',H',I',q⟩:=q
   exact h2 pins s1 σ' H' D I' q
 | ret v=>exact q
 | brk=>exact q
 | cont=>exact q
theorem xj (h1:PS X st t):PSs X [st] t:=by
 intro pins s σ H D I h
 refine wpAny_execs_cons (thn (h1 pins s σ H D I h) fun f s1 q=>?_)
 cases f with
 | next=>exact wpAny_execs_nil q
 | ret v=>exact q
 | brk=>exact q
 | cont=>exact q
theorem Inv.quiet {pins:List (Addr×Obj)} {σ:St} {H:Hp} {s:Shared} (I:Inv X pins σ H s):interactive X.env=false:=by simp [interactive,I.ok.kind]
noncomputable def Al (te:TE):TS:=fun D σ H=>te σ H fun _ H1=>D.nx σ H1
theorem lA (he:PE X e te) (hs:swapsWith e none pos.line X.env=pure false:=by rfl):PS X (.Expr e pos) (Al te):=by
 intro pins s σ H D I h
 exact wpAny_Expr_any (thn (he pins s σ H _ I h) fun v s1 ⟨x,H1,I1,r1,q1⟩=>⟨σ,H1,I1,q1⟩) I.quiet hs
noncomputable def B4 (te:TE):TS:=fun D σ H=>te σ H D.rt
theorem ou (he:PE X e te):PS X (.Return (some e) pos) (B4 te):=by
 intro pins s σ H D I h
 exact wpAny_Return_some (thn (he pins s σ H _ I h) fun v s1 ⟨x,H1,I1,r1,q1⟩=>⟨x,σ,H1,I1,r1,q1⟩)
noncomputable def Ci (c:TT) (t u:TS):TS:=fun D σ H=>c σ H fun b H1=>if b=true then t D σ H1 else u D σ H1
theorem BA {c:Expr} {a b:List Stmt} {tc:TT} (hc:PT X c tc) (ha:PSs X a t) (hb:PSs X b u):PS X (.If c a b pos) (Ci tc t u):=by
 intro pins s σ H D I h
 refine wpAny_If (thn (hc pins s σ H _ I h) fun d s1 ⟨H1,I1,q1⟩=>?_)
 cases d with
 | true=>exact ha pins s1 σ H1 D I1 q1
 | false=>exact hb pins s1 σ H1 D I1 q1
end
noncomputable abbrev TG:=V->St->Hp->(St->Hp->Prop)->Prop
noncomputable abbrev TGs:=List V->St->Hp->(St->Hp->Prop)->Prop
noncomputable def PG (X:Cx) (target:Expr) (t:TG):Prop :=
 ∀ (pins:List (Addr×Obj)) (s:Shared) (σ:St) (H:Hp) (v:V) (u:Value) (Q:St->Hp->Prop),Inv X pins σ H s->RelV v u->t v σ H Q →
   wpAny (model X.prog X.w) X.A (assign target X.env u) (fun _ s'=>∃ σ' H',Inv X pins σ' H' s'/\Q σ' H') X.xe s
noncomputable def PGs (X:Cx) (ts:List Expr) (t:TGs):Prop :=
 ∀ (pins:List (Addr×Obj)) (s:Shared) (σ:St) (H:Hp) (vs:List V) (us:List Value) (Q:St->Hp->Prop),Inv X pins σ H s->aP vs us->t vs σ H Q →
   wpAny (model X.prog X.w) X.A (assignInOrder ((assignEach ts X.env).map (·.2)) us) (fun _ s'=>∃ σ' H',Inv X pins σ' H' s'/\Q σ' H') X.xe s
noncomputable abbrev xb:=V->V->V->Hp->(Hp->Prop)->Prop
noncomputable def zE (X:Cx) (t:xb):Prop :=
 ∀ (pins:List (Addr×Obj)) (s:Shared) (σ:St) (H:Hp) (o i v:V) (ov iv u:Value) (Q:Hp->Prop),Inv X pins σ H s->RelV o ov->RelV i iv->RelV v u->t o i v H Q →
   wpAny (model X.prog X.w) X.A (setItem ov iv u) (fun _ s'=>∃ H',Inv X pins σ H' s'/\Q H') X.xe s
section
variable {X:Cx} {pos:Pos}
noncomputable def jP (i:Nat):TG:=fun v σ H Q=>Q (σ.set i (some v)) H
theorem lF {i:Nat} {x:Str} (hN:X.N.Nodup) (hi:X.N[i]?=some x) (hx:Loc X.env.scope x) (hf:X.fn x=true\/X.env.scope.names.lookup x=some .local:=by first | exact .inl rfl | exact .inr rfl | assumption):PG X (.Name x pos) (jP i):=by
 intro pins s σ H v u Q I r h
 exact wpAny_assign_Name (m9 I hN hi hx r (fun s' I'=>⟨_,H,I',h⟩) hf)
noncomputable def Cb:TGs:=fun vs σ H Q=>vs=[]/\Q σ H
noncomputable def BJ (t:TG) (u:TGs):TGs:=fun vs σ H Q=>∃ v r,vs=v :: r/\t v σ H fun σ' H'=>u r σ' H' Q
theorem xn:PGs X [] Cb:=by
 intro pins s σ H vs us Q I r h
 obtain ⟨e,h⟩:=h
 subst e
 cases r
 exact assignInOrder_nil ⟨σ,H,I,h⟩
theorem rZ {e:Expr} {es:List Expr} {t:TG} {u:TGs} (h1:PG X e t) (h2:PGs X es u)
   (hs:(assignEach (e :: es) X.env).map (·.2)=assign e X.env :: (assignEach es X.env).map (·.2):=by rfl):PGs X (e :: es) (BJ t u):=by
 intro pins s σ H vs us Q I r h
 obtain ⟨v,vr,e1,h⟩:=h
 subst e1
 cases r with
 | cons r rr =>
   rw [hs]
   refine assignInOrder_cons (thn (h1 pins s σ H _ _ _ I r h) fun _ s1 ⟨σ1,H1,I1,q1⟩=>?_)
   exact h2 pins s1 σ1 H1 _ _ Q I1 rr q1
noncomputable def jC (K:PySem.W.Frag) (n:Nat) (t:TGs):TG:=fun v σ H Q=>∃ a xs,v=.ref a/\SqT K H a xs/\xs.length=n/\t xs σ H Q
theorem zo {es:List Expr} {k:Nat} {t:TGs} {n:Nat} (hc:X.calm=true) (h:PGs X es t)
   (hn:(assignEach es X.env).length=n:=by rfl) (hst:(assignEach es X.env).findIdx? (·.1)=none:=by rfl):PG X (.Tuple es k pos) (jC X.K n t):=by
 intro pins s σ H v u Q I r hw
 obtain ⟨a,xs,e1,hq,hl,hw⟩:=hw
 subst e1
 cases r
 obtain ⟨its,rv,ht,hz⟩:=I.tuple hq
 refine assign_Tuple_tuple (I.ok.hd hc) ht (by simp [hn,← hl,rv.length]) hst fun h' hx=>?_
 have I1:Inv X pins σ H { s with heap:=h' }:=I.kept (t':=s.toks) fun b o e=>hx b o (Nat.ne_of_lt (Heap.lt_size e)) e
 exact h pins _ σ H xs _ Q I1 (by simpa using rv) hw
noncomputable def Co (to ti:TE) (t:xb):TG:=fun v σ H Q=>to σ H fun o H1=>ti σ H1 fun i H2=>t o i v H2 fun H3=>Q σ H3
theorem zY {o i:Expr} {to ti:TE} {t:xb} (ho:PE X o to) (hi:PE X i ti) (hs:zE X t)
   (ha:∀ v,assign (.Subscript o i pos) X.env v=(do
     let ov ← holding [v] (eval o X.env)
     let iv ← holding [v,ov] (eval i X.env)
     standAt pos
     holding [v,ov,iv] (setItem ov iv v)
     release [v,ov,iv] []):=by intro _;rfl):PG X (.Subscript o i pos) (Co to ti t):=by
 intro pins s σ H v u Q I r h
 rw [ha]
 refine wpAny_bind (wpAny_holding (thn (ho pins s σ H _ I h) fun ov s1 ⟨x,H1,I1,r1,q1⟩=>?_))
 refine wpAny_bind (wpAny_holding (thn (hi pins s1 σ H1 _ I1 q1) fun iv s2 ⟨y,H2,I2,r2,q2⟩=>?_))
 refine wpAny_bind (wpAny_standAt (wpAny_bind (wpAny_holding (thn (hs pins s2 σ H2 x y v ov iv u _ I2 r1 r2 r q2) fun _ s3 ⟨H3,I3,q3⟩=>?_))))
 exact wpAny_release ⟨σ,H3,I3,q3⟩
noncomputable def AU (te:TE) (g:TG):TS:=fun D σ H=>te σ H fun x H1=>g x σ H1 D.nx
theorem zy {tg e:Expr} {te:TE} {g:TG} (he:PE X e te) (hg:PG X tg g) (hs:swapsWithSole [tg] e pos.line X.env=pure false:=by rfl) (hw:swappedStores [tg] e X.env=pure none:=by rfl)
   (h1:(assignEach [tg] X.env).map (·.2)=[assign tg X.env]:=by rfl):PS X (.Assign [tg] e pos) (AU te g):=by
 intro pins s σ H D I h
 refine wpAny_Assign_stores (thn (he pins s σ H _ I h) fun v s1 ⟨x,H1,I1,r1,q1⟩=>?_) hs hw
 rw [h1]
 exact thn (hg pins s1 σ H1 x v _ I1 r1 q1) fun _ s2 q=>q
theorem sC {i:Nat} {x:Str} {e:Expr} {te:TE} {pos':Pos} (hN:X.N.Nodup) (hi:X.N[i]?=some x) (hx:Loc X.env.scope x) (he:PE X e te) (hs:swapsWith e (some (.Name x pos')) pos.line X.env=pure false:=by rfl) (hf:X.fn x=true\/X.env.scope.names.lookup x=some .local:=by first | exact .inl rfl | exact .inr rfl | assumption) :
   PS X (.Assign [.Name x pos'] e pos) (AU te (jP i)):=by
 intro pins s σ H D I h
 refine wpAny_Assign_Name (thn (he pins s σ H _ I h) fun v s1 ⟨y,H1,I1,r1,q1⟩=>?_) hs
 exact m9 I1 hN hi hx r1 (fun s2 I2=>⟨_,H1,I2,q1⟩) hf
end
section
variable {X:Cx} {pos:Pos}
end
structure It where
 go:Nat->Hp->Prop
 yld:Nat->Hp->V->Hp->Prop
 stop:Nat->Hp->Prop
noncomputable def ic (X:Cx) (pins:List (Addr×Obj)) (H:Hp) (b:Addr):Prop :=
 H b=none/\b ≠ X.env.locals/\b ∉ X.fs/\(b∈X.ex\/X.s₀.heap.objs.size<=b)/\(∀ x c,X.env.cells.lookup x=some c->c ≠ b)/\∀ p∈X.pn++pins,p.1 ≠ b
theorem Inv.fpOk {X:Cx} {pins:List (Addr×Obj)} {σ:St} {H H':Hp} {s:Shared} {b:Addr} (I:Inv X pins σ H s) (hb:s.heap.objs.size<=b) (hn:H' b=none):ic X pins H' b:=by
 refine ⟨hn,Nat.ne_of_gt (Nat.lt_of_lt_of_le I.lt hb),I.nofs hb,.inr (Nat.le_trans I.sz hb),fun x c e z=>?_,fun p hp z=>?_⟩
 · obtain ⟨v,q⟩:=I.cell x c e
   exact absurd (Nat.lt_of_lt_of_le q.lt (by rw [z];exact hb)) (Nat.lt_irrefl _)
 · exact absurd (Nat.lt_of_lt_of_le (Heap.lt_size (I.pin p hp).1) (by rw [z];exact hb)) (Nat.lt_irrefl _)
structure Turn (P:Program) (w:World) (K:PySem.W.Frag) (tg:Expr) (J:It) (fp:List Addr) (it:Addr) (tn:Nat->Heap->Prop):Prop where
 mem:it∈fp
 obj:∀ i h,tn i h->∀ b∈fp,∃ o,h.get? b=some o/\∀ v,o.data ≠ .cell v
 keep:∀ i h h',tn i h->(∀ b∈fp,∀ o,h.get? b=some o->h'.get? b=some o)->tn i h'
 item:∀ (X:Cx),X.prog=P->X.w=w->X.K=K->X.calm=true->∀ (i:Nat) (pins:List (Addr×Obj)) (s:Shared) (σ:St) (H:Hp) (E:Value->Shared->Prop),Inv X pins σ H s->(∀ b∈fp,ic X pins H b)->tn i s.heap->J.go i H →
   wpAny (model P w) X.A (pyNext (.ref it)) (fun r s1=>∃ u,r=some u ∧
     wpAny (model P w) X.A (letOwnedTupleGo tg (.ref it) u) (fun _ s2=>∃ x H',Inv X pins σ H' s2/\RelV x u/\J.yld i H x H'/\tn (i+1) s2.heap/\∀ b∈fp,H' b=none) E s1) E s
 done:∀ (X:Cx),X.prog=P->X.w=w->X.K=K->X.calm=true->∀ (i:Nat) (pins:List (Addr×Obj)) (s:Shared) (σ:St) (H:Hp) (E:Value->Shared->Prop),Inv X pins σ H s->(∀ b∈fp,ic X pins H b)->tn i s.heap->J.stop i H →
   wpAny (model P w) X.A (pyNext (.ref it)) (fun r s1=>r=none/\Inv X pins σ H s1) E s
 self:∀ (A:Around) (i:Nat) (s:Shared) (Q:Value->Shared->Prop) (E:Value->Shared->Prop),tn i s.heap->Q (.ref it) s->wpAny (model P w) A (pyIter (.ref it)) Q E s
noncomputable abbrev TI:=St->Hp->(It->Hp->Prop)->Prop
noncomputable def PIE (X:Cx) (pins:List (Addr×Obj)) (σ:St) (tg:Expr) (R:It->Hp->Prop) (itv:Value) (s2:Shared):Prop :=
 ∃ (it:Addr) (fp:List Addr) (tn:Nat->Heap->Prop) (J:It) (H':Hp),itv=.ref it/\Inv X pins σ H' s2/\Turn X.prog X.w X.K tg J fp it tn/\tn 0 s2.heap/\(∀ b∈fp,ic X pins H' b)/\R J H'
noncomputable def PI (X:Cx) (tg iter:Expr) (wi:TI):Prop :=
 ∀ (pins:List (Addr×Obj)) (s:Shared) (σ:St) (H:Hp) (R:It->Hp->Prop),Inv X pins σ H s->wi σ H R →
   wpAny (model X.prog X.w) X.A (eval iter X.env) (fun v s1=>wpAny (model X.prog X.w) X.A (pyIter v) (PIE X pins σ tg R) X.xe s1) X.xe s
theorem kI {M:Model} {A:Around} {E:Value->Shared->Prop} {s:Shared} {tg:Expr} {it:Addr} {u:Value} {o:Obj} {n:String} {vs:Array Value} {Q:Unit->Shared->Prop} (ho:s.heap.get? it=some o) (hc:o.cls=.type n) (hd:o.data=.fields vs)
   (hn:["enumerate", "zip", "dict_itemiterator", "dict_reverseitemiterator", "odict_iterator", "itertools.zip_longest", "itertools.pairwise"].contains n=false) (hQ:Q () s):wpAny M A (letOwnedTupleGo tg (.ref it) u) Q E s:=by
 unfold letOwnedTupleGo
 cases tg <;> first
   | exact wpAny_pure hQ
   | (cases u <;> first
       | exact wpAny_pure hQ
       | (refine wpAny_bind (wpAny_load ho ?_)
          rw [hc,hd]
          show wpAny M A (if (["enumerate", "zip", "dict_itemiterator", "dict_reverseitemiterator", "odict_iterator", "itertools.zip_longest", "itertools.pairwise"].contains n && vs[0]? == some (rawInt _))=true then _ else _) Q E s
          rw [if_neg (by intro h;rw [hn,Bool.false_and] at h;cases h)]
          exact wpAny_pure hQ))
noncomputable def Itl (K:PySem.W.Frag) (a:Addr):It :=
 ⟨fun i H=>∃ xs x,SqL K H a xs/\xs[i]?=some x,fun i H x H'=>H'=H/\∀ xs,SqL K H a xs->xs[i]?=some x,fun i H=>∃ xs,SqL K H a xs/\xs.length<=i⟩
noncomputable def Itt (K:PySem.W.Frag) (a:Addr):It :=
 ⟨fun i H=>∃ xs x,SqT K H a xs/\xs[i]?=some x,fun i H x H'=>H'=H/\∀ xs,SqT K H a xs->xs[i]?=some x,fun i H=>∃ xs,SqT K H a xs/\xs.length<=i⟩
noncomputable def Itr (lo:Int) (n:Nat):It:=⟨fun i _=>i < n,fun i H x H'=>H'=H/\x=.int (lo+i),fun i _=>n<=i⟩
theorem ql {P:Program} {w:World} {K:PySem.W.Frag} {tg:Expr} (a it:Addr):Turn P w K tg (Itl K a) [it] it (fun i h=>h.IsListIter it a i) where
 mem:=by simp
 obj:=fun i h st b hb=>by
   have e:b=it:=by simpa using hb
   subst e
   obtain ⟨o,e,c,d⟩:=st
   exact ⟨o,e,fun v z=>by rw [d] at z;cases z⟩
 keep:=fun i h h' st k=>st.at fun o e=>k it (by simp) o e
 item:=by
   intro X hP hw hK hc i pins s σ H E I hf st hg
   subst hP hw hK
   obtain ⟨xs,x,hq,hx⟩:=hg
   obtain ⟨its,rv,p,hz⟩:=I.list hq
   obtain ⟨u,hu,ru⟩:=rv.get hx
   obtain ⟨f0,f1,f2,f3,f4,f5⟩:=hf it (by simp)
   refine wpAny_pyNext_list_item st p.isList (x:=u) (by simpa using hu) fun h' st' sb=>?_
   have I1:Inv X pins σ H { s with heap:=h' }:=I.turned (t':=s.toks) (fun b o hb e=>(sb.2 b hb).trans e) f0 f1 f3 f4 f5
   obtain ⟨o,e,c,d⟩:=id st'
   exact ⟨u,rfl,kI (s:={ s with heap:=h' }) e c d (by decide) ⟨x,H,I1,ru,⟨rfl,fun ys hy=>by rw [I.list_inj hy hq];exact hx⟩,st',fun b hb=>(hf b hb).1⟩⟩
 done:=by
   intro X hP hw hK hc i pins s σ H E I hf st hg
   subst hP hw hK
   obtain ⟨xs,hq,hx⟩:=hg
   obtain ⟨its,rv,p,hz⟩:=I.list hq
   obtain ⟨f0,f1,f2,f3,f4,f5⟩:=hf it (by simp)
   have hl:=rv.length
   exact wpAny_pyNext_list_end (I.ok.hd hc) st p.isList (by simp;lia) fun h' eb=>⟨rfl,I.turned (t':=s.toks) (fun b o hb e=>eb b o hb e) f0 f1 f3 f4 f5⟩
 self:=fun _ _ _ _ _ st h=>wpAny_pyIter_listiter st h
theorem oB {P:Program} {w:World} {K:PySem.W.Frag} {tg:Expr} (a it:Addr):Turn P w K tg (Itt K a) [it] it (fun i h=>h.IsTupleIter it a i) where
 mem:=by simp
 obj:=fun i h st b hb=>by
   have e:b=it:=by simpa using hb
   subst e
   obtain ⟨o,e,c,d⟩:=st
   exact ⟨o,e,fun v z=>by rw [d] at z;cases z⟩
 keep:=fun i h h' st k=>st.at fun o e=>k it (by simp) o e
 item:=by
   intro X hP hw hK hc i pins s σ H E I hf st hg
   subst hP hw hK
   obtain ⟨xs,x,hq,hx⟩:=hg
   obtain ⟨its,rv,p,hz⟩:=I.tuple hq
   obtain ⟨u,hu,ru⟩:=rv.get hx
   obtain ⟨f0,f1,f2,f3,f4,f5⟩:=hf it (by simp)
   refine wpAny_pyNext_tuple_item st (show s.heap.IsTuple a its.toArray from p) (x:=u) (by simpa using hu) fun h' st' sb=>?_
   have I1:Inv X pins σ H { s with heap:=h' }:=I.turned (t':=s.toks) (fun b o hb e=>(sb.2 b hb).trans e) f0 f1 f3 f4 f5
   obtain ⟨o,e,c,d⟩:=id st'
   exact ⟨u,rfl,kI (s:={ s with heap:=h' }) e c d (by decide) ⟨x,H,I1,ru,⟨rfl,fun ys hy=>by rw [I.tuple_inj hy hq];exact hx⟩,st',fun b hb=>(hf b hb).1⟩⟩
 done:=by
   intro X hP hw hK hc i pins s σ H E I hf st hg
   subst hP hw hK
   obtain ⟨xs,hq,hx⟩:=hg
   obtain ⟨its,rv,p,hz⟩:=I.tuple hq
   obtain ⟨f0,f1,f2,f3,f4,f5⟩:=hf it (by simp)
   have hl:=rv.length
   exact wpAny_pyNext_tuple_end (I.ok.hd hc) st (show s.heap.IsTuple a its.toArray from p) (by simp;lia) fun h' eb=>⟨rfl,I.turned (t':=s.toks) (fun b o hb e=>eb b o hb e) f0 f1 f3 f4 f5⟩
 self:=fun _ _ _ _ _ st h=>wpAny_pyIter_tupleiter st h
theorem oS {P:Program} {w:World} {K:PySem.W.Frag} {tg:Expr} (it:Addr) (lo:Int) (n:Nat):Turn P w K tg (Itr lo n) [it] it (fun i h=>IsRangeIter h it (lo+(i:Nat) * 1) ((n:Int) - (i:Nat)) 1) where
 mem:=by simp
 obj:=fun i h st b hb=>by
   have e:b=it:=by simpa using hb
   subst e
   exact ⟨_,st,fun v z=>by
     have z':Data.fields _=Data.cell v:=z
     cases z'⟩
 keep:=fun i h h' st k=>k it (by simp) _ st
 item:=by
   intro X hP hw hK hc i pins s σ H E I hf st hg
   subst hP hw hK
   obtain ⟨f0,f1,f2,f3,f4,f5⟩:=hf it (by simp)
   have W:=Walks.range (prog:=X.prog) (w:=X.w) (I.ok.hd hc) it lo 1 n
   refine W.item i s _ _ hg st fun v h' tk hv st' kk=>?_
   obtain ⟨t,rfl⟩:=hv
   have I1:Inv X pins σ H { s with heap:=h',toks:=tk }:=I.turned (fun b o hb e=>kk b o (by simpa using hb) e) f0 f1 f3 f4 f5
   refine ⟨_,rfl,kI (s:={ s with heap:=h',toks:=tk }) (n := "range_iterator") st' rfl rfl (by decide) ⟨.int (lo+i),H,I1,⟨t,?_⟩,⟨rfl,rfl⟩,st',fun b hb=>(hf b hb).1⟩⟩
   rw [Int.mul_one]
 done:=by
   intro X hP hw hK hc i pins s σ H E I hf st hg
   subst hP hw hK
   obtain ⟨f0,f1,f2,f3,f4,f5⟩:=hf it (by simp)
   exact wpAny_pyNext_range_end (I.ok.hd hc) st (by have:n<=i:=hg;lia) fun h' eb=>⟨rfl,I.turned (t':=s.toks) (fun b o hb e=>eb b o hb e) f0 f1 f3 f4 f5⟩
 self:=fun _ _ _ _ _ st h=>wpAny_pyIter_rangeiter st h
end L2
namespace L2
open PySem PySem.Spec PyProof.Rows
section
variable {X:Cx} {tg:Expr}
theorem sv {pins:List (Addr×Obj)} {σ:St} {H:Hp} {s:Shared} {R:It->Hp->Prop} {E:Value->Shared->Prop} {lo hi:Int} {t u v:Tok} {tk:Nat} (I:Inv X pins σ H s) (h1:-(2 ^ 62)<=lo) (h2:lo < 2 ^ 62) (h3:-(2 ^ 62)<=hi) (h4:hi < 2 ^ 62)
   (q:R (Itr lo (hi - lo).toNat) H):wpAny (model X.prog X.w) X.A (pyIter (.ref s.heap.objs.size)) (PIE X pins σ tg R) E { s with heap:=s.heap.push { cls:=.type "range",data:=.fields #[.int lo t,.int hi u,.int 1 v] },toks:=tk }:=by
 refine wpAny_pyIter_range (IsRange.new ..) (small_one h1 h2 h3 h4) ?_
 have I1:Inv X pins σ H { s with heap:=s.heap.push { cls:=.type "range",data:=.fields #[.int lo t,.int hi u,.int 1 v] },toks:=tk }:=I.kept fun b o e=>Heap.get?_push_of_some _ e
 refine ⟨(s.heap.push { cls:=.type "range",data:=.fields #[.int lo t,.int hi u,.int 1 v] }).objs.size,[(s.heap.push { cls:=.type "range",data:=.fields #[.int lo t,.int hi u,.int 1 v] }).objs.size],_,_,H,rfl,
   I1.kept (t':=tk) fun b o e=>Heap.get?_push_of_some _ e,oS _ lo (hi - lo).toNat,?_,fun b hb=>?_,q⟩
 · have e1:lo+((0:Nat):Int) * 1=lo:=by simp
   have e2:(((hi - lo).toNat:Nat):Int) - ((0:Nat):Int)=Builtin.Range.rangeSize lo hi 1:=by rw [rangeSize_one];split <;> lia
   show IsRangeIter _ _ (lo+((0:Nat):Int) * 1) ((((hi - lo).toNat:Nat):Int) - ((0:Nat):Int)) 1
   rw [e1,e2]
   exact Heap.get?_push_size _ rfl
 · have e:b=(s.heap.push { cls:=.type "range",data:=.fields #[.int lo t,.int hi u,.int 1 v] }).objs.size:=by simpa using hb
   subst e
   exact I1.fpOk (Nat.le_refl _) (I1.hok.fresh (Nat.le_refl _))
noncomputable def AR (ta:TA):TI:=fun σ H R=>ta σ H fun vs H1=>∃ j:Int,vs=[.int j]/\-(2 ^ 62)<=j/\j < 2 ^ 62/\R (Itr 0 j.toNat) H1
theorem p5 {a:Expr} {ta:TA} {p pos:Pos} (hg:Gl X "range") (hm:X.mg "range" = none) (ha:PA X [a] ta) (hs:starEach [a] X.env=[(false,eval a X.env)]:=by rfl):PI X tg (.Call (.Name "range" p) [a] [] pos) (AR ta):=by
 intro pins s σ H R I h
 refine Call_ (iQ I hg hm boot_range (PyProof.Rows.callWith_type1 (thn (ha pos pins s σ H _ I h) fun us s1 ⟨vs,H1,I1,r1,q1⟩=>?_) hs rfl))
 obtain ⟨j,e,q1,q2,q⟩:=q1
 subst e
 cases r1 with
 | cons r rr =>
   cases rr
   obtain ⟨t,rfl⟩:=r
   exact call_range_1 (sv I1 (by lia) (by lia) q1 q2 (by simpa using q))
noncomputable def Ca (wi:TI) (g:TG) (tb:TS):TS:=fun D σ H=>wi σ H fun J H1=>∃ W:Nat->Nat->St->Hp->Prop,(∃ m,W 0 m σ H1)/\∀ i m σ H,W i m σ H →
 (J.stop i H/\D.nx σ H)\/(J.go i H/\∃ N:St->Hp->Prop,(∀ σ' H',N σ' H'->∃ m',m' < m/\W (i+1) m' σ' H')/\∀ x H',J.yld i H x H'->g x σ H' fun σ2 H2=>tb { D with nx:=N,ct:=N,bk:=D.nx } σ2 H2)
noncomputable def jV (fp:List Addr) (h:Heap):List (Addr×Obj):=fp.filterMap fun b=>(h.get? b).map fun o=>(b,o)
theorem fW {fp:List Addr} {h:Heap} {b:Addr} {o:Obj} (hb:b∈fp) (e:h.get? b=some o):(b,o)∈jV fp h:=List.mem_filterMap.mpr ⟨b,hb,by rw [e];rfl⟩
theorem qK {fp:List Addr} {h:Heap} {p:Addr×Obj} (hp:p∈jV fp h):p.1∈fp/\h.get? p.1=some p.2:=by
 obtain ⟨b,hb,e⟩:=List.mem_filterMap.mp hp
 cases q:h.get? b with
 | none=>rw [q] at e;cases e
 | some o =>
   rw [q] at e
   have e':(b,o)=p:=Option.some.inj e
   subst e'
   exact ⟨hb,q⟩
theorem Inv.pinned {pins:List (Addr×Obj)} {σ:St} {H:Hp} {s:Shared} {fp:List Addr} (I:Inv X pins σ H s) (hf:∀ b∈fp,ic X pins H b) (ho:∀ b∈fp,∃ o,s.heap.get? b=some o/\∀ v,o.data ≠ .cell v):Inv X (pins++jV fp s.heap) σ H s :=
 I.pins_of fun p hp=>(List.mem_append.mp hp).elim (fun z=>I.pin p (List.mem_append_right _ z)) fun z=>by
   obtain ⟨hb,e⟩:=qK z
   obtain ⟨f0,f1,f2,_⟩:=hf p.1 hb
   obtain ⟨o,e',d⟩:=ho p.1 hb
   rw [e] at e';cases e'
   exact ⟨e,f0,f1,f2,d⟩
theorem Inv.unpinned {pins pl:List (Addr×Obj)} {σ:St} {H:Hp} {s:Shared} (I:Inv X (pins++pl) σ H s):Inv X pins σ H s:=I.pins_of fun p hp=>I.pin p (List.mem_append_right _ (List.mem_append_left _ hp))
theorem yY {iter:Expr} {body:List Stmt} {wi:TI} {g:TG} {tb:TS} {pos:Pos} (hp:PassesOwn (model X.prog X.w) X.A X.env X.xe) (hc:X.calm=true) (hi:PI X tg iter wi) (hg:PG X tg g) (hb:PSs X body tb)
   (hs:∀ x,foldedSetIterable iter X.env x=pure x:=by intro _;rfl):PS X (.For tg iter body [] pos) (Ca wi g tb):=by
 intro pins s σ H D I h
 refine wpAny_For (thn (hi pins s σ H _ I h) fun v s1 h1=>thn h1 fun itv s2 h2=>?_) hs
 obtain ⟨it,fp,tn,J,H2,e,I2,T,st2,f2,W,⟨m0,w0⟩,turn⟩:=h2
 subst e
 have stat:∀ {H':Hp},(∀ b∈fp,H' b=none)->∀ b∈fp,ic X pins H' b:=fun hn b hb=>⟨hn b hb,(f2 b hb).2⟩
 refine codeAny_forLoop_any (fun n s'=>∃ i σ' H',Inv X pins σ' H' s'/\tn i s'.heap/\(∀ b∈fp,H' b=none)/\W i n σ' H') ?_ m0 ⟨0,σ,H2,I2,st2,fun b hb=>(f2 b hb).1,w0⟩
 rintro n s3 ⟨i,σ3,H3,I3,st3,fr3,w3⟩
 rcases turn i n σ3 H3 w3 with ⟨stop,qn⟩ | ⟨go,N,hN,step⟩
 · refine wpAny_passesOwn hp (thn (T.done X rfl rfl rfl hc i pins s3 σ3 H3 X.xe I3 (stat fr3) st3 stop) fun r s4 ⟨hr,I4⟩=>?_)
   subst hr
   exact wpAny_execs_nil ⟨σ3,H3,I4,qn⟩
 · refine wpAny_passesOwn hp (thn (T.item X rfl rfl rfl hc i pins s3 σ3 H3 X.xe I3 (stat fr3) st3 go) fun r s4 ⟨u,hr,h4⟩=>?_)
   subst hr
   refine wpAny_passesOwn hp (thn h4 fun _ s5 ⟨x,H5,I5,r5,y5,st5,fr5⟩=>?_)
   have I5':=I5.pinned (stat fr5) (T.obj _ _ st5)
   refine wpAny_passesOwn hp (thn (hg _ s5 σ3 H5 x u _ I5' r5 (step x H5 y5)) fun _ s6 ⟨σ6,H6,I6,q6⟩=>?_)
   refine wpAny_passesOwn hp (thn (hb _ s6 σ6 H6 _ I6 q6) fun f s7 q7=>?_)
   have again:∀ {σ7:St} {H7:Hp},Inv X (pins++jV fp s5.heap) σ7 H7 s7->N σ7 H7->∃ m,m < n/\∃ i σ' H',Inv X pins σ' H' s7/\tn i s7.heap/\(∀ b∈fp,H' b=none)/\W i m σ' H':=fun {σ7 H7} I7 n7=>by
     obtain ⟨m',hm,w7⟩:=hN σ7 H7 n7
     refine ⟨m',hm,i+1,σ7,H7,I7.unpinned,T.keep _ _ _ st5 fun b hb o e=>(I7.pin (b,o) (List.mem_append_right _ (List.mem_append_right _ (fW hb e)))).1,fun b hb=>?_,w7⟩
     obtain ⟨o,e,d⟩:=T.obj _ _ st5 b hb
     exact (I7.pin (b,o) (List.mem_append_right _ (List.mem_append_right _ (fW hb e)))).2.1
   cases f with
   | next=>obtain ⟨σ7,H7,I7,n7⟩:=q7;exact again I7 n7
   | cont=>obtain ⟨σ7,H7,I7,n7⟩:=q7;exact again I7 n7
   | brk=>obtain ⟨σ7,H7,I7,q7⟩:=q7;exact ⟨σ7,H7,I7.unpinned,q7⟩
   | ret v=>obtain ⟨x7,σ7,H7,I7,r7,q7⟩:=q7;exact ⟨x7,σ7,H7,I7.unpinned,r7,q7⟩
end
end L2
namespace L2
open PySem PySem.Spec PyProof.Rows
noncomputable abbrev R2:=V->V->Hp->VK->Prop
noncomputable def OpR (X:Cx) (f:Value->Value->Sem Value) (r:R2):Prop :=
 ∀ (pins:List (Addr×Obj)) (s:Shared) (σ:St) (H:Hp) (x y:V) (v u:Value) (Q:VK),Inv X pins σ H s->RelV x v->RelV y u->r x y H Q →
   wpAny (model X.prog X.w) X.A (f v u) (EP X pins σ Q) X.xe s
noncomputable def UnR (X:Cx) (f:Value->Sem Value) (r:V->Hp->VK->Prop):Prop :=
 ∀ (pins:List (Addr×Obj)) (s:Shared) (σ:St) (H:Hp) (x:V) (v:Value) (Q:VK),Inv X pins σ H s->RelV x v->r x H Q →
   wpAny (model X.prog X.w) X.A (f v) (EP X pins σ Q) X.xe s
noncomputable def dB (X:Cx) (f:Value) (r:List V->Hp->VK->Prop):Prop :=
 ∀ (pins:List (Addr×Obj)) (s:Shared) (σ:St) (H:Hp) (xs:List V) (us:List Value) (Q:VK),Inv X pins σ H s->aP xs us->r xs H Q →
   wpAny (model X.prog X.w) X.A (call f us) (EP X pins σ Q) X.xe s
noncomputable def BQ (X:Cx) (r:V->Hp->(Bool->Hp->Prop)->Prop):Prop :=
 ∀ (pins:List (Addr×Obj)) (s:Shared) (σ:St) (H:Hp) (x:V) (v:Value) (Q:Bool->Hp->Prop),Inv X pins σ H s->RelV x v->r x H Q →
   wpAny (model X.prog X.w) X.A (truthy v) (TP X pins σ Q) X.xe s
noncomputable def tOp (r:R2) (ta tb:TE):TE:=fun σ H Q=>ta σ H fun x H1=>tb σ H1 fun y H2=>r x y H2 Q
noncomputable def tUn (r:V->Hp->VK->Prop) (ta:TE):TE:=fun σ H Q=>ta σ H fun x H1=>r x H1 Q
noncomputable def rI (C:Int->Int->Prop) (g:Int->Int->V):R2:=fun x y H Q=>∃ i j,x=.int i/\y=.int j/\C i j/\Q (g i j) H
noncomputable def rI0 (g:Int->Int->V):R2:=fun x y H Q=>∃ i j,x=.int i/\y=.int j/\Q (g i j) H
noncomputable def rU (g:Int->V):V->Hp->VK->Prop:=fun x H Q=>∃ i,x=.int i/\Q (g i) H
section
variable {X:Cx} {a b c:Expr} {ta tb tc:TE} {pos:Pos}
theorem Aa (ha:PE X a ta) (hb:PE X b tb) {pins:List (Addr×Obj)} {s:Shared} {σ:St} {H:Hp} {R:V->V->Hp->Prop} (I:Inv X pins σ H s)
   (h:ta σ H fun x H1=>tb σ H1 fun y H2=>R x y H2) {Q:Value->Shared->Prop} {f:Value->Value->Sem Value}
   (hf:∀ v u s2 x y H2,Inv X pins σ H2 s2->RelV x v->RelV y u->R x y H2->wpAny (model X.prog X.w) X.A (f v u) Q X.xe s2) :
   wpAny (model X.prog X.w) X.A (eval a X.env) (fun v s₁=>wpAny (model X.prog X.w) X.A (eval b X.env) (fun u s₂=>wpAny (model X.prog X.w) X.A (f v u) Q X.xe s₂) X.xe s₁) X.xe s:=by
 refine thn (ha pins s σ H _ I h) fun v s1 ⟨x,H1,I1,r1,q1⟩=>?_
 refine thn (hb pins s1 σ H1 _ I1 q1) fun u s2 ⟨y,H2,I2,r2,q2⟩=>?_
 exact hf v u s2 x y H2 I2 r1 r2 q2
theorem BB {op:Operator} {r:R2} (ho:OpR X (binaryOp op) r) (ha:PE X a ta) (hb:PE X b tb):PE X (.BinOp a op b pos) (tOp r ta tb):=by
 intro pins s σ H Q I h
 exact wpAny_BinOp (Aa ha hb I h fun v u s2 x y H2 I2 rx ry q=>ho pins s2 σ H2 x y v u Q I2 rx ry q)
theorem Ak {op:UnaryOp} {r:V->Hp->VK->Prop} (ho:UnR X (unaryOp op) r) (ha:PE X a ta):PE X (.UnaryOp op a pos) (tUn r ta):=by
 intro pins s σ H Q I h
 exact UnaryOp_ (thn (ha pins s σ H _ I h) fun v s1 ⟨x,H1,I1,r1,q1⟩=>ho pins s1 σ H1 x v Q I1 r1 q1)
theorem opI {f:Value->Value->Sem Value} {C:Int->Int->Prop} {g:Int->Int->Int}
   (rule:∀ (i j:Int) (t u:Tok) (s:Shared) (Q:Value->Shared->Prop) (E:Value->Shared->Prop),C i j->Q (.int (g i j) s.toks) { s with toks:=s.toks+1 }->wpAny (model X.prog X.w) X.A (f (.int i t) (.int j u)) Q E s) :
   OpR X f (rI C fun i j=>.int (g i j)):=by
 intro pins s σ H x y v u Q I rx ry h
 obtain ⟨i,j,rfl,rfl,hc,q⟩:=h
 obtain ⟨t,rfl⟩:=rx
 obtain ⟨t',rfl⟩:=ry
 exact rule i j t t' s _ _ hc ⟨.int (g i j),H,I.tok _,⟨_,rfl⟩,q⟩
theorem AQ {f:Value->Value->Sem Value} {g:Int->Int->Int}
   (rule:∀ (i j:Int) (t u:Tok) (s:Shared) (Q:Value->Shared->Prop) (E:Value->Shared->Prop),Q (.int (g i j) s.toks) { s with toks:=s.toks+1 }->wpAny (model X.prog X.w) X.A (f (.int i t) (.int j u)) Q E s) :
   OpR X f (rI0 fun i j=>.int (g i j)):=by
 intro pins s σ H x y v u Q I rx ry h
 obtain ⟨i,j,rfl,rfl,q⟩:=h
 obtain ⟨t,rfl⟩:=rx
 obtain ⟨t',rfl⟩:=ry
 exact rule i j t t' s _ _ ⟨.int (g i j),H,I.tok _,⟨_,rfl⟩,q⟩
theorem vM {f:Value->Value->Sem Value} {g:Int->Int->Bool}
   (rule:∀ (i j:Int) (t u:Tok) (s:Shared) (Q:Value->Shared->Prop) (E:Value->Shared->Prop),Q (.bool (g i j)) s->wpAny (model X.prog X.w) X.A (f (.int i t) (.int j u)) Q E s) :
   OpR X f (rI0 fun i j=>.bl (g i j)):=by
 intro pins s σ H x y v u Q I rx ry h
 obtain ⟨i,j,rfl,rfl,q⟩:=h
 obtain ⟨t,rfl⟩:=rx
 obtain ⟨t',rfl⟩:=ry
 exact rule i j t t' s _ _ ⟨.bl (g i j),H,I,rfl,q⟩
noncomputable def Aw (i j:Int):Prop:=0 < j/\j < 1073741824
noncomputable def AK (i j:Int):Prop:=0<=j/\j<=1000000/\i.natAbs < 2 ^ 64
noncomputable def vf (i j:Int):Prop:=(-(2 ^ 64) < i/\i < 2 ^ 64)\/(-(2 ^ 64) < j/\j < 2 ^ 64)
theorem vf.ok {i j:Int} (h:vf i j):IntMulOk i j:=by
 rcases h with ⟨h1,h2⟩ | ⟨h1,h2⟩
 · exact .of_left (intBits_le_64 h1 h2)
 · exact .of_right (intBits_le_64 h1 h2)
theorem ym:OpR X (binaryOp .Add) (rI0 fun i j=>.int (i+j)):=AQ fun _ _ _ _ _ _ _ q=>add_int q
theorem yd:OpR X (binaryOp .Sub) (rI0 fun i j=>.int (i - j)):=AQ fun _ _ _ _ _ _ _ q=>sub_int q
theorem yC:OpR X (binaryOp .Mult) (rI vf fun i j=>.int (i * j)):=opI fun _ _ _ _ _ _ _ hc q=>mul_int q hc.ok
theorem vA:OpR X (binaryOp .FloorDiv) (rI Aw fun i j=>.int (i / j)):=opI fun i j _ _ _ _ _ hc q=>by
 have h1:(0:Int) < j:=hc.1
 have h2:j < 1073741824:=hc.2
 exact floordiv_int (by lia) (by rw [Int.fdiv_eq_ediv_of_nonneg i (by lia)];exact q) (.inl (PyProof.noPylong_small (by lia)))
theorem yp:OpR X (binaryOp .Mod) (rI (fun _ j=>0 < j) fun i j=>.int (i % j)):=opI fun i j _ _ _ _ _ hc q=>by
 have h1:(0:Int) < j:=hc
 exact mod_int' (by lia) (by rw [Int.fmod_eq_emod_of_nonneg i (by lia)];exact q)
theorem yo:OpR X (binaryOp .Pow) (rI AK fun i j=>.int (i ^ j.toNat)):=opI fun _ _ _ _ _ _ _ hc q=>pow_int_small hc.1 hc.2.1 hc.2.2 q
theorem unI {f:Value->Sem Value} {g:Int->Int}
   (rule:∀ (i:Int) (t:Tok) (s:Shared) (Q:Value->Shared->Prop) (E:Value->Shared->Prop),Q (.int (g i) s.toks) { s with toks:=s.toks+1 }->wpAny (model X.prog X.w) X.A (f (.int i t)) Q E s) :
   UnR X f (rU fun i=>.int (g i)):=by
 intro pins s σ H x v Q I rx h
 obtain ⟨i,rfl,q⟩:=h
 obtain ⟨t,rfl⟩:=rx
 exact rule i t s _ _ ⟨.int (g i),H,I.tok _,⟨_,rfl⟩,q⟩
theorem zX:UnR X (unaryOp .USub) (rU fun i=>.int (-i)):=unI fun _ _ _ _ _ q=>neg_int q
end
section
variable {X:Cx} {a b c:Expr} {ta tb tc:TE} {pos:Pos}
theorem zL {pins:List (Addr×Obj)} {σ:St} {H:Hp} {s:Shared} {Q:VK} {k k':Bool} (I:Inv X pins σ H s) (q:Q (.bl k) H) (e:k=k'):EP X pins σ Q (.bool k') s:=by
 subst e
 exact ⟨.bl k,H,I,rfl,q⟩
theorem AE:OpR X (compareOp .Lt) (rI0 fun i j=>.bl (decide (i < j))):=vM fun _ _ _ _ _ _ _ q=>lt_int q
theorem Bn:OpR X (compareOp .LtE) (rI0 fun i j=>.bl (decide (i<=j))):=vM fun _ _ _ _ _ _ _ q=>le_int q
theorem AG:OpR X (compareOp .Gt) (rI0 fun i j=>.bl (decide (j < i))):=vM fun _ _ _ _ _ _ _ q=>gt_int q
theorem Bw:OpR X (compareOp .GtE) (rI0 fun i j=>.bl (decide (j<=i))):=vM fun _ _ _ _ _ _ _ q=>ge_int q
theorem qO:OpR X (compareOp .Lt) (fun x y H Q=>∃ i j,x=.str i/\y=.str j/\Q (.bl (decide (i.cps.toList < j.cps.toList))) H):=by
 intro pins s σ H x y v u Q I rx ry h
 obtain ⟨i,j,rfl,rfl,q⟩:=h
 obtain ⟨t,rfl⟩:=rx
 obtain ⟨t',rfl⟩:=ry
 exact lt_str (zL I q rfl)
theorem OpR.or {f:Value->Value->Sem Value} {r r':R2} (h:OpR X f r) (h':OpR X f r'):OpR X f (fun x y H Q=>r x y H Q\/r' x y H Q):=by
 intro pins s σ H x y v u Q I rx ry q
 rcases q with q | q
 · exact h pins s σ H x y v u Q I rx ry q
 · exact h' pins s σ H x y v u Q I rx ry q
theorem iX (b:Expr) {op:CmpOp} (h:op ≠ .In:=by decide) (h2:op ≠ .NotIn:=by decide):behindInMarks op b=false:=by
 have e1:(op == CmpOp.In)=false:=by cases op <;> first | rfl | exact absurd rfl h
 have e2:(op == CmpOp.NotIn)=false:=by cases op <;> first | rfl | exact absurd rfl h2
 cases b <;> simp [behindInMarks,e1,e2]
theorem wR {op:CmpOp} {r:R2} (ho:OpR X (compareOp op) r) (ha:PE X a ta) (hb:PE X b tb) (hm:behindInMarks op b=false):PE X (.Compare a [op] [b] pos) (tOp r ta tb):=by
 intro pins s σ H Q I h
 exact wpAny_Compare1 (Aa ha hb I h fun v u s2 x y H2 I2 rx ry q=>ho pins s2 σ H2 x y v u Q I2 rx ry q) hm
noncomputable def se (t:TE):TT:=fun σ H Q=>t σ H fun x H'=>∃ k,x=.bl k/\Q k H'
theorem wu {op:CmpOp} {r:R2} (ho:OpR X (compareOp op) r) (ha:PE X a ta) (hb:PE X b tb) (hm:behindInMarks op b=false):PT X (.Compare a [op] [b] pos) (se (tOp r ta tb)):=by
 intro pins s σ H Q I h
 refine wpAny_isTrue_Compare1 (thn (ha pins s σ H _ I h) fun v s1 ⟨x,H1,I1,r1,q1⟩=>thn (hb pins s1 σ H1 _ I1 q1) fun u s2 ⟨y,H2,I2,r2,q2⟩ =>
   thn (ho pins s2 σ H2 x y v u _ I2 r1 r2 q2) fun c s3 ⟨z,H3,I3,r3,k,e,q3⟩=>?_) hm
 subst e
 cases r3
 exact wpAny_truthy_bool ⟨H3,I3,q3⟩
noncomputable def tB (r r':R2) (ta tb tc:TE):TE:=fun σ H Q=>ta σ H fun x H1=>tb σ H1 fun y H2=>r x y H2 fun z H3=>∃ k,z=.bl k ∧
 (if k=true then tc σ H3 fun w' H4=>r' y w' H4 Q else Q (.bl false) H3)
theorem uc {op op':CmpOp} {r r':R2} (ho:OpR X (compareOp op) r) (ho':OpR X (compareOp op') r') (ha:PE X a ta) (hb:PE X b tb) (hc:PE X c tc)
   (hm:lastMarks [op,op'] [b,c]=false:=by with_unfolding_all rfl):PT X (.Compare a [op,op'] [b,c] pos) (se (tB r r' ta tb tc)):=by
 intro pins s σ H Q I h
 refine isTrue_chain (thn (ha pins s σ H _ I h) fun v s1 ⟨x,H1,I1,r1,q1⟩=>test_link (thn (hb pins s1 σ H1 _ I1 q1) fun u s2 ⟨y,H2,I2,r2,q2⟩ =>
   thn (ho pins s2 σ H2 x y v u _ I2 r1 r2 q2) fun d s3 ⟨z,H3,I3,r3,k,e,q3⟩=>?_)) hm
 subst e
 cases r3
 refine wpAny_truthy_bool ?_
 cases k with
 | false =>
   obtain ⟨k',e',q'⟩:=q3
   cases e'
   exact ite_ff ⟨H3,I3,q'⟩
 | true =>
   refine ite_tt (test_last (thn (hc pins s3 σ H3 _ I3 q3) fun w' s4 ⟨z',H4,I4,r4,q4⟩=>thn (ho' pins s4 σ H4 y z' u w' _ I4 r2 r4 q4) fun d' s5 ⟨z2,H5,I5,r5,k2,e2,q5⟩=>?_))
   subst e2
   cases r5
   exact wpAny_truthy_bool ⟨H5,I5,q5⟩
noncomputable def yP (K:PySem.W.Frag) (x:V) (H:Hp) (k:Bool):Prop :=
 match x with
 | .non=>k=false
 | .bl b=>k=b
 | .int i=>k=(i != 0)
 | .str y=>y.length<=sizeLine/\k=((y.length:Int) != 0)
 | .byt y=>y.size<=sizeLine/\k=((y.size:Int) != 0)
 | .ref p=>(∃ xs,SqL K H p xs/\k=!xs.isEmpty)\/(∃ xs,SqT K H p xs/\k=!xs.isEmpty)\/∃ kvs,H p=some (.dK kvs)/\k=!kvs.isEmpty
 | _=>False
theorem oU {κ:Type} {kvs:List (κ×V)} {vs:List (κ×Value)} (r:KV kvs vs):(!vs.isEmpty)=!kvs.isEmpty:=by
 cases r <;> rfl
theorem jM {xs:List V} {its:List Value} (r:aP xs its):(!its.toArray.isEmpty)=!xs.isEmpty:=by
 cases r <;> simp
theorem iU:(sizeLine:Nat) < 2 ^ 63:=by rw [sizeLine_eq];decide
theorem yG:BQ X (fun x H Q=>∃ k,yP X.K x H k/\Q k H):=by
 intro pins s σ H x v Q I rx h
 obtain ⟨k,e,q⟩:=h
 have hl:=iU
 have hs:sizeLine=16777216:=sizeLine_eq
 cases x with
 | non =>
   cases rx
   have e':k=false:=e
   subst e'
   exact truthy_none ⟨H,I,q⟩
 | bl b =>
   cases rx
   have e':k=b:=e
   subst e'
   exact wpAny_truthy_bool ⟨H,I,q⟩
 | int i =>
   obtain ⟨t,rfl⟩:=rx
   have e':k=(i != 0):=e
   subst e'
   exact PySem.P.truthy_int ⟨H,I,q⟩
 | str y =>
   obtain ⟨t,rfl⟩:=rx
   obtain ⟨hy,e'⟩:y.length<=sizeLine/\k=((y.length:Int) != 0):=e
   subst e'
   exact PySem.P.truthy_str (by lia) ⟨H,I.tok _,q⟩
 | byt y =>
   obtain ⟨t,rfl⟩:=rx
   obtain ⟨hy,e'⟩:y.size<=sizeLine/\k=((y.size:Int) != 0):=e
   subst e'
   exact PySem.W.truthy_bytes (by lia) ⟨H,I.tok _,q⟩
 | ref p =>
   cases rx
   have e':(∃ xs,SqL X.K H p xs/\k=!xs.isEmpty)\/(∃ xs,SqT X.K H p xs/\k=!xs.isEmpty)\/∃ kvs,H p=some (.dK kvs)/\k=!kvs.isEmpty:=e
   rcases e' with ⟨xs,hx,e'⟩ | ⟨xs,hx,e'⟩ | ⟨kvs,hx,e'⟩
   · subst e'
     obtain ⟨its,r,pl,hz⟩:=I.list hx
     have hlen:=r.length
     exact wpAny_truthy_list pl.isList (by simp only [List.size_toArray];lia) ⟨H,I.tok _,by rw [jM r];exact q⟩
   · subst e'
     obtain ⟨its,r,pl,hz⟩:=I.tuple hx
     have hlen:=r.length
     exact truthy_tuple pl (by simp only [List.size_toArray];lia) ⟨H,I.tok _,by rw [jM r];exact q⟩
   · subst e'
     obtain ⟨hz,hS,vs,r,m⟩:kvs.length<=sizeLine/\(p == sysModules)=false/\∃ vs,KV kvs vs/\s.heap.DictOf (bx X.prog X.w) p vs:=I.hok p _ hx
     have hlen:kvs.length=vs.length:=Paired.length r
     exact wpAny_truthy_dict hS m (by lia) ⟨H,I.tok _,by rw [oU r];exact q⟩
 | _=>exact (show False from e).elim
theorem sD (ha:PE X a ta) (he:∀ whole,isTrue a X.env whole=(do let v ← whole;standAt a.pos;holding [v] (truthy v))) :
   PT X a (fun σ H Q=>ta σ H fun x H'=>∃ k,yP X.K x H' k/\Q k H'):=by
 intro pins s σ H Q I h
 exact isTrue_plain (thn (ha pins s σ H _ I h) fun v s1 ⟨x,H1,I1,r1,q1⟩=>yG pins s1 σ H1 x v Q I1 r1 q1) (he _)
theorem oP:OpR X (binaryOp .Add) (fun x y H Q=>∃ i j,x=.str i/\y=.str j/\i.length+j.length<=sizeLine/\Q (.str (i++j)) H):=by
 intro pins s σ H x y v u Q I rx ry h
 obtain ⟨i,j,rfl,rfl,hz,q⟩:=h
 obtain ⟨t,rfl⟩:=rx
 obtain ⟨t',rfl⟩:=ry
 exact add_str (fun t' tk=>⟨.str (i++j),H,I.tok _,⟨_,rfl⟩,q⟩) hz
theorem vals1 {x:V} {us:List Value} (r:aP [x] us):∃ u,us=[u]/\RelV x u:=by
 cases r with
 | cons r1 r2=>cases r2;exact ⟨_,rfl,r1⟩
theorem vals2 {x y:V} {us:List Value} (r:aP [x,y] us):∃ u w',us=[u,w']/\RelV x u/\RelV y w':=by
 cases r with
 | cons r1 r2 =>
   cases r2 with
   | cons r3 r4=>cases r4;exact ⟨_,_,rfl,r1,r3⟩
theorem qR (hc:X.calm=true):dB X (.builtin "min") (fun xs H Q=>∃ i j,xs=[.int i,.int j]/\Q (.int (if j < i then j else i)) H):=by
 intro pins s σ H xs us Q I r h
 obtain ⟨i,j,rfl,q⟩:=h
 obtain ⟨u,w',rfl,⟨t,rfl⟩,⟨t',rfl⟩⟩:=vals2 r
 refine min_two_ints (I.ok.hd hc) fun h' tk k=>⟨_,H,I.kept k,?_,q⟩
 by_cases hj:j < i
 · rw [if_pos hj,if_pos hj];exact ⟨_,rfl⟩
 · rw [if_neg hj,if_neg hj];exact ⟨_,rfl⟩
noncomputable def Bm (K:PySem.W.Frag) (x:V) (H:Hp) (n:Nat):Prop :=
 match x with
 | .str y=>y.length<=sizeLine/\n=y.length
 | .byt y=>y.size<=sizeLine/\n=y.size
 | .ref p=>(∃ xs,SqL K H p xs/\n=xs.length)\/∃ xs,SqT K H p xs/\n=xs.length
 | _=>False
theorem t7:dB X (.builtin "len") (fun xs H Q=>∃ x n,xs=[x]/\Bm X.K x H n/\Q (.int n) H):=by
 intro pins s σ H xs us Q I r h
 obtain ⟨x,n,rfl,e,q⟩:=h
 obtain ⟨u,rfl,rx⟩:=vals1 r
 have hl:=iU
 have hs:sizeLine=16777216:=sizeLine_eq
 cases x with
 | str y =>
   obtain ⟨t,rfl⟩:=rx
   obtain ⟨hy,e'⟩:y.length<=sizeLine/\n=y.length:=e
   subst e'
   exact len_str (by lia) ⟨.int _,H,I.tok _,⟨_,rfl⟩,q⟩
 | byt y =>
   obtain ⟨t,rfl⟩:=rx
   obtain ⟨hy,e'⟩:y.size<=sizeLine/\n=y.size:=e
   subst e'
   exact PySem.W.len_bytes (by lia) ⟨.int _,H,I.tok _,⟨_,rfl⟩,q⟩
 | ref p =>
   cases rx
   have e':(∃ xs,SqL X.K H p xs/\n=xs.length)\/∃ xs,SqT X.K H p xs/\n=xs.length:=e
   rcases e' with ⟨xs,hx,e'⟩ | ⟨xs,hx,e'⟩
   · subst e'
     obtain ⟨its,r',pl,hz⟩:=I.list hx
     have hlen:=r'.length
     exact Calls.call_len_list pl.isList (by simp only [List.size_toArray];lia) ⟨.int xs.length,H,I.tok _,⟨_,by simp only [List.size_toArray];rw [hlen]⟩,q⟩
   · subst e'
     obtain ⟨its,r',pl,hz⟩:=I.tuple hx
     have hlen:=r'.length
     exact len_tuple pl (by simp only [List.size_toArray];lia) ⟨.int xs.length,H,I.tok _,⟨_,by simp only [List.size_toArray];rw [hlen]⟩,q⟩
 | _=>exact (show False from e).elim
end
end L2
namespace L2
open PySem PySem.Spec PyProof.Rows
structure ObjM (h:Heap) (x dx C:Addr) (mA:Str->Option Value):Prop where
 obj:h.get? x=some (PySem.W.instObj C dx)
 ns:h.Ns1 dx mA
 ne:dx ≠ x
theorem qA {h:Heap} {dx:Addr} {mA:Str->Option Value} (n:h.Ns1 dx mA):∃ od,h.get? dx=some od/\∀ name,PySem.W.lookIn name od=some (mA name):=by
 obtain ⟨o,es,ep,ho,hd,hk,_,hm⟩:=n
 refine ⟨o,ho,fun name=>?_⟩
 have e:=hm name
 unfold nsFind findBy at e
 rw [← Array.find?_toList] at e
 unfold PySem.W.lookIn
 rw [hd]
 dsimp only
 split
 · rename_i y q
   rw [q] at e
   exact congrArg some e
 · rename_i q
   rw [q] at e
   have a:es.toList.any (·.refKey)=false:=by
     rw [List.any_eq_false]
     intro y hy
     obtain ⟨z,t,hkey⟩:=hk y (Array.mem_toList_iff.mp hy)
     simp [DictEntry.refKey,hkey]
   have a':¬ es.toList.any (·.refKey)=true:=by rw [a];exact Bool.false_ne_true
   rw [if_neg a']
   exact congrArg some e
theorem ObjM.look {h:Heap} {x dx C:Addr} {mA:Str->Option Value} (I:ObjM h x dx C mA):∃ od,PySem.W.InstAt h x (PySem.W.instObj C dx) C (some od)/\∀ name,PySem.W.lookIn name od=some (mA name) :=
 let ⟨od,ho,hl⟩:=qA I.ns
 ⟨od,⟨I.obj,rfl,rfl,ho⟩,hl⟩
section
variable {prog:Program} {w:World} {A:Around} {E:Value->Shared->Prop} {s:Shared} {K:PySem.W.Frag} {x dx C f:Addr} {mA:Str->Option Value} {name:Str} {v:Value}
end
theorem gH.some_of {v:V} {o:Option Value} (r:gH (some v) o):∃ u,o=some u/\RelV v u:=by
 cases o with
 | none=>exact (show False from r).elim
 | some u=>exact ⟨u,rfl,r⟩
theorem gH.none_of {o:Option Value} (r:gH none o):o=none:=by
 cases o with
 | none=>rfl
 | some u=>exact (show False from r).elim
section
variable {P:Program} {w:World} {H H':Hp} {h h':Heap} {a C dx:Addr} {fs fs':List (Str×V)}
theorem vY (hok:HOk P w H h) (e:H a=some (.ins C dx fs)):∃ mA,ObjM h a dx C mA/\(∀ f,gH (fs.lookup f) (mA f))/\PySem.Within mA (fs.map (·.1))/\fs.length<=1000/\H dx=some (.own a):=by
 obtain ⟨d,z,ne,ob,mA,n,r,q⟩:=(show aW P w H h a (.ins C dx fs) from hok a _ e)
 exact ⟨mA,⟨ob,n,ne⟩,r,q,z,d⟩
end
structure Cls (K:PySem.W.Frag) (C:Addr):Prop where
 pg:PySem.W.plainGet K C Str.empty=true
 hd:PySem.W.hasDictIn K C=true
 po:PySem.W.plainOver K C=true
 sa:PySem.W.findIn K (.ref C) "__setattr__" = some (some (.builtin "object.__setattr__"))
theorem Cls.get {K:PySem.W.Frag} {C:Addr} (c:Cls K C) (f:Str):PySem.W.plainGet K C f=true:=c.pg
section
variable {X:Cx} {pins:List (Addr×Obj)} {σ:St} {H:Hp} {s:Shared} {a C dx:Addr} {fs:List (Str×V)} {f:Str} {v:V} {A:Around} {E:Value->Shared->Prop}
end
section
variable {X:Cx} {o e value:Expr} {f:Str} {pos pos' tpos:Pos} {ta tv:TE}
noncomputable def zg:V->V->Hp->VK->Prop:=fun x y H Q=>∃ i j,x=.int i/\y=.int j/\Q (.int (i+j)) H
end
section
variable {X:Cx} {pins:List (Addr×Obj)} {σ:St} {H:Hp} {s:Shared} {A:Around} {E:Value->Shared->Prop} {Q:Value->Shared->Prop} {c:Value} {b:Bool}
inductive TyOf (K:PySem.W.Frag) (H:Hp):V->Value->Prop where
 | non:TyOf K H .non (.type "NoneType")
 | bl (x:Bool):TyOf K H (.bl x) (.type "bool")
 | int (i:Int):TyOf K H (.int i) (.type "int")
 | str (x:Str):TyOf K H (.str x) (.type "str")
 | flt (x:UInt64):TyOf K H (.flt x) (.type "float")
 | lst {a:Addr} {xs:List V} (e:H a=some (.lst xs)):TyOf K H (.ref a) (.type "list")
 | frz {a:Addr} {o:Obj} {xs:List V} (e:H a=some (.frz o (.lst xs))):TyOf K H (.ref a) (.type "list")
 | tup {a:Addr} {xs:List V} (e:H a=some (.tup xs)):TyOf K H (.ref a) (.type "tuple")
 | dK {a:Addr} {kvs:List (Key×V)} (e:H a=some (.dK kvs)):TyOf K H (.ref a) (.type "dict")
 | dT {a:Addr} {kvs:List (List Key×V)} (e:H a=some (.dT kvs)):TyOf K H (.ref a) (.type "dict")
 | ins {a C dx:Addr} {fs:List (Str×V)} (e:H a=some (.ins C dx fs)) (cl:Cls K C) (ha:PySem.W.findIn K (.ref C) "__class__" = some (some (.builtin "object.__class__")))
     (hn:PySem.W.specialIn K (.builtin "object.__class__") "__get__" = some (some (.builtin "getset_descriptor.__get__"))) (htk:PySem.W.takesIn K (.builtin "object.__class__")=some true)
     (hm:PySem.W.mroIn K C (.type "object")=some true):TyOf K H (.ref a) (.ref C)
theorem qq {x:V} {u t:Value} (I:Inv X pins σ H s) (rx:RelV x u) (ty:TyOf X.K H x t) (e:PySem.W.kitOne X.K t c=some b) (h:∀ tk,Q (.bool b) { s with toks:=tk }) :
   wpAny (model X.prog X.w) A (call (.builtin "isinstance") [u,c]) Q E s:=by
 cases ty with
 | non=>cases (show u=Value.none from rx);exact PySem.W.kia_one PySem.W.kitx_none I.kIn True.intro e (fun z=>nomatch z) h
 | bl y=>cases (show u=Value.bool y from rx);exact PySem.W.kia_one PySem.W.kitx_bool I.kIn True.intro e (fun z=>nomatch z) h
 | int i=>obtain ⟨t,q⟩:=(show ∃ t,u=Value.int i t from rx);cases q;exact PySem.W.kia_one PySem.W.kitx_int I.kIn True.intro e (fun z=>nomatch z) h
 | str y=>obtain ⟨t,q⟩:=(show ∃ t,u=Value.str y t from rx);cases q;exact PySem.W.kia_one PySem.W.kitx_str I.kIn True.intro e (fun z=>nomatch z) h
 | flt y=>obtain ⟨t,q⟩:=(show ∃ t,u=Value.float y t from rx);cases q;exact PySem.W.kia_one PySem.W.kitx_float I.kIn True.intro e (fun z=>nomatch z) h
 | @lst a xs ea =>
   cases (show u=Value.ref a from rx)
   obtain ⟨_,_,n,_,h1⟩:=(show aW X.prog X.w H s.heap a (.lst xs) from I.hok a _ ea)
   exact PySem.W.kia_one PySem.W.kitx_list I.kIn ⟨_,h1,rfl⟩ e (fun z=>nomatch z) h
 | @frz a ob xs ea =>
   cases (show u=Value.ref a from rx)
   obtain ⟨_,_,_,n,_,h1⟩:=(show aW X.prog X.w H s.heap a (.frz ob (.lst xs)) from I.hok a _ ea)
   exact PySem.W.kia_one PySem.W.kitx_list I.kIn ⟨_,h1,rfl⟩ e (fun z=>nomatch z) h
 | @tup a xs ea =>
   cases (show u=Value.ref a from rx)
   obtain ⟨_,_,_,_,p⟩:=(show aW X.prog X.w H s.heap a (.tup xs) from I.hok a _ ea)
   obtain ⟨o,h1,h2,_⟩:=p
   exact PySem.W.kia_one PySem.W.kitx_tuple I.kIn ⟨o,h1,h2⟩ e (fun z=>nomatch z) h
 | @dK a kvs ea =>
   cases (show u=Value.ref a from rx)
   obtain ⟨_,_,vs,_,p⟩:=(show aW X.prog X.w H s.heap a (.dK kvs) from I.hok a _ ea)
   obtain ⟨o,es,ep,h1,h2,_⟩:=p
   exact PySem.W.kia_one PySem.W.kitx_dict I.kIn ⟨o,h1,h2.1⟩ e (fun z=>nomatch z) h
 | @dT a kvs ea =>
   cases (show u=Value.ref a from rx)
   obtain ⟨_,_,xs,_,o,es,ep,h1,h2,_⟩:=(show aW X.prog X.w H s.heap a (.dT kvs) from I.hok a _ ea)
   exact PySem.W.kia_one PySem.W.kitx_dict I.kIn ⟨o,h1,h2.1⟩ e (fun z=>nomatch z) h
 | @ins a C dx fs ea cl ha hn htk hm =>
   cases (show u=Value.ref a from rx)
   obtain ⟨mA,O,_⟩:=vY I.hok ea
   obtain ⟨od,J,_⟩:=O.look
   exact PySem.W.kia_one (PySem.W.kitx_own (cl.get _) cl.hd ha hn htk hm) I.kIn J e (fun z=>nomatch z) h
end
end L2
namespace L2
open PySem PySem.Spec PyProof.Rows
structure Room (k:Nat) (A:Around):Prop where
 hd:A.handled=none
 dp:A.depth+3 * k+5 < recursionLimit
 un:A.units+16 * k+200 < cLine
theorem Room.mono {j k:Nat} {A:Around} (r:Room k A) (h:j<=k):Room j A:=⟨r.hd,by have:=r.dp;lia,by have:=r.un;lia⟩
theorem Room.deeper {k:Nat} {A:Around} (r:Room (k+1) A) (env:Env):Room k (A.deeper env) :=
 ⟨r.hd,by have:=r.dp;show A.depth+1+3 * k+5 < _;lia,by have:=r.un;show A.units+3+16 * k+200 < _;lia⟩
theorem Room.in1 {k:Nat} {A:Around} (r:Room (k+1) A):Room k A.in1 :=
 ⟨r.hd,by have:=r.dp;show A.depth+3 * k+5 < _;lia,by have:=r.un;show A.units+1+16 * k+200 < _;lia⟩
theorem Room.depth {k:Nat} {A:Around} (r:Room k A):A.depth < recursionLimit:=by have:=r.dp;lia
theorem Room.units {k:Nat} {A:Around} (r:Room k A):A.units+64 < cLine:=by have:=r.un;lia
noncomputable def Ba:TA:=fun _ H Q=>Q [] H
noncomputable def xN (ta:TE) (tr:TA):TA:=fun σ H Q=>ta σ H fun x H1=>tr σ H1 fun xs H2=>Q (x :: xs) H2
section
variable {X:Cx} {e:Expr} {es:List Expr} {te:TE} {t:TA} {pos:Pos}
theorem fC:PA X [] Ba:=fun _ _ _ _ H Q I h=>Calls.spliced_nil ⟨[],H,I,.nil,h⟩
theorem d7 (ha:PE X e te) (hr:PA X es t) (hs:starEach (e :: es) X.env=(false,eval e X.env) :: starEach es X.env:=by rfl):PA X (e :: es) (xN te t):=by
 intro pos pins s σ H Q I h
 rw [hs]
 show wpAny _ _ (spliced ((false,eval e X.env) :: backTo pos (starEach es X.env))) _ _ s
 refine Calls.spliced_cons (thn (ha pins s σ H _ I h) fun u s1 ⟨x,H1,I1,r1,q1⟩=>?_)
 exact thn (hr pos pins s1 σ H1 _ I1 q1) fun us s2 ⟨xs,H2,I2,r2,q2⟩=>⟨x :: xs,H2,I2,.cons r1 r2,q2⟩
noncomputable def BY (t:TA):TE:=fun σ H Q=>t σ H fun xs H1=>xs.length<=sizeLine/\∀ p,H1 p=none->Q (.ref p) (upd H1 p (.tup xs))
noncomputable def Cg (t:TA):TE:=fun σ H Q=>t σ H fun xs H1=>xs.length<=sizeLine/\∀ p,H1 p=none->Q (.ref p) (upd H1 p (.lst xs))
theorem zF {x1} (h:PA X es t):PE X (.Tuple es x1 pos) (BY t):=by
 intro pins s σ H Q I hq
 refine wpAny_Tuple_spliced (thn (h pos pins s σ H _ I hq) fun us s1 ⟨xs,H1,I1,r,z,q⟩=>⟨by rw [← r.length];exact z,?_⟩)
 have hf:H1 s1.heap.objs.size=none:=I1.hok.fresh (Nat.le_refl _)
 refine ⟨.ref s1.heap.objs.size,upd H1 s1.heap.objs.size (.tup xs),I1.laid (t':=s1.toks) (fun b u e=>Heap.get?_push_of_some _ e) (Nat.le_refl _) ?_,rfl,q _ hf⟩
 exact ⟨z,us,r,NoD.of (Heap.get?_push_size _ rfl) rfl,⟨_,Heap.get?_push_size _ rfl,rfl,_,rfl⟩⟩
theorem lK (h:PA X es t):PE X (.List es pos) (Cg t):=by
 intro pins s σ H Q I hq
 refine wpAny_List_spliced (thn (h pos pins s σ H _ I hq) fun us s1 ⟨xs,H1,I1,r,z,q⟩=>⟨by rw [← r.length];exact z,?_⟩)
 have hf:H1 s1.heap.objs.size=none:=I1.hok.fresh (Nat.le_refl _)
 refine ⟨.ref s1.heap.objs.size,upd H1 s1.heap.objs.size (.lst xs),I1.laid (t':=s1.toks) (fun b u e=>Heap.get?_push_of_some _ e) (Nat.le_refl _) ?_,rfl,q _ hf⟩
 exact ⟨z,us,0,r,Heap.get?_push_size _ rfl⟩
end
noncomputable abbrev Sp:=List V->Hp->VK->XK->Prop
noncomputable abbrev CXT:=List Env->Hp->Shared->XK->Value->Shared->Prop
structure Env0 (P:Program) (w:World) (K:PySem.W.Frag) (mg:Str->Option Value) (base:Heap) (A:Around) (outer:List Env) (s:Shared) (H:Hp):Prop where
 frames:A.frames=some outer
 mod:Mod K mg base
 bs:∀ b o,base.get? b=some o->s.heap.get? b=some o/\H b=none
 bsz:base.objs.size<=s.heap.objs.size
 funs:s.heap.FunFrames base outer
 frf:∀ b∈frs outer,H b=none
 hok:HOk P w H s.heap
 bare:AllBare s.gens
noncomputable def CE (outer:List Env) (P:Program) (w:World) (H:Hp) (s:Shared) (Q:VK) (u:Value) (s':Shared):Prop :=
 ∃ v H',s'.os=s.os/\AllBare s'.gens/\Un (frs outer) [] H H' s.heap s'.heap/\HOk P w H' s'.heap/\RelV v u/\Q v H'
noncomputable def CR (CX:CXT) (outer:List Env) (P:Program) (w:World) (H:Hp) (s:Shared) (Q:VK) (E:XK) (r:Result) (s':Shared):Prop :=
 match r with
 | .ok (.ret u)=>CE outer P w H s Q u s'
 | .ok _=>False
 | .error e=>CX outer H s E e s'
structure FnOk (P:Program) (w:World) (K:PySem.W.Frag) (mg:Str->Option Value) (base:Heap) (CX:CXT) (k:Nat) (f:Addr) (fd:FuncData) (ps:List Str) (sp:Sp):Prop where
 len:∀ vs H Q E,sp vs H Q E->vs.length=ps.length
 run:∀ (A:Around) (outer:List Env) (s:Shared) (H:Hp) (args:Args) (us:List Value) (vs:List V) (Q:VK) (E:XK),Room k A->Env0 P w K mg base A outer s H->BindsTo s fd args (ps.zip us)->aP vs us->sp vs H Q E →
   codeAny (model P w) A (.call (.ref f) args) (CR CX outer P w H s Q E) s
theorem FnOk.mono {P:Program} {w:World} {K:PySem.W.Frag} {mg:Str->Option Value} {base:Heap} {CX:CXT} {j k:Nat} {f:Addr} {fd:FuncData} {ps:List Str} {sp:Sp} (F:FnOk P w K mg base CX j f fd ps sp) (h:j<=k) :
   FnOk P w K mg base CX k f fd ps sp:=⟨F.len,fun A outer s H args us vs Q E hr=>F.run A outer s H args us vs Q E (hr.mono h)⟩
theorem FnOk.imp {P:Program} {w:World} {K:PySem.W.Frag} {mg:Str->Option Value} {base:Heap} {CX:CXT} {k:Nat} {f:Addr} {fd:FuncData} {ps:List Str} {sp sp':Sp} (F:FnOk P w K mg base CX k f fd ps sp)
   (h:∀ vs H Q E,sp' vs H Q E->sp vs H Q E):FnOk P w K mg base CX k f fd ps sp' :=
 ⟨fun vs H Q E q=>F.len vs H Q E (h _ _ _ _ q),fun A outer s H args us vs Q E hr he hb hv hs=>F.run A outer s H args us vs Q E hr he hb hv (h _ _ _ _ hs)⟩
theorem Env0.in1 {P:Program} {w:World} {K:PySem.W.Frag} {mg:Str->Option Value} {base:Heap} {A:Around} {outer:List Env} {s:Shared} {H:Hp} (e:Env0 P w K mg base A outer s H) :
   Env0 P w K mg base A.in1 outer s H:=⟨e.frames,e.mod,e.bs,e.bsz,e.funs,e.frf,e.hok,e.bare⟩
section
variable {X:Cx} {pins:List (Addr×Obj)} {σ:St} {H:Hp} {s s':Shared}
theorem Inv.env0 (I:Inv X pins σ H s):Env0 X.prog X.w X.K X.mg X.base X.A X.stack s H :=
 ⟨I.ok.frames,I.ok.mod,I.bs,Nat.le_trans I.ok.bsz I.sz,I.stack,I.stkFree,I.hok,I.bare⟩
theorem Inv.after {Q:VK} {u:Value} (I:Inv X pins σ H s) (h:CE X.stack X.prog X.w H s Q u s'):EP X pins σ Q u s':=by
 obtain ⟨v,H',os,bare,un,hok,r,q⟩:=h
 obtain ⟨hh,g,d,t,os'⟩:=s'
 obtain rfl:os'=s.os:=os
 exact ⟨v,H',I.call (h':=hh) (g':=g) (d':=d) (t':=t) (ch:=[]) un hok bare (fun b z=>absurd z (by simp)),r,q⟩
end
noncomputable def xI (sp:Sp) (dvs:List V) (E:XK) (t:TA):TE:=fun σ H Q=>t σ H fun vs H1=>sp (vs++dvs) H1 Q E
noncomputable def Binds (K:PySem.W.Frag) (fd:FuncData) (ps:List Str) (ds:List Value):Prop :=
 ∀ (s:Shared) (us:List Value),K.In s.heap->(us++ds).length=ps.length->BindsTo s fd ⟨us,[]⟩ (ps.zip (us++ds))
theorem Binds.all {K:PySem.W.Frag} {fd:FuncData} {ps:List Str} (h:∀ us:List Value,us.length=ps.length->bindArgs fd ⟨us,[]⟩=pure (ps.zip us)):Binds K fd ps []:=fun s us _ hl=>by
 rw [List.append_nil] at hl ⊢
 exact .of_eq (h us hl)
noncomputable def oC (CX:CXT) (X:Cx) (E:XK):Prop:=∀ (pins:List (Addr×Obj)) (σ:St) (H:Hp) (s:Shared) (e:Value) (s':Shared),Inv X pins σ H s->CX X.stack H s E e s'->X.xe e s'
section
variable {X:Cx} {CX:CXT} {k:Nat} {f C:Addr} {fd:FuncData} {ps:List Str} {sp:Sp} {dvs:List V} {ds:List Value} {E:XK} {x m:Str} {p pos apos:Pos} {e o:Expr} {es:List Expr} {ta:TE} {t:TA}
theorem yZ {pins:List (Addr×Obj)} {σ:St} {H:Hp} {s:Shared} {Q:VK} {us:List Value} {vs:List V} (F:FnOk X.prog X.w X.K X.mg X.base CX k f fd ps sp) (hr:Room k X.A) (hb:Binds X.K fd ps ds) (hd:aP dvs ds) (hx:oC CX X E)
   (I:Inv X pins σ H s) (r:aP vs us) (h:sp (vs++dvs) H Q E):wpAny (model X.prog X.w) X.A (call (.ref f) us) (EP X pins σ Q) X.xe s:=by
 have r2:aP (vs++dvs) (us++ds):=r.append hd
 have hl:(us++ds).length=ps.length:=by rw [← r2.length];exact F.len _ _ _ _ h
 refine wpAny_call (codeAny_mono (F.run X.A X.stack s H ⟨us,[]⟩ (us++ds) (vs++dvs) Q E hr I.env0 (hb s us I.kIn hl) r2 h) fun r s' hq=>?_)
 cases r with
 | error e=>exact hx pins σ H s e s' I hq
 | ok fl =>
   cases fl with
   | ret u=>exact I.after hq
   | next=>exact False.elim hq
   | brk=>exact False.elim hq
   | cont=>exact False.elim hq
theorem vE (F:FnOk X.prog X.w X.K X.mg X.base CX k f fd ps sp) (hr:Room k X.A) (hg:Gl X x) (hm:X.mg x=some (.ref f)) (hk:PySem.W.keepIn X.K (.ref f)=true) (hb:Binds X.K fd ps ds) (hd:aP dvs ds) (hx:oC CX X E)
   (ha:PA X (e :: es) t) (hdb:(x == ("__debug__" : Str))=false:=by decide) (he:starEach (e :: es) X.env=(false,eval e X.env) :: starEach es X.env:=by rfl) (hpl:(backTo pos (starEach es X.env)).any (·.1)=false:=by rfl) :
   PE X (.Call (.Name x p) (e :: es) [] pos) (xI sp dvs E t):=by
 intro pins s σ H Q I h
 refine wpAny_Call_Name_kw (pZ I hg hm ?_ hdb)
 refine PySem.W.callWith_K (h₀:=X.base) I.ok.mod.kin hk (thn (ha pos pins s σ H _ I h) fun us s1 ⟨vs,H1,I1,r,q⟩=>⟨I1.kIn,?_⟩) he hpl
 exact yZ F hr hb hd hx I1 r q
end
noncomputable def PK (X:Cx) (kws:List Keyword) (t:TA):Prop :=
 ∀ (pos:Pos) (pins:List (Addr×Obj)) (s:Shared) (σ:St) (H:Hp) (Q:List V->Hp->Prop),Inv X pins σ H s->t σ H Q->wpAny (model X.prog X.w) X.A (evalAll ((backToKw pos (keywordEach kws X.env)).map (·.2))) (AP X pins σ Q) X.xe s
section
variable {X:Cx} {CX:CXT} {k:Nat} {f C:Addr} {fd:FuncData} {ps ks:List Str} {sp:Sp} {E:XK} {x m:Str} {p pos apos kpos:Pos} {e o:Expr} {es:List Expr} {kws:List Keyword} {te ta:TE} {t tk:TA} {nm:Option Str}
theorem zN:PK X [] Ba:=fun _ _ _ _ H Q I h=>wpAny_evalAll_nil ⟨[],H,I,.nil,h⟩
theorem vt (ha:PE X e te) (hr:PK X kws t):PK X (⟨nm,e,kpos⟩ :: kws) (xN te t):=by
 intro pos pins s σ H Q I h
 show wpAny _ _ (evalAll ((do let v ← eval e X.env;standAt pos;pure v) :: (backToKw pos (keywordEach kws X.env)).map (·.2))) _ _ s
 refine wpAny_evalAll_cons (wpAny_bind (thn (ha pins s σ H _ I h) fun u s1 ⟨x,H1,I1,r1,q1⟩=>wpAny_bind (wpAny_standAt (wpAny_pure ?_))))
 exact thn (hr pos pins s1 σ H1 _ I1 q1) fun us s2 ⟨xs,H2,I2,r2,q2⟩=>⟨x :: xs,H2,I2,.cons r1 r2,q2⟩
variable {g:List Value->List Value->List Value} {gV:List V->List V->List V}
end
structure FnScope (N P:List Str) (sc:Scope):Prop where
 kind:sc.kind=.function
 co:sc.isCoroutine=false
 gen:sc.isGenerator=false
 nd:N.Nodup
 pre:N.take P.length=P
 par:∀ x∈P,sc.names.lookup x=some .local\/sc.names.lookup x=some .cell
 nofree:∀ y∈sc.names,y.2 ≠ .free
theorem kG {kindOf:Str->Option NameKind} {x:Str}:∀ {binds:List (Str×Value)} {m:Str->Option Value},(∀ v,(x,v) ∉ binds)->bindL kindOf binds m x=m x
 | [],_,_=>rfl
 | (n,v) :: r,m,h=>by
   unfold bindL
   rw [kG fun w hw=>h w (List.mem_cons_of_mem _ hw)]
   split
   · have:x ≠ n:=by rintro rfl;exact h v List.mem_cons_self
     simp [this]
   · rfl
theorem kS {kindOf:Str->Option NameKind} {x:Str}:∀ {binds:List (Str×Value)} {m:Str->Option Value},(∀ v,(x,v) ∉ binds)->bindC kindOf binds m x=m x
 | [],_,_=>rfl
 | (n,v) :: r,m,h=>by
   unfold bindC
   rw [kS fun w hw=>h w (List.mem_cons_of_mem _ hw)]
   split
   · rfl
   · have:x ≠ n:=by rintro rfl;exact h v List.mem_cons_self
     simp [this]
theorem kZ {kindOf:Str->Option NameKind} {x:Str} {v:Value}:∀ {P:List Str} {vs:List Value} {i:Nat} {m:Str->Option Value},P.Nodup->P[i]?=some x->vs[i]?=some v->kindOf x=some .local →
   bindL kindOf (P.zip vs) m x=some v
 | [],_,_,_,_,h,_,_=>by simp at h
 | _ :: _,[],_,_,_,_,h,_=>by simp at h
 | p :: P,w :: vs,0,m,nd,h1,h2,hk=>by
   simp at h1 h2;subst h1;subst h2
   show bindL kindOf ((p,w) :: P.zip vs) m p=_
   unfold bindL
   rw [kG fun v hv=>(List.nodup_cons.mp nd).1 (List.of_mem_zip hv).1,if_pos hk]
   simp
 | p :: P,w :: vs,i+1,m,nd,h1,h2,hk=>by
   show bindL kindOf ((p,w) :: P.zip vs) m x=_
   unfold bindL
   exact kZ (i:=i) (List.nodup_cons.mp nd).2 (by simpa using h1) (by simpa using h2) hk
theorem kT {kindOf:Str->Option NameKind} {x:Str} {v:Value}:∀ {P:List Str} {vs:List Value} {i:Nat} {m:Str->Option Value},P.Nodup->P[i]?=some x->vs[i]?=some v->kindOf x ≠ some .local →
   bindC kindOf (P.zip vs) m x=some v
 | [],_,_,_,_,h,_,_=>by simp at h
 | _ :: _,[],_,_,_,_,h,_=>by simp at h
 | p :: P,w :: vs,0,m,nd,h1,h2,hk=>by
   simp at h1 h2;subst h1;subst h2
   show bindC kindOf ((p,w) :: P.zip vs) m p=_
   unfold bindC
   rw [kS fun v hv=>(List.nodup_cons.mp nd).1 (List.of_mem_zip hv).1,if_neg hk]
   simp
 | p :: P,w :: vs,i+1,m,nd,h1,h2,hk=>by
   show bindC kindOf ((p,w) :: P.zip vs) m x=_
   unfold bindC
   exact kT (i:=i) (List.nodup_cons.mp nd).2 (by simpa using h1) (by simpa using h2) hk
noncomputable def start (N:List Str) (vs:List V):St:=vs.map some++List.replicate (N.length - vs.length) none
noncomputable def kc (CX:CXT) (P:Program) (w:World) (K:PySem.W.Frag) (mg:Str->Option Value) (base:Heap) (N:List Str) (qual:Str) (scope:Scope) (f:Addr) (cd:Value) (A:Around) (outer:List Env) (s:Shared) (H:Hp) (E:XK):Cx where
 prog:=P
 w:=w
 K:=K
 mg:=mg
 base:=base
 A:=A.deeper (envOfC qual scope s.heap.objs.size f cd)
 N:=N
 s₀:=s
 H₀:=H
 env:=envOfC qual scope s.heap.objs.size f cd
 outer:=outer
 stack:=envOfC qual scope s.heap.objs.size f cd :: outer
 ex:=[]
 calm:=true
 fn:=fun _=>true
 pn:=[]
 xe:=fun e s'=>wpAny (model P w) (A.deeper (envOfC qual scope s.heap.objs.size f cd)) (leaving (envOfC qual scope s.heap.objs.size f cd) e) (fun _ s''=>CX outer H s E e s'') (fun e' s''=>CX outer H s E e' s'') s'
theorem nZ {sc:Scope} {n:Nat} {x:Str} (h:sc.names.lookup x=some .cell):∃ c,(cellsFrom n sc.names []).lookup x=some c:=by
 have q:=PySem.W.cellsFrom_some sc.names n [] (.inl h)
 exact Option.isSome_iff_exists.mp q
theorem qD {CX:CXT} {P:Program} {w:World} {K:PySem.W.Frag} {mg:Str->Option Value} {base:Heap} {N ps:List Str} {qual:Str} {scope:Scope} {f:Addr} {cd:Value} {A:Around} {outer:List Env} {s s1:Shared} {H:Hp} {E:XK} {us:List Value} {vs:List V}
   (S:FnScope N ps scope) (hd:A.handled=none) (e0:Env0 P w K mg base A outer s H) (hl:vs.length=ps.length) (r:aP vs us)
   (x:InCallC s s.heap.objs.size (bindL (envOfC qual scope s.heap.objs.size f cd).kindOf (ps.zip us) fun _=>none) (cellsFrom (s.heap.objs.size+1) scope.names []) (bindC (envOfC qual scope s.heap.objs.size f cd).kindOf (ps.zip us) fun _=>none) s1) :
   Inv (kc CX P w K mg base N qual scope f cd A outer s H E) [] (start N vs) H s1:=by
 have hpl:ps.length<=N.length:=by have:=congrArg List.length S.pre;rw [List.length_take] at this;lia
 obtain ⟨h1,tk,rfl,hk⟩:=x.done
 have noA:∀ b:Addr,b ∉ (kc CX P w K mg base N qual scope f cd A outer s H E).ex:=fun b z=>absurd (show b∈([]:List Addr) from z) (by simp)
 refine ⟨⟨e0.mod,S.kind,rfl,rfl,Nat.le_refl _,fun y z c h1 h2=>?_,fun y hy=>?_,fun y c _ h=>?_,fun _=>hd,Around.frames_deeper e0.frames,.inr ⟨rfl,rfl⟩,fun b z=>absurd z (noA b),e0.bs,e0.bsz,fun b _ _=>noA b,fun b z=>absurd z (noA b),e0.funs,e0.frf⟩,
   rfl,e0.bare,Un.kept hk,⟨_,x.toInCall.ns,fun i y v h1 h2 h3=>?_⟩,fun y c h=>⟨_,x.cell y c h⟩,e0.hok.fresh (Nat.le_refl _),fun y c h=>?_,fun p hp=>absurd (show p∈([]:List (Addr×Obj)) from hp) (by simp),e0.hok.kept hk,?_⟩
 · exact name_of_addr x.apart (PySem.mem_of_lookup h1) (PySem.mem_of_lookup h2)
 · have hy:scope.names.lookup y=some .cell\/scope.names.lookup y=some .free:=hy
   rcases hy with hy | hy
   · exact nZ hy
   · exact absurd rfl (S.nofree _ (PySem.mem_of_lookup hy))
 · exact Nat.le_of_lt (x.above y c (PySem.mem_of_lookup h))
 · have hi:i < vs.length:=by
     unfold start at h2
     by_cases hi:i < vs.length
     · exact hi
     · rw [List.getElem?_append_right (by simpa using hi)] at h2
       rw [List.getElem?_replicate] at h2
       split at h2 <;> cases h2
   have ha:vs[i]?=some v:=by
     unfold start at h2
     rw [List.getElem?_append_left (by simpa using hi),List.getElem?_map] at h2
     cases e:vs[i]? with
     | none=>rw [e] at h2;cases h2
     | some a=>rw [e] at h2;cases h2;rfl
   obtain ⟨u,hu,rv⟩:=r.get ha
   have hp:ps[i]?=some y:=by
     rw [← S.pre,List.getElem?_take_of_lt (by lia)];exact h1
   have ndP:ps.Nodup:=by rw [← S.pre];exact S.nd.sublist (List.take_sublist _ _)
   refine ⟨u,rv,?_⟩
   rcases S.par y (List.mem_of_getElem? hp) with k | k
   · exact .inl ⟨k,kZ ndP hp hu k⟩
   · obtain ⟨c,e⟩:=nZ (n:=s.heap.objs.size+1) k
     refine .inr ⟨.inl k,c,e,?_⟩
     have q:=x.cell y c e
     rw [kT ndP hp hu (by show scope.names.lookup y ≠ _;rw [k];decide)] at q
     exact q
 · exact e0.hok.fresh (Nat.le_of_lt (x.above y c (PySem.mem_of_lookup h)))
 · unfold start
   show _=N.length
   rw [List.length_append,List.length_map,List.length_replicate]
   lia
theorem Aq {CX:CXT} {P:Program} {w:World} {K:PySem.W.Frag} {mg:Str->Option Value} {base:Heap} {k:Nat} {f:Addr} {name qual:Str} {params:Arguments} {body:List Stmt} {scope:Scope} {dV kV doc pm cdv ct oc:Value} {an od:Option Addr}
   {osl:Array (Option Value)} {N ps:List Str} {sp:Sp} (lk:K.lookup f=some ⟨oc,od,.func (PySem.W.fnOf name qual params body scope dV kV doc pm an cdv ct),osl⟩) (hcd:PySem.W.codeIn K cdv qual=true) (S:FnScope N ps scope)
   (len:∀ vs H Q E,sp vs H Q E->vs.length=ps.length)
   (hbody:∀ (A:Around) (outer:List Env) (s:Shared) (H:Hp) (vs:List V) (Q:VK) (E:XK),Room k (A.deeper (envOfC qual scope s.heap.objs.size f cdv))->sp vs H Q E →
     ∃ t,PSs (kc CX P w K mg base N qual scope f cdv A outer s H E) body t/\t { nx:=fun _ H'=>Q .non H',rt:=Q } (start N vs) H) :
   FnOk P w K mg base CX (k+1) f (PySem.W.fnOf name qual params body scope dV kV doc pm an cdv ct) ps sp:=by
 refine ⟨len,fun A outer s H args us vs Q E hr e0 hb r hsp=>?_⟩
 have hl:=len _ _ _ _ hsp
 have KX:K.In s.heap:=e0.mod.kin.keeps fun b o e=>(e0.bs b o e).1
 have lim:s.heap.NoLimit:=e0.mod.nolimit.keeps fun b o e=>(e0.bs b o e).1
 have hkind:∀ y∈ps.zip us,scope.names.lookup y.1=some .local\/(scope.names.lookup y.1=some .cell/\((cellsFrom (s.heap.objs.size+1) scope.names []).lookup y.1).isSome=true):=fun ⟨n,v⟩ hy=>by
   rcases S.par n (List.of_mem_zip hy).1 with q | q
   · exact .inl q
   · exact .inr ⟨q,PySem.W.cellsFrom_some _ _ _ (.inl q)⟩
 refine codeAny_call_function hr.depth (KX _ _ lk) rfl S.co S.gen rfl (PySem.W.codeRec_of KX hcd) (hb _ _ _ _ ?_)
 refine wpAny_newFunctionEnv_cells S.kind hkind fun env he s1 x=>?_
 subst he
 refine ⟨lim.keeps x.toInCall.keep,codeAny_func ?_⟩
 obtain ⟨t,ht,hq⟩:=hbody A outer s H vs Q E (hr.deeper _) hsp
 have I:Inv (kc CX P w K mg base N qual scope f cdv A outer s H E) [] (start N vs) H s1:=qD S hr.hd e0 hl r x
 refine wpAny_mono (ht [] s1 (start N vs) H _ I hq) (fun fl s' hs=>?_) fun e s' hs=>hs
 have fin:∀ {σ':St} {H':Hp} {v:V} {u:Value},Inv (kc CX P w K mg base N qual scope f cdv A outer s H E) [] σ' H' s'->RelV v u->Q v H'->CE outer P w H s Q u s' :=
   fun {σ' H' v u} J rv q=>⟨v,H',J.os,J.bare,J.base,J.hok,rv,q⟩
 cases fl with
 | ret u =>
   obtain ⟨v,σ',H',J,rv,q⟩:=hs
   exact fin J rv q
 | next =>
   obtain ⟨σ',H',J,q⟩:=hs
   exact fin (v:=V.non) (u:=Value.none) J rfl q
 | brk =>
   obtain ⟨_,_,_,q⟩:=hs
   exact False.elim q
 | cont =>
   obtain ⟨_,_,_,q⟩:=hs
   exact False.elim q
end L2
namespace L2
open PySem PySem.Spec PyProof.Rows
section
variable {X:Cx} {x:Str} {p pos:Pos} {e:Expr} {es:List Expr} {t:TA} {id T:String} {r:List V->Hp->VK->Prop}
noncomputable def tCB (r:List V->Hp->VK->Prop) (t:TA):TE:=fun σ H Q=>t σ H fun vs H1=>r vs H1 Q
theorem mQ (hc:dB X (.builtin id) r) (hg:Gl X x) (hm:X.mg x=none) (hv:bootBuiltins x=some (.builtin id)) (ha:PA X (e :: es) t) (hn:x ≠ "__name__" := by decide) (hdb:(x == ("__debug__" : Str))=false:=by decide)
   (he:starEach (e :: es) X.env=(false,eval e X.env) :: starEach es X.env:=by rfl) (hpl:(backTo pos (starEach es X.env)).any (·.1)=false:=by rfl):PE X (.Call (.Name x p) (e :: es) [] pos) (tCB r t):=by
 intro pins s σ H Q I h
 refine wpAny_Call_Name_kw (iQ I hg hm hv ?_ hn hdb)
 exact PyProof.Rows.callWith_builtin1 (thn (ha pos pins s σ H _ I h) fun us s1 ⟨vs,H1,I1,r1,q1⟩=>hc pins s1 σ H1 vs us Q I1 r1 q1) he hpl
theorem qv (hc:dB X (.type T) r) (hg:Gl X x) (hm:X.mg x=none) (hv:bootBuiltins x=some (.type T)) (ha:PA X (e :: es) t) (hn:x ≠ "__name__" := by decide) (hdb:(x == ("__debug__" : Str))=false:=by decide)
   (he:starEach (e :: es) X.env=(false,eval e X.env) :: starEach es X.env:=by rfl) (hpl:(backTo pos (starEach es X.env)).any (·.1)=false:=by rfl):PE X (.Call (.Name x p) (e :: es) [] pos) (tCB r t):=by
 intro pins s σ H Q I h
 refine wpAny_Call_Name_kw (iQ I hg hm hv ?_ hn hdb)
 exact PyProof.Rows.callWith_type1 (thn (ha pos pins s σ H _ I h) fun us s1 ⟨vs,H1,I1,r1,q1⟩=>hc pins s1 σ H1 vs us Q I1 r1 q1) he hpl
end
end L2
namespace HT
open PySem PyProof.Rows
section
open PySem.SeqAt
open PySem.AutoSeq1 (wpAny_loadPart')
open PySem.MeetsSeq PySem.MeetsSeq2 PySem.MeetsSeq3
end
section
variable {prog:Program} {w:World} {A:Around} {E:Value->Shared->Prop} {s:Shared}
noncomputable def sIx (n d:Nat):Option Int->Nat
 | none=>d
 | some v=>if v < 0 then (v+(n:Int)).toNat else min v.toNat n
end
end HT
namespace L2
open PySem PySem.Spec PyProof.Rows
noncomputable abbrev TO:=St->Hp->(Option Int->Hp->Prop)->Prop
noncomputable def PO (X:Cx) (e:Option Expr) (t:TO):Prop :=
 ∀ (pins:List (Addr×Obj)) (s:Shared) (σ:St) (H:Hp) (Q:Option Int->Hp->Prop),Inv X pins σ H s->t σ H Q →
   wpAny (model X.prog X.w) X.A (evalPart e X.env) (fun u s'=>∃ o H',Inv X pins σ H' s'/\IsPart u o/\Q o H') X.xe s
noncomputable def xt:TO:=fun _ H Q=>Q none H
noncomputable def AD (t:TE):TO:=fun σ H Q=>t σ H fun x H1=>∃ i,x=.int i/\Q (some i) H1
section
variable {X:Cx} {e:Expr} {te:TE} {lo hi:Option Expr} {tl th:TO} {pos p2:Pos}
theorem wX:PO X none xt:=by
 intro pins s σ H Q I h
 rw [evalPart_none]
 exact wpAny_pure ⟨none,H,I,.none,h⟩
theorem v3 (h:PE X e te):PO X (some e) (AD te):=by
 intro pins s σ H Q I hw
 rw [evalPart_some]
 refine thn (h pins s σ H _ I hw) fun u s1 ⟨x,H1,I1,r1,q1⟩=>?_
 obtain ⟨i,rfl,q⟩:=q1
 obtain ⟨t,rfl⟩:=r1
 exact ⟨some i,H1,I1,.int i t,q⟩
noncomputable def SlR (X:Cx) (r:V->Option Int->Option Int->Hp->VK->Prop):Prop :=
 ∀ (pins:List (Addr×Obj)) (s:Shared) (σ:St) (H:Hp) (x:V) (v vl vu:Value) (lo hi:Option Int) (sl:Addr) (Q:VK),Inv X pins σ H s->RelV x v->s.heap.IsSliceOf sl vl vu .none->IsPart vl lo->IsPart vu hi->r x lo hi H Q →
   ∃ T id,typeLookup (.type T) "__getitem__" = pure (some (.builtin id))/\s.TypeIs v T/\wpAny (model X.prog X.w) X.A (getItem v (.ref sl)) (EP X pins σ Q) X.xe s
theorem SlR.or {r r':V->Option Int->Option Int->Hp->VK->Prop} (h:SlR X r) (h':SlR X r'):SlR X (fun x lo hi H Q=>r x lo hi H Q\/r' x lo hi H Q):=by
 intro pins s σ H x v vl vu lo hi sl Q I rx hs pl pu q
 rcases q with q | q
 · exact h pins s σ H x v vl vu lo hi sl Q I rx hs pl pu q
 · exact h' pins s σ H x v vl vu lo hi sl Q I rx hs pl pu q
noncomputable def tSl (r:V->Option Int->Option Int->Hp->VK->Prop) (te:TE) (tl th:TO):TE:=fun σ H Q=>te σ H fun x H1=>tl σ H1 fun l H2=>th σ H2 fun u H3=>r x l u H3 Q
theorem ud {r:V->Option Int->Option Int->Hp->VK->Prop} (hr:SlR X r) (he:PE X e te) (hl:PO X lo tl) (hu:PO X hi th):PE X (.Subscript e (.Slice lo hi none p2) pos) (tSl r te tl th):=by
 intro pins s σ H Q I h
 refine Subscript_ (thn (he pins s σ H _ I h) fun v s1 ⟨x,H1,I1,r1,q1⟩=>?_)
 refine wpAny_Slice (thn (hl pins s1 σ H1 _ I1 q1) fun vl s2 ⟨l,H2,I2,pl,q2⟩=>thn (hu pins s2 σ H2 _ I2 q2) fun vu s3 ⟨u,H3,I3,pu,q3⟩=>?_)
 rw [evalPart_none]
 refine wpAny_pure ?_
 have I4:Inv X pins σ H3 { s3 with heap:=s3.heap.push { cls:=.type "slice",data:=.fields #[vl,vu,.none] } }:=I3.kept (t':=s3.toks) fun b ob q=>Heap.get?_push_of_some _ q
 obtain ⟨T,id,hT,ht,hg⟩:=hr pins { s3 with heap:=s3.heap.push { cls:=.type "slice",data:=.fields #[vl,vu,.none] } } σ H3 x v vl vu l u s3.heap.objs.size Q I4 r1 (Heap.IsSliceOf.new ..) pl pu q3
 show wpAny (model X.prog X.w) X.A (subscriptTail e (.Slice lo hi none p2) v (.ref s3.heap.objs.size)) (EP X pins σ Q) X.xe { s3 with heap:=s3.heap.push { cls:=.type "slice",data:=.fields #[vl,vu,.none] } }
 exact tail_any (ops:=[.ref s3.heap.objs.size,v]) ht hT hg (by with_unfolding_all rfl)
noncomputable def rE (xs:List V) (lo hi:Option Int):List V:=(xs.drop (HT.sIx xs.length 0 lo)).take (HT.sIx xs.length xs.length hi - HT.sIx xs.length 0 lo)
theorem nj (xs:List V) (lo hi:Option Int):(rE xs lo hi).length<=xs.length:=by
 unfold rE
 rw [List.length_take,List.length_drop]
 lia
end
end L2
namespace L2
open PySem PySem.Spec PyProof.Rows
noncomputable def ixN (n:Nat) (i:Int):Option Nat:=if 0<=i then (if i < n then some i.toNat else none) else if -(n:Int)<=i then some (i+n).toNat else none
noncomputable def atI {α:Type} (xs:List α) (i:Int):Option α:=(ixN xs.length i).bind fun j=>xs[j]?
theorem o9 {n:Nat} {i:Int} {j:Nat} (h:ixN n i=some j):seqIndex? i n=some j/\j < n/\-(n:Int)<=i/\i < n:=by
 unfold ixN at h
 by_cases h0:0<=i
 · rw [if_pos h0] at h
   by_cases h1:i < n
   · rw [if_pos h1] at h
     have e:i.toNat=j:=Option.some.inj h
     exact ⟨by rw [seqIndex_of h0 h1,e],by lia,by lia,h1⟩
   · rw [if_neg h1] at h;cases h
 · rw [if_neg h0] at h
   by_cases h1:-(n:Int)<=i
   · rw [if_pos h1] at h
     have e:(i+n).toNat=j:=Option.some.inj h
     exact ⟨by rw [seqIndex_neg (by lia) h1,e],by lia,h1,by lia⟩
   · rw [if_neg h1] at h;cases h
theorem lx {α:Type} {xs:List α} {i:Int} {v:α} (h:atI xs i=some v):∃ j,seqIndex? i xs.length=some j/\xs[j]?=some v/\j < xs.length/\-(xs.length:Int)<=i/\i < xs.length:=by
 unfold atI at h
 cases e:ixN xs.length i with
 | none=>rw [e] at h;cases h
 | some j =>
   rw [e] at h
   obtain ⟨h1,h2,h3,h4⟩:=o9 e
   exact ⟨j,h1,h,h2,h3,h4⟩
noncomputable def fF (b:Expr):Prop:=∀ o i,subscripted b false o i=operate [o,i] (getItem o i)
noncomputable def IxR (X:Cx) (r:R2):Prop :=
 ∀ (value slice:Expr) (pins:List (Addr×Obj)) (s:Shared) (σ:St) (H:Hp) (x y:V) (v u:Value) (Q:VK),Inv X pins σ H s->RelV x v->RelV y u->r x y H Q →
   subscripted slice false v u=operate [v,u] (getItem v u)->wpAny (model X.prog X.w) X.A (subscriptTail value slice v u) (EP X pins σ Q) X.xe s
noncomputable def MtR (X:Cx) (id:String) (r:V->List V->Hp->VK->Prop):Prop :=
 ∀ (pins:List (Addr×Obj)) (s:Shared) (σ:St) (H:Hp) (x:V) (xs:List V) (v:Value) (us:List Value) (Q:VK),Inv X pins σ H s->RelV x v->aP xs us->r x xs H Q →
   wpAny (model X.prog X.w) X.A (call (.builtin id) (v :: us)) (EP X pins σ Q) X.xe s
section
variable {X:Cx} {a b:Expr} {ta tb:TE} {pos:Pos}
theorem IxR.or {r r':R2} (h:IxR X r) (h':IxR X r'):IxR X (fun x y H Q=>r x y H Q\/r' x y H Q):=by
 intro value slice pins s σ H x y v u Q I rx ry q hs
 rcases q with q | q
 · exact h value slice pins s σ H x y v u Q I rx ry q hs
 · exact h' value slice pins s σ H x y v u Q I rx ry q hs
theorem MtR.or {id:String} {r r':V->List V->Hp->VK->Prop} (h:MtR X id r) (h':MtR X id r'):MtR X id (fun x xs H Q=>r x xs H Q\/r' x xs H Q):=by
 intro pins s σ H x xs v us Q I rx rs q
 rcases q with q | q
 · exact h pins s σ H x xs v us Q I rx rs q
 · exact h' pins s σ H x xs v us Q I rx rs q
theorem uQ {r:R2} (hr:IxR X r) (ha:PE X a ta) (hb:PE X b tb) (hs:fF b):PE X (.Subscript a b pos) (tOp r ta tb):=by
 intro pins s σ H Q I h
 exact Subscript_ (Aa ha hb I h fun v u s2 x y H2 I2 rx ry q=>hr a b pins s2 σ H2 x y v u Q I2 rx ry q (hs _ _))
noncomputable def As (K:PySem.W.Frag):R2:=fun x y H Q=>∃ p xs i v,x=.ref p/\y=.int i/\SqL K H p xs/\atI xs i=some v/\Q v H
noncomputable def Av (K:PySem.W.Frag):R2:=fun x y H Q=>∃ p xs i v,x=.ref p/\y=.int i/\SqT K H p xs/\atI xs i=some v/\Q v H
noncomputable def AJ:R2:=fun x y H Q=>∃ z i c,x=.str z/\y=.int i/\z.length<=sizeLine/\atI z.cps.toList i=some c/\Q (.str ⟨#[c]⟩) H
theorem vN:IxR X (As X.K):=by
 intro value slice pins s σ H x y v u Q I rx ry h hs
 obtain ⟨p,xs,i,z,rfl,rfl,hq,he,q⟩:=h
 cases rx
 obtain ⟨t,rfl⟩:=ry
 obtain ⟨its,r,pl,hz⟩:=I.list hq
 obtain ⟨j,h1,h2,h3,h4,h5⟩:=lx he
 obtain ⟨w,ew,rw'⟩:=r.get h2
 have hl:=r.length
 have hn:=iU
 have fin:EP X pins σ Q w s:=⟨z,H,I,rw',q⟩
 by_cases h0:0<=i
 · have hj:i.toNat=j:=by
     rw [seqIndex_of h0 h5] at h1
     exact Option.some.inj h1
   exact item_listR pl.isList h0 (by lia) (by rw [hj];simpa using ew) fin hs
 · have hj:(i+(its.toArray.size:Int)).toNat=j:=by
     rw [seqIndex_neg (by lia) h4] at h1
     rw [List.size_toArray,← hl]
     exact Option.some.inj h1
   exact subscriptTail_builtinR (x:=w) pl.isList.typeIs slot_list_getitem.lookup
     (wpAny_getItem_list_neg (Q:=fun r s'=>r=w/\EP X pins σ Q r s') pl.isList (by lia) (by rw [List.size_toArray] <;> lia) (by lia) (by rw [hj];simpa using ew) ⟨rfl,fin⟩) hs
theorem zq:IxR X (Av X.K):=by
 intro value slice pins s σ H x y v u Q I rx ry h hs
 obtain ⟨p,xs,i,z,rfl,rfl,hq,he,q⟩:=h
 cases rx
 obtain ⟨t,rfl⟩:=ry
 obtain ⟨its,r,pl,hz⟩:=I.tuple hq
 obtain ⟨j,h1,h2,h3,h4,h5⟩:=lx he
 obtain ⟨w,ew,rw'⟩:=r.get h2
 have hl:=r.length
 have hn:=iU
 have fin:EP X pins σ Q w s:=⟨z,H,I,rw',q⟩
 exact subscriptTail_builtinR (x:=w) pl.typeIs slot_tuple_getitem.lookup
   (getItem_tuple (j:=j) (Q:=fun r s'=>r=w/\EP X pins σ Q r s') pl (by lia) (by lia) (by rw [List.size_toArray,← hl];exact h1) (by simpa using ew) ⟨rfl,fin⟩) hs
theorem zh:IxR X AJ:=by
 intro value slice pins s σ H x y v u Q I rx ry h hs
 obtain ⟨z,i,c,rfl,rfl,hz,he,q⟩:=h
 obtain ⟨t,rfl⟩:=rx
 obtain ⟨t',rfl⟩:=ry
 obtain ⟨j,h1,h2,h3,h4,h5⟩:=lx he
 have hl:z.cps.toList.length=z.length:=by simp [Str.length]
 rw [hl] at h1 h4 h5
 have hn:=iU
 exact tail_any (typeIs_str s z t) slot_str_getitem.lookup (getItem_str (c:=c) (by
   have e1:decide (i < -(2 ^ 63:Int))=false:=decide_eq_false (by lia)
   have e2:decide (i ≥ 2 ^ 63)=false:=decide_eq_false (by lia)
   rw [e1,e2,Bool.or_false]) (by rw [h1];simpa using h2) ⟨.str ⟨#[c]⟩,H,I.tok _,⟨_,rfl⟩,q⟩) hs
noncomputable def rIx (K:PySem.W.Frag):R2:=fun x y H Q=>As K x y H Q\/Av K x y H Q\/AJ x y H Q
theorem tL:IxR X (rIx X.K):=vN.or (zq.or zh)
theorem om (its:List Value) (n j:Nat) (u:Value):Obj.mapSeq (·.setIfInBounds j u) { cls:=.type "list",data:=.seq its.toArray n }={ cls:=.type "list",data:=.seq (its.set j u).toArray n }:=by
 simp [Obj.mapSeq]
theorem Inv.lst {pins:List (Addr×Obj)} {σ:St} {H:Hp} {s:Shared} {p:Addr} {xs:List V} (I:Inv X pins σ H s) (h:H p=some (.lst xs)) :
   ∃ (its:List Value) (n:Nat),aP xs its/\s.heap.get? p=some { cls:=.type "list",data:=.seq its.toArray n }/\xs.length<=sizeLine:=by
 obtain ⟨z,its,n,r,e⟩:=I.hok p _ h
 exact ⟨its,n,r,e,z⟩
theorem Inv.lstUpd {pins:List (Addr×Obj)} {σ:St} {H:Hp} {s:Shared} {p:Addr} {xs ys:List V} {its its':List Value} {n n':Nat} {f:Obj->Obj} (I:Inv X pins σ H s) (h:H p=some (.lst xs))
   (ho:s.heap.get? p=some { cls:=.type "list",data:=.seq its.toArray n }) (hf:f { cls:=.type "list",data:=.seq its.toArray n }={ cls:=.type "list",data:=.seq its'.toArray n' }) (r:aP ys its') (hz:ys.length<=sizeLine) (t:Nat) :
   Inv X pins σ (upd H p (.lst ys)) { s with heap:=s.heap.update p f,toks:=t }:=by
 have e:(s.heap.update p f).get? p=some { cls:=.type "list",data:=.seq its'.toArray n' }:=by
   rw [Heap.get?_update_self f ho (by rw [hf] <;> rfl),hf]
 refine I.write (x:=p) (e:=p) (by rw [h];trivial) (.inl rfl) (fun b u hb q=>(Heap.get?_update_other _ _ (Ne.symm hb)).trans q) ⟨_,e⟩ ?_
 exact ⟨hz,its',n',r,e⟩
noncomputable def xK:V->V->V->Hp->(Hp->Prop)->Prop:=fun o i v H Q=>∃ p xs k j,o=.ref p/\i=.int k/\H p=some (.lst xs)/\ixN xs.length k=some j/\Q (upd H p (.lst (xs.set j v)))
theorem set_list:zE X xK:=by
 intro pins s σ H o i v ov iv u Q I ro ri rv h
 obtain ⟨p,xs,k,j,rfl,rfl,hp,hj,q⟩:=h
 cases ro
 obtain ⟨t,rfl⟩:=ri
 obtain ⟨its,n,r,ho,hz⟩:=I.lst hp
 obtain ⟨h1,h2,h3,h4⟩:=o9 hj
 have hl:=r.length
 have hn:=iU
 have I':Inv X pins σ (upd H p (.lst (xs.set j v))) { s with heap:=s.heap.update p (Obj.mapSeq (·.setIfInBounds j u)) } :=
   I.lstUpd hp ho (om its n j u) (r.set rv j) (by rw [List.length_set];exact hz) s.toks
 by_cases h0:0<=k
 · have hk:k.toNat=j:=by
     rw [seqIndex_of h0 h4] at h1
     exact Option.some.inj h1
   exact PySem.W.ki_setAt ho h0 (by lia) (by rw [List.size_toArray,← hl];exact h4) (by rw [hk];exact ⟨_,I',q⟩)
 · have hk:(k+(its.toArray.size:Int)).toNat=j:=by
     rw [seqIndex_neg (by lia) h3] at h1
     rw [List.size_toArray,← hl]
     exact Option.some.inj h1
   exact PySem.W.ki_setBack ho (by lia) (by rw [List.size_toArray,← hl];exact h3) (by lia) (by rw [hk];exact ⟨_,I',q⟩)
theorem lI (lo hi:Option Int) (n:Nat):(sliceBounds lo hi none n).1=((HT.sIx n 0 lo:Nat):Int)/\(sliceBounds lo hi none n).2.1=((HT.sIx n n hi:Nat):Int)/\(sliceBounds lo hi none n).2.2=1:=by
 refine ⟨?_,?_,rfl⟩
 · cases lo with
   | none=>simp [sliceBounds,HT.sIx]
   | some i =>
     simp only [sliceBounds,HT.sIx,Option.getD_none,show (1:Int) > 0 by decide,if_true]
     by_cases h:i < 0
     · simp only [h,if_true] <;> lia
     · simp only [h,if_false] <;> lia
 · cases hi with
   | none=>simp [sliceBounds,HT.sIx]
   | some i =>
     simp only [sliceBounds,HT.sIx,Option.getD_none,show (1:Int) > 0 by decide,if_true]
     by_cases h:i < 0
     · simp only [h,if_true] <;> lia
     · simp only [h,if_false] <;> lia
theorem j5 (its:List Value) (lo hi:Option Int):slicePick its.toArray lo hi none=((its.drop (HT.sIx its.length 0 lo)).take (HT.sIx its.length its.length hi - HT.sIx its.length 0 lo)).toArray:=by
 obtain ⟨h1,h2,h3⟩:=lI lo hi its.toArray.size
 unfold slicePick
 rw [h1,h2,h3]
 simp only [sliceRange_one,pick_run,List.size_toArray] <;> rfl
noncomputable def Bs (K:PySem.W.Frag):V->Option Int->Option Int->Hp->VK->Prop:=fun x lo hi H Q=>∃ a xs,x=.ref a/\SqL K H a xs/\∀ p,H p=none->Q (.ref p) (upd H p (.lst (rE xs lo hi)))
theorem wG:SlR X (Bs X.K):=by
 intro pins s σ H x v vl vu lo hi sl Q I rx hs pl pu h
 obtain ⟨a,xs,rfl,hx,q⟩:=h
 cases rx
 obtain ⟨its,r,ht,hz⟩:=I.list hx
 have hlen:=r.length
 refine ⟨"list",_,slot_list_getitem.lookup,ht.isList.typeIs,?_⟩
 refine wpAny_getItem_list_slice ht.isList hs pl pu .none (by simp) ?_ (by rw [List.size_toArray] <;> lia)
 rw [j5,← hlen]
 refine ⟨.ref s.heap.objs.size,_,I.laid (t':=s.toks) (o:=.lst (rE xs lo hi)) (fun b ob q=>Heap.get?_push_of_some _ q) (Nat.le_refl _) ?_,rfl,q _ (I.hok.fresh (Nat.le_refl _))⟩
 exact ⟨Nat.le_trans (nj xs lo hi) hz,_,0,(r.drop (HT.sIx xs.length 0 lo)).take (HT.sIx xs.length xs.length hi - HT.sIx xs.length 0 lo),Heap.get?_push_size _ rfl⟩
noncomputable def d4:V->Bool
 | .non=>true
 | .bl _=>true
 | .int _=>true
 | .str _=>true
 | _=>false
noncomputable def eqV:V->V->Bool
 | .non,.non=>true
 | .bl a,.bl b=>a == b
 | .bl a,.int b=>(if a then 1 else 0) == b
 | .int a,.bl b=>a == (if b then 1 else 0)
 | .int a,.int b=>a == b
 | .str a,.str b=>a == b
 | _,_=>false
theorem zV {A:Around} {s:Shared} {y x:V} {u v:Value} (ry:RelV y u) (rx:RelV x v) (fy:d4 y=true) (fx:d4 x=true):SeqAt.EqAt A s u v (eqV y x):=by
 cases y with
 | non =>
   cases ry
   cases x with
   | non=>cases rx;exact SeqAt.EqAt.same _
   | bl b=>cases rx;exact SeqAt.EqAt.none_bool b
   | int b=>obtain ⟨t,rfl⟩:=rx;exact SeqAt.EqAt.none_int b t
   | str b=>obtain ⟨t,rfl⟩:=rx;exact SeqAt.EqAt.none_str b t
   | _=>exact absurd (show false=true from fx) Bool.false_ne_true
 | bl a =>
   cases ry
   cases x with
   | non=>cases rx;exact SeqAt.EqAt.bool_none a
   | bl b=>cases rx;exact SeqAt.EqAt.bool_bool a b
   | int b=>obtain ⟨t,rfl⟩:=rx;exact SeqAt.EqAt.bool_int a b t
   | str b=>obtain ⟨t,rfl⟩:=rx;exact SeqAt.EqAt.bool_str a b t
   | _=>exact absurd (show false=true from fx) Bool.false_ne_true
 | int a =>
   obtain ⟨t',rfl⟩:=ry
   cases x with
   | non=>cases rx;exact SeqAt.EqAt.int_none a t'
   | bl b=>cases rx;exact SeqAt.EqAt.int_bool a t' b
   | int b=>obtain ⟨t,rfl⟩:=rx;exact SeqAt.EqAt.int_int a t' b t
   | str b=>obtain ⟨t,rfl⟩:=rx;exact SeqAt.EqAt.int_str a t' b t
   | _=>exact absurd (show false=true from fx) Bool.false_ne_true
 | str a =>
   obtain ⟨t',rfl⟩:=ry
   cases x with
   | non=>cases rx;exact SeqAt.EqAt.str_none a t'
   | bl b=>cases rx;exact SeqAt.EqAt.str_bool a t' b
   | int b=>obtain ⟨t,rfl⟩:=rx;exact SeqAt.EqAt.str_int a t' b t
   | str b=>obtain ⟨t,rfl⟩:=rx;exact SeqAt.EqAt.str_str a t' b t
   | _=>exact absurd (show false=true from fx) Bool.false_ne_true
 | _=>exact absurd (show false=true from fy) Bool.false_ne_true
noncomputable def eqU (x:V) (u:Value):Bool:=match u with
 | .none=>eqV .non x
 | .bool b=>eqV (.bl b) x
 | .int i _=>eqV (.int i) x
 | .str z _=>eqV (.str z) x
 | _=>false
theorem uT {x y:V} {u:Value} (r:RelV y u) (f:d4 y=true):eqU x u=eqV y x:=by
 cases y with
 | non=>cases r;rfl
 | bl b=>cases r;rfl
 | int i=>obtain ⟨t,rfl⟩:=r;rfl
 | str z=>obtain ⟨t,rfl⟩:=r;rfl
 | _=>exact absurd (show false=true from f) Bool.false_ne_true
theorem lP {x:V}:∀ {xs:List V} {us:List Value},aP xs us->xs.all d4=true->us.any (eqU x)=xs.any fun y=>eqV y x
 | _,_,.nil,_=>rfl
 | y :: xs,u :: us,.cons r t,f=>by
   rw [List.all_cons,Bool.and_eq_true] at f
   rw [List.any_cons,List.any_cons,uT r f.1,lP t f.2]
theorem jo {A:Around} {s:Shared} {x:V} {v:Value} (rx:RelV x v) (fx:d4 x=true):∀ {xs:List V} {us:List Value},aP xs us->xs.all d4=true->∀ u∈us,SeqAt.EqAt A s u v (eqU x u)
 | _,_,.nil,_=>fun u hu=>by cases hu
 | y :: xs,u :: us,.cons r t,f=>fun u' hu=>by
   rw [List.all_cons,Bool.and_eq_true] at f
   rcases List.mem_cons.mp hu with rfl | hu
   · rw [uT r f.1];exact zV r rx f.1 fx
   · exact jo rx fx t f.2 u' hu
noncomputable def inV (x:V) (xs:List V):Bool:=xs.any fun y=>eqV y x
noncomputable def rIn (K:PySem.W.Frag) (neg:Bool):R2:=fun x y H Q=>∃ p xs,y=.ref p/\(SqL K H p xs\/SqT K H p xs)/\d4 x=true/\xs.all d4=true/\Q (.bl (if neg then !inV x xs else inV x xs)) H
theorem qm:OpR X (compareOp .In) (rIn X.K false):=by
 intro pins s σ H x y v u Q I rx ry h
 obtain ⟨p,xs,rfl,hq,fx,fs,q⟩:=h
 cases ry
 rcases hq with hq | hq
 · obtain ⟨its,r,pl,hz⟩:=I.list hq
   refine SeqAt.in_listAt (eqU x) pl.isList (fun w hw=>jo rx fx r fs w (by simpa using hw)) ⟨.bl _,H,I,rfl,?_⟩
   rw [show its.toArray.any (eqU x)=its.any (eqU x) by simp,lP r fs]
   exact q
 · obtain ⟨its,r,pl,hz⟩:=I.tuple hq
   refine SeqAt.in_tupleAt (eqU x) pl (fun w hw=>jo rx fx r fs w (by simpa using hw)) ⟨.bl _,H,I,rfl,?_⟩
   rw [show its.toArray.any (eqU x)=its.any (eqU x) by simp,lP r fs]
   exact q
theorem dB.or {f:Value} {r r':List V->Hp->VK->Prop} (h:dB X f r) (h':dB X f r'):dB X f (fun xs H Q=>r xs H Q\/r' xs H Q):=by
 intro pins s σ H xs us Q I rs q
 rcases q with q | q
 · exact h pins s σ H xs us Q I rs q
 · exact h' pins s σ H xs us Q I rs q
theorem me:dB X (.type "list") (fun xs H Q=>∃ p ys,xs=[.ref p]/\(SqL X.K H p ys\/SqT X.K H p ys)/\∀ l,H l=none->Q (.ref l) (upd H l (.lst ys))):=by
 intro pins s σ H xs us Q I r h
 obtain ⟨p,ys,rfl,hq,q⟩:=h
 obtain ⟨u,rfl,rx⟩:=vals1 r
 cases rx
 have fin:∀ (its:List Value),aP ys its->ys.length<=sizeLine->∀ (h':Heap) (c':Nat),(∀ b o',s.heap.get? b=some o'->h'.get? b=some o') →
     h'.get? s.heap.objs.size=some { cls:=.type "list",dict:=none,data:=.seq its.toArray c',slots:=#[] }->EP X pins σ Q (.ref s.heap.objs.size) { s with heap:=h' }:=fun its r' hz h' c' kp e =>
   ⟨.ref s.heap.objs.size,_,I.laid (t':=s.toks) kp (Nat.le_refl _) (show aW X.prog X.w _ h' _ (.lst ys) from ⟨hz,its,c',r',e⟩),rfl,q _ (I.hok.fresh (Nat.le_refl _))⟩
 rcases hq with hq | hq
 · obtain ⟨its,r',pl,hz⟩:=I.list hq
   have hlen:=r'.length
   obtain ⟨o,ho,hc,n,hd⟩:=pl.isList
   exact call_list_seq p (.inl rfl) ho hc hd (fun h' c' kp e=>fin its r' hz h' c' kp e) (by simp only [List.size_toArray] <;> lia)
 · obtain ⟨its,r',pl,hz⟩:=I.tuple hq
   have hlen:=r'.length
   obtain ⟨o,ho,hc,n,hd⟩:=pl
   exact call_list_seq p (.inr rfl) ho hc hd (fun h' c' kp e=>fin its r' hz h' c' kp e) (by simp only [List.size_toArray] <;> lia)
theorem j8:dB X (.type "tuple") (fun xs H Q=>∃ p ys,xs=[.ref p]/\((SqL X.K H p ys/\∀ l,H l=none->Q (.ref l) (upd H l (.tup ys)))\/(SqT X.K H p ys/\Q (.ref p) H))):=by
 intro pins s σ H xs us Q I r h
 obtain ⟨p,ys,rfl,h⟩:=h
 obtain ⟨u,rfl,rx⟩:=vals1 r
 cases rx
 rcases h with ⟨hq,q⟩ | ⟨hq,q⟩
 · obtain ⟨its,r',pl,hz⟩:=I.list hq
   have hlen:=r'.length
   refine call_tuple_list pl.isList (fun h' kp=>?_) (by simp only [List.size_toArray] <;> lia)
   have I1:Inv X pins σ H { s with heap:=h' }:=I.kept (t':=s.toks) kp
   have I2:Inv X pins σ (upd H h'.objs.size (.tup ys)) { s with heap:=h'.push { cls:=.type "tuple",data:=.seq its.toArray } } :=
     I1.laid (t':=s.toks) (fun b o e=>Heap.get?_push_of_some _ e) (Nat.le_refl _) (show aW X.prog X.w _ _ _ (.tup ys) from ⟨hz,its,r',NoD.new _ _,IsTup.new _ _⟩)
   exact ⟨.ref h'.objs.size,_,I2,rfl,q _ (I1.hok.fresh (Nat.le_refl _))⟩
 · obtain ⟨its,r',pl,hz⟩:=I.tuple hq
   exact call_tuple_same pl ⟨.ref p,H,I,rfl,q⟩
noncomputable def tyV (K:PySem.W.Frag) (T:String) (x:V) (H:Hp):Prop:=match x with
 | .str _=>T = "str"
 | .int _=>T = "int"
 | .ref p=>(T = "list" ∧ ∃ xs,SqL K H p xs)\/(T = "tuple" ∧ ∃ o,K.lookup p=some o/\o.cls=.type "tuple" ∧ o.dict=none) ∨
     (T = "dict" ∧ ((∃ kvs,H p=some (.dK kvs))\/∃ kvs,H p=some (.dT kvs)))\/(T = "set" ∧ ∃ S n,H p=some (.set S n))
 | _=>False
theorem yf {pins:List (Addr×Obj)} {σ:St} {H:Hp} {s:Shared} {T:String} {x:V} {v:Value} (I:Inv X pins σ H s) (r:RelV x v) (ty:tyV X.K T x H) :
   s.TypeIs v T/\∀ a,v=.ref a->∃ ob,s.heap.get? a=some ob/\ob.dict=none:=by
 cases x with
 | str z =>
   obtain ⟨t,rfl⟩:=r
   cases (show T = "str" from ty)
   exact ⟨typeIs_str s z t,fun _ e=>nomatch e⟩
 | int i =>
   obtain ⟨t,rfl⟩:=r
   cases (show T = "int" from ty)
   exact ⟨typeIs_int s i t,fun _ e=>nomatch e⟩
 | ref p =>
   cases r
   rcases ty with ⟨rfl,xs,hq⟩ | ⟨rfl,o,hk,hc,hd⟩ | ⟨rfl,hk⟩ | ⟨rfl,S,n,hk⟩
   · obtain ⟨its,_,pl,_⟩:=I.list hq
     refine ⟨pl.isList.typeIs,fun a e=>?_⟩
     cases e
     obtain ⟨o,n,e,c,hd,_⟩:=pl
     exact ⟨o,e,hd⟩
   · refine ⟨⟨o,I.kIn p o hk,hc⟩,fun a e=>?_⟩
     cases e
     exact ⟨o,I.kIn _ o hk,hd⟩
   · have z:∃ o,s.heap.get? p=some o/\o.ExactDict:=by
       rcases hk with ⟨kvs,hk⟩ | ⟨kvs,hk⟩
       · obtain ⟨_,_,_,_,o,_,_,e,ex,_⟩:=I.hok p _ hk
         exact ⟨o,e,ex⟩
       · obtain ⟨_,_,_,_,o,_,_,e,ex,_⟩:=I.hok p _ hk
         exact ⟨o,e,ex⟩
     obtain ⟨o,e,ex⟩:=z
     refine ⟨⟨o,e,ex.1⟩,fun a e2=>?_⟩
     cases e2
     exact ⟨o,e,ex.2.1⟩
   · obtain ⟨o,_,_,_,e,ex,_⟩:=I.hok p _ hk
     refine ⟨⟨o,e,ex.1⟩,fun a e2=>?_⟩
     cases e2
     exact ⟨o,e,ex.2.1⟩
 | _=>exact False.elim ty
noncomputable def tBM (K:PySem.W.Frag) (T:String) (r:V->List V->Hp->VK->Prop) (to:TE) (t:TA):TE:=fun σ H Q=>to σ H fun x H1=>tyV K T x H1/\t σ H1 fun xs H2=>r x xs H2 Q
variable {o e:Expr} {es:List Expr} {to:TE} {t:TA} {name:Str} {apos cpos:Pos} {T id:String} {r:V->List V->Hp->VK->Prop}
theorem pV (pa:PlainAttrs T) (slot:Slot T name id) (hty:typeOf (.builtin id)=pure (.type "method_descriptor")) (hm:MtR X id r) (ho:PE X o to) (ha:PA X (e :: es) t)
   (hbase:attributeBase o name X.env (eval o X.env)=eval o X.env:=by rfl)
   (hfew:((backTo cpos (starEach (e :: es) X.env)).all (fun x=>!x.1) && (backToKw cpos (keywordEach [] X.env)).all (fun x=>x.1.isSome)
     && decide ((e :: es).length+([]:List Keyword).length+(if ([]:List Keyword).isEmpty then 0 else 1) < 30))=true:=by rfl)
   (hline:(apos.endLine == cpos.line)=true:=by rfl) (hs:starEach (e :: es) X.env=(false,eval e X.env) :: starEach es X.env:=by rfl) (hplain:(backTo cpos (starEach es X.env)).any (·.1)=false:=by rfl) :
   PE X (.Call (.Attribute o name apos) (e :: es) [] cpos) (tBM X.K T r to t):=by
 intro pins s σ H Q I h
 refine wpAny_Call_method_late hbase hfew hline rfl (thn (ho pins s σ H _ I h) fun v s1 ⟨x,H1,I1,r1,ty,q1⟩=>?_)
 obtain ⟨h1,h2⟩:=yf I1 r1 ty
 refine ⟨T,id,pa,slot,hty,h1,h2,?_⟩
 have hA:=ha cpos pins s1 σ H1 _ I1 q1
 rw [hs] at hA ⊢
 refine Calls.callWith_builtin (by show (false || (backTo cpos (starEach es X.env)).any (·.1))=false;rw [hplain] <;> rfl) (Calls.evalArgs_plain ?_)
 exact thn hA fun us s2 ⟨vs,H2,I2,r2,q2⟩=>hm pins s2 σ H2 x vs v us Q I2 r1 r2 q2
end
end L2
namespace L2
open PySem PySem.Spec PyProof.Rows
noncomputable def MtM (X:Cx) (id:String) (r:V->List V->Hp->VK->Prop):Prop :=
 ∀ (pins:List (Addr×Obj)) (s:Shared) (σ:St) (H:Hp) (x:V) (xs:List V) (v:Value) (us:List Value) (Q:VK),Inv X pins σ H s->RelV x v->aP xs us->r x xs H Q →
   wpAny (model X.prog X.w) X.A (call (.builtin id) (v :: us)) (EP X pins σ Q) X.xe s
theorem aP.one:∀ {x:V} {us:List Value},aP [x] us->∃ u,us=[u]/\RelV x u
 | _,_,.cons r .nil=>⟨_,rfl,r⟩
theorem aP.two:∀ {x y:V} {us:List Value},aP [x,y] us->∃ u v,us=[u,v]/\RelV x u/\RelV y v
 | _,_,_,.cons r (.cons q .nil)=>⟨_,_,rfl,r,q⟩
theorem aP.eraseIdx:∀ {xs:List V} {us:List Value} (i:Nat),aP xs us->aP (xs.eraseIdx i) (us.eraseIdx i)
 | _,_,_,.nil=>.nil
 | _,_,0,.cons _ t=>t
 | _,_,i+1,.cons r t=>.cons r (aP.eraseIdx i t)
theorem aP.reverse {xs:List V} {us:List Value} (h:aP xs us):aP xs.reverse us.reverse:=by
 induction h with
 | nil=>exact .nil
 | cons r t ih=>rw [List.reverse_cons,List.reverse_cons];exact aP.append ih (.cons r .nil)
section
variable {X:Cx} {pins:List (Addr×Obj)} {σ:St} {H:Hp} {s:Shared} {l b:Addr} {xs ys zs:List V}
theorem Inv.lset {its its':List Value} {n:Nat} {f:Array Value->Array Value} {t':Nat} (I:Inv X pins σ H s) (hH:H l=some (.lst xs))
   (e:s.heap.get? l=some { cls:=.type "list",data:=.seq its.toArray n }) (hf:f its.toArray=its'.toArray) (hv:aP ys its') (hz:ys.length<=sizeLine) :
   Inv X pins σ (upd H l (.lst ys)) { s with heap:=s.heap.update l (Obj.mapSeq f),toks:=t' }:=by
 have q:=PySem.IsL.update e f
 rw [hf] at q
 refine I.write (x:=l) (e:=l) (by rw [hH];exact trivial) (.inl rfl) (fun b' u hb hu=>(Heap.get?_update_other s.heap (Obj.mapSeq f) (Ne.symm hb)).trans hu) ⟨_,q⟩ ?_
 exact ⟨hz,its',_,hv,q⟩
theorem Inv.lnew {its:List Value} {t':Nat} (I:Inv X pins σ H s) (hv:aP ys its) (hz:ys.length<=sizeLine) :
   Inv X pins σ (upd H s.heap.objs.size (.lst ys)) { s with heap:=s.heap.push { cls:=.type "list",data:=.seq its.toArray },toks:=t' } :=
 I.laid (fun _ _ q=>Heap.get?_push_of_some _ q) (Nat.le_refl _) ⟨hz,its,0,hv,Heap.get?_push_size _ rfl⟩
theorem Inv.fresh (I:Inv X pins σ H s):H s.heap.objs.size=none:=I.hok.fresh (Nat.le_refl _)
theorem Inv.lstM (I:Inv X pins σ H s) (hH:H l=some (.lst xs)):xs.length<=sizeLine/\∃ (its:List Value) (n:Nat),aP xs its/\xs.length=its.length/\s.heap.get? l=some { cls:=.type "list",data:=.seq its.toArray n }:=by
 obtain ⟨z,its,n,r,e⟩:=I.hok l _ hH
 exact ⟨z,its,n,r,r.length,e⟩
theorem oe {n:Nat} (h:n<=sizeLine):Builtin.List.listTooLong n=false:=by
 unfold Builtin.List.listTooLong
 exact decide_eq_false (by lia)
end
section
variable {X:Cx}
noncomputable def jf:V->List V->Hp->VK->Prop:=fun x vs H Q=>∃ l xs y,x=.ref l/\vs=[y]/\H l=some (.lst xs)/\xs.length < sizeLine/\Q .non (upd H l (.lst (xs++[y])))
theorem gQ:MtM X "list.append" jf:=by
 intro pins s σ H x vs v us Q I rx rv h
 obtain ⟨l,xs,y,rfl,rfl,hH,hz,q⟩:=h
 cases rx
 obtain ⟨u,rfl,ru⟩:=rv.one
 obtain ⟨z,its,n,r,hl,e⟩:=I.lstM hH
 refine call_meets F.slot_list_append ⟨_,e,rfl⟩ F.entry_list_append (F.args_list_append_2 _ _) (PySem.list_append l its.toArray n u (by rw [List.size_toArray];lia)) ⟨e,?_⟩
 refine ⟨.non,_,I.lset (its':=its++[u]) hH e (by simp) (r.append (.cons ru .nil)) ?_,rfl,q⟩
 rw [List.length_append,List.length_singleton]
 lia
noncomputable def A8:R2:=fun x y H Q=>∃ l b xs zs,x=.ref l/\y=.ref b/\H l=some (.lst xs)/\H b=some (.lst zs)/\xs.length+zs.length<=sizeLine/\∀ p,H p=none->Q (.ref p) (upd H p (.lst (xs++zs)))
theorem yx:OpR X (binaryOp .Add) A8:=by
 intro pins s σ H x y v u Q I rx ry h
 obtain ⟨l,b,xs,zs,rfl,rfl,hH,hB,hz,q⟩:=h
 cases rx
 cases ry
 obtain ⟨z,its,n,r,hl,e⟩:=I.lstM hH
 obtain ⟨z2,its2,n2,r2,hl2,e2⟩:=I.lstM hB
 refine PySem.P.add_list e e2 ?_ (by rw [List.size_toArray,List.size_toArray];lia)
 have ea:its.toArray++its2.toArray=(its++its2).toArray:=by simp
 rw [ea]
 exact ⟨.ref _,_,I.lnew (t':=s.toks) (r.append r2) (by rw [List.length_append];lia),rfl,q _ I.fresh⟩
theorem len_rep {α:Type} (xs:List α) (k:Nat):(List.replicate k xs).flatten.length=k * xs.length:=by
 induction k with
 | zero=>simp
 | succ k ih=>rw [List.replicate_succ,List.flatten_cons,List.length_append,ih,Nat.succ_mul,Nat.add_comm]
end
section
variable {prog:Program} {w:World} {A:Around} {E:Value->Shared->Prop} {s:Shared}
theorem oz {a c n:Nat} (hac:a<=c) (hc:c<=n):sliceBounds (some (a:Int)) (some (c:Int)) none n=((a:Int),(c:Int),1):=by
 simp only [sliceBounds,Option.getD_none]
 have h1:¬ ((a:Int) < 0):=by lia
 have h2:¬ ((c:Int) < 0):=by lia
 simp only [h1,h2,if_false,show (1:Int) > 0 by decide,if_true]
 congr 1
 · lia
 · congr 1;lia
set_option maxRecDepth 100000 in
theorem u5 {l b sl:Addr} {items new:Array Value} {n n2:Nat} {vl vu:Value} {a c:Nat} {Q:Unit->Shared->Prop}
   (e:s.heap.get? l=some { cls:=.type "list",data:=.seq items n }) (e2:s.heap.get? b=some { cls:=.type "list",data:=.seq new n2 }) (hne:l ≠ b)
   (hs:s.heap.IsSliceOf sl vl vu .none) (pl:IsPart vl (some (a:Int))) (pu:IsPart vu (some (c:Int))) (hac:a<=c) (hc:c<=items.size)
   (hsz:items.size+new.size<=sizeLine) (h:Q () { s with heap:=s.heap.update l (Obj.mapSeq fun xs=>xs.extract 0 a++new++xs.extract c xs.size) }) :
   wpAny (model prog w) A (setItem (.ref l) (.ref sl) (.ref b)) Q E s:=by
 have hl:s.heap.IsList l items:=PySem.IsL.isList e
 have hb:s.heap.IsList b new:=PySem.IsL.isList e2
 obtain ⟨os,hos,hcs,hds⟩:=id hs
 have hTs:s.TypeIs (.ref sl) "slice" := ⟨os,hos,hcs⟩
 have hstep:¬ ((rawPart none == rawInt 0)=true):=Bool.false_ne_true
 have hsame:Builtin.List.listSameRef (.ref l) (.ref b)=false:=by
   unfold Builtin.List.listSameRef
   exact beq_eq_false_iff_ne.mpr hne
 have hmax:(max (a:Int) (c:Int)).toNat=c:=by lia
 have hz':((fun xs:Array Value=>xs.extract 0 a++new++xs.extract c xs.size) items).size<=sizeLine+1:=by
   simp only [Array.size_append,Array.size_extract]
   lia
 unfold setItem
 try with_reducible refine wpAny_holding ?_
 first | refine wpAny_bind (wpAny_pure ?_) | skip
 refine wpAny_bind (wpAny_sequenceKey hl.typeIs (by decide) ?_)
 refine wpAny_bind (wpAny_callSpecial?_slot (name:=Str.ofString "__setitem__") hl.typeIs slot_list_setitem
   (wpAny_call_entry slot_list_setitem hl.typeIs entry_list_setitem ?_ (args_list_setitem _ _ _)))
 show wpAny _ _ (Builtin.List.listSubscript? (.ref sl) >>= _) _ _ s
 refine wpAny_bind ?_
 unfold Builtin.List.listSubscript?
 refine wpAny_bind (wpAny_specialOf hTs slice_no_index ?_)
 simp only [Option.isNone_none,if_true]
 refine wpAny_pure ?_
 show wpAny _ _ (typeOf (.ref sl) >>= _) _ _ s
 refine wpAny_bind (wpAny_typeOf hTs ?_)
 first
   | rw [if_neg (by decide)]
   | refine PySem.W.KFB.if_not (by decide) ?_
 rw [listSliceParts_eq]
 refine wpAny_bind (wpAny_bind (wpAny_field hos hds (x:=.none) rfl (wpAny_bind (wpAny_listPart .none ?_))))
 rw [if_neg hstep]
 refine wpAny_bind (wpAny_field hos hds (x:=vl) rfl (wpAny_bind (wpAny_listPart pl ?_)))
 refine wpAny_bind (wpAny_field hos hds (x:=vu) rfl (wpAny_bind (wpAny_listPart pu (wpAny_pure ?_))))
 first
   | simp only [hsame,Bool.false_eq_true,if_false]
   | refine PySem.W.KFB.if_not hsame ?_
   | (dsimp only
      rw [if_neg (by rw [hsame];exact Bool.false_ne_true)])
 refine wpAny_bind (m:=Builtin.List.listAllItems (.ref b) "must assign iterable to extended slice") ?_
 unfold Builtin.List.listAllItems
 refine wpAny_bind (wpAny_typeOf hb.typeIs ?_)
 first
   | refine PySem.W.KFB.if_so (by decide) ?_
   | rw [if_pos (by decide)]
   | simp only [beq_self_eq_true,Bool.true_or,if_true]
 unfold Builtin.List.listItems
 refine wpAny_bind (wpAny_seqItems e2 rfl (wpAny_pure ?_))
 refine wpAny_bind (wpAny_bind (wpAny_seqItems e rfl (wpAny_pure ?_)))
 refine wpAny_bind (wpAny_of_eq ((sliceIndices_raw (some (a:Int)) (some (c:Int)) none items.size (by simp)).trans (congrArg (pure:Int×Int×Int->Sem (Int×Int×Int)) (oz hac hc))) ?_)
 show wpAny _ _ (if ((1:Int) == 1)=true then _ else _) _ _ s
 rw [if_pos (by decide)]
 refine wpAny_bind (wpAny_rule ?_)
 first
   | simp only [oe hsz,Bool.false_eq_true,if_false]
   | refine PySem.W.KFB.if_not (oe hsz) ?_
 first | refine wpAny_bind (wpAny_pure ?_) | skip
 show wpAny _ _ (updateSeq l (fun xs=>xs.extract 0 ((a:Int)).toNat++new++xs.extract (max (a:Int) (c:Int)).toNat xs.size) >>= _) _ _ s
 rw [hmax,Int.toNat_natCast]
 refine wpAny_bind (wpAny_updateSeq (hz:=Nat.le_trans (Nat.le_add_right _ _) hsz) (_hz':=hz') e rfl ?_)
 refine wpAny_bind (wpAny_letGo ?_)
 first
   | exact wpAny_bind (wpAny_pure (wpAny_pure ⟨.none,rfl,wpAny_pure h⟩))
   | exact wpAny_pure ⟨.none,rfl,wpAny_pure h⟩
end
section
variable {X:Cx}
end
end L2
namespace L2
open PySem PySem.Spec PyProof.Rows
section
variable {κ:Type} [DecidableEq κ]
noncomputable def bX (kvs:List (κ×V)) (k:κ):Option V:=(kvs.find? fun kv=>decide (kv.1=k)).map (·.2)
noncomputable def putK (kvs:List (κ×V)) (k:κ) (v:V):List (κ×V) :=
 if (kvs.any fun kv=>decide (kv.1=k))=true then kvs.map (fun kv=>if kv.1=k then (kv.1,v) else kv) else kvs++[(k,v)]
noncomputable def xF (kvs:List (κ×V)) (k:κ):List (κ×V):=kvs.filter fun kv=>decide (kv.1 ≠ k)
theorem bO {p:κ×V} {r:List (κ×V)} {k:κ} (e:p.1=k):bX (p :: r) k=some p.2:=by simp [bX,List.find?_cons,e]
theorem cy {p:κ×V} {r:List (κ×V)} {k:κ} (e:¬ p.1=k):bX (p :: r) k=bX r k:=by simp [bX,List.find?_cons,e]
theorem gF (k:κ):∀ kvs:List (κ×V),(kvs.any fun kv=>decide (kv.1=k))=(bX kvs k).isSome
 | []=>rfl
 | p :: r=>by
   rw [List.any_cons]
   by_cases e:p.1=k
   · simp only [bO e,decide_eq_true e,Bool.true_or,Option.isSome_some]
   · rw [cy e,decide_eq_false e,Bool.false_or];exact gF k r
theorem mN (k j:κ) (y:V):∀ kvs:List (κ×V),bX (kvs.map fun kv=>if kv.1=k then (kv.1,y) else kv) j=(bX kvs j).map fun x=>if j=k then y else x
 | []=>rfl
 | p :: r=>by
   have ih:=mN k j y r
   rw [List.map_cons]
   by_cases h:p.1=k
   · rw [if_pos h]
     by_cases e:p.1=j
     · rw [bO (p:=(p.1,y)) e,bO e,Option.map_some,if_pos (e.symm.trans h)]
     · rw [cy (p:=(p.1,y)) e,cy e,ih]
   · rw [if_neg h]
     by_cases e:p.1=j
     · rw [bO (p:=p) e,bO e,Option.map_some,if_neg (fun z=>h (e.trans z))]
     · rw [cy (p:=p) e,cy e,ih]
theorem ko (k j:κ) (y:V):∀ kvs:List (κ×V),bX kvs k=none->bX (kvs++[(k,y)]) j=if j=k then some y else bX kvs j
 | [],_=>by
   by_cases e:k=j
   · rw [if_pos e.symm];exact bO (p:=(k,y)) e
   · rw [if_neg (fun z=>e z.symm)];exact cy (p:=(k,y)) e
 | p :: r,hn=>by
   rw [List.cons_append]
   have hk:¬ p.1=k:=fun z=>by rw [bO z] at hn;cases hn
   rw [cy hk] at hn
   have ih:=ko k j y r hn
   by_cases e:p.1=j
   · rw [bO e,bO e,if_neg (fun z=>hk (e.trans z))]
   · rw [cy e,cy e,ih]
theorem sO (kvs:List (κ×V)) (k j:κ) (y:V):bX (putK kvs k y) j=if j=k then some y else bX kvs j:=by
 unfold putK
 by_cases a:(kvs.any fun kv=>decide (kv.1=k))=true
 · rw [if_pos a,mN]
   rw [gF] at a
   by_cases e:j=k
   · obtain ⟨x,hx⟩:=Option.isSome_iff_exists.mp a
     rw [if_pos e,e,hx,Option.map_some,if_pos rfl]
   · rw [if_neg e]
     cases bX kvs j with
     | none=>rfl
     | some x=>rw [Option.map_some,if_neg e]
 · rw [if_neg a]
   refine ko k j y kvs ?_
   rw [gF] at a
   cases q:bX kvs k with
   | none=>rfl
   | some x=>rw [q] at a;exact (a rfl).elim
theorem eY (kvs:List (κ×V)) (k:κ) (v:V):(putK kvs k v).length<=kvs.length+1:=by
 unfold putK
 split
 · rw [List.length_map];lia
 · rw [List.length_append,List.length_cons,List.length_nil];lia
theorem gH.isSome_eq {o:Option V} {u:Option Value} (r:gH o u):o.isSome=u.isSome:=by
 cases o with
 | none=>cases u with
   | none=>rfl
   | some _=>exact (show False from r).elim
 | some _=>cases u with
   | none=>exact (show False from r).elim
   | some _=>rfl
theorem gH.getD {o:Option V} {u:Option Value} {d:V} {d':Value} (r:gH o u) (rd:RelV d d'):RelV (o.getD d) (u.getD d'):=by
 cases o with
 | none=>cases u with
   | none=>exact rd
   | some _=>exact (show False from r).elim
 | some _=>cases u with
   | none=>exact (show False from r).elim
   | some _=>exact r
theorem KV.val {kvs:List (κ×V)} {vs:List (κ×Value)} (r:KV kvs vs) (k:κ):gH (bX kvs k) (valueAt vs k):=by
 unfold KV at r
 induction r with
 | nil=>exact True.intro
 | @cons p q ps qs h t ih =>
   obtain ⟨h1,h2⟩:=h
   by_cases e:p.1=k
   · have e':q.1=k:=h1.symm.trans e
     have b:valueAt (q :: qs) k=some q.2:=by simp [valueAt,List.find?_cons,e']
     rw [bO e,b];exact h2
   · have e':¬ q.1=k:=fun z=>e (h1.trans z)
     have b:valueAt (q :: qs) k=valueAt qs k:=by simp [valueAt,List.find?_cons,e']
     rw [cy e,b];exact ih
theorem KV.any {kvs:List (κ×V)} {vs:List (κ×Value)} (r:KV kvs vs) (k:κ):(kvs.any fun kv=>decide (kv.1=k))=vs.any fun kv=>decide (kv.1=k):=by
 unfold KV at r
 induction r with
 | nil=>rfl
 | cons h t ih=>rw [List.any_cons,List.any_cons,ih,h.1]
theorem KV.repl {kvs:List (κ×V)} {vs:List (κ×Value)} (r:KV kvs vs) (k:κ) {y:V} {u:Value} (ry:RelV y u) :
   KV (kvs.map fun kv=>if kv.1=k then (kv.1,y) else kv) (vs.map fun kv=>if kv.1=k then (kv.1,u) else kv):=by
 unfold KV at r ⊢
 induction r with
 | nil=>exact .nil
 | @cons p q ps qs h t ih =>
   rw [List.map_cons,List.map_cons]
   refine .cons ?_ ih
   obtain ⟨h1,h2⟩:=h
   by_cases e:p.1=k
   · rw [if_pos e,if_pos (h1.symm.trans e)];exact ⟨h1,ry⟩
   · rw [if_neg e,if_neg (fun z=>e (h1.trans z))];exact ⟨h1,h2⟩
theorem KV.put {kvs:List (κ×V)} {vs:List (κ×Value)} (r:KV kvs vs) (k:κ) {y:V} {u:Value} (ry:RelV y u):KV (putK kvs k y) (stored vs k u):=by
 unfold putK stored
 rw [r.any k]
 by_cases e:(vs.any fun kv=>decide (kv.1=k))=true
 · rw [if_pos e,if_pos e];exact r.repl k ry
 · rw [if_neg e,if_neg e];exact Paired.snoc r ⟨rfl,ry⟩
theorem KV.drop {kvs:List (κ×V)} {vs:List (κ×Value)} (r:KV kvs vs) (k:κ):KV (xF kvs k) (without vs k):=by
 unfold KV at r ⊢
 unfold xF without
 induction r with
 | nil=>exact .nil
 | @cons p q ps qs h t ih =>
   obtain ⟨h1,h2⟩:=h
   rw [List.filter_cons,List.filter_cons]
   by_cases e:p.1=k
   · have a:¬ decide (p.1 ≠ k)=true:=by simp [e]
     have b:¬ decide (q.1 ≠ k)=true:=by simp [h1.symm.trans e]
     rw [if_neg a,if_neg b];exact ih
   · have e':¬ q.1=k:=fun z=>e (h1.trans z)
     have a:decide (p.1 ≠ k)=true:=by simp [e]
     have b:decide (q.1 ≠ k)=true:=by simp [e']
     rw [if_pos a,if_pos b];exact .cons ⟨h1,h2⟩ ih
theorem KV.keys {kvs:List (κ×V)} {vs:List (κ×Value)} (r:KV kvs vs):kvs.map (·.1)=vs.map (·.1):=by
 unfold KV at r
 induction r with
 | nil=>rfl
 | cons h t ih=>rw [List.map_cons,List.map_cons,ih,h.1]
theorem KV.length {kvs:List (κ×V)} {vs:List (κ×Value)} (r:KV kvs vs):kvs.length=vs.length:=Paired.length r
end
theorem kC {P:Program} {w:World} {k:Key} {u:Value} (r:RelV (kV k) u):(bx P w).is k u=true:=by
 cases k with
 | inl i=>obtain ⟨t,e⟩:=(show ∃ t,u=Value.int i t from r);subst e;exact nH P w i t
 | inr x=>obtain ⟨t,e⟩:=(show ∃ t,u=Value.str x t from r);subst e;exact mT P w x t
theorem lj {P:Program} {w:World}:∀ {ks:List Key} {us:List Value},aP (ks.map kV) us->ItemsAre (bx P w) ks us
 | [],_,r=>by rw [List.map_nil] at r;cases r;exact .nil
 | k :: ks,_,r=>by
   rw [List.map_cons] at r
   cases r with
   | cons h t=>exact .cons (kC h) (lj t)
noncomputable abbrev KT (H:Hp):List (List Key×V)->List (List Key×Addr×Value)->Prop:=Paired fun p q=>p.1=q.1/\H q.2.1=some (.tup (p.1.map kV))/\RelV p.2 q.2.2
theorem KT.val {H:Hp} {kvs:List (List Key×V)} {xs:List (List Key×Addr×Value)} (r:KT H kvs xs) (k:List Key):gH (bX kvs k) ((atKey xs k).map (·.2)):=by
 induction r with
 | nil=>exact True.intro
 | @cons p q ps qs h t ih =>
   obtain ⟨h1,_,h2⟩:=h
   by_cases e:p.1=k
   · have e':q.1=k:=h1.symm.trans e
     have b:atKey (q :: qs) k=some q.2:=by simp [atKey,List.find?_cons,e']
     rw [bO e,b];exact h2
   · have e':¬ q.1=k:=fun z=>e (h1.trans z)
     have b:atKey (q :: qs) k=atKey qs k:=by simp [atKey,List.find?_cons,e']
     rw [cy e,b];exact ih
theorem KT.repl {H:Hp} {kvs:List (List Key×V)} {xs:List (List Key×Addr×Value)} (r:KT H kvs xs) (k:List Key) {y:V} {u:Value} (ry:RelV y u) :
   KT H (kvs.map fun kv=>if kv.1=k then (kv.1,y) else kv) (xs.map (putAt k u)):=by
 induction r with
 | nil=>exact .nil
 | @cons p q ps qs h t ih =>
   rw [List.map_cons,List.map_cons]
   refine .cons ?_ ih
   obtain ⟨h1,h2,h3⟩:=h
   unfold putAt
   by_cases e:p.1=k
   · rw [if_pos e,if_pos (h1.symm.trans e)];exact ⟨h1,h2,ry⟩
   · rw [if_neg e,if_neg (fun z=>e (h1.trans z))];exact ⟨h1,h2,h3⟩
theorem KT.put {H:Hp} {kvs:List (List Key×V)} {xs:List (List Key×Addr×Value)} (r:KT H kvs xs) (k:List Key) {b:Addr} {y:V} {u:Value} (hb:H b=some (.tup (k.map kV))) (ry:RelV y u) :
   KT H (putK kvs k y) (storedH xs k b u):=by
 have e:(kvs.any fun kv=>decide (kv.1=k))=(atKey xs k).isSome:=by
   rw [gF,(r.val k).isSome_eq,Option.isSome_map]
 unfold putK storedH
 rw [e]
 by_cases q:(atKey xs k).isSome=true
 · rw [if_pos q,if_pos q];exact r.repl k ry
 · rw [if_neg q,if_neg q];exact Paired.snoc r ⟨rfl,hb,ry⟩
theorem KT.keeps {H H':Hp} {kvs:List (List Key×V)} {xs:List (List Key×Addr×Value)} (r:KT H kvs xs) (ht:∀ b ys,H b=some (.tup ys)->H' b=some (.tup ys)):KT H' kvs xs :=
 Paired.mapP r fun _ _ z=>⟨z.1,ht _ _ z.2.1,z.2.2⟩
section
variable {P:Program} {w:World} {H:Hp} {h:Heap} {a:Addr}
theorem xJ {u:HO} (ok:HOk P w H h) (e:Rd H a u):aW P w H h a u:=e.ok ok
theorem mU {kvs:List (Key×V)} (ok:HOk P w H h) (e:Rd H a (.dK kvs)):kvs.length<=sizeLine/\(a == sysModules)=false/\∃ vs,KV kvs vs/\h.DictOf (bx P w) a vs :=
 show aW P w H h a (.dK kvs) from xJ ok e
theorem nP {kvs:List (Key×V)} (ok:HOk P w H h) (e:H a=some (.dK kvs)):kvs.length<=sizeLine/\(a == sysModules)=false/\∃ vs,KV kvs vs/\h.DictOf (bx P w) a vs:=mU ok (.inl e)
theorem fG {ks:List Key} (ok:HOk P w H h) (e:H a=some (.tup (ks.map kV))):(tupleKind (bx P w)).is h ks a:=by
 obtain ⟨_,its,r,_,o,h1,h2,n,h3⟩:=(show aW P w H h a (.tup (ks.map kV)) from ok a _ e)
 exact ⟨o,its.toArray,n,h1,h2,h3,by simpa using lj r⟩
theorem pd {kvs:List (List Key×V)} (ok:HOk P w H h) (e:Rd H a (.dT kvs)):kvs.length<=sizeLine/\(a == sysModules)=false ∧
   ∃ xs,KT H kvs xs/\h.DictOfH (tupleKind (bx P w)) a xs:=by
 obtain ⟨z,y,xs,r,o,es,ep,h1,h2,h3,h4,h5⟩:=(show aW P w H h a (.dT kvs) from xJ ok e)
 refine ⟨z,y,xs,r,o,es,ep,h1,h2,h3,h4,fun x hx=>?_,h5⟩
 have all:∀ {l:List (List Key×V)} {m:List (List Key×Addr×Value)},KT H l m->∀ x∈m,(tupleKind (bx P w)).is h x.1 x.2.1:=by
   intro l m q
   induction q with
   | nil=>intro x hx;exact nomatch hx
   | @cons p q ps qs hq t ih =>
     intro x hx
     rcases List.mem_cons.mp hx with e | hx
     · subst e
       exact fG ok (by rw [← hq.1];exact hq.2.1)
     · exact ih x hx
 exact all r x hx
theorem Am {kvs:List (List Key×V)} (ok:HOk P w H h) (e:H a=some (.dT kvs)):kvs.length<=sizeLine/\(a == sysModules)=false ∧
   ∃ xs,KT H kvs xs/\h.DictOfH (tupleKind (bx P w)) a xs:=pd ok (.inl e)
end
noncomputable def iL (H:Hp) (a:Addr) (y:V) (r:Option V):Prop :=
 (∃ kvs k,Rd H a (.dK kvs)/\y=kV k/\r=bX kvs k)\/∃ kvs k b,Rd H a (.dT kvs)/\y=.ref b/\H b=some (.tup (k.map kV))/\r=bX kvs k
noncomputable def oH (H:Hp) (a:Addr) (y v:V) (H':Hp):Prop :=
 (∃ kvs k,H a=some (.dK kvs)/\y=kV k/\kvs.length < sizeLine/\H'=upd H a (.dK (putK kvs k v))) ∨
 ∃ kvs k b,H a=some (.dT kvs)/\y=.ref b/\H b=some (.tup (k.map kV))/\kvs.length < sizeLine/\H'=upd H a (.dT (putK kvs k v))
theorem iL.k {H:Hp} {a:Addr} {kvs:List (Key×V)} {k:Key} (e:H a=some (.dK kvs)):iL H a (kV k) (bX kvs k):=.inl ⟨kvs,k,.inl e,rfl,rfl⟩
theorem iL.t {H:Hp} {a b:Addr} {kvs:List (List Key×V)} {k:List Key} (e:H a=some (.dT kvs)) (eb:H b=some (.tup (k.map kV))):iL H a (.ref b) (bX kvs k):=.inr ⟨kvs,k,b,.inl e,rfl,eb,rfl⟩
theorem oH.k {H:Hp} {a:Addr} {kvs:List (Key×V)} {k:Key} {v:V} (e:H a=some (.dK kvs)) (hl:kvs.length < sizeLine):oH H a (kV k) v (upd H a (.dK (putK kvs k v))):=.inl ⟨kvs,k,e,rfl,hl,rfl⟩
theorem oH.t {H:Hp} {a b:Addr} {kvs:List (List Key×V)} {k:List Key} {v:V} (e:H a=some (.dT kvs)) (eb:H b=some (.tup (k.map kV))) (hl:kvs.length < sizeLine) :
   oH H a (.ref b) v (upd H a (.dT (putK kvs k v))):=.inr ⟨kvs,k,b,e,rfl,eb,hl,rfl⟩
section
variable {X:Cx} {pins:List (Addr×Obj)} {σ:St} {H:Hp} {s:Shared} {a:Addr} {y v:V} {u r:Value} {o:Option V} {A:Around} {E:Value->Shared->Prop}
theorem Inv.big (I:Inv X pins σ H s):sysModules < s.heap.objs.size:=by
 have h:mainGlobals < s.heap.objs.size:=(I.mod.glob.keeps I.bk).lt
 exact Nat.lt_trans (by decide) h
theorem rH {Q:Value->Shared->Prop} (hu:A.units+1 < cLine) (I:Inv X pins σ H s) (g:iL H a y (some v)) (ry:RelV y u) (h:∀ w' s',Inv X pins σ H s'->RelV v w'->Q w' s') :
   wpAny (model X.prog X.w) A (getItem (.ref a) u) Q E s:=by
 rcases g with ⟨kvs,k,e,ey,l⟩ | ⟨kvs,k,b,e,ey,eb,l⟩
 · subst ey
   obtain ⟨z,hd,vs,rel,dd⟩:=mU I.hok e
   obtain ⟨w',hw,rw'⟩:=gH.some_of (v:=v) (o:=valueAt vs k) (by rw [l];exact rel.val k)
   exact wpAny_getItem_of (kC ry) dd.mapOf hw (h w' _ (I.tok _) rw')
 · subst ey
   cases (show u=Value.ref b from ry)
   obtain ⟨z,hd,xs,rel,dd⟩:=pd I.hok e
   obtain ⟨w',hw,rw'⟩:=gH.some_of (v:=v) (o:=(atKey xs k).map (·.2)) (by rw [l];exact rel.val k)
   obtain ⟨p,hp,hp2⟩:=Option.map_eq_some_iff.mp hw
   refine wpAny_getItem_heap (tupleKind_room_in1 hu) (fG I.hok eb) dd hp ?_
   rw [hp2]
   exact h w' _ (I.tok _) rw'
theorem BR {Q:Value->Shared->Prop} (hu:A.units+1 < cLine) (I:Inv X pins σ H s) (g:iL H a y o) (ry:RelV y u) (h:∀ s',Inv X pins σ H s'->Q (.bool o.isSome) s') :
   wpAny (model X.prog X.w) A (compareOp .In u (.ref a)) Q E s:=by
 rcases g with ⟨kvs,k,e,ey,l⟩ | ⟨kvs,k,b,e,ey,eb,l⟩
 · subst ey
   obtain ⟨z,hd,vs,rel,dd⟩:=mU I.hok e
   refine wpAny_in_of (kC ry) hd dd.mapOf ?_
   rw [← (rel.val k).isSome_eq,← l]
   exact h _ (I.tok _)
 · subst ey
   cases (show u=Value.ref b from ry)
   obtain ⟨z,hd,xs,rel,dd⟩:=pd I.hok e
   refine wpAny_in_heap (tupleKind_room_in1 hu) (fG I.hok eb) hd dd ?_
   have q:=(rel.val k).isSome_eq
   rw [Option.isSome_map] at q
   rw [← q,← l]
   exact h _ (I.tok _)
theorem fD {h':Heap} {t':Nat} {ob:HO} (I:Inv X pins σ H s) (mu:Mut (H a)) (hs:Heap.SameBut a s.heap h') (he:∃ q,h'.get? a=some q) (new:aW X.prog X.w (upd H a ob) h' a ob) :
   Inv X pins σ (upd H a ob) { s with heap:=h',toks:=t' } :=
 I.write (x:=a) (e:=a) mu (.inl rfl) (fun b q hb z=>(hs.2 b hb).trans z) he new
theorem oF {P:Program} {w:World} {H':Hp} {h':Heap} {kvs:List (Key×V)} {vs:List (Key×Value)} (z:kvs.length<=sizeLine) (hd:(a == sysModules)=false) (rel:KV kvs vs) (dd:h'.DictOf (bx P w) a vs) :
   aW P w H' h' a (.dK kvs):=⟨z,hd,vs,rel,dd⟩
theorem rG {H':Hp} {Q:Unit->Shared->Prop} (hu:A.units+1 < cLine) (I:Inv X pins σ H s) (g:oH H a y v H') (ry:RelV y u) (rv:RelV v r) (h:∀ s',Inv X pins σ H' s'->Q () s') :
   wpAny (model X.prog X.w) A (setItem (.ref a) u r) Q E s:=by
 rcases g with ⟨kvs,k,e,ey,l,eH⟩ | ⟨kvs,k,b,e,ey,eb,l,eH⟩
 · subst ey eH
   obtain ⟨z,hd,vs,rel,dd⟩:=nP I.hok e
   have hz:vs.length<=sizeLine:=by rw [← rel.length];exact z
   have hl:(putK kvs k v).length<=sizeLine:=by have:=eY kvs k v;lia
   refine wpAny_setItem_pairs (hsz:=hz) (kC ry) dd fun h' dd' hs=>h _ ?_
   have he:∃ q,h'.get? a=some q:=let ⟨q,_,_,hq,_⟩:=dd';⟨q,hq⟩
   exact fD I (by rw [e];exact True.intro) hs he (oF hl hd (rel.put k rv) dd')
 · subst ey eH
   cases (show u=Value.ref b from ry)
   obtain ⟨z,hd,xs,rel,dd⟩:=Am I.hok e
   have hz:xs.length<=sizeLine:=by rw [← Paired.length rel];exact z
   have hl:(putK kvs k v).length<=sizeLine:=by have:=eY kvs k v;lia
   refine wpAny_setItem_heap (hsz:=hz) (tupleKind_room_in1 hu) (fG I.hok eb) dd fun h' dd' hs=>h _ ?_
   obtain ⟨q,es,ep,hq,h2,h3,h4,_,h5⟩:=dd'
   refine fD I (by rw [e];exact True.intro) hs ⟨q,hq⟩ ⟨hl,hd,_,(rel.put k eb rv).keeps fun c ys ec=>?_,q,es,ep,hq,h2,h3,h4,h5⟩
   rw [au (AC ec e (fun z=>nomatch z))]
   exact ec
end
section
variable {X:Cx} {pins:List (Addr×Obj)} {σ:St} {H:Hp} {s:Shared} {a:Addr} {kvs:List (Key×V)} {k:Key} {u:Value} {A:Around} {E:Value->Shared->Prop}
theorem Bi {Q:Value->Shared->Prop} (I:Inv X pins σ H s) (e:Rd H a (.dK kvs)) (h:∀ t s',Inv X pins σ H s'->Q (.int kvs.length t) s'):wpAny (model X.prog X.w) A (call (.builtin "len") [.ref a]) Q E s:=by
 obtain ⟨z,hd,vs,rel,dd⟩:=mU I.hok e
 refine call_len_dict hd dd (by rw [← rel.length];rw [sizeLine_eq] at z;lia) ?_
 rw [← rel.length]
 exact h _ _ (I.tok _)
end
theorem og {X:Cx} {pins:List (Addr×Obj)} {σ:St} {H:Hp} {s:Shared} {a:Addr} {y:V} {o:Option V} (I:Inv X pins σ H s) (g:iL H a y o):s.TypeIs (.ref a) "dict" := by
 rcases g with ⟨kvs,k,e,_,_⟩ | ⟨kvs,k,b,e,_,_,_⟩
 · obtain ⟨_,_,vs,_,dd⟩:=mU I.hok e
   exact dd.typeIs
 · obtain ⟨_,_,xs,_,dd⟩:=pd I.hok e
   exact dd.typeIs
section
variable {X:Cx} {o i e value:Expr} {pos pos' tpos:Pos} {td ty tv:TE}
end
theorem nE {P:Program} {w:World} {H:Hp} (h:Heap) (hb:sysModules < h.objs.size):aW P w H (h.push { cls:=.type "dict",data:=.dict #[] }) h.objs.size (.dK []) :=
 ⟨Nat.zero_le _,beq_eq_false_iff_ne.mpr (Ne.symm (Nat.ne_of_lt hb)),[],.nil,Heap.DictOf.new h⟩
noncomputable def zr:TE:=fun _ H Q=>∀ p,H p=none->Q (.ref p) (upd H p (.dK []))
section
variable {X:Cx} {pos:Pos}
theorem sF:PE X (.Dict [] [] pos) zr:=fun pins s σ H Q I h =>
 wpAny_Dict_empty ⟨.ref s.heap.objs.size,_,I.laid (a:=s.heap.objs.size) (o:=.dK []) (t':=s.toks) (fun _ _ q=>Heap.get?_push_of_some _ q) (Nat.le_refl _) (nE s.heap I.big),rfl,h _ (I.hok.fresh (Nat.le_refl _))⟩
end
noncomputable def o5:List (TE×TE)->St->Hp->(List (V×V)->Hp->Prop)->Prop
 | [],_,H,Q=>Q [] H
 | (tk,tv) :: r,σ,H,Q=>tk σ H fun x H1=>tv σ H1 fun y H2=>o5 r σ H2 fun ps H3=>Q ((x,y) :: ps) H3
noncomputable abbrev VV:List (V×V)->List (Value×Value)->Prop:=Paired fun p q=>RelV p.1 q.1/\RelV p.2 q.2
noncomputable def PPs (X:Cx) (pos:Pos) (keys:List (Option Expr)) (values:List Expr) (trs:List (TE×TE)):Prop :=
 ∀ (pins:List (Addr×Obj)) (s:Shared) (σ:St) (H:Hp) (Q:List (V×V)->Hp->Prop),Inv X pins σ H s->o5 trs σ H Q →
   wpAny (model X.prog X.w) X.A (evalPairs (pairTrees keys values X.env pos)) (fun vs s'=>∃ ps H',Inv X pins σ H' s'/\VV ps vs/\Q ps H') X.xe s
theorem vg {X:Cx} {pos:Pos}:PPs X pos [] [] []:=fun pins s σ H Q I h=>pairTrees_nil_walk ⟨[],H,I,.nil,h⟩
theorem tQ {X:Cx} {pos:Pos} {k v:Expr} {ks:List (Option Expr)} {vs:List Expr} {tk tv:TE} {trs:List (TE×TE)} (hk:PE X k tk) (hv:PE X v tv) (hr:PPs X pos ks vs trs) :
   PPs X pos (some k :: ks) (v :: vs) ((tk,tv) :: trs):=fun pins s σ H Q I h =>
 pairTrees_cons_walk (thn (hk pins s σ H _ I h) fun u s1 ⟨x,H1,I1,rx,q1⟩=>thn (hv pins s1 σ H1 _ I1 q1) fun w2 s2 ⟨y,H2,I2,ry,q2⟩ =>
   thn (hr pins s2 σ H2 _ I2 q2) fun ws s3 ⟨ps,H3,I3,rel,q3⟩=>⟨(x,y) :: ps,H3,I3,.cons ⟨rx,ry⟩ rel,q3⟩)
noncomputable def i4 (kvs more:List (Key×V)):List (Key×V):=more.foldl (fun acc kv=>putK acc kv.1 kv.2) kvs
theorem KV.merge:∀ {more:List (Key×V)} {rs:List (Key×Value)} {kvs:List (Key×V)} {vs:List (Key×Value)},KV more rs->KV kvs vs->KV (i4 kvs more) (merged vs rs):=by
 intro more rs kvs vs r
 unfold KV at r
 induction r generalizing kvs vs with
 | nil=>intro q;exact q
 | @cons p q ps qs h t ih =>
   intro r0
   have e:KV (putK kvs p.1 p.2) (stored vs q.1 q.2):=by
     have:=r0.put p.1 h.2
     rw [← h.1];exact this
   exact ih e
theorem hJ:∀ (more kvs:List (Key×V)),(i4 kvs more).length<=kvs.length+more.length
 | [],kvs=>by show kvs.length<=kvs.length+0;lia
 | p :: r,kvs=>by
   have h1:=hJ r (putK kvs p.1 p.2)
   have h2:=eY kvs p.1 p.2
   show (i4 (putK kvs p.1 p.2) r).length<=_
   rw [List.length_cons];lia
theorem ji {P:Program} {w:World}:∀ {kvs:List (Key×V)} {ws:List (Value×Value)},VV (kvs.map fun kv=>(kV kv.1,kv.2)) ws->∃ rs,Carries (bx P w) ws rs/\KV kvs rs
 | [],_,r=>by rw [List.map_nil] at r;cases r;exact ⟨[],True.intro,.nil⟩
 | p :: kvs,_,r=>by
   rw [List.map_cons] at r
   cases r with
   | @cons a b as bs h t =>
     obtain ⟨rs,c,q⟩:=ji (P:=P) (w:=w) t
     obtain ⟨b1,b2⟩:=b
     exact ⟨(p.1,b2) :: rs,⟨kC h.1,rfl,c⟩,.cons ⟨rfl,h.2⟩ q⟩
noncomputable def Ao (trs:List (TE×TE)):TE:=fun σ H Q=>∀ p,H p=none->o5 trs σ (upd H p (.dK [])) fun ps H2=>H2 p=some (.dK [])/\∃ kvs:List (Key×V),ps=kvs.map (fun kv=>(kV kv.1,kv.2))/\kvs.length<=15/\Q (.ref p) (upd H2 p (.dK (i4 [] kvs)))
theorem wt {X:Cx} {pos:Pos} {keys:List (Option Expr)} {values:List Expr} {trs:List (TE×TE)} (h:PPs X pos keys values trs) (hall:keys.all (·.isSome)=true) (hl:keys.length=values.length) (h0:keys ≠ [])
   (h15:keys.length<=15):PE X (.Dict keys values pos) (Ao trs):=by
 intro pins s σ H Q I q
 have hn:=I.hok.fresh (Nat.le_refl s.heap.objs.size)
 have I1:=I.laid (a:=s.heap.objs.size) (o:=.dK []) (h':=s.heap.push { cls:=.type "dict",data:=.dict #[] }) (t':=s.toks) (fun _ _ q=>Heap.get?_push_of_some _ q) (Nat.le_refl _) (nE s.heap I.big)
 refine wpAny_Dict_walk (knd:=bx X.prog X.w) hall hl h0 h15 (thn (h pins _ σ _ _ I1 (q _ hn)) fun ws s2 ⟨ps,H2,I2,rel,e,kvs,ep,lk,q2⟩=>?_)
 subst ep
 obtain ⟨rs,c,rk⟩:=ji (P:=X.prog) (w:=X.w) rel
 obtain ⟨z,hd,vs0,r0,dd⟩:=nP I2.hok e
 cases r0
 refine ⟨rs,c,dd,fun h' dd' hs=>⟨.ref s.heap.objs.size,_,?_,rfl,q2⟩⟩
 have hz:(i4 [] kvs).length<=sizeLine:=by
   have h1:=hJ kvs []
   rw [List.length_nil] at h1
   rw [sizeLine_eq];lia
 have he:∃ q,h'.get? s.heap.objs.size=some q:=let ⟨q,_,_,hq,_⟩:=dd';⟨q,hq⟩
 exact fD I2 (by rw [e];exact True.intro) hs he (oF hz hd (rk.merge .nil) dd')
section
variable {X:Cx} {pins:List (Addr×Obj)} {σ:St} {H:Hp} {s:Shared} {a:Addr} {y d:V} {u r:Value} {o:Option V} {A:Around} {E:Value->Shared->Prop}
end
section
variable {X:Cx} {o e f:Expr} {apos cpos:Pos} {td ty tx:TE}
end
section
variable {X:Cx} {pins:List (Addr×Obj)} {σ:St} {H:Hp} {s:Shared} {a:Addr} {kvs:List (Key×V)} {A:Around} {E:Value->Shared->Prop}
end
section
variable {X:Cx} {pins:List (Addr×Obj)} {σ:St} {H:Hp} {s:Shared} {a:Addr} {y:V} {u:Value} {A:Around} {E:Value->Shared->Prop}
end
end L2
namespace Att
open PySem PySem.W PySem.Calls PyProof.Rows
theorem jb {P:Params} {h:Heap}:∀ (ns:List Int) (vs:List Value),WellAll P h vs (ns.map WData.int)->IntsAre vs ns:=by
 intro ns
 induction ns with
 | nil =>
   intro vs w
   rw [List.map_nil] at w
   cases w
   exact .nil
 | cons n ns ih =>
   intro vs w
   rw [List.map_cons] at w
   cases w with
   | cons a b =>
     cases a
     exact .cons _ _ (ih _ b)
theorem qf {l:OpenLaw} {n:Nat} (hn:l.most=some n) {P:Params} {h:Heap} {args:List WData} {vals:List Value}
   (hpre:l.row.toRowW.claim.pre args=true) (hwl:WellAll P h vals args) :
   ∃ a vs ns,vals=[Value.ref a]/\args=[WData.list (ns.map WData.int)]/\h.get? a=some { cls:=.type "list",data:=.seq vs.toArray }/\IntsAre vs ns/\ns.length<=n:=by
 have hsh:WShape.hasAll [] args [.list .int]=true:=(pre_splitW hpre).1
 have hc:l.pre.holds [] { args:=args }=true:=(pre_splitW hpre).2
 obtain ⟨d,r,rfl,h1,h2⟩:=hasAllW_cons hsh
 obtain rfl:=hasAllW_nil h2
 obtain ⟨xs,rfl,h3⟩:=hasW_list h1
 obtain ⟨ns,rfl⟩:=items_int h3
 have hlen:ns.length<=n:=by
   unfold OpenLaw.pre at hc
   have h4:(WTm.not (.lt (.lit (.int (n:Int))) (.len (.arg 0)))).holds [] { args:=[.list (ns.map .int)] }=true:=by
     have h4:=(holds_andW hc).1
     rw [hn] at h4
     exact h4
   have h5:=condW_of h4 (w_not (w_lt w_lit (w_len_list (w_arg rfl))))
   rw [List.length_map] at h5
   refine Nat.le_of_not_lt fun q=>?_
   have q':(n:Int) < ((ns.length:Nat):Int):=by omega
   first
     | (rw [decide_eq_true q'] at h5;exact absurd h5 (by decide))
     | (simp at h5;omega)
 cases hwl with
 | cons w1 w2 =>
   cases w2
   cases w1 with
   | list ho hall=>exact ⟨_,_,ns,rfl,rfl,ho,jb ns _ hall,hlen⟩
theorem rD (l:OpenLaw) (args:List WData):l.row.toRowW.claim.post args (.bool true) args=true :=
 postW_of (r:=l.row.toRowW) (X:=(true == true))
   (show WShape.has [] (.bool true) .bool=true by first | rfl | decide | simp [WShape.has,WShape.arms,WShape.armsAll])
   (show (WTm.eq .res (.lit (.bool true))).value [] { args:=args,res:=some (.bool true),after:=args }=some (.bool (true == true)) from w_eq_bool (w_res rfl) w_lit) rfl
theorem nM {l:OpenLaw} {n:Nat} {q:Program} {loose:List Str} {XP:(Str->Option Value)->Heap->Prop} {YP:World->Heap->Prop} {d:DefRec}
   (hn:l.most=some n) (hdf:d.params.defaults=[])
   (call:∀ (w:World) (s₀ s₁:Shared) (mg mb:Str->Option Value) (fa:Addr) (o:Obj) (pm cd doc:Value) (a:Addr) (vs:List Value) (ns:List Int),
     Ground q loose [] XP w s₀ mg mb s₁.heap->YP w s₁.heap →
     s₁.heap.get? fa=some o->o.data=.func (docDef d.name d.params d.body d.scope pm cd doc)->s₁.heap.CodeRec cd d.name->mg d.name=some (.ref fa) →
     s₁.heap.get? a=some { cls:=.type "list",data:=.seq vs.toArray }->IntsAre vs ns->ns.length<=n->s₁.gens=#[] →
     codeAny (model l.prog w) callerA (.call (.ref fa) ⟨[.ref a],[]⟩) (fun r s'=>r=.ok (.ret (.bool true))/\OldK s₁.heap s'.heap/\s'.os=s₁.os/\AllBare s'.gens) s₁) :
   WalkO q loose XP YP l.row.toRowW d [] (fun f vs=>PySem.call f vs):=by
 intro w s₀ s₁ mg mb G Y fa o pm cd doc dV kV ho hd hcd hD hmg hg args vals as hpre hlay hrd hwl hlo
 obtain rfl:dV=.none:=Dflts.none hD hdf
 obtain rfl:kV=.none:=Dflts.noKw hD
 obtain ⟨a,vs,ns,rfl,rfl,hobj,hints,hlen⟩:=qf hn hpre hwl
 refine enter_call (codeAny_mono (call w s₀ s₁ mg mb fa o pm cd doc a vs ns G Y ho (fd_plain hd) hcd hmg hobj hints hlen hg) fun r s' hq=>?_)
 obtain ⟨rfl,h2,h3,h4⟩:=hq
 exact ⟨.inl ⟨.bool true,.bool true,[],rfl,fun _=>rfl,.bool true,rD l _,fun _=>⟨List.Pairwise.nil,fun _ hm=>(nomatch hm)⟩⟩,h2,h3,h4⟩
section
variable {prog:Program} {w:World} {A:Around} {E:Value->Shared->Prop} {s:Shared} {K:Frag}
end
end Att
namespace L2
open PySem PySem.Spec PyProof.Rows
theorem ki:∀ {vs:List Value} {ns:List Int},IntsAre vs ns->aP (ns.map V.int) vs
 | _,_,.nil=>.nil
 | _,_,.cons n t h=>.cons ⟨t,rfl⟩ (ki h)
noncomputable def uH (H:Hp):Prop:=∀ b,H b=none\/∃ o xs,H b=some (.frz o (.lst xs))
theorem uF {P:Program} {w:World} {K:PySem.W.Frag} {mg mb:Str->Option Value} {CX:CXT} {k:Nat} {fa a:Addr} {fd:FuncData} {x:Str} {sp:Sp} {s₁:Shared} {vs:List Value} {ns:List Int}
   (KX:K.In s₁.heap) (hns:s₁.heap.Ns mainGlobals mg) (hb:s₁.heap.Ns builtinsNs mb) (hbb:∀ x:Str,x ≠ "__name__" → mb x=bootBuiltins x) (hlim:s₁.heap.NoLimit) (hg:s₁.gens=#[])
   (ha:s₁.heap.get? a=some { cls:=.type "list",data:=.seq vs.toArray }) (hi:IntsAre vs ns) (hl:ns.length<=sizeLine) (hr:Room k callerA)
   (F:∀ base:Heap,K.In base->base.Ns mainGlobals mg->FnOk P w K mg base CX k fa fd [x] sp) (hbind:∀ (s:Shared) (u:Value),BindsTo s fd ⟨[u],[]⟩ [(x,u)])
   (hsp:∀ H:Hp,uH H->SqL K H a (ns.map V.int)->sp [.ref a] H (fun v _=>v=.bl true) fun _ _ _=>False)
   (hCX:∀ H e s',CX [] H s₁ (fun _ _ _=>False) e s'->False) :
   codeAny (model P w) callerA (.call (.ref fa) ⟨[.ref a],[]⟩) (fun r s'=>r=.ok (.ret (.bool true))/\OldK s₁.heap s'.heap/\s'.os=s₁.os/\AllBare s'.gens) s₁:=by
 have rv:=ki hi
 have lenV:=hi.length
 have core:∀ H:Hp,uH H->SqL K H a (ns.map V.int)->HOk P w H s₁.heap->(∀ b,H b ≠ none->b=a)->(H a ≠ none->K.lookup a=none) →
     codeAny (model P w) callerA (.call (.ref fa) ⟨[.ref a],[]⟩) (fun r s'=>r=.ok (.ret (.bool true))/\OldK s₁.heap s'.heap/\s'.os=s₁.os/\AllBare s'.gens) s₁:=by
   intro H hO hS hok hA hK
   have base_of:∀ {b:Addr} {o:Obj},s₁.heap.get? b=some o->H b=none->(lS s₁.heap H).get? b=some o:=fun e n=>tZ e n
   have noA:∀ {b:Addr} {o:Obj} {es:Array DictEntry} {ep:Nat},s₁.heap.get? b=some o->o.data=.dict es ep->H b=none:=fun {b o es ep} e d=>by
     cases q:H b with
     | none=>rfl
     | some u =>
       have e':b=a:=hA b (by rw [q];simp)
       subst e'
       rw [ha] at e;cases e
       have d':Data.seq vs.toArray _=Data.dict es ep:=d
       cases d'
   have nsK:∀ {b:Addr} {m:Str->Option Value},s₁.heap.Ns b m->(lS s₁.heap H).Ns b m:=fun {b m} ⟨o,es,ep,e,d,r⟩=>⟨o,es,ep,base_of e (noA e d),d,r⟩
   have hKb:K.In (lS s₁.heap H):=fun b o e=>base_of (KX b o e) (by
     cases q:H b with
     | none=>rfl
     | some u =>
       have e':b=a:=hA b (by rw [q];simp)
       subst e'
       rw [hK (by rw [q];simp)] at e;cases e)
   have hM:Mod K mg (lS s₁.heap H):=⟨hKb,nsK hns,⟨mb,nsK hb,hbb⟩,let ⟨mc,h1,h2⟩:=hlim;⟨mc,nsK h1,h2⟩⟩
   have e0:Env0 P w K mg (lS s₁.heap H) callerA [] s₁ H:=⟨rfl,hM,fun b o e=>wJ e,Nat.le_of_eq (qW _ _),trivial,fun b hb=>absurd (show b∈([]:List Addr) from hb) (by simp),hok,.of_eq hg⟩
   refine codeAny_mono ((F _ hKb (nsK hns)).run callerA [] s₁ H ⟨[.ref a],[]⟩ [.ref a] [.ref a] _ _ hr e0 (hbind s₁ (.ref a)) (.cons rfl .nil) (hsp H hO hS)) fun r s' h=>?_
   cases r with
   | error e=>exact (hCX H e s' h).elim
   | ok fl =>
     cases fl with
     | next=>exact False.elim h
     | brk=>exact False.elim h
     | cont=>exact False.elim h
     | ret u =>
       obtain ⟨v,H',os,bare,un,hok',r',q⟩:=h
       have q':v=.bl true:=q
       subst q'
       obtain rfl:u=Value.bool true:=r'
       refine ⟨rfl,OldK.of_keep fun b o e=>?_,os,bare⟩
       cases q:H b with
       | none=>exact un.keep b o e q (by intro z;exact absurd (show b∈([]:List Addr) from z) (by simp)) (by simp)
       | some u =>
         rcases hO b with z | ⟨ob,xs,z⟩
         · rw [q] at z;cases z
         · have z2:=un.frzs b ob _ z
           obtain ⟨e1,_⟩:=hok b _ z
           obtain ⟨e2,_⟩:=hok' b _ z2
           rw [e] at e1;cases e1
           exact e2
 cases hk:K.lookup a with
 | some o =>
   have e:=KX a o hk
   rw [ha] at e
   cases e
   refine core (fun _=>none) (fun _=>.inl rfl) (.inr ⟨_,vs.toArray,_,hk,rfl,rfl,rfl,by rw [List.size_toArray,lenV];exact hl,by simpa using rv⟩) (fun b u z=>by have z':(none:Option HO)=some u:=z;cases z') (fun b z=>absurd rfl z) fun z=>absurd rfl z
 | none =>
   refine core (fun b=>if b=a then some (.frz { cls:=.type "list",data:=.seq vs.toArray } (.lst (ns.map V.int))) else none) (fun b=>?_) (.inl (.inr ⟨{ cls:=.type "list",data:=.seq vs.toArray },if_pos rfl⟩)) (fun b u z=>?_) (fun b z=>?_) fun _=>hk
   · by_cases hb:b=a
     · exact .inr ⟨_,_,if_pos hb⟩
     · exact .inl (if_neg hb)
   · by_cases hb:b=a
     · have z':=(if_pos hb).symm.trans z
       cases z'
       subst hb
       exact ⟨ha,by rw [List.length_map];exact hl,vs,_,rv,ha⟩
     · have z':=(if_neg hb).symm.trans z
       cases z'
   · by_cases hb:b=a
     · exact hb
     · exact absurd (if_neg hb) z
end L2
namespace L2
open PySem PySem.Spec PyProof.Rows
theorem vP {l:PySem.W.OpenLaw} {n k:Nat} {q:Program} {loose:List Str} {XP:(Str->Option Value)->Heap->Prop} {YP:World->Heap->Prop} {d:DefRec} {K:Params->PySem.W.Frag} {CX:World->CXT} {sp:World->Sp} {x:Str}
   (hn:l.most=some n) (hn2:n<=sizeLine) (hdf:d.params.defaults=[]) (hr:Room k callerA)
   (hY:∀ (w:World) (h:Heap),YP w h->(K w.params).In h)
   (F:∀ (w:World) (mg:Str->Option Value) (fa:Addr) (h:Heap),(K w.params).In h->h.Ns mainGlobals mg->mg d.name=some (.ref fa) →
     ∃ fd:FuncData,(∀ (s:Shared) (u:Value),BindsTo s fd ⟨[u],[]⟩ [(x,u)]) ∧
       ∀ base:Heap,(K w.params).In base->base.Ns mainGlobals mg->FnOk l.prog w (K w.params) mg base (CX w) k fa fd [x] (sp w))
   (hsp:∀ (w:World) (H:Hp) (a:Addr) (ns:List Int),ns.length<=n->uH H->SqL (K w.params) H a (ns.map V.int)->sp w [.ref a] H (fun v _=>v=.bl true) fun _ _ _=>False)
   (hCX:∀ (w:World) (H:Hp) (s:Shared) (e:Value) (s':Shared),CX w [] H s (fun _ _ _=>False) e s'->False) :
   PySem.W.WalkO q loose XP YP l.row.toRowW d [] (fun f vs=>PySem.call f vs):=by
 refine Att.nM hn hdf fun w s₀ s₁ mg mb fa o pm cd doc a vs ns G Y ho hd hcd hmg hobj hints hlen hg=>?_
 have KX:=hY w _ Y
 obtain ⟨fd,hb,hF⟩:=F w mg fa _ KX G.T.g hmg
 exact uF KX G.T.g G.T.b G.T.builtins G.T.nolimit hg hobj hints (Nat.le_trans hlen hn2) hr hF hb (fun H hO hS=>hsp w H a ns hlen hO hS) fun H e s'=>hCX w H s₁ e s'
end L2
namespace L2
open PySem PySem.Spec PyProof.Rows
noncomputable def aX (s:Stmt):Arguments:=match s with
 | .FunctionDef _ a _ _ _ _ _ _ _ _=>a
 | _=>{ posonlyargs:=[],args:=[],vararg:=none,kwonlyargs:=[],kw_defaults:=[],kwarg:=none,defaults:=[] }
noncomputable def aR (s:Stmt):List Stmt:=match s with
 | .FunctionDef _ _ b _ _ _ _ _ _ _=>b
 | _=>[]
noncomputable def ao (s:Stmt):Scope:=match s with
 | .FunctionDef _ _ _ _ _ _ sc _ _ _=>sc
 | _=>{ kind:=.function,names:=[],isGenerator:=false,isCoroutine:=false }
noncomputable abbrev CX0:CXT:=fun _ _ _ _ _ _=>False
noncomputable abbrev E0:XK:=fun _ _ _=>False
theorem Bp {X:Cx}:oC CX0 X E0:=fun _ _ _ _ _ _ _ h=>h.elim
structure Fun (K:PySem.W.Frag) (x qual:Str) (st:Stmt) (f:Addr) (fd:FuncData):Prop where
 ex:∃ (oc:Value) (od:Option Addr) (kV doc pm:Value) (an:Option Addr) (cdv ct:Value) (osl:Array (Option Value)),
   fd=PySem.W.fnOf x qual (aX st) (aR st) (ao st) .none kV doc pm an cdv ct/\K.lookup f=some ⟨oc,od,.func fd,osl⟩/\PySem.W.codeIn K cdv qual=true
 kp:PySem.W.keepIn K (.ref f)=true
section
variable {P:Program} {w:World} {K:PySem.W.Frag} {mg:Str->Option Value} {base:Heap}
theorem Fun.ok {x qual:Str} {st:Stmt} {f:Addr} {fd:FuncData} {N ps:List Str} {k:Nat} {sp:Sp} (F:Fun K x qual st f fd) (S:FnScope N ps (ao st)) (len:∀ vs H Q E,sp vs H Q E->vs.length=ps.length)
   (hbody:∀ (cdv:Value) (A:Around) (outer:List Env) (s:Shared) (H:Hp) (vs:List V) (Q:VK) (E:XK),Room k (A.deeper (envOfC qual (ao st) s.heap.objs.size f cdv))->sp vs H Q E →
     ∃ t,PSs (kc CX0 P w K mg base N qual (ao st) f cdv A outer s H E).nox (aR st) t/\t { nx:=fun _ H'=>Q .non H',rt:=Q } (start N vs) H):FnOk P w K mg base CX0 (k+1) f fd ps sp:=by
 obtain ⟨oc,od,kV,doc,pm,an,cdv,ct,osl,rfl,lk,hcd⟩:=F.ex
 refine Aq lk hcd S len fun A outer s H vs Q E hr hsp=>?_
 obtain ⟨t,h,q⟩:=hbody cdv A outer s H vs Q E hr hsp
 exact ⟨t,h.nox,q⟩
theorem Fun.binds {x qual:Str} {st:Stmt} {f:Addr} {fd:FuncData} {ps:List Str} (F:Fun K x qual st f fd)
   (h:∀ (kV doc pm:Value) (an:Option Addr) (cdv ct:Value) (us:List Value),us.length=ps.length->bindArgs (PySem.W.fnOf x qual (aX st) (aR st) (ao st) .none kV doc pm an cdv ct) ⟨us,[]⟩=pure (ps.zip us)):Binds K fd ps []:=by
 obtain ⟨oc,od,kV,doc,pm,an,cdv,ct,osl,rfl,lk,hcd⟩:=F.ex
 exact .all (h kV doc pm an cdv ct)
theorem cL {x qual:Str} {st:Stmt} {f:Addr} {oc:Value} {od an:Option Addr} {osl:Array (Option Value)} {kV doc pm cdv ct:Value} (l:K.lookup f=some ⟨oc,od,.func (PySem.W.fnOf x qual (aX st) (aR st) (ao st) .none kV doc pm an cdv ct),osl⟩)
   (c:PySem.W.codeIn K cdv qual=true) (k:PySem.W.keepIn K (.ref f)=true):Fun K x qual st f (PySem.W.fnOf x qual (aX st) (aR st) (ao st) .none kV doc pm an cdv ct):=⟨⟨oc,od,kV,doc,pm,an,cdv,ct,osl,rfl,l,c⟩,k⟩
end
theorem sV {A:Around} {k:Nat} (hr:Room k A):A.units+1 < cLine:=Nat.lt_of_le_of_lt (Nat.add_le_add_left (by decide:1<=64) _) hr.units
section
variable {X:Cx}
theorem pv (i:Nat) {x:Str} {pos:Pos} (hN:X.N[i]?=some x:=by rfl) (hv:Vis X.env.scope x:=by first | exact Or.inl rfl | exact Or.inr (Or.inl rfl) | exact Or.inr (Or.inr rfl)) (hd:(x == ("__debug__" : Str))=false:=by decide)
   (hcd:(x == ("__classdict__" : Str))=false:=by decide):PE X (.Name x pos) (rB i):=eG hN hv hd hcd
end
theorem yT {A B:Prop} (h:B):if false=true then A else B:=by
 rw [if_neg Bool.false_ne_true]
 exact h
theorem zw {A B:Prop} (h:A):if true=true then A else B:=by
 rw [if_pos rfl]
 exact h
noncomputable def aQ (H H':Hp):Prop:=∀ b o,H b=some o->H' b=some o
theorem aQ.refl (H:Hp):aQ H H:=fun _ _ h=>h
theorem aQ.trans {H H1 H2:Hp} (a:aQ H H1) (b:aQ H1 H2):aQ H H2:=fun c o h=>b c o (a c o h)
theorem aQ.free {H H':Hp} (e:aQ H H') {l:Addr} (h:H' l=Option.none):H l=Option.none:=by
 cases q:H l with
 | none=>rfl
 | some o =>
   rw [e l o q] at h
   cases h
theorem aQ.seq {K:PySem.W.Frag} {H H':Hp} {a:Addr} {xs:List V} (e:aQ H H') (h:SqL K H a xs):SqL K H' a xs:=by
 rcases h with (h | ⟨o,h⟩) | h
 · exact .inl (.inl (e _ _ h))
 · exact .inl (.inr ⟨o,e _ _ h⟩)
 · exact .inr h
end L2
end
section
namespace NK
open PySem PySem.Spec PyProof.Rows
variable {prog:Program} {w:World} {K:Type} [DecidableEq K] {knd:KeyKind prog w K} {A:Around} {E:Value->Shared->Prop} {s:Shared}
inductive Its (knd:KeyKind prog w K) (h:Heap):List (List K)->List Value->Prop
 | nil:Its knd h [] []
 | cons {k:List K} {b:Addr} {ks:List (List K)} {vs:List Value}:IsTupleKey knd h k b->Its knd h ks vs->Its knd h (k :: ks) (.ref b :: vs)
noncomputable def IsN (knd:KeyKind prog w K) (h:Heap) (ks:List (List K)) (a:Addr):Prop:=∃ o items n,h.get? a=some o/\o.cls=.type "tuple" ∧ o.data=.seq items n/\Its knd h ks items.toList
theorem Its.fn {h:Heap} {x y:List (List K)} {vs:List Value} (hx:Its knd h x vs):Its knd h y vs->x=y:=by
 induction hx generalizing y with
 | nil=>intro hy;cases hy;rfl
 | cons h1 _ ih =>
   intro hy
   cases hy with
   | cons h2 t=>rw [h1.inj h2,ih t]
theorem IsN.ty {ks:List (List K)} {a:Addr} (x:IsN knd s.heap ks a):s.TypeIs (.ref a) "tuple" := let ⟨o,_,_,g,c,_⟩:=x;⟨o,g,c⟩
theorem IsN.fn {h:Heap} {a:Addr} {x y:List (List K)} (hx:IsN knd h x a) (hy:IsN knd h y a):x=y:=by
 obtain ⟨o,its,n,g,_,d,i⟩:=hx
 obtain ⟨o',its',n',g',_,d',i'⟩:=hy
 rw [g] at g'
 cases g'
 rw [d] at d'
 cases d'
 exact i.fn i'
theorem Its.keeps {h h':Heap} {ks:List (List K)} {vs:List Value} {d:Addr} {o:Obj} {es ep} (x:Its knd h ks vs) (ho:h.get? d=some o) (hd:o.data=.dict es ep) (hs:Heap.SameBut d h h'):Its knd h' ks vs:=by
 induction x with
 | nil=>exact .nil
 | cons h1 _ ih=>exact .cons (h1.keeps ho hd hs) ih
theorem IsN.keeps {h h':Heap} {ks:List (List K)} {a d:Addr} {o:Obj} {es ep} (x:IsN knd h ks a) (ho:h.get? d=some o) (hd:o.data=.dict es ep) (hs:Heap.SameBut d h h'):IsN knd h' ks a:=by
 obtain ⟨o',its,n,g,c,d',i⟩:=x
 refine ⟨o',its,n,(hs.2 a fun z=>?_).trans g,c,d',i.keeps ho hd hs⟩
 subst z
 rw [ho] at g
 cases g
 rw [hd] at d'
 cases d'
noncomputable def ue (knd:KeyKind prog w K) (ks:List (List K)):Int:=reduceHash (Builtin.Tuple.tupleHashOf (ks.map (tupleKeyHash knd)))
noncomputable def ot (ks:List (List K)):Nat:=(ks.map fun k=>k.length+1).sum+1
theorem vp {ks:List (List K)} {a:Addr} {Q:Int->Shared->Prop} (hu:A.units+1 < cLine) (hk:IsN knd s.heap ks a) (q:Q (ue knd ks) { s with toks:=s.toks+ot ks }):wpAny (model prog w) A (pyHash (.ref a)) Q E s:=by
 have ty:=hk.ty
 obtain ⟨o,its,n,g,_,d,i⟩:=hk
 unfold pyHash
 first | unfold pyHashByItsType | skip
 first | refine wpAny_bind (wpAny_cRoomFor_or (.inr (Nat.lt_of_succ_lt hu)) ?_) | skip
 refine wpAny_bind (wpAny_specialOf ty F.slot_tuple_hash.lookup ?_)
 refine (show wpAny _ _ (if (some (Value.builtin "tuple.__hash__") == some Value.none)=true then _ else _) Q E s from ?_)
 rw [if_neg (fun z=>by rw [beq_builtin_none] at z;cases z)]
 refine wpAny_bind (wpAny_specialOf ty F.slot_tuple_hash.lookup (wpAny_bind (wpAny_callSpecialIfBoundUnlessNone?_slot ty F.slot_tuple_hash (wpAny_call_entry F.slot_tuple_hash ty F.entry_tuple_hash (wpAny_bind (m:=Builtin.Tuple.tupleItemsOf (.ref a)) (wpAny_tupleItemsOf g d (wpAny_bind ?_))) (F.args_tuple_hash_1 _)))))
 rw [← Array.forIn_toList]
 refine wpAny_forIn_list _ (fun rest (b:Array Int) s'=>∃ x y,ks=x++y/\Its knd s.heap y rest/\b.toList=x.map (tupleKeyHash knd)/\s'={ s with toks:=s.toks+(x.map fun k=>k.length+1).sum }) _ ?turn ?fin _ _ ⟨[],ks,rfl,i,rfl,rfl⟩
 case turn =>
   rintro v rest b s' ⟨x,y,rfl,hi,hb,rfl⟩
   cases hi with
   | @cons k c ks' _ h1 h2 =>
     refine wpAny_bind (wpAny_pyHash_tuple (s:={ s with toks:=s.toks+(x.map fun k=>k.length+1).sum }) (by show A.in1.units < cLine;exact hu) h1 ?_)
     first
       | exact wpAny_pure ⟨x++[k],ks',by simp,h2,by simp [hb],by simp [Nat.add_assoc]⟩
       | exact wpAny_bind (wpAny_pure (wpAny_pure ⟨x++[k],ks',by simp,h2,by simp [hb],by simp [Nat.add_assoc]⟩))
 case fin =>
   rintro b s' ⟨x,y,rfl,hi,hb,rfl⟩
   cases hi
   rw [List.append_nil] at q
   refine (show wpAny _ _ (retInt (Builtin.Tuple.tupleHashOf b.toList)) _ _ _ from ?_)
   rw [hb]
   refine wpAny_ret_mkInt ?_
   unfold ue reduceHash ot at q
   refine (show wpAny _ _ (if (decide (-(2:Int) ^ 63<=Builtin.Tuple.tupleHashOf (x.map (tupleKeyHash knd))) && decide (Builtin.Tuple.tupleHashOf (x.map (tupleKeyHash knd)) < 2 ^ 63))=true then _ else _) Q E _ from ?_)
   by_cases hr:(decide (-(2:Int) ^ 63<=Builtin.Tuple.tupleHashOf (x.map (tupleKeyHash knd))) && decide (Builtin.Tuple.tupleHashOf (x.map (tupleKeyHash knd)) < 2 ^ 63))=true
   · rw [if_pos hr] at q ⊢
     exact wpAny_pure (by simpa [Nat.add_assoc] using q)
   · rw [if_neg hr] at q ⊢
     exact wpAny_bind (wpAny_rule (wpAny_pure (by simpa [Nat.add_assoc] using q)))
theorem vR {x y:List (List K)} {a b:Addr} {P:PySem.Fin->Shared->Prop} (hu:A.units < cLine) (hx:IsN knd s.heap x a) (hy:IsN knd s.heap y b) (q:P (.done (.ret (.bool (decide (x=y))))) s):wpAny (model prog w) A (Builtin.«tuple.__eq__» ⟨[.ref a,.ref b],[]⟩) P E s:=by
 have ty:=hy.ty
 obtain ⟨oa,xs,na,ga,_,da,ia⟩:=hx
 obtain ⟨ob,ys,nb,gb,_,db,ib⟩:=hy
 refine (show wpAny _ _ (isInstance (.ref b) (.type "tuple") >>= _) _ _ s from wpAny_bind (wpAny_isInstance ty isSubtype_tuple_tuple ?_))
 simp only [Bool.not_true,Bool.false_eq_true,↓reduceIte]
 refine wpAny_bind (wpAny_tupleItemsOf ga da (wpAny_bind (wpAny_tupleItemsOf gb db (wpAny_bind ?_))))
 refine wpAny_forIn_list _ (fun rest r s'=>r.1=none/\s'=s/\∃ x' y' xs' ys',rest=List.zip xs' ys'/\Its knd s.heap x' xs'/\Its knd s.heap y' ys'/\decide (x'=y')=decide (x=y)/\(xs'.length == ys'.length)=(xs.size == ys.size)) _ ?turn ?fin _ _ ⟨rfl,rfl,x,y,xs.toList,ys.toList,rfl,ia,ib,rfl,by simp⟩
 case turn =>
   rintro ⟨u,v⟩ rest r s' ⟨hr,rfl,x',y',xs',ys',hz,hx',hy',hdec,hlen⟩
   cases hx' with
   | nil=>simp at hz
   | @cons k1 c1 x2 xs2 h1 t1 =>
     cases hy' with
     | nil=>simp at hz
     | @cons k2 c2 y2 ys2 h2 t2 =>
       simp only [List.zip_cons_cons,List.cons.injEq,Prod.mk.injEq] at hz
       obtain ⟨⟨rfl,rfl⟩,rfl⟩:=hz
       refine wpAny_bind (wpAny_eqBool_tuple hu h1 h2 ?_)
       by_cases hk:k1=k2
       · subst hk
         rw [decide_eq_true rfl]
         simp only [Bool.not_true,Bool.false_eq_true,↓reduceIte]
         refine wpAny_pure ⟨rfl,rfl,x2,y2,xs2,ys2,rfl,t1,t2,?_,by simpa using hlen⟩
         rw [← hdec]
         by_cases hxy:x2=y2 <;> simp [hxy]
       · rw [decide_eq_false hk]
         simp only [Bool.not_false,↓reduceIte]
         have hf:decide (x=y)=false:=by rw [← hdec];simp [hk]
         rw [hf] at q
         exact wpAny_bind (wpAny_pure (wpAny_pure (wpAny_pure q)))
 case fin =>
   rintro ⟨r1,r2⟩ s' ⟨hr,rfl,x',y',xs',ys',hz,hx',hy',hdec,hlen⟩
   simp only at hr
   subst hr
   have hfin:(xs.size == ys.size)=decide (x=y):=by
     rw [← hdec,← hlen]
     cases hx' with
     | nil=>cases hy' <;> simp
     | cons _ _ =>
       cases hy' with
       | nil=>simp
       | cons _ _=>simp at hz
   refine wpAny_pure (show P (.done (.ret (.bool (xs.size == ys.size)))) s' from ?_)
   rw [hfin]
   exact q
theorem Bd {x y:List (List K)} {a b:Addr} {Q:Bool->Shared->Prop} (hu:A.units+1 < cLine) (hx:IsN knd s.heap x a) (hy:IsN knd s.heap y b) (q:Q (decide (x=y)) s):wpAny (model prog w) A (eqBool (.ref a) (.ref b)) Q E s:=by
 unfold eqBool
 try with_reducible refine wpAny_holding ?_
 refine (show wpAny _ _ (if (Value.ref a == Value.ref b)=true then _ else _) Q E s from ?_)
 by_cases hab:(Value.ref a == Value.ref b)=true
 · rw [if_pos hab]
   have e:a=b:=by have:=eq_of_beq hab;injection this
   subst e
   obtain rfl:=hx.fn hy
   exact wpAny_bind (wpAny_rule (wpAny_pure (by simpa using q)))
 · rw [if_neg hab]
   exact wpAny_bind (wpAny_richCompare_same_room (op:=.Eq) hx.ty hy.ty F.slot_tuple_eq (wpAny_call_entry F.slot_tuple_eq hx.ty F.entry_tuple_eq (vR (by show A.in1.units < cLine;exact hu) hx hy ⟨_,rfl,(fun e=>nomatch e),wpAny_truthy_bool q⟩) (F.args_tuple_eq_2 _ _)) (Nat.lt_of_succ_lt hu))
theorem qE {ks:List K} {n:Nat} {a:Addr} {Q:Bool->Shared->Prop} (hk:IsTupleKey knd s.heap ks a) (q:Q true s):wpAny (model prog w) A (eqIsQuiet (n+1) (.ref a)) Q E s:=by
 have ty:=hk.typeIs
 obtain ⟨o,its,m,g,_,d,i⟩:=hk
 unfold eqIsQuiet
 refine wpAny_bind (wpAny_specialOf ty F.slot_tuple_eq.lookup (show wpAny _ _ (isInstance (.ref a) (.type "tuple") >>= _) _ _ s from wpAny_bind (wpAny_isInstance ty isSubtype_tuple_tuple ?_)))
 simp only [Bool.not_true,Bool.false_eq_true,↓reduceIte]
 refine wpAny_bind (wpAny_seqItems g d (wpAny_bind (show wpAny _ _ (forIn its _ _) _ _ s from ?_)))
 rw [← Array.forIn_toList]
 refine wpAny_forIn_list _ (fun rest r s'=>r.1=none/\s'=s/\∀ v∈rest,carriedByValue v=true) _ ?turn ?fin _ _ ⟨rfl,rfl,i.byValue⟩
 case turn =>
   rintro v rest r s' ⟨hr,rfl,hall⟩
   rw [eqIsQuiet_byValue _ (hall v List.mem_cons_self)]
   refine wpAny_bind (wpAny_pure ?_)
   simp only [Bool.not_true,Bool.false_eq_true,↓reduceIte]
   exact wpAny_pure ⟨rfl,rfl,fun u hu=>hall u (List.mem_cons_of_mem _ hu)⟩
 case fin =>
   rintro ⟨r1,r2⟩ s' ⟨hr,rfl,_⟩
   simp only at hr
   subst hr
   exact wpAny_pure q
theorem tF {ks:List (List K)} {a:Addr} {Q:Bool->Shared->Prop} (hk:IsN knd s.heap ks a) (q:Q true s):wpAny (model prog w) A (eqIsQuiet 8 (.ref a)) Q E s:=by
 have ty:=hk.ty
 obtain ⟨o,its,m,g,_,d,i⟩:=hk
 unfold eqIsQuiet
 refine wpAny_bind (wpAny_specialOf ty F.slot_tuple_eq.lookup (show wpAny _ _ (isInstance (.ref a) (.type "tuple") >>= _) _ _ s from wpAny_bind (wpAny_isInstance ty isSubtype_tuple_tuple ?_)))
 simp only [Bool.not_true,Bool.false_eq_true,↓reduceIte]
 refine wpAny_bind (wpAny_seqItems g d (wpAny_bind (show wpAny _ _ (forIn its _ _) _ _ s from ?_)))
 rw [← Array.forIn_toList]
 refine wpAny_forIn_list _ (fun rest r s'=>r.1=none/\s'=s/\∃ ks',Its knd s.heap ks' rest) _ ?turn ?fin _ _ ⟨rfl,rfl,ks,i⟩
 case turn =>
   rintro v rest r s' ⟨hr,rfl,ks',hi⟩
   cases hi with
   | cons h1 h2 =>
     refine wpAny_bind (qE h1 ?_)
     simp only [Bool.not_true,Bool.false_eq_true,↓reduceIte]
     exact wpAny_pure ⟨rfl,rfl,_,h2⟩
 case fin =>
   rintro ⟨r1,r2⟩ s' ⟨hr,rfl,_⟩
   simp only at hr
   subst hr
   exact wpAny_pure q
noncomputable def nest (knd:KeyKind prog w K):HeapKind prog w (List (List K)) where
 is:=IsN knd
 hash:=ue knd
 draws:=ot
 room:=fun A=>A.units+1 < cLine
 inj:=fun hx hy=>hx.fn hy
 keeps:=fun x ho hd hs=>x.keeps ho hd hs
 pyHash:=fun hu hk q=>vp hu hk q
 eqBool:=fun hu hx hy q=>Bd hu hx hy q
 quiet:=fun hk q=>tF hk q
end NK
end
section
namespace L2
open PySem PySem.Spec PyProof.Rows
noncomputable abbrev aZ:=List (List Int)
noncomputable def hN (k:aZ):Int:=reduceHash (Builtin.Tuple.tupleHashOf (k.map fun x=>reduceHash (Builtin.Tuple.tupleHashOf (x.map hashInt))))
noncomputable def BE (x:aZ×Addr×Value):DictEntry:=⟨hN x.1,.ref x.2.1,x.2.2⟩
noncomputable abbrev KN:List (aZ×Addr×V)->List (aZ×Addr×Value)->Prop:=Paired fun p q=>p.1=q.1/\p.2.1=q.2.1/\RelV p.2.2 q.2.2
noncomputable def DN (a:Addr) (kvs:List (aZ×Addr×V)):HO:=.ext fun h=>kvs.length<=sizeLine/\(a == sysModules)=false/\∃ xs:List (aZ×Addr×Value),KN kvs xs ∧
 ∃ o es ep,h.get? a=some o/\o.ExactDict/\o.data=.dict es ep/\es.toList=xs.map BE/\(xs.map (·.1)).Nodup
noncomputable def NAt (H:Hp) (k:aZ) (b:Addr):Prop:=∃ cs:List Addr,H b=some (.tup (cs.map V.ref))/\Paired (fun (x:List Int) (c:Addr)=>H c=some (.tup (x.map V.int))) k cs
theorem NAt.mono {H H':Hp} {k:aZ} {b:Addr} (x:NAt H k b) (t:∀ a xs,H a=some (.tup xs)->H' a=some (.tup xs)):NAt H' k b:=by
 obtain ⟨cs,h,r⟩:=x
 exact ⟨cs,t _ _ h,Paired.mapP r fun _ _ z=>t _ _ z⟩
section
variable {P:Program} {w:World} {H:Hp} {h:Heap} {a b:Addr}
theorem items_int:∀ {ks:List Int} {us:List Value},aP (ks.map V.int) us->ItemsAre (intKind P w) ks us
 | [],_,r=>by rw [List.map_nil] at r;cases r;exact .nil
 | k :: ks,_,r=>by
   rw [List.map_cons] at r
   cases r with
   | @cons _ u _ _ h t =>
     refine .cons ?_ (items_int t)
     obtain ⟨q,rfl⟩:=(show ∃ q,u=Value.int k q from h)
     show Value.isInt k (.int k q)=true
     simp [Value.isInt]
theorem NAt.is {k:aZ} (ok:HOk P w H h) (x:NAt H k b):NK.IsN (intKind P w) h k b:=by
 obtain ⟨cs,e,r⟩:=x
 obtain ⟨z0,its,v,_,o,h1,h2,n,h3⟩:=(show aW P w H h b (.tup (cs.map V.ref)) from ok b _ e)
 refine ⟨o,its.toArray,n,h1,h2,h3,?_⟩
 rw [List.toList_toArray]
 clear e h1 h2 h3 z0
 induction r generalizing its with
 | nil =>
   rw [List.map_nil] at v
   cases v
   exact .nil
 | @cons x c xs cs' hx _ ih =>
   rw [List.map_cons] at v
   cases v with
   | @cons _ u _ _ hu t =>
     obtain rfl:=(show u=Value.ref c from hu)
     obtain ⟨_,its2,v2,_,o2,g1,g2,n2,g3⟩:=(show aW P w H h c (.tup (x.map V.int)) from ok c _ hx)
     exact .cons ⟨o2,its2.toArray,n2,g1,g2,g3,by simpa using items_int v2⟩ (ih _ t)
theorem Be {kvs:List (aZ×Addr×V)} (ok:HOk P w H h) (e:H a=some (DN a kvs)) (ks:∀ p∈kvs,NAt H p.1 p.2.1):kvs.length<=sizeLine/\(a == sysModules)=false ∧
   ∃ xs,KN kvs xs/\h.DictOfH (NK.nest (intKind P w)) a xs:=by
 obtain ⟨⟨z,y,xs,r,o,es,ep,h1,h2,h3,h4,h5⟩,_⟩:=(show aW P w H h a (DN a kvs) from ok a _ e)
 refine ⟨z,y,xs,r,o,es,ep,h1,h2,h3,h4,fun x hx=>?_,h5⟩
 have all:∀ {l:List (aZ×Addr×V)} {m:List (aZ×Addr×Value)},KN l m->(∀ p∈l,NAt H p.1 p.2.1)->∀ x∈m,NK.IsN (intKind P w) h x.1 x.2.1:=by
   intro l m q
   induction q with
   | nil=>intro _ x hx;exact nomatch hx
   | @cons p q ps qs hq t ih =>
     intro hl x hx
     rcases List.mem_cons.mp hx with e | hx
     · subst e
       rw [← hq.1,← hq.2.1]
       exact (hl p List.mem_cons_self).is ok
     · exact ih (fun p hp=>hl p (List.mem_cons_of_mem _ hp)) x hx
 exact all r ks x hx
theorem sj {H':Hp} {h':Heap} {kvs:List (aZ×Addr×V)} {xs:List (aZ×Addr×Value)} (z:kvs.length<=sizeLine) (hd:(a == sysModules)=false) (rel:KN kvs xs) (dd:h'.DictOfH (NK.nest (intKind P w)) a xs) :
   aW P w H' h' a (DN a kvs):=by
 obtain ⟨o,es,ep,h1,h2,h3,h4,_,h5⟩:=dd
 refine ⟨⟨z,hd,xs,rel,o,es,ep,h1,h2,h3,h4,h5⟩,⟨o,h1⟩,?_⟩
 rintro g1 g2 ⟨z,hd,xs,rel,o,es,ep,h1,h2,h3,h4,h5⟩ k
 exact ⟨z,hd,xs,rel,o,es,ep,k _ h1,h2,h3,h4,h5⟩
theorem KN.length {l:List (aZ×Addr×V)} {m:List (aZ×Addr×Value)} (r:KN l m):l.length=m.length:=Paired.length r
noncomputable def atN (kvs:List (aZ×Addr×V)) (k:aZ):Option V:=(kvs.find? fun x=>decide (x.1=k)).map (·.2.2)
theorem KN.at {l:List (aZ×Addr×V)} {m:List (aZ×Addr×Value)} (r:KN l m) (k:aZ):gH (atN l k) ((atKey m k).map (·.2)):=by
 unfold atN atKey
 induction r with
 | nil=>exact (show gH none none from trivial)
 | @cons p q ps qs hq t ih =>
   rw [List.find?_cons,List.find?_cons,← hq.1]
   by_cases e:p.1=k
   · simp only [e,decide_true,Option.map_some]
     exact hq.2.2
   · simp only [e,decide_false]
     exact ih
theorem KN.add {l:List (aZ×Addr×V)} {m:List (aZ×Addr×Value)} (r:KN l m) {p:aZ×Addr×V} {q:aZ×Addr×Value} (x:p.1=q.1/\p.2.1=q.2.1/\RelV p.2.2 q.2.2):KN (l++[p]) (m++[q]):=by
 induction r with
 | nil=>exact .cons x .nil
 | cons h _ ih=>exact .cons h ih
end
section
variable {prog:Program} {w:World} {K:Type} [DecidableEq K] {knd:HeapKind prog w K} {A:Around} {E:Value->Shared->Prop} {s:Shared}
theorem mK {d a:Addr} {xs:List (K×Addr×Value)} {k:K} {v:Value} {Q:Value->Shared->Prop} (hu:knd.room A) (hkey:knd.is s.heap k a) (hm:s.heap.DictOfH knd d xs) (hsz:xs.length<=sizeLine)
   (q1:∀ p,atKey xs k=some p->Q p.2 { s with toks:=s.toks+knd.draws k })
   (q2:atKey xs k=none->∀ h',h'.DictOfH knd d (xs++[(k,a,v)])->Heap.SameBut d s.heap h'->Q v { s with heap:=h',toks:=s.toks+knd.draws k }) :
   wpAny (model prog w) A (dictSetDefault d (.ref a) v) Q E s:=by
 obtain ⟨o,es,ep,ho,hc,hd,he,his,hn⟩:=hm
 unfold dictSetDefault
 try with_reducible refine wpAny_holding ?_
 refine wpAny_bind (knd.pyHash hu hkey (wpAny_bind (wpAny_dictFind_heap (s:={ s with toks:=s.toks+knd.draws k }) hu hkey ho hd he his hn (fun hno=>?_) fun j p hj=>?_)))
 · have at0:=atKey_none_of_get hno
   have hnot:k ∉ xs.map (·.1):=not_mem_keys_of_get hno
   refine wpAny_bind (wpAny_rule (wpAny_bind (wpAny_updateDictKeys (hz:=by have e:=size_of_entries he;lia) (s:={ s with toks:=s.toks+knd.draws k }) ho hd (wpAny_pure (q2 at0 _ ⟨_,_,ep+1,Heap.get?_update_self _ ho (Obj.isFreed_of_dict (Obj.data_mapDictKeys hd _)),
     hc.mapDictKeys _,Obj.data_mapDictKeys hd _,by simp [he,entryOfKey],fun x hx=>?_,?_⟩ (Heap.SameBut.update ..))))))
   · rcases List.mem_append.mp hx with hx | hx
     · exact knd.keeps (his x hx) ho hd (Heap.SameBut.update ..)
     · obtain rfl:=List.mem_singleton.mp hx
       exact knd.keeps hkey ho hd (Heap.SameBut.update ..)
   · rw [List.map_append,List.nodup_append]
     refine ⟨hn,by simp,fun x hx y hy e=>hnot ?_⟩
     simp only [List.map_cons,List.map_nil,List.mem_singleton] at hy
     exact hy ▸ e ▸ hx
 · refine wpAny_bind (wpAny_dictEntries (s:={ s with toks:=s.toks+knd.draws k }) ho hd ?_)
   rw [entry_at he j,hj]
   exact wpAny_bind (wpAny_rule (wpAny_pure (q1 p (atKey_of_get hn hj))))
theorem lO (knd:HeapKind prog w K) {k:K} {a:Addr} (d:Addr) (hd:(d == sysModules)=false) (v:Value) :
   MeetsIn prog w (Builtin.«dict.setdefault» ⟨[.ref d,.ref a,v],[]⟩) (fun A R s=>knd.room A.in1/\knd.is s.heap k a/\∃ xs,s.heap.DictOfH knd d xs/\xs.length<=sizeLine ∧
     (∀ p,atKey xs k=some p->R (.ok (.ret p.2)) { s with toks:=s.toks+knd.draws k }) ∧
     (atKey xs k=none->∀ h',h'.DictOfH knd d (xs++[(k,a,v)])->Heap.SameBut d s.heap h'->R (.ok (.ret v)) { s with heap:=h',toks:=s.toks+knd.draws k })) :=
 .of_wp fun A R s ⟨hu,hkey,xs,hm,hz,q1,q2⟩=>by
   unfold Builtin.«dict.setdefault»
   refine wpAny_bind ?_
   unfold Builtin.Dict.keyAndDefault
   refine wpAny_bind (wpAny_notOrdered_dict hm.typeIs (show wpAny _ _ (pure (d,Value.ref a,some v)) _ _ s from wpAny_pure ?_))
   show wpAny _ _ (if (d == sysModules)=true then _ else (dictSetDefault d (.ref a) v >>= _)) _ _ s
   rw [if_neg (by rw [hd];simp)]
   exact wpAny_bind (mK hu hkey hm hz (fun p hp=>wpAny_pure ⟨_,rfl,q1 p hp⟩) fun hn h' hm' hs'=>wpAny_pure ⟨_,rfl,q2 hn h' hm' hs'⟩)
end
section
variable {X:Cx}
noncomputable def sL:V->List V->Hp->VK->Prop:=fun x vs H Q=>∃ (a b:Addr) (kvs:List (aZ×Addr×V)) (k:aZ) (y:V),x=.ref a/\vs=[.ref b,y]/\H a=some (DN a kvs)/\(∀ p∈kvs,NAt H p.1 p.2.1)/\NAt H k b/\kvs.length < sizeLine ∧
 (∀ v,atN kvs k=some v->Q v H)/\(atN kvs k=none->Q y (upd H a (DN a (kvs++[(k,b,y)]))))
theorem oG (hu:X.A.units+2 < cLine):MtR X "dict.setdefault" sL:=by
 intro pins s σ H x vs v us Q I rx rv h
 obtain ⟨a,b,kvs,k,y,rfl,rfl,e,hks,hk,hl,q1,q2⟩:=h
 cases rx
 obtain ⟨u,u2,rfl,ru,ru2⟩:=rv.two
 obtain rfl:=(show u=Value.ref b from ru)
 obtain ⟨z,hd,xs,rel,dd⟩:=Be I.hok e hks
 have hz:xs.length<=sizeLine:=by rw [← rel.length];exact z
 have hval:=rel.at k
 refine call_meetsIn PySem.F.slot_dict_setdefault dd.typeIs PySem.F.entry_dict_setdefault (PySem.F.args_dict_setdefault_3 _ _ _) (lO (NK.nest (intKind X.prog X.w)) (k:=k) (a:=b) a hd u2) ⟨by show X.A.in1.units+1 < cLine;show X.A.units+1+1 < cLine;omega,hk.is I.hok,xs,dd,hz,fun p hv=>?_,fun hn h' dd' hs=>?_⟩
 · rw [hv] at hval
   cases hx:atN kvs k with
   | none=>rw [hx] at hval;cases hval
   | some w =>
     rw [hx] at hval
     exact ⟨w,H,I.tok _,hval,q1 w hx⟩
 · rw [hn] at hval
   have hx:atN kvs k=none:=by
     cases hx:atN kvs k with
     | none=>rfl
     | some w=>rw [hx] at hval;cases hval
   have he:∃ q,h'.get? a=some q:=let ⟨q,_,_,hq,_⟩:=dd';⟨q,hq⟩
   exact ⟨y,_,fD I (by rw [e];exact True.intro) hs he (sj (by rw [List.length_append];exact hl) hd (rel.add ⟨rfl,rfl,ru2⟩) dd'),ru2,q2 hx⟩
end
end L2
end
section
namespace VS
open PySem PySem.Spec PyProof.Rows L2
noncomputable def sx (s:Tx):Str:=⟨s.toArray⟩
noncomputable def gr (s:Tx):Prop:=s.length<=d5/\∀ c∈s,c < 1114112
structure Gx where
 K:PySem.W.Frag
 ct:Nat->Addr×(Nat->Str)
noncomputable def aN:Key->T
 | .inl i=>.int i
 | .inr x=>.str x.cps.toList
noncomputable def nkT (k:aZ):T:=.tup (k.map fun x=>T.tup (x.map T.int))
noncomputable def i7 (K:PySem.W.Frag) (H:Hp) (a:Addr) (ns:List Int):Prop :=
 (∃ o,H a=some (.frz o (.lst (ns.map V.int)))) ∨
   ∃ (o:Obj) (its:Array Value) (n:Nat),K.lookup a=some o/\o.cls=.type "list" ∧ o.dict=none/\o.data=.seq its n/\its.size<=sizeLine/\aP (ns.map V.int) its.toList
mutual
inductive Rp (G:Gx) (H:Hp):V->T->List Addr->Prop
 | non:Rp G H .non .non []
 | bl (b:Bool):Rp G H (.bl b) (.bl b) []
 | int (i:Int):Rp G H (.int i) (.int i) []
 | str (s:Tx):gr s->Rp G H (.str (sx s)) (.str s) []
 | scr {a:Addr} {ns:List Int}:i7 G.K H a ns->Rp G H (.ref a) (.scr ns) []
 | tup {a:Addr} {vs:List V} {ts:List T} {Fs:List (List Addr)}:H a=some (.tup vs)->RpL G H vs ts Fs->Rp G H (.ref a) (.tup ts) Fs.flatten
 | lst {a:Addr} {vs:List V} {ts:List T} {Fs:List (List Addr)}:H a=some (.lst vs)->RpL G H vs ts Fs->Rp G H (.ref a) (.lst ts) (a :: Fs.flatten)
 | dct {a:Addr} {ks:List Key} {vs:List V} {ts:List T} {Fs:List (List Addr)}:H a=some (.dK (ks.zip vs))->ks.length=vs.length->RpL G H vs ts Fs->Rp G H (.ref a) (.dct 0 ((ks.map aN).zip ts)) (a :: Fs.flatten)
 | dctT {a:Addr} {ks:List (List Key)} {vs:List V} {ts:List T} {Fs:List (List Addr)}:H a=some (.dT (ks.zip vs))->ks.length=vs.length->RpL G H vs ts Fs->Rp G H (.ref a) (.dct 1 ((ks.map fun k=>T.tup (k.map aN)).zip ts)) (a :: Fs.flatten)
 | dctN {a:Addr} {ks:List (aZ×Addr)} {vs:List V} {ts:List T} {Fs:List (List Addr)}:H a=some (DN a ((ks.zip vs).map fun p=>(p.1.1,p.1.2,p.2)))->ks.length=vs.length->(∀ p∈ks,NAt H p.1 p.2)->RpL G H vs ts Fs->Rp G H (.ref a) (.dct 2 ((ks.map fun p=>nkT p.1).zip ts)) (a :: Fs.flatten)
 | obj {c:Nat} {a dx:Addr} {ks:List Nat} {vs:List V} {ts:List T} {Fs:List (List Addr)}:H a=some (.ins (G.ct c).1 dx ((ks.map (G.ct c).2).zip vs))->ks.length=vs.length->RpL G H vs ts Fs->Rp G H (.ref a) (.obj c (ks.zip ts)) (a :: Fs.flatten)
inductive RpL (G:Gx) (H:Hp):List V->List T->List (List Addr)->Prop
 | nil:RpL G H [] [] []
 | cons {v:V} {t:T} {F:List Addr} {vs:List V} {ts:List T} {Fs:List (List Addr)}:Rp G H v t F->RpL G H vs ts Fs->RpL G H (v :: vs) (t :: ts) (F :: Fs)
end
structure Kept (H H':Hp):Prop where
 tup:∀ a xs,H a=some (.tup xs)->H' a=some (.tup xs)
 frz:∀ a o u,H a=some (.frz o u)->H' a=some (.frz o u)
theorem Kept.refl (H:Hp):Kept H H:=⟨fun _ _ h=>h,fun _ _ _ h=>h⟩
theorem Kept.trans {H H1 H2:Hp} (a:Kept H H1) (b:Kept H1 H2):Kept H H2:=⟨fun c x h=>b.tup c x (a.tup c x h),fun c o u h=>b.frz c o u (a.frz c o u h)⟩
theorem Kept.of {H H':Hp} (e:aQ H H'):Kept H H':=⟨fun a _ h=>e a _ h,fun a _ _ h=>e a _ h⟩
theorem Kept.upd {H:Hp} {a:Addr} {o:HO} (mu:Mut (H a)\/H a=none):Kept H (upd H a o):=by
 have ne:∀ b u,H b=some u->¬ Mut (some u)->b ≠ a:=fun b u h nm e=>by
   subst e
   rcases mu with m | m
   · rw [h] at m;exact nm m
   · rw [h] at m;cases m
 exact ⟨fun b xs h=>by rw [au (ne b _ h fun z=>z)];exact h,fun b o u h=>by rw [au (ne b _ h fun z=>z)];exact h⟩
theorem i7.kept {K:PySem.W.Frag} {H H':Hp} {a:Addr} {ns:List Int} (h:i7 K H a ns) (k:Kept H H'):i7 K H' a ns:=by
 rcases h with ⟨o,e⟩ | h
 · exact .inl ⟨o,k.frz _ _ _ e⟩
 · exact .inr h
theorem i7.seq {K:PySem.W.Frag} {H:Hp} {a:Addr} {ns:List Int} (h:i7 K H a ns):SqL K H a (ns.map V.int):=by
 rcases h with ⟨o,e⟩ | h
 · exact .inl (.inr ⟨o,e⟩)
 · exact .inr h
theorem oh {H H':Hp} {a:Addr} {F:List Addr} (f:∀ b∈a :: F,∀ o,H b=some o->H' b=some o):∀ b∈F,∀ o,H b=some o->H' b=some o:=fun b m=>f b (List.mem_cons_of_mem _ m)
theorem pE {H H':Hp} {F:List Addr} {Fs:List (List Addr)} (f:∀ b∈(F :: Fs).flatten,∀ o,H b=some o->H' b=some o):(∀ b∈F,∀ o,H b=some o->H' b=some o)/\∀ b∈Fs.flatten,∀ o,H b=some o->H' b=some o:=by
 rw [List.flatten_cons] at f
 exact ⟨fun b m=>f b (List.mem_append_left _ m),fun b m=>f b (List.mem_append_right _ m)⟩
theorem Rp.keep {G:Gx} {H H':Hp} (k:Kept H H') {v:V} {t:T} {F:List Addr} (r:Rp G H v t F):(∀ a∈F,∀ o,H a=some o->H' a=some o)->Rp G H' v t F :=
 Rp.rec (motive_1:=fun v t F _=>(∀ a∈F,∀ o,H a=some o->H' a=some o)->Rp G H' v t F) (motive_2:=fun vs ts Fs _=>(∀ a∈Fs.flatten,∀ o,H a=some o->H' a=some o)->RpL G H' vs ts Fs)
   (fun _=>.non) (fun b _=>.bl b) (fun i _=>.int i) (fun s h _=>.str s h) (fun h _=>.scr (h.kept k)) (fun h _ ih f=>.tup (k.tup _ _ h) (ih f)) (fun h _ ih f=>.lst (f _ List.mem_cons_self _ h) (ih (oh f))) (fun h l _ ih f=>.dct (f _ List.mem_cons_self _ h) l (ih (oh f))) (fun h l _ ih f=>.dctT (f _ List.mem_cons_self _ h) l (ih (oh f)))
   (fun h l n _ ih f=>.dctN (f _ List.mem_cons_self _ h) l (fun p m=>(n p m).mono k.tup) (ih (oh f))) (fun h l _ ih f=>.obj (f _ List.mem_cons_self _ h) l (ih (oh f))) (fun _=>.nil) (fun _ _ i1 i2 f=>.cons (i1 (pE f).1) (i2 (pE f).2)) r
theorem RpL.keep {G:Gx} {H H':Hp} (k:Kept H H'):∀ {vs:List V} {ts:List T} {Fs:List (List Addr)},RpL G H vs ts Fs->(∀ a∈Fs.flatten,∀ o,H a=some o->H' a=some o)->RpL G H' vs ts Fs
 | _,_,_,.nil,_=>.nil
 | _,_,_,.cons r q,f=>.cons (r.keep k (pE f).1) (RpL.keep k q (pE f).2)
theorem Rp.same {G:Gx} {H H':Hp} (e:aQ H H') {v:V} {t:T} {F:List Addr} (r:Rp G H v t F):Rp G H' v t F:=r.keep (Kept.of e) fun a _ o h=>e a o h
theorem RpL.same {G:Gx} {H H':Hp} (e:aQ H H') {v:List V} {t:List T} {F:List (List Addr)} (r:RpL G H v t F):RpL G H' v t F:=r.keep (Kept.of e) fun a _ o h=>e a o h
theorem si {H:Hp} {a:Addr} {F:List Addr} (h:Mut (H a)) (ih:∀ b∈F,Mut (H b)):∀ b∈a :: F,Mut (H b):=fun b m=>(List.mem_cons.mp m).elim (fun e=>e ▸ h) (ih b)
theorem tR {H:Hp} {a:Addr} {o:HO} (h:H a=some o) (m:Mut (some o)):Mut (H a):=by rw [h];exact m
theorem Bz {H:Hp} {F:List Addr} {Fs:List (List Addr)} (h1:∀ b∈F,Mut (H b)) (h2:∀ b∈Fs.flatten,Mut (H b)):∀ b∈(F :: Fs).flatten,Mut (H b):=fun b m=>by
 rw [List.flatten_cons] at m
 exact (List.mem_append.mp m).elim (h1 b) (h2 b)
theorem Rp.dom {G:Gx} {H:Hp} {v:V} {t:T} {F:List Addr} (r:Rp G H v t F):∀ a∈F,Mut (H a) :=
 Rp.rec (motive_1:=fun v t F _=>∀ a∈F,Mut (H a)) (motive_2:=fun vs ts Fs _=>∀ a∈Fs.flatten,Mut (H a))
   (fun _ m=>nomatch m) (fun _ _ m=>nomatch m) (fun _ _ m=>nomatch m) (fun _ _ _ m=>nomatch m) (fun _ _ m=>nomatch m) (fun _ _ ih=>ih) (fun h _ ih=>si (tR h True.intro) ih) (fun h _ _ ih=>si (tR h True.intro) ih) (fun h _ _ ih=>si (tR h True.intro) ih)
   (fun h _ _ _ ih=>si (tR h True.intro) ih) (fun h _ _ ih=>si (tR h True.intro) ih) (fun _ m=>nomatch m) (fun _ _ i1 i2=>Bz i1 i2) r
theorem RpL.dom {G:Gx} {H:Hp}:∀ {vs:List V} {ts:List T} {Fs:List (List Addr)},RpL G H vs ts Fs->∀ a∈Fs.flatten,Mut (H a)
 | _,_,_,.nil=>fun _ m=>nomatch m
 | _,_,_,.cons r q=>Bz r.dom (RpL.dom q)
theorem Mut.ne_none {o:Option HO} (m:Mut o):o ≠ none:=fun e=>by subst e;exact m
theorem BF {F:List Addr} {Fs:List (List Addr)} {t:T} {ts:List T} (h1:VS.imm t=true->F=[]) (h2:VS.d6 ts=true->Fs.flatten=[]) (i:VS.d6 (t :: ts)=true):(F :: Fs).flatten=[]:=by
 simp only [VS.d6,Bool.and_eq_true] at i
 rw [List.flatten_cons,h1 i.1,h2 i.2]
 rfl
theorem Rp.imm {G:Gx} {H:Hp} {v:V} {t:T} {F:List Addr} (r:Rp G H v t F):VS.imm t=true->F=[] :=
 Rp.rec (motive_1:=fun v t F _=>VS.imm t=true->F=[]) (motive_2:=fun vs ts Fs _=>VS.d6 ts=true->Fs.flatten=[])
   (fun _=>rfl) (fun _ _=>rfl) (fun _ _=>rfl) (fun _ _ _=>rfl) (fun _ _=>rfl) (fun _ _ ih i=>ih (by simpa [VS.imm] using i)) (fun _ _ _ i=>absurd (show false=true from i) Bool.false_ne_true) (fun _ _ _ _ i=>absurd (show false=true from i) Bool.false_ne_true) (fun _ _ _ _ i=>absurd (show false=true from i) Bool.false_ne_true)
   (fun _ _ _ _ _ i=>absurd (show false=true from i) Bool.false_ne_true) (fun _ _ _ _ i=>absurd (show false=true from i) Bool.false_ne_true) (fun _=>rfl) (fun _ _ i1 i2 i=>BF i1 i2 i) r
theorem RpL.imm {G:Gx} {H:Hp}:∀ {vs:List V} {ts:List T} {Fs:List (List Addr)},RpL G H vs ts Fs->VS.d6 ts=true->Fs.flatten=[]
 | _,_,_,.nil,_=>rfl
 | _,_,_,.cons r q,i=>BF r.imm (RpL.imm q) i
theorem RpL.len {G:Gx} {H:Hp}:∀ {vs:List V} {ts:List T} {Fs:List (List Addr)},RpL G H vs ts Fs->vs.length=ts.length/\Fs.length=ts.length
 | _,_,_,.nil=>⟨rfl,rfl⟩
 | _,_,_,.cons _ q=>by
   have:=RpL.len q
   simp only [List.length_cons]
   lia
theorem RpL.get {G:Gx} {H:Hp}:∀ {vs:List V} {ts:List T} {Fs:List (List Addr)} (i:Nat) {t:T},RpL G H vs ts Fs->ts[i]?=some t->∃ v F,vs[i]?=some v/\Fs[i]?=some F/\Rp G H v t F
 | _,_,_,_,_,.nil,e=>by simp at e
 | _,_,_,0,_,.cons r _,e=>by
   simp at e
   subst e
   exact ⟨_,_,rfl,rfl,r⟩
 | _,_,_,i+1,_,.cons _ q,e=>by
   obtain ⟨v,F,h1,h2,h3⟩:=RpL.get i q (by simpa using e)
   exact ⟨v,F,by simpa using h1,by simpa using h2,h3⟩
theorem RpL.append {G:Gx} {H:Hp}:∀ {vs:List V} {ts:List T} {Fs:List (List Addr)} {us:List V} {rs:List T} {Gs:List (List Addr)},RpL G H vs ts Fs->RpL G H us rs Gs->RpL G H (vs++us) (ts++rs) (Fs++Gs)
 | _,_,_,_,_,_,.nil,s=>s
 | _,_,_,_,_,_,.cons r q,s=>.cons r (RpL.append q s)
theorem RpL.take {G:Gx} {H:Hp}:∀ {vs:List V} {ts:List T} {Fs:List (List Addr)} (n:Nat),RpL G H vs ts Fs->RpL G H (vs.take n) (ts.take n) (Fs.take n)
 | _,_,_,0,_=>by simpa using RpL.nil
 | _,_,_,n+1,.nil=>.nil
 | _,_,_,n+1,.cons r q=>.cons r (RpL.take n q)
theorem RpL.drop {G:Gx} {H:Hp}:∀ {vs:List V} {ts:List T} {Fs:List (List Addr)} (n:Nat),RpL G H vs ts Fs->RpL G H (vs.drop n) (ts.drop n) (Fs.drop n)
 | _,_,_,0,q=>q
 | _,_,_,n+1,.nil=>.nil
 | _,_,_,n+1,.cons r q=>RpL.drop n q
noncomputable def iq:Cell->T
 | .pu t=>t
 | .ow t=>t
noncomputable abbrev Fps:=Nat->List Addr
structure SR (G:Gx) (Φ:Fps) (η:VS.Env) (σ:L2.St) (H:Hp):Prop where
 len:η.length=σ.length
 rp:∀ i c,η[i]?=some (some c)->∃ v,σ[i]?=some (some v)/\Rp G H v (iq c) (Φ i)
 nd:∀ i t,η[i]?=some (some (.ow t))->(Φ i).Nodup
 sep:∀ i j t c,η[i]?=some (some (.ow t))->η[j]?=some (some c)->i ≠ j->∀ a∈Φ i,a ∉ Φ j
noncomputable def cZ (Φ:Fps) (η:VS.Env) (a:Addr):Prop:=∃ j t,η[j]?=some (some (.pu t))/\a∈Φ j
noncomputable def bN (Φ:Fps) (η:VS.Env) (a:Addr):Prop:=∃ j t,η[j]?=some (some (.ow t))/\a∈Φ j
noncomputable def Fp (Φ:Fps) (η:VS.Env) (H:Hp):Md->List Addr->Prop
 | .fr,F=>F.Nodup/\∀ a∈F,H a=none
 | .pu,F=>∀ a∈F,H a=none\/cZ Φ η a
 | .bo,F=>∀ a∈F,H a=none\/cZ Φ η a\/bN Φ η a
theorem SR.same {G:Gx} {Φ:Fps} {η:VS.Env} {σ:L2.St} {H H':Hp} (s:SR G Φ η σ H) (e:aQ H H'):SR G Φ η σ H' :=
 ⟨s.len,fun i c h=>let ⟨v,h1,h2⟩:=s.rp i c h;⟨v,h1,h2.same e⟩,s.nd,s.sep⟩
theorem SR.pu_dom {G:Gx} {Φ:Fps} {η:VS.Env} {σ:L2.St} {H:Hp} {a:Addr} (s:SR G Φ η σ H) (h:cZ Φ η a):Mut (H a):=by
 obtain ⟨j,t,h1,h2⟩:=h
 obtain ⟨v,_,r⟩:=s.rp j _ h1
 exact r.dom a h2
theorem SR.ow_dom {G:Gx} {Φ:Fps} {η:VS.Env} {σ:L2.St} {H:Hp} {a:Addr} (s:SR G Φ η σ H) (h:bN Φ η a):Mut (H a):=by
 obtain ⟨j,t,h1,h2⟩:=h
 obtain ⟨v,_,r⟩:=s.rp j _ h1
 exact r.dom a h2
theorem Fp.nil {Φ:Fps} {η:VS.Env} {H:Hp} {m:Md}:Fp Φ η H m []:=by
 cases m
 · exact ⟨List.nodup_nil,fun a h=>by simp at h⟩
 · exact fun a h=>by simp at h
 · exact fun a h=>by simp at h
theorem Fp.bo {Φ:Fps} {η:VS.Env} {H:Hp} {F:List Addr}:∀ {m:Md},Fp Φ η H m F->Fp Φ η H .bo F
 | .fr,h=>fun a m=>.inl (h.2 a m)
 | .pu,h=>fun a m=>(h a m).elim .inl fun z=>.inr (.inl z)
 | .bo,h=>h
theorem Fp.pu {Φ:Fps} {η:VS.Env} {H:Hp} {F:List Addr}:∀ {m:Md},m ≠ .bo->Fp Φ η H m F->Fp Φ η H .pu F
 | .fr,_,h=>fun a m=>.inl (h.2 a m)
 | .pu,_,h=>h
 | .bo,n,_=>absurd rfl n
theorem Fp.back {Φ:Fps} {η:VS.Env} {H H':Hp} (e:aQ H H') {F:List Addr}:∀ {m:Md},Fp Φ η H' m F->Fp Φ η H m F
 | .fr,h=>⟨h.1,fun a m=>e.free (h.2 a m)⟩
 | .pu,h=>fun a m=>(h a m).imp e.free id
 | .bo,h=>fun a m=>(h a m).imp e.free id
theorem Fp.up {G:Gx} {Φ:Fps} {η:VS.Env} {H H':Hp} {m:Md} {v:V} {t:T} {F:List Addr} (f:Fp Φ η H m F) (r:Rp G H' v t F):Fp Φ η H (VS.up m t).1 F:=by
 unfold VS.up
 by_cases h:VS.imm t=true
 · rw [r.imm h]
   exact Fp.nil
 · simp only [h,if_false,Bool.false_eq_true]
   exact f
noncomputable def tE (G:Gx) (c:Ex):TE:=fun σ H Q=>∃ Φ η m r,SR G Φ η σ H/\c η=some (m,r)/\∀ v H' F,aQ H H'->Rp G H' v r F->Fp Φ η H m F->Q v H'
noncomputable def PV (G:Gx) (X:Cx) (e:Expr) (c:Ex):Prop:=PE X e (tE G c)
theorem PE.weak {X:Cx} {e:Expr} {t t':TE} (h:PE X e t) (w:∀ σ H Q,t' σ H Q->t σ H Q):PE X e t':=fun pins s σ H Q I q=>h pins s σ H Q I (w σ H Q q)
theorem PT.weak {X:Cx} {e:Expr} {t t':TT} (h:PT X e t) (w:∀ σ H Q,t' σ H Q->t σ H Q):PT X e t':=fun pins s σ H Q I q=>h pins s σ H Q I (w σ H Q q)
theorem PA.weak {X:Cx} {e:List Expr} {t t':TA} (h:PA X e t) (w:∀ σ H Q,t' σ H Q->t σ H Q):PA X e t':=fun pos pins s σ H Q I q=>h pos pins s σ H Q I (w σ H Q q)
noncomputable def tT (G:Gx) (c:Ex):TT:=fun σ H Q=>∃ Φ η m r b,SR G Φ η σ H/\c η=some (m,r)/\tru r=some b/\∀ H',aQ H H'->Q b H'
noncomputable def PVT (G:Gx) (X:Cx) (e:Expr) (c:Ex):Prop:=PT X e (tT G c)
noncomputable def frs (l:List Val) (Fs:List (List Addr)):List Addr:=match l,Fs with
 | v :: l,F :: Fs=>match v.1 with
   | .fr=>F++frs l Fs
   | _=>frs l Fs
 | _,_=>[]
structure FpL (Φ:Fps) (η:VS.Env) (H:Hp) (l:List Val) (Fs:List (List Addr)):Prop where
 each:∀ (i:Nat) v F,l[i]?=some v->Fs[i]?=some F->Fp Φ η H v.1 F
 nd:(frs l Fs).Nodup
noncomputable def tEs (G:Gx) (c:Exs):TA:=fun σ H Q=>∃ Φ η l,SR G Φ η σ H/\c η=some l/\∀ vs H' Fs,aQ H H'->RpL G H' vs (trees l) Fs->FpL Φ η H l Fs->Q vs H'
noncomputable def PVs (G:Gx) (X:Cx) (es:List Expr) (c:Exs):Prop:=PA X es (tEs G c)
end VS
end
section
namespace VS
open PySem PySem.Spec PyProof.Rows L2
section
variable {G:Gx} {X:Cx} {a b c:Expr} {ca cb cc:Ex} {pos:Pos}
theorem yh {i j pos}:PV G X (.Constant (.int i) j pos) (eC (.int i)):=PE.weak sW fun σ H Q ⟨Φ,η,m,r,s,e,k⟩=>by
 cases (show some (Md.fr,T.int i)=some (m,r) from e)
 exact k _ _ _ (aQ.refl _) (.int i) Fp.nil
theorem AW {i j pos}:PV G X (.Constant (.bool i) j pos) (eC (.bl i)):=PE.weak Ap fun σ H Q ⟨Φ,η,m,r,s,e,k⟩=>by
 cases (show some (Md.fr,T.bl i)=some (m,r) from e)
 exact k _ _ _ (aQ.refl _) (.bl i) Fp.nil
theorem zC {j pos}:PV G X (.Constant .none j pos) (eC .non):=PE.weak zv fun σ H Q ⟨Φ,η,m,r,s,e,k⟩=>by
 cases (show some (Md.fr,T.non)=some (m,r) from e)
 exact k _ _ _ (aQ.refl _) .non Fp.nil
theorem zM {x:Str} {t:Tx} {j pos} (h:x=sx t:=by decide +kernel) (hl:gr t:=by decide):PV G X (.Constant (.str x) j pos) (eC (.str t)):=PE.weak ur fun σ H Q ⟨Φ,η,m,r,s,e,k⟩=>by
 cases (show some (Md.fr,T.str t)=some (m,r) from e)
 subst h
 exact k _ _ _ (aQ.refl _) (.str t hl) Fp.nil
theorem zA (i:Nat) {x:Str} {pos:Pos} (hN:X.N[i]?=some x:=by rfl) (hv:Vis X.env.scope x:=by first | exact Or.inl rfl | exact Or.inr (Or.inl rfl) | exact Or.inr (Or.inr rfl)) (hd:(x == ("__debug__" : Str))=false:=by decide)
   (hcd:(x == ("__classdict__" : Str))=false:=by decide):PV G X (.Name x pos) (ah i):=PE.weak (eG hN hv hd hcd) fun σ H Q ⟨Φ,η,m,r,s,e,k⟩=>by
 unfold ah at e
 split at e
 · rename_i t h
   obtain ⟨v,h1,h2⟩:=s.rp _ _ h
   have e':VS.up .pu t=(m,r):=Option.some.inj e
   have er:t=r:=congrArg Prod.snd e'
   have em:(VS.up .pu t).1=m:=congrArg Prod.fst e'
   rw [← er,← em] at k
   refine ⟨v,h1,k v H (Φ i) (aQ.refl _) h2 ?_⟩
   have f:Fp Φ η H .pu (Φ i):=fun a ha=>.inr ⟨i,_,h,ha⟩
   exact f.up h2
 · rename_i t h
   obtain ⟨v,h1,h2⟩:=s.rp _ _ h
   cases e
   exact ⟨v,h1,k v H (Φ i) (aQ.refl _) h2 fun a ha=>.inr (.inr ⟨i,_,h,ha⟩)⟩
 · cases e
structure Two (G:Gx) (Φ:Fps) (η:VS.Env) (H0 H:Hp) (x y:Val) (u w:V) (F1 F2:List Addr):Prop where
 same:aQ H0 H
 r1:Rp G H u x.2 F1
 r2:Rp G H w y.2 F2
 f1:Fp Φ η H0 x.1 F1
 f2:Fp Φ η H0 y.1 F2
 nd:x.1=.fr->y.1=.fr->(F1++F2).Nodup
noncomputable def eP (G:Gx) (r:R2) (f:Val->Val->Option Val):Prop:=∀ (Φ:Fps) (η:VS.Env) (H0 H:Hp) (x y:Val) (u w:V) (F1 F2:List Addr) (m:Md) (t:T) (Q:VK),Two G Φ η H0 H x y u w F1 F2->f x y=some (m,t) →
 (∀ v H' F,aQ H H'->Rp G H' v t F->Fp Φ η H0 m F->Q v H')->r u w H Q
theorem rQ {σ:L2.St} {H:Hp} {Q:V->V->Hp->Prop} {Φ:Fps} {η:VS.Env} {x y:Val} (s:SR G Φ η σ H) (ea:ca η=some x) (eb:cb η=some y)
   (k:∀ u w H2 F1 F2,Two G Φ η H H2 x y u w F1 F2->Q u w H2):tE G ca σ H fun u H1=>tE G cb σ H1 fun w H2=>Q u w H2:=by
 refine ⟨Φ,η,x.1,x.2,s,ea,fun u H1 F1 e1 r1 f1=>⟨Φ,η,y.1,y.2,s.same e1,eb,fun w H2 F2 e2 r2 f2=>k u w H2 F1 F2 ⟨e1.trans e2,r1.same e2,r2,f1,f2.back e1,fun hx hy=>?_⟩⟩⟩
 rw [hx] at f1
 rw [hy] at f2
 refine List.nodup_append.mpr ⟨f1.1,f2.1,fun a ha b hb z=>?_⟩
 subst z
 exact Mut.ne_none (r1.dom a ha) (f2.2 a hb)
theorem jR {r:R2} {f:Val->Val->Option Val} (ok:eP G r f) {σ:L2.St} {H:Hp} {Q:VK} (h:tE G (e2 f ca cb) σ H Q):tOp r (tE G ca) (tE G cb) σ H Q:=by
 obtain ⟨Φ,η,m,t,s,e,k⟩:=h
 unfold e2 at e
 obtain ⟨x,ea,e⟩:=Option.bind_eq_some_iff.mp e
 obtain ⟨y,eb,e⟩:=Option.bind_eq_some_iff.mp e
 exact rQ s ea eb fun u w H2 F1 F2 tw=>ok Φ η H H2 x y u w F1 F2 m t Q tw e fun v H' F e1 r1 f1=>k v H' F (tw.same.trans e1) r1 f1
theorem ju {op:Operator} {r:R2} {f:Val->Val->Option Val} (ho:OpR X (binaryOp op) r) (ok:eP G r f) (ha:PV G X a ca) (hb:PV G X b cb):PV G X (.BinOp a op b pos) (e2 f ca cb) :=
 PE.weak (BB ho ha hb) fun σ H Q h=>jR ok h
theorem yc {op:CmpOp} {r:R2} {f:Val->Val->Option Val} (ho:OpR X (compareOp op) r) (ok:eP G r f) (ha:PV G X a ca) (hb:PV G X b cb) (hm:behindInMarks op b=false):PV G X (.Compare a [op] [b] pos) (e2 f ca cb) :=
 PE.weak (wR ho ha hb hm) fun σ H Q h=>jR ok h
noncomputable def Tells (f:Val->Val->Option Val):Prop:=∀ x y m t,f x y=some (m,t)->∃ b,t=.bl b
theorem Rp.bl_inv {H:Hp} {v:V} {b:Bool} {F:List Addr} (r:Rp G H v (.bl b) F):v=.bl b:=by cases r;rfl
theorem Rp.int_inv {H:Hp} {v:V} {b:Int} {F:List Addr} (r:Rp G H v (.int b) F):v=.int b:=by cases r;rfl
theorem Rp.str_inv {H:Hp} {v:V} {b:Tx} {F:List Addr} (r:Rp G H v (.str b) F):v=.str (sx b)/\gr b:=by cases r with | str _ h=>exact ⟨rfl,h⟩
theorem nL {c:Ex} {t:TE} {σ:L2.St} {H:Hp} {Q:Bool->Hp->Prop} (h:tT G c σ H Q) (ht:∀ η m r,c η=some (m,r)->∃ b,r=.bl b) (w:∀ Q,tE G c σ H Q->t σ H Q):se t σ H Q:=by
 obtain ⟨Φ,η,m,r,b,s,e,eb,k⟩:=h
 refine w _ ⟨Φ,η,m,r,s,e,fun v H' F e1 r1 f1=>?_⟩
 obtain ⟨b',er⟩:=ht η m r e
 rw [er] at eb r1
 cases (show some b'=some b from eb)
 exact ⟨_,r1.bl_inv,k H' e1⟩
theorem gR {op:CmpOp} {r:R2} {f:Val->Val->Option Val} (ho:OpR X (compareOp op) r) (ok:eP G r f) (ht:Tells f) (ha:PV G X a ca) (hb:PV G X b cb) (hm:behindInMarks op b=false):PVT G X (.Compare a [op] [b] pos) (e2 f ca cb) :=
 PT.weak (wu ho ha hb hm) fun σ H Q h=>nL h (fun η m r e=>by
   unfold e2 at e
   obtain ⟨x,_,e⟩:=Option.bind_eq_some_iff.mp e
   obtain ⟨y,_,e⟩:=Option.bind_eq_some_iff.mp e
   exact ht x y m r e) fun Q h=>jR ok h
theorem bj {Φ:Fps} {η:VS.Env} {H0 H:Hp} {m:Md} {t:T} {v:V} {Q:VK} (k:∀ v H' F,aQ H H'->Rp G H' v t F->Fp Φ η H0 m F->Q v H') (r:Rp G H v t []):Q v H:=k v H [] (aQ.refl _) r Fp.nil
theorem cQ {H:Hp} {p:Addr} {o:HO} (h:H p=none):aQ H (upd H p o):=fun b o' e=>by rw [au (bD e h)];exact e
theorem Fp.new {Φ:Fps} {η:VS.Env} {H0:Hp} {p:Addr} {F:List Addr} (h0:H0 p=none) (hp:p ∉ F):∀ {m:Md},Fp Φ η H0 m F->Fp Φ η H0 m (p :: F)
 | .fr,f=>⟨List.nodup_cons.mpr ⟨hp,f.1⟩,fun a m=>(List.mem_cons.mp m).elim (fun e=>by rw [e];exact h0) (f.2 a)⟩
 | .pu,f=>fun a m=>(List.mem_cons.mp m).elim (fun e=>by rw [e];exact .inl h0) (f a)
 | .bo,f=>fun a m=>(List.mem_cons.mp m).elim (fun e=>by rw [e];exact .inl h0) (f a)
theorem lZ {mj m:Md} {l:List T} {t:T} (e:mkL mj l=some (m,t)):t=.lst l/\l.length<=d5/\m=(if d6 l then .fr else mj):=by
 unfold mkL at e
 split at e
 · rename_i h
   cases e
   exact ⟨rfl,h,rfl⟩
 · cases e
theorem gO {Φ:Fps} {η:VS.Env} {H0 H:Hp} {mj m:Md} {l:List T} {t:T} {vs:List V} {Fs:List (List Addr)} {Q:VK} (same:aQ H0 H) (e:mkL mj l=some (m,t)) (r:RpL G H vs l Fs) (f:Fp Φ η H0 mj Fs.flatten)
   (k:∀ v H' F,aQ H H'->Rp G H' v t F->Fp Φ η H0 m F->Q v H'):∀ p,H p=none->Q (.ref p) (upd H p (.lst vs)):=by
 intro p hp
 obtain ⟨rfl,hl,rfl⟩:=lZ e
 refine k _ _ _ (cQ hp) (.lst aE (r.same (cQ hp))) ?_
 have np:p ∉ Fs.flatten:=fun m=>Mut.ne_none (r.dom p m) hp
 by_cases hi:d6 l=true
 · rw [hi,if_pos rfl]
   rw [r.imm hi] at np ⊢
   exact Fp.nil.new (same.free hp) np
 · rw [if_neg hi]
   exact f.new (same.free hp) np
theorem Two.join {Φ:Fps} {η:VS.Env} {H0 H:Hp} {x y:Val} {u w:V} {F1 F2:List Addr} (tw:Two G Φ η H0 H x y u w F1 F2) {F:List Addr} (hF:F.Sublist (F1++F2)):Fp Φ η H0 (x.1.join y.1) F:=by
 obtain ⟨same,r1,r2,f1,f2,nd⟩:=tw
 have split:∀ a∈F,a∈F1\/a∈F2:=fun a ha=>List.mem_append.mp (hF.subset ha)
 obtain ⟨m1,x⟩:=x
 obtain ⟨m2,y⟩:=y
 have both:∀ {P:Addr->Prop},(∀ a∈F1,P a)->(∀ a∈F2,P a)->∀ a∈F,P a:=fun h1 h2 a ha=>(split a ha).elim (h1 a) (h2 a)
 cases m1 <;> cases m2
 · exact ⟨(nd rfl rfl).sublist hF,both f1.2 f2.2⟩
 · exact both (fun a ha=>.inl (f1.2 a ha)) f2
 · exact both (fun a ha=>.inl (f1.2 a ha)) f2
 · exact both f1 (fun a ha=>.inl (f2.2 a ha))
 · exact both f1 f2
 · exact both (f1.bo) f2
 · exact both f1 (fun a ha=>.inl (f2.2 a ha))
 · exact both f1 (f2.bo)
 · exact both f1 f2
theorem eU:d5=sizeLine:=rfl
theorem dX (s:Tx):(sx s).length=s.length:=rfl
theorem yu (s t:Tx):sx s++sx t=sx (s++t):=by
 show Str.append (sx s) (sx t)=_
 simp [sx,Str.append]
theorem Rp.lst_inv {H:Hp} {v:V} {l:List T} {F:List Addr} (r:Rp G H v (.lst l) F):∃ a vs Fs,v=.ref a/\F=a :: Fs.flatten/\H a=some (.lst vs)/\RpL G H vs l Fs:=by
 cases r with
 | lst h q=>exact ⟨_,_,_,rfl,rfl,h,q⟩
theorem Rp.tup_inv {H:Hp} {v:V} {l:List T} {F:List Addr} (r:Rp G H v (.tup l) F):∃ a vs Fs,v=.ref a/\F=Fs.flatten/\H a=some (.tup vs)/\RpL G H vs l Fs:=by
 cases r with
 | tup h q=>exact ⟨_,_,_,rfl,rfl,h,q⟩
theorem Rp.scr_inv {H:Hp} {v:V} {l:List Int} {F:List Addr} (r:Rp G H v (.scr l) F):∃ a,v=.ref a/\F=[]/\i7 G.K H a l:=by
 cases r with
 | scr h=>exact ⟨_,rfl,rfl,h⟩
end
section
variable {G:Gx} {X:Cx}
noncomputable def zg:R2:=fun x y H Q=>rI0 (fun i j=>.int (i+j)) x y H Q\/(∃ i j,x=.str i/\y=.str j/\i.length+j.length<=sizeLine/\Q (.str (i++j)) H)\/A8 x y H Q
theorem vW:OpR X (binaryOp .Add) zg:=ym.or (oP.or yx)
theorem yw:eP G zg bt:=by
 intro Φ η H0 H x y u w F1 F2 m t Q tw e k
 have jn:=fun {F:List Addr} (h:List.Sublist F (F1++F2))=>tw.join h
 obtain ⟨m1,x⟩:=x
 obtain ⟨m2,y⟩:=y
 obtain ⟨same,r1,r2,f1,f2,nd⟩:=tw
 unfold bt at e
 split at e
 · rename_i i _ j e1 e2
   cases e1
   cases e2
   cases e
   exact .inl ⟨_,_,r1.int_inv,r2.int_inv,bj k (.int _)⟩
 · rename_i s _ s' e1 e2
   cases e1
   cases e2
   split at e
   · rename_i hl
     cases e
     refine .inr (.inl ⟨_,_,r1.str_inv.1,r2.str_inv.1,by rw [dX,dX,← eU];exact hl,?_⟩)
     rw [yu]
     exact bj k (.str _ ⟨by rw [List.length_append];exact hl,fun c hc=>(List.mem_append.mp hc).elim (r1.str_inv.2.2 c) (r2.str_inv.2.2 c)⟩)
   · cases e
 · rename_i s _ s' e1 e2
   cases e1
   cases e2
   obtain ⟨a,vs,Fs,rfl,rfl,ha,ra⟩:=r1.lst_inv
   obtain ⟨b,us,Gs,rfl,rfl,hb,rb⟩:=r2.lst_inv
   obtain ⟨_,hl,_⟩:=lZ e
   refine .inr (.inr ⟨a,b,vs,us,rfl,rfl,ha,hb,?_,gO same e (ra.append rb) (jn ?_) k⟩)
   · rw [List.length_append] at hl
     rw [ra.len.1,rb.len.1,← eU]
     exact hl
   · rw [List.flatten_append]
     exact (List.sublist_cons_self _ _).append (List.sublist_cons_self _ _)
 · cases e
theorem zP:eP G (rI0 fun i j=>.int (i - j)) iV:=by
 intro Φ η H0 H x y u w F1 F2 m t Q tw e k
 obtain ⟨m1,x⟩:=x
 obtain ⟨m2,y⟩:=y
 obtain ⟨same,r1,r2,f1,f2,nd⟩:=tw
 unfold iV at e
 split at e
 · rename_i e1 e2
   cases e1
   cases e2
   cases e
   exact ⟨_,_,r1.int_inv,r2.int_inv,bj k (.int _)⟩
 · cases e
theorem xm:eP G (rI Aw fun i j=>.int (i / j)) dU:=by
 intro Φ η H0 H x y u w F1 F2 m t Q tw e k
 obtain ⟨m1,x⟩:=x
 obtain ⟨m2,y⟩:=y
 obtain ⟨same,r1,r2,f1,f2,nd⟩:=tw
 unfold dU at e
 split at e
 · rename_i e1 e2
   cases e1
   cases e2
   split at e
   · rename_i h
     cases e
     exact ⟨_,_,r1.int_inv,r2.int_inv,h,bj k (.int _)⟩
   · cases e
 · cases e
theorem yD:eP G (rI (fun _ j=>0 < j) fun i j=>.int (i % j)) oMod:=by
 intro Φ η H0 H x y u w F1 F2 m t Q tw e k
 obtain ⟨m1,x⟩:=x
 obtain ⟨m2,y⟩:=y
 obtain ⟨same,r1,r2,f1,f2,nd⟩:=tw
 unfold oMod at e
 split at e
 · rename_i e1 e2
   cases e1
   cases e2
   split at e
   · rename_i h
     cases e
     exact ⟨_,_,r1.int_inv,r2.int_inv,h,bj k (.int _)⟩
   · cases e
 · cases e
theorem jQ:∀ (s t:Tx),ltx s t=decide (s < t)
 | [],[]=>by simp [ltx]
 | [],_ :: _=>by simp [ltx]
 | _ :: _,[]=>by simp [ltx]
 | a :: s,b :: t=>by
   unfold ltx
   rw [jQ s t]
   by_cases h1:a < b
   · simp [h1,List.cons_lt_cons_iff]
   · by_cases h2:b < a
     · have:¬ a=b:=by lia
       simp [h1,h2,List.cons_lt_cons_iff,this]
     · have:a=b:=by lia
       subst this
       simp [List.cons_lt_cons_iff]
noncomputable def rLt:R2:=fun x y H Q=>rI0 (fun i j=>.bl (decide (i < j))) x y H Q\/(∃ i j,x=.str i/\y=.str j/\Q (.bl (decide (i.cps.toList < j.cps.toList))) H)
theorem za:OpR X (compareOp .Lt) rLt:=AE.or qO
theorem AY:eP G rLt oLt:=by
 intro Φ η H0 H x y u w F1 F2 m t Q tw e k
 obtain ⟨m1,x⟩:=x
 obtain ⟨m2,y⟩:=y
 obtain ⟨same,r1,r2,f1,f2,nd⟩:=tw
 unfold oLt at e
 split at e
 · rename_i e1 e2
   cases e1
   cases e2
   cases e
   exact .inl ⟨_,_,r1.int_inv,r2.int_inv,bj k (.bl _)⟩
 · rename_i s _ s' e1 e2
   cases e1
   cases e2
   cases e
   refine .inr ⟨_,_,r1.str_inv.1,r2.str_inv.1,?_⟩
   have:decide ((sx s).cps.toList < (sx s').cps.toList)=ltx s s':=by rw [jQ];exact decide_eq_decide.mpr (by simp [sx])
   rw [this]
   exact bj k (.bl _)
 · cases e
theorem ng:Tells oLt:=by
 intro x y m t e
 unfold oLt at e
 split at e <;> first | (cases e;exact ⟨_,rfl⟩) | cases e
theorem zI:B64=2 ^ 64:=rfl
theorem yF:eP G (rI vf fun i j=>.int (i * j)) dY:=by
 intro Φ η H0 H x y u w F1 F2 m t Q tw e k
 obtain ⟨m1,x⟩:=x
 obtain ⟨m2,y⟩:=y
 obtain ⟨same,r1,r2,f1,f2,nd⟩:=tw
 unfold dY at e
 split at e
 · rename_i e1 e2
   cases e1
   cases e2
   split at e
   · rename_i h
     cases e
     refine ⟨_,_,r1.int_inv,r2.int_inv,?_,bj k (.int _)⟩
     rw [zI] at h
     exact h
   · cases e
 · cases e
theorem qi:OpR X (compareOp .LtE) (fun x y H Q=>∃ i j,x=.str i/\y=.str j/\Q (.bl (!decide (j.cps.toList < i.cps.toList))) H):=by
 intro pins s σ H x y v u Q I rx ry h
 obtain ⟨i,j,rfl,rfl,q⟩:=h
 obtain ⟨t,rfl⟩:=rx
 obtain ⟨t',rfl⟩:=ry
 exact PySem.P.le_str ⟨.bl _,H,I,rfl,q⟩
noncomputable def rLe:R2:=fun x y H Q=>rI0 (fun i j=>.bl (decide (i<=j))) x y H Q\/(∃ i j,x=.str i/\y=.str j/\Q (.bl (!decide (j.cps.toList < i.cps.toList))) H)
theorem uq:OpR X (compareOp .LtE) rLe:=Bn.or qi
theorem xE:eP G rLe oLe:=by
 intro Φ η H0 H x y u w F1 F2 m t Q tw e k
 obtain ⟨m1,x⟩:=x
 obtain ⟨m2,y⟩:=y
 obtain ⟨same,r1,r2,f1,f2,nd⟩:=tw
 unfold oLe at e
 split at e
 · rename_i e1 e2
   cases e1
   cases e2
   cases e
   exact .inl ⟨_,_,r1.int_inv,r2.int_inv,bj k (.bl _)⟩
 · rename_i s _ s' e1 e2
   cases e1
   cases e2
   cases e
   refine .inr ⟨_,_,r1.str_inv.1,r2.str_inv.1,?_⟩
   have:decide ((sx s').cps.toList < (sx s).cps.toList)=ltx s' s:=by rw [jQ];exact decide_eq_decide.mpr (by simp [sx])
   rw [this]
   exact bj k (.bl _)
 · cases e
theorem mY:Tells oLe:=by
 intro x y m t e
 unfold oLe at e
 split at e <;> first | (cases e;exact ⟨_,rfl⟩) | cases e
theorem yL {n:Nat} {i:Int}:ixP n i=ixN n i:=by
 unfold ixP ixN
 by_cases h:0<=i
 · rw [if_pos h,if_pos h]
 · rw [if_neg h,if_neg h]
   by_cases h2:0<=i+n
   · rw [if_pos h2,if_pos (by lia)]
   · rw [if_neg h2,if_neg (by lia)]
theorem lz {α:Type} {l:List α} {i:Int} {k:Nat} {x:α} (h1:ixP l.length i=some k) (h2:l[k]?=some x):atI l i=some x:=by
 unfold atI
 rw [← yL,h1]
 exact h2
theorem fi {Fs:List (List Addr)} {F:List Addr} {i:Nat} (h:Fs[i]?=some F):F.Sublist Fs.flatten:=by
 obtain ⟨hi,rfl⟩:=List.getElem?_eq_some_iff.mp h
 exact List.sublist_flatten_of_mem (List.getElem_mem hi)
theorem Fp.sub {Φ:Fps} {η:VS.Env} {H:Hp} {F F':List Addr} (h:F.Sublist F'):∀ {m:Md},Fp Φ η H m F'->Fp Φ η H m F
 | .fr,f=>⟨f.1.sublist h,fun a ha=>f.2 a (h.subset ha)⟩
 | .pu,f=>fun a ha=>f a (h.subset ha)
 | .bo,f=>fun a ha=>f a (h.subset ha)
theorem uE:eP G (rIx G.K) aS:=by
 intro Φ η H0 H x y u w F1 F2 m t Q tw e k
 obtain ⟨m1,x⟩:=x
 obtain ⟨m2,y⟩:=y
 obtain ⟨same,r1,r2,f1,f2,nd⟩:=tw
 unfold aS at e
 split at e
 · rename_i m3 l m4 i e1 e2
   cases e1
   cases e2
   obtain ⟨j,h1,e⟩:=Option.bind_eq_some_iff.mp e
   obtain ⟨x,h2,e⟩:=Option.map_eq_some_iff.mp e
   obtain ⟨a,vs,Fs,rfl,rfl,ha,ra⟩:=r1.lst_inv
   obtain ⟨v,F,g1,g2,g3⟩:=ra.get j h2
   refine .inl ⟨a,vs,i,v,rfl,r2.int_inv,SqL.of ha,lz (by rw [ra.len.1];exact h1) g1,?_⟩
   have f:=((f1.sub (List.sublist_cons_self _ _)).sub (fi g2)).up g3
   unfold VS.sub at e
   rw [e] at f
   have et:x=t:=congrArg Prod.snd e
   rw [et] at g3
   exact k v H F (aQ.refl _) g3 f
 · rename_i m3 l m4 i e1 e2
   cases e1
   cases e2
   obtain ⟨j,h1,e⟩:=Option.bind_eq_some_iff.mp e
   obtain ⟨x,h2,e⟩:=Option.map_eq_some_iff.mp e
   obtain ⟨a,vs,Fs,rfl,rfl,ha,ra⟩:=r1.tup_inv
   obtain ⟨v,F,g1,g2,g3⟩:=ra.get j h2
   refine .inr (.inl ⟨a,vs,i,v,rfl,r2.int_inv,SqT.of ha,lz (by rw [ra.len.1];exact h1) g1,?_⟩)
   have f:=(f1.sub (fi g2)).up g3
   unfold VS.sub at e
   rw [e] at f
   have et:x=t:=congrArg Prod.snd e
   rw [et] at g3
   exact k v H F (aQ.refl _) g3 f
 · rename_i m3 l m4 i e1 e2
   cases e1
   cases e2
   obtain ⟨j,h1,e⟩:=Option.bind_eq_some_iff.mp e
   obtain ⟨x,h2,e⟩:=Option.map_eq_some_iff.mp e
   cases e
   obtain ⟨a,rfl,rfl,sa⟩:=r1.scr_inv
   refine .inl ⟨a,l.map V.int,i,.int x,rfl,r2.int_inv,sa.seq,lz (by rw [List.length_map];exact h1) (by rw [List.getElem?_map,h2];rfl),bj k (.int _)⟩
 · rename_i m3 l m4 i e1 e2
   cases e1
   cases e2
   obtain ⟨j,h1,e⟩:=Option.bind_eq_some_iff.mp e
   obtain ⟨x,h2,e⟩:=Option.map_eq_some_iff.mp e
   cases e
   obtain ⟨rfl,hl⟩:=r1.str_inv
   refine .inr (.inr ⟨sx l,i,x,rfl,r2.int_inv,by rw [dX,← eU];exact hl.1,lz (k:=j) (by simpa [sx] using h1) (by simpa [sx] using h2),?_⟩)
   exact bj k (.str [x] ⟨by show 1<=d5;decide,fun c hc=>by rw [List.mem_singleton.mp hc];exact hl.2 x (List.mem_of_getElem? h2)⟩)
 · cases e
end
end VS
end
section
namespace VS
open PySem PySem.Spec PyProof.Rows L2
section
variable {G:Gx} {X:Cx} {a b c e:Expr} {es:List Expr} {ca cb cc:Ex} {cs:Exs} {pos p:Pos}
theorem pj {x:Addr}:∀ {l:List Val} {Fs:List (List Addr)},x∈frs l Fs->∃ (i:Nat) (v:Val) (F:List Addr),l[i]?=some v/\v.1=.fr/\Fs[i]?=some F/\x∈F
 | [],_,h=>by simp [frs] at h
 | _ :: _,[],h=>by simp [frs] at h
 | v :: l,F :: Fs,h=>by
   have go:x∈frs l Fs->∃ (i:Nat) (u:Val) (F':List Addr),(v :: l)[i]?=some u/\u.1=.fr/\(F :: Fs)[i]?=some F'/\x∈F':=fun m=>by
     obtain ⟨i,u,F',h1,h2,h3,h4⟩:=pj m
     exact ⟨i+1,u,F',by simpa using h1,h2,by simpa using h3,h4⟩
   unfold frs at h
   split at h
   · rename_i hv
     rcases List.mem_append.mp h with h | h
     · exact ⟨0,v,F,rfl,hv,rfl,h⟩
     · exact go h
   · exact go h
theorem wc:PVs G X [] aA:=PA.weak fC fun σ H Q ⟨Φ,η,l,s,e,k⟩=>by
 cases (show some ([]:List Val)=some l from e)
 exact k [] H [] (aQ.refl _) .nil ⟨fun i v F h=>by simp at h,by simp [frs]⟩
theorem rK (ha:PV G X e ca) (hr:PVs G X es cs) (hs:starEach (e :: es) X.env=(false,eval e X.env) :: starEach es X.env:=by rfl):PVs G X (e :: es) (af ca cs):=PA.weak (d7 ha hr hs) fun σ H Q ⟨Φ,η,l,s,e,k⟩=>by
 unfold af at e
 obtain ⟨x,ea,e⟩:=Option.bind_eq_some_iff.mp e
 obtain ⟨xs,er,e⟩:=Option.bind_eq_some_iff.mp e
 cases e
 refine ⟨Φ,η,x.1,x.2,s,ea,fun v H1 F e1 r1 f1=>⟨Φ,η,xs,s.same e1,er,fun vs H2 Fs e2 r2 f2=>k (v :: vs) H2 (F :: Fs) (e1.trans e2) (.cons (r1.same e2) r2) ⟨fun i u F' h1 h2=>?_,?_⟩⟩⟩
 · cases i with
   | zero =>
     cases (show some x=some u from h1)
     cases (show some F=some F' from h2)
     exact f1
   | succ i=>exact (f2.each i u F' (by simpa using h1) (by simpa using h2)).back e1
 · unfold frs
   split
   · rename_i hx
     rw [hx] at f1
     refine List.nodup_append.mpr ⟨f1.1,f2.nd,fun y hy z hz q=>?_⟩
     subst q
     obtain ⟨i,u,F',h1,h2,h3,h4⟩:=pj hz
     have f:=f2.each i u F' h1 h3
     rw [h2] at f
     exact Mut.ne_none (r1.dom y hy) (f.2 y h4)
   · exact f2.nd
theorem ir:∀ {l:List Val},bM l=.fr->∀ v∈l,v.1=.fr
 | [],_,v,h=>by simp at h
 | (m,t) :: r,e,v,h=>by
   have e':m.join (bM r)=.fr:=e
   have h1:m=.fr:=by
     revert e'
     cases m <;> cases bM r <;> simp [Md.join]
   have h2:bM r=.fr:=by
     revert e'
     cases m <;> cases bM r <;> simp [Md.join]
   rcases List.mem_cons.mp h with rfl | h
   · exact h1
   · exact ir h2 v h
theorem ie:∀ {l:List Val},bM l ≠ .bo->∀ v∈l,v.1 ≠ .bo
 | [],_,v,h=>by simp at h
 | (m,t) :: r,e,v,h=>by
   have e':m.join (bM r) ≠ .bo:=e
   have h1:m ≠ .bo:=by
     revert e'
     cases m <;> cases bM r <;> simp [Md.join]
   have h2:bM r ≠ .bo:=by
     revert e'
     cases m <;> cases bM r <;> simp [Md.join]
   rcases List.mem_cons.mp h with rfl | h
   · exact h1
   · exact ie h2 v h
theorem pe:∀ {l:List Val} {Fs:List (List Addr)},l.length=Fs.length->(∀ v∈l,v.1=.fr)->frs l Fs=Fs.flatten
 | [],[],_,_=>rfl
 | [],_ :: _,h,_=>by simp at h
 | _ :: _,[],h,_=>by simp at h
 | v :: l,F :: Fs,h,q=>by
   unfold frs
   rw [q v List.mem_cons_self,pe (by simpa using h) fun u hu=>q u (List.mem_cons_of_mem _ hu)]
   rfl
theorem eL {x:Addr} {Fs:List (List Addr)} (h:x∈Fs.flatten):∃ (i:Nat) (F:List Addr),Fs[i]?=some F/\x∈F:=by
 obtain ⟨F,hF,hx⟩:=List.mem_flatten.mp h
 obtain ⟨i,hi⟩:=List.mem_iff_getElem?.mp hF
 exact ⟨i,F,hi,hx⟩
theorem FpL.join {Φ:Fps} {η:VS.Env} {H:Hp} {l:List Val} {Fs:List (List Addr)} (f:FpL Φ η H l Fs) (hl:l.length=Fs.length):Fp Φ η H (bM l) Fs.flatten:=by
 have at':∀ x∈Fs.flatten,∃ v F,v∈l/\x∈F/\Fp Φ η H v.1 F:=fun x hx=>by
   obtain ⟨i,F,hi,hxF⟩:=eL hx
   have:i < l.length:=by
     have:=(List.getElem?_eq_some_iff.mp hi).1
     lia
   exact ⟨l[i],F,List.getElem_mem this,hxF,f.each i _ F (List.getElem?_eq_getElem this) hi⟩
 cases e:bM l with
 | fr =>
   have al:=ir e
   refine ⟨by rw [← pe hl al];exact f.nd,fun x hx=>?_⟩
   obtain ⟨v,F,hv,hxF,q⟩:=at' x hx
   rw [al v hv] at q
   exact q.2 x hxF
 | pu =>
   have al:=ie (l:=l) (by rw [e];decide)
   intro x hx
   obtain ⟨v,F,hv,hxF,q⟩:=at' x hx
   exact Fp.pu (al v hv) q x hxF
 | bo =>
   intro x hx
   obtain ⟨v,F,hv,hxF,q⟩:=at' x hx
   exact q.bo x hxF
structure Args (G:Gx) (Φ:Fps) (η:VS.Env) (H0 H:Hp) (l:List Val) (vs:List V) (Fs:List (List Addr)):Prop where
 same:aQ H0 H
 rp:RpL G H vs (trees l) Fs
 fp:FpL Φ η H0 l Fs
theorem Args.len {Φ:Fps} {η:VS.Env} {H0 H:Hp} {l:List Val} {vs:List V} {Fs:List (List Addr)} (A:Args G Φ η H0 H l vs Fs):l.length=Fs.length:=by
 have:=A.rp.len.2
 simp [trees] at this
 lia
noncomputable def fg (G:Gx) (r:List V->Hp->VK->Prop) (f:List Val->Option Val):Prop:=∀ (Φ:Fps) (η:VS.Env) (H0 H:Hp) (l:List Val) (vs:List V) (Fs:List (List Addr)) (m:Md) (t:T) (Q:VK),Args G Φ η H0 H l vs Fs->f l=some (m,t) →
 (∀ v H' F,aQ H H'->Rp G H' v t F->Fp Φ η H0 m F->Q v H')->r vs H Q
theorem xT {r:List V->Hp->VK->Prop} {f:List Val->Option Val} (ok:fg G r f) {σ:L2.St} {H:Hp} {Q:VK} {η:VS.Env} {Φ:Fps} {l:List Val} {m:Md} {t:T} (s:SR G Φ η σ H) (el:cs η=some l) (e:f l=some (m,t))
   (k:∀ v H' F,aQ H H'->Rp G H' v t F->Fp Φ η H m F->Q v H'):tEs G cs σ H fun vs H1=>r vs H1 Q :=
 ⟨Φ,η,l,s,el,fun vs H' Fs e1 r1 f1=>ok Φ η H H' l vs Fs m t Q ⟨e1,r1,f1⟩ e fun v H2 F e2 r2 f2=>k v H2 F (e1.trans e2) r2 f2⟩
theorem iz {r:List V->Hp->VK->Prop} {f:List Val->Option Val} {id:String} {x:Str} (hc:dB X (.builtin id) r) (ok:fg G r f) (hg:Gl X x) (hm:X.mg x=none) (hv:bootBuiltins x=some (.builtin id)) (ha:PVs G X (e :: es) cs)
   (hn:x ≠ "__name__" := by decide) (hdb:(x == ("__debug__" : Str))=false:=by decide)
   (he:starEach (e :: es) X.env=(false,eval e X.env) :: starEach es X.env:=by rfl) (hpl:(backTo pos (starEach es X.env)).any (·.1)=false:=by rfl):PV G X (.Call (.Name x p) (e :: es) [] pos) (eN f cs) :=
 PE.weak (mQ hc hg hm hv ha hn hdb he hpl) fun σ H Q ⟨Φ,η,m,t,s,e,k⟩=>by
   unfold eN at e
   obtain ⟨l,el,e⟩:=Option.bind_eq_some_iff.mp e
   exact xT ok s el e k
theorem kf {r:List V->Hp->VK->Prop} {f:List Val->Option Val} {Ty:String} {x:Str} (hc:dB X (.type Ty) r) (ok:fg G r f) (hg:Gl X x) (hm:X.mg x=none) (hv:bootBuiltins x=some (.type Ty)) (ha:PVs G X (e :: es) cs)
   (hn:x ≠ "__name__" := by decide) (hdb:(x == ("__debug__" : Str))=false:=by decide)
   (he:starEach (e :: es) X.env=(false,eval e X.env) :: starEach es X.env:=by rfl) (hpl:(backTo pos (starEach es X.env)).any (·.1)=false:=by rfl):PV G X (.Call (.Name x p) (e :: es) [] pos) (eN f cs) :=
 PE.weak (qv hc hg hm hv ha hn hdb he hpl) fun σ H Q ⟨Φ,η,m,t,s,e,k⟩=>by
   unfold eN at e
   obtain ⟨l,el,e⟩:=Option.bind_eq_some_iff.mp e
   exact xT ok s el e k
theorem zB (h:PVs G X es cs):PV G X (.List es pos) (gw cs):=PE.weak (lK h) fun σ H Q ⟨Φ,η,m,t,s,e,k⟩=>by
 unfold gw at e
 obtain ⟨l,el,e⟩:=Option.bind_eq_some_iff.mp e
 refine ⟨Φ,η,l,s,el,fun vs H' Fs e1 r1 f1=>?_⟩
 have A:Args G Φ η H H' l vs Fs:=⟨e1,r1,f1⟩
 obtain ⟨_,hl,_⟩:=lZ e
 refine ⟨by rw [r1.len.1,← eU];exact hl,gO e1 e r1 (f1.join A.len) fun v H2 F e2 r2 f2=>k v H2 F (e1.trans e2) r2 f2⟩
theorem zk {x1} (h:PVs G X es cs):PV G X (.Tuple es x1 pos) (mW cs):=PE.weak (zF h) fun σ H Q ⟨Φ,η,m,t,s,e,k⟩=>by
 unfold mW at e
 obtain ⟨l,el,e⟩:=Option.bind_eq_some_iff.mp e
 refine ⟨Φ,η,l,s,el,fun vs H' Fs e1 r1 f1=>?_⟩
 have A:Args G Φ η H H' l vs Fs:=⟨e1,r1,f1⟩
 unfold pO at e
 split at e
 · rename_i hl
   cases e
   refine ⟨by rw [r1.len.1,← eU,trees,List.length_map];exact hl,fun q hq=>?_⟩
   have r2:Rp G (upd H' q (.tup vs)) (.ref q) (.tup (trees l)) Fs.flatten:=.tup aE (r1.same (cQ hq))
   exact k _ _ _ (e1.trans (cQ hq)) r2 (Fp.up (f1.join A.len) r2)
 · cases e
theorem vn {H:Hp} {v:V} {t:T} {F:List Addr} {k:Bool} (r:Rp G H v t F) (h:tru t=some k):yP G.K v H k:=by
 cases r with
 | non=>cases h;rfl
 | bl b=>cases h;rfl
 | int i=>cases h;rfl
 | str s hl =>
   cases h
   refine ⟨by rw [dX,← eU];exact hl.1,?_⟩
   rw [dX]
   cases s with
   | nil=>rfl
   | cons a r =>
     have:((List.length (a :: r):Int) != 0)=true:=by simp;lia
     rw [this]
     rfl
 | scr h'=>cases h
 | tup h' q =>
   cases h
   refine .inr (.inl ⟨_,SqT.of h',?_⟩)
   have:=q.len.1
   rename_i vs ts _
   cases vs <;> cases ts <;> simp_all
 | lst h' q =>
   cases h
   refine .inl ⟨_,SqL.of h',?_⟩
   have:=q.len.1
   rename_i vs ts _
   cases vs <;> cases ts <;> simp_all
 | dct h' hl q =>
   cases h
   refine .inr (.inr ⟨_,h',?_⟩)
   have:=q.len.1
   rename_i ks vs ts _
   cases ks <;> cases vs <;> cases ts <;> simp_all
 | dctT h' hl q=>cases h
 | dctN h' hl n q=>cases h
 | obj h' hl q=>cases h
theorem xh (h:PV G X a ca) (hK:X.K=G.K:=by rfl) (he:∀ whole,isTrue a X.env whole=(do let v ← whole;standAt a.pos;holding [v] (truthy v)):=by intro _;rfl):PVT G X a ca :=
 PT.weak (sD h he) fun σ H Q ⟨Φ,η,m,r,b,s,e,eb,k⟩=>⟨Φ,η,m,r,s,e,fun v H' F e1 r1 f1=>⟨b,by rw [hK];exact vn r1 eb,k H' e1⟩⟩
noncomputable def PVW (G:Gx) (X:Cx) (e:Expr) (c:Ex):Prop:=PW X e (tT G c)
theorem PW.weak {X:Cx} {e:Expr} {t t':TT} (h:PW X e t) (w:∀ σ H Q,t' σ H Q->t σ H Q):PW X e t':=fun wh pins s σ H Q I q=>h wh pins s σ H Q I (w σ H Q q)
theorem PVW.pvt (h:PVW G X e ca):PVT G X e ca:=PW.pt h
variable {rest:List Expr}
theorem rO (ha:PVT G X a ca):PVW G X (.BoolOp .And [a] pos) ca:=vm ha
theorem mZ {η:VS.Env} {m:Md} {r:T} (e:gU ca cb η=some (m,r)):(∃ n,ca η=some (n,.bl true)/\cb η=some (m,r))\/(∃ n,ca η=some (n,.bl false)/\m=.fr/\r=.bl false):=by
 unfold gU at e
 obtain ⟨⟨n,x⟩,ea,e⟩:=Option.bind_eq_some_iff.mp e
 split at e
 · rename_i h
   cases (show x=.bl true from h)
   exact .inl ⟨n,ea,e⟩
 · rename_i h
   cases (show x=.bl false from h)
   cases e
   exact .inr ⟨n,ea,rfl,rfl⟩
 · cases e
theorem vG (ha:PVT G X a ca) (hb:PVW G X (.BoolOp .And (b :: rest) pos) cb):PVW G X (.BoolOp .And (a :: b :: rest) pos) (gU ca cb) :=
 PW.weak (yW ha hb) fun σ H Q ⟨Φ,η,m,r,k,s,e,eb,q⟩=>by
   rcases mZ e with ⟨n,ea,e2⟩ | ⟨n,ea,rfl,rfl⟩
   · refine ⟨Φ,η,n,_,true,s,ea,rfl,fun H' e1=>?_⟩
     refine zw ?_
     exact ⟨Φ,η,m,r,k,s.same e1,e2,eb,fun H2 e2=>q H2 (e1.trans e2)⟩
   · refine ⟨Φ,η,n,_,false,s,ea,rfl,fun H' e1=>?_⟩
     refine yT ?_
     cases eb
     exact q H' e1
theorem oi {η:VS.Env} {m:Md} {r:T} (e:j3 ca η=some (m,r)):∃ n b,ca η=some (n,.bl b)/\m=.fr/\r=.bl (!b):=by
 unfold j3 at e
 obtain ⟨⟨n,x⟩,ea,e⟩:=Option.bind_eq_some_iff.mp e
 split at e
 · rename_i b h
   cases (show x=.bl b from h)
   cases e
   exact ⟨n,b,ea,rfl,rfl⟩
 · cases e
theorem vS (ha:PVT G X a ca):PVT G X (.UnaryOp .Not a pos) (j3 ca):=PT.weak (yS ha) fun σ H Q ⟨Φ,η,m,r,k,s,e,eb,q⟩=>by
 obtain ⟨n,b,ea,rfl,rfl⟩:=oi e
 cases eb
 exact ⟨Φ,η,n,_,b,s,ea,rfl,fun H' e1=>q H' e1⟩
theorem yM (ha:PV G X a ca):PV G X (.UnaryOp .Not a pos) (j3 ca):=PE.weak (yb ha) fun σ H Q ⟨Φ,η,m,r,s,e,q⟩=>by
 obtain ⟨n,b,ea,rfl,rfl⟩:=oi e
 exact ⟨Φ,η,n,_,s,ea,fun v H' F e1 r1 f1=>⟨b,r1.bl_inv,q _ H' _ e1 (.bl _) Fp.nil⟩⟩
theorem zT {op} (h:PV G X a ca):PV G X (.BoolOp op [a] pos) ca:=yn h
theorem zl (ha:PV G X a ca) (hb:PV G X (.BoolOp .And (b :: rest) pos) cb):PV G X (.BoolOp .And (a :: b :: rest) pos) (gU ca cb) :=
 PE.weak (ya ha hb) fun σ H Q ⟨Φ,η,m,r,s,e,q⟩=>by
   rcases mZ e with ⟨n,ea,e2⟩ | ⟨n,ea,rfl,rfl⟩
   · refine ⟨Φ,η,n,_,s,ea,fun v H' F e1 r1 f1=>⟨true,r1.bl_inv,?_⟩⟩
     refine zw ?_
     exact ⟨Φ,η,m,r,s.same e1,e2,fun v H2 F e2 r2 f2=>q v H2 F (e1.trans e2) r2 (f2.back e1)⟩
   · refine ⟨Φ,η,n,_,s,ea,fun v H' F e1 r1 f1=>⟨false,r1.bl_inv,?_⟩⟩
     refine yT ?_
     exact q _ H' _ e1 (.bl _) Fp.nil
end
end VS
end
section
namespace VS
open PySem PySem.Spec PyProof.Rows L2
section
variable {G:Gx} {X:Cx} {a b c e:Expr} {es:List Expr} {ca cb cc:Ex} {cs:Exs} {pos p:Pos}
theorem RpL.one {H:Hp} {vs:List V} {t:T} {Fs:List (List Addr)} (r:RpL G H vs [t] Fs):∃ v F,vs=[v]/\Fs=[F]/\Rp G H v t F:=by
 cases r with
 | cons r q=>cases q;exact ⟨_,_,rfl,rfl,r⟩
theorem RpL.two {H:Hp} {vs:List V} {t t':T} {Fs:List (List Addr)} (r:RpL G H vs [t,t'] Fs):∃ v v' F F',vs=[v,v']/\Fs=[F,F']/\Rp G H v t F/\Rp G H v' t' F':=by
 cases r with
 | cons r q =>
   obtain ⟨v',F',rfl,rfl,r'⟩:=q.one
   exact ⟨_,_,_,_,rfl,rfl,r,r'⟩
noncomputable def Ax (K:PySem.W.Frag):List V->Hp->VK->Prop:=fun xs H Q=>(∃ x n,xs=[x]/\Bm K x H n/\Q (.int n) H)\/(∃ a kvs,xs=[V.ref a]/\H a=some (.dK kvs)/\Q (.int kvs.length) H)
theorem oI:dB X (.builtin "len") (fun xs H Q=>∃ a kvs,xs=[V.ref a]/\H a=some (.dK kvs)/\Q (.int kvs.length) H):=by
 intro pins s σ H xs us Q I r h
 obtain ⟨a,kvs,rfl,ha,q⟩:=h
 obtain ⟨u,rfl,ru⟩:=vals1 r
 cases ru
 exact Bi I (.inl ha) fun t s' I'=>⟨.int kvs.length,H,I',⟨t,rfl⟩,q⟩
theorem rj:dB X (.builtin "len") (Ax X.K):=t7.or oI
theorem zd:fg G (Ax G.K) dR:=by
 intro Φ η H0 H l vs Fs m t Q A e k
 refine L2.eT fun P_ k_=>?_
 unfold dR at e
 split at e
 · rename_i x
   obtain ⟨mx,x⟩:=x
   obtain ⟨n,en,e⟩:=Option.map_eq_some_iff.mp e
   cases e
   obtain ⟨v,F,rfl,rfl,r⟩:=(show RpL G H vs [x] Fs from A.rp).one
   have fin:Q (.int (n:Int)) H:=bj k (.int _)
   cases r with
   | non=>cases en
   | bl b=>cases en
   | int i=>cases en
   | str s hl =>
     cases en
     refine k_ ?_
     exact .inl ⟨_,_,rfl,⟨by rw [dX,← eU];exact hl.1,rfl⟩,by rw [dX];exact fin⟩
   | scr h =>
     cases en
     refine k_ ?_
     refine .inl ⟨_,_,rfl,.inl ⟨_,h.seq,rfl⟩,?_⟩
     rw [List.length_map]
     exact fin
   | tup h q =>
     cases en
     refine k_ ?_
     refine .inl ⟨_,_,rfl,.inr ⟨_,SqT.of h,rfl⟩,?_⟩
     rw [q.len.1]
     exact fin
   | lst h q =>
     cases en
     refine k_ ?_
     refine .inl ⟨_,_,rfl,.inl ⟨_,SqL.of h,rfl⟩,?_⟩
     rw [q.len.1]
     exact fin
   | dct h hl q =>
     cases en
     refine k_ ?_
     refine .inr ⟨_,_,rfl,h,?_⟩
     rename_i ks ws ts _
     have e1:=q.len.1
     rw [List.length_zip,List.length_map] at fin
     rw [List.length_zip,e1]
     exact fin
   | dctT h hl q=>cases en
   | dctN h hl n q=>cases en
   | obj h hl q=>cases en
 · cases e
theorem vq:fg G (fun xs H Q=>∃ i j,xs=[.int i,.int j]/\Q (.int (if j < i then j else i)) H) lh:=by
 intro Φ η H0 H l vs Fs m t Q A e k
 unfold lh at e
 split at e
 · rename_i _ i _ j
   cases e
   obtain ⟨v,v',F,F',rfl,rfl,r,r'⟩:=(show RpL G H vs [.int i,.int j] Fs from A.rp).two
   exact ⟨i,j,by rw [r.int_inv,r'.int_inv],bj k (.int _)⟩
 · cases e
noncomputable def xO (K:PySem.W.Frag):List V->Hp->VK->Prop:=fun xs H Q=>∃ p ys,xs=[.ref p]/\(SqL K H p ys\/SqT K H p ys)/\∀ l,H l=none->Q (.ref l) (upd H l (.lst ys))
theorem pW:fg G (xO G.K) xM:=by
 intro Φ η H0 H l vs Fs m t Q A e k
 unfold xM at e
 split at e
 · rename_i mx x
   obtain ⟨v,F,rfl,rfl,rx⟩:=(show RpL G H vs [.lst x] Fs from A.rp).one
   obtain ⟨a,ys,Gs,rfl,rfl,ha,ra⟩:=rx.lst_inv
   have f:=A.fp.each 0 _ _ rfl rfl
   exact ⟨a,ys,rfl,.inl (SqL.of ha),gO A.same e ra (f.sub (List.sublist_cons_self _ _)) k⟩
 · rename_i mx x
   obtain ⟨v,F,rfl,rfl,rx⟩:=(show RpL G H vs [.tup x] Fs from A.rp).one
   obtain ⟨a,ys,Gs,rfl,rfl,ha,ra⟩:=rx.tup_inv
   have f:=A.fp.each 0 _ _ rfl rfl
   exact ⟨a,ys,rfl,.inr (SqT.of ha),gO A.same e ra f k⟩
 · cases e
noncomputable def tO (G:Gx) (c:Option Ex):TO:=fun σ H Q=>∃ Φ η o,SR G Φ η σ H/\uG c η=some o/\∀ H',aQ H H'->Q o H'
noncomputable def PVO (G:Gx) (X:Cx) (e:Option Expr) (c:Option Ex):Prop:=PO X e (tO G c)
theorem PO.weak {X:Cx} {e:Option Expr} {t t':TO} (h:PO X e t) (w:∀ σ H Q,t' σ H Q->t σ H Q):PO X e t':=fun pins s σ H Q I q=>h pins s σ H Q I (w σ H Q q)
theorem ua:PVO G X none none:=PO.weak wX fun σ H Q ⟨Φ,η,o,s,e,k⟩=>by
 cases (show some (none:Option Int)=some o from e)
 exact k H (aQ.refl _)
theorem tM (h:PV G X a ca):PVO G X (some a) (some ca):=PO.weak (v3 h) fun σ H Q ⟨Φ,η,o,s,e,k⟩=>by
 obtain ⟨⟨m,y⟩,ea,e⟩:=Option.bind_eq_some_iff.mp (show (ca η).bind (fun y=>(int? y.2).map some)=some o from e)
 obtain ⟨i,ei,e⟩:=Option.map_eq_some_iff.mp e
 cases e
 refine ⟨Φ,η,m,y,s,ea,fun v H' F e1 r1 f1=>?_⟩
 cases y with
 | int j =>
   cases ei
   exact ⟨_,r1.int_inv,k H' e1⟩
 | _=>cases ei
theorem iW {α:Type} (l:List α) (lo hi:Option Int):cut l lo hi=(l.drop (HT.sIx l.length 0 lo)).take (HT.sIx l.length l.length hi - HT.sIx l.length 0 lo):=by
 unfold cut
 cases lo <;> cases hi <;> rfl
theorem uk (lo hi:Option Int) (n:Nat):Builtin.Str.strSliceIndices lo hi 1 n=Builtin.Str.strSliceIndices (some ((min (HT.sIx n 0 lo) n:Nat):Int)) (some ((min (HT.sIx n n hi) n:Nat):Int)) 1 n:=by
 have e1:∀ k:Nat,¬ ((k:Int) < 0):=fun k=>by lia
 unfold Builtin.Str.strSliceIndices
 simp only [show (1:Int) > 0 by decide,if_true,e1,if_false]
 congr 1
 · cases lo with
   | none=>simp only [HT.sIx];lia
   | some i =>
     simp only [HT.sIx]
     by_cases h:i < 0
     · simp only [h,if_true];lia
     · simp only [h,if_false];lia
 · cases hi with
   | none=>simp only [HT.sIx];lia
   | some i =>
     simp only [HT.sIx]
     by_cases h:i < 0
     · simp only [h,if_true];lia
     · simp only [h,if_false];lia
theorem j6 (s:Tx) (lo hi:Option Int):PySem.StrLaws.sliceText (sx s) lo hi=sx (cut s lo hi):=by
 have key:PySem.StrLaws.sliceText (sx s) lo hi=PySem.StrLaws.sliceText (sx s) (some ((min (HT.sIx s.length 0 lo) s.length:Nat):Int)) (some ((min (HT.sIx s.length s.length hi) s.length:Nat):Int)):=by
   unfold PySem.StrLaws.sliceText
   rw [dX,uk]
 rw [key]
 have hd:∀ a:Nat,s.drop (min a s.length)=s.drop a:=fun a=>by
   by_cases h:a<=s.length
   · rw [Nat.min_eq_left h]
   · rw [Nat.min_eq_right (by omega),List.drop_of_length_le (Nat.le_refl _),List.drop_of_length_le (by omega)]
 by_cases h:min (HT.sIx s.length 0 lo) s.length<=min (HT.sIx s.length s.length hi) s.length
 · rw [PySem.StrLaws.sliceText_nat (sx s) h (by rw [dX];omega),iW]
   show (⟨_⟩:Str)=⟨_⟩
   congr 2
   show ((sx s).cps.toList.drop _).take _=_
   have:(sx s).cps.toList=s:=rfl
   rw [this,hd]
   by_cases h2:HT.sIx s.length 0 lo<=s.length
   · rw [Nat.min_eq_left h2]
     by_cases h3:HT.sIx s.length s.length hi<=s.length
     · rw [Nat.min_eq_left h3]
     · rw [Nat.min_eq_right (by omega),List.take_of_length_le (by rw [List.length_drop];omega),List.take_of_length_le (by rw [List.length_drop];omega)]
   · rw [List.drop_of_length_le (by omega)]
     simp
 · have e0:cut s lo hi=[]:=by
     rw [iW]
     have:HT.sIx s.length s.length hi - HT.sIx s.length 0 lo=0:=by omega
     rw [this,List.take_zero]
   rw [e0]
   unfold PySem.StrLaws.sliceText
   have e2:Builtin.Str.strSliceIndices (some ((min (HT.sIx s.length 0 lo) s.length:Nat):Int)) (some ((min (HT.sIx s.length s.length hi) s.length:Nat):Int)) 1 (sx s).length=[]:=by
     have e1:∀ k:Nat,¬ ((k:Int) < 0):=fun k=>by omega
     unfold Builtin.Str.strSliceIndices sliceRange
     simp only [show (1:Int) > 0 by decide,if_true,e1,if_false,dX]
     rw [if_neg (by omega)]
     rfl
   rw [e2]
   have:¬ ((1:Int) == 1 && ([]:List Nat).length == (sx s).length)=true:=by
     rw [dX]
     simp
     omega
   rw [if_neg this]
   rfl
noncomputable def BH:V->Option Int->Option Int->Hp->VK->Prop:=fun x lo hi H Q=>∃ z,x=.str z/\z.length<=sizeLine/\Q (.str (PySem.StrLaws.sliceText z lo hi)) H
theorem part_of {v:Value} {o:Option Int} (h:IsPart v o):∃ q:Option (Int×Tok),v=partValue q/\o=q.map (·.1):=by
 cases h with
 | none=>exact ⟨none,rfl,rfl⟩
 | int i t=>exact ⟨some (i,t),rfl,rfl⟩
theorem lG {α β:Type} (f:α->Option β) (l:List α):(l.filterMap f).length<=l.length:=List.length_filterMap_le f l
theorem wV (lo hi:Option Int) (n:Nat):(Builtin.Str.strSliceIndices lo hi 1 n).length<=n:=by
 rw [uk]
 by_cases h:min (HT.sIx n 0 lo) n<=min (HT.sIx n n hi) n
 · rw [PySem.StrLaws.strSliceIndices_plain h (by omega),List.length_map,List.length_range]
   omega
 · have e1:∀ k:Nat,¬ ((k:Int) < 0):=fun k=>by omega
   unfold Builtin.Str.strSliceIndices sliceRange
   simp only [show (1:Int) > 0 by decide,if_true,e1,if_false]
   rw [if_neg (by omega)]
   simp
theorem yB:SlR X BH:=by
 intro pins s σ H x v vl vu lo hi sl Q I rx hs pl pu h
 obtain ⟨z,rfl,hz,q⟩:=h
 obtain ⟨t,rfl⟩:=rx
 obtain ⟨l,rfl,rfl⟩:=part_of pl
 obtain ⟨u,rfl,rfl⟩:=part_of pu
 refine ⟨"str",_,F.slot_str_getitem.lookup,typeIs_str s z t,wpAny_getItem_str_slice (l:=l) (u:=u) (st:=none) hs rfl ?_⟩
 unfold sliceMade
 split
 · rename_i hc
   refine ⟨.str z,H,I,⟨t,rfl⟩,?_⟩
   have e:PySem.StrLaws.sliceText z (l.map (·.1)) (u.map (·.1))=z:=by
     unfold PySem.StrLaws.sliceText
     exact if_pos hc
   rw [e] at q
   exact q
 · rename_i hc
   refine ⟨Nat.le_trans ?_ hz,.str _,H,I.tok _,⟨_,rfl⟩,?_⟩
   · show (List.filterMap _ _).toArray.size<=_
     rw [List.size_toArray]
     exact Nat.le_trans (lG _ _) (wV _ _ _)
   · have e:PySem.StrLaws.sliceText z (l.map (·.1)) (u.map (·.1))=⟨((slicePicked z l u none).filterMap (z.cps[·]?)).toArray⟩:=by
       unfold PySem.StrLaws.sliceText
       exact if_neg hc
     rw [e] at q
     exact q
noncomputable def rSl (K:PySem.W.Frag):V->Option Int->Option Int->Hp->VK->Prop:=fun x lo hi H Q=>BH x lo hi H Q\/Bs K x lo hi H Q
theorem B7:SlR X (rSl X.K):=yB.or wG
theorem wj {α:Type} (l:List α) (lo hi:Option Int):(cut l lo hi).length<=l.length:=by
 rw [iW,List.length_take,List.length_drop]
 lia
theorem RpL.cut {H:Hp} {vs:List V} {ts:List T} {Fs:List (List Addr)} (r:RpL G H vs ts Fs) (lo hi:Option Int):RpL G H (rE vs lo hi) (VS.cut ts lo hi) (VS.cut Fs lo hi):=by
 have h:=r.len
 rw [iW,iW,h.2]
 unfold rE
 rw [h.1]
 exact (r.drop _).take _
theorem pU {α:Type} (l:List α) (lo hi:Option Int):(VS.cut l lo hi).Sublist l:=by
 rw [iW]
 exact (List.take_sublist _ _).trans (List.drop_sublist _ _)
theorem uI {F G:List (List Addr)} (h:F.Sublist G):F.flatten.Sublist G.flatten:=by
 induction h with
 | slnil=>exact List.Sublist.refl _
 | cons a _ ih=>rw [List.flatten_cons];exact ih.trans (List.sublist_append_right _ _)
 | cons_cons a _ ih=>rw [List.flatten_cons,List.flatten_cons];exact (List.Sublist.refl _).append ih
theorem sk {lo hi:Option Expr} {cl ch:Option Ex} {p2:Pos} (ha:PV G X a ca) (hl:PVO G X lo cl) (hh:PVO G X hi ch) (hK:X.K=G.K:=by rfl):PV G X (.Subscript a (.Slice lo hi none p2) pos) (eSl ca cl ch) :=
 PE.weak (ud B7 ha hl hh) fun σ H Q ⟨Φ,η,m,t,s,e,k⟩=>by
   unfold eSl at e
   obtain ⟨⟨mx,x⟩,ea,e'⟩:=Option.bind_eq_some_iff.mp e
   obtain ⟨l,el,e''⟩:=Option.bind_eq_some_iff.mp e'
   obtain ⟨h,eh,e4⟩:=Option.bind_eq_some_iff.mp e''
   clear e e' e''
   refine ⟨Φ,η,mx,x,s,ea,fun v H1 F e1 r1 f1=>⟨Φ,η,l,s.same e1,el,fun H2 e2=>⟨Φ,η,h,(s.same e1).same e2,eh,fun H3 e3=>?_⟩⟩⟩
   have e03:aQ H H3:=(e1.trans e2).trans e3
   have r3:=(r1.same e2).same e3
   unfold oSl at e4
   split at e4
   · rename_i m' z q
     cases q
     cases e4
     obtain ⟨rfl,hl⟩:=r3.str_inv
     refine .inl ⟨_,rfl,by rw [dX,← eU];exact hl.1,?_⟩
     rw [j6]
     exact k _ H3 _ e03 (.str _ ⟨Nat.le_trans (wj _ _ _) hl.1,fun c hc=>hl.2 c ((pU _ _ _).subset hc)⟩) Fp.nil
   · rename_i m' z q
     cases q
     obtain ⟨a',vs,Fs,rfl,rfl,ha',ra⟩:=r3.lst_inv
     refine .inr ⟨a',vs,rfl,by rw [hK];exact SqL.of ha',gO e03 e4 (ra.cut l h) ((f1.sub (List.sublist_cons_self _ _)).sub (uI (pU _ _ _))) fun v H4 F e5 r4 f4=>k v H4 F (e03.trans e5) r4 f4⟩
   · cases e4
noncomputable def tyS:Ty->String
 | .int => "int"
 | .str => "str"
 | .bool => "bool"
 | .list => "list"
 | .tuple => "tuple"
 | .dict => "dict"
noncomputable def rIs (K:PySem.W.Frag):List V->Hp->VK->Prop:=fun vs H Q=>∃ x c t b,vs=[x,.ty c]/\TyOf K H x t/\PySem.W.kitOne K t (.type c)=some b/\Q (.bl b) H
theorem wq:dB X (.builtin "isinstance") (rIs X.K):=by
 intro pins s σ H xs us Q I r h
 obtain ⟨x,c,t,b,rfl,ty,e,q⟩:=h
 obtain ⟨u,w',rfl,r1,r2⟩:=vals2 r
 cases r2
 exact qq I r1 ty e fun tk=>⟨.bl b,H,I.tok _,rfl,q⟩
theorem wb (K:PySem.W.Frag) (ty:Ty):(PySem.W.kitOne K (.type "NoneType") (.type (tyS ty))=some false)/\(PySem.W.kitOne K (.type "bool") (.type (tyS ty))=some (nq ty (.bl true)))/\(PySem.W.kitOne K (.type "int") (.type (tyS ty))=some (nq ty (.int 0))) ∧
   (PySem.W.kitOne K (.type "str") (.type (tyS ty))=some (nq ty (.str [])))/\(PySem.W.kitOne K (.type "list") (.type (tyS ty))=some (nq ty (.lst [])))/\(PySem.W.kitOne K (.type "tuple") (.type (tyS ty))=some (nq ty (.tup [])))/\(PySem.W.kitOne K (.type "dict") (.type (tyS ty))=some (nq ty (.dct 0 []))):=by
 cases ty <;> refine ⟨?_,?_,?_,?_,?_,?_,?_⟩ <;> kernel_rfl
theorem BK {H:Hp} {v:V} {t:T} {F:List Addr} (ty:Ty) (r:Rp G H v t F) (h:ph t=true):∃ t',TyOf G.K H v t'/\PySem.W.kitOne G.K t' (.type (tyS ty))=some (nq ty t):=by
 obtain ⟨k1,k2,k3,k4,k5,k6,k7⟩:=wb G.K ty
 cases r with
 | non=>exact ⟨_,.non,by rw [k1];cases ty <;> rfl⟩
 | bl b=>exact ⟨_,.bl b,by rw [k2];cases ty <;> rfl⟩
 | int i=>exact ⟨_,.int i,by rw [k3];cases ty <;> rfl⟩
 | str s _=>exact ⟨_,.str _,by rw [k4];cases ty <;> rfl⟩
 | scr _=>cases h
 | tup h' q=>exact ⟨_,.tup h',by rw [k6];cases ty <;> rfl⟩
 | lst h' q=>exact ⟨_,.lst h',by rw [k5];cases ty <;> rfl⟩
 | dct h' l q=>exact ⟨_,.dK h',by rw [k7];cases ty <;> rfl⟩
 | dctT h' l q=>exact ⟨_,.dT h',by rw [k7];cases ty <;> rfl⟩
 | dctN h' l n q=>simp at h
 | obj _ _ _=>cases h
theorem Aj (ty:Ty) {x:Str} {p1 p2:Pos} (ha:PV G X a ca) (hg:Gl X "isinstance") (hm:X.mg "isinstance" = none) (hg2:Gl X x) (hm2:X.mg x=none) (hv:bootBuiltins x=some (.type (tyS ty))) (hK:X.K=G.K:=by rfl)
   (hn:x ≠ "__name__" := by decide) (hdb:(x == ("__debug__" : Str))=false:=by decide) (hs:starEach [a,.Name x p2] X.env=(false,eval a X.env) :: starEach [.Name x p2] X.env:=by rfl)
   (hs2:starEach [.Name x p2] X.env=(false,eval (.Name x p2) X.env) :: starEach [] X.env:=by rfl) (hpl:(backTo pos (starEach [Expr.Name x p2] X.env)).any (·.1)=false:=by rfl) :
   PV G X (.Call (.Name "isinstance" p1) [a,.Name x p2] [] pos) (eIs ty ca) :=
 PE.weak (mQ wq hg hm boot_isinstance (d7 ha (d7 (xf (v:=.ty (tyS ty)) hg2 hm2 hv rfl hn hdb) fC hs2) hs) (by decide) rfl hs hpl) fun σ H Q ⟨Φ,η,m,t,s,e,k⟩=>by
   unfold eIs at e
   obtain ⟨⟨mx,y⟩,ea,e'⟩:=Option.bind_eq_some_iff.mp e
   split at e'
   · rename_i hk
     cases e'
     refine ⟨Φ,η,mx,y,s,ea,fun v H' F e1 r1 f1=>?_⟩
     obtain ⟨t',h1,h2⟩:=BK ty r1 hk
     exact ⟨v,tyS ty,t',_,rfl,by rw [hK];exact h1,by rw [hK];exact h2,k _ H' _ e1 (.bl _) Fp.nil⟩
   · cases e'
end
end VS
end
section
namespace VS
open PySem PySem.Spec PyProof.Rows L2
section
variable {G:Gx} {X:Cx} {a b c e:Expr} {es:List Expr} {ca cb cc:Ex} {cs:Exs} {pos p:Pos}
end
end VS
end
section
namespace VS
@[simp] noncomputable def oIx (x y:Val):Option Val:=match x.2 with
 | .dct 0 l=>if gh y.2 then (dQ l y.2).map (sub x.1) else none
 | _=>aS x y
@[simp] noncomputable def flat:T->Bool
 | .non=>true
 | .bl _=>true
 | .int _=>true
 | .str _=>true
 | _=>false
@[simp] noncomputable def ly (x y:Val):Option Val:=match y.2 with
 | .dct 0 l=>if gh x.2 then some (.fr,.bl (dQ l x.2).isSome) else none
 | .lst l=>if flat x.2 && l.all flat then some (.fr,.bl (l.any fun y=>eqT y x.2)) else none
 | .tup l=>if flat x.2 && l.all flat then some (.fr,.bl (l.any fun y=>eqT y x.2)) else none
 | _=>none
@[simp] noncomputable def BL (x y:Val):Option Val:=match ly x y with
 | some (_,.bl b)=>some (.fr,.bl (!b))
 | _=>none
noncomputable def pm {α:Type} (f:T->Option (T×α)):List Ky->T->Option (T×α)
 | [],t=>f t
 | .fld k :: r,.obj c fs=>(fs.findIdx? fun p=>p.1 == k).bind fun i=>(fs[i]?).bind fun p=>(pm f r p.2).map fun z=>(.obj c (fs.set i (p.1,z.1)),z.2)
 | .at (.int i) :: r,.lst l=>(ixP l.length i).bind fun j=>(l[j]?).bind fun x=>(pm f r x).map fun z=>(.lst (l.set j z.1),z.2)
 | .at k :: r,.dct 0 l=>if gh k then (l.findIdx? fun p=>eqT p.1 k).bind fun i=>(l[i]?).bind fun p=>(pm f r p.2).map fun z=>(.dct 0 (l.set i (p.1,z.1)),z.2) else none
 | _,_=>none
end VS
end
section
namespace VS
open PySem PySem.Spec PyProof.Rows L2
section
variable {G:Gx} {X:Cx} {a b c e:Expr} {es:List Expr} {ca cb cc:Ex} {cs:Exs} {pos p:Pos}
mutual
noncomputable def toP:T->PyData
 | .non=>.none
 | .bl b=>.bool b
 | .int i=>.int i
 | .str s=>.str (sx s)
 | .tup l=>.tuple (jI l)
 | .lst l=>.list (jI l)
 | _=>.none
noncomputable def jI:List T->List PyData
 | []=>[]
 | t :: r=>toP t :: jI r
end
theorem AZ {s:Tx} (h:gr s):PyData.strOk (sx s)=true:=by
 unfold PyData.strOk sx
 simp only [Array.all_eq_true,decide_eq_true_eq]
 intro i hi
 have:s.toArray[i]∈s:=by simp
 have:=h.2 _ this
 simpa using this
theorem uL {s t:Tx}:(sx s == sx t)=(s == t):=by
 rw [Bool.eq_iff_iff,beq_iff_eq,beq_iff_eq]
 constructor
 · intro h
   have:(sx s).cps=(sx t).cps:=by rw [h]
   simpa [sx] using this
 · intro h
   rw [h]
mutual
theorem lJ:∀ (n k:Nat) (t u:T),eqD n t=true->eqD k u=true->PyData.eqv (toP t) (toP u)=eqT t u
 | n,k,t,u,h1,h2=>by
   cases t with
   | scr _=>cases n <;> simp at h1
   | dct _ _=>cases n <;> simp at h1
   | obj _ _=>cases n <;> simp at h1
   | tup l =>
     cases n with
     | zero=>simp at h1
     | succ n =>
       cases u with
       | tup r =>
         cases k with
         | zero=>simp at h2
         | succ k =>
           simp only [toP,PyData.eqv,eqT]
           exact jH n k l r (by simpa using h1) (by simpa using h2)
       | scr _=>cases k <;> simp at h2
       | dct _ _=>cases k <;> simp at h2
       | obj _ _=>cases k <;> simp at h2
       | _=>simp [toP,PyData.eqv,eqT]
   | lst l =>
     cases n with
     | zero=>simp at h1
     | succ n =>
       cases u with
       | lst r =>
         cases k with
         | zero=>simp at h2
         | succ k =>
           simp only [toP,PyData.eqv,eqT]
           exact jH n k l r (by simpa using h1) (by simpa using h2)
       | scr _=>cases k <;> simp at h2
       | dct _ _=>cases k <;> simp at h2
       | obj _ _=>cases k <;> simp at h2
       | _=>simp [toP,PyData.eqv,eqT]
   | str s =>
     cases u with
     | str r=>simp only [toP,PyData.eqv,eqT];exact uL
     | scr _=>cases k <;> simp at h2
     | dct _ _=>cases k <;> simp at h2
     | obj _ _=>cases k <;> simp at h2
     | _=>simp [toP,PyData.eqv,eqT]
   | _ =>
     cases u with
     | scr _=>cases k <;> simp at h2
     | dct _ _=>cases k <;> simp at h2
     | obj _ _=>cases k <;> simp at h2
     | _=>simp [toP,PyData.eqv,eqT]
theorem jH:∀ (n k:Nat) (l r:List T),(∀ t∈l,eqD n t=true)->(∀ t∈r,eqD k t=true)->PyData.eqvAll (jI l) (jI r)=ka l r
 | _,_,[],[],_,_=>rfl
 | _,_,[],_ :: _,_,_=>rfl
 | _,_,_ :: _,[],_,_=>rfl
 | n,k,t :: l,u :: r,h1,h2=>by
   simp only [jI,PyData.eqvAll,ka]
   rw [lJ n k t u (h1 t List.mem_cons_self) (h2 u List.mem_cons_self),jH n k l r (fun x hx=>h1 x (List.mem_cons_of_mem _ hx)) fun x hx=>h2 x (List.mem_cons_of_mem _ hx)]
end
theorem Rp.tup_inv5 {H:Hp} {v:V} {ts:List T} {F:List Addr} (r:Rp G H v (.tup ts) F):∃ b vs Fs,v=.ref b/\H b=some (.tup vs)/\RpL G H vs ts Fs:=by
 cases r with
 | tup h q=>exact ⟨_,_,_,rfl,h,q⟩
theorem Rp.lst_inv5 {H:Hp} {v:V} {ts:List T} {F:List Addr} (r:Rp G H v (.lst ts) F):∃ b vs Fs,v=.ref b/\H b=some (.lst vs)/\RpL G H vs ts Fs:=by
 cases r with
 | lst h q=>exact ⟨_,_,_,rfl,h,q⟩
theorem iR {H:Hp} {s:Shared} {n:Nat} (rd:∀ {v:V} {t:T} {F:List Addr} {u:Value},Rp G H v t F->RelV v u->eqD n t=true->∃ as,Reads s.heap u (toP t) as/\(toP t).canLay0=true/\(toP t).depth<=n):∀ {vs:List V} {ts:List T} {Fs:List (List Addr)} {us:List Value},RpL G H vs ts Fs->aP vs us->(∀ t∈ts,eqD n t=true) →
   ∃ as,ReadsAll s.heap us (jI ts) as/\PyData.canLayAll0 (jI ts)=true/\PyData.depthAll (jI ts)<=n
 | _,_,_,_,.nil,r,_=>by cases r;exact ⟨_,.nil,rfl,Nat.zero_le _⟩
 | _,_,_,_,.cons p q,r,h=>by
   cases r with
   | cons r1 r2 =>
     obtain ⟨as,h1,h2,h3⟩:=rd p r1 (h _ List.mem_cons_self)
     obtain ⟨bs,g1,g2,g3⟩:=iR rd q r2 fun t ht=>h t (List.mem_cons_of_mem _ ht)
     exact ⟨_,.cons h1 g1,by simp only [jI,PyData.canLayAll0,h2,g2,Bool.and_self],by simp only [jI,PyData.depthAll];lia⟩
theorem jU {h:Heap} {H:Hp} {v:V} {t:T} {F:List Addr} {u:Value} {n:Nat} (r:Rp G H v t F) (ru:RelV v u) (hf:flat t=true):∃ as,Reads h u (toP t) as/\(toP t).canLay0=true/\(toP t).depth<=n:=by
 cases r with
 | non=>cases ru;exact ⟨_,.none,rfl,Nat.zero_le _⟩
 | bl b=>cases ru;exact ⟨_,.bool b,rfl,Nat.zero_le _⟩
 | int i=>obtain ⟨t,rfl⟩:=ru;exact ⟨_,.int i t,rfl,Nat.zero_le _⟩
 | str s h=>obtain ⟨t,rfl⟩:=ru;exact ⟨_,.str _ t,AZ h,Nat.zero_le _⟩
 | _=>cases hf
theorem iF {H:Hp} {pins:List (Addr×Obj)} {σ:L2.St} {s:Shared} (I:Inv X pins σ H s) (n:Nat):∀ {v:V} {t:T} {F:List Addr} {u:Value},Rp G H v t F->RelV v u->eqD n t=true->∃ as,Reads s.heap u (toP t) as/\(toP t).canLay0=true/\(toP t).depth<=n:=by
 induction n with
 | zero =>
   intro v t F u r ru h
   refine jU r ru ?_
   cases t <;> first | rfl | exact h
 | succ n ih =>
   intro v t F u r ru h
   cases t with
   | tup l =>
     obtain ⟨b,vs,Fs,rfl,e,q⟩:=Rp.tup_inv5 r
     cases ru
     obtain ⟨its,rv,tp,hz⟩:=I.tuple (SqT.of e)
     obtain ⟨as,h1,h2,h3⟩:=iR ih q rv (by simpa using h)
     obtain ⟨o,ho,hc,n',hd⟩:=tp
     exact ⟨_,.tuple ho hc hd (by simpa using h1),h2,by simp only [toP,PyData.depth];lia⟩
   | lst l =>
     obtain ⟨b,vs,Fs,rfl,e,q⟩:=Rp.lst_inv5 r
     cases ru
     obtain ⟨its,rv,pl,hz⟩:=I.list (SqL.of e)
     obtain ⟨as,h1,h2,h3⟩:=iR ih q rv (by simpa using h)
     obtain ⟨o,ho,hc,n',hd⟩:=pl.isList
     exact ⟨_,.list ho hc hd (by simpa using h1),h2,by simp only [toP,PyData.depth];lia⟩
   | scr _=>simp at h
   | dct _ _=>simp at h
   | obj _ _=>simp at h
   | _=>exact jU r ru rfl
noncomputable def wd (G:Gx) (neg:Bool):R2:=fun x y H Q=>∃ t u F F',Rp G H x t F/\Rp G H y u F'/\eqD 60 t=true/\eqD 60 u=true/\Q (.bl (if neg then !eqT t u else eqT t u)) H
theorem gS {d:PyData} (h:d.canLay0=true) (h2:d.depth<=60):SeqAt.shaped d=true:=by
 unfold SeqAt.shaped
 rw [h,Bool.true_and]
 exact decide_eq_true (by lia)
theorem sZ (hu:X.A.units+64 < cLine):OpR X (compareOp .Eq) (wd G false):=by
 intro pins s σ H x y v u Q I rx ry h
 obtain ⟨t,w,F,F',r1,r2,h1,h2,q⟩:=h
 obtain ⟨as,a1,a2,a3⟩:=iF I 60 r1 rx h1
 obtain ⟨bs,b1,b2,b3⟩:=iF I 60 r2 ry h2
 refine eq_dataH a1 b1 (gS a2 a3) (gS b2 b3) hu ⟨.bl _,H,I,rfl,?_⟩
 rw [lJ 60 60 t w h1 h2]
 exact q
theorem zJ (hu:X.A.units+64 < cLine):OpR X (compareOp .NotEq) (wd G true):=by
 intro pins s σ H x y v u Q I rx ry h
 obtain ⟨t,w,F,F',r1,r2,h1,h2,q⟩:=h
 obtain ⟨as,a1,a2,a3⟩:=iF I 60 r1 rx h1
 obtain ⟨bs,b1,b2,b3⟩:=iF I 60 r2 ry h2
 refine ne_dataH a1 b1 (gS a2 a3) (gS b2 b3) hu ⟨.bl _,H,I,rfl,?_⟩
 rw [lJ 60 60 t w h1 h2]
 exact q
theorem xU:eP G (wd G false) oEq:=by
 intro Φ η H0 H x y u w F1 F2 m t Q tw e k
 unfold oEq at e
 split at e
 · rename_i h
   cases e
   exact ⟨_,_,_,_,tw.r1,tw.r2,h.1,h.2,bj k (.bl _)⟩
 · cases e
theorem AF:eP G (wd G true) oNe:=by
 intro Φ η H0 H x y u w F1 F2 m t Q tw e k
 unfold oNe at e
 split at e
 · rename_i h
   cases e
   exact ⟨_,_,_,_,tw.r1,tw.r2,h.1,h.2,bj k (.bl _)⟩
 · cases e
theorem tells_eq:Tells oEq:=by
 intro x y m t e
 unfold oEq at e
 split at e <;> first | (cases e;exact ⟨_,rfl⟩) | cases e
theorem su:Tells oNe:=by
 intro x y m t e
 unfold oNe at e
 split at e <;> first | (cases e;exact ⟨_,rfl⟩) | cases e
end
end VS
end
section
namespace VS
open PySem PySem.Spec PyProof.Rows L2
structure Frm (Φ:Fps) (η:VS.Env) (H:Hp) (Φ':Fps) (η':VS.Env) (H':Hp):Prop where
 keep:∀ a o,H a=some o->¬ bN Φ η a->H' a=some o/\¬ bN Φ' η' a
 dom:∀ a,H a ≠ none->H' a ≠ none
 ow:∀ a,bN Φ' η' a->bN Φ η a\/H a=none
 pu:∀ a,cZ Φ' η' a->cZ Φ η a\/bN Φ η a\/H a=none
 kept:Kept H H'
theorem Frm.refl (Φ:Fps) (η:VS.Env) (H:Hp):Frm Φ η H Φ η H:=⟨fun a o h n=>⟨h,n⟩,fun _ h=>h,fun _ h=>.inl h,fun _ h=>.inl h,Kept.refl H⟩
theorem Frm.none {Φ Φ':Fps} {η η':VS.Env} {H H':Hp} (f:Frm Φ η H Φ' η' H') {a:Addr} (h:H' a=none):H a=none:=by
 cases e:H a with
 | none=>rfl
 | some o=>exact absurd h (f.dom a (by rw [e];exact fun z=>nomatch z))
theorem Frm.trans {Φ Φ1 Φ2:Fps} {η η1 η2:VS.Env} {H H1 H2:Hp} (f:Frm Φ η H Φ1 η1 H1) (g:Frm Φ1 η1 H1 Φ2 η2 H2):Frm Φ η H Φ2 η2 H2 where
 keep:=fun a o h n=>let ⟨h1,n1⟩:=f.keep a o h n;g.keep a o h1 n1
 dom:=fun a h=>g.dom a (f.dom a h)
 ow:=fun a h=>by
   rcases g.ow a h with h | h
   · exact f.ow a h
   · exact .inr (f.none h)
 pu:=fun a h=>by
   rcases g.pu a h with h | h | h
   · exact f.pu a h
   · rcases f.ow a h with h | h
     · exact .inr (.inl h)
     · exact .inr (.inr h)
   · exact .inr (.inr (f.none h))
 kept:=f.kept.trans g.kept
theorem Frm.same {Φ:Fps} {η:VS.Env} {H H':Hp} (e:aQ H H'):Frm Φ η H Φ η H' :=
 ⟨fun a o h n=>⟨e a o h,n⟩,fun a h z=>h (e.free z),fun _ h=>.inl h,fun _ h=>.inl h,Kept.of e⟩
noncomputable def nG (Φ:Fps) (η:VS.Env) (H:Hp):Md->List Addr->Prop
 | .fr,F=>F.Nodup/\∀ a∈F,H a=none\/bN Φ η a
 | _,F=>∀ a∈F,H a=none\/cZ Φ η a\/bN Φ η a
theorem nG.back {Φ Φ1:Fps} {η η1:VS.Env} {H H1:Hp} (f:Frm Φ η H Φ1 η1 H1) {F:List Addr}:∀ {m:Md},nG Φ1 η1 H1 m F->nG Φ η H m F
 | .fr,h=>⟨h.1,fun a ha=>(h.2 a ha).elim (fun z=>.inl (f.none z)) fun z=>(f.ow a z).elim .inr .inl⟩
 | .pu,h=>fun a ha=>by
   rcases h a ha with z | z | z
   · exact .inl (f.none z)
   · rcases f.pu a z with z | z | z
     · exact .inr (.inl z)
     · exact .inr (.inr z)
     · exact .inl z
   · exact (f.ow a z).elim (fun z=>.inr (.inr z)) .inl
 | .bo,h=>fun a ha=>by
   rcases h a ha with z | z | z
   · exact .inl (f.none z)
   · rcases f.pu a z with z | z | z
     · exact .inr (.inl z)
     · exact .inr (.inr z)
     · exact .inl z
   · exact (f.ow a z).elim (fun z=>.inr (.inr z)) .inl
noncomputable def Nx (G:Gx) (Φ:Fps) (η:VS.Env) (H:Hp) (η':VS.Env) (k:L2.St->Hp->Prop):Prop:=∀ Φ' σ' H',SR G Φ' η' σ' H'->Frm Φ η H Φ' η' H'->k σ' H'
noncomputable def pI (G:Gx) (Φ:Fps) (η:VS.Env) (H:Hp) (D:Ends):Out->Prop
 | .nx η'=>Nx G Φ η H η' D.nx
 | .bk η'=>Nx G Φ η H η' D.bk
 | .ct η'=>Nx G Φ η H η' D.ct
 | .rt v η'=>∀ u H' F Φ' σ',SR G Φ' η' σ' H'->Frm Φ η H Φ' η' H'->Rp G H' u v.2 F->nG Φ η H v.1 F->D.rt u H'
noncomputable def tS (G:Gx) (c:Sx):TS:=fun D σ H=>∃ Φ η o,SR G Φ η σ H/\c η=some o/\pI G Φ η H D o
noncomputable def PSV (G:Gx) (X:Cx) (st:Stmt) (c:Sx):Prop:=PS X st (tS G c)
noncomputable def eO (G:Gx) (X:Cx) (st:List Stmt) (c:Sx):Prop:=PSs X st (tS G c)
theorem PS.weak {X:Cx} {e:Stmt} {t t':TS} (h:PS X e t) (w:∀ D σ H,t' D σ H->t D σ H):PS X e t':=fun pins s σ H D I q=>h pins s σ H D I (w D σ H q)
theorem PSs.weak {X:Cx} {e:List Stmt} {t t':TS} (h:PSs X e t) (w:∀ D σ H,t' D σ H->t D σ H):PSs X e t':=fun pins s σ H D I q=>h pins s σ H D I (w D σ H q)
theorem pI.back {G:Gx} {Φ Φ1:Fps} {η η1:VS.Env} {H H1:Hp} {D:Ends} (f:Frm Φ η H Φ1 η1 H1):∀ {o:Out},pI G Φ η H D o->pI G Φ1 η1 H1 D o
 | .nx η',h=>fun Φ' σ' H' s g=>h Φ' σ' H' s (f.trans g)
 | .bk η',h=>fun Φ' σ' H' s g=>h Φ' σ' H' s (f.trans g)
 | .ct η',h=>fun Φ' σ' H' s g=>h Φ' σ' H' s (f.trans g)
 | .rt v η',h=>fun u H' F Φ' σ' s g r q=>h u H' F Φ' σ' s (f.trans g) r (q.back f)
section
variable {G:Gx} {X:Cx} {st:Stmt} {sts:List Stmt} {c c1 c2:Sx} {pos:Pos} {e:Expr} {ce:Ex}
theorem vZ:eO G X [] gc:=PSs.weak wC fun D σ H ⟨Φ,η,o,s,e,k⟩=>by
 cases (show some (Out.nx η)=some o from e)
 exact k Φ σ H s (Frm.refl _ _ _)
theorem u0 (h1:PSV G X st c1) (h2:eO G X sts c2):eO G X (st :: sts) (av c1 c2):=PSs.weak (sJ h1 h2) fun D σ H ⟨Φ,η,o,s,e,k⟩=>by
 unfold av at e
 obtain ⟨o1,e1,e2⟩:=Option.bind_eq_some_iff.mp e
 refine ⟨Φ,η,o1,s,e1,?_⟩
 cases o1 with
 | nx η1=>exact fun Φ' σ' H' s' f=>⟨Φ',η1,o,s',e2,k.back f⟩
 | rt v η1=>cases e2;exact k
 | bk η1=>cases e2;exact k
 | ct η1=>cases e2;exact k
theorem vx (h1:PSV G X st c1):eO G X [st] c1:=xj h1
theorem yj {t:Expr} {ct:Ex} {a b:List Stmt} (hc:PVT G X t ct) (ha:eO G X a c1) (hb:eO G X b c2):PSV G X (.If t a b pos) (sIf ct c1 c2):=PS.weak (BA hc ha hb) fun D σ H ⟨Φ,η,o,s,e,k⟩=>by
 unfold sIf at e
 obtain ⟨⟨m,x⟩,ec,e1⟩:=Option.bind_eq_some_iff.mp e
 obtain ⟨b',eb,e2⟩:=Option.bind_eq_some_iff.mp e1
 refine ⟨Φ,η,m,x,b',s,ec,eb,fun H' e3=>?_⟩
 cases b' with
 | true =>
   rw [if_pos rfl] at e2
   exact zw ⟨Φ,η,o,s.same e3,e2,k.back (Frm.same e3)⟩
 | false =>
   rw [if_neg Bool.false_ne_true] at e2
   exact yT ⟨Φ,η,o,s.same e3,e2,k.back (Frm.same e3)⟩
theorem Fp.ret {Φ:Fps} {η:VS.Env} {H:Hp} {F:List Addr}:∀ {m:Md},Fp Φ η H m F->nG Φ η H (match m with | .bo=>.pu | m=>m) F
 | .fr,f=>⟨f.1,fun a ha=>.inl (f.2 a ha)⟩
 | .pu,f=>fun a ha=>(f a ha).elim .inl fun z=>.inr (.inl z)
 | .bo,f=>f
theorem vK (he:PV G X e ce):PSV G X (.Return (some e) pos) (cW ce):=PS.weak (ou he) fun D σ H ⟨Φ,η,o,s,e,k⟩=>by
 unfold cW at e
 obtain ⟨⟨m,x⟩,ec,e1⟩:=Option.bind_eq_some_iff.mp e
 cases e1
 exact ⟨Φ,η,m,x,s,ec,fun v H' F e1 r1 f1=>k v H' F Φ σ (s.same e1) (Frm.same e1) r1 f1.ret⟩
theorem bP {η:VS.Env} {i j:Nat} {c:Cell} (h:(η.set i none)[j]?=some (some c)):j ≠ i/\η[j]?=some (some c):=by
 rw [List.getElem?_set] at h
 split at h
 · split at h <;> cases h
 · rename_i n
   exact ⟨fun z=>n z.symm,h⟩
theorem SR.drop {Φ:Fps} {η:VS.Env} {σ:L2.St} {H:Hp} (s:SR G Φ η σ H) (i:Nat):SR G Φ (η.set i none) σ H :=
 ⟨by rw [List.length_set];exact s.len,fun j c h=>s.rp j c (bP h).2,fun j t h=>s.nd j t (bP h).2,fun j k t c h1 h2 n=>s.sep j k t c (bP h1).2 (bP h2).2 n⟩
theorem Frm.drop {Φ:Fps} {η:VS.Env} {H:Hp} (i:Nat):Frm Φ η H Φ (η.set i Option.none) H :=
 ⟨fun a o h n=>⟨h,fun ⟨j,t,h1,h2⟩=>n ⟨j,t,(bP h1).2,h2⟩⟩,fun _ h=>h,fun a ⟨j,t,h1,h2⟩=>.inl ⟨j,t,(bP h1).2,h2⟩,fun a ⟨j,t,h1,h2⟩=>.inl ⟨j,t,(bP h1).2,h2⟩,Kept.refl H⟩
theorem tJ (i:Nat) {x:Str} {p:Pos} (hN:X.N[i]?=some x:=by rfl) (hv:Vis X.env.scope x:=by first | exact Or.inl rfl | exact Or.inr (Or.inl rfl) | exact Or.inr (Or.inr rfl)) (hd:(x == ("__debug__" : Str))=false:=by decide)
   (hcd:(x == ("__classdict__" : Str))=false:=by decide):PSV G X (.Return (some (.Name x p)) pos) (jz i):=PS.weak (ou (eG hN hv hd hcd)) fun D σ H ⟨Φ,η,o,s,e,k⟩=>by
 unfold jz at e
 split at e
 · rename_i t h
   obtain ⟨v,h1,h2⟩:=s.rp _ _ h
   cases e
   exact ⟨v,h1,k v H (Φ i) Φ σ (s.drop i) (Frm.drop i) h2 ⟨s.nd i t h,fun a ha=>.inr ⟨i,t,h,ha⟩⟩⟩
 · rename_i t h
   obtain ⟨v,h1,h2⟩:=s.rp _ _ h
   cases e
   refine ⟨v,h1,k v H (Φ i) Φ σ s (Frm.refl _ _ _) h2 ?_⟩
   have f:Fp Φ η H .pu (Φ i):=fun a ha=>.inr ⟨i,t,h,ha⟩
   have f2:=(f.up h2).ret
   have:(match (VS.up .pu (iq (.pu t))).1 with | .bo=>Md.pu | m=>m)=(VS.up .pu t).1:=by
     show (match (VS.up .pu t).1 with | .bo=>Md.pu | m=>m)=_
     unfold VS.up
     split <;> (rename_i q;revert q;split <;> simp)
   rw [this] at f2
   exact f2
 · cases e
noncomputable def gW (Φ:Fps) (i:Nat) (F:List Addr):Fps:=fun j=>if j=i then F else Φ j
theorem eV {Φ:Fps} {i:Nat} {F:List Addr}:gW Φ i F i=F:=if_pos rfl
theorem eX {Φ:Fps} {i j:Nat} {F:List Addr} (h:j ≠ i):gW Φ i F j=Φ j:=if_neg h
theorem fO {η:VS.Env} {i j:Nat} {c c':Cell} (h:(η.set i (some c))[j]?=some (some c')):(j=i/\c'=c)\/(j ≠ i/\η[j]?=some (some c')):=by
 rw [List.getElem?_set] at h
 split at h
 · rename_i e
   split at h
   · exact .inl ⟨e.symm,(Option.some.inj (Option.some.inj h)).symm⟩
   · cases h
 · rename_i n
   exact .inr ⟨fun z=>n z.symm,h⟩
theorem SR.put {Φ:Fps} {η:VS.Env} {σ:L2.St} {H H':Hp} {i:Nat} {v:V} {c:Cell} {F:List Addr} (s:SR G Φ η σ H) (hi:i < η.length) (r:Rp G H' v (iq c) F)
   (hk:∀ j c',j ≠ i->η[j]?=some (some c')->∀ w,Rp G H w (iq c') (Φ j)->Rp G H' w (iq c') (Φ j))
   (hnd:∀ t,c=.ow t->F.Nodup) (hown:∀ t,c=.ow t->∀ j c',j ≠ i->η[j]?=some (some c')->∀ a∈F,a ∉ Φ j) (hpu:∀ j t,j ≠ i->η[j]?=some (some (.ow t))->∀ a∈Φ j,a ∉ F) :
   SR G (gW Φ i F) (η.set i (some c)) (σ.set i (some v)) H' where
 len:=by rw [List.length_set,List.length_set];exact s.len
 rp:=fun j c' h=>by
   rcases fO h with ⟨rfl,rfl⟩ | ⟨n,h⟩
   · exact ⟨v,by rw [List.getElem?_set_self (by rw [← s.len];exact hi)],by rw [eV];exact r⟩
   · obtain ⟨w,h1,h2⟩:=s.rp j c' h
     exact ⟨w,by rw [List.getElem?_set_ne (Ne.symm n)];exact h1,by rw [eX n];exact hk j c' n h w h2⟩
 nd:=fun j t h=>by
   rcases fO h with ⟨rfl,e⟩ | ⟨n,h⟩
   · rw [eV];exact hnd t e.symm
   · rw [eX n];exact s.nd j t h
 sep:=fun j k t c' h1 h2 n=>by
   rcases fO h1 with ⟨rfl,e⟩ | ⟨n1,g1⟩
   · rcases fO h2 with ⟨rfl,e2⟩ | ⟨n2,g2⟩
     · exact absurd rfl n
     · rw [eV,eX n2]
       exact hown t e.symm k c' n2 g2
   · rcases fO h2 with ⟨rfl,e2⟩ | ⟨n2,g2⟩
     · rw [eV,eX n1]
       exact hpu j t n1 g1
     · rw [eX n1,eX n2]
       exact s.sep j k t c' g1 g2 n
theorem jX {Φ:Fps} {η:VS.Env} {i:Nat} {c:Cell} {F:List Addr} {a:Addr} (h:bN (gW Φ i F) (η.set i (some c)) a):(∃ t,c=.ow t/\a∈F)\/bN Φ η a:=by
 obtain ⟨j,t,h1,h2⟩:=h
 rcases fO h1 with ⟨rfl,e⟩ | ⟨n,h1⟩
 · rw [eV] at h2;exact .inl ⟨t,e.symm,h2⟩
 · rw [eX n] at h2;exact .inr ⟨j,t,h1,h2⟩
theorem oJ {Φ:Fps} {η:VS.Env} {i:Nat} {c:Cell} {F:List Addr} {a:Addr} (h:cZ (gW Φ i F) (η.set i (some c)) a):(∃ t,c=.pu t/\a∈F)\/cZ Φ η a:=by
 obtain ⟨j,t,h1,h2⟩:=h
 rcases fO h1 with ⟨rfl,e⟩ | ⟨n,h1⟩
 · rw [eV] at h2;exact .inl ⟨t,e.symm,h2⟩
 · rw [eX n] at h2;exact .inr ⟨j,t,h1,h2⟩
theorem SR.ow_pu {Φ:Fps} {η:VS.Env} {σ:L2.St} {H:Hp} (s:SR G Φ η σ H) {a:Addr} (h:bN Φ η a) (h':cZ Φ η a):False:=by
 obtain ⟨j,t,h1,h2⟩:=h
 obtain ⟨k,u,g1,g2⟩:=h'
 have n:j ≠ k:=fun e=>by subst e;rw [h1] at g1;cases g1
 exact s.sep j k t _ h1 g1 n a h2 g2
theorem SR.val {Φ:Fps} {η:VS.Env} {σ:L2.St} {H H':Hp} {i:Nat} {v:V} {t:T} {m:Md} {F:List Addr} {c:Cell} (s:SR G Φ η σ H) (hi:i < η.length) (e:aQ H H') (r:Rp G H' v t F) (f:Fp Φ η H m F)
   (hc:(c=.pu t/\m ≠ .bo)\/(c=.ow t/\m=.fr)):SR G (gW Φ i F) (η.set i (some c)) (σ.set i (some v)) H'/\Frm Φ η H (gW Φ i F) (η.set i (some c)) H':=by
 have dom:∀ {a},H a=none->∀ j c',η[j]?=some (some c')->a ∉ Φ j:=fun {a} h j c' hj ha=>by
   obtain ⟨w,_,q⟩:=s.rp j c' hj
   exact Mut.ne_none (q.dom a ha) h
 have ct:iq c=t:=by rcases hc with ⟨rfl,_⟩ | ⟨rfl,_⟩ <;> rfl
 have fpu:∀ a∈F,H a=none\/cZ Φ η a:=fun a ha=>by
   rcases hc with ⟨_,n⟩ | ⟨_,n⟩
   · exact f.pu n a ha
   · rw [n] at f;exact .inl (f.2 a ha)
 constructor
 · refine s.put hi (by rw [ct];exact r) (fun j c' n hj w q=>q.same e) (fun u hu=>?_) (fun u hu j c' n hj a ha=>?_) fun j u n hj a ha hF=>?_
   · rcases hc with ⟨h,_⟩ | ⟨_,h⟩
     · rw [h] at hu;cases hu
     · rw [h] at f;exact f.1
   · rcases hc with ⟨h,_⟩ | ⟨_,h⟩
     · rw [h] at hu;cases hu
     · rw [h] at f;exact dom (f.2 a ha) j c' hj
   · rcases fpu a hF with z | z
     · exact dom z j _ hj ha
     · exact s.ow_pu ⟨j,u,hj,ha⟩ z
 · refine ⟨fun a o h n=>⟨e a o h,fun z=>?_⟩,fun a h z=>h (e.free z),fun a h=>?_,fun a h=>?_,Kept.of e⟩
   · rcases jX z with ⟨u,hu,ha⟩ | z
     · rcases hc with ⟨h',_⟩ | ⟨_,h'⟩
       · rw [h'] at hu;cases hu
       · rw [h'] at f
         rw [f.2 a ha] at h;cases h
     · exact n z
   · rcases jX h with ⟨u,hu,ha⟩ | z
     · rcases hc with ⟨h',_⟩ | ⟨_,h'⟩
       · rw [h'] at hu;cases hu
       · rw [h'] at f
         exact .inr (f.2 a ha)
     · exact .inl z
   · rcases oJ h with ⟨u,hu,ha⟩ | z
     · exact (fpu a ha).elim (fun z=>.inr (.inr z)) .inl
     · exact .inl z
theorem wU {i:Nat} {x:Str} {pos':Pos} (he:PV G X e ce) (hN:X.N.Nodup) (hi:X.N[i]?=some x:=by rfl) (hx:Loc X.env.scope x:=by first | exact Or.inl rfl | exact Or.inr rfl)
   (hs:swapsWith e (some (.Name x pos')) pos.line X.env=pure false:=by rfl) (hf:X.fn x=true\/X.env.scope.names.lookup x=some .local:=by first | exact .inl rfl | exact .inr rfl) :
   PSV G X (.Assign [.Name x pos'] e pos) (j9 i ce):=PS.weak (sC hN hi hx he hs hf) fun D σ H ⟨Φ,η,o,s,e,k⟩=>by
 unfold j9 at e
 obtain ⟨⟨m,t⟩,ec,e1⟩:=Option.bind_eq_some_iff.mp e
 obtain ⟨c,eC,e2⟩:=Option.bind_eq_some_iff.mp e1
 split at e2
 · rename_i hl
   cases e2
   refine ⟨Φ,η,m,t,s,ec,fun v H' F e3 r3 f3=>?_⟩
   obtain ⟨q1,q2⟩:=s.val (c:=c) hl e3 r3 f3 (by
     unfold cellOf at eC
     cases m with
     | fr =>
       simp only [Option.some.injEq] at eC
       split at eC
       · exact .inr ⟨eC.symm,rfl⟩
       · exact .inl ⟨eC.symm,by decide⟩
     | pu=>cases eC;exact .inl ⟨rfl,by decide⟩
     | bo=>cases eC)
   exact k _ _ H' q1 q2
 · cases e2
theorem ug {i:Nat} {x:Str} {pos':Pos} (he:PV G X e ce) (hN:X.N.Nodup) (hi:X.N[i]?=some x:=by rfl) (hx:Loc X.env.scope x:=by first | exact Or.inl rfl | exact Or.inr rfl)
   (hs:swapsWith e (some (.Name x pos')) pos.line X.env=pure false:=by rfl) (hf:X.fn x=true\/X.env.scope.names.lookup x=some .local:=by first | exact .inl rfl | exact .inr rfl) :
   PSV G X (.Assign [.Name x pos'] e pos) (aK i ce):=PS.weak (sC hN hi hx he hs hf) fun D σ H ⟨Φ,η,o,s,e,k⟩=>by
 unfold aK at e
 obtain ⟨⟨m,t⟩,ec,e1⟩:=Option.bind_eq_some_iff.mp e
 split at e1
 · cases e1
 · rename_i hm
   split at e1
   · rename_i hl
     cases e1
     refine ⟨Φ,η,m,t,s,ec,fun v H' F e3 r3 f3=>?_⟩
     obtain ⟨q1,q2⟩:=s.val (c:=.pu t) hl e3 r3 f3 (.inl ⟨rfl,hm⟩)
     exact k _ _ H' q1 q2
   · cases e1
theorem SR.frz {Φ:Fps} {η:VS.Env} {σ:L2.St} {H:Hp} {i:Nat} {t:T} (s:SR G Φ η σ H) (h:η[i]?=some (some (.ow t))):SR G Φ (η.set i (some (.pu t))) σ H/\Frm Φ η H Φ (η.set i (some (.pu t))) H:=by
 have back:∀ {j c},(η.set i (some (.pu t)))[j]?=some (some c)->∃ c',η[j]?=some (some c')/\iq c'=iq c/\∀ u,c=.ow u->c'=.ow u:=fun {j c} hj=>by
   rcases fO hj with ⟨rfl,rfl⟩ | ⟨n,hj⟩
   · exact ⟨.ow t,h,rfl,fun u hu=>nomatch hu⟩
   · exact ⟨c,hj,rfl,fun u hu=>hu⟩
 refine ⟨⟨by rw [List.length_set];exact s.len,fun j c hj=>?_,fun j u hj=>?_,fun j k u c h1 h2 n=>?_⟩,⟨fun a o ha n=>⟨ha,fun ⟨j,u,h1,h2⟩=>?_⟩,fun _ h=>h,fun a ⟨j,u,h1,h2⟩=>?_,fun a ⟨j,u,h1,h2⟩=>?_,Kept.refl H⟩⟩
 · obtain ⟨c',h1,h2,_⟩:=back hj
   obtain ⟨v,g1,g2⟩:=s.rp j c' h1
   exact ⟨v,g1,by rw [← h2];exact g2⟩
 · obtain ⟨c',h1,_,h3⟩:=back hj
   rw [h3 u rfl] at h1
   exact s.nd j u h1
 · obtain ⟨c1,g1,_,g3⟩:=back h1
   obtain ⟨c2,k1,_,_⟩:=back h2
   rw [g3 u rfl] at g1
   exact s.sep j k u c2 g1 k1 n
 · obtain ⟨c1,g1,_,g3⟩:=back h1
   rw [g3 u rfl] at g1
   exact n ⟨j,u,g1,h2⟩
 · obtain ⟨c1,g1,_,g3⟩:=back h1
   rw [g3 u rfl] at g1
   exact .inl ⟨j,u,g1,h2⟩
 · rcases fO h1 with ⟨rfl,_⟩ | ⟨n,h1⟩
   · exact .inr (.inl ⟨j,t,h,h2⟩)
   · exact .inl ⟨j,u,h1,h2⟩
theorem vb (i:Nat) (h:eO G X sts c):eO G X sts (av (p7 i) c):=PSs.weak h fun D σ H ⟨Φ,η,o,s,e,k⟩=>by
 unfold av at e
 obtain ⟨o1,e1,e2⟩:=Option.bind_eq_some_iff.mp e
 unfold p7 at e1
 split at e1
 · rename_i t ht
   cases e1
   obtain ⟨q1,q2⟩:=s.frz ht
   exact ⟨Φ,_,o,q1,e2,k.back q2⟩
 · cases e1
   exact ⟨Φ,η,o,s,e2,k⟩
 · cases e1
end
end VS
end
section
namespace VS
open PySem PySem.Spec PyProof.Rows L2
section
variable {G:Gx} {X:Cx} {st:Stmt} {sts:List Stmt} {c c1 c2:Sx} {pos:Pos} {e:Expr} {es:List Expr} {ce:Ex} {cs:Exs}
structure Chg (G:Gx) (H:Hp) (v:V) (F:List Addr) (t':T) (H2:Hp) (F':List Addr):Prop where
 kept:Kept H H2
 keep:∀ b o,b ∉ F->H b=some o->H2 b=some o
 dom:∀ b,H b ≠ none->H2 b ≠ none
 rp:Rp G H2 v t' F'
 nd:F'.Nodup
 sub:∀ a∈F',a∈F\/H a=none
theorem SR.mut {Φ:Fps} {η:VS.Env} {σ:L2.St} {H H2:Hp} {i:Nat} {v:V} {t t':T} {F':List Addr} (s:SR G Φ η σ H) (hi:η[i]?=some (some (.ow t))) (hv:σ[i]?=some (some v)) (g:Chg G H v (Φ i) t' H2 F') :
   SR G (gW Φ i F') (η.set i (some (.ow t'))) σ H2/\Frm Φ η H (gW Φ i F') (η.set i (some (.ow t'))) H2:=by
 have hl:i < η.length:=(List.getElem?_eq_some_iff.mp hi).1
 have off:∀ j c',j ≠ i->η[j]?=some (some c')->∀ a∈Φ j,a ∉ Φ i:=fun j c' n hj a ha ha'=>s.sep i j t c' hi hj (Ne.symm n) a ha' ha
 have es:σ.set i (some v)=σ:=by
   obtain ⟨h,e⟩:=List.getElem?_eq_some_iff.mp hv
   rw [← e]
   exact List.set_getElem_self h
 have new:∀ a∈F',∀ j c',j ≠ i->η[j]?=some (some c')->a ∉ Φ j:=fun a ha j c' n hj ha'=>by
   rcases g.sub a ha with z | z
   · exact off j c' n hj a ha' z
   · obtain ⟨w,_,q⟩:=s.rp j c' hj
     exact Mut.ne_none (q.dom a ha') z
 constructor
 · have:=s.put (c:=.ow t') (F:=F') (H':=H2) (v:=v) hl g.rp (fun j c' n hj w q=>q.keep g.kept fun a ha o ho=>g.keep a o (off j c' n hj a ha) ho) (fun _ _=>g.nd) (fun u hu j c' n hj a ha=>new a ha j c' n hj) fun j u n hj a ha ha'=>new a ha' j _ n hj ha
   rw [es] at this
   exact this
 · refine ⟨fun a o h n=>⟨g.keep a o (fun z=>n ⟨i,t,hi,z⟩) h,fun z=>?_⟩,g.dom,fun a h=>?_,fun a h=>?_,g.kept⟩
   · rcases jX z with ⟨u,_,ha⟩ | z
     · rcases g.sub a ha with z | z
       · exact n ⟨i,t,hi,z⟩
       · rw [z] at h;cases h
     · exact n z
   · rcases jX h with ⟨u,_,ha⟩ | z
     · rcases g.sub a ha with z | z
       · exact .inl ⟨i,t,hi,z⟩
       · exact .inr z
     · exact .inl z
   · rcases oJ h with ⟨u,hu,ha⟩ | z
     · cases hu
     · exact .inl z
noncomputable def xB (G:Gx) (r:V->List V->Hp->VK->Prop) (f:T->List Val->Option (T×Val)):Prop:=∀ (Φ:Fps) (η:VS.Env) (H H1:Hp) (v:V) (t t':T) (F:List Addr) (l:List Val) (vs:List V) (Fs:List (List Addr)) (x:Val) (Q:VK),
 Rp G H v t F->F.Nodup->Args G Φ η H H1 l vs Fs->f t l=some (t',x)->(∀ u H2 F',Chg G H v F t' H2 F'->Q u H2)->r v vs H1 Q
theorem sA {T' id:String} {name x:Str} {r:V->List V->Hp->VK->Prop} {f:T->List Val->Option (T×Val)} {apos cpos p1:Pos} (i:Nat) (pa:PlainAttrs T') (slot:Slot T' name id) (hty:typeOf (.builtin id)=pure (.type "method_descriptor")) (hm:MtR X id r) (ok:xB G r f)
   (hT:∀ H v t F l z,Rp G H v t F->f t l=some z->tyV G.K T' v H) (ha:PVs G X (e :: es) cs) (hK:X.K=G.K:=by rfl)
   (hN:X.N[i]?=some x:=by rfl) (hv:Vis X.env.scope x:=by first | exact Or.inl rfl | exact Or.inr (Or.inl rfl) | exact Or.inr (Or.inr rfl)) (hd:(x == ("__debug__" : Str))=false:=by decide)
   (hcd:(x == ("__classdict__" : Str))=false:=by decide)
   (hbase:attributeBase (.Name x p1) name X.env (eval (.Name x p1) X.env)=eval (.Name x p1) X.env:=by rfl)
   (hfew:((backTo cpos (starEach (e :: es) X.env)).all (fun x=>!x.1) && (backToKw cpos (keywordEach [] X.env)).all (fun x=>x.1.isSome)
     && decide ((e :: es).length+([]:List Keyword).length+(if ([]:List Keyword).isEmpty then 0 else 1) < 30))=true:=by rfl)
   (hline:(apos.endLine == cpos.line)=true:=by rfl) (hs:starEach (e :: es) X.env=(false,eval e X.env) :: starEach es X.env:=by rfl) (hplain:(backTo cpos (starEach es X.env)).any (·.1)=false:=by rfl)
   (hsw:swapsWith (.Call (.Attribute (.Name x p1) name apos) (e :: es) [] cpos) none pos.line X.env=pure false:=by rfl) :
   PSV G X (.Expr (.Call (.Attribute (.Name x p1) name apos) (e :: es) [] cpos) pos) (sX (j7 i [] f cs)) :=
 PS.weak (lA (pV pa slot hty hm (eG hN hv hd hcd) ha hbase hfew hline hs hplain) hsw) fun D σ H ⟨Φ,η,o,s,e,k⟩=>by
   unfold sX j7 at e
   obtain ⟨⟨x',η'⟩,e1,e2⟩:=Option.map_eq_some_iff.mp e
   split at e1
   · rename_i t ht
     obtain ⟨ks,ek,e3⟩:=Option.bind_eq_some_iff.mp e1
     cases (show some ([]:List Ky)=some ks from ek)
     obtain ⟨l,el,e4⟩:=Option.bind_eq_some_iff.mp e3
     obtain ⟨⟨t',x2⟩,e5,e6⟩:=Option.map_eq_some_iff.mp e4
     cases e6
     cases e2
     obtain ⟨v,h1,h2⟩:=s.rp _ _ ht
     have e7:f t l=some (t',x'):=e5
     refine ⟨v,h1,by rw [hK];exact hT H v t _ l _ h2 e7,Φ,η,l,s,el,fun vs H' Fs q1 q2 q3=>?_⟩
     refine ok Φ η H H' v t t' (Φ i) l vs Fs x' _ h2 (s.nd i t ht) ⟨q1,q2,q3⟩ e7 fun u H2 F' g=>?_
     obtain ⟨w1,w2⟩:=s.mut ht h1 g
     exact k _ σ H2 w1 w2
   · cases e1
theorem Chg.upd {H H1:Hp} {v:V} {F:List Addr} {a:Addr} {o:HO} {t':T} {F':List Addr} (e:aQ H H1) (ha:a∈F) (hm:Mut (H1 a)) (r:Rp G (upd H1 a o) v t' F') (nd:F'.Nodup) (sub:∀ a∈F',a∈F\/H a=none):Chg G H v F t' (upd H1 a o) F' :=
 ⟨(Kept.of e).trans (Kept.upd (.inl hm)),fun b o' hb h=>by rw [au (fun z=>hb (by rw [z];exact ha))];exact e b o' h,
   fun b h z=>by
     by_cases q:b=a
     · subst q;rw [aE] at z;cases z
     · rw [au q] at z;exact h (e.free z),r,nd,sub⟩
theorem RpL.off {H:Hp} {vs:List V} {ts:List T} {Fs:List (List Addr)} {a:Addr} {o:HO} (r:RpL G H vs ts Fs) (hm:Mut (H a)) (h:a ∉ Fs.flatten):RpL G (upd H a o) vs ts Fs :=
 r.keep (Kept.upd (.inl hm)) fun b hb o' ho=>by rw [au (fun z=>h (by rw [← z];exact hb))];exact ho
theorem vj {v:Val} {t:T} (h:fit v=some t):v=(.fr,t):=by
 obtain ⟨m,x⟩:=v
 unfold fit at h
 cases m <;> first | (cases h;rfl) | cases h
theorem iY:xB G jf bg:=by
 intro Φ η H H1 v t t' F l vs Fs x Q r nd A e k
 unfold bg at e
 split at e
 · rename_i ts y
   obtain ⟨z,ez,e1⟩:=Option.bind_eq_some_iff.mp e
   have ey:=vj ez
   subst ey
   split at e1
   · rename_i hl
     cases e1
     obtain ⟨a,us,Gs,rfl,rfl,ha,ra⟩:=r.lst_inv
     obtain ⟨w,Fw,rfl,rfl,rw'⟩:=(show RpL G H1 vs [z] Fs from A.rp).one
     have fw:Fp Φ η H .fr Fw:=A.fp.each 0 _ _ rfl rfl
     have ha1:H1 a=some (.lst us):=A.same a _ ha
     have m1:Mut (H1 a):=by rw [ha1];exact True.intro
     have na:a ∉ Gs.flatten:=(List.nodup_cons.mp nd).1
     have nw:a ∉ Fw:=fun z=>by rw [fw.2 a z] at ha;cases ha
     refine ⟨a,us,w,rfl,rfl,ha1,by rw [ra.len.1];exact hl,k _ _ (a :: (Gs++[Fw]).flatten) ?_⟩
     have off:∀ b∈Gs.flatten,b ∉ Fw:=fun b hb hw=>Mut.ne_none (ra.dom b hb) (fw.2 b hw)
     refine Chg.upd A.same List.mem_cons_self m1 (.lst aE (((ra.same A.same).off m1 na).append (.cons (rw'.keep (Kept.upd (.inl m1)) fun b hb o ho=>by rw [au (fun z=>nw (by rw [← z];exact hb))];exact ho) .nil))) ?_ ?_
     · rw [List.flatten_append]
       refine List.nodup_cons.mpr ⟨fun m=>?_,List.nodup_append.mpr ⟨(List.nodup_cons.mp nd).2,by simpa using fw.1,fun b hb c hc z=>?_⟩⟩
       · rcases List.mem_append.mp m with m | m
         · exact na m
         · exact nw (by simpa using m)
       · subst z;exact off b hb (by simpa using hc)
     · intro b hb
       rcases List.mem_cons.mp hb with rfl | hb
       · exact .inl List.mem_cons_self
       · rw [List.flatten_append] at hb
         rcases List.mem_append.mp hb with hb | hb
         · exact .inl (List.mem_cons_of_mem _ hb)
         · exact .inr (fw.2 b (by simpa using hb))
   · cases e1
 · cases e
theorem r6 {H:Hp} {v:V} {ts:List T} {F:List Addr} (r:Rp G H v (.lst ts) F):tyV G.K "list" v H:=by
 obtain ⟨a,us,Gs,rfl,rfl,ha,ra⟩:=r.lst_inv
 exact .inl ⟨rfl,_,SqL.of ha⟩
theorem gy {H:Hp} {v:V} {t:T} {F:List Addr} {l:List Val} {z:T×Val} (r:Rp G H v t F) (h:bg t l=some z):tyV G.K "list" v H:=by
 unfold bg at h
 split at h
 · exact r6 r
 · cases h
end
end VS
end
section
namespace VS
open PySem PySem.Spec PyProof.Rows L2
structure ItOk (G:Gx) (J:It) (l:List T) (C:List Addr) (H:Hp):Prop where
 run:∀ H2,Kept H H2->(∀ a∈C,∀ o,H a=some o->H2 a=some o) →
   (∀ (i:Nat) (t:T),l[i]?=some t->J.go i H2/\∀ x H3,J.yld i H2 x H3->aQ H2 H3/\∃ F,Rp G H3 x t F/\∀ a∈F,a∈C\/H2 a=none)/\∀ (i:Nat),l.length<=i->J.stop i H2
 dom:∀ a∈C,H a ≠ none
noncomputable def FpC (Φ:Fps) (η:VS.Env) (H:Hp) (m:Md) (C:List Addr):Prop:=∀ a∈C,H a=none\/cZ Φ η a\/(m=.bo/\bN Φ η a)
theorem Fp.c {Φ:Fps} {η:VS.Env} {H:Hp} {F:List Addr}:∀ {m:Md},Fp Φ η H m F->FpC Φ η H m F
 | .fr,f=>fun a ha=>.inl (f.2 a ha)
 | .pu,f=>fun a ha=>(f a ha).imp id .inl
 | .bo,f=>fun a ha=>(f a ha).imp id fun z=>z.imp id fun z=>⟨rfl,z⟩
noncomputable def tI (G:Gx) (c:Its):TI:=fun σ H R=>∃ Φ η m l,SR G Φ η σ H/\c η=some (m,l)/\∀ J H' C,aQ H H'->ItOk G J l C H'->FpC Φ η H m C->R J H'
noncomputable def PVI (G:Gx) (X:Cx) (tg iter:Expr) (c:Its):Prop:=PI X tg iter (tI G c)
theorem PI.weak {X:Cx} {tg e:Expr} {t t':TI} (h:PI X tg e t) (w:∀ σ H Q,t' σ H Q->t σ H Q):PI X tg e t':=fun pins s σ H Q I q=>h pins s σ H Q I (w σ H Q q)
section
variable {G:Gx} {X:Cx} {tg e a b:Expr} {es:List Expr} {ca cb:Ex} {cs:Exs} {pos p:Pos}
theorem r9 (H:Hp) (lo:Int) (n:Nat):ItOk G (Itr lo n) (rng lo n) [] H:=by
 refine ⟨fun H2 _ _=>⟨fun i t h=>?_,fun i h=>(by simpa [rng] using h:n<=i)⟩,fun a h=>by simp at h⟩
 unfold rng at h
 rw [List.getElem?_map] at h
 obtain ⟨k,hk,e⟩:=Option.map_eq_some_iff.mp h
 obtain ⟨hlt,e2⟩:=List.getElem?_eq_some_iff.mp hk
 rw [List.length_range] at hlt
 have ek:i=k:=by simpa using e2
 subst ek
 refine ⟨hlt,fun x H3 ⟨e3,e4⟩=>?_⟩
 subst e3
 subst e4
 rw [← e]
 exact ⟨aQ.refl _,[],.int _,fun a h=>by simp at h⟩
theorem ox (ha:PV G X a ca) (hg:Gl X "range") (hm:X.mg "range" = none) (hs:starEach [a] X.env=(false,eval a X.env) :: starEach [] X.env:=by rfl) (hs':starEach [a] X.env=[(false,eval a X.env)]:=by rfl):PVI G X tg (.Call (.Name "range" p) [a] [] pos) (bJ ca) :=
 PI.weak (p5 hg hm (d7 ha fC hs) hs') fun σ H R ⟨Φ,η,m,l,s,e,k⟩=>by
   unfold bJ at e
   obtain ⟨⟨mx,x⟩,ea,e1⟩:=Option.bind_eq_some_iff.mp e
   obtain ⟨j,ej,e2⟩:=Option.bind_eq_some_iff.mp e1
   split at e2
   · rename_i hj
     cases e2
     refine ⟨Φ,η,mx,x,s,ea,fun v H' F e3 r3 f3=>?_⟩
     cases x with
     | int j' =>
       cases ej
       refine ⟨j,by rw [r3.int_inv],?_,?_,k _ H' [] e3 (r9 H' 0 j.toNat) fun a h=>by simp at h⟩
       · have:=hj.1;unfold B62 at this;lia
       · have:=hj.2;unfold B62 at this;lia
     | _=>cases ej
   · cases e2
theorem eA {Fs:List (List Addr)} {i:Nat} {F:List Addr} (h:Fs[i]?=some F) {a:Addr} (ha:a∈F):a∈Fs.flatten:=(fi h).subset ha
theorem u7 {H:Hp} {a:Addr} {vs:List V} {ts:List T} {Fs:List (List Addr)} (K:PySem.W.Frag) (ha:H a=some (.lst vs)) (r:RpL G H vs ts Fs):ItOk G (Itl K a) ts (a :: Fs.flatten) H:=by
 refine ⟨fun H2 k c=>?_,fun b hb=>?_⟩
 · have ha2:H2 a=some (.lst vs):=c a List.mem_cons_self _ ha
   have r2:RpL G H2 vs ts Fs:=r.keep k fun b hb o ho=>c b (List.mem_cons_of_mem _ hb) o ho
   refine ⟨fun i t h=>?_,fun i h=>⟨vs,SqL.of ha2,by rw [r.len.1];exact h⟩⟩
   obtain ⟨v,F,h1,h2,h3⟩:=r2.get i h
   refine ⟨⟨vs,v,SqL.of ha2,h1⟩,fun x H3 ⟨e1,e2⟩=>?_⟩
   subst e1
   have ex:=e2 vs (SqL.of ha2)
   rw [h1] at ex
   cases ex
   exact ⟨aQ.refl _,F,h3,fun b hb=>.inl (List.mem_cons_of_mem _ (eA h2 hb))⟩
 · rcases List.mem_cons.mp hb with rfl | hb
   · rw [ha];exact fun z=>nomatch z
   · exact Mut.ne_none (r.dom b hb)
theorem yq {H:Hp} {a:Addr} {vs:List V} {ts:List T} {Fs:List (List Addr)} (K:PySem.W.Frag) (ha:H a=some (.tup vs)) (r:RpL G H vs ts Fs):ItOk G (Itt K a) ts Fs.flatten H:=by
 refine ⟨fun H2 k c=>?_,fun b hb=>Mut.ne_none (r.dom b hb)⟩
 have ha2:H2 a=some (.tup vs):=k.tup a _ ha
 have r2:RpL G H2 vs ts Fs:=r.keep k fun b hb o ho=>c b hb o ho
 refine ⟨fun i t h=>?_,fun i h=>⟨vs,SqT.of ha2,by rw [r.len.1];exact h⟩⟩
 obtain ⟨v,F,h1,h2,h3⟩:=r2.get i h
 refine ⟨⟨vs,v,SqT.of ha2,h1⟩,fun x H3 ⟨e1,e2⟩=>?_⟩
 subst e1
 have ex:=e2 vs (SqT.of ha2)
 rw [h1] at ex
 cases ex
 exact ⟨aQ.refl _,F,h3,fun b hb=>.inl (eA h2 hb)⟩
noncomputable def tG (G:Gx) (g:Tg):TG:=fun v σ H Q=>∃ Φ η t F η',SR G Φ η σ H/\Rp G H v t F/\(∀ a∈F,¬ bN Φ η a)/\g t η=some η' ∧
 ∀ Φ' σ',SR G Φ' η' σ' H->(∀ a,bN Φ' η' a->bN Φ η a)->(∀ a,cZ Φ' η' a->cZ Φ η a\/a∈F)->Q σ' H
noncomputable def tGs (G:Gx) (gs:List Tg):TGs:=fun vs σ H Q=>∃ Φ η ts Fs η',SR G Φ η σ H/\RpL G H vs ts Fs/\(∀ a∈Fs.flatten,¬ bN Φ η a)/\mq gs ts η=some η' ∧
 ∀ Φ' σ',SR G Φ' η' σ' H->(∀ a,bN Φ' η' a->bN Φ η a)->(∀ a,cZ Φ' η' a->cZ Φ η a\/a∈Fs.flatten)->Q σ' H
noncomputable def PVG (G:Gx) (X:Cx) (e:Expr) (g:Tg):Prop:=PG X e (tG G g)
noncomputable def nC (G:Gx) (X:Cx) (e:List Expr) (g:List Tg):Prop:=PGs X e (tGs G g)
theorem PG.weak {X:Cx} {e:Expr} {t t':TG} (h:PG X e t) (w:∀ v σ H Q,t' v σ H Q->t v σ H Q):PG X e t':=fun pins s σ H v u Q I r q=>h pins s σ H v u Q I r (w v σ H Q q)
theorem PGs.weak {X:Cx} {e:List Expr} {t t':TGs} (h:PGs X e t) (w:∀ v σ H Q,t' v σ H Q->t v σ H Q):PGs X e t':=fun pins s σ H v u Q I r q=>h pins s σ H v u Q I r (w v σ H Q q)
theorem u4 (i:Nat) {x:Str} (hN:X.N.Nodup) (hi:X.N[i]?=some x:=by rfl) (hx:Loc X.env.scope x:=by first | exact Or.inl rfl | exact Or.inr rfl)
   (hf:X.fn x=true\/X.env.scope.names.lookup x=some .local:=by first | exact .inl rfl | exact .inr rfl):PVG G X (.Name x pos) (bw i):=PG.weak (lF hN hi hx hf) fun v σ H Q ⟨Φ,η,t,F,η',s,r,no,e,k⟩=>by
 unfold bw at e
 split at e
 · rename_i hl
   cases e
   refine k (gW Φ i F) (σ.set i (some v)) (s.put (c:=.pu t) hl r (fun j c' n hj w q=>q) (fun u hu=>nomatch hu) (fun u hu=>nomatch hu) fun j u n hj a ha ha'=>no a ha' ⟨j,u,hj,ha⟩) (fun a h=>?_) fun a h=>?_
   · rcases jX h with ⟨u,hu,_⟩ | z
     · cases hu
     · exact z
   · rcases oJ h with ⟨u,hu,ha⟩ | z
     · exact .inr ha
     · exact .inl z
 · cases e
theorem rM:nC G X [] []:=PGs.weak xn fun v σ H Q ⟨Φ,η,ts,Fs,η',s,r,no,e,k⟩=>by
 cases r with
 | nil =>
   cases (show some η=some η' from e)
   exact ⟨rfl,k Φ σ s (fun _ h=>h) fun _ h=>.inl h⟩
 | cons r q=>cases (show (none:Option VS.Env)=some η' from e)
theorem qC {g:Tg} {gs:List Tg} (h1:PVG G X e g) (h2:nC G X es gs) (hs:(assignEach (e :: es) X.env).map (·.2)=assign e X.env :: (assignEach es X.env).map (·.2):=by rfl):nC G X (e :: es) (g :: gs) :=
 PGs.weak (rZ h1 h2 hs) fun v σ H Q ⟨Φ,η,ts,Fs,η',s,r,no,e,k⟩=>by
   cases r with
   | nil=>cases (show (none:Option VS.Env)=some η' from e)
   | cons r q =>
     rename_i v' t' F' vs' ts' Fs'
     obtain ⟨η1,e1,e2⟩:=Option.bind_eq_some_iff.mp e
     refine ⟨_,_,rfl,Φ,η,_,_,η1,s,r,fun a ha=>no a (by rw [List.flatten_cons];exact List.mem_append_left _ ha),e1,fun Φ1 σ1 s1 o1 p1=>?_⟩
     refine ⟨Φ1,η1,_,_,η',s1,q,fun a ha z=>no a (by rw [List.flatten_cons];exact List.mem_append_right _ ha) (o1 a z),e2,fun Φ2 σ2 s2 o2 p2=>k Φ2 σ2 s2 (fun a h=>o1 a (o2 a h)) fun a h=>?_⟩
     rcases p2 a h with h | h
     · rcases p1 a h with h | h
       · exact .inl h
       · exact .inr (by rw [List.flatten_cons];exact List.mem_append_left _ h)
     · exact .inr (by rw [List.flatten_cons];exact List.mem_append_right _ h)
theorem mH:∀ {gs:List Tg} {ts:List T} {η η':VS.Env},mq gs ts η=some η'->ts.length=gs.length
 | [],[],_,_,_=>rfl
 | [],_ :: _,_,_,h=>by simp [mq] at h
 | _ :: _,[],_,_,h=>by simp [mq] at h
 | g :: gs,t :: ts,η,η',h=>by
   obtain ⟨η1,_,e2⟩:=Option.bind_eq_some_iff.mp (show (g t η).bind (fun η'=>mq gs ts η')=some η' from h)
   simp [mH e2]
theorem xk {gs:List Tg} {k:Nat} (hc:X.calm=true) (h:nC G X es gs) (hn:(assignEach es X.env).length=gs.length:=by rfl) (hst:(assignEach es X.env).findIdx? (·.1)=none:=by rfl) (hK:X.K=G.K:=by rfl):PVG G X (.Tuple es k pos) (jC gs) :=
 PG.weak (zo (n:=gs.length) hc h hn hst) fun v σ H Q ⟨Φ,η,t,F,η',s,r,no,e,q⟩=>by
   unfold jC at e
   split at e
   · rename_i l
     obtain ⟨a',vs,Fs,rfl,rfl,ha',ra⟩:=r.tup_inv
     exact ⟨a',vs,rfl,SqT.of ha',by rw [ra.len.1];exact mH e,Φ,η,l,Fs,η',s,ra,no,e,q⟩
   · cases e
theorem kD {tgt:Tg} {body:Sx} {l:List T} {η:VS.Env} {i:Nat} {t:T} (h:l[i]?=some t):l.drop i=t :: l.drop (i+1):=by
 obtain ⟨hi,e⟩:=List.getElem?_eq_some_iff.mp h
 rw [← e]
 exact List.drop_eq_getElem_cons hi
theorem vB {iter:Expr} {body:List Stmt} {ci:Its} {g:Tg} {cb:Sx} (hp:PassesOwn (model X.prog X.w) X.A X.env X.xe) (hc:X.calm=true) (hi:PVI G X tg iter ci) (hg:PVG G X tg g) (hb:eO G X body cb)
   (hs:∀ x,foldedSetIterable iter X.env x=pure x:=by intro _;rfl):PSV G X (.For tg iter body [] pos) (dW g ci cb):=PS.weak (yY hp hc hi hg hb hs) fun D σ H ⟨Φ,η,o,s,e,k⟩=>by
 unfold dW at e
 obtain ⟨⟨m,l⟩,el,e1⟩:=Option.bind_eq_some_iff.mp e
 dsimp only at e1
 split at e1
 · rename_i hm
   have hm':m ≠ .bo:=fun z=>by rw [z] at hm;cases hm
   refine ⟨Φ,η,m,l,s,el,fun J H' C e2 ok fc=>?_⟩
   have cno:∀ a∈C,¬ bN Φ η a:=fun a ha z=>by
     rcases fc a ha with q | q | q
     · exact Mut.ne_none (s.ow_dom z) q
     · exact s.ow_pu z q
     · exact hm' q.1
   refine ⟨fun i n σ2 H2=>n=l.length - i/\∃ Φ2 η2,SR G Φ2 η2 σ2 H2/\Frm Φ η H Φ2 η2 H2/\Kept H' H2/\(∀ a∈C,∀ o,H' a=some o->H2 a=some o/\¬ bN Φ2 η2 a)/\forL g cb (l.drop i) η2=some o,
     ⟨l.length - 0,rfl,Φ,η,s.same e2,Frm.same e2,Kept.refl _,fun a ha o' ho=>⟨ho,cno a ha⟩,by rw [List.drop_zero];exact e1⟩,?_⟩
   rintro i n σ2 H2 ⟨rfl,Φ2,η2,s2,f2,kp,con,e3⟩
   obtain ⟨go,stop⟩:=ok.run H2 kp fun a ha o' ho=>(con a ha o' ho).1
   cases hit:l[i]? with
   | none =>
     have hl:l.length<=i:=List.getElem?_eq_none_iff.mp hit
     left
     rw [List.drop_of_length_le hl] at e3
     cases (show some (Out.nx η2)=some o from e3)
     exact ⟨stop i hl,k Φ2 σ2 H2 s2 f2⟩
   | some t =>
     have hl:i < l.length:=(List.getElem?_eq_some_iff.mp hit).1
     right
     obtain ⟨g1,y1⟩:=go i t hit
     rw [kD (tgt:=g) (body:=cb) (η:=η2) hit] at e3
     obtain ⟨η3,e4,e5⟩:=Option.bind_eq_some_iff.mp (show (g t η2).bind (fun η1=>(cb η1).bind fun o=>match o with
       | .nx η2=>forL g cb (l.drop (i+1)) η2
       | .ct η2=>forL g cb (l.drop (i+1)) η2
       | .bk η2=>some (.nx η2)
       | .rt v η2=>some (.rt v η2))=some o from e3)
     obtain ⟨o',e6,e7⟩:=Option.bind_eq_some_iff.mp e5
     refine ⟨g1,fun σ4 H4=>∃ Φ4 η4,SR G Φ4 η4 σ4 H4/\Frm Φ η H Φ4 η4 H4/\Kept H' H4/\(∀ a∈C,∀ o,H' a=some o->H4 a=some o/\¬ bN Φ4 η4 a)/\forL g cb (l.drop (i+1)) η4=some o,fun σ4 H4 ⟨Φ4,η4,q⟩=>⟨l.length - (i+1),by omega,rfl,Φ4,η4,q⟩,fun x H3 yl=>?_⟩
     obtain ⟨e8,F,rF,hF⟩:=y1 x H3 yl
     have s3:=s2.same e8
     have noF:∀ a∈F,¬ bN Φ2 η2 a:=fun a ha z=>by
       rcases hF a ha with q | q
       · have hne:=ok.dom a q
         cases ho:H' a with
         | none=>exact hne ho
         | some o''=>exact (con a q o'' ho).2 z
       · exact Mut.ne_none (s2.ow_dom z) q
     refine ⟨Φ2,η2,t,F,η3,s3,rF,noF,e4,fun Φ3 σ3 s4 o3 p3=>?_⟩
     have f3:Frm Φ η H Φ3 η3 H3:=⟨fun a o' h n=>let ⟨h1,n1⟩:=f2.keep a o' h n;⟨e8 a o' h1,fun z=>n1 (o3 a z)⟩,fun a h z=>f2.dom a h (e8.free z),fun a h=>f2.ow a (o3 a h),fun a h=>by
       rcases p3 a h with h | h
       · exact f2.pu a h
       · rcases hF a h with q | q
         · rcases fc a q with q | q | q
           · exact .inr (.inr q)
           · exact .inl q
           · exact .inr (.inl q.2)
         · exact .inr (.inr (f2.none q)),f2.kept.trans (Kept.of e8)⟩
     have next:∀ {Φ4 η4 H4},Frm Φ3 η3 H3 Φ4 η4 H4->Kept H' H4/\∀ a∈C,∀ o,H' a=some o->H4 a=some o/\¬ bN Φ4 η4 a:=fun fb =>
       ⟨(kp.trans (Kept.of e8)).trans fb.kept,fun a ha o' ho=>by
         obtain ⟨h1,n1⟩:=con a ha o' ho
         exact fb.keep a o' (e8 a o' h1) fun z=>n1 (o3 a z)⟩
     refine ⟨Φ3,η3,o',s4,e6,?_⟩
     cases o' with
     | nx η4=>exact fun Φ4 σ4 H4 s5 fb=>⟨Φ4,η4,s5,f3.trans fb,(next fb).1,(next fb).2,e7⟩
     | ct η4=>exact fun Φ4 σ4 H4 s5 fb=>⟨Φ4,η4,s5,f3.trans fb,(next fb).1,(next fb).2,e7⟩
     | bk η4 =>
       cases (show some (Out.nx η4)=some o from e7)
       exact fun Φ4 σ4 H4 s5 fb=>k Φ4 σ4 H4 s5 (f3.trans fb)
     | rt v η4 =>
       cases (show some (Out.rt v η4)=some o from e7)
       exact fun u H4 F4 Φ4 σ4 s5 fb r5 q5=>k u H4 F4 Φ4 σ4 s5 (f3.trans fb) r5 (q5.back f3)
 · cases e1
end
end VS
end
section
namespace VS
open PySem PySem.Spec PyProof.Rows L2
noncomputable def B5 (H:Hp) (Fs:List (List Addr)):Md->List Addr->Prop
 | .fr,F=>F.Nodup/\∀ a∈F,H a=none
 | _,F=>∀ a∈F,H a=none\/a∈Fs.flatten
noncomputable def spF (G:Gx) (g:Fn):Sp:=fun vs H Q _=>∃ ts Fs m r,RpL G H vs ts Fs/\g ts=some (m,r)/\∀ v H' F,aQ H H'->Rp G H' v r F->B5 H Fs m F->Q v H'
section
variable {G:Gx} {X:Cx} {k:Nat} {f:Addr} {fd:FuncData} {ps:List Str} {x:Str} {p pos:Pos} {e:Expr} {es:List Expr} {cs:Exs} {g:Fn}
theorem call_of {σ:L2.St} {H:Hp} {Q:VK} {E:XK} (h:tE G (aJ g cs) σ H Q):xI (spF G g) [] E (tEs G cs) σ H Q:=by
 obtain ⟨Φ,η,m,t,s,e,kk⟩:=h
 unfold aJ at e
 obtain ⟨l,el,e1⟩:=Option.bind_eq_some_iff.mp e
 obtain ⟨⟨n,r⟩,er,e2⟩:=Option.bind_eq_some_iff.mp e1
 refine ⟨Φ,η,l,s,el,fun vs H1 Fs q1 q2 q3=>?_⟩
 have A:Args G Φ η H H1 l vs Fs:=⟨q1,q2,q3⟩
 have jn:=q3.join A.len
 show spF G g (vs++[]) H1 Q E
 rw [List.append_nil]
 refine ⟨trees l,Fs,n,r,q2,er,fun v H' F q4 q5 q6=>?_⟩
 have wide:(∀ a∈F,H1 a=none\/a∈Fs.flatten)->Fp Φ η H ((Md.pu).join (bM l)) F:=fun h=>by
   cases ej:bM l with
   | fr =>
     rw [ej] at jn
     exact fun a ha=>.inl ((h a ha).elim q1.free (jn.2 a))
   | pu =>
     rw [ej] at jn
     exact fun a ha=>(h a ha).elim (fun z=>.inl (q1.free z)) (jn a)
   | bo =>
     rw [ej] at jn
     exact fun a ha=>(h a ha).elim (fun z=>.inl (q1.free z)) (jn a)
 cases n with
 | fr =>
   cases e2
   exact kk v H' F (q1.trans q4) q5 ⟨q6.1,fun a ha=>q1.free (q6.2 a ha)⟩
 | pu =>
   cases e2
   exact kk v H' F (q1.trans q4) q5 (wide q6)
 | bo =>
   cases e2
   exact kk v H' F (q1.trans q4) q5 (wide q6)
theorem wa (F:FnOk X.prog X.w X.K X.mg X.base CX0 k f fd ps (spF G g)) (hr:Room k X.A) (hg:Gl X x) (hm:X.mg x=some (.ref f)) (hk:PySem.W.keepIn X.K (.ref f)=true) (hb:Binds X.K fd ps [])
   (ha:PVs G X (e :: es) cs) (hdb:(x == ("__debug__" : Str))=false:=by decide) (he:starEach (e :: es) X.env=(false,eval e X.env) :: starEach es X.env:=by rfl) (hpl:(backTo pos (starEach es X.env)).any (·.1)=false:=by rfl) :
   PV G X (.Call (.Name x p) (e :: es) [] pos) (aJ g cs) :=
 PE.weak (vE F hr hg hm hk hb .nil Bp ha hdb he hpl) fun σ H Q h=>call_of h
theorem rY {H:Hp} {vs:List V} {ts:List T} {Fs:List (List Addr)} (r:RpL G H vs ts Fs) (n nv:Nat) (hv:nv=vs.length):SR G (fun i=>Fs.getD i []) (ts.map (fun t=>some (.pu t))++List.replicate (n - ts.length) none) (vs.map some++List.replicate (n - nv) none) H:=by
 subst hv
 have hl:=r.len
 have back:∀ {i:Nat} {c:Cell},(ts.map (fun t=>some (Cell.pu t))++List.replicate (n - ts.length) none)[i]?=some (some c)->∃ t,ts[i]?=some t/\c=.pu t:=fun {i c} h=>by
   by_cases hi:i < ts.length
   · rw [List.getElem?_append_left (by rw [List.length_map];exact hi),List.getElem?_map] at h
     obtain ⟨t,h1,h2⟩:=Option.map_eq_some_iff.mp h
     exact ⟨t,h1,(Option.some.inj h2).symm⟩
   · rw [List.getElem?_append_right (by rw [List.length_map];lia),List.getElem?_replicate] at h
     split at h <;> cases h
 refine ⟨by simp;lia,fun i c h=>?_,fun i t h=>?_,fun i j t c h=>?_⟩
 · obtain ⟨t,h1,rfl⟩:=back h
   obtain ⟨v,F,g1,g2,g3⟩:=r.get i h1
   refine ⟨v,?_,?_⟩
   · have:i < vs.length:=(List.getElem?_eq_some_iff.mp g1).1
     rw [List.getElem?_append_left (by rw [List.length_map];exact this),List.getElem?_map,g1]
     rfl
   · show Rp G H v t (Fs.getD i [])
     rw [List.getD_eq_getElem?_getD,g2]
     exact g3
 · obtain ⟨t',_,h2⟩:=back h
   cases h2
 · obtain ⟨t',_,h2⟩:=back h
   cases h2
theorem gz {ts:List T} {n:Nat} {Φ:Fps} {a:Addr}:¬ bN Φ (ts.map (fun t=>some (Cell.pu t))++List.replicate n none) a:=by
 rintro ⟨i,t,h,_⟩
 by_cases hi:i < ts.length
 · rw [List.getElem?_append_left (by rw [List.length_map];exact hi),List.getElem?_map] at h
   obtain ⟨t',_,h2⟩:=Option.map_eq_some_iff.mp h
   cases h2
 · rw [List.getElem?_append_right (by rw [List.length_map];lia),List.getElem?_replicate] at h
   split at h <;> cases h
theorem nI {H:Hp} {vs:List V} {ts:List T} {Fs:List (List Addr)} {n:Nat} {a:Addr} (h:cZ (fun i=>Fs.getD i []) (ts.map (fun t=>some (Cell.pu t))++List.replicate n none) a):a∈Fs.flatten:=by
 obtain ⟨i,t,_,h2⟩:=h
 simp only [List.getD_eq_getElem?_getD] at h2
 cases e:Fs[i]? with
 | none=>rw [e] at h2;simp at h2
 | some F=>rw [e] at h2;exact eA e h2
end
section
variable {G:Gx} {P:Program} {w:World} {K:PySem.W.Frag} {mg:Str->Option Value} {base:Heap}
theorem fnV {x qual:Str} {st:Stmt} {f:Addr} {fd:FuncData} {N ps:List Str} {k np nn:Nat} {c:Sx} (F:Fun K x qual st f fd) (S:FnScope N ps (ao st)) (hp:ps.length=np) (hn:N.length=nn)
   (hb:∀ (cdv:Value) (A:Around) (outer:List PySem.Env) (s:Shared) (H:Hp) (E:XK),Room k (A.deeper (envOfC qual (ao st) s.heap.objs.size f cdv))->eO G (kc CX0 P w K mg base N qual (ao st) f cdv A outer s H E).nox (aR st) c) :
   FnOk P w K mg base CX0 (k+1) f fd ps (spF G (fn np nn c)):=by
 refine F.ok S (fun vs H Q E h=>?_) fun cdv A outer s H vs Q E hr h=>⟨_,hb cdv A outer s H E hr,?_⟩
 · obtain ⟨ts,Fs,m,r,h1,h2,_⟩:=h
   unfold fn at h2
   split at h2
   · rename_i hl
     rw [h1.len.1,hl,hp]
   · cases h2
 · obtain ⟨ts,Fs,m,r,h1,h2,q⟩:=h
   unfold fn at h2
   split at h2
   · rename_i hl
     obtain ⟨o,e1,e2⟩:=Option.bind_eq_some_iff.mp h2
     have s0:=rY h1 nn vs.length rfl
     rw [hl] at s0
     have e3:L2.start N vs=vs.map some++List.replicate (nn - vs.length) none:=by
       unfold L2.start
       rw [hn]
     rw [e3]
     refine ⟨_,_,o,s0,e1,?_⟩
     cases o with
     | nx η' =>
       cases e2
       intro Φ' σ' H' s' fr
       exact q .non H' [] (fun a o h=>(fr.keep a o h gz).1) .non ⟨List.nodup_nil,fun a h=>by simp at h⟩
     | rt v η' =>
       cases e2
       intro u H' F' Φ' σ' s' fr r' rf
       refine q u H' F' (fun a o h=>(fr.keep a o h gz).1) r' ?_
       cases m with
       | fr=>exact ⟨rf.1,fun a ha=>(rf.2 a ha).elim id fun z=>absurd z gz⟩
       | pu=>exact fun a ha=>(rf a ha).elim .inl fun z=>z.elim (fun z=>.inr (nI (H:=H) (vs:=vs) z)) fun z=>absurd z gz
       | bo=>exact fun a ha=>(rf a ha).elim .inl fun z=>z.elim (fun z=>.inr (nI (H:=H) (vs:=vs) z)) fun z=>absurd z gz
     | bk η'=>cases e2
     | ct η'=>cases e2
   · cases h2
end
end VS
end
section
namespace L2
open PySem PySem.Spec PyProof.Rows
theorem iT (env:Env):∀ (l:List (Str×NameKind)) (acc:List (Str×Addr)),(∀ y∈l,y.2=.free->∃ c,env.cells.lookup y.1=some c)->(∀ x c,acc.lookup x=some c->env.cells.lookup x=some c) →
   ∃ cl,(forIn l acc (fun x r=>if (x.snd == NameKind.free)=true then (do let a ← cellOf env x.fst;pure (ForInStep.yield ((x.fst,a) :: r))) else pure (ForInStep.yield r)):Sem (List (Str×Addr)))=pure cl ∧
     (∀ x c,cl.lookup x=some c->env.cells.lookup x=some c)/\(∀ x c,acc.lookup x=some c->∃ c',cl.lookup x=some c')/\∀ y∈l,y.2=.free->∃ c,cl.lookup y.1=some c
 | [],acc,_,ha=>⟨acc,rfl,ha,fun x c h=>⟨c,h⟩,fun y hy=>nomatch hy⟩
 | (n,k) :: l,acc,hf,ha=>by
   by_cases hk:k=.free
   · subst hk
     obtain ⟨c,hc⟩:=hf (n,.free) List.mem_cons_self rfl
     have ec:cellOf env n=pure c:=by unfold cellOf;dsimp only at hc;rw [hc]
     have ha':∀ x c',((n,c) :: acc).lookup x=some c'->env.cells.lookup x=some c':=fun x c' h=>by
       rw [List.lookup_cons] at h
       split at h
       · rename_i hx
         have:x=n:=by simpa using hx
         rw [this,← h];exact hc
       · exact ha x c' h
     obtain ⟨cl,h1,h2,h3,h4⟩:=iT env l ((n,c) :: acc) (fun y hy=>hf y (List.mem_cons_of_mem _ hy)) ha'
     refine ⟨cl,?_,h2,fun x c' h=>?_,fun y hy hyf=>?_⟩
     · rw [List.forIn_cons]
       dsimp only
       rw [if_pos (show (NameKind.free == NameKind.free)=true from rfl),ec,pure_bind,pure_bind]
       exact h1
     · by_cases hx:x=n
       · exact h3 x c (by rw [List.lookup_cons,hx];simp)
       · refine h3 x c' ?_
         rw [List.lookup_cons]
         have:(x == n)=false:=by simpa using hx
         rw [this];exact h
     · rcases List.mem_cons.mp hy with rfl | hy
       · exact h3 n c (by rw [List.lookup_cons];simp)
       · exact h4 y hy hyf
   · obtain ⟨cl,h1,h2,h3,h4⟩:=iT env l acc (fun y hy=>hf y (List.mem_cons_of_mem _ hy)) ha
     refine ⟨cl,?_,h2,h3,fun y hy hyf=>?_⟩
     · rw [List.forIn_cons]
       dsimp only
       rw [if_neg (by simpa using hk),pure_bind]
       exact h1
     · rcases List.mem_cons.mp hy with rfl | hy
       · exact absurd hyf hk
       · exact h4 y hy hyf
theorem vL {sc:Scope} {env:Env} (hf:∀ y∈sc.names,y.2=.free->∃ c,env.cells.lookup y.1=some c) :
   ∃ cl,closureFor sc env=pure cl/\(∀ x c,cl.lookup x=some c->env.cells.lookup x=some c)/\∀ y∈sc.names,y.2=.free->∃ c,cl.lookup y.1=some c:=by
 obtain ⟨cl,h1,h2,_,h4⟩:=iT env sc.names [] hf (fun x c h=>nomatch h)
 refine ⟨cl,?_,h2,h4⟩
 simp only [closureFor]
 rw [h1]
 rfl
theorem eS {l:List (Str×NameKind)} {x:Str} {k:NameKind} (h:l.lookup x=some k):(x,k)∈l:=by
 induction l with
 | nil=>cases h
 | cons p l ih =>
   rw [List.lookup_cons] at h
   split at h
   · rename_i hx
     have e:x=p.1:=by simpa using hx
     cases h
     rw [e];exact List.mem_cons_self
   · exact List.mem_cons_of_mem _ (ih h)
theorem cJ {env:Env} {x:Str} {k:NameKind}:∀ {l:List (Str×NameKind)},(l.map fun (n,k)=>if (k == NameKind.free && env.scope.kind == .function && env.kindOf n == some .cell) then (n,NameKind.cell) else (n,k)).lookup x=some k →
   ∃ k0,l.lookup x=some k0/\(k=k0\/(k0=.free/\k=.cell))
 | [],h=>nomatch h
 | (n,k1) :: l,h=>by
   rw [List.map_cons,List.lookup_cons] at h
   by_cases hc:(k1 == NameKind.free && env.scope.kind == .function && env.kindOf n == some .cell)=true
   · simp only [hc,if_true] at h
     rw [List.lookup_cons]
     cases hx:x == n with
     | true =>
       rw [hx] at h
       have:k1=.free:=by
         have:=(Bool.and_eq_true_iff.mp (Bool.and_eq_true_iff.mp hc).1).1
         simpa using this
       exact ⟨k1,rfl,.inr ⟨this,(Option.some.inj h).symm⟩⟩
     | false=>rw [hx] at h;exact cJ h
   · simp only [hc,if_false,Bool.false_eq_true] at h
     rw [List.lookup_cons]
     cases hx:x == n with
     | true=>rw [hx] at h;exact ⟨k1,rfl,.inl (Option.some.inj h).symm⟩
     | false=>rw [hx] at h;exact cJ h
noncomputable def aT (X:Cx) (N:List Str) (sc:Scope) (cl:List (Str×Addr)) (C:Addr) (s:Shared) (H:Hp) (fp:List Addr):Cx :=
 { X with N:=N,s₀:=s,H₀:=H,env:=compEnvC sc cl C X.env,outer:=X.stack,ex:=fp,fn:=fun _=>false,pn:=[],xe:=fun _ _=>False }
noncomputable def iK (env:Env) (sc:Scope):Bool:=sc.kind == .function && sc.names.all fun y=>match y.2 with
 | .cell=>false
 | .local=>sc.names.lookup y.1 == some .local
 | .free=>env.kindOf y.1 == some .cell || env.kindOf y.1 == some .free
 | _=>true
noncomputable def gp (sc:Scope):List Str->List Str->Bool
 | [],[]=>true
 | a :: as,b :: bs=>((a == b && sc.names.lookup a == some .free) || sc.names.lookup a == none || sc.names.lookup a == some .globalImplicit) && gp sc as bs
 | _,_=>false
theorem pB {sc:Scope}:∀ {as bs:List Str},gp sc as bs=true->as.length=bs.length/\∀ (i:Nat) (x:Str),as[i]?=some x->(bs[i]?=some x/\sc.names.lookup x=some .free)\/sc.names.lookup x=none\/sc.names.lookup x=some .globalImplicit
 | [],[],_=>⟨rfl,fun i x h=>by simp at h⟩
 | a :: as,b :: bs,h=>by
   simp only [gp,Bool.and_eq_true] at h
   obtain ⟨h1,h2⟩:=h
   obtain ⟨l,r⟩:=pB h2
   refine ⟨by simp [l],fun i x e=>?_⟩
   cases i with
   | zero =>
     have:a=x:=by simpa using e
     subst this
     simp only [Bool.or_eq_true,Bool.and_eq_true] at h1
     rcases h1 with (⟨z1,z2⟩ | z) | z
     · exact .inl ⟨by simpa using (by simpa using z1:a=b).symm,by simpa using z2⟩
     · exact .inr (.inl (by simpa using z))
     · exact .inr (.inr (by simpa using z))
   | succ i=>simpa using r i x (by simpa using e)
 | [],_ :: _,h=>by simp [gp] at h
 | _ :: _,[],h=>by simp [gp] at h
section
variable {X:Cx} {pins:List (Addr×Obj)} {σ:St} {H:Hp} {s:Shared}
theorem Inv.block {N:List Str} {sc:Scope} {cl:List (Str×Addr)} {C D:Addr} {fp:List Addr} {k:Nat} {h1:Heap} {t:Nat} {m:Str->Option Value} (I:Inv X pins σ H s) (hsc:iK X.env sc=true) (hnm:gp sc (N.drop k) X.N=true) (hNl:k<=N.length)
   (hc1:∀ x c,cl.lookup x=some c->X.env.cells.lookup x=some c) (hc2:∀ y∈sc.names,y.2=.free->∃ c,cl.lookup y.1=some c) (hfp:∀ b∈fp,ic X pins H b) (hD:s.heap.objs.size<=D) (hC:s.heap.objs.size<=C) (hDC:D ≠ C) (hfC:C ∉ fp)
   (keep:∀ b u,s.heap.get? b=some u->h1.get? b=some u) (hns:h1.Ns C m) (hDo:h1.get? D=some { cls:=.type "list",data:=.seq ([]:List Value).toArray 0 }) :
   Inv (aT X N sc cl C s H fp) [] (List.replicate k none++σ) (upd H D (.lst [])) { s with heap:=h1,toks:=t }:=by
 unfold iK at hsc
 rw [Bool.and_eq_true,List.all_eq_true] at hsc
 obtain ⟨hk,hall⟩:=hsc
 have hkind:sc.kind=.function:=by simpa using hk
 obtain ⟨hlen,hat⟩:=pB hnm
 have hcell:∀ y∈sc.names,y.2 ≠ .cell:=fun y hy e=>by have:=hall y hy;rw [e] at this;cases this
 have frees:∀ x k',(relabel sc X.env).names.lookup x=some k'->k'=.cell\/k'=.free->sc.names.lookup x=some .free:=fun x k' h hk'=>by
   obtain ⟨k0,h0,hk0⟩:=cJ h
   rcases hk0 with e | ⟨e,_⟩
   · subst e
     rcases hk' with e | e
     · subst e;exact absurd rfl (hcell _ (eS h0))
     · subst e;exact h0
   · subst e;exact h0
 have hHD:H D=none:=I.hok.fresh hD
 have hHC:H C=none:=I.hok.fresh hC
 refine ⟨⟨I.mod,hkind,I.ok.glob,I.ok.blt,hC,fun x y c e1 e2=>I.ok.inj x y c (hc1 x c e1) (hc1 y c e2),fun x hx=>?_,fun x c e=>(nomatch e),I.ok.hd,I.ok.frames,.inl rfl,fun b hb=>⟨fun (e:b=C)=>hfC (e ▸ hb),fun x c e=>(hfp b hb).2.2.2.2.1 x c (hc1 x c e)⟩,
   I.bs,Nat.le_trans I.ok.bsz I.sz,fun b o e hb=>?_,fun b hb hb'=>?_,I.stack,I.stkFree⟩,rfl,I.bare,Un.laid keep hD hHD,⟨m,hns,fun i x v e1 e2 e3=>?_⟩,fun x c e=>?_,?_,fun x c e=>?_,fun p hp=>(nomatch hp),I.hok.laid keep hD ?_,?_⟩
 · have h:∃ k',(relabel sc X.env).names.lookup x=some k'/\(k'=.cell\/k'=.free):=by
     rcases hx with e | e
     · exact ⟨_,e,.inl rfl⟩
     · exact ⟨_,e,.inr rfl⟩
   obtain ⟨k',h1',h2'⟩:=h
   exact hc2 _ (eS (frees x k' h1' h2')) rfl
 · have hb':b∈fp:=hb
   rcases (hfp b hb').2.2.2.1 with z | z
   · exact I.ok.noex b o e z
   · exact absurd (Nat.lt_of_lt_of_le (Heap.lt_size e) (Nat.le_trans I.ok.bsz z)) (Nat.lt_irrefl _)
 · have hb0:b∈frs X.stack:=hb'
   rcases List.mem_cons.mp (I.stkSub b hb0) with z | z
   · exact (hfp b hb).2.1 z
   · exact (hfp b hb).2.2.1 z
 ·
   have hik:k<=i:=by
     rcases Nat.lt_or_ge i k with z | z
     · rw [List.getElem?_append_left (by simpa using z),List.getElem?_replicate] at e2
       split at e2 <;> cases e2
     · exact z
   rw [List.getElem?_append_right (by simpa using hik),List.length_replicate] at e2
   have e1':(N.drop k)[i - k]?=some x:=by
     rw [List.getElem?_drop,show k+(i - k)=i by lia];exact e1
   have vis:sc.names.lookup x=some .free->∃ k',(relabel sc X.env).names.lookup x=some k'/\(k'=.cell\/k'=.free):=fun h0=>by
     have e3':Vis (relabel sc X.env) x:=e3
     rcases e3' with z | z | z
     · obtain ⟨k0,h1',h2'⟩:=cJ z
       rw [h0] at h1';cases h1'
       rcases h2' with q | ⟨_,q⟩ <;> cases q
     · exact ⟨_,z,.inl rfl⟩
     · exact ⟨_,z,.inr rfl⟩
   have no:∀ k0,sc.names.lookup x=some k0->∃ k',(relabel sc X.env).names.lookup x=some k'->True:=fun _ _=>⟨.local,fun _=>trivial⟩
   rcases hat _ x e1' with ⟨hX,h0⟩ | h0 | h0
   · obtain ⟨k',hk1,hk2⟩:=vis h0
     have hf:=hall _ (eS h0)
     have hf':X.env.kindOf x=some .cell\/X.env.kindOf x=some .free:=by
       simpa using hf
     obtain ⟨mX,hnX,hlX⟩:=I.loc
     have visX:Vis X.env.scope x:=hf'.elim (fun z=>.inr (.inl z)) fun z=>.inr (.inr z)
     obtain ⟨u,r,l⟩:=hlX _ x v hX e2 visX
     refine ⟨u,r,.inr ⟨?_,?_⟩⟩
     · rcases hk2 with z | z
       · subst z;exact .inl hk1
       · subst z;exact .inr hk1
     · obtain ⟨c,hc⟩:=hc2 _ (eS h0) rfl
       refine ⟨c,hc,?_⟩
       rcases l with ⟨z,_⟩ | ⟨_,c',hc',hcell'⟩
       · rcases hf' with q | q <;> (rw [z] at q;cases q)
       · have:=hc1 x c hc
         rw [hc'] at this;cases this
         exact hcell'.keeps keep
   · have e3':Vis (relabel sc X.env) x:=e3
     rcases e3' with z | z | z <;> (obtain ⟨k0,z1,_⟩:=cJ z;rw [h0] at z1;cases z1)
   · have e3':Vis (relabel sc X.env) x:=e3
     rcases e3' with z | z | z <;> (obtain ⟨k0,z1,z2⟩:=cJ z;rw [h0] at z1;cases z1;rcases z2 with q | ⟨q,_⟩ <;> cases q)
 · obtain ⟨v,z⟩:=I.cell x c (hc1 x c e)
   exact ⟨v,z.keeps keep⟩
 · show upd H D (.lst []) C=none
   rw [au (Ne.symm hDC)];exact hHC
 · obtain ⟨v,z⟩:=I.cell x c (hc1 x c e)
   rw [au (Nat.ne_of_lt (Nat.lt_of_lt_of_le z.lt hD))]
   exact I.freeC x c (hc1 x c e)
 · exact ⟨Nat.zero_le _,[],0,.nil,hDo⟩
 · show (List.replicate k none++σ).length=N.length
   rw [List.length_append,List.length_replicate,I.len,← hlen,List.length_drop]
   lia
noncomputable def uA (X:Cx) (ifs:List Expr) (t:TT):Prop :=
 ∀ (pins:List (Addr×Obj)) (s:Shared) (σ:St) (H:Hp) (Q:Bool->Hp->Prop),Inv X pins σ H s->t σ H Q →
   wpAny (model X.prog X.w) X.A (forIn ifs true fun c r=>if r=true then (do let ok ← isTrue c X.env (eval c X.env);pure (ForInStep.yield ok)) else pure (ForInStep.yield r)) (TP X pins σ Q) X.xe s
theorem jq:uA X [] (fun σ H Q=>Q true H):=fun pins s σ H Q I q=>wpAny_pure ⟨H,I,q⟩
theorem uS {c:Expr} {t:TT} (h:PT X c t):uA X [c] t:=fun pins s σ H Q I q=>by
 rw [List.forIn_cons,if_pos rfl]
 refine wpAny_bind (wpAny_bind (thn (h pins s σ H Q I q) fun b s1 q1=>wpAny_pure ?_))
 exact wpAny_pure q1
section
variable {prog:Program} {w:World} {A:Around} {R:Result->Shared->Prop}
theorem mL {elt target iter:Expr} {ifs:List Expr} {scope:Scope} {pos:Pos} {it acc:Value} {env:Env} {s:Shared} (I:Nat->Shared->Prop)
   (turn:∀ n s,I n s->wpAny (model prog w) A (pyNext it) (fun r s₁=>match r with
     | none=>R (.ok .next) s₁
     | some v=>wpAny (model prog w) A (letOwnedTupleGo target it v) (fun _ s₀=>wpAny (model prog w) A (assign target env v) (fun _ s₂ =>
         wpAny (model prog w) A (forIn ifs true fun c r=>if r=true then (do let ok ← isTrue c env (eval c env);pure (ForInStep.yield ok)) else pure (ForInStep.yield r)) (fun ok s₃ =>
           if ok=true then wpAny (model prog w) A (eval elt env) (fun x s₄ =>
             wpAny (model prog w) A (call (.builtin "list.append") [acc,x]) (fun _ s₅=>∃ m,m < n/\I m s₅) (fun _ _=>False) s₄) (fun _ _=>False) s₃
           else ∃ m,m < n/\I m s₃) (fun _ _=>False) s₂) (fun _ _=>False) s₀) (fun _ _=>False) s₁) (fun _ _=>False) s)
   (n:Nat) (h:I n s) :
   codeAny (model prog w) A (.compLoop (.ListComp elt [⟨target,iter,ifs,0⟩] scope pos) 0 it acc env) R s:=by
 refine codeAny_loop rfl I (fun n s hI=>?_) n h
 show wpAny _ A ((compTurn (.ListComp elt [⟨target,iter,ifs,0⟩] scope pos) 0 it acc env).onRaise (fun x=>do noteFrame x env;theTreesLotGoes x)) _ _ s
 refine wpAny_noted ?_
 rw [compTurn_list]
 refine wpAny_bind (wpAny_standAt (wpAny_bind (wpAny_mono (turn n s hI) (fun r s₁ h₁=>?_) fun _ _ h'=>h'.elim)))
 cases r with
 | none=>exact wpAny_pure h₁
 | some v =>
   refine wpAny_bind (wpAny_mono h₁ (fun _ s₀ h₀=>?_) fun _ _ h'=>h'.elim)
   refine wpAny_bind (wpAny_mono h₀ (fun _ s₂ h₂=>wpAny_bind (wpAny_mono h₂ (fun ok s₃ h₃=>?_) fun _ _ h'=>h'.elim)) fun _ _ h'=>h'.elim)
   cases ok with
   | false=>exact wpAny_pure ⟨rfl,h₃⟩
   | true =>
     rw [if_pos rfl] at h₃
     exact wpAny_bind (wpAny_bind (wpAny_mono h₃ (fun x s₄ h₄=>wpAny_bind (wpAny_mono h₄ (fun _ s₅ h₅=>wpAny_pure (wpAny_pure ⟨rfl,h₅⟩)) fun _ _ h'=>h'.elim)) fun _ _ h'=>h'.elim))
end
noncomputable def pT (k:Nat) (wi:TI) (g:TG) (tc:TT) (te:TE) (σ:St) (H:Hp) (Q:VK):Prop:=wi σ H fun J H1=>∀ D,H1 D=none->∃ W:Nat->Nat->St->Hp->Prop,
 (∃ m,W 0 m (List.replicate k none++σ) (upd H1 D (.lst [])))/\∀ i m σ' H',W i m σ' H'->(J.stop i H'/\Q (.ref D) H')\/(J.go i H'/\∀ x H2,J.yld i H' x H2->g x σ' H2 fun σ3 H3=>tc σ3 H3 fun b H4 =>
   if b=true then te σ3 H4 fun y H5=>∃ ys,H5 D=some (.lst ys)/\ys.length < sizeLine/\∃ m',m' < m/\W (i+1) m' σ3 (upd H5 D (.lst (ys++[y]))) else ∃ m',m' < m/\W (i+1) m' σ3 H4)
theorem ke {elt tg iter:Expr} {ifs:List Expr} {sc:Scope} {pos pos':Pos} {N:List Str} {k:Nat} {wi:TI} {g:TG} {tc:TT} {te:TE} {use:Option (Value->Sem Unit)} {QQ:Value->Shared->Prop} {Q:VK} (hcalm:X.calm=true) (hi:PI X tg iter wi) (hsc:iK X.env sc=true)
   (hnm:gp sc (N.drop k) X.N=true) (hNl:k<=N.length) (hin:∀ cl C s H fp,PG (aT X N sc cl C s H fp) tg g/\uA (aT X N sc cl C s H fp) ifs tc/\PE (aT X N sc cl C s H fp) elt te)
   (hs:∀ x,foldedSetIterable iter X.env x=pure x) (I:Inv X pins σ H s) (h:pT k wi g tc te σ H Q)
   (hq:∀ s' H' D C m,Inv X pins σ H' s'->Q (.ref D) H'->s'.heap.Ns C m->ic X pins H' C->compPost (model X.prog X.w) X.A X.xe use QQ (.ref D) C (.ok .next) s') :
   wpAny (model X.prog X.w) X.A (comprehension (.ListComp elt [⟨tg,iter,ifs,0⟩] sc pos) sc X.env pos' (newList []) false (eval iter X.env) use) QQ X.xe s:=by
 have hsc':=hsc
 unfold iK at hsc'
 rw [Bool.and_eq_true,List.all_eq_true] at hsc'
 obtain ⟨hk,hall⟩:=hsc'
 have hkind:sc.kind=.function:=by simpa using hk
 have hcell:∀ y∈sc.names,y.2 ≠ .cell:=fun y hy e=>by have:=hall y hy;rw [e] at this;cases this
 have hnames:∀ y∈sc.names,y.2=.local->sc.names.lookup y.1=some .local:=fun y hy e=>by
   have:=hall y hy
   rw [e] at this
   simpa using this
 obtain ⟨cl,hcl,hc1,hc2⟩:=vL (sc:=sc) (env:=X.env) fun y hy e=>I.ok.has y.1 (by
   have:=hall y hy
   rw [e] at this
   simpa using this)
 refine wpAny_comprehension_free (use:=use) rfl hs hcl hkind hnames (thn (hi pins s σ H _ I h) fun v s1 h1=>thn h1 fun itv s2 h2=>?_)
 obtain ⟨it,fp,tn,J,H2,e,I2,T,st2,f2,hW⟩:=h2
 subst e
 refine wpAny_newObj_type (wpAny_newFunctionEnv hcell (by intro y hy;simp at hy) (fun h₁ hns₁ hsb₁=>?_) hkind)
 dsimp only at hns₁ hsb₁ ⊢
 generalize hP:s2.heap.push { cls:=.type "list",dict:=none,data:=.seq ([]:List Value).toArray }=P at hns₁ hsb₁ ⊢
 have hCs:P.objs.size=s2.heap.objs.size+1:=by rw [← hP,Heap.size_push]
 have old:∀ b o,s2.heap.get? b=some o->h₁.get? b=some o:=fun b o e =>
   hsb₁.extBut b o (by rw [hCs];exact Nat.ne_of_lt (Nat.lt_succ_of_lt (Heap.lt_size e))) (Heap.get?_push_of_some _ (hP ▸ Heap.get?_push_of_some _ e))
 have hDC:s2.heap.objs.size ≠ P.objs.size:=by rw [hCs];exact Nat.ne_of_lt (Nat.lt_succ_self _)
 have hDo:h₁.get? s2.heap.objs.size=some { cls:=.type "list",data:=.seq ([]:List Value).toArray 0 }:=hsb₁.extBut _ _ hDC (Heap.get?_push_of_some _ (hP ▸ Heap.get?_push_size _ rfl))
 have hCle:s2.heap.objs.size<=P.objs.size:=by rw [hCs];exact Nat.le_succ _
 have lt_fp:∀ b∈fp,b < s2.heap.objs.size:=fun b hb=>let ⟨o,ho,_⟩:=T.obj 0 _ st2 b hb;Heap.lt_size ho
 have hfC:P.objs.size ∉ fp:=fun hb=>absurd (Nat.lt_of_lt_of_le (lt_fp _ hb) hCle) (Nat.lt_irrefl _)
 have IY:=I2.block (N:=N) (sc:=sc) (cl:=cl) (C:=P.objs.size) (D:=s2.heap.objs.size) (fp:=fp) (k:=k) (t:=s2.toks+([]:List (Str×Value)).length) hsc hnm hNl hc1 hc2 f2 (Nat.le_refl _) hCle hDC hfC old hns₁ hDo
 obtain ⟨hG,hT,hE⟩:=hin cl P.objs.size s2 H2 fp
 generalize hY:aT X N sc cl P.objs.size s2 H2 fp=Y at IY hG hT hE
 have hYm:Y.prog=X.prog/\Y.w=X.w/\Y.K=X.K/\Y.A=X.A/\Y.env=compEnvC sc cl P.objs.size X.env/\Y.calm=X.calm/\(Y.xe=fun _ _=>False):=by rw [← hY];exact ⟨rfl,rfl,rfl,rfl,rfl,rfl,rfl⟩
 obtain ⟨y1,y2,y3,y4,y5,y6,y7⟩:=hYm
 have stat:∀ {H':Hp},(∀ b∈fp,H' b=none)->∀ b∈fp,ic Y [] H' b:=fun {H'} hn b hb=>by
   rw [← hY]
   refine ⟨hn b hb,fun (e:b=P.objs.size)=>hfC (e ▸ hb),fun hb'=>?_,.inl hb,fun x c e=>(f2 b hb).2.2.2.2.1 x c (hc1 x c e),fun p hp=>(nomatch hp)⟩
   rcases List.mem_cons.mp (I2.stkSub b hb') with z | z
   · exact (f2 b hb).2.1 z
   · exact (f2 b hb).2.2.1 z
 obtain ⟨W,⟨m0,w0⟩,turn⟩:=hW s2.heap.objs.size (I2.hok.fresh (Nat.le_refl _))
 have hfp0:∀ b∈fp,upd H2 s2.heap.objs.size (.lst []) b=none:=fun b hb=>by rw [au (Nat.ne_of_lt (lt_fp b hb))];exact (f2 b hb).1
 have st3:tn 0 h₁:=T.keep _ _ _ st2 fun b _ o e=>old b o e
 have loop:codeAny (model X.prog X.w) X.A (.compLoop (.ListComp elt [⟨tg,iter,ifs,0⟩] sc pos) 0 (.ref it) (.ref s2.heap.objs.size) (compEnvC sc cl P.objs.size X.env)) (compPost (model X.prog X.w) X.A X.xe use QQ (.ref s2.heap.objs.size) P.objs.size)
     { s2 with heap:=h₁,toks:=s2.toks+([]:List (Str×Value)).length }:=by
   refine mL (fun n s'=>∃ i σ' H',Inv Y [] σ' H' s'/\tn i s'.heap/\(∀ b∈fp,H' b=none)/\W i n σ' H') ?_ m0 ⟨0,_,_,IY,st3,hfp0,w0⟩
   rintro n s3 ⟨i,σ3,H3,I3,st3,fr3,w3⟩
   rcases turn i n σ3 H3 w3 with ⟨stop,qn⟩ | ⟨go,step⟩
   · have q:=T.done Y y1 y2 y3 (y6.trans hcalm) i [] s3 σ3 H3 (fun _ _=>False) I3 (stat fr3) st3 stop
     rw [y4] at q
     refine thn q fun r s4 ⟨hr,I4⟩=>?_
     subst hr
     have IX:Inv X pins σ H3 s4:=by
       have b4:=I4.base
       have o4:=I4.os
       have k4:=I4.hok
       rw [← hY] at b4 o4 k4
       refine I2.call' (ch:=fp) o4 b4 k4 I4.bare fun b hb=>?_
       exact ⟨(f2 b hb).2.2.2.1,(f2 b hb).2.1,(f2 b hb).2.2.2.2.1,(f2 b hb).2.2.2.2.2⟩
     obtain ⟨mC,hmC,_⟩:=I4.loc
     have f4:=I4.free
     rw [y5] at hmC f4
     exact hq s4 H3 _ P.objs.size mC IX qn hmC (I2.fpOk hCle f4)
   · have q:=T.item Y y1 y2 y3 (y6.trans hcalm) i [] s3 σ3 H3 (fun _ _=>False) I3 (stat fr3) st3 go
     rw [y4] at q
     refine thn q fun r s4 ⟨u,hr,h4⟩=>?_
     subst hr
     refine thn h4 fun _ s5 ⟨x,H5,I5,r5,yl5,st5,fr5⟩=>?_
     have I5':=I5.pinned (stat fr5) (T.obj _ _ st5)
     have again:∀ {σ7:St} {H7:Hp} {s7:Shared} {m:Nat},Inv Y ([]++jV fp s5.heap) σ7 H7 s7->W (i+1) m σ7 H7->∃ i σ' H',Inv Y [] σ' H' s7/\tn i s7.heap/\(∀ b∈fp,H' b=none)/\W i m σ' H':=fun {σ7 H7 s7 m} I7 w7=>by
       refine ⟨i+1,σ7,H7,I7.unpinned,T.keep _ _ _ st5 fun b hb o e=>(I7.pin (b,o) (List.mem_append_right _ (List.mem_append_right _ (fW hb e)))).1,fun b hb=>?_,w7⟩
       obtain ⟨o,e,d⟩:=T.obj _ _ st5 b hb
       exact (I7.pin (b,o) (List.mem_append_right _ (List.mem_append_right _ (fW hb e)))).2.1
     have qa:=hG _ s5 σ3 H5 x u _ I5' r5 (step x H5 yl5)
     rw [y1,y2,y4,y5,y7] at qa
     refine thn qa fun _ s6 ⟨σ6,H6,I6,q6⟩=>?_
     have qt:=hT _ s6 σ6 H6 _ I6 q6
     rw [y1,y2,y4,y5,y7] at qt
     refine thn qt fun b s7 ⟨H7,I7,q7⟩=>?_
     cases b with
     | false =>
       rw [if_neg Bool.false_ne_true] at q7 ⊢
       obtain ⟨m',hm,w7⟩:=q7
       exact ⟨m',hm,again I7 w7⟩
     | true =>
       rw [if_pos rfl] at q7 ⊢
       have qe:=hE _ s7 σ6 H7 _ I7 q7
       rw [y1,y2,y4,y5,y7] at qe
       refine thn qe fun yv s8 ⟨y,H8,I8,r8,ys,hD8,hl8,m',hm,w8⟩=>?_
       have qp:=gQ (X:=Y) _ s8 σ6 H8 (.ref s2.heap.objs.size) [y] (.ref s2.heap.objs.size) [yv] (fun _ H9=>W (i+1) m' σ6 H9) I8 rfl (.cons r8 .nil) ⟨_,ys,y,rfl,rfl,hD8,hl8,w8⟩
       rw [y1,y2,y4,y7] at qp
       refine thn qp fun _ s9 ⟨_,H9,I9,_,w9⟩=>?_
       exact ⟨m',hm,again I9 w9⟩
 exact codeAny_compStart_list loop (T.self _ 0 _ _ _ st3 loop)
theorem lN {elt tg iter:Expr} {ifs:List Expr} {sc:Scope} {pos:Pos} {N:List Str} {k:Nat} {wi:TI} {g:TG} {tc:TT} {te:TE} (hcalm:X.calm=true) (hi:PI X tg iter wi) (hsc:iK X.env sc=true)
   (hnm:gp sc (N.drop k) X.N=true) (hNl:k<=N.length) (hin:∀ cl C s H fp,PG (aT X N sc cl C s H fp) tg g/\uA (aT X N sc cl C s H fp) ifs tc/\PE (aT X N sc cl C s H fp) elt te)
   (hs:∀ x,foldedSetIterable iter X.env x=pure x:=by intro _;rfl):PE X (.ListComp elt [⟨tg,iter,ifs,0⟩] sc pos) (pT k wi g tc te):=by
 intro pins s σ H Q I h
 rw [eval_ListComp]
 refine ke (use:=none) hcalm hi hsc hnm hNl hin hs I h fun s' H' D C m I' q hn f=>⟨m,hn,fun h' hs'=>?_⟩
 exact ⟨.ref D,H',I'.turned (it:=C) (t':=s'.toks) (fun b o hb e=>hs'.extBut b o hb e) f.1 f.2.1 f.2.2.2.1 f.2.2.2.2.1 f.2.2.2.2.2,rfl,q⟩
theorem oK {elt tg iter:Expr} {ifs:List Expr} {sc:Scope} {pos pos' spos:Pos} {N:List Str} {k i:Nat} {x:Str} {wi:TI} {g:TG} {tc:TT} {te:TE} (hN:X.N.Nodup) (hiN:X.N[i]?=some x) (hx:Loc X.env.scope x) (hcalm:X.calm=true) (hi:PI X tg iter wi) (hsc:iK X.env sc=true)
   (hnm:gp sc (N.drop k) X.N=true) (hNl:k<=N.length) (hin:∀ cl C s H fp,PG (aT X N sc cl C s H fp) tg g/\uA (aT X N sc cl C s H fp) ifs tc/\PE (aT X N sc cl C s H fp) elt te)
   (hsw:swapsWith (.ListComp elt [⟨tg,iter,ifs,0⟩] sc pos) (some (.Name x pos')) spos.line X.env=pure true)
   (hf:X.fn x=true\/X.env.scope.names.lookup x=some .local) (hs:∀ x,foldedSetIterable iter X.env x=pure x:=by intro _;rfl) :
   PS X (.Assign [.Name x pos'] (.ListComp elt [⟨tg,iter,ifs,0⟩] sc pos) spos) (fun D σ H=>pT k wi g tc te σ H fun v H1=>D.nx (σ.set i (some v)) H1):=by
 intro pins s σ H D I h
 rw [exec_Assign_Name_used _ _ _ _ hsw]
 refine wpAny_bind (wpAny_standAt (wpAny_bind ?_))
 show wpAny _ X.A (do let _ ← comprehension (.ListComp elt [⟨tg,iter,ifs,0⟩] sc pos) sc X.env _ (newList []) false (eval iter X.env) (some (assign (.Name x pos') X.env))) _ _ s
 refine wpAny_bind (wpAny_mono (ke (use:=some (assign (.Name x pos') X.env)) (QQ:=fun _ s'=>SP X pins D .next s') hcalm hi hsc hnm hNl hin hs I h fun s' H' D' C m I' q hn f=>?_) (fun _ s' hq=>wpAny_pure (wpAny_pure hq)) fun _ _ e=>e)
 show wpAny _ X.A (assign (.Name x pos') X.env (.ref D')) _ _ _
 refine wpAny_assign_Name (lg I' hN hiN hx (v:=.ref D') rfl (fun s2 I2 ⟨a,hsb,ha⟩=>?_) hf)
 have hCa:C ≠ a:=fun e=>by
   rcases ha with z | z
   · exact f.2.1 (e.trans z)
   · exact f.2.2.2.2.1 x a z e.symm
 refine ⟨m,hn.sameBut hsb hCa,fun h' hs'=>⟨_,H',?_,q⟩⟩
 exact I2.turned (it:=C) (t':=s2.toks) (fun b o hb e=>hs'.extBut b o hb e) f.1 f.2.1 f.2.2.2.1 f.2.2.2.2.1 f.2.2.2.2.2
end
end L2
end
section
namespace VS
open PySem PySem.Spec PyProof.Rows L2
noncomputable def qo (k:Nat) (g:Tg):Prop:=∀ t η η',g t η=some η'->η'.length=η.length/\∀ i,k<=i->η'[i]?=η[i]?
theorem je {k i:Nat} (h:i < k):qo k (bw i):=fun t η η' e=>by
 unfold bw at e
 split at e
 · cases e
   exact ⟨by simp,fun j hj=>by rw [List.getElem?_set_ne (by lia)]⟩
 · cases e
theorem pH:∀ (l:List T) {i:Nat} {t:T},d6 l=true->l[i]?=some t->imm t=true
 | [],_,_,_,h=>by simp at h
 | x :: l,0,t,h,e=>by
   simp only [d6,Bool.and_eq_true] at h
   simp at e;rw [← e];exact h.1
 | x :: l,i+1,t,h,e=>by
   simp only [d6,Bool.and_eq_true] at h
   exact pH l h.2 (by simpa using e)
noncomputable def tC (G:Gx):Option Ex->TT
 | none=>fun σ H Q=>Q true H
 | some c=>tT G c
section
variable {G:Gx} {Φ:Fps} {η:VS.Env} {σ:L2.St} {H:Hp} {k:Nat}
theorem iH {i:Nat} {c:Cell}:(List.replicate k none++η)[i]?=some (some c) ↔ k<=i/\η[i - k]?=some (some c):=by
 rcases Nat.lt_or_ge i k with h | h
 · rw [List.getElem?_append_left (by simpa using h),List.getElem?_replicate]
   constructor
   · intro e;split at e <;> cases e
   · intro ⟨e,_⟩;lia
 · rw [List.getElem?_append_right (by simpa using h),List.length_replicate]
   exact ⟨fun e=>⟨h,e⟩,fun e=>e.2⟩
theorem sd {a:Addr}:bN (fun i=>Φ (i - k)) (List.replicate k none++η) a ↔ bN Φ η a:=by
 constructor
 · rintro ⟨j,t,h1,h2⟩
   exact ⟨j - k,t,(iH.mp h1).2,h2⟩
 · rintro ⟨j,t,h1,h2⟩
   refine ⟨j+k,t,iH.mpr ⟨Nat.le_add_left _ _,by rw [Nat.add_sub_cancel];exact h1⟩,?_⟩
   show a∈Φ (j+k - k)
   rw [Nat.add_sub_cancel];exact h2
theorem uV {a:Addr}:cZ (fun i=>Φ (i - k)) (List.replicate k none++η) a ↔ cZ Φ η a:=by
 constructor
 · rintro ⟨j,t,h1,h2⟩
   exact ⟨j - k,t,(iH.mp h1).2,h2⟩
 · rintro ⟨j,t,h1,h2⟩
   refine ⟨j+k,t,iH.mpr ⟨Nat.le_add_left _ _,by rw [Nat.add_sub_cancel];exact h1⟩,?_⟩
   show a∈Φ (j+k - k)
   rw [Nat.add_sub_cancel];exact h2
theorem SR.sh (s:SR G Φ η σ H):SR G (fun i=>Φ (i - k)) (List.replicate k none++η) (List.replicate k none++σ) H:=by
 refine ⟨by simp [s.len],fun i c h=>?_,fun i t h=>?_,fun i j t c h1 h2 n=>?_⟩
 · obtain ⟨h1,h2⟩:=iH.mp h
   obtain ⟨v,g1,g2⟩:=s.rp _ c h2
   refine ⟨v,?_,g2⟩
   rw [List.getElem?_append_right (by simpa using h1),List.length_replicate]
   exact g1
 · exact s.nd _ t (iH.mp h).2
 · obtain ⟨a1,a2⟩:=iH.mp h1
   obtain ⟨b1,b2⟩:=iH.mp h2
   exact s.sep _ _ t c a2 b2 (by lia)
theorem SR.less {η':VS.Env} (s:SR G Φ η' σ H) (hl:η.length=η'.length) (h:∀ (i:Nat) c,η[i]?=some (some c)->η'[i]?=some (some c)):SR G Φ η σ H :=
 ⟨hl.trans s.len,fun i c e=>s.rp i c (h i c e),fun i t e=>s.nd i t (h i _ e),fun i j t c e1 e2 n=>s.sep i j t c (h i _ e1) (h j _ e2) n⟩
theorem SR.off {D:Addr} {o:HO} (s:SR G Φ η σ H) (m:Mut (H D)\/H D=none) (n1:¬ cZ Φ η D) (n2:¬ bN Φ η D):SR G Φ η σ (upd H D o):=by
 refine ⟨s.len,fun i c e=>?_,s.nd,s.sep⟩
 obtain ⟨v,g1,g2⟩:=s.rp i c e
 refine ⟨v,g1,g2.keep (Kept.upd m) fun b hb o' ho=>?_⟩
 rw [au fun z=>?_]
 · exact ho
 · subst z
   cases c with
   | pu t=>exact n1 ⟨i,t,e,hb⟩
   | ow t=>exact n2 ⟨i,t,e,hb⟩
theorem jw:∀ (l:List Val) (v:Val),bM (l++[v])=(bM l).join v.1
 | [],(m,t)=>by cases m <;> rfl
 | (m,t) :: l,v=>by
   show m.join (bM (l++[v]))=(m.join (bM l)).join v.1
   rw [jw l v]
   generalize bM l=q
   generalize v.1=r
   cases m <;> cases q <;> cases r <;> rfl
theorem Fp.join2 {m n:Md} {F F':List Addr} (f:Fp Φ η H m F) (g:Fp Φ η H n F') (d:n=.fr->∀ a∈F,a ∉ F'):Fp Φ η H (m.join n) (F++F'):=by
 have both:∀ {P:Addr->Prop},(∀ a∈F,P a)->(∀ a∈F',P a)->∀ a∈F++F',P a:=fun p q a h=>(List.mem_append.mp h).elim (p a) (q a)
 cases m <;> cases n
 · exact ⟨List.nodup_append.mpr ⟨f.1,g.1,fun a ha b hb e=>d rfl a ha (e ▸ hb)⟩,both f.2 g.2⟩
 · exact both (fun a ha=>.inl (f.2 a ha)) g
 · exact both (fun a ha=>.inl (f.2 a ha)) g
 · exact both f fun a ha=>.inl (g.2 a ha)
 · exact both f g
 · exact both (fun a ha=>(f a ha).imp id .inl) g
 · exact both f fun a ha=>.inl (g.2 a ha)
 · exact both f fun a ha=>(g a ha).imp id .inl
 · exact both f g
theorem Fp.cons1 {m:Md} {F:List Addr} {D:Addr} (f:Fp Φ η H m F) (h:H D=none) (d:D ∉ F):Fp Φ η H m (D :: F):=by
 have all:∀ {P:Addr->Prop},P D->(∀ a∈F,P a)->∀ a∈D :: F,P a:=fun p q a ha=>(List.mem_cons.mp ha).elim (fun e=>e ▸ p) (q a)
 cases m
 · exact ⟨List.nodup_cons.mpr ⟨d,f.1⟩,all h f.2⟩
 · exact all (.inl h) f
 · exact all (.inl h) f
end
section
variable {G:Gx} {k:Nat} {tg:Tg} {ci:Its} {cond:Option Ex} {ce:Ex}
noncomputable def CI (G:Gx) (Φ:Fps) (η η0:VS.Env) (H H1:Hp) (D:Addr) (l:List T) (all:List Val) (tg:Tg) (cond:Option Ex) (ce:Ex) (i n:Nat) (σ':L2.St) (H':Hp):Prop:=n=l.length - i/\∃ Φ1 vs Fs xs rest,SR G Φ1 η0 σ' H'/\(∀ a,bN Φ1 η0 a->bN Φ η a)/\(∀ a,cZ Φ1 η0 a->H a=none\/cZ Φ η a)/\¬ cZ Φ1 η0 D/\¬ bN Φ1 η0 D/\Kept H1 H' ∧
         (∀ a o,a ≠ D->H1 a=some o->H' a=some o)/\H' D=some (.lst xs)/\RpL G H' xs (trees vs) Fs/\D ∉ Fs.flatten/\Fp Φ η H (bM vs) Fs.flatten/\g9 tg cond ce η0 (l.drop i)=some rest/\vs++rest=all
theorem o8 {σ:L2.St} {H:Hp} {Q:VK} (hin:qo k tg) (h:tE G (de k tg ci cond ce) σ H Q):pT k (tI G ci) (tG G tg) (tC G cond) (tE G ce) σ H Q:=by
 refine L2.eT fun P_ k_=>?_
 obtain ⟨Φ,η,m,r,s,e,kq⟩:=h
 unfold de at e
 obtain ⟨⟨mi,l⟩,el,e1⟩:=Option.bind_eq_some_iff.mp e
 dsimp only at e1
 split at e1
 · rename_i hok
   obtain ⟨all,ea,e2⟩:=Option.bind_eq_some_iff.mp e1
   unfold mkL at e2
   split at e2
   · rename_i hlen
     cases e2
     refine k_ ?_
     refine ⟨Φ,η,mi,l,s,el,fun J H1 C e3 ok fc D hD=>?_⟩
     have hHD:H D=none:=e3.free hD
     let η0:VS.Env:=List.replicate k none++η
     have good:∀ {t:T} {i:Nat} {H' H2:Hp} {v:V} {F:List Addr},l[i]?=some t->Rp G H2 v t F->(∀ a,H1 a ≠ none->H' a ≠ none)->(∀ a∈F,a∈C\/H' a=none)->∀ a∈F,(H a=none\/cZ Φ η a)/\¬ bN Φ η a:=fun {t i H' H2 v F} hi rF keep hF a ha=>by
       have dom:∀ {b},H b ≠ none->H' b ≠ none:=fun {b} hb=>keep b fun z=>hb (e3.free z)
       rcases hF a ha with z | z
       · rcases fc a z with q | q | ⟨q,w⟩
         · exact ⟨.inl q,fun w=>Mut.ne_none (s.ow_dom w) q⟩
         · exact ⟨.inr q,fun w=>s.ow_pu w q⟩
         · subst q
           have:imm t=true:=by
             exact pH l hok hi
           rw [rF.imm this] at ha
           simp at ha
       · have hz:H a=none:=Classical.byContradiction fun q=>dom q z
         exact ⟨.inl hz,fun w=>Mut.ne_none (s.ow_dom w) hz⟩
     refine ⟨CI G Φ η η0 H H1 D l all tg cond ce,?_,?_⟩
     · refine ⟨l.length - 0,rfl,fun i=>Φ (i - k),[],[],[],all,?_,fun a h=>sd.mp h,fun a h=>.inr (uV.mp h),fun h=>?_,fun h=>?_,Kept.upd (.inr hD),fun a o n h=>by rw [au n];exact h,aE,.nil,by simp,Fp.nil,by rw [List.drop_zero];exact ea,rfl⟩
       · exact ((s.same e3).sh).off (.inr hD) (fun h=>Mut.ne_none (s.pu_dom (uV.mp h)) hHD) fun h=>Mut.ne_none (s.ow_dom (sd.mp h)) hHD
       · exact Mut.ne_none (s.pu_dom (uV.mp h)) hHD
       · exact Mut.ne_none (s.ow_dom (sd.mp h)) hHD
     · intro i n σ' H' hh_
       refine L2.eT fun P_ k_=>?_
       obtain ⟨rfl,Φ1,vs,Fs,xs,rest,s1,ow1,pu1,np1,no1,kp,old,hD',rp,nD,fp,er,ev⟩:=hh_
       refine k_ ?_
       have keepdom:∀ a,H1 a ≠ none->H' a ≠ none:=fun a ha z=>by
         by_cases q:a=D
         · subst q;rw [hD'] at z;cases z
         · cases e:H1 a with
           | none=>exact ha e
           | some o=>rw [old a o q e] at z;cases z
       refine L2.eT fun P_ k_=>?_
       obtain ⟨go,stop⟩:=ok.run H' kp fun a ha o ho=>old a o (fun z=>ok.dom a ha (z ▸ hD)) ho
       cases hit:l[i]? with
       | none =>
         have hl:l.length<=i:=List.getElem?_eq_none_iff.mp hit
         refine k_ ?_
         left
         refine ⟨stop i hl,?_⟩
         rw [List.drop_of_length_le hl] at er
         cases (show some ([]:List Val)=some rest from er)
         rw [List.append_nil] at ev
         subst ev
         refine kq (.ref D) H' (D :: Fs.flatten) (fun a o h=>old a o (fun z=>by rw [z,hHD] at h;cases h) (e3 a o h)) (.lst hD' rp) ?_
         by_cases hi:d6 (trees vs)=true
         · rw [if_pos hi,rp.imm hi]
           exact ⟨by simp,fun a ha=>by rw [List.mem_singleton.mp ha];exact hHD⟩
         · rw [if_neg hi]
           exact fp.cons1 hHD nD
       | some t =>
         have hl:i < l.length:=(List.getElem?_eq_some_iff.mp hit).1
         obtain ⟨g1,y1⟩:=go i t hit
         refine k_ ?_
         right
         refine ⟨g1,fun x H2 yl=>?_⟩
         refine L2.eT fun P_ k_=>?_
         obtain ⟨e8,F,rF,hF⟩:=y1 x H2 yl
         rw [kD (tgt:=tg) (body:=gc) (η:=η) hit] at er
         rw [g9] at er
         obtain ⟨η3,e4,e5⟩:=Option.bind_eq_some_iff.mp er
         obtain ⟨b,eb,e6⟩:=Option.bind_eq_some_iff.mp e5
         have gd:=good hit rF keepdom hF
         have s2:=s1.same e8
         have DF:D ∉ F:=fun h=>by
           rcases hF D h with z | z
           · exact ok.dom D z hD
           · rw [hD'] at z;cases z
         refine k_ ?_
         refine ⟨Φ1,η0,t,F,η3,s2,rF,fun a ha z=>(gd a ha).2 (ow1 a z),e4,fun Φ3 σ3 s3 o3 p3=>?_⟩
         obtain ⟨tl,tsame⟩:=hin t η0 η3 e4
         have low:∀ j c,η0[j]?=some (some c)->η3[j]?=some (some c):=fun j c h=>by rw [tsame j (iH.mp h).1];exact h
         have pu3:∀ a,cZ Φ3 η3 a->H a=none\/cZ Φ η a:=fun a h=>(p3 a h).elim (pu1 a) fun h=>(gd a h).1
         have ow3:∀ a,bN Φ3 η3 a->bN Φ η a:=fun a h=>ow1 a (o3 a h)
         have np3:¬ cZ Φ3 η3 D:=fun h=>(p3 D h).elim np1 DF
         have no3:¬ bN Φ3 η3 D:=fun h=>no1 (o3 D h)
         have pul:∀ a,cZ Φ3 η0 a->cZ Φ3 η3 a:=fun a ⟨j,u,h1,h2⟩=>⟨j,u,low j _ h1,h2⟩
         have owl:∀ a,bN Φ3 η0 a->bN Φ3 η3 a:=fun a ⟨j,u,h1,h2⟩=>⟨j,u,low j _ h1,h2⟩
         have rest':∀ H4,aQ H2 H4->(if b=true then tE G ce σ3 H4 fun y H5=>∃ ys,H5 D=some (.lst ys)/\ys.length < sizeLine/\∃ m',m' < l.length - i/\CI G Φ η η0 H H1 D l all tg cond ce (i+1) m' σ3 (upd H5 D (.lst (ys++[y]))) else ∃ m',m' < l.length - i/\CI G Φ η η0 H H1 D l all tg cond ce (i+1) m' σ3 H4):=fun H4 e9=>by
           have eo:∀ {H5},aQ H4 H5->∀ a o,H' a=some o->H5 a=some o:=fun {H5} e10 a o h=>e10 a o (e9 a o (e8 a o h))
           cases b with
           | false =>
             rw [if_neg Bool.false_ne_true] at e6 ⊢
             have same:=eo (aQ.refl H4)
             exact ⟨_,by lia,rfl,Φ3,vs,Fs,xs,rest,(s3.same e9).less (by rw [tl]) low,fun a h=>ow3 a (owl a h),fun a h=>pu3 a (pul a h),fun h=>np3 (pul D h),fun h=>no3 (owl D h),kp.trans ((Kept.of e8).trans (Kept.of e9)),fun a o n h=>same a o (old a o n h),same D _ hD',rp.same (aQ.trans e8 e9),nD,fp,e6,ev⟩
           | true =>
             rw [if_pos rfl] at e6 ⊢
             obtain ⟨⟨mv,tv⟩,ece,e7⟩:=Option.bind_eq_some_iff.mp e6
             obtain ⟨rest1,er1,e7'⟩:=Option.map_eq_some_iff.mp e7
             refine ⟨Φ3,η3,mv,tv,s3.same e9,ece,fun y H5 Fy e10 ry fy=>?_⟩
             have same:=eo e10
             have hD5:=same D _ hD'
             have mD5:Mut (H5 D):=by rw [hD5];exact True.intro
             have hD4:H4 D=some (.lst xs):=e9 D _ (e8 D _ hD')
             have none4:∀ a,H4 a=none->H a=none:=fun a h=>Classical.byContradiction fun q=>keepdom a (fun z=>q (e3.free z)) (e8.free (e9.free h))
             have fyo:Fp Φ η H mv Fy:=by
               cases mv with
               | fr=>exact ⟨fy.1,fun a ha=>none4 a (fy.2 a ha)⟩
               | pu=>exact fun a ha=>(fy a ha).elim (fun z=>.inl (none4 a z)) (pu3 a)
               | bo=>exact fun a ha=>(fy a ha).elim (fun z=>.inl (none4 a z)) fun z=>z.elim (fun z=>(pu3 a z).imp id .inl) fun z=>.inr (.inr (ow3 a z))
             have DFy:D ∉ Fy:=fun h=>by
               cases mv with
               | fr=>have:=fy.2 D h;rw [hD4] at this;cases this
               | pu=>exact (fy D h).elim (fun z=>by rw [hD4] at z;cases z) np3
               | bo=>exact (fy D h).elim (fun z=>by rw [hD4] at z;cases z) fun z=>z.elim np3 no3
             have rp5:RpL G H5 xs (trees vs) Fs:=rp.same ((e8.trans e9).trans e10)
             have lenx:xs.length=vs.length:=by rw [rp.len.1];simp
             have lenv:vs.length < all.length:=by rw [← ev,← e7'];simp
             refine ⟨xs,hD5,?_,_,by lia,rfl,Φ3,vs++[(mv,tv)],Fs++[Fy],xs++[y],rest1,(((s3.same e9).same e10).off (.inl mD5) np3 no3).less (by rw [tl]) low,fun a h=>ow3 a (owl a h),fun a h=>pu3 a (pul a h),fun h=>np3 (pul D h),fun h=>no3 (owl D h),?_,fun a o n h=>?_,aE,?_,?_,?_,er1,?_⟩
             · have hlen':all.length<=d5:=by simpa using hlen
               have:sizeLine=d5:=rfl
               lia
             · exact (kp.trans ((Kept.of e8).trans ((Kept.of e9).trans (Kept.of e10)))).trans (Kept.upd (.inl mD5))
             · rw [au n];exact same a o (old a o n h)
             · have:trees (vs++[(mv,tv)])=trees vs++[tv]:=by simp
               rw [this]
               exact (rp5.off mD5 nD).append (.cons (ry.keep (Kept.upd (.inl mD5)) fun b hb o ho=>by rw [au (fun z=>DFy (by rw [← z];exact hb))];exact ho) .nil)
             · rw [List.flatten_append]
               intro h
               rcases List.mem_append.mp h with z | z
               · exact nD z
               · exact DFy (by simpa using z)
             · rw [List.flatten_append,jw]
               have:([Fy]:List (List Addr)).flatten=Fy:=by simp
               rw [this]
               refine fp.join2 fyo fun hm a ha hb=>?_
               subst hm
               have h4:=fy.2 a hb
               have:Mut (H4 a):=(rp.same (e8.trans e9)).dom a ha
               rw [h4] at this;exact this
             · rw [List.append_assoc,← ev,← e7'];rfl
         cases cond with
         | none =>
           cases (show some true=some b from eb)
           exact rest' H2 (aQ.refl H2)
         | some c =>
           obtain ⟨⟨mc,xc⟩,ec1,ec2⟩:=Option.bind_eq_some_iff.mp eb
           exact ⟨Φ3,η3,mc,xc,b,s3,ec1,ec2,fun H4 e9=>rest' H4 e9⟩
   · cases e2
 · cases e1
end
end VS
namespace VS
open PySem PySem.Spec PyProof.Rows L2
section
variable {G:Gx} {X:Cx} {elt tg iter c:Expr} {sc:Scope} {pos pos' spos:Pos} {N:List Str} {k i:Nat} {x:Str} {ci:Its} {g:Tg} {cc ce:Ex}
theorem xy (k:Nat) (N:List Str) (hcalm:X.calm=true) (hi:PVI G X tg iter ci) (hin:qo k g) (hg:∀ cl C s H fp,PVG G (aT X N sc cl C s H fp) tg g) (he:∀ cl C s H fp,PV G (aT X N sc cl C s H fp) elt ce)
   (hsc:iK X.env sc=true:=by rfl) (hnm:gp sc (N.drop k) X.N=true:=by rfl) (hNl:k<=N.length:=by decide) (hs:∀ x,foldedSetIterable iter X.env x=pure x:=by intro _;rfl) :
   PV G X (.ListComp elt [⟨tg,iter,[],0⟩] sc pos) (de k g ci none ce) :=
 PE.weak (lN hcalm hi hsc hnm hNl (fun cl C s H fp=>⟨hg cl C s H fp,jq,he cl C s H fp⟩) hs) fun σ H Q h=>o8 (cond:=none) hin h
theorem qZ (k:Nat) (N:List Str) (hcalm:X.calm=true) (hi:PVI G X tg iter ci) (hin:qo k g) (hg:∀ cl C s H fp,PVG G (aT X N sc cl C s H fp) tg g) (hc:∀ cl C s H fp,PVT G (aT X N sc cl C s H fp) c cc) (he:∀ cl C s H fp,PV G (aT X N sc cl C s H fp) elt ce)
   (hsc:iK X.env sc=true:=by rfl) (hnm:gp sc (N.drop k) X.N=true:=by rfl) (hNl:k<=N.length:=by decide) (hs:∀ x,foldedSetIterable iter X.env x=pure x:=by intro _;rfl) :
   PV G X (.ListComp elt [⟨tg,iter,[c],0⟩] sc pos) (de k g ci (some cc) ce) :=
 PE.weak (lN hcalm hi hsc hnm hNl (fun cl C s H fp=>⟨hg cl C s H fp,uS (hc cl C s H fp),he cl C s H fp⟩) hs) fun σ H Q h=>o8 (cond:=some cc) hin h
theorem vo {D:Ends} {σ:L2.St} {H:Hp} {ce:Ex} (h:tS G (aK i ce) D σ H):tE G ce σ H fun v H1=>D.nx (σ.set i (some v)) H1:=by
 refine L2.eT fun P_ k_=>?_
 obtain ⟨Φ,η,o,s,e,k⟩:=h
 unfold aK at e
 obtain ⟨⟨m,t⟩,ec,e1⟩:=Option.bind_eq_some_iff.mp e
 refine k_ ?_
 split at e1
 · cases e1
 · rename_i hm
   split at e1
   · rename_i hl
     cases e1
     refine ⟨Φ,η,m,t,s,ec,fun v H' F e3 r3 f3=>?_⟩
     obtain ⟨q1,q2⟩:=s.val (c:=.pu t) hl e3 r3 f3 (.inl ⟨rfl,hm⟩)
     exact k _ _ H' q1 q2
   · cases e1
end
end VS
end
section
namespace L2
open PySem PySem.Spec PyProof.Rows
noncomputable def Ite (K:PySem.W.Frag) (a:Addr):It :=
 ⟨fun i H=>∃ xs x,SqL K H a xs/\xs[i]?=some x,fun i H v H'=>∃ p x,H p=none/\v=.ref p/\H'=upd H p (.tup [.int i,x])/\∀ xs,SqL K H a xs->xs[i]?=some x,fun i H=>∃ xs,SqL K H a xs/\xs.length<=i⟩
theorem qu {P:Program} {w:World} {K:PySem.W.Frag} {elts:List Expr} {n:Nat} {pos:Pos} (a e it:Addr) (hne:e ≠ it):Turn P w K (.Tuple elts n pos) (Ite K a) [e,it] e (fun i h=>(∃ old,IsEnum h e it i old)/\h.IsListIter it a i) where
 mem:=by simp
 obj:=fun i h st b hb=>by
   obtain ⟨⟨old,he⟩,o,ho,c,d⟩:=st
   rcases List.mem_cons.mp hb with rfl | hb
   · exact ⟨_,he,fun v z=>by cases (show Data.fields _=Data.cell v from z)⟩
   · rw [List.mem_singleton.mp hb]
     exact ⟨o,ho,fun v z=>by rw [d] at z;cases z⟩
 keep:=fun i h h' st k=>⟨let ⟨old,he⟩:=st.1;⟨old,k e (by simp) _ he⟩,st.2.at fun o x=>k it (by simp) o x⟩
 item:=by
   intro X hP hw hK hc i pins s σ H E I hf st hg
   subst hP hw hK
   obtain ⟨xs,x,hq,hx⟩:=hg
   obtain ⟨its,rv,p,hz⟩:=I.list hq
   obtain ⟨u,hu,ru⟩:=rv.get hx
   obtain ⟨⟨old,he⟩,hit⟩:=st
   refine wpAny_pyNext_enum_item he hit p.isList (x:=u) (by simpa using hu) hne fun h1 ho hit1 hT hsz hk=>⟨_,rfl,?_⟩
   refine wpAny_letOwnedTupleGo_enum ho fun h2 he2 hs2=>?_
   have hs2:Heap.SameBut e h1 h2:=hs2
   have ltE:e < s.heap.objs.size:=Heap.lt_size he
   have ltI:it < s.heap.objs.size:=let ⟨_,z,_⟩:=hit;Heap.lt_size z
   have hHT:H s.heap.objs.size=none:=I.hok.fresh (Nat.le_refl _)
   have kk:∀ b o,b ∉ [e,it]->s.heap.get? b=some o->h2.get? b=some o:=fun b o hb q=>by
     have h1b:b ≠ e:=fun z=>hb (by simp [z])
     have h2b:b ≠ it:=fun z=>hb (by simp [z])
     exact (hs2.2 b h1b).trans (hk b o h1b h2b q)
   have hT2:h2.get? s.heap.objs.size=some { cls:=.type "tuple",data:=.seq #[.int i s.toks,u] }:=(hs2.2 _ (Nat.ne_of_gt ltE)).trans hT
   have nfp:∀ b o,H b=some o->b ∉ [e,it]:=fun b o q hb=>by rw [(hf b hb).1] at q;cases q
   have lt:∀ b o,s.heap.get? b=some o->b ≠ s.heap.objs.size:=fun b o q=>Nat.ne_of_lt (Heap.lt_size q)
   have up:∀ b o,H b=some o->upd H s.heap.objs.size (.tup [.int i,x]) b=some o:=fun b o q=>by rw [au (bD q hHT)];exact q
   have hok2:HOk X.prog X.w (upd H s.heap.objs.size (.tup [.int i,x])) h2:=fun b ob q=>by
     by_cases hb:b=s.heap.objs.size
     · subst hb
       rw [aE] at q
       cases q
       exact ⟨by show 2<=sizeLine;decide,[.int i s.toks,u],.cons ⟨_,rfl⟩ (.cons ru .nil),NoD.of hT2 rfl,⟨_,hT2,rfl,_,rfl⟩⟩
     · rw [au hb] at q
       refine (I.hok b ob q).stay (fun c v hc' r=>kk c v ?_ r) (fun c r=>up c _ r) fun c ys r=>up c _ r
       rcases hc' with z | z
       · rw [z];exact nfp b ob q
       · exact nfp c _ z
   refine ⟨.ref s.heap.objs.size,upd H s.heap.objs.size (.tup [.int i,x]),?_,rfl,⟨_,x,hHT,rfl,rfl,fun ys hy=>by rw [I.list_inj hy hq];exact hx⟩,⟨⟨u,by simpa using he2⟩,hit1.at fun o y=>(hs2.2 it hne.symm).trans y⟩,fun b hb=>?_⟩
   · show Inv X pins σ _ { s with heap:=h2,gens:=s.gens,drawn:=s.drawn,toks:=s.toks+1 }
     refine I.step (g':=s.gens) (d':=s.drawn) (t':=s.toks+1) (ch:=[e,it]) (fun b hb=>?_) (fun b o _ _ hc' q _=>kk b o hc' q) (fun b o _ _ hc' q _=>⟨o.slots,kk b o hc' q⟩) (fun b o _ q r=>by rw [au (lt b o q)];exact r) (fun b o hc' q=>⟨o,kk b o hc' q⟩)
       (fun b ys q=>up b _ q) (fun b o v q=>up b _ q) (fun b ps q=>⟨#[],by rw [up b _ q];simp⟩) (fun m hm=>?_) hok2 I.bare
     · obtain ⟨f0,f1,f2,f3,f4,f5⟩:=hf b hb
       exact ⟨f3,f1,f4,f5⟩
     · obtain ⟨o,es,ep,ho',r⟩:=hm
       refine ⟨o,es,ep,kk _ o (fun z=>?_) ho',r⟩
       exact (hf _ z).2.1 rfl
   · have:b ≠ s.heap.objs.size:=by
       rcases List.mem_cons.mp hb with rfl | hb
       · exact Nat.ne_of_lt ltE
       · rw [List.mem_singleton.mp hb];exact Nat.ne_of_lt ltI
     rw [au this]
     exact (hf b hb).1
 done:=by
   intro X hP hw hK hc i pins s σ H E I hf st hg
   subst hP hw hK
   obtain ⟨xs,hq,hx⟩:=hg
   obtain ⟨its,rv,p,hz⟩:=I.list hq
   obtain ⟨⟨old,he⟩,hit⟩:=st
   obtain ⟨f0,f1,f2,f3,f4,f5⟩:=hf it (by simp)
   have hl:=rv.length
   exact wpAny_pyNext_enum_end (I.ok.hd hc) he hit p.isList (by simp;lia) fun h' eb=>⟨rfl,I.turned (t':=s.toks) (fun b o hb q=>eb b o hb q) f0 f1 f3 f4 f5⟩
 self:=fun _ _ _ _ _ st h=>let ⟨_,he⟩:=st.1;wpAny_pyIter_enum he h
section
variable {X:Cx} {tg a:Expr} {ta:TA} {p pos:Pos}
noncomputable def BS (K:PySem.W.Frag) (ta:TA):TI:=fun σ H R=>ta σ H fun vs H1=>∃ l,vs=[.ref l]/\(∃ xs,SqL K H1 l xs)/\R (Ite K l) H1
theorem vy {elts:List Expr} {n:Nat} {tpos:Pos} (hg:Gl X "enumerate") (hm:X.mg "enumerate" = none) (ha:PA X [a] ta) (hs:starEach [a] X.env=[(false,eval a X.env)]:=by rfl):PI X (.Tuple elts n tpos) (.Call (.Name "enumerate" p) [a] [] pos) (BS X.K ta):=by
 intro pins s σ H R I h
 refine Call_ (iQ I hg hm boot_enumerate (PyProof.Rows.callWith_type1 (thn (ha pos pins s σ H _ I h) fun us s1 ⟨vs,H1,I1,r1,q1⟩=>?_) hs rfl))
 obtain ⟨l,e,⟨xs,hq⟩,q⟩:=q1
 subst e
 cases r1 with
 | cons r rr =>
   cases rr
   cases r
   obtain ⟨its,rv,pl,hz⟩:=I1.list hq
   refine call_enumerate_list pl.isList fun h' he hit hsz hk=>?_
   refine wpAny_pyIter_enum he ?_
   refine ⟨_,_,_,_,H1,rfl,I1.kept (t':=s1.toks) hk,qu l (s1.heap.objs.size+1) s1.heap.objs.size (Nat.succ_ne_self _),⟨⟨_,he⟩,hit⟩,fun b hb=>?_,q⟩
   have hb':s1.heap.objs.size<=b:=by
     rcases List.mem_cons.mp hb with rfl | hb
     · lia
     · rw [List.mem_singleton.mp hb];exact Nat.le_refl _
   exact I1.fpOk hb' (I1.hok.fresh hb')
end
end L2
namespace VS
open PySem PySem.Spec PyProof.Rows L2
section
variable {G:Gx} {X:Cx} {a:Expr} {ca:Ex} {pos p tpos:Pos} {elts:List Expr} {n:Nat}
theorem mM:∀ (l:List T) (k i:Nat) {t:T},(eE k l)[i]?=some t->∃ x,l[i]?=some x/\t=.tup [.int ((k+i:Nat):Int),x]
 | [],_,_,_,h=>by simp [eE] at h
 | x :: l,k,0,t,h=>by
   simp [eE] at h
   exact ⟨x,rfl,by rw [← h];rfl⟩
 | x :: l,k,i+1,t,h=>by
   obtain ⟨y,h1,h2⟩:=mM l (k+1) i (by simpa [eE] using h)
   refine ⟨y,by simpa using h1,?_⟩
   rw [h2,show k+1+i=k+(i+1) by lia]
theorem lq:∀ (l:List T) (k:Nat),(eE k l).length=l.length
 | [],_=>rfl
 | x :: l,k=>by simp [eE,lq l (k+1)]
theorem vT {H:Hp} {a:Addr} {vs:List V} {ts:List T} {Fs:List (List Addr)} (K:PySem.W.Frag) (ha:H a=some (.lst vs)) (r:RpL G H vs ts Fs):ItOk G (Ite K a) (eE 0 ts) (a :: Fs.flatten) H:=by
 refine ⟨fun H2 k c=>?_,fun b hb=>?_⟩
 · have ha2:H2 a=some (.lst vs):=c a List.mem_cons_self _ ha
   have r2:RpL G H2 vs ts Fs:=r.keep k fun b hb o ho=>c b (List.mem_cons_of_mem _ hb) o ho
   refine ⟨fun i t h=>?_,fun i h=>⟨vs,SqL.of ha2,by rw [lq] at h;rw [r.len.1];exact h⟩⟩
   obtain ⟨y,hy,et⟩:=mM ts 0 i h
   rw [Nat.zero_add] at et
   obtain ⟨v,F,h1,h2,h3⟩:=r2.get i hy
   refine ⟨⟨vs,v,SqL.of ha2,h1⟩,fun x H3 ⟨p,z,hp,e1,e2,e3⟩=>?_⟩
   subst e1 e2
   have ex:=e3 vs (SqL.of ha2)
   rw [h1] at ex
   cases ex
   have sm:aQ H2 (upd H2 p (.tup [.int i,v])):=fun b o q=>by rw [au (bD q hp)];exact q
   refine ⟨sm,F,?_,fun b hb=>.inl (List.mem_cons_of_mem _ (eA h2 hb))⟩
   rw [et]
   have:F=([[],F]:List (List Addr)).flatten:=by simp
   rw [this]
   exact .tup aE (.cons (.int _) (.cons (h3.same sm) .nil))
 · rcases List.mem_cons.mp hb with rfl | hb
   · rw [ha];exact fun z=>nomatch z
   · exact Mut.ne_none (r.dom b hb)
theorem sQ (ha:PV G X a ca) (hg:Gl X "enumerate") (hm:X.mg "enumerate" = none) (hs:starEach [a] X.env=(false,eval a X.env) :: starEach [] X.env:=by rfl) (hs':starEach [a] X.env=[(false,eval a X.env)]:=by rfl) :
   PVI G X (.Tuple elts n tpos) (.Call (.Name "enumerate" p) [a] [] pos) (kJ ca) :=
 PI.weak (vy hg hm (d7 ha fC hs) hs') fun σ H R ⟨Φ,η,m,l,s,e,k⟩=>by
   unfold kJ at e
   obtain ⟨⟨mx,x⟩,ea,e1⟩:=Option.bind_eq_some_iff.mp e
   refine ⟨Φ,η,mx,x,s,ea,fun v H' F e3 r3 f3=>?_⟩
   cases x with
   | lst ts =>
     cases e1
     obtain ⟨a',vs,Fs,rfl,rfl,ha',ra⟩:=r3.lst_inv
     exact ⟨a',rfl,⟨vs,SqL.of ha'⟩,k _ H' _ e3 (vT X.K ha' ra) f3.c⟩
   | _=>cases e1
end
end VS
end
section
namespace VS
open PySem PySem.Spec PyProof.Rows L2
noncomputable instance {s:Tx}:Decidable (gr s):=inferInstanceAs (Decidable (_/\_))
section
variable {G:Gx} {X:Cx} {a b c e:Expr} {es:List Expr} {ca cb cc:Ex} {cs:Exs} {pos p p1 p2 apos cpos:Pos} {k k':Nat}
theorem w_add (ha:PV G X a ca) (hb:PV G X b cb):PV G X (.BinOp a .Add b pos) (e2 bt ca cb):=ju vW yw ha hb
theorem w_sub (ha:PV G X a ca) (hb:PV G X b cb):PV G X (.BinOp a .Sub b pos) (e2 iV ca cb):=ju yd zP ha hb
theorem w_mul (ha:PV G X a ca) (hb:PV G X b cb):PV G X (.BinOp a .Mult b pos) (e2 dY ca cb):=ju yC yF ha hb
theorem xZ (ha:PV G X a ca) (hb:PV G X b cb):PV G X (.BinOp a .FloorDiv b pos) (e2 dU ca cb):=ju vA xm ha hb
theorem w_mod (ha:PV G X a ca) (hb:PV G X b cb):PV G X (.BinOp a .Mod b pos) (e2 oMod ca cb):=ju yp yD ha hb
theorem An (ha:PV G X a ca) (hb:PV G X b cb):PVT G X (.Compare a [.Lt] [b] pos) (e2 oLt ca cb):=gR za AY ng ha hb (iX _)
theorem w_eq (hr:Room k X.A) (ha:PV G X a ca) (hb:PV G X b cb):PV G X (.Compare a [.Eq] [b] pos) (e2 oEq ca cb):=yc (sZ hr.units) xU ha hb (iX _)
theorem Bf (hr:Room k X.A) (ha:PV G X a ca) (hb:PV G X b cb):PVT G X (.Compare a [.Eq] [b] pos) (e2 oEq ca cb):=gR (sZ hr.units) xU tells_eq ha hb (iX _)
theorem AN (hr:Room k X.A) (ha:PV G X a ca) (hb:PV G X b cb):PVT G X (.Compare a [.NotEq] [b] pos) (e2 oNe ca cb):=gR (zJ hr.units) AF su ha hb (iX _)
theorem AI (ha:PV G X a ca) (hb:PV G X b cb) (hs:fF b:=by intro _ _;rfl) (hK:X.K=G.K:=by rfl):PV G X (.Subscript a b pos) (e2 aS ca cb) :=
 PE.weak (uQ tL ha hb hs) fun σ H Q h=>by rw [hK];exact jR uE h
theorem Au (hm:X.mg "len" = none) (ha:PVs G X [e] cs) (hg:Gl X "len" := by rfl) (hK:X.K=G.K:=by rfl) (he:starEach [e] X.env=(false,eval e X.env) :: starEach [] X.env:=by rfl):PV G X (.Call (.Name "len" p) [e] [] pos) (eN dR cs) :=
 iz (hK ▸ rj) zd hg hm PySem.boot_len ha (he:=he) (hpl:=rfl)
theorem xY:bootBuiltins ("max" : Str)=some (.builtin "max"):=by decide +kernel
theorem zR:bootBuiltins ("min" : Str)=some (.builtin "min"):=by decide +kernel
theorem wK:bootBuiltins ("list" : Str)=some (.type "list"):=by decide +kernel
theorem yi (hm:X.mg "min" = none) (ha:PVs G X [a,b] cs) (hc:X.calm=true:=by rfl) (hg:Gl X "min" := by rfl) (he:starEach [a,b] X.env=(false,eval a X.env) :: starEach [b] X.env:=by rfl) (hpl:(backTo pos (starEach [b] X.env)).any (·.1)=false:=by rfl):PV G X (.Call (.Name "min" p) [a,b] [] pos) (eN lh cs) :=
 iz (qR hc) vq hg hm zR ha (he:=he) (hpl:=hpl)
noncomputable def tyN:Ty->Str
 | .int => "int" | .str => "str" | .bool => "bool" | .list => "list" | .tuple => "tuple" | .dict => "dict"
theorem BD (t:Ty):bootBuiltins (tyN t)=some (.type (tyS t)):=by cases t <;> decide +kernel
theorem w_is (t:Ty) (hm:X.mg "isinstance" = none) (hm2:X.mg (tyN t)=none) (ha:PV G X a ca) (hg:Gl X "isinstance" := by rfl) (hg2:Gl X (tyN t):=by rfl) (hK:X.K=G.K:=by rfl)
   (hs:starEach [a,.Name (tyN t) p2] X.env=(false,eval a X.env) :: starEach [.Name (tyN t) p2] X.env:=by rfl):PV G X (.Call (.Name "isinstance" p1) [a,.Name (tyN t) p2] [] pos) (eIs t ca) :=
 Aj t ha hg hm hg2 hm2 (BD t) hK (by cases t <;> decide) (by cases t <;> decide) hs rfl rfl
theorem uC (i:Nat) {x:Str} (ha:PVs G X [e] cs) (hK:X.K=G.K:=by rfl)
   (hN:X.N[i]?=some x:=by rfl) (hv:Vis X.env.scope x:=by first | exact Or.inl rfl | exact Or.inr (Or.inl rfl) | exact Or.inr (Or.inr rfl)) (hd:(x == ("__debug__" : Str))=false:=by decide)
   (hcd:(x == ("__classdict__" : Str))=false:=by decide) (hfew:((backTo cpos (starEach [e] X.env)).all (fun x=>!x.1) && (backToKw cpos (keywordEach [] X.env)).all (fun x=>x.1.isSome)
     && decide ([e].length+([]:List Keyword).length+(if ([]:List Keyword).isEmpty then 0 else 1) < 30))=true:=by rfl)
   (hline:(apos.endLine == cpos.line)=true:=by rfl) (hs:starEach [e] X.env=(false,eval e X.env) :: starEach [] X.env:=by rfl) :
   PSV G X (.Expr (.Call (.Attribute (.Name x p1) "append" apos) [e] [] cpos) pos) (sX (j7 i [] bg cs)) :=
 sA i PySem.F.plainAttrs_list PySem.F.slot_list_append PySem.F.type_list_append gQ iY (fun H v t F l z r h=>gy r h) ha hK hN hv hd hcd rfl hfew hline hs rfl rfl
end
structure FnAt (P:Program) (w:World) (K:PySem.W.Frag) (mg:Str->Option Value) (base:Heap) (k:Nat) (x:Str) (ps:List Str) (G:Gx) (g:Fn):Prop where
 ex:∃ f fd,FnOk P w K mg base CX0 k f fd ps (spF G g)/\mg x=some (.ref f)/\PySem.W.keepIn K (.ref f)=true/\Binds K fd ps []
section
variable {G:Gx} {X:Cx} {e:Expr} {es:List Expr} {cs:Exs} {pos p:Pos} {k k':Nat} {x:Str} {ps:List Str} {g:Fn}
theorem xV (F:FnAt X.prog X.w X.K X.mg X.base k x ps G g) (hr:Room k' X.A) (ha:PVs G X (e :: es) cs) (hk:k<=k':=by decide) (hg:Gl X x:=by rfl) (hdb:(x == ("__debug__" : Str))=false:=by decide)
   (he:starEach (e :: es) X.env=(false,eval e X.env) :: starEach es X.env:=by rfl) (hpl:(backTo pos (starEach es X.env)).any (·.1)=false:=by rfl) :
   PV G X (.Call (.Name x p) (e :: es) [] pos) (aJ g cs):=by
 obtain ⟨f,fd,h1,h2,h3,h4⟩:=F.ex
 exact wa h1 (hr.mono hk) hg h2 h3 h4 ha hdb he hpl
end
section
variable {G:Gx} {P:Program} {w:World} {K:PySem.W.Frag} {mg:Str->Option Value} {base:Heap}
theorem AX {x:Str} {st:Stmt} {f:Addr} {fd:FuncData} {N ps:List Str} {k np nn:Nat} {c:Sx} (F:Fun K x x st f fd) (hm:mg x=some (.ref f)) (S:FnScope N ps (ao st)) (hp:ps.length=np) (hn:N.length=nn)
   (hbd:∀ (kV doc pm:Value) (an:Option Addr) (cdv ct:Value) (us:List Value),us.length=ps.length->bindArgs (PySem.W.fnOf x x (aX st) (aR st) (ao st) .none kV doc pm an cdv ct) ⟨us,[]⟩=pure (ps.zip us))
   (hb:∀ (cdv:Value) (A:Around) (outer:List PySem.Env) (s:Shared) (H:Hp) (E:XK),Room k (A.deeper (envOfC x (ao st) s.heap.objs.size f cdv))->eO G (kc CX0 P w K mg base N x (ao st) f cdv A outer s H E).nox (aR st) c) :
   FnAt P w K mg base (k+1) x ps G (fn np nn c) :=
 ⟨f,fd,fnV F S hp hn hb,hm,F.kp,F.binds hbd⟩
end
end VS
end
section
namespace L2
open PySem PySem.Spec PyProof.Rows
noncomputable def Its (x:Str):It:=⟨fun i _=>i < x.cps.size,fun i H v H'=>H'=H/\∃ c,x.cps[i]?=some c/\v=.str ⟨#[c]⟩,fun i _=>x.cps.size<=i⟩
theorem lu {P:Program} {w:World} {K:PySem.W.Frag} {tg:Expr} (x:Str) (t:Tok) (it:Addr) (ty:String) (hn:["enumerate", "zip", "dict_itemiterator", "dict_reverseitemiterator", "odict_iterator", "itertools.zip_longest", "itertools.pairwise"].contains ty=false)
   (W:∀ A:Around,A.handled=none->Walks P w A it [it] [it] x.cps.size (fun i v=>∃ c u,x.cps[i]?=some c/\v=.str ⟨#[c]⟩ u) (fun i h=>h.IsStrIter it ty x t i)) (hend:∀ (A:Around),A.handled=none->∀ (i:Nat) (s:Shared) (Q:Option Value->Shared->Prop) (E:Value->Shared->Prop),s.heap.IsStrIter it ty x t i->x.cps[i]?=none->(∀ h',Heap.ExtBut it s.heap h'->Q none { s with heap:=h' })->wpAny (model P w) A (pyNext (.ref it)) Q E s)
   (hself:∀ (A:Around) (i:Nat) (s:Shared) (Q:Value->Shared->Prop) (E:Value->Shared->Prop),s.heap.IsStrIter it ty x t i->Q (.ref it) s->wpAny (model P w) A (pyIter (.ref it)) Q E s) :
   Turn P w K tg (Its x) [it] it (fun i h=>h.IsStrIter it ty x t i) where
 mem:=by simp
 obj:=fun i h st b hb=>by
   rw [List.mem_singleton.mp hb]
   obtain ⟨o,e,c,d⟩:=st
   exact ⟨o,e,fun v z=>by rw [d] at z;cases z⟩
 keep:=fun i h h' st k=>let ⟨o,e,r⟩:=st;⟨o,k it (by simp) o e,r⟩
 item:=by
   intro X hP hw hK hc i pins s σ H E I hf st hg
   subst hP hw hK
   obtain ⟨f0,f1,f2,f3,f4,f5⟩:=hf it (by simp)
   refine (W X.A (I.ok.hd hc)).item i s _ _ hg st fun v h' tk hv st' kk=>?_
   obtain ⟨c,u,hc',rfl⟩:=hv
   have I1:Inv X pins σ H { s with heap:=h',toks:=tk }:=I.turned (fun b o hb e=>kk b o (by simpa using hb) e) f0 f1 f3 f4 f5
   obtain ⟨o,e,c1,d⟩:=id st'
   exact ⟨_,rfl,kI (s:={ s with heap:=h',toks:=tk }) e c1 d hn ⟨.str ⟨#[c]⟩,H,I1,⟨u,rfl⟩,⟨rfl,c,hc',rfl⟩,st',fun b hb=>(hf b hb).1⟩⟩
 done:=by
   intro X hP hw hK hc i pins s σ H E I hf st hg
   subst hP hw hK
   obtain ⟨f0,f1,f2,f3,f4,f5⟩:=hf it (by simp)
   have hx:x.cps.size<=i:=hg
   exact hend X.A (I.ok.hd hc) i s _ _ st (by simp [hx]) fun h' eb=>⟨rfl,I.turned (t':=s.toks) (fun b o hb e=>eb b o hb e) f0 f1 f3 f4 f5⟩
 self:=fun A i s Q E st h=>hself A i s Q E st h
theorem t9 {P:Program} {w:World} {K:PySem.W.Frag} {tg:Expr} (x:Str) (t:Tok) (it:Addr):Turn P w K tg (Its x) [it] it (fun i h=>h.IsStrIter it (strIterType x) x t i):=by
 cases ha:x.cps.all (· < 128)
 · have e:strIterType x = "str_iterator" := by simp [strIterType,ha]
   rw [e]
   exact lu x t it "str_iterator" rfl (fun A hA=>Walks.strWide hA it x t) (fun A hA i s Q E st hx q=>wpAny_pyNext_wide_end hA st hx q) fun A i s Q E st q=>wpAny_pyIter_striter_wide st q
 · have e:strIterType x = "str_ascii_iterator" := by simp [strIterType,ha]
   rw [e]
   exact lu x t it "str_ascii_iterator" rfl (fun A hA=>Walks.strAscii hA it x t) (fun A hA i s Q E st hx q=>wpAny_pyNext_ascii_end hA st hx q) fun A i s Q E st q=>wpAny_pyIter_striter_ascii st q
section
variable {X:Cx} {tg l a b c:Expr} {tl ta tb tc:TE} {pos:Pos}
noncomputable def Ai (K:PySem.W.Frag) (tl:TE):TI:=fun σ H R=>tl σ H fun x H1=>(∃ a,x=.ref a/\(∃ xs,SqL K H1 a xs)/\R (Itl K a) H1)\/(∃ a,x=.ref a/\(∃ xs,SqT K H1 a xs)/\R (Itt K a) H1)\/∃ z,x=.str z/\R (Its z) H1
theorem wH (hl:PE X l tl):PI X tg l (Ai X.K tl):=by
 intro pins s σ H R I h
 refine thn (hl pins s σ H _ I h) fun v s1 ⟨x,H1,I1,r1,q1⟩=>?_
 have fp1:∀ b∈[s1.heap.objs.size],ic X pins H1 b:=fun b hb=>by
   rw [List.mem_singleton.mp hb]
   exact I1.fpOk (Nat.le_refl _) (I1.hok.fresh (Nat.le_refl _))
 rcases q1 with ⟨a,e,⟨xs,hq⟩,q⟩ | ⟨a,e,⟨xs,hq⟩,q⟩ | ⟨z,e,q⟩
 · subst e
   cases r1
   obtain ⟨its,rv,p,hz⟩:=I1.list hq
   exact wpAny_pyIter_list p.isList ⟨s1.heap.objs.size,[s1.heap.objs.size],_,_,H1,rfl,I1.kept (t':=s1.toks) fun b o e=>Heap.get?_push_of_some _ e,ql a _,⟨_,Heap.get?_push_size _ rfl,rfl,rfl⟩,fp1,q⟩
 · subst e
   cases r1
   obtain ⟨its,rv,p,hz⟩:=I1.tuple hq
   exact wpAny_pyIter_tuple (show s1.heap.IsTuple a its.toArray from p) ⟨s1.heap.objs.size,[s1.heap.objs.size],_,_,H1,rfl,I1.kept (t':=s1.toks) fun b o e=>Heap.get?_push_of_some _ e,oB a _,⟨_,Heap.get?_push_size _ rfl,rfl,rfl⟩,fp1,q⟩
 · subst e
   obtain ⟨t,rfl⟩:=r1
   exact wpAny_pyIter_strU ⟨s1.heap.objs.size,[s1.heap.objs.size],_,_,H1,rfl,I1.kept (t':=s1.toks) fun b o e=>Heap.get?_push_of_some _ e,t9 z t _,⟨_,Heap.get?_push_size _ rfl,rfl,rfl⟩,fp1,q⟩
theorem pQ {s:Shared} {h':Heap} {o:Obj} (hk:∀ b x,b ∉ [s.heap.objs.size]->(s.heap.push o).get? b=some x->h'.get? b=some x) (b:Addr) (x:Obj) (e:s.heap.get? b=some x):h'.get? b=some x :=
 hk b x (fun hm=>Nat.lt_irrefl _ (by have:=Heap.lt_size e;rw [List.mem_singleton.mp hm] at this;exact this)) (Heap.get?_push_of_some _ e)
theorem uR (hc:X.calm=true):dB X (.builtin "sum") (fun xs H Q=>∃ p,∃ ns:List Int,xs=[.ref p]/\SqL X.K H p (ns.map V.int)/\Q (.int ns.sum) H):=by
 intro pins s σ H xs us Q I rx h
 obtain ⟨p,ns,rfl,hq,q⟩:=h
 obtain ⟨u,rfl,ru⟩:=rx.one
 cases ru
 obtain ⟨its,rv,pl,hz⟩:=I.list hq
 have hl:p < s.heap.objs.size:=by obtain ⟨_,e,_⟩:=pl.isList;exact Heap.lt_size e
 refine call_sum_walkG (wpAny_pyIter_list pl.isList ⟨s.heap.objs.size,[s.heap.objs.size,p],[s.heap.objs.size],its.toArray.size,_,_,fun i=>(ns[i]?).getD 0,rfl,Walks.list (A:=X.A.in1) (I.ok.hd hc) _ p (Nat.ne_of_lt hl) its.toArray,
   ⟨⟨_,Heap.get?_push_size _ rfl,rfl,rfl⟩,pl.isList.push _⟩,fun b hb=>?_,fun i v hP=>?_,fun h' tk t' hk=>⟨.int ns.sum,H,I.kept (pQ hk),⟨t',?_⟩,q⟩⟩)
 · rw [Heap.size_push]
   rcases List.mem_cons.mp hb with rfl | hb
   · exact Nat.lt_succ_self _
   · rw [List.mem_singleton.mp hb];exact Nat.lt_succ_of_lt hl
 · have hv:its[i]?=some v:=by simpa using hP
   cases e:ns[i]? with
   | none =>
     have:=rv.none_of (i:=i) (by rw [List.getElem?_map,e];rfl)
     rw [this] at hv;cases hv
   | some n =>
     obtain ⟨u,hu,ru⟩:=rv.get (i:=i) (x:=.int n) (by rw [List.getElem?_map,e];rfl)
     rw [hu] at hv;cases hv
     obtain ⟨t,rfl⟩:=ru
     exact ⟨t,by simp [e]⟩
 · have hlen:its.toArray.size=ns.length:=by have:=rv.length;simp at this ⊢;lia
   have:∀ k,k<=ns.length->preSum (fun i=>(ns[i]?).getD 0) k=(ns.take k).sum:=fun k=>by
     induction k with
     | zero=>intro _;simp [preSum]
     | succ k ih =>
       intro hk
       rw [List.take_succ,List.sum_append,preSum,ih (by lia)]
       cases e:ns[k]? <;> simp
   rw [hlen,this _ (Nat.le_refl _),List.take_length]
theorem qM:OpR X (compareOp .Gt) (fun x y H Q=>∃ i j,x=.str i/\y=.str j/\Q (.bl (decide (j.cps.toList < i.cps.toList))) H):=by
 intro pins s σ H x y v u Q I rx ry h
 obtain ⟨i,j,rfl,rfl,q⟩:=h
 obtain ⟨t,rfl⟩:=rx
 obtain ⟨t',rfl⟩:=ry
 exact PySem.P.gt_str ⟨.bl _,H,I,rfl,q⟩
theorem qP:OpR X (compareOp .GtE) (fun x y H Q=>∃ i j,x=.str i/\y=.str j/\Q (.bl (!decide (i.cps.toList < j.cps.toList))) H):=by
 intro pins s σ H x y v u Q I rx ry h
 obtain ⟨i,j,rfl,rfl,q⟩:=h
 obtain ⟨t,rfl⟩:=rx
 obtain ⟨t',rfl⟩:=ry
 exact PySem.P.ge_str ⟨.bl _,H,I,rfl,q⟩
end
end L2
end
section
namespace VS
open PySem PySem.Spec PyProof.Rows L2
section
variable {G:Gx} {X:Cx} {a b c e tg:Expr} {es:List Expr} {ca cb cc:Ex} {cs:Exs} {pos p p1 p2 apos cpos:Pos} {k k':Nat}
theorem zm (H:Hp) (s:Tx) (ok:gr s):ItOk G (L2.Its (sx s)) (s.map fun c=>T.str [c]) [] H:=by
 have sz:(sx s).cps.size=s.length:=rfl
 refine ⟨fun H2 _ _=>⟨fun i t h=>?_,fun i h=>(by rw [List.length_map] at h;show (sx s).cps.size<=i;lia)⟩,fun a h=>by simp at h⟩
 rw [List.getElem?_map] at h
 obtain ⟨c,hc,rfl⟩:=Option.map_eq_some_iff.mp h
 refine ⟨(by show i < (sx s).cps.size;have:=(List.getElem?_eq_some_iff.mp hc).1;lia),fun x H3 ⟨e1,c',hc',e2⟩=>?_⟩
 subst e1
 have:c'=c:=by
   have h1:(sx s).cps[i]?=some c:=by simp [sx,hc]
   rw [h1] at hc';exact (Option.some.inj hc').symm
 subst this
 rw [e2]
 exact ⟨aQ.refl _,[],.str [c'] ⟨(by show 1<=d5;decide),fun d hd=>by rw [List.mem_singleton.mp hd];exact ok.2 c' (List.mem_of_getElem? hc)⟩,fun a h=>by simp at h⟩
theorem va (ha:PV G X a ca) (hK:X.K=G.K:=by rfl):PVI G X tg a (fq ca) :=
 PI.weak (wH ha) fun σ H R ⟨Φ,η,m,l,s,e,k⟩=>by
   unfold fq at e
   obtain ⟨⟨mx,x⟩,ea,e1⟩:=Option.bind_eq_some_iff.mp e
   refine ⟨Φ,η,mx,x,s,ea,fun v H' F e3 r3 f3=>?_⟩
   cases x with
   | lst ts =>
     cases e1
     obtain ⟨a',vs,Fs,rfl,rfl,ha',ra⟩:=r3.lst_inv
     exact .inl ⟨a',rfl,⟨vs,SqL.of ha'⟩,k _ H' _ e3 (u7 X.K ha' ra) f3.c⟩
   | tup ts =>
     cases e1
     obtain ⟨a',vs,Fs,rfl,rfl,ha',ra⟩:=r3.tup_inv
     exact .inr (.inl ⟨a',rfl,⟨vs,SqT.of ha'⟩,k _ H' _ e3 (yq X.K ha' ra) f3.c⟩)
   | str z =>
     cases e1
     obtain ⟨rfl,ok⟩:=r3.str_inv
     exact .inr (.inr ⟨_,rfl,k _ H' [] e3 (zm H' z ok) fun a h=>by simp at h⟩)
   | _=>cases e1
theorem lC {H:Hp}:∀ {vs:List V} {l:List T} {Fs:List (List Addr)} {ss:List Int},RpL G H vs l Fs->gD l=some ss->vs=ss.map V.int
 | _,_,_,_,.nil,e=>by cases e;rfl
 | _,_,_,_,.cons (t:=t) r q,e=>by
   cases t with
   | int s =>
     simp only [gD] at e
     obtain ⟨ss',e1,e2⟩:=Option.map_eq_some_iff.mp e
     subst e2
     rw [lC q e1,r.int_inv]
     rfl
   | _=>cases e
theorem zU:fg G (fun xs H Q=>∃ p,∃ ns:List Int,xs=[.ref p]/\SqL G.K H p (ns.map V.int)/\Q (.int ns.sum) H) q0:=by
 intro Φ η H0 H l vs Fs m t Q A e k
 unfold q0 at e
 split at e
 · rename_i mx x
   obtain ⟨is,e1,e2⟩:=Option.bind_eq_some_iff.mp e
   cases e2
   obtain ⟨v,F,rfl,rfl,rx⟩:=(show RpL G H vs [.lst x] Fs from A.rp).one
   obtain ⟨a,ys,Gs,rfl,rfl,ha,ra⟩:=rx.lst_inv
   exact ⟨a,is,rfl,by rw [← lC ra e1];exact SqL.of ha,bj k (.int _)⟩
 · cases e
theorem yJ:bootBuiltins ("sum" : Str)=some (.builtin "sum"):=by decide +kernel
theorem tX:bootBuiltins ("tuple" : Str)=some (.type "tuple"):=by decide +kernel
theorem w_sum (hm:X.mg "sum" = none) (ha:PVs G X [e] cs) (hg:Gl X "sum" := by rfl) (hK:X.K=G.K:=by rfl) (hc:X.calm=true:=by rfl) (he:starEach [e] X.env=(false,eval e X.env) :: starEach [] X.env:=by rfl):PV G X (.Call (.Name "sum" p) [e] [] pos) (eN q0 cs) :=
 iz (uR hc) (hK ▸ zU) hg hm yJ ha (he:=he) (hpl:=rfl)
theorem uN:fg G (fun xs H Q=>∃ p ys,xs=[.ref p]/\((SqL G.K H p ys/\∀ l,H l=none->Q (.ref l) (upd H l (.tup ys)))\/(SqT G.K H p ys/\Q (.ref p) H))) eW:=by
 intro Φ η H0 H l vs Fs m t Q A e k
 unfold eW at e
 split at e
 · rename_i mx x
   split at e
   · rename_i hl
     cases e
     obtain ⟨v,F,rfl,rfl,rx⟩:=(show RpL G H vs [.lst x] Fs from A.rp).one
     obtain ⟨a,ys,Gs,rfl,rfl,ha,ra⟩:=rx.lst_inv
     have f:=(A.fp.each 0 _ _ rfl rfl).sub (List.sublist_cons_self _ _)
     refine ⟨a,ys,rfl,.inl ⟨SqL.of ha,fun q hq=>?_⟩⟩
     have sm:aQ H (upd H q (.tup ys)):=cQ hq
     have r:Rp G (upd H q (.tup ys)) (.ref q) (.tup x) Gs.flatten:=.tup aE (ra.same sm)
     exact k _ _ _ sm r (f.up r)
   · cases e
 · cases e
theorem xA (hm:X.mg "tuple" = none) (ha:PVs G X [e] cs) (hg:Gl X "tuple" := by rfl) (hK:X.K=G.K:=by rfl) (he:starEach [e] X.env=(false,eval e X.env) :: starEach [] X.env:=by rfl):PV G X (.Call (.Name "tuple" p) [e] [] pos) (eN eW cs) :=
 kf j8 (hK ▸ uN) hg hm tX ha (he:=he) (hpl:=rfl)
noncomputable def rGt:R2:=fun x y H Q=>rI0 (fun i j=>.bl (decide (j < i))) x y H Q\/(∃ i j,x=.str i/\y=.str j/\Q (.bl (decide (j.cps.toList < i.cps.toList))) H)
noncomputable def rGe:R2:=fun x y H Q=>rI0 (fun i j=>.bl (decide (j<=i))) x y H Q\/(∃ i j,x=.str i/\y=.str j/\Q (.bl (!decide (i.cps.toList < j.cps.toList))) H)
theorem rR (s t:Tx):decide ((sx s).cps.toList < (sx t).cps.toList)=ltx s t:=by rw [jQ];exact decide_eq_decide.mpr (by simp [sx])
theorem Bq:eP G rGt oGt:=by
 intro Φ η H0 H x y u w F1 F2 m t Q tw e k
 obtain ⟨m1,x⟩:=x
 obtain ⟨m2,y⟩:=y
 obtain ⟨same,r1,r2,f1,f2,nd⟩:=tw
 unfold oGt oLt at e
 split at e
 · rename_i e1 e2
   cases e1
   cases e2
   cases e
   exact .inl ⟨_,_,r1.int_inv,r2.int_inv,bj k (.bl _)⟩
 · rename_i s _ s' e1 e2
   cases e1
   cases e2
   cases e
   refine .inr ⟨_,_,r1.str_inv.1,r2.str_inv.1,?_⟩
   rw [rR]
   exact bj k (.bl _)
 · cases e
theorem Ac:eP G rGe oGe:=by
 intro Φ η H0 H x y u w F1 F2 m t Q tw e k
 obtain ⟨m1,x⟩:=x
 obtain ⟨m2,y⟩:=y
 obtain ⟨same,r1,r2,f1,f2,nd⟩:=tw
 unfold oGe oLe at e
 split at e
 · rename_i e1 e2
   cases e1
   cases e2
   cases e
   exact .inl ⟨_,_,r1.int_inv,r2.int_inv,bj k (.bl _)⟩
 · rename_i s _ s' e1 e2
   cases e1
   cases e2
   cases e
   refine .inr ⟨_,_,r1.str_inv.1,r2.str_inv.1,?_⟩
   rw [rR]
   exact bj k (.bl _)
 · cases e
theorem uW:Tells oGt:=fun x y m t e=>ng y x m t e
theorem tW:Tells oGe:=fun x y m t e=>mY y x m t e
theorem Bj (ha:PV G X a ca) (hb:PV G X b cb):PVT G X (.Compare a [.Gt] [b] pos) (e2 oGt ca cb):=gR (r:=rGt) (AG.or qM) Bq uW ha hb (iX _)
theorem AV (ha:PV G X a ca) (hb:PV G X b cb):PVT G X (.Compare a [.GtE] [b] pos) (e2 oGe ca cb):=gR (r:=rGe) (Bw.or qP) Ac tW ha hb (iX _)
theorem uM {r r':R2} {f g:Val->Val->Option Val} (ok:eP G r f) (ok':eP G r' g) {σ:L2.St} {H:Hp} {Q:VK} (h:tE G (fQ f g ca cb cc) σ H Q):tB r r' (tE G ca) (tE G cb) (tE G cc) σ H Q:=by
 obtain ⟨Φ,η,m,t,s,e,k⟩:=h
 unfold fQ at e
 obtain ⟨x,ea,e⟩:=Option.bind_eq_some_iff.mp e
 obtain ⟨y,eb,e⟩:=Option.bind_eq_some_iff.mp e
 obtain ⟨⟨mz,z⟩,ez,e⟩:=Option.bind_eq_some_iff.mp e
 refine rQ s ea eb fun u w H2 F1 F2 tw=>ok Φ η H H2 x y u w F1 F2 mz z _ tw ez fun v H3 F e1 r1 f1=>?_
 cases z with
 | bl q =>
   refine ⟨q,r1.bl_inv,?_⟩
   cases q with
   | false =>
     cases e
     rw [if_neg Bool.false_ne_true]
     exact k _ H3 [] (tw.same.trans e1) (.bl false) Fp.nil
   | true =>
     rw [if_pos rfl]
     obtain ⟨z2,ec,e⟩:=Option.bind_eq_some_iff.mp (show (cc η).bind (fun z=>g y z)=some (m,t) from e)
     have sm:=tw.same.trans e1
     refine ⟨Φ,η,z2.1,z2.2,s.same sm,ec,fun w2 H4 F4 e4 r4 f4=>?_⟩
     refine ok' Φ η H H4 y z2 w w2 F2 F4 m t Q ⟨sm.trans e4,(tw.r2.same e1).same e4,r4,tw.f2,f4.back sm,fun hx hy=>?_⟩ e fun v' H5 F5 e5 r5 f5=>k v' H5 F5 ((sm.trans e4).trans e5) r5 f5
     have f2:=tw.f2
     rw [hx] at f2
     rw [hy] at f4
     refine List.nodup_append.mpr ⟨f2.1,f4.1,fun a ha b hb z=>?_⟩
     subst z
     exact Mut.ne_none ((tw.r2.same e1).dom a ha) (f4.2 a hb)
 | _=>cases e
end
end VS
end
section
namespace L2
open PySem PySem.Spec PyProof.Rows
section
variable {X:Cx}
theorem qT {α:Type} (l:List α) (n:Nat):∀ acc:List α,List.foldl (fun x1 x2=>x1++x2) acc.toArray (List.replicate n l.toArray)=(acc++(List.replicate n l).flatten).toArray:=by
 induction n with
 | zero=>intro acc;simp
 | succ n ih =>
   intro acc
   rw [List.replicate_succ,List.foldl_cons]
   have e:acc.toArray++l.toArray=(acc++l).toArray:=by simp
   rw [e,ih (acc++l),List.replicate_succ,List.flatten_cons,List.append_assoc]
theorem vX:OpR X (binaryOp .Mult) (fun x y H Q=>∃ (l:List Nat) (k:Int),x=.str ⟨l.toArray⟩/\y=.int k/\-(2 ^ 62)<=k/\k < 2 ^ 62/\l.length * k.toNat<=sizeLine/\Q (.str ⟨(List.replicate k.toNat l).flatten.toArray⟩) H):=by
 intro pins s σ H x y v u Q I rx ry h
 obtain ⟨l,k,rfl,rfl,h1,h2,hz,q⟩:=h
 obtain ⟨t,rfl⟩:=rx
 obtain ⟨t',rfl⟩:=ry
 have hlen:(⟨l.toArray⟩:Str).length=l.length:=rfl
 refine PySem.P.mul_str ?_ ?_ ?_ ?_
 · rw [Bool.or_eq_false_iff]
   exact ⟨decide_eq_false (by lia),decide_eq_false (by lia)⟩
 · intro h3 _ hh
   rw [hlen] at hh
   have hk:0 < k:=by lia
   have:(l.length:Int) * k<=16777216:=by
     have hz':l.length * k.toNat<=16777216:=hz
     have:((l.length * k.toNat:Nat):Int)<=16777216:=by lia
     rw [Int.natCast_mul] at this
     rwa [Int.toNat_of_nonneg (by lia)] at this
   have h5:(l.length:Int) * k<=2 ^ 63 - 1:=by lia
   have:=(Int.le_ediv_iff_mul_le hk).mpr h5
   lia
 · intro _ _
   rw [hlen]
   exact decide_eq_false (by show ¬ _ > _;exact Nat.not_lt.mpr hz)
 · by_cases h3:k < 1
   · rw [if_pos h3]
     have e:k.toNat=0:=by lia
     rw [e] at q
     exact ⟨by decide,⟨.str ⟨#[]⟩,H,I.tok _,⟨_,rfl⟩,q⟩⟩
   · rw [if_neg h3]
     split
     · rename_i hc
       have e:(List.replicate k.toNat l).flatten=l:=by
         rw [Bool.or_eq_true] at hc
         rcases hc with hc | hc
         · have:k=1:=by simpa using hc
           subst this
           show (List.replicate 1 l).flatten=l
           simp
         · have:l=[]:=by
             rw [hlen] at hc
             exact List.eq_nil_of_length_eq_zero (by simpa using hc)
           subst this
           simp
       rw [e] at q
       exact ⟨.str ⟨l.toArray⟩,H,I,⟨t,rfl⟩,q⟩
     · have e:=qT l k.toNat []
       rw [List.nil_append] at e
       rw [show (⟨l.toArray⟩:Str).cps=l.toArray from rfl,e]
       refine ⟨?_,⟨.str ⟨(List.replicate k.toNat l).flatten.toArray⟩,H,I.tok _,⟨s.toks,rfl⟩,q⟩⟩
       have hl:=len_rep l k.toNat
       show (⟨(List.replicate k.toNat l).flatten.toArray⟩:Str).length<=sizeLine
       show ((List.replicate k.toNat l).flatten.toArray).size<=sizeLine
       rw [List.size_toArray,hl,Nat.mul_comm]
       exact hz
end
end L2
namespace VS
open PySem PySem.Spec PyProof.Rows L2
section
variable {G:Gx} {X:Cx} {a b c e tg:Expr} {es:List Expr} {ca cb cc:Ex} {cs:Exs} {pos p p1 p2 apos cpos:Pos} {k k':Nat}
theorem wo:eP G (fun x y H Q=>∃ (l:List Nat) (k:Int),x=.str ⟨l.toArray⟩/\y=.int k/\-(2 ^ 62)<=k/\k < 2 ^ 62/\l.length * k.toNat<=sizeLine/\Q (.str ⟨(List.replicate k.toNat l).flatten.toArray⟩) H) jl:=by
 intro Φ η H0 H x y u w F1 F2 m t Q tw e k
 obtain ⟨m1,x⟩:=x
 obtain ⟨m2,y⟩:=y
 obtain ⟨same,r1,r2,f1,f2,nd⟩:=tw
 unfold jl at e
 split at e
 · rename_i _ ts _ j e1 e2
   cases e1
   cases e2
   split at e
   · rename_i hc
     cases e
     have b1:=hc.2.1
     have b2:=hc.2.2
     unfold B62 at b1 b2
     refine ⟨ts,j,r1.str_inv.1,r2.int_inv,by lia,by lia,hc.1,bj k (.str _ ⟨?_,fun c hc'=>?_⟩)⟩
     · rw [len_rep,Nat.mul_comm];exact hc.1
     · obtain ⟨x,hx,hcx⟩:=List.mem_flatten.mp hc'
       rw [(List.mem_replicate.mp hx).2] at hcx
       exact r1.str_inv.2.2 c hcx
   · cases e
 · cases e
theorem zW (ha:PV G X a ca) (hb:PV G X b cb):PV G X (.BinOp a .Mult b pos) (e2 jl ca cb):=ju vX wo ha hb
theorem zj:PV G X (.Dict [] [] pos) (i9 0 []):=PE.weak sF fun σ H Q ⟨Φ,η,m,t,s,e,k⟩=>by
 cases (show some (Md.fr,T.dct 0 [])=some (m,t) from e)
 intro q hq
 have:Rp G (upd H q (.dK [])) (.ref q) (.dct 0 ((([]:List Key).map aN).zip [])) (q :: ([]:List (List Addr)).flatten):=.dct aE rfl .nil
 exact k _ _ [q] (cQ hq) this ⟨by simp,fun b hb=>by rw [List.mem_singleton.mp hb];exact hq⟩
end
end VS
end
section
namespace VS
open PySem PySem.Spec PyProof.Rows L2
section
variable {G:Gx} {X:Cx} {a b c e tg:Expr} {es:List Expr} {ca cb cc ce:Ex} {cs:Exs} {pos p p1 p2 apos cpos pos':Pos} {k k':Nat}
theorem fT {H:Hp} {v:V} {l:List (T×T)} {F:List Addr} (r:Rp G H v (.dct 0 l) F):∃ (a:Addr) (ks:List Key) (vs:List V) (ts:List T) (Fs:List (List Addr)),v=.ref a/\F=a :: Fs.flatten/\H a=some (.dK (ks.zip vs))/\ks.length=vs.length/\l=(ks.map aN).zip ts/\RpL G H vs ts Fs:=by
 cases r with
 | dct h hl q=>exact ⟨_,_,_,_,_,rfl,rfl,h,hl,rfl,q⟩
theorem fG {H:Hp} {v:V} {t:T} {F:List Addr} (r:Rp G H v t F) (h:gh t=true):∃ k:Key,v=kV k/\t=aN k:=by
 cases t with
 | int i=>exact ⟨.inl i,r.int_inv,rfl⟩
 | str s=>exact ⟨.inr (sx s),r.str_inv.1,by simp [aN,sx]⟩
 | _=>cases h
theorem jg {H:Hp} {k:Key}:∀ {ks:List Key} {vs:List V} {ts:List T} {Fs:List (List Addr)},ks.length=vs.length->RpL G H vs ts Fs →
   (dQ ((ks.map aN).zip ts) (aN k)=none/\bX (ks.zip vs) k=none)\/∃ (i:Nat) (v:V) (t:T) (F:List Addr),dQ ((ks.map aN).zip ts) (aN k)=some t/\bX (ks.zip vs) k=some v/\vs[i]?=some v/\Fs[i]?=some F/\Rp G H v t F
 | [],[],_,_,_,.nil=>.inl ⟨rfl,rfl⟩
 | k' :: ks,v :: vs,_,_,hl,.cons (t:=t) (F:=F) (ts:=ts) (Fs:=Fs) r q=>by
   have e:eqT (aN k') (aN k)=decide (k'=k):=by
     rw [Bool.eq_iff_iff,decide_eq_true_eq]
     cases k with
     | inl i=>cases k' <;> simp [aN]
     | inr x =>
       obtain ⟨⟨x⟩⟩:=x
       cases k' with
       | inl j=>simp [aN]
       | inr y=>obtain ⟨⟨y⟩⟩:=y;simp [aN]
   by_cases hk:k'=k
   · refine .inr ⟨0,v,t,F,?_,bO hk,rfl,rfl,r⟩
     have e':eqT (aN k') (aN k)=true:=by rw [e];exact decide_eq_true hk
     simp only [dQ,List.map_cons,List.zip_cons_cons,List.find?_cons,e']
     rfl
   · have h1:dQ (((k' :: ks).map aN).zip (t :: ts)) (aN k)=dQ ((ks.map aN).zip ts) (aN k):=by
       have e':eqT (aN k') (aN k)=false:=by rw [e];exact decide_eq_false hk
       simp only [dQ,List.map_cons,List.zip_cons_cons,List.find?_cons,e']
     have h2:bX ((k' :: ks).zip (v :: vs)) k=bX (ks.zip vs) k:=by simp [bX,hk]
     rw [h1,h2]
     rcases jg (k:=k) (by simpa using hl) q with h | ⟨i,v',t',F',a1,a2,a3,a4,a5⟩
     · exact .inl h
     · exact .inr ⟨i+1,v',t',F',a1,a2,by simpa using a3,by simpa using a4,a5⟩
theorem vO (hu:X.A.units+1 < cLine):IxR X (fun x y H Q=>∃ a v,x=.ref a/\iL H a y (some v)/\Q v H):=by
 intro value slice pins s σ H x y v u Q I rx ry h hs
 obtain ⟨a,w,rfl,g,q⟩:=h
 cases rx
 have hT:=og I g
 unfold subscriptTail
 refine wpAny_bind ?_
 rw [getitemInPython_of_ne hT.not_modules]
 refine wpAny_bind (wpAny_specialOf hT PySem.F.slot_dict_getitem.lookup ?_)
 have fin:wpAny (model X.prog X.w) X.A (subscripted slice false (.ref a) u) (fun r s₃=>wpAny (model X.prog X.w) X.A (letTemporaryGo value (.ref a) r >>= fun _=>pure r) (EP X pins σ Q) X.xe s₃) X.xe s:=by
   rw [hs]
   exact wpAny_operating (rH hu I g ry fun w' s3 I3 rw'=>wpAny_bind (wpAny_letTemporaryGo (wpAny_pure ⟨w,H,I3,rw',q⟩)))
 first
   | exact wpAny_pure (wpAny_bind fin)
   | exact wpAny_bind (wpAny_pure (wpAny_bind fin))
   | exact wpAny_bind fin
noncomputable def BN (K:PySem.W.Frag):R2:=fun x y H Q=>rIx K x y H Q\/∃ a v,x=.ref a/\iL H a y (some v)/\Q v H
theorem A9:eP G (BN G.K) oIx:=by
 intro Φ η H0 H x y u w F1 F2 m t Q tw e k
 obtain ⟨m1,x⟩:=x
 by_cases hd:∃ l,x=.dct 0 l
 · obtain ⟨l,rfl⟩:=hd
   simp only [oIx] at e
   split at e
   · rename_i hk
     obtain ⟨t',e1,e2⟩:=Option.map_eq_some_iff.mp e
     obtain ⟨a,ks,vs,ts,Fs,rfl,rfl,ha,hl,rfl,q⟩:=fT tw.r1
     obtain ⟨kk,rfl,ek⟩:=fG tw.r2 hk
     rw [ek] at e1
     rcases jg (k:=kk) hl q with ⟨h1,_⟩ | ⟨i,v,t2,F,a1,a2,a3,a4,a5⟩
     · rw [h1] at e1;cases e1
     · rw [a1] at e1
       cases e1
       cases e2
       refine .inr ⟨a,v,rfl,by rw [← a2];exact iL.k ha,?_⟩
       have f:=((tw.f1.sub (List.sublist_cons_self _ _)).sub (fi a4)).up a5
       exact k v H F (aQ.refl _) a5 f
   · cases e
 · have e':aS (m1,x) y=some (m,t):=by
     simp only [oIx] at e
     split at e
     · rename_i l hx
       exact absurd ⟨_,rfl⟩ hd
     · exact e
   exact .inl (uE Φ η H0 H (m1,x) y u w F1 F2 m t Q tw e' k)
theorem Cf (hr:Room k X.A) (ha:PV G X a ca) (hb:PV G X b cb) (hs:fF b:=by intro _ _;rfl) (hK:X.K=G.K:=by rfl):PV G X (.Subscript a b pos) (e2 oIx ca cb) :=
 PE.weak (uQ (IxR.or tL (vO (sV hr))) ha hb hs) fun σ H Q h=>by rw [hK];exact jR A9 h
noncomputable def fV:T->V
 | .bl b=>.bl b
 | .int i=>.int i
 | .str s=>.str (sx s)
 | _=>.non
theorem xD {H:Hp} {v:V} {t:T} {F:List Addr} (r:Rp G H v t F) (h:flat t=true):v=fV t/\d4 v=true:=by
 cases r with
 | non=>exact ⟨rfl,rfl⟩
 | bl b=>exact ⟨rfl,rfl⟩
 | int i=>exact ⟨rfl,rfl⟩
 | str s hl=>exact ⟨rfl,rfl⟩
 | _=>cases h
theorem BC:∀ {t u:T},flat t=true->flat u=true->eqV (fV t) (fV u)=eqT t u
 | .non,.non,_,_=>rfl
 | .non,.bl _,_,_=>rfl
 | .non,.int _,_,_=>rfl
 | .non,.str _,_,_=>rfl
 | .bl _,.non,_,_=>rfl
 | .bl _,.bl _,_,_=>rfl
 | .bl _,.int _,_,_=>rfl
 | .bl _,.str _,_,_=>rfl
 | .int _,.non,_,_=>rfl
 | .int _,.bl _,_,_=>rfl
 | .int _,.int _,_,_=>rfl
 | .int _,.str _,_,_=>rfl
 | .str _,.non,_,_=>rfl
 | .str _,.bl _,_,_=>rfl
 | .str _,.int _,_,_=>rfl
 | .str _,.str _,_,_=>uL
theorem tY {H:Hp} {v w:V} {t u:T} {F F':List Addr} (r:Rp G H v t F) (r':Rp G H w u F') (h1:flat t=true) (h2:flat u=true):eqV v w=eqT t u/\d4 v=true/\d4 w=true:=by
 obtain ⟨e1,f1⟩:=xD r h1
 obtain ⟨e2,f2⟩:=xD r' h2
 refine ⟨?_,f1,f2⟩
 rw [e1,e2]
 exact BC h1 h2
theorem lM {H:Hp} {x:V} {t:T} {F:List Addr} (r:Rp G H x t F) (hx:flat t=true):∀ {vs:List V} {ts:List T} {Fs:List (List Addr)},RpL G H vs ts Fs->ts.all flat=true->vs.all d4=true/\inV x vs=ts.any fun y=>eqT y t
 | _,_,_,.nil,_=>⟨rfl,rfl⟩
 | _,_,_,.cons r' q,h=>by
   rw [List.all_cons,Bool.and_eq_true] at h
   obtain ⟨h1,h2⟩:=lM r hx q h.2
   obtain ⟨e1,e2,e3⟩:=tY r' r h.1 hx
   refine ⟨by rw [List.all_cons,e2,h1];rfl,?_⟩
   unfold inV at h2 ⊢
   rw [List.any_cons,List.any_cons,h2,e1]
noncomputable def Bl (K:PySem.W.Frag):R2:=fun x y H Q=>rIn K false x y H Q\/∃ a o,y=.ref a/\iL H a x o/\Q (.bl o.isSome) H
theorem vw (hu:X.A.units+1 < cLine):OpR X (compareOp .In) (fun x y H Q=>∃ a o,y=.ref a/\iL H a x o/\Q (.bl o.isSome) H):=by
 intro pins s σ H x y v u Q I rx ry h
 obtain ⟨a,o,rfl,g,q⟩:=h
 cases ry
 exact BR hu I g rx fun s3 I3=>⟨.bl o.isSome,H,I3,rfl,q⟩
theorem uz {Φ:Fps} {η:VS.Env} {H0 H:Hp} {x y:Val} {u w:V} {F1 F2:List Addr} {m:Md} {t:T} (tw:Two G Φ η H0 H x y u w F1 F2) (e:ly x y=some (m,t)) :
   ∃ b,m=.fr/\t=.bl b/\((∃ p xs,w=.ref p/\(SqL G.K H p xs\/SqT G.K H p xs)/\d4 u=true/\xs.all d4=true/\inV u xs=b)\/∃ a o,w=.ref a/\iL H a u o/\o.isSome=b):=by
 obtain ⟨m2,y⟩:=y
 simp only [ly] at e
 split at e
 · split at e
   · rename_i hk
     cases e
     obtain ⟨a,ks,vs,ts,Fs,rfl,rfl,ha,hl,rfl,q⟩:=fT tw.r2
     obtain ⟨kk,rfl,ek⟩:=fG tw.r1 hk
     refine ⟨_,rfl,rfl,.inr ⟨a,bX (ks.zip vs) kk,rfl,iL.k ha,?_⟩⟩
     rw [ek]
     rcases jg (k:=kk) hl q with ⟨h1,h2⟩ | ⟨i,v,t2,F,a1,a2,_⟩
     · rw [h1,h2];rfl
     · rw [a1,a2];rfl
   · cases e
 · split at e
   · rename_i hk
     cases e
     rw [Bool.and_eq_true] at hk
     obtain ⟨a,vs,Fs,rfl,rfl,ha,ra⟩:=tw.r2.lst_inv
     obtain ⟨h1,h2⟩:=lM tw.r1 hk.1 ra hk.2
     have hf:d4 u=true:=(tY tw.r1 tw.r1 hk.1 hk.1).2.1
     exact ⟨_,rfl,rfl,.inl ⟨a,vs,rfl,.inl (SqL.of ha),hf,h1,h2⟩⟩
   · cases e
 · split at e
   · rename_i hk
     cases e
     rw [Bool.and_eq_true] at hk
     obtain ⟨a,vs,Fs,rfl,rfl,ha,ra⟩:=tw.r2.tup_inv
     obtain ⟨h1,h2⟩:=lM tw.r1 hk.1 ra hk.2
     have hf:d4 u=true:=(tY tw.r1 tw.r1 hk.1 hk.1).2.1
     exact ⟨_,rfl,rfl,.inl ⟨a,vs,rfl,.inr (SqT.of ha),hf,h1,h2⟩⟩
   · cases e
 · cases e
theorem Bo:eP G (Bl G.K) ly:=by
 intro Φ η H0 H x y u w F1 F2 m t Q tw e k
 obtain ⟨b,rfl,rfl,h⟩:=uz tw e
 rcases h with ⟨p,xs,rfl,hq,f1,f2,hb⟩ | ⟨a,o,rfl,g,hb⟩
 · refine .inl ⟨p,xs,rfl,hq,f1,f2,?_⟩
   rw [hb]
   exact bj k (.bl b)
 · refine .inr ⟨a,o,rfl,g,?_⟩
   rw [hb]
   exact bj k (.bl b)
theorem uB:Tells ly:=by
 intro x y m t e
 simp only [ly] at e
 split at e
 all_goals first | (split at e <;> first | (cases e;exact ⟨_,rfl⟩) | cases e) | cases e
theorem AA (hr:Room k X.A) (ha:PV G X a ca) (hb:PV G X b cb) (hm:behindInMarks .In b=false:=by with_unfolding_all rfl) (hK:X.K=G.K:=by rfl):PVT G X (.Compare a [.In] [b] pos) (e2 ly ca cb):=gR (r:=Bl X.K) (qm.or (vw (sV hr))) (hK ▸ Bo) uB ha hb hm
end
end VS
end
section
open PySem PyProof.Rows
namespace TS
noncomputable def lU:Bool->Keyed->Array Keyed->Nat->Nat->Nat->StateT SortSt Sem (Option Nat):=sortPriv% PySem.Builtin.gallop
noncomputable def jF:Array Keyed->Array Keyed->StateT SortSt Sem (Array Keyed):=sortPriv% PySem.Builtin.mergeLo
noncomputable def jm:Array Keyed->Array Keyed->StateT SortSt Sem (Array Keyed):=sortPriv% PySem.Builtin.mergeHi
theorem all2 {A0 A1:Type} {P:A0×A1->Prop} (h:∀ a0 a1,P (a0,a1)):∀ x,P x:=fun (a0,a1)=>h a0 a1
theorem fZ {A0 A1 A2:Type} {P:A0×A1×A2->Prop} (h:∀ a0 a1 a2,P (a0,a1,a2)):∀ x,P x:=fun (a0,a1,a2)=>h a0 a1 a2
theorem qN {A0 A1 A2 A3 A4:Type} {P:A0×A1×A2×A3×A4->Prop} (h:∀ a0 a1 a2 a3 a4,P (a0,a1,a2,a3,a4)):∀ x,P x:=fun (a0,a1,a2,a3,a4)=>h a0 a1 a2 a3 a4
theorem oj {A0 A1 A2 A3 A4 A5:Type} {P:A0×A1×A2×A3×A4×A5->Prop} (h:∀ a0 a1 a2 a3 a4 a5,P (a0,a1,a2,a3,a4,a5)):∀ x,P x:=fun (a0,a1,a2,a3,a4,a5)=>h a0 a1 a2 a3 a4 a5
theorem wB {A0 A1 A2 A3 A4 A5 A6:Type} {P:A0×A1×A2×A3×A4×A5×A6->Prop} (h:∀ a0 a1 a2 a3 a4 a5 a6,P (a0,a1,a2,a3,a4,a5,a6)):∀ x,P x:=fun (a0,a1,a2,a3,a4,a5,a6)=>h a0 a1 a2 a3 a4 a5 a6
variable {prog:Program} {w:World} {A:Around} {E:Value->Shared->Prop} {s:Shared}
structure Cmp (prog:Program) (w:World) (A:Around) (E:Value->Shared->Prop) (s:Shared) (κ:SortKind) (G:Keyed->Prop) (r:Keyed->Keyed->Bool):Prop where
 run:∀ (st:SortSt) (x y:Keyed) (Q:Option Bool->SortSt->Prop),kindOf st=κ->G x->G y->Q (some (r x y)) st->wpS (model prog w) A E s (lt' x y) Q st
 asym:∀ x y,G x->G y->r x y=true->r y x=false
 trans:∀ x y z,G x->G y->G z->r y x=false->r z y=false->r z x=false
variable {κ:SortKind} {G:Keyed->Prop} {r:Keyed->Keyed->Bool}
noncomputable def le (r:Keyed->Keyed->Bool) (x y:Keyed):Prop:=r y x=false
theorem dz {arr:Array Keyed} {i:Nat} {Q:Keyed->SortSt->Prop} {st:SortSt} (hi:i < arr.size) (h:Q arr[i] st):wpS (model prog w) A E s (elem' arr i) Q st:=by
 rw [elem'_eq,getElem?_pos arr i hi]
 exact wpS_pure h
noncomputable def bey (r:Keyed->Keyed->Bool) (left:Bool) (key x:Keyed):Bool:=if left then r x key else !(r key x)
noncomputable def bf (left:Bool) (key:Keyed) (arr:Array Keyed) (i:Nat):StateT SortSt Sem (Option Bool):=do
 let x ← elem' arr i
 if left=true then lt' x key else do
   let l ← lt' key x
   pure (Option.map (fun x=>!x) l)
theorem iy (C:Cmp prog w A E s κ G r) {left:Bool} {key:Keyed} {arr:Array Keyed} {i:Nat} {Q:Option Bool->SortSt->Prop} {st:SortSt} (hk:kindOf st=κ) (gk:G key) (ga:∀ x∈arr,G x)
   (hi:i < arr.size) (h:Q (some (bey r left key arr[i])) st) :
   wpS (model prog w) A E s (bf left key arr i) Q st:=by
 unfold bf
 refine wpS_bind (dz hi ?_)
 have g:=ga _ (Array.getElem_mem hi)
 cases left with
 | true=>exact C.run st _ _ _ hk g gk h
 | false=>exact wpS_bind (C.run st _ _ _ hk gk g (wpS_pure h))
theorem oV (C:Cmp prog w A E s κ G r) {left:Bool} {key:Keyed} {arr:Array Keyed} {base n hint:Nat} {Q:Option Nat->SortSt->Prop} {st:SortSt} (hk:kindOf st=κ) (gk:G key) (ga:∀ x∈arr,G x)
   (hb:base+n<=arr.size) (hh:hint < n) (mono:∀ i j (hi:base+i < arr.size) (hj:base+j < arr.size),i<=j->j < n->bey r left key arr[base+j]=true->bey r left key arr[base+i]=true)
   (h:∀ k,k<=n->(∀ i (hi:base+i < arr.size),i < k->bey r left key arr[base+i]=true)->(∀ i (hi:base+i < arr.size),k<=i->i < n->bey r left key arr[base+i]=false)->Q (some k) st) :
   wpS (model prog w) A E s (lU left key arr base n hint) Q st:=by
 obtain ⟨f,fe⟩:∃ f:Nat->Bool,∀ i (hi:base+i < arr.size),f i=bey r left key arr[base+i]:=⟨fun i=>if hi:base+i < arr.size then bey r left key arr[base+i] else false,fun i hi=>dif_pos hi⟩
 have fm:∀ i j,i<=j->j < n->f j=true->f i=true:=fun i j hij hj e=>by
   rw [fe j (by lia)] at e
   rw [fe i (by lia)]
   exact mono i j (by lia) (by lia) hij hj e
 have fin:∀ k,k<=n->(∀ i,i < k->f i=true)->(∀ i,k<=i->i < n->f i=false)->Q (some k) st:=fun k h1 h2 h3 =>
   h k h1 (fun i hi hik=>by rw [← fe i hi];exact h2 i hik) fun i hi h4 h5=>by rw [← fe i hi];exact h3 i h4 h5
 clear h mono
 unfold lU
 change wpS (model prog w) A E s (_ >>= _) Q st
 dsimp only
 have h0:base+hint < arr.size:=by lia
 refine wpS_bind (iy C hk gk ga h0 ?_)
 dsimp only
 rw [← fe _ h0]
 cases e0:f hint with
 | true =>
   rw [if_pos rfl]
   refine wpS_bind (wpS_mono (wpS_forRange
     (I:=fun x c st'=>st=st'/\c.1=none/\f (hint+c.2.1)=true/\c.2.1 < c.2.2/\hint+c.2.1 < n/\x < c.2.2)
     (Q:=fun c st'=>st=st'/\c.1=none/\f (hint+c.2.1)=true/\c.2.1 < c.2.2/\hint+c.2.1 < n/\(hint+c.2.2 < n->f (hint+c.2.2)=false)) ?step1 ?fin1 ?init1) ?post1)
   case init1=>exact ⟨rfl,rfl,e0,by decide,by dsimp only;lia,by decide⟩
   case fin1 =>
     refine fZ fun c1 c2 c3=>?_
     rintro st' ⟨rfl,e1,g1,g2,g3,g4⟩
     dsimp only at *
     exact ⟨rfl,e1,g1,g2,g3,fun z=>by (try dsimp only at z);lia⟩
   case step1 =>
     intro x
     refine fZ fun c1 c2 c3=>?_
     rintro st' _ hx ⟨rfl,e1,g1,g2,g3,g4⟩
     dsimp only at *
     split
     · exact wpS_pure ⟨rfl,rfl,g1,g2,g3,fun z=>by (try dsimp only at z);lia⟩
     · have hm:base+(hint+c3) < arr.size:=by lia
       refine wpS_bind (iy C hk gk ga hm ?_)
       dsimp only
       rw [← fe _ hm]
       cases e:f (hint+c3) with
       | true=>exact wpS_pure ⟨rfl,rfl,e,by dsimp only;lia,by dsimp only;lia,by dsimp only;lia⟩
       | false=>exact wpS_pure ⟨rfl,rfl,g1,g2,g3,fun _=>e⟩
   case post1 =>
     refine fZ fun c1 c2 c3=>?_
     rintro st' ⟨rfl,e1,g1,g2,g3,g4⟩
     dsimp only at *
     subst e1
     dsimp only
     have h1:hint+c2+1<=hint+min c3 (n - hint):=by lia
     have h2:hint+min c3 (n - hint)<=n:=by lia
     have h3:∀ i,i < hint+c2+1->f i=true:=fun i hi=>fm i _ (by lia) (by lia) g1
     have h4:∀ i,hint+min c3 (n - hint)<=i->i < n->f i=false:=fun i hi hn=>by
       cases e2:f i with
       | false=>rfl
       | true =>
         have:=g4 (by lia)
         rw [fm _ i (by lia) hn e2] at this;cases this
     clear g1 g2 g3 g4
     refine wpS_bind (wpS_mono (wpS_forRange
       (I:=fun x c st'=>st=st'/\c.1=none/\c.2.1<=c.2.2/\c.2.2<=n/\(∀ i,i < c.2.1->f i=true)/\(∀ i,c.2.2<=i->i < n->f i=false)/\c.2.2 - c.2.1+x<=n)
       (Q:=fun c st'=>st=st'/\c.1=none/\c.2.1=c.2.2/\c.2.2<=n/\(∀ i,i < c.2.1->f i=true)/\(∀ i,c.2.2<=i->i < n->f i=false)) ?step ?fin ?init) ?post)
     case init=>exact ⟨rfl,rfl,h1,h2,h3,h4,by (try dsimp only);lia⟩
     case fin =>
       refine fZ fun c1 c2 c3=>?_
       rintro st' ⟨rfl,e1,g1,g2,g3,g4,g5⟩
       try dsimp only at *
       exact ⟨rfl,e1,by (try dsimp only at *);lia,g2,g3,g4⟩
     case step =>
       intro x
       refine fZ fun c1 c2 c3=>?_
       rintro st' _ hx ⟨rfl,e1,g1,g2,g3,g4,g5⟩
       try dsimp only at *
       split
       · exact wpS_pure ⟨rfl,rfl,by (try dsimp only at *);lia,g2,g3,g4⟩
       · have hm:base+(c2+(c3 - c2) / 2) < arr.size:=by lia
         refine wpS_bind (iy C hk gk ga hm ?_)
         try dsimp only
         rw [← fe _ hm]
         cases e:f (c2+(c3 - c2) / 2) with
         | true =>
           rw [if_pos rfl]
           exact wpS_pure ⟨rfl,rfl,by (try dsimp only);lia,g2,fun i hi=>fm i _ (by (try dsimp only at hi);lia) (by lia) e,g4,by (try dsimp only);lia⟩
         | false =>
           rw [if_neg Bool.false_ne_true]
           refine wpS_pure ⟨rfl,rfl,by (try dsimp only);lia,by (try dsimp only);lia,g3,fun i hi hn=>?_,by (try dsimp only);lia⟩
           try dsimp only at hi
           cases e2:f i with
           | false=>rfl
           | true=>rw [fm _ i hi hn e2] at e;cases e
     case post =>
       refine fZ fun c1 c2 c3=>?_
       rintro st' ⟨rfl,e1,g1,g2,g3,g4⟩
       try dsimp only at *
       subst e1
       exact wpS_pure (fin c3 g2 (fun i hi=>g3 i (by lia)) g4)
 | false =>
   rw [if_neg Bool.false_ne_true]
   refine wpS_bind (wpS_mono (wpS_forRange
     (I:=fun x c st'=>st=st'/\c.1=none/\f (hint - c.2.1)=false/\c.2.1 < c.2.2/\c.2.1<=hint/\x < c.2.2)
     (Q:=fun c st'=>st=st'/\c.1=none/\f (hint - c.2.1)=false/\c.2.1 < c.2.2/\c.2.1<=hint/\(c.2.2<=hint->f (hint - c.2.2)=true)) ?step1 ?fin1 ?init1) ?post1)
   case init1=>exact ⟨rfl,rfl,e0,by decide,by dsimp only;lia,by decide⟩
   case fin1 =>
     refine fZ fun c1 c2 c3=>?_
     rintro st' ⟨rfl,e1,g1,g2,g3,g4⟩
     dsimp only at *
     exact ⟨rfl,e1,g1,g2,g3,fun z=>by (try dsimp only at z);lia⟩
   case step1 =>
     intro x
     refine fZ fun c1 c2 c3=>?_
     rintro st' _ hx ⟨rfl,e1,g1,g2,g3,g4⟩
     dsimp only at *
     split
     · exact wpS_pure ⟨rfl,rfl,g1,g2,g3,fun z=>by (try dsimp only at z);lia⟩
     · have hm:base+(hint - c3) < arr.size:=by lia
       refine wpS_bind (iy C hk gk ga hm ?_)
       dsimp only
       rw [← fe _ hm]
       cases e:f (hint - c3) with
       | true=>exact wpS_pure ⟨rfl,rfl,g1,g2,g3,fun _=>e⟩
       | false=>exact wpS_pure ⟨rfl,rfl,e,by dsimp only;lia,by dsimp only;lia,by dsimp only;lia⟩
   case post1 =>
     refine fZ fun c1 c2 c3=>?_
     rintro st' ⟨rfl,e1,g1,g2,g3,g4⟩
     dsimp only at *
     subst e1
     dsimp only
     have h1:hint+1 - min c3 (hint+1)<=hint - c2:=by lia
     have h2:hint - c2<=n:=by lia
     have h3:∀ i,i < hint+1 - min c3 (hint+1)->f i=true:=fun i hi=>fm i _ (by lia) (by lia) (g4 (by lia))
     have h4:∀ i,hint - c2<=i->i < n->f i=false:=fun i hi hn=>by
       cases e2:f i with
       | false=>rfl
       | true=>rw [fm _ i (by lia) hn e2] at g1;cases g1
     clear g1 g2 g3 g4
     refine wpS_bind (wpS_mono (wpS_forRange
       (I:=fun x c st'=>st=st'/\c.1=none/\c.2.1<=c.2.2/\c.2.2<=n/\(∀ i,i < c.2.1->f i=true)/\(∀ i,c.2.2<=i->i < n->f i=false)/\c.2.2 - c.2.1+x<=n)
       (Q:=fun c st'=>st=st'/\c.1=none/\c.2.1=c.2.2/\c.2.2<=n/\(∀ i,i < c.2.1->f i=true)/\(∀ i,c.2.2<=i->i < n->f i=false)) ?step ?fin ?init) ?post)
     case init=>exact ⟨rfl,rfl,h1,h2,h3,h4,by (try dsimp only);lia⟩
     case fin =>
       refine fZ fun c1 c2 c3=>?_
       rintro st' ⟨rfl,e1,g1,g2,g3,g4,g5⟩
       try dsimp only at *
       exact ⟨rfl,e1,by (try dsimp only at *);lia,g2,g3,g4⟩
     case step =>
       intro x
       refine fZ fun c1 c2 c3=>?_
       rintro st' _ hx ⟨rfl,e1,g1,g2,g3,g4,g5⟩
       try dsimp only at *
       split
       · exact wpS_pure ⟨rfl,rfl,by (try dsimp only at *);lia,g2,g3,g4⟩
       · have hm:base+(c2+(c3 - c2) / 2) < arr.size:=by lia
         refine wpS_bind (iy C hk gk ga hm ?_)
         try dsimp only
         rw [← fe _ hm]
         cases e:f (c2+(c3 - c2) / 2) with
         | true =>
           rw [if_pos rfl]
           exact wpS_pure ⟨rfl,rfl,by (try dsimp only);lia,g2,fun i hi=>fm i _ (by (try dsimp only at hi);lia) (by lia) e,g4,by (try dsimp only);lia⟩
         | false =>
           rw [if_neg Bool.false_ne_true]
           refine wpS_pure ⟨rfl,rfl,by (try dsimp only);lia,by (try dsimp only);lia,g3,fun i hi hn=>?_,by (try dsimp only);lia⟩
           try dsimp only at hi
           cases e2:f i with
           | false=>rfl
           | true=>rw [fm _ i hi hn e2] at e;cases e
     case post =>
       refine fZ fun c1 c2 c3=>?_
       rintro st' ⟨rfl,e1,g1,g2,g3,g4⟩
       try dsimp only at *
       subst e1
       exact wpS_pure (fin c3 g2 (fun i hi=>g3 i (by lia)) g4)
end TS
end
section
open PySem PyProof.Rows
namespace TS
variable {prog:Program} {w:World} {A:Around} {E:Value->Shared->Prop} {s:Shared} {κ:SortKind} {G:Keyed->Prop} {r:Keyed->Keyed->Bool}
theorem Cmp.refl (C:Cmp prog w A E s κ G r) {x:Keyed} (h:G x):le r x x:=by
 unfold le
 cases e:r x x with
 | false=>rfl
 | true=>exact absurd (C.asym x x h h e) (by rw [e];exact fun z=>nomatch z)
theorem Cmp.tr (C:Cmp prog w A E s κ G r) {x y z:Keyed} (hx:G x) (hy:G y) (hz:G z) (h1:le r x y) (h2:le r y z):le r x z:=C.trans x y z hx hy hz h1 h2
theorem Cmp.le_of (C:Cmp prog w A E s κ G r) {x y:Keyed} (hx:G x) (hy:G y) (h:r x y=true):le r x y:=C.asym x y hx hy h
noncomputable def Seg (r:Keyed->Keyed->Bool) (a:Array Keyed) (lo hi:Nat):Prop:=∀ i j (hi':i < a.size) (hj:j < a.size),lo<=i->i<=j->j < hi->le r a[i] a[j]
theorem eQ (C:Cmp prog w A E s κ G r) {left:Bool} {key:Keyed} {arr:Array Keyed} {base n hint:Nat} {Q:Option Nat->SortSt->Prop} {st:SortSt} (hk:kindOf st=κ) (gk:G key) (ga:∀ x∈arr,G x)
   (hb:base+n<=arr.size) (hh:hint < n) (sg:Seg r arr base (base+n))
   (h:∀ k,k<=n->(∀ i (hi:i < arr.size),base<=i->i < base+k->le r arr[i] key)->(∀ i (hi:i < arr.size),base+k<=i->i < base+n->le r key arr[i])->Q (some k) st) :
   wpS (model prog w) A E s (lU left key arr base n hint) Q st:=by
 have g:∀ i (hi:i < arr.size),G arr[i]:=fun i hi=>ga _ (Array.getElem_mem hi)
 refine oV C hk gk ga hb hh (fun i j hi hj hij hjn e=>?_) fun k h1 h2 h3=>h k h1 (fun i hi h4 h5=>?_) fun i hi h4 h5=>?_
 · have s1:=sg (base+i) (base+j) hi hj (by lia) (by lia) (by lia)
   cases left with
   | true =>
     unfold bey at e ⊢
     rw [if_pos rfl] at e ⊢
     cases e2:r arr[base+i] key with
     | true=>rfl
     | false=>rw [show r arr[base+j] key=false from C.tr gk (g _ hi) (g _ hj) e2 s1] at e;cases e
   | false =>
     unfold bey at e ⊢
     rw [if_neg Bool.false_ne_true] at e ⊢
     have e':r key arr[base+j]=false:=by simpa using e
     have:=C.tr (g _ hi) (g _ hj) gk s1 e'
     rw [show r key arr[base+i]=false from this]
     rfl
 · have e:=h2 (i - base) (by lia) (by lia)
   have ei:base+(i - base)=i:=by lia
   simp only [ei] at e
   cases left with
   | true =>
     unfold bey at e
     rw [if_pos rfl] at e
     exact C.le_of (g _ hi) gk e
   | false =>
     unfold bey at e
     rw [if_neg Bool.false_ne_true] at e
     show r key arr[i]=false
     simpa using e
 · have e:=h3 (i - base) (by lia) (by lia) (by lia)
   have ei:base+(i - base)=i:=by lia
   simp only [ei] at e
   cases left with
   | true =>
     unfold bey at e
     rw [if_pos rfl] at e
     exact e
   | false =>
     unfold bey at e
     rw [if_neg Bool.false_ne_true] at e
     exact C.le_of gk (g _ hi) (by simpa using e)
theorem mw {a:Array Keyed} {i:Nat} {x:Keyed} (h:x∈a.toList.drop i):∃ j,∃ (hj:j < a.size),i<=j/\a[j]=x:=by
 obtain ⟨k,hk,e⟩:=List.getElem_of_mem h
 rw [List.length_drop] at hk
 rw [List.getElem_drop] at e
 have:i+k < a.size:=by simpa using (by lia:i+k < a.toList.length)
 exact ⟨i+k,this,by lia,by simpa using e⟩
theorem ik {a:Array Keyed} {i k:Nat} {x:Keyed} (h:x∈(a.toList.drop i).take k):∃ j,∃ (hj:j < a.size),i<=j/\j < i+k/\a[j]=x:=by
 obtain ⟨m,hm,e⟩:=List.getElem_of_mem h
 rw [List.length_take,List.length_drop] at hm
 rw [List.getElem_take,List.getElem_drop] at e
 have:i+m < a.size:=by simpa using (by lia:i+m < a.toList.length)
 exact ⟨i+m,this,by lia,by lia,by simpa using e⟩
theorem pb {a:Array Keyed} {i:Nat} (h:i < a.size):a.toList.drop i=a[i] :: a.toList.drop (i+1):=by
 have:i < a.toList.length:=by simpa using h
 rw [List.drop_eq_getElem_cons this]
 simp
theorem gq {a:Array Keyed} (h:Seg r a 0 a.size):a.toList.Pairwise (le r):=by
 rw [List.pairwise_iff_getElem]
 intro i j hi hj hij
 simpa using h i j (by simpa using hi) (by simpa using hj) (Nat.zero_le _) (by lia) (by simpa using hj)
theorem uJ (C:Cmp prog w A E s κ G r) {a:Array Keyed} (ga:∀ x∈a,G x) (h:a.toList.Pairwise (le r)):Seg r a 0 a.size:=by
 intro i j hi hj _ hij _
 rcases Nat.lt_or_ge i j with hlt | hge
 · have:=List.pairwise_iff_getElem.mp h i j (by simpa using hi) (by simpa using hj) hlt
   simpa using this
 · have:i=j:=by lia
   subst this
   exact C.refl (ga _ (Array.getElem_mem hi))
structure MI (r:Keyed->Keyed->Bool) (a b out:Array Keyed) (ia ib:Nat):Prop where
 pm:(out.toList++(a.toList.drop ia++b.toList.drop ib)).Perm (a.toList++b.toList)
 so:out.toList.Pairwise (le r)
 la:∀ x∈out.toList,∀ y∈a.toList.drop ia,le r x y
 lb:∀ x∈out.toList,∀ y∈b.toList.drop ib,le r x y
noncomputable def MR (r:Keyed->Keyed->Bool) (a b res:Array Keyed):Prop:=res.toList.Perm (a.toList++b.toList)/\res.toList.Pairwise (le r)
theorem MI.size {a b out:Array Keyed} {ia ib:Nat} (m:MI r a b out ia ib) (h1:ia<=a.size) (h2:ib<=b.size):out.size+(a.size - ia)+(b.size - ib)=a.size+b.size:=by
 have:=m.pm.length_eq
 simp at this
 lia
theorem MI.appA {a b out:Array Keyed} {ia ib k:Nat} (m:MI r a b out ia ib) (sa:Seg r a 0 a.size) (hl:∀ i (hi:i < a.size),ia<=i->i < ia+k->∀ j (hj:j < b.size),ib<=j->le r a[i] b[j]) :
   MI r a b (out++a.extract ia (ia+k)) (ia+k) ib:=by
 have e1:(out++a.extract ia (ia+k)).toList=out.toList++(a.toList.drop ia).take k:=by
   simp [List.extract_eq_drop_take]
 have e2:a.toList.drop ia=(a.toList.drop ia).take k++a.toList.drop (ia+k):=by
   rw [← List.drop_drop];exact (List.take_append_drop _ _).symm
 have pa:(a.toList.drop ia).Pairwise (le r):=(gq sa).drop
 rw [e2,List.pairwise_append] at pa
 refine ⟨?_,?_,?_,?_⟩
 · rw [e1]
   have:=m.pm
   rw [e2] at this
   simpa [List.append_assoc] using this
 · rw [e1,List.pairwise_append]
   refine ⟨m.so,pa.1,fun x hx y hy=>m.la x hx y ?_⟩
   exact List.mem_of_mem_take hy
 · rw [e1]
   intro x hx y hy
   rcases List.mem_append.mp hx with hx | hx
   · exact m.la x hx y (by rw [e2];exact List.mem_append_right _ hy)
   · exact pa.2.2 x hx y hy
 · rw [e1]
   intro x hx y hy
   rcases List.mem_append.mp hx with hx | hx
   · exact m.lb x hx y hy
   · obtain ⟨i,hi,h1,h2,rfl⟩:=ik hx
     obtain ⟨j,hj,h3,rfl⟩:=mw hy
     exact hl i hi h1 h2 j hj h3
theorem MI.swap {a b out:Array Keyed} {ia ib:Nat} (m:MI r a b out ia ib):MI r b a out ib ia :=
 ⟨((List.perm_append_comm.append_left _).trans m.pm).trans List.perm_append_comm,m.so,m.lb,m.la⟩
theorem MR.swap {a b res:Array Keyed} (m:MR r a b res):MR r b a res:=⟨m.1.trans List.perm_append_comm,m.2⟩
theorem MI.appB {a b out:Array Keyed} {ia ib k:Nat} (m:MI r a b out ia ib) (sb:Seg r b 0 b.size) (hl:∀ i (hi:i < b.size),ib<=i->i < ib+k->∀ j (hj:j < a.size),ia<=j->le r b[i] a[j]) :
   MI r a b (out++b.extract ib (ib+k)) ia (ib+k):=(m.swap.appA sb hl).swap
theorem tD {a out:Array Keyed} {i:Nat} (h:i < a.size):out.push a[i]=out++a.extract i (i+1):=by
 apply Array.ext'
 have:(a.extract i (i+1)).toList=[a[i]]:=by
   have e:i < a.toList.length:=by simpa using h
   simp [List.extract_eq_drop_take,List.drop_eq_getElem_cons e]
 rw [Array.toList_append,this,Array.toList_push]
theorem MI.pushA {a b out:Array Keyed} {ia ib:Nat} (m:MI r a b out ia ib) (sa:Seg r a 0 a.size) (h:ia < a.size) (hl:∀ j (hj:j < b.size),ib<=j->le r a[ia] b[j]):MI r a b (out.push a[ia]) (ia+1) ib:=by
 rw [tD h]
 refine m.appA sa fun i hi h1 h2 j hj h3=>?_
 have:i=ia:=by lia
 subst this
 exact hl j hj h3
theorem MI.pushB {a b out:Array Keyed} {ia ib:Nat} (m:MI r a b out ia ib) (sb:Seg r b 0 b.size) (h:ib < b.size) (hl:∀ j (hj:j < a.size),ia<=j->le r b[ib] a[j]):MI r a b (out.push b[ib]) ia (ib+1):=(m.swap.pushA sb h hl).swap
theorem jh {a:Array Keyed} {i:Nat}:(a.extract i a.size).toList=a.toList.drop i:=by
 rw [Array.toList_extract,List.extract_eq_drop_take,List.take_of_length_le (by simp)]
theorem MI.fin {a b out:Array Keyed} {ia ib:Nat} (m:MI r a b out ia ib) (sa:Seg r a 0 a.size) (sb:Seg r b 0 b.size) (h:ia=a.size\/ib=b.size):MR r a b (out++a.extract ia a.size++b.extract ib b.size):=by
 have e:(out++a.extract ia a.size++b.extract ib b.size).toList=out.toList++(a.toList.drop ia++b.toList.drop ib):=by
   rw [Array.toList_append,Array.toList_append,jh,jh,List.append_assoc]
 refine ⟨by rw [e];exact m.pm,?_⟩
 rw [e,List.pairwise_append]
 refine ⟨m.so,?_,fun x hx y hy=>?_⟩
 · rcases h with h | h
   · rw [List.drop_eq_nil_of_le (as:=a.toList) (by simp [h]),List.nil_append]
     exact (gq sb).drop
   · rw [List.drop_eq_nil_of_le (as:=b.toList) (by simp [h]),List.append_nil]
     exact (gq sa).drop
 · rcases List.mem_append.mp hy with hy | hy
   · exact m.la x hx y hy
   · exact m.lb x hx y hy
theorem MI.last {a b out:Array Keyed} {ia ib:Nat} (m:MI r a b out ia ib) (sb:Seg r b 0 b.size) (h:ia+1=a.size) (hl:∀ j (hj:j < b.size),le r b[j] a[ia]):MR r a b (out++b.extract ib b.size++a.extract ia a.size):=by
 have e:(out++b.extract ib b.size++a.extract ia a.size).toList=out.toList++(b.toList.drop ib++a.toList.drop ia):=by
   rw [Array.toList_append,Array.toList_append,jh,jh,List.append_assoc]
 have e2:a.toList.drop ia=[a[ia]]:=by rw [pb (by omega),List.drop_eq_nil_of_le (by simp;omega)]
 refine ⟨by rw [e];exact (List.perm_append_comm.append_left _).trans m.pm,?_⟩
 rw [e,List.pairwise_append]
 refine ⟨m.so,?_,fun x hx y hy=>?_⟩
 · rw [List.pairwise_append]
   refine ⟨(gq sb).drop,by rw [e2];exact List.pairwise_singleton _ _,fun x hx y hy=>?_⟩
   rw [e2] at hy
   obtain ⟨j,hj,_,rfl⟩:=mw hx
   rw [List.mem_singleton.mp hy]
   exact hl j hj
 · rcases List.mem_append.mp hy with hy | hy
   · exact m.lb x hx y hy
   · exact m.la x hx y hy
end TS
end
section
open PySem PyProof.Rows
namespace TS
variable {prog:Program} {w:World} {A:Around} {E:Value->Shared->Prop} {s:Shared} {κ:SortKind} {G:Keyed->Prop} {r:Keyed->Keyed->Bool}
noncomputable def eZ (st st':SortSt):Prop:=kindOf st'=kindOf st/\arrOf st'=arrOf st/\pendingOf st'=pendingOf st/\failedOf st'=failedOf st
noncomputable def dJ:Nat->StateT SortSt Sem Unit:=sortPriv% PySem.Builtin.setMinGallop
theorem fN {g:Nat} {Q:Unit->SortSt->Prop} {st st0:SortSt} (hk:eZ st0 st) (h:∀ st',eZ st0 st'->Q () st'):wpS (model prog w) A E s (dJ g) Q st:=by
 unfold dJ
 exact wpS_modify (h _ hk)
theorem fu {t:String} {Q:Unit->SortSt->Prop} {st:SortSt} (h:Q () st):wpS (model prog w) A E s (liftM (rule t)) Q st:=wpS_lift (wpAny_rule ⟨rfl,h⟩)
theorem aC {α:Type} {c:Prop} [Decidable c] {x y:StateT SortSt Sem α} {Q:α->SortSt->Prop} {st:SortSt} (ht:c->wpS (model prog w) A E s x Q st) (hf:¬ c->wpS (model prog w) A E s y Q st) :
   wpS (model prog w) A E s (if c then x else y) Q st:=by
 by_cases hc:c
 · rw [if_pos hc];exact ht hc
 · rw [if_neg hc];exact hf hc
theorem pG {α:Type} {c:Nat->Prop} [∀ n,Decidable (c n)] {B1 B2:Nat->StateT SortSt Sem α} {Q:α->SortSt->Prop} {st:SortSt} (e:∀ n,B1 n=B2 (n - 1)) (h:∀ n,wpS (model prog w) A E s (B2 n) Q st):∀ n,wpS (model prog w) A E s (if c n then B1 n else B2 n) Q st :=
 fun n=>aC (fun _=>by rw [e];exact h _) fun _=>h n
theorem bh {α:Type} {a:Array Keyed} {i:Nat} {c:Keyed->Prop} [∀ v,Decidable (c v)] {x y:Keyed->StateT SortSt Sem α} {Q:α->SortSt->Prop} {st:SortSt} (hi:i < a.size) (ht:c a[i]->wpS (model prog w) A E s (x a[i]) Q st) (hf:¬ c a[i]->wpS (model prog w) A E s (y a[i]) Q st) :
   wpS (model prog w) A E s (elem' a i >>= fun v=>if c v then x v else y v) Q st:=wpS_bind (dz hi (aC ht hf))
theorem sG {α:Type} {c d:Prop} [Decidable c] [Decidable d] {x y z:StateT SortSt Sem α} {Q:α->SortSt->Prop} {st:SortSt} (h1:c->wpS (model prog w) A E s x Q st) (h2:¬ c->d->wpS (model prog w) A E s y Q st) (h3:¬ c->¬ d->wpS (model prog w) A E s z Q st) :
   wpS (model prog w) A E s (if c then x else if d then y else z) Q st:=aC h1 fun e=>aC (h2 e) (h3 e)
theorem gg {α β:Type} {a:Array Keyed} {i:Nat} {m:Keyed->StateT SortSt Sem β} {f:Keyed->β->StateT SortSt Sem α} {Q:α->SortSt->Prop} {st:SortSt} (hi:i < a.size) (h:wpS (model prog w) A E s (m a[i]) (fun v st'=>wpS (model prog w) A E s (f a[i] v) Q st') st) :
   wpS (model prog w) A E s (elem' a i >>= fun u=>m u >>= fun v=>f u v) Q st:=wpS_bind (dz hi (wpS_bind h))
structure MC (G:Keyed->Prop) (r:Keyed->Keyed->Bool) (a b:Array Keyed):Prop where
 ga:∀ x∈a,G x
 gb:∀ x∈b,G x
 sa:Seg r a 0 a.size
 sb:Seg r b 0 b.size
 na:0 < a.size
 nb:0 < b.size
 first:le r b[0] a[0]
 last:∀ j (hj:j < b.size),le r b[j] a[a.size - 1]
theorem MC.last' {a b:Array Keyed} (M:MC G r a b) {i:Nat} (hi:i < a.size) (h:i+1=a.size):∀ j (hj:j < b.size),le r b[j] a[i]:=by
 intro j hj
 have:=M.last j hj
 have e:a.size - 1=i:=by lia
 simpa [e] using this
theorem MC.bA (C:Cmp prog w A E s κ G r) {a b:Array Keyed} (M:MC G r a b) {i j:Nat} (hi:i < a.size) (hj:j < b.size) (h:le r b[j] a[i]):∀ k (hk:k < a.size),i<=k->le r b[j] a[k]:=fun k hk hik =>
 C.tr (M.gb _ (Array.getElem_mem hj)) (M.ga _ (Array.getElem_mem hi)) (M.ga _ (Array.getElem_mem hk)) h (M.sa i k hi hk (Nat.zero_le _) hik hk)
theorem MC.aB (C:Cmp prog w A E s κ G r) {a b:Array Keyed} (M:MC G r a b) {i j:Nat} (hi:i < a.size) (hj:j < b.size) (h:le r a[i] b[j]):∀ k (hk:k < b.size),j<=k->le r a[i] b[k]:=fun k hk hik =>
 C.tr (M.ga _ (Array.getElem_mem hi)) (M.gb _ (Array.getElem_mem hj)) (M.gb _ (Array.getElem_mem hk)) h (M.sb j k hj hk (Nat.zero_le _) hik hk)
theorem gM {a:Array Keyed} (h:Seg r a 0 a.size) (lo hi:Nat):Seg r a lo hi:=fun i j hi' hj h1 h2 h3=>h i j hi' hj (Nat.zero_le _) h2 hj
theorem Ay (C:Cmp prog w A E s κ G r) {a b:Array Keyed} {st:SortSt} {Q:Array Keyed->SortSt->Prop} (hk:kindOf st=κ) (M:MC G r a b) (h:∀ res st',eZ st st'->MR r a b res->Q res st') :
   wpS (model prog w) A E s (jF a b) Q st:=by
 have hna:=M.na
 have hnb:=M.nb
 unfold jF
 change wpS (model prog w) A E s (_ >>= _) Q st
 dsimp only
 refine wpS_bind (fu ?_)
 have m0:MI r a b #[] 0 0:=⟨by simp,by simp,by simp,by simp⟩
 have m1:MI r a b #[b[0]] 0 1:=m0.pushB M.sb M.nb fun j hj _=>M.bA C M.na M.nb M.first j hj (Nat.zero_le _)
 have kp0:eZ st st:=⟨rfl,rfl,rfl,rfl⟩
 refine bh M.nb (fun e=>?_) fun e1=>?_
 · exact wpS_pure (h _ _ kp0 (m1.fin M.sa M.sb (.inr (by simpa using e))))
 refine aC (fun e=>?_) fun e2=>?_
 · exact wpS_pure (h _ _ kp0 (m1.last M.sb (by simpa using e) (M.last' M.na (by simpa using e))))
 have e1':1 < b.size:=by simp at e1;lia
 have e2':0+1 < a.size:=by simp at e2;lia
 refine wpS_bind (wpS_get ?_)
 refine wpS_bind (wpS_mono (wpS_forRange
   (I:=fun x c st'=>eZ st st'/\c.1=none/\MI r a b c.2.1 c.2.2.1 c.2.2.2.1/\c.2.2.1+1 < a.size/\c.2.2.2.1 < b.size/\x < c.2.1.size)
   (Q:=fun c st'=>eZ st st'/\∃ res,c.1=some res/\MR r a b res) ?step ?fin ?init) ?post)
 case init=>exact ⟨kp0,rfl,m1,e2',e1',by simp⟩
 case fin =>
   refine qN fun c1 out ia ib mg st' hh=>?_
   have kp:=hh.1
   have q1:=hh.2.1
   have m:=hh.2.2.1
   have q2:=hh.2.2.2.1
   have q3:=hh.2.2.2.2.1
   have q4:=hh.2.2.2.2.2
   clear hh
   dsimp only at *
   have:=m.size (by lia) (by lia)
   lia
 case post =>
   refine qN fun c1 out ia ib mg=>?_
   rintro st' ⟨kp,res,q1,q2⟩
   dsimp only at *
   subst q1
   exact wpS_pure (h _ _ kp q2)
 case step =>
   intro x
   refine qN fun c1 out ia ib mg st' _ hx hh=>?_
   have kp:=hh.1
   have q1:=hh.2.1
   have m:=hh.2.2.1
   have q2:=hh.2.2.2.1
   have q3:=hh.2.2.2.2.1
   have q4:=hh.2.2.2.2.2
   clear hh
   dsimp only at *
   refine wpS_bind (wpS_mono (wpS_forRange
     (I:=fun y c st'=>eZ st st'/\c.1=none/\MI r a b c.2.1 c.2.2.1 c.2.2.2.1/\c.2.2.1+1 < a.size/\c.2.2.2.1 < b.size/\x+y < c.2.1.size)
     (Q:=fun c st'=>eZ st st'/\((∃ res,c.1=some res/\MR r a b res)\/(c.1=none/\MI r a b c.2.1 c.2.2.1 c.2.2.2.1/\c.2.2.1+1 < a.size/\c.2.2.2.1 < b.size/\x+1 < c.2.1.size))) ?step2 ?fin2 ?init2) ?post2)
   case init2=>exact ⟨kp,rfl,m,q2,q3,by simpa using q4⟩
   case fin2 =>
     refine oj fun c1 out ia ib ac bc st' hh=>?_
     have kp:=hh.1
     have q1:=hh.2.1
     have m:=hh.2.2.1
     have q2:=hh.2.2.2.1
     have q3:=hh.2.2.2.2.1
     have q4:=hh.2.2.2.2.2
     clear hh
     dsimp only at *
     exact ⟨kp,.inr ⟨q1,m,q2,q3,by (try dsimp only);lia⟩⟩
   case step2 =>
     intro y
     refine oj fun c1 out ia ib ac bc st' _ hy hh=>?_
     have kp:=hh.1
     have q1:=hh.2.1
     have m:=hh.2.2.1
     have q2:=hh.2.2.2.1
     have q3:=hh.2.2.2.2.1
     have q4:=hh.2.2.2.2.2
     clear hh
     dsimp only at *
     have hia:ia < a.size:=by lia
     have gA:=M.ga _ (Array.getElem_mem hia)
     have gB:=M.gb _ (Array.getElem_mem q3)
     refine gg q3 (dz hia ?_)
     refine wpS_bind (C.run _ _ _ _ (kp.1.trans hk) gB gA ?_)
     dsimp only
     cases e:r b[ib] a[ia] with
     | true =>
       rw [if_pos rfl]
       have m2:=m.pushB M.sb q3 (M.bA C hia q3 (C.le_of gB gA e))
       refine bh q3 (fun e3=>?_) fun e3=>?_
       · exact wpS_pure ⟨kp,.inl ⟨_,rfl,m2.fin M.sa M.sb (.inr (by simpa using e3))⟩⟩
       · have e3':ib+1 < b.size:=by simp at e3;lia
         refine aC (fun _=>?_) fun _=>?_
         · exact wpS_pure ⟨kp,.inr ⟨rfl,m2,q2,e3',by simp;lia⟩⟩
         · exact wpS_pure ⟨kp,rfl,m2,q2,e3',by simp;lia⟩
     | false =>
       rw [if_neg Bool.false_ne_true]
       have m2:=m.pushA M.sa hia (M.aB C hia q3 e)
       refine bh hia (fun e3=>?_) fun e3=>?_
       · exact wpS_pure ⟨kp,.inl ⟨_,rfl,m2.last M.sb (by simpa using e3) (M.last' (by lia) (by simpa using e3))⟩⟩
       · have e3':ia+1+1 < a.size:=by simp at e3;lia
         refine aC (fun _=>?_) fun _=>?_
         · exact wpS_pure ⟨kp,.inr ⟨rfl,m2,e3',q3,by simp;lia⟩⟩
         · exact wpS_pure ⟨kp,rfl,m2,e3',q3,by simp;lia⟩
   case post2 =>
     refine oj fun c1 out ia ib ac bc=>?_
     rintro st' ⟨kp,⟨res,q1,q2⟩ | ⟨q1,m,q2,q3,q4⟩⟩
     · dsimp only at *
       subst q1
       exact wpS_pure ⟨kp,res,rfl,q2⟩
     · dsimp only at *
       subst q1
       dsimp only
       refine wpS_bind (fu ?_)
       refine wpS_bind (wpS_mono (wpS_forRange
         (I:=fun y c st'=>eZ st st'/\c.1=none/\MI r a b c.2.1 c.2.2.1 c.2.2.2.1/\c.2.2.1+1 < a.size/\c.2.2.2.1 < b.size/\x+1 < c.2.1.size)
         (Q:=fun c st'=>eZ st st'/\((∃ res,c.1=some res/\MR r a b res)\/(c.1=none/\MI r a b c.2.1 c.2.2.1 c.2.2.2.1/\c.2.2.1+1 < a.size/\c.2.2.2.1 < b.size/\x+1 < c.2.1.size))) ?step3 ?fin3 ?init3) ?post3)
       case init3=>exact ⟨kp,rfl,m,q2,q3,q4⟩
       case fin3 =>
         refine oj fun c1 out ia ib ac bc st' hh=>?_
         have kp:=hh.1
         have q1:=hh.2.1
         have m:=hh.2.2.1
         have q2:=hh.2.2.2.1
         have q3:=hh.2.2.2.2.1
         have q4:=hh.2.2.2.2.2
         clear hh
         exact ⟨kp,.inr ⟨q1,m,q2,q3,q4⟩⟩
       case post3 =>
         refine wB fun c1 out ia ib mg ac bc=>?_
         rintro st' ⟨kp,⟨res,q1,q2⟩ | ⟨q1,m,q2,q3,q4⟩⟩
         · dsimp only at *
           subst q1
           exact wpS_pure ⟨kp,res,rfl,q2⟩
         · dsimp only at *
           subst q1
           dsimp only
           exact wpS_bind (fN kp fun st2 kp2=>wpS_pure ⟨kp2,rfl,m,q2,q3,q4⟩)
       case step3 =>
         intro y
         refine wB fun c1 out ia ib mg ac bc st' _ hy hh=>?_
         have kp:=hh.1
         have q1:=hh.2.1
         have m:=hh.2.2.1
         have q2:=hh.2.2.2.1
         have q3:=hh.2.2.2.2.1
         have q4:=hh.2.2.2.2.2
         clear hh
         dsimp only at *
         have both:∀ {mg:Nat} {F:Unit->StateT SortSt Sem (ForInStep (Option (Array Keyed)×Array Keyed×Nat×Nat×Nat×Nat×Nat))} {P},(∀ st2,eZ st st2->wpS (model prog w) A E s (F ()) P st2)->wpS (model prog w) A E s (dJ mg >>= F) P st':=fun hF=>wpS_bind (fN kp fun st2 kp2=>hF st2 kp2)
         revert mg
         refine pG (fun _=>rfl) fun mg2=>?_
         refine both fun st2 kp2=>?_
         have hia:ia < a.size:=by lia
         have gB:=M.gb _ (Array.getElem_mem q3)
         refine gg q3 (eQ C (kp2.1.trans hk) gB M.ga (by lia) (by lia) (gM M.sa _ _) fun k hk1 hk2 hk3=>?_)
         dsimp only
         refine aC (fun e5=>?_) fun e5=>?_
         · have m2:=m.appA (k:=k) M.sa (fun i hi h1 h2 j hj h3=>C.tr (M.ga _ (Array.getElem_mem hi)) gB (M.gb _ (Array.getElem_mem hj)) (hk2 i hi h1 h2) (M.sb _ j q3 hj (Nat.zero_le _) h3 hj))
           refine sG (fun e6=>?_) (fun e6 e7=>?_) fun e6 e7=>?_
           · exact wpS_pure ⟨kp2,.inl ⟨_,rfl,m2.last M.sb (by simpa using e6) (M.last' (by simp at e6;lia) (by simpa using e6))⟩⟩
           · exact wpS_pure ⟨kp2,.inl ⟨_,rfl,m2.fin M.sa M.sb (.inl (by simpa using e7))⟩⟩
           have hA1:ia+k < a.size:=by simp at e6 e7;lia
           have hA2:ia+k+1 < a.size:=by simp at e6 e7;lia
           have hle:∀ j (hj:j < a.size),ia+k<=j->le r b[ib] a[j]:=fun j hj h=>hk3 j hj h (by lia)
           clear e6
           have m3:=m2.pushB M.sb q3 hle
           refine bh q3 (fun e4=>?_) fun e4=>?_
           · exact wpS_pure ⟨kp2,.inl ⟨_,rfl,m3.fin M.sa M.sb (.inr (by simpa using e4))⟩⟩
           have e4':ib+1 < b.size:=by simp at e4;lia
           refine gg hA1 (eQ C (kp2.1.trans hk) (M.ga _ (Array.getElem_mem hA1)) M.gb (by lia) (by lia) (gM M.sb _ _) fun k2 hl1 hl2 hl3=>?_)
           dsimp only
           have m4:=m3.appB (k:=k2) M.sb (fun i hi h1 h2 j hj h3=>C.tr (M.gb _ (Array.getElem_mem hi)) (M.ga _ (Array.getElem_mem hA1)) (M.ga _ (Array.getElem_mem hj)) (hl2 i hi h1 h2) (M.sa _ j hA1 hj (Nat.zero_le _) h3 hj))
           refine aC (fun e5=>?_) fun e5=>?_
           · refine aC (fun e6=>?_) fun e6=>?_
             · exact wpS_pure ⟨kp2,.inl ⟨_,rfl,m4.fin M.sa M.sb (.inr (by simpa using e6))⟩⟩
             have m5:=m4.pushA M.sa hA1 (fun j hj h=>hl3 j hj h (by lia))
             refine bh hA1 (fun e7=>?_) fun e7=>?_
             · exact wpS_pure ⟨kp2,.inl ⟨_,rfl,m5.last M.sb (by simpa using e7) (M.last' (by simp at e7;lia) (by simpa using e7))⟩⟩
             have e7':=e7
             simp at e7'
             refine aC (fun _=>?_) fun _=>?_
             · exact wpS_pure ⟨kp2,.inr ⟨rfl,m5,by (try dsimp only);lia,by (try dsimp only);(try simp at e6);lia,by simp;lia⟩⟩
             · exact wpS_pure ⟨kp2,rfl,m5,by (try dsimp only);lia,by (try dsimp only);(try simp at e6);lia,by simp;lia⟩
           · have m5:=m3.pushA M.sa hA1 (fun j hj h=>hl3 j hj (by lia) (by lia))
             refine bh hA1 (fun e7=>?_) fun e7=>?_
             · exact wpS_pure ⟨kp2,.inl ⟨_,rfl,m5.last M.sb (by simpa using e7) (M.last' (by simp at e7;lia) (by simpa using e7))⟩⟩
             have e7':=e7
             simp at e7'
             refine aC (fun _=>?_) fun _=>?_
             · exact wpS_pure ⟨kp2,.inr ⟨rfl,m5,by (try dsimp only);lia,by (try dsimp only);(try simp at e6);lia,by simp;lia⟩⟩
             · exact wpS_pure ⟨kp2,rfl,m5,by (try dsimp only);lia,by (try dsimp only);(try simp at e6);lia,by simp;lia⟩
         · have m2:=m
           have hA1:ia < a.size:=by lia
           have hle:∀ j (hj:j < a.size),ia<=j->le r b[ib] a[j]:=fun j hj h=>hk3 j hj (by lia) (by lia)
           have m3:=m2.pushB M.sb q3 hle
           refine bh q3 (fun e4=>?_) fun e4=>?_
           · exact wpS_pure ⟨kp2,.inl ⟨_,rfl,m3.fin M.sa M.sb (.inr (by simpa using e4))⟩⟩
           have e4':ib+1 < b.size:=by simp at e4;lia
           refine gg hA1 (eQ C (kp2.1.trans hk) (M.ga _ (Array.getElem_mem hA1)) M.gb (by lia) (by lia) (gM M.sb _ _) fun k2 hl1 hl2 hl3=>?_)
           dsimp only
           have m4:=m3.appB (k:=k2) M.sb (fun i hi h1 h2 j hj h3=>C.tr (M.gb _ (Array.getElem_mem hi)) (M.ga _ (Array.getElem_mem hA1)) (M.ga _ (Array.getElem_mem hj)) (hl2 i hi h1 h2) (M.sa _ j hA1 hj (Nat.zero_le _) h3 hj))
           refine aC (fun e5=>?_) fun e5=>?_
           · refine aC (fun e6=>?_) fun e6=>?_
             · exact wpS_pure ⟨kp2,.inl ⟨_,rfl,m4.fin M.sa M.sb (.inr (by simpa using e6))⟩⟩
             have m5:=m4.pushA M.sa hA1 (fun j hj h=>hl3 j hj h (by lia))
             refine bh hA1 (fun e7=>?_) fun e7=>?_
             · exact wpS_pure ⟨kp2,.inl ⟨_,rfl,m5.last M.sb (by simpa using e7) (M.last' (by simp at e7;lia) (by simpa using e7))⟩⟩
             have e7':=e7
             simp at e7'
             refine aC (fun _=>?_) fun _=>?_
             · exact wpS_pure ⟨kp2,.inr ⟨rfl,m5,by (try dsimp only);lia,by (try dsimp only);(try simp at e6);lia,by simp;lia⟩⟩
             · exact wpS_pure ⟨kp2,rfl,m5,by (try dsimp only);lia,by (try dsimp only);(try simp at e6);lia,by simp;lia⟩
           · have m5:=m3.pushA M.sa hA1 (fun j hj h=>hl3 j hj (by lia) (by lia))
             refine bh hA1 (fun e7=>?_) fun e7=>?_
             · exact wpS_pure ⟨kp2,.inl ⟨_,rfl,m5.last M.sb (by simpa using e7) (M.last' (by simp at e7;lia) (by simpa using e7))⟩⟩
             have e7':=e7
             simp at e7'
             refine aC (fun _=>?_) fun _=>?_
             · exact wpS_pure ⟨kp2,.inr ⟨rfl,m5,by (try dsimp only);lia,by (try dsimp only);(try simp at e6);lia,by simp;lia⟩⟩
             · exact wpS_pure ⟨kp2,rfl,m5,by (try dsimp only);lia,by (try dsimp only);(try simp at e6);lia,by simp;lia⟩
end TS
end
section
open PySem PyProof.Rows
namespace TS
variable {prog:Program} {w:World} {A:Around} {E:Value->Shared->Prop} {s:Shared} {κ:SortKind} {G:Keyed->Prop} {r:Keyed->Keyed->Bool}
theorem rL {a:Array Keyed} {n:Nat} {x:Keyed} (h:x∈a.toList.take n):∃ j,∃ (hj:j < a.size),j < n/\a[j]=x:=by
 obtain ⟨m,hm,e⟩:=List.getElem_of_mem h
 rw [List.length_take] at hm
 rw [List.getElem_take] at e
 have:m < a.size:=by simpa using (by lia:m < a.toList.length)
 exact ⟨m,this,by lia,by simpa using e⟩
structure HI (r:Keyed->Keyed->Bool) (a b out:Array Keyed) (na nb:Nat):Prop where
 pm:(a.toList.take na++(b.toList.take nb++out.toList.reverse)).Perm (a.toList++b.toList)
 so:out.toList.reverse.Pairwise (le r)
 la:∀ x∈out.toList,∀ y∈a.toList.take na,le r y x
 lb:∀ x∈out.toList,∀ y∈b.toList.take nb,le r y x
theorem HI.size {a b out:Array Keyed} {na nb:Nat} (m:HI r a b out na nb) (h1:na<=a.size) (h2:nb<=b.size):out.size+na+nb=a.size+b.size:=by
 have:=m.pm.length_eq
 simp at this
 lia
theorem HI.appA {a b out:Array Keyed} {na nb k:Nat} (m:HI r a b out na nb) (sa:Seg r a 0 a.size) (hk:k<=na) (hl:∀ i (hi:i < a.size),k<=i->i < na->∀ j (hj:j < b.size),j < nb->le r b[j] a[i]) :
   HI r a b (out++(a.extract k na).reverse) k nb:=by
 have e1:(out++(a.extract k na).reverse).toList.reverse=(a.toList.drop k).take (na - k)++out.toList.reverse:=by
   simp [List.extract_eq_drop_take]
 have e2:a.toList.take na=a.toList.take k++(a.toList.drop k).take (na - k):=by
   rw [← List.take_append_drop k (a.toList.take na),List.take_take,List.drop_take,Nat.min_eq_left hk]
 have pa:(a.toList.take na).Pairwise (le r):=(gq sa).take
 rw [e2,List.pairwise_append] at pa
 have mem:∀ x,x∈(out++(a.extract k na).reverse).toList->x∈out.toList\/x∈(a.toList.drop k).take (na - k):=fun x hx=>by
   have:x∈(out++(a.extract k na).reverse).toList.reverse:=List.mem_reverse.mpr hx
   rw [e1] at this
   rcases List.mem_append.mp this with h | h
   · exact .inr h
   · exact .inl (List.mem_reverse.mp h)
 refine ⟨?_,?_,?_,?_⟩
 · rw [e1]
   have:=m.pm
   rw [e2] at this
   refine List.Perm.trans ?_ this
   rw [List.append_assoc]
   refine List.Perm.append_left _ ?_
   rw [← List.append_assoc,← List.append_assoc]
   exact List.Perm.append_right _ List.perm_append_comm
 · rw [e1,List.pairwise_append]
   refine ⟨pa.2.1,m.so,fun x hx y hy=>m.la y (List.mem_reverse.mp hy) x ?_⟩
   rw [e2]
   exact List.mem_append_right _ hx
 · intro x hx y hy
   rcases mem x hx with hx | hx
   · exact m.la x hx y (by rw [e2];exact List.mem_append_left _ hy)
   · exact pa.2.2 y hy x hx
 · intro x hx y hy
   rcases mem x hx with hx | hx
   · exact m.lb x hx y hy
   · obtain ⟨i,hi,h1,h2,rfl⟩:=ik hx
     obtain ⟨j,hj,h3,rfl⟩:=rL hy
     exact hl i hi h1 (by lia) j hj h3
theorem HI.swap {a b out:Array Keyed} {na nb:Nat} (m:HI r a b out na nb):HI r b a out nb na:=by
 refine ⟨?_,m.so,m.lb,m.la⟩
 refine List.Perm.trans ?_ (m.pm.trans List.perm_append_comm)
 rw [← List.append_assoc,← List.append_assoc]
 exact List.Perm.append_right _ List.perm_append_comm
theorem HI.appB {a b out:Array Keyed} {na nb k:Nat} (m:HI r a b out na nb) (sb:Seg r b 0 b.size) (hk:k<=nb) (hl:∀ i (hi:i < b.size),k<=i->i < nb->∀ j (hj:j < a.size),j < na->le r a[j] b[i]) :
   HI r a b (out++(b.extract k nb).reverse) na k:=(m.swap.appA sb hk hl).swap
theorem t8 {a out:Array Keyed} {i:Nat} (h:i < a.size):out.push a[i]=out++(a.extract i (i+1)).reverse:=by
 apply Array.ext'
 have:(a.extract i (i+1)).toList=[a[i]]:=by
   have e:i < a.toList.length:=by simpa using h
   simp [List.extract_eq_drop_take,List.drop_eq_getElem_cons e]
 rw [Array.toList_append,Array.toList_reverse,this,Array.toList_push]
 rfl
theorem HI.pushA {a b out:Array Keyed} {na nb:Nat} (m:HI r a b out na nb) (sa:Seg r a 0 a.size) (h0:0 < na) (h:na - 1 < a.size) (hl:∀ j (hj:j < b.size),j < nb->le r b[j] a[na - 1]):HI r a b (out.push a[na - 1]) (na - 1) nb:=by
 rw [t8 h]
 have e:na - 1+1=na:=by lia
 rw [e]
 refine m.appA sa (by lia) fun i hi h1 h2 j hj h3=>?_
 have:i=na - 1:=by lia
 subst this
 exact hl j hj h3
theorem HI.pushB {a b out:Array Keyed} {na nb:Nat} (m:HI r a b out na nb) (sb:Seg r b 0 b.size) (h0:0 < nb) (h:nb - 1 < b.size) (hl:∀ j (hj:j < a.size),j < na->le r a[j] b[nb - 1]):HI r a b (out.push b[nb - 1]) na (nb - 1):=(m.swap.pushA sb h0 h hl).swap
theorem vJ {a:Array Keyed} {n:Nat}:(a.extract 0 n).toList=a.toList.take n:=by
 rw [Array.toList_extract,List.extract_eq_drop_take,List.drop_zero,Nat.sub_zero]
theorem HI.fin {a b out:Array Keyed} {na nb:Nat} (m:HI r a b out na nb) (sa:Seg r a 0 a.size) (sb:Seg r b 0 b.size) (h:na=0\/nb=0):MR r a b (a.extract 0 na++b.extract 0 nb++out.reverse):=by
 have e:(a.extract 0 na++b.extract 0 nb++out.reverse).toList=a.toList.take na++(b.toList.take nb++out.toList.reverse):=by
   rw [Array.toList_append,Array.toList_append,vJ,vJ,List.append_assoc,Array.toList_reverse]
 refine ⟨by rw [e];exact m.pm,?_⟩
 rw [e,← List.append_assoc,List.pairwise_append]
 refine ⟨?_,m.so,fun x hx y hy=>?_⟩
 · rcases h with h | h
   · subst h
     rw [List.take_zero,List.nil_append]
     exact (gq sb).take
   · subst h
     rw [List.take_zero,List.append_nil]
     exact (gq sa).take
 · rcases List.mem_append.mp hx with hx | hx
   · exact m.la y (List.mem_reverse.mp hy) x hx
   · exact m.lb y (List.mem_reverse.mp hy) x hx
theorem HI.first {a b out:Array Keyed} {na nb:Nat} (m:HI r a b out na nb) (sa:Seg r a 0 a.size) (h:nb=1) (hb:0 < b.size) (hl:∀ j (hj:j < a.size),le r b[0] a[j]):MR r a b (b.extract 0 nb++a.extract 0 na++out.reverse):=by
 have e:(b.extract 0 nb++a.extract 0 na++out.reverse).toList=b.toList.take nb++(a.toList.take na++out.toList.reverse):=by
   rw [Array.toList_append,Array.toList_append,vJ,vJ,List.append_assoc,Array.toList_reverse]
 have e2:b.toList.take nb=[b[0]]:=by
   subst h
   have:=pb hb
   rw [List.drop_zero] at this
   rw [this]
   rfl
 refine ⟨?_,?_⟩
 · rw [e]
   exact m.swap.pm.trans List.perm_append_comm
 rw [e,← List.append_assoc,List.pairwise_append]
 refine ⟨?_,m.so,fun x hx y hy=>?_⟩
 · rw [List.pairwise_append]
   refine ⟨by rw [e2];exact List.pairwise_singleton _ _,(gq sa).take,fun x hx y hy=>?_⟩
   rw [e2] at hx
   obtain ⟨j,hj,_,rfl⟩:=rL hy
   rw [List.mem_singleton.mp hx]
   exact hl j hj
 · rcases List.mem_append.mp hx with hx | hx
   · exact m.lb y (List.mem_reverse.mp hy) x hx
   · exact m.la y (List.mem_reverse.mp hy) x hx
theorem MC.first' (C:Cmp prog w A E s κ G r) {a b:Array Keyed} (M:MC G r a b):∀ j (hj:j < a.size),le r (b[0]'M.nb) a[j]:=fun j hj=>M.bA C M.na M.nb M.first j hj (Nat.zero_le _)
theorem Bt (C:Cmp prog w A E s κ G r) {a b:Array Keyed} {st:SortSt} {Q:Array Keyed->SortSt->Prop} (hk:kindOf st=κ) (M:MC G r a b) (h:∀ res st',eZ st st'->MR r a b res->Q res st') :
   wpS (model prog w) A E s (jm a b) Q st:=by
 have hna:=M.na
 have hnb:=M.nb
 unfold jm
 change wpS (model prog w) A E s (_ >>= _) Q st
 dsimp only
 have hl0:a.size - 1 < a.size:=by lia
 refine wpS_bind (fu ?_)
 have m0:HI r a b #[] a.size b.size:=⟨by simp [List.take_of_length_le],by simp,by simp,by simp⟩
 have m1:HI r a b #[a[a.size - 1]] (a.size - 1) b.size:=m0.pushA M.sa hna hl0 fun j hj _=>M.last j hj
 have kp0:eZ st st:=⟨rfl,rfl,rfl,rfl⟩
 refine bh hl0 (fun e=>?_) fun e1=>?_
 · exact wpS_pure (h _ _ kp0 (m1.fin M.sa M.sb (.inl (by simpa using e))))
 refine aC (fun e=>?_) fun e2=>?_
 · exact wpS_pure (h _ _ kp0 (m1.first M.sa (by simpa using e) M.nb (M.first' C)))
 have e1':0 < a.size - 1:=by simp at e1;lia
 have e2':1 < b.size:=by simp at e2;lia
 refine wpS_bind (wpS_get ?_)
 refine wpS_bind (wpS_mono (wpS_forRange
   (I:=fun x c st'=>eZ st st'/\c.1=none/\HI r a b c.2.2.2.1 c.2.1 c.2.2.1/\0 < c.2.1/\c.2.1<=a.size/\1 < c.2.2.1/\c.2.2.1<=b.size/\x < c.2.2.2.1.size)
   (Q:=fun c st'=>eZ st st'/\∃ res,c.1=some res/\MR r a b res) ?step ?fin ?init) ?post)
 case init=>exact ⟨kp0,rfl,m1,e1',by (try dsimp only);lia,e2',Nat.le_refl _,by simp⟩
 case fin =>
   refine qN fun c1 na nb out mg st' hh=>?_
   have kp:=hh.1
   have q1:=hh.2.1
   have m:=hh.2.2.1
   have q2:=hh.2.2.2.1
   have q3:=hh.2.2.2.2.1
   have q5:=hh.2.2.2.2.2.1
   have q6:=hh.2.2.2.2.2.2.1
   have q4:=hh.2.2.2.2.2.2.2
   clear hh
   dsimp only at *
   have:=m.size (by lia) (by lia)
   lia
 case post =>
   refine qN fun c1 na nb out mg=>?_
   rintro st' ⟨kp,res,q1,q2⟩
   dsimp only at *
   subst q1
   exact wpS_pure (h _ _ kp q2)
 case step =>
   intro x
   refine qN fun c1 na nb out mg st' _ hx hh=>?_
   have kp:=hh.1
   have q1:=hh.2.1
   have m:=hh.2.2.1
   have q2:=hh.2.2.2.1
   have q3:=hh.2.2.2.2.1
   have q5:=hh.2.2.2.2.2.1
   have q6:=hh.2.2.2.2.2.2.1
   have q4:=hh.2.2.2.2.2.2.2
   clear hh
   dsimp only at *
   refine wpS_bind (wpS_mono (wpS_forRange
     (I:=fun y c st'=>eZ st st'/\c.1=none/\HI r a b c.2.2.2.1 c.2.1 c.2.2.1/\0 < c.2.1/\c.2.1<=a.size/\1 < c.2.2.1/\c.2.2.1<=b.size/\x+y < c.2.2.2.1.size)
     (Q:=fun c st'=>eZ st st'/\((∃ res,c.1=some res/\MR r a b res)\/(c.1=none/\HI r a b c.2.2.2.1 c.2.1 c.2.2.1/\0 < c.2.1/\c.2.1<=a.size/\1 < c.2.2.1/\c.2.2.1<=b.size/\x+1 < c.2.2.2.1.size))) ?step2 ?fin2 ?init2) ?post2)
   case init2=>exact ⟨kp,rfl,m,q2,q3,q5,q6,by simpa using q4⟩
   case fin2 =>
     refine oj fun c1 na nb out ac bc st' hh=>?_
     have kp:=hh.1
     have q1:=hh.2.1
     have m:=hh.2.2.1
     have q2:=hh.2.2.2.1
     have q3:=hh.2.2.2.2.1
     have q5:=hh.2.2.2.2.2.1
     have q6:=hh.2.2.2.2.2.2.1
     have q4:=hh.2.2.2.2.2.2.2
     clear hh
     dsimp only at *
     exact ⟨kp,.inr ⟨q1,m,q2,q3,q5,q6,by (try dsimp only);lia⟩⟩
   case step2 =>
     intro y
     refine oj fun c1 na nb out ac bc st' _ hy hh=>?_
     have kp:=hh.1
     have q1:=hh.2.1
     have m:=hh.2.2.1
     have q2:=hh.2.2.2.1
     have q3:=hh.2.2.2.2.1
     have q5:=hh.2.2.2.2.2.1
     have q6:=hh.2.2.2.2.2.2.1
     have q4:=hh.2.2.2.2.2.2.2
     clear hh
     dsimp only at *
     have hA1:na - 1 < a.size:=by lia
     have hB1:nb - 1 < b.size:=by lia
     have gA:=M.ga _ (Array.getElem_mem hA1)
     have gB:=M.gb _ (Array.getElem_mem hB1)
     refine gg hB1 (dz hA1 ?_)
     refine wpS_bind (C.run _ _ _ _ (kp.1.trans hk) gB gA ?_)
     dsimp only
     cases e:r b[nb - 1] a[na - 1] with
     | true =>
       rw [if_pos rfl]
       have m2:=m.pushA M.sa q2 hA1 (fun j hj hjn=>C.tr (M.gb _ (Array.getElem_mem hj)) gB gA (M.sb j _ hj hB1 (Nat.zero_le _) (by lia) hB1) (C.le_of gB gA e))
       refine bh hA1 (fun e3=>?_) fun e3=>?_
       · exact wpS_pure ⟨kp,.inl ⟨_,rfl,m2.fin M.sa M.sb (.inl (by simpa using e3))⟩⟩
       · have e3':0 < na - 1:=by simp at e3;lia
         refine aC (fun _=>?_) fun _=>?_
         · exact wpS_pure ⟨kp,.inr ⟨rfl,m2,e3',by (try dsimp only);lia,q5,q6,by simp;lia⟩⟩
         · exact wpS_pure ⟨kp,rfl,m2,e3',by (try dsimp only);lia,q5,q6,by simp;lia⟩
     | false =>
       rw [if_neg Bool.false_ne_true]
       have m2:=m.pushB M.sb (by lia) hB1 (fun j hj hjn=>C.tr (M.ga _ (Array.getElem_mem hj)) gA gB (M.sa j _ hj hA1 (Nat.zero_le _) (by lia) hA1) e)
       refine bh hB1 (fun e3=>?_) fun e3=>?_
       · exact wpS_pure ⟨kp,.inl ⟨_,rfl,m2.first M.sa (by simpa using e3) M.nb (M.first' C)⟩⟩
       · have e3':1 < nb - 1:=by simp at e3;lia
         refine aC (fun _=>?_) fun _=>?_
         · exact wpS_pure ⟨kp,.inr ⟨rfl,m2,q2,q3,e3',by (try dsimp only);lia,by simp;lia⟩⟩
         · exact wpS_pure ⟨kp,rfl,m2,q2,q3,e3',by (try dsimp only);lia,by simp;lia⟩
   case post2 =>
     refine oj fun c1 na nb out ac bc=>?_
     rintro st' ⟨kp,⟨res,q1,q2⟩ | ⟨q1,m,q2,q3,q5,q6,q4⟩⟩
     · dsimp only at *
       subst q1
       exact wpS_pure ⟨kp,res,rfl,q2⟩
     · dsimp only at *
       subst q1
       dsimp only
       refine wpS_bind (fu ?_)
       refine wpS_bind (wpS_mono (wpS_forRange
         (I:=fun y c st'=>eZ st st'/\c.1=none/\HI r a b c.2.2.2.1 c.2.1 c.2.2.1/\0 < c.2.1/\c.2.1<=a.size/\1 < c.2.2.1/\c.2.2.1<=b.size/\x+1 < c.2.2.2.1.size)
         (Q:=fun c st'=>eZ st st'/\((∃ res,c.1=some res/\MR r a b res)\/(c.1=none/\HI r a b c.2.2.2.1 c.2.1 c.2.2.1/\0 < c.2.1/\c.2.1<=a.size/\1 < c.2.2.1/\c.2.2.1<=b.size/\x+1 < c.2.2.2.1.size))) ?step3 ?fin3 ?init3) ?post3)
       case init3=>exact ⟨kp,rfl,m,q2,q3,q5,q6,q4⟩
       case fin3 =>
         refine oj fun c1 na nb out ac bc st' hh=>?_
         have kp:=hh.1
         have q1:=hh.2.1
         have m:=hh.2.2.1
         have q2:=hh.2.2.2.1
         have q3:=hh.2.2.2.2.1
         have q5:=hh.2.2.2.2.2.1
         have q6:=hh.2.2.2.2.2.2.1
         have q4:=hh.2.2.2.2.2.2.2
         clear hh
         exact ⟨kp,.inr ⟨q1,m,q2,q3,q5,q6,q4⟩⟩
       case post3 =>
         refine wB fun c1 na nb out mg ac bc=>?_
         rintro st' ⟨kp,⟨res,q1,q2⟩ | ⟨q1,m,q2,q3,q5,q6,q4⟩⟩
         · dsimp only at *
           subst q1
           exact wpS_pure ⟨kp,res,rfl,q2⟩
         · dsimp only at *
           subst q1
           dsimp only
           exact wpS_bind (fN kp fun st2 kp2=>wpS_pure ⟨kp2,rfl,m,q2,q3,q5,q6,q4⟩)
       case step3 =>
         intro y
         refine wB fun c1 na nb out mg ac bc st' _ hy hh=>?_
         have kp:=hh.1
         have q1:=hh.2.1
         have m:=hh.2.2.1
         have q2:=hh.2.2.2.1
         have q3:=hh.2.2.2.2.1
         have q5:=hh.2.2.2.2.2.1
         have q6:=hh.2.2.2.2.2.2.1
         have q4:=hh.2.2.2.2.2.2.2
         clear hh
         dsimp only at *
         have both:∀ {mg:Nat} {F:Unit->StateT SortSt Sem (ForInStep (Option (Array Keyed)×Nat×Nat×Array Keyed×Nat×Nat×Nat))} {P},(∀ st2,eZ st st2->wpS (model prog w) A E s (F ()) P st2)->wpS (model prog w) A E s (dJ mg >>= F) P st':=fun hF=>wpS_bind (fN kp fun st2 kp2=>hF st2 kp2)
         revert mg
         refine pG (fun _=>rfl) fun mg2=>?_
         refine both fun st2 kp2=>?_
         have hB0:0 < nb:=by lia
         have hB1:nb - 1 < b.size:=by lia
         have gB:=M.gb _ (Array.getElem_mem hB1)
         refine gg hB1 (eQ C (kp2.1.trans hk) gB M.ga (by lia) (by lia) (gM M.sa _ _) fun k hk1 hk2 hk3=>?_)
         dsimp only
         refine aC (fun e5=>?_) fun e5=>?_
         · have m2:=m.appA (k:=k) M.sa (by lia) (fun i hi h1 h2 j hj h3=>C.tr (M.gb _ (Array.getElem_mem hj)) gB (M.ga _ (Array.getElem_mem hi)) (M.sb j _ hj hB1 (Nat.zero_le _) (by lia) hB1) (hk3 i hi (by lia) (by lia)))
           refine aC (fun e7=>?_) fun e7=>?_
           · exact wpS_pure ⟨kp2,.inl ⟨_,rfl,m2.fin M.sa M.sb (.inl (by simpa using e7))⟩⟩
           have hA0:0 < k:=by simp at e7;lia
           have hA1:k - 1 < a.size:=by lia
           have hle:∀ j (hj:j < a.size),j < k->le r a[j] b[nb - 1]:=fun j hj h=>hk2 j hj (Nat.zero_le _) (by lia)
           clear e7
           have m3:=m2.pushB M.sb hB0 hB1 hle
           refine bh hB1 (fun e4=>?_) fun e4=>?_
           · exact wpS_pure ⟨kp2,.inl ⟨_,rfl,m3.first M.sa (by simpa using e4) M.nb (M.first' C)⟩⟩
           have e4':1 < nb - 1:=by simp at e4;lia
           refine gg hA1 (eQ C (kp2.1.trans hk) (M.ga _ (Array.getElem_mem hA1)) M.gb (by lia) (by lia) (gM M.sb _ _) fun k2 hl1 hl2 hl3=>?_)
           dsimp only
           have m4:=m3.appB (k:=k2) M.sb (by lia) (fun i hi h1 h2 j hj h3=>C.tr (M.ga _ (Array.getElem_mem hj)) (M.ga _ (Array.getElem_mem hA1)) (M.gb _ (Array.getElem_mem hi)) (M.sa j _ hj hA1 (Nat.zero_le _) (by lia) hA1) (hl3 i hi (by lia) (by lia)))
           refine aC (fun e5=>?_) fun e5=>?_
           · refine aC (fun e6=>?_) fun e6=>?_
             · exact wpS_pure ⟨kp2,.inl ⟨_,rfl,m4.first M.sa (by simpa using e6) M.nb (M.first' C)⟩⟩
             refine aC (fun e8=>?_) fun e8=>?_
             · exact wpS_pure ⟨kp2,.inl ⟨_,rfl,m4.fin M.sa M.sb (.inr (by simpa using e8))⟩⟩
             have m5:=m4.pushA M.sa hA0 hA1 (fun j hj h=>hl2 j hj (Nat.zero_le _) (by lia))
             refine bh hA1 (fun e7=>?_) fun e7=>?_
             · exact wpS_pure ⟨kp2,.inl ⟨_,rfl,m5.fin M.sa M.sb (.inl (by simpa using e7))⟩⟩
             have e7':=e7
             simp at e7'
             refine aC (fun _=>?_) fun _=>?_
             · exact wpS_pure ⟨kp2,.inr ⟨rfl,m5,by (try dsimp only);lia,by (try dsimp only);lia,by (try dsimp only);(try simp at e6);(try simp at e8);lia,by (try dsimp only);(try simp at e6);lia,by simp;lia⟩⟩
             · exact wpS_pure ⟨kp2,rfl,m5,by (try dsimp only);lia,by (try dsimp only);lia,by (try dsimp only);(try simp at e6);(try simp at e8);lia,by (try dsimp only);(try simp at e6);lia,by simp;lia⟩
           · have m5:=m3.pushA M.sa hA0 hA1 (fun j hj h=>hl2 j hj (Nat.zero_le _) (by lia))
             refine bh hA1 (fun e7=>?_) fun e7=>?_
             · exact wpS_pure ⟨kp2,.inl ⟨_,rfl,m5.fin M.sa M.sb (.inl (by simpa using e7))⟩⟩
             have e7':=e7
             simp at e7'
             refine aC (fun _=>?_) fun _=>?_
             · exact wpS_pure ⟨kp2,.inr ⟨rfl,m5,by (try dsimp only);lia,by (try dsimp only);lia,by (try dsimp only);(try simp at e6);(try simp at e8);lia,by (try dsimp only);(try simp at e6);lia,by simp;lia⟩⟩
             · exact wpS_pure ⟨kp2,rfl,m5,by (try dsimp only);lia,by (try dsimp only);lia,by (try dsimp only);(try simp at e6);(try simp at e8);lia,by (try dsimp only);(try simp at e6);lia,by simp;lia⟩
         · have m2:=m
           have hA0:0 < na:=q2
           have hA1:na - 1 < a.size:=by lia
           have hle:∀ j (hj:j < a.size),j < na->le r a[j] b[nb - 1]:=fun j hj h=>hk2 j hj (Nat.zero_le _) (by lia)
           have m3:=m2.pushB M.sb hB0 hB1 hle
           refine bh hB1 (fun e4=>?_) fun e4=>?_
           · exact wpS_pure ⟨kp2,.inl ⟨_,rfl,m3.first M.sa (by simpa using e4) M.nb (M.first' C)⟩⟩
           have e4':1 < nb - 1:=by simp at e4;lia
           refine gg hA1 (eQ C (kp2.1.trans hk) (M.ga _ (Array.getElem_mem hA1)) M.gb (by lia) (by lia) (gM M.sb _ _) fun k2 hl1 hl2 hl3=>?_)
           dsimp only
           have m4:=m3.appB (k:=k2) M.sb (by lia) (fun i hi h1 h2 j hj h3=>C.tr (M.ga _ (Array.getElem_mem hj)) (M.ga _ (Array.getElem_mem hA1)) (M.gb _ (Array.getElem_mem hi)) (M.sa j _ hj hA1 (Nat.zero_le _) (by lia) hA1) (hl3 i hi (by lia) (by lia)))
           refine aC (fun e5=>?_) fun e5=>?_
           · refine aC (fun e6=>?_) fun e6=>?_
             · exact wpS_pure ⟨kp2,.inl ⟨_,rfl,m4.first M.sa (by simpa using e6) M.nb (M.first' C)⟩⟩
             refine aC (fun e8=>?_) fun e8=>?_
             · exact wpS_pure ⟨kp2,.inl ⟨_,rfl,m4.fin M.sa M.sb (.inr (by simpa using e8))⟩⟩
             have m5:=m4.pushA M.sa hA0 hA1 (fun j hj h=>hl2 j hj (Nat.zero_le _) (by lia))
             refine bh hA1 (fun e7=>?_) fun e7=>?_
             · exact wpS_pure ⟨kp2,.inl ⟨_,rfl,m5.fin M.sa M.sb (.inl (by simpa using e7))⟩⟩
             have e7':=e7
             simp at e7'
             refine aC (fun _=>?_) fun _=>?_
             · exact wpS_pure ⟨kp2,.inr ⟨rfl,m5,by (try dsimp only);lia,by (try dsimp only);lia,by (try dsimp only);(try simp at e6);(try simp at e8);lia,by (try dsimp only);(try simp at e6);lia,by simp;lia⟩⟩
             · exact wpS_pure ⟨kp2,rfl,m5,by (try dsimp only);lia,by (try dsimp only);lia,by (try dsimp only);(try simp at e6);(try simp at e8);lia,by (try dsimp only);(try simp at e6);lia,by simp;lia⟩
           · have m5:=m3.pushA M.sa hA0 hA1 (fun j hj h=>hl2 j hj (Nat.zero_le _) (by lia))
             refine bh hA1 (fun e7=>?_) fun e7=>?_
             · exact wpS_pure ⟨kp2,.inl ⟨_,rfl,m5.fin M.sa M.sb (.inl (by simpa using e7))⟩⟩
             have e7':=e7
             simp at e7'
             refine aC (fun _=>?_) fun _=>?_
             · exact wpS_pure ⟨kp2,.inr ⟨rfl,m5,by (try dsimp only);lia,by (try dsimp only);lia,by (try dsimp only);(try simp at e6);(try simp at e8);lia,by (try dsimp only);(try simp at e6);lia,by simp;lia⟩⟩
             · exact wpS_pure ⟨kp2,rfl,m5,by (try dsimp only);lia,by (try dsimp only);lia,by (try dsimp only);(try simp at e6);(try simp at e8);lia,by (try dsimp only);(try simp at e6);lia,by simp;lia⟩
end TS
end
section
open PySem PyProof.Rows
namespace TS
variable {prog:Program} {w:World} {A:Around} {E:Value->Shared->Prop} {s:Shared} {κ:SortKind} {G:Keyed->Prop} {r:Keyed->Keyed->Bool}
noncomputable def K (xs:Array Keyed) (i:Nat):Keyed:=(xs[i]?).getD (.none,.none)
theorem uo {xs:Array Keyed} {i:Nat} (h:i < xs.size):K xs i=xs[i]:=by unfold K;rw [getElem?_pos xs i h];rfl
noncomputable def Sg (r:Keyed->Keyed->Bool) (xs:Array Keyed) (lo hi:Nat):Prop:=∀ i j,lo<=i->i<=j->j < hi->le r (K xs i) (K xs j)
noncomputable def Ds (r:Keyed->Keyed->Bool) (xs:Array Keyed) (lo hi:Nat):Prop:=∀ i j,lo<=i->i<=j->j < hi->le r (K xs j) (K xs i)
theorem i5 {xs:Array Keyed} {i j:Nat} (hj:j<=xs.size) (k:Nat):K (mirror xs i j ((j - i) / 2)) k=if i<=k/\k < j then K xs (i+j - 1 - k) else K xs k:=by
 unfold K
 rw [getElem?_mirror_all hj]
 split <;> rfl
theorem xH {xs:Array Keyed} {src d:Nat} (hs:src < xs.size) (hd:d<=src) (k:Nat):K (bubble xs src d) k=if k=src - d then K xs src else if src - d < k/\k<=src then K xs (k - 1) else K xs k:=by
 unfold K
 rw [getElem?_bubble hs d hd]
 split
 · rfl
 · split <;> rfl
structure Lc (lo:Nat) (st0 st:SortSt):Prop where
 kind:kindOf st=kindOf st0
 pend:pendingOf st=pendingOf st0
 fail:failedOf st=failedOf st0
 perm:(arrOf st).Perm (arrOf st0)
 pre:∀ j,j < lo->(arrOf st)[j]?=(arrOf st0)[j]?
theorem Lc.refl (lo:Nat) (st:SortSt):Lc lo st st:=⟨rfl,rfl,rfl,Array.Perm.refl _,fun _ _=>rfl⟩
theorem Lc.size {lo:Nat} {st0 st:SortSt} (L:Lc lo st0 st):(arrOf st).size=(arrOf st0).size:=L.perm.size_eq
theorem Lc.good {lo:Nat} {st0 st:SortSt} (L:Lc lo st0 st) (g:∀ x∈arrOf st0,G x) {i:Nat} (hi:i < (arrOf st0).size):G (K (arrOf st) i):=by
 rw [uo (by rw [L.size];exact hi)]
 refine g _ ?_
 have:(arrOf st)[i]'(by rw [L.size];exact hi)∈(arrOf st).toList:=by simp
 have:=(Array.perm_iff_toList_perm.mp L.perm).mem_iff.mp this
 simpa using this
theorem Lc.arr {lo:Nat} {st0 st:SortSt} (L:Lc lo st0 st) {xs:Array Keyed} (hp:xs.Perm (arrOf st)) (hx:∀ j,j < lo->xs[j]?=(arrOf st)[j]?):Lc lo st0 (setArr st xs) :=
 ⟨L.kind,L.pend,L.fail,hp.trans L.perm,fun j hj=>(hx j hj).trans (L.pre j hj)⟩
theorem Lc.mir {lo:Nat} {st0 st:SortSt} (L:Lc lo st0 st) {i j:Nat} (hi:lo<=i) (hj:j<=(arrOf st0).size):Lc lo st0 (setArr st (mirror (arrOf st) i j ((j - i) / 2))) :=
 L.arr (mirror_perm _ _ _ _) fun k hk=>by rw [getElem?_mirror_all (by rw [L.size];exact hj),if_neg (by lia)]
theorem i0 (C:Cmp prog w A E s κ G r) {lo:Nat} {st0 st:SortSt} (hk:kindOf st0=κ) (g:∀ x∈arrOf st0,G x) (L:Lc lo st0 st) {i j:Nat} {Q:Option Bool->SortSt->Prop} (hi:i < (arrOf st0).size) (hj:j < (arrOf st0).size)
   (h:Q (some (r (K (arrOf st) i) (K (arrOf st) j))) st):wpS (model prog w) A E s (ltAt' i j) Q st:=by
 have gi:=L.good g hi
 have gj:=L.good g hj
 have hi':i < (arrOf st).size:=by rw [L.size];exact hi
 have hj':j < (arrOf st).size:=by rw [L.size];exact hj
 rw [ltAt'_eq]
 refine wpS_bind (wpS_get ?_)
 refine wpS_bind (dz hi' (wpS_bind (dz hj' ?_)))
 rw [uo hi'] at gi h
 rw [uo hj'] at gj h
 exact C.run st _ _ _ (L.kind.trans hk) gi gj h
theorem Ds.mir (C:Cmp prog w A E s κ G r) {xs:Array Keyed} {lo hi i:Nat} (D:Ds r xs lo hi) (gx:∀ k,k < hi->G (K xs k)) (h1:lo<=i) (h2:hi<=xs.size) (h3:∀ k,i<=k->k < hi->le r (K xs k) (K xs (hi - 1))) :
   Ds r (mirror xs i hi ((hi - i) / 2)) lo hi:=fun p q hp hpq hq=>by
 rw [i5 h2,i5 h2]
 have eqv:∀ u v,i<=u->u < hi->i<=v->v < hi->le r (K xs u) (K xs v):=fun u v a b c d=>C.tr (gx u b) (gx _ (by omega)) (gx v d) (h3 u a b) (D v (hi - 1) (by omega) (by omega) (by omega))
 split
 · split
   · exact eqv _ _ (by omega) (by omega) (by omega) (by omega)
   · exact D p _ hp (by omega) (by omega)
 · split
   · omega
   · exact D p q hp hpq hq
theorem Ds.rev {xs:Array Keyed} {lo hi:Nat} (D:Ds r xs lo hi) (h2:hi<=xs.size):Sg r (mirror xs lo hi ((hi - lo) / 2)) lo hi:=fun p q hp hpq hq=>by
 rw [i5 h2,i5 h2,if_pos ⟨hp,by omega⟩,if_pos ⟨by omega,hq⟩]
 exact D _ _ (by omega) (by omega) (by omega)
theorem Sg.snoc (C:Cmp prog w A E s κ G r) {xs:Array Keyed} {lo n:Nat} (S:Sg r xs lo (lo+n)) (gx:∀ k,k<=lo+n->G (K xs k)) (h1:1<=n) (h:le r (K xs (lo+n - 1)) (K xs (lo+n))):Sg r xs lo (lo+n+1):=fun i j hi hij hj=>by
 by_cases e:j < lo+n
 · exact S i j hi hij e
 · have:j=lo+n:=by lia
   subst this
   by_cases e2:i=lo+n
   · subst e2
     exact C.refl (gx _ (Nat.le_refl _))
   · exact C.tr (gx i (by lia)) (gx _ (by lia)) (gx _ (Nat.le_refl _)) (S i (lo+n - 1) hi (by lia) (by lia)) h
theorem Ds.snoc (C:Cmp prog w A E s κ G r) {xs:Array Keyed} {lo n:Nat} (S:Ds r xs lo (lo+n)) (gx:∀ k,k<=lo+n->G (K xs k)) (h1:1<=n) (h:le r (K xs (lo+n)) (K xs (lo+n - 1))):Ds r xs lo (lo+n+1):=fun i j hi hij hj=>by
 by_cases e:j < lo+n
 · exact S i j hi hij e
 · have:j=lo+n:=by lia
   subst this
   by_cases e2:i=lo+n
   · subst e2
     exact C.refl (gx _ (Nat.le_refl _))
   · exact C.tr (gx _ (Nat.le_refl _)) (gx _ (by lia)) (gx i (by lia)) h (S i (lo+n - 1) hi (by lia) (by lia))
theorem jd {st:SortSt} {i j:Nat} {Q:Unit->SortSt->Prop} (h:Q () (setArr st (mirror (arrOf st) i j ((j - i) / 2)))):wpS (model prog w) A E s (reverseSlice' i j) Q st:=by
 rw [reverseSlice'_eq]
 exact wpS_modify h
theorem nS {α:Type} {c:Prop} [Decidable c] {x R:StateT SortSt Sem α} {Q:α->SortSt->Prop} {P:SortSt->Prop} {st:SortSt} (D:∀ st1,P st1->wpS (model prog w) A E s R Q st1) (h2:¬ c->P st) (h1:c->(∀ st1,P st1->wpS (model prog w) A E s R Q st1)->wpS (model prog w) A E s x Q st):wpS (model prog w) A E s (if c then x else R) Q st :=
 aC (fun z=>h1 z D) fun z=>D st (h2 z)
theorem yr (C:Cmp prog w A E s κ G r) {lo n:Nat} {st:SortSt} {Q:Option Nat->SortSt->Prop} (hk:kindOf st=κ) (g:∀ x∈arrOf st,G x) (h0:1<=n) (hn:lo+n<=(arrOf st).size)
   (h:∀ m st',Lc lo st st'->1<=m->m<=n->Sg r (arrOf st') lo (lo+m)->Q (some m) st'):wpS (model prog w) A E s (countRun' lo n) Q st:=by
 unfold countRun'
 change wpS (model prog w) A E s (_ >>= _) Q st
 dsimp only
 have L0:=Lc.refl lo st
 have n01:1<=1:=Nat.le_refl _
 have s0:Sg r (arrOf st) lo (lo+1):=fun i j h1 h2 h3=>by
   have e1:i=lo:=by lia
   have e2:j=lo:=by lia
   subst e1 e2
   exact C.refl (L0.good g (by lia))
 refine wpS_bind (wpS_mono (wpS_forRange
   (I:=fun x c st'=>Lc lo st st'/\c.1=none/\c.2=x/\1<=x/\Sg r (arrOf st') lo (lo+x))
   (Q:=fun c st'=>Lc lo st st'/\c.1=none/\1<=c.2/\c.2<=n/\Sg r (arrOf st') lo (lo+c.2)/\(c.2 < n->r (K (arrOf st') (lo+c.2)) (K (arrOf st') (lo+c.2 - 1))=true)) ?stepA ?finA ?initA) ?postA)
 case initA=>exact ⟨L0,rfl,rfl,n01,s0⟩
 case finA =>
   refine all2 fun c1 c2=>?_
   rintro st' ⟨L,q1,q2,q3,q4⟩
   dsimp only at *
   subst q2
   refine ⟨L,q1,by (try dsimp only);lia,by (try dsimp only);lia,q4,fun z=>?_⟩
   (try dsimp only at z)
   lia
 case stepA =>
   intro x
   refine all2 fun c1 c2=>?_
   rintro st' hx1 hx2 ⟨L,q1,q2,q3,q4⟩
   dsimp only at *
   subst q2
   refine wpS_bind (i0 C hk g L (by lia) (by lia) ?_)
   dsimp only
   have gx:∀ k,k<=lo+c2->G (K (arrOf st') k):=fun k hk=>L.good g (by lia)
   cases e:r (K (arrOf st') (lo+c2)) (K (arrOf st') (lo+c2 - 1)) with
   | true=>exact wpS_pure ⟨L,rfl,q3,by (try dsimp only);lia,q4,fun _=>e⟩
   | false=>exact wpS_pure ⟨L,rfl,rfl,by lia,Sg.snoc C q4 gx q3 e⟩
 case postA =>
   refine all2 fun c1 c2=>?_
   rintro st' ⟨L,q1,q2,q3,q4,q5⟩
   dsimp only at *
   subst q1
   dsimp only
   refine aC (fun e=>?_) fun e=>?_
   · exact wpS_pure (h c2 st' L q2 q3 q4)
   have e':c2 < n:=by simp at e;lia
   have sm:=q5 e'
   have gx:∀ k,k<=lo+c2->G (K (arrOf st') k):=fun k hk=>L.good g (by lia)
   have le1:le r (K (arrOf st') (lo+c2)) (K (arrOf st') (lo+c2 - 1)):=C.le_of (gx _ (by lia)) (gx _ (by lia)) sm
   have hsz:=L.size
   refine nS (P:=fun st1=>Lc lo st st1/\Ds r (arrOf st1) lo (lo+(c2+1))) ?D ?two ?one
   case one =>
     intro e3 Dk
     refine wpS_bind (i0 C hk g L (by lia) (by lia) ?_)
     dsimp only
     cases e4:r (K (arrOf st') lo) (K (arrOf st') (lo+c2 - 1)) with
     | true=>exact wpS_pure (h c2 st' L q2 q3 q4)
     | false =>
       rw [if_neg Bool.false_ne_true]
       refine wpS_bind (jd ?_)
       have L1:=L.mir (i:=lo) (j:=lo+c2) (by lia) (by lia)
       have d0:Ds r (arrOf st') lo (lo+c2):=fun i j h1 h2 h3=>C.tr (gx j (by lia)) (gx _ (by lia)) (gx i (by lia)) (q4 j (lo+c2 - 1) (by lia) (by lia) (by lia))
         (C.tr (gx _ (by lia)) (gx _ (by lia)) (gx i (by lia)) e4 (q4 lo i (by lia) h1 (by lia)))
       have d2:=Ds.mir C d0 (fun k hk=>gx k (by lia)) (i:=lo) (by lia) (by lia) (fun k h1 h2=>q4 k _ h1 (by lia) (by lia))
       have d1:=Ds.snoc C d2 (fun k hk=>L1.good g (by lia)) q2 (by
         rw [i5 (by lia),i5 (by lia),if_neg (by lia),if_pos (by lia)]
         exact C.tr (gx _ (by lia)) (gx _ (by lia)) (gx _ (by lia)) le1 (d0 _ _ (by lia) (by lia) (by lia)))
       exact Dk _ ⟨L1,d1⟩
   case two =>
     intro e3
     have e5:c2=1:=by lia
     have d0:Ds r (arrOf st') lo (lo+c2):=fun i j h1 h2 h3=>by
       have e1:i=lo:=by lia
       have e2:j=lo:=by lia
       subst e1 e2
       exact C.refl (gx _ (by lia))
     have d1:=Ds.snoc C d0 gx q2 le1
     exact ⟨L,d1⟩
   case D =>
     rintro st' ⟨L1,d1⟩
     clear gx hsz
     refine wpS_bind (fu ?_)
     refine wpS_bind (wpS_mono (wpS_forRange
       (I:=fun x c st'=>Lc lo st st'/\c.1=none/\c.2.1=x/\c.2.2+1<=x/\Ds r (arrOf st') lo (lo+x)/\(∀ k,lo+x - (c.2.2+1)<=k->k < lo+x->le r (K (arrOf st') k) (K (arrOf st') (lo+x - 1))))
       (Q:=fun c st'=>Lc lo st st'/\c.1=none/\c.2.2+1<=c.2.1/\c.2.1<=n/\Ds r (arrOf st') lo (lo+c.2.1)/\(∀ k,lo+c.2.1 - (c.2.2+1)<=k->k < lo+c.2.1->le r (K (arrOf st') k) (K (arrOf st') (lo+c.2.1 - 1)))) ?stepD ?finD ?initD) ?postD)
     case initD =>
       refine ⟨L1,rfl,rfl,by (try dsimp only);lia,d1,fun k h1 h2=>?_⟩
       (try dsimp only at h1 h2)
       have e:k=lo+(c2+1) - 1:=by lia
       subst e
       exact C.refl (L1.good g (by lia))
     case finD =>
       refine fZ fun c1 c2' neq=>?_
       rintro st' ⟨L,q1,q2,q3,q4,q5⟩
       dsimp only at *
       subst q2
       exact ⟨L,q1,q3,by (try dsimp only);lia,q4,q5⟩
     case stepD =>
       intro x
       refine fZ fun c1 c2' neq=>?_
       rintro st' hx1 hx2 ⟨L,q1,q2,q3,q4,q5⟩
       dsimp only at *
       subst q2
       refine wpS_bind (i0 C hk g L (by lia) (by lia) ?_)
       dsimp only
       have gx:∀ k,k<=lo+c2'->G (K (arrOf st') k):=fun k hk=>L.good g (by lia)
       have hsz:=L.size
       cases e:r (K (arrOf st') (lo+c2')) (K (arrOf st') (lo+c2' - 1)) with
       | true =>
         rw [if_pos rfl]
         have le1:le r (K (arrOf st') (lo+c2')) (K (arrOf st') (lo+c2' - 1)):=C.le_of (gx _ (by lia)) (gx _ (by lia)) e
         refine aC (fun z=>?_) fun z=>?_
         · refine wpS_bind (jd ?_)
           have L2:=L.mir (i:=lo+c2' - (neq+1)) (j:=lo+c2') (by lia) (by lia)
           have d2:=Ds.mir C q4 (fun k hk=>gx k (by lia)) (i:=lo+c2' - (neq+1)) (by lia) (by lia) q5
           refine wpS_pure ⟨L2,rfl,rfl,by (try dsimp only);lia,Ds.snoc C d2 (fun k hk=>L2.good g (by lia)) (by lia) ?_,fun k h1 h2=>?_⟩
           · show le r (K (mirror _ _ _ _) _) (K (mirror _ _ _ _) _)
             rw [i5 (by lia),i5 (by lia),if_neg (by lia),if_pos (by lia)]
             exact C.tr (gx _ (by lia)) (gx _ (by lia)) (gx _ (by lia)) le1 (q4 _ _ (by lia) (by lia) (by lia))
           · (try dsimp only at h1 h2)
             have e:k=lo+(c2'+1) - 1:=by lia
             subst e
             exact C.refl (L2.good g (by lia))
         · refine wpS_pure ⟨L,rfl,rfl,by (try dsimp only);lia,Ds.snoc C q4 gx (by lia) le1,fun k h1 h2=>?_⟩
           (try dsimp only at h1 h2)
           have e:k=lo+(c2'+1) - 1:=by lia
           subst e
           exact C.refl (L.good g (by lia))
       | false =>
         rw [if_neg Bool.false_ne_true]
         refine wpS_bind (i0 C hk g L (by lia) (by lia) ?_)
         dsimp only
         cases e2:r (K (arrOf st') (lo+c2' - 1)) (K (arrOf st') (lo+c2')) with
         | true=>exact wpS_pure ⟨L,rfl,q3,by (try dsimp only);lia,q4,q5⟩
         | false =>
           refine wpS_pure ⟨L,rfl,rfl,by (try dsimp only);lia,Ds.snoc C q4 gx (by lia) e2,fun k h1 h2=>?_⟩
           (try dsimp only at h1 h2)
           have ee:lo+(c2'+1) - 1=lo+c2':=by lia
           rw [ee]
           by_cases ek:k=lo+c2'
           · subst ek
             exact C.refl (gx _ (by lia))
           · exact C.tr (gx _ (by lia)) (gx _ (by lia)) (gx _ (by lia)) (q5 k (by lia) (by lia)) e
     case postD =>
       refine fZ fun c1 c2' neq=>?_
       rintro st' ⟨L,q1,q3,q6,q4,q5⟩
       dsimp only at *
       subst q1
       dsimp only
       have gx:∀ k,k < lo+c2'->G (K (arrOf st') k):=fun k hk=>L.good g (by lia)
       have hsz:=L.size
       have n01:1<=c2':=by lia
       refine nS (P:=fun st1=>Lc lo st st1/\Ds r (arrOf st1) lo (lo+c2')) ?R ?two2 ?one2
       case one2 =>
         intro z Dk2
         refine wpS_bind (jd ?_)
         have L2:=L.mir (i:=lo+c2' - (neq+1)) (j:=lo+c2') (by lia) (by lia)
         have d2:=Ds.mir C q4 gx (i:=lo+c2' - (neq+1)) (by lia) (by lia) q5
         exact Dk2 _ ⟨L2,d2⟩
       case two2=>exact fun _=>⟨L,q4⟩
       case R =>
         clear q4 q5 gx hsz L
         rintro st' ⟨L,q4⟩
         have hsz:=L.size
         refine wpS_bind (jd ?_)
         have L0:=L.mir (i:=lo) (j:=lo+c2') (by lia) (by lia)
         have s0:=q4.rev (by lia)
         refine wpS_bind (wpS_mono (wpS_forRange
           (I:=fun x c st'=>Lc lo st st'/\c.1=none/\c.2=x/\1<=x/\Sg r (arrOf st') lo (lo+x))
           (Q:=fun c st'=>Lc lo st st'/\c.1=none/\1<=c.2/\c.2<=n/\Sg r (arrOf st') lo (lo+c.2)/\(c.2 < n->r (K (arrOf st') (lo+c.2)) (K (arrOf st') (lo+c.2 - 1))=true)) ?stepA ?finA ?initA) ?postA)
         case initA=>exact ⟨L0,rfl,rfl,n01,s0⟩
         case finA =>
           refine all2 fun c1 c2=>?_
           rintro st' ⟨L,q1,q2,q3,q4⟩
           dsimp only at *
           subst q2
           refine ⟨L,q1,by (try dsimp only);lia,by (try dsimp only);lia,q4,fun z=>?_⟩
           (try dsimp only at z)
           lia
         case stepA =>
           intro x
           refine all2 fun c1 c2=>?_
           rintro st' hx1 hx2 ⟨L,q1,q2,q3,q4⟩
           dsimp only at *
           subst q2
           refine wpS_bind (i0 C hk g L (by lia) (by lia) ?_)
           dsimp only
           have gx:∀ k,k<=lo+c2->G (K (arrOf st') k):=fun k hk=>L.good g (by lia)
           cases e:r (K (arrOf st') (lo+c2)) (K (arrOf st') (lo+c2 - 1)) with
           | true=>exact wpS_pure ⟨L,rfl,q3,by (try dsimp only);lia,q4,fun _=>e⟩
           | false=>exact wpS_pure ⟨L,rfl,rfl,by lia,Sg.snoc C q4 gx q3 e⟩
         case postA =>
           refine all2 fun c1 c3=>?_
           rintro st' ⟨L,q1,q2,q3,q4,q5⟩
           dsimp only at *
           subst q1
           exact wpS_pure (h c3 st' L q2 q3 q4)
end TS
end
section
open PySem PyProof.Rows
namespace TS
variable {prog:Program} {w:World} {A:Around} {E:Value->Shared->Prop} {s:Shared} {κ:SortKind} {G:Keyed->Prop} {r:Keyed->Keyed->Bool}
theorem uK {st:SortSt} {i j:Nat} {Q:Unit->SortSt->Prop} (h:Q () (setArr st (bubble (arrOf st) i (i - j)))):wpS (model prog w) A E s (moveDown' i j) Q st:=by
 rw [moveDown'_eq]
 exact wpS_modify h
theorem Lc.bub {lo:Nat} {st0 st:SortSt} (L:Lc lo st0 st) {i d:Nat} (hd:lo+d<=i) (hj:i < (arrOf st0).size):Lc lo st0 (setArr st (bubble (arrOf st) i d)) :=
 L.arr (bubble_perm _ _ _) fun k hk=>by rw [getElem?_bubble (by rw [L.size];exact hj) d (by lia),if_neg (by lia),if_neg (by lia)]
theorem yk (C:Cmp prog w A E s κ G r) {lo n ok:Nat} {st:SortSt} {Q:Bool->SortSt->Prop} (hk:kindOf st=κ) (g:∀ x∈arrOf st,G x) (h0:1<=ok) (hok:ok<=n) (hn:lo+n<=(arrOf st).size) (S:Sg r (arrOf st) lo (lo+ok))
   (h:∀ st',Lc lo st st'->Sg r (arrOf st') lo (lo+n)->Q true st'):wpS (model prog w) A E s (binarySort' lo n ok) Q st:=by
 unfold binarySort'
 change wpS (model prog w) A E s (_ >>= _) Q st
 dsimp only
 have em:max ok 1=ok:=by lia
 rw [em]
 refine wpS_bind (wpS_mono (wpS_forRange
   (I:=fun x c st'=>Lc lo st st'/\c.1=none/\Sg r (arrOf st') lo (lo+x))
   (Q:=fun c st'=>Lc lo st st'/\c.1=none/\Sg r (arrOf st') lo (lo+n)) ?step ?fin ?init) ?post)
 case init=>exact ⟨Lc.refl _ _,rfl,S⟩
 case fin =>
   refine all2 fun c1 c2=>?_
   rintro st' ⟨L,q1,q2⟩
   have e:max ok n=n:=by lia
   rw [e] at q2
   exact ⟨L,q1,q2⟩
 case post =>
   refine all2 fun c1 c2=>?_
   rintro st' ⟨L,q1,q2⟩
   dsimp only at *
   subst q1
   exact wpS_pure (h st' L q2)
 case step =>
   intro k
   refine all2 fun c1 c2=>?_
   rintro st' hk1 hk2 ⟨L,q1,q2⟩
   dsimp only at *
   have hsz:=L.size
   have gx:∀ j,j<=lo+k->G (K (arrOf st') j):=fun j hj=>L.good g (by lia)
   refine wpS_bind (wpS_mono (wpS_forRange
     (I:=fun x c st2=>st'=st2/\c.1=none/\c.2.1<=c.2.2/\c.2.2<=k/\c.2.2 - c.2.1+x<=k/\(∀ i,lo<=i->i < lo+c.2.1->le r (K (arrOf st') i) (K (arrOf st') (lo+k)))/\(∀ i,lo+c.2.2<=i->i < lo+k->le r (K (arrOf st') (lo+k)) (K (arrOf st') i)))
     (Q:=fun c st2=>st'=st2/\c.1=none/\c.2.1=c.2.2/\c.2.2<=k/\(∀ i,lo<=i->i < lo+c.2.1->le r (K (arrOf st') i) (K (arrOf st') (lo+k)))/\(∀ i,lo+c.2.2<=i->i < lo+k->le r (K (arrOf st') (lo+k)) (K (arrOf st') i))) ?step2 ?fin2 ?init2) ?post2)
   case init2=>exact ⟨rfl,rfl,by (try dsimp only);lia,by (try dsimp only);lia,by (try dsimp only);lia,fun i h1 h2=>by (try dsimp only at h2);lia,fun i h1 h2=>by (try dsimp only at h1);lia⟩
   case fin2 =>
     refine fZ fun d1 l rr=>?_
     rintro st2 ⟨e,q3,q4,q5,q6,q7,q8⟩
     dsimp only at *
     exact ⟨e,q3,by (try dsimp only);lia,q5,q7,q8⟩
   case step2 =>
     intro x
     refine fZ fun d1 l rr=>?_
     rintro st2 _ hx ⟨e,q3,q4,q5,q6,q7,q8⟩
     subst e
     dsimp only at *
     refine aC (fun z=>?_) fun z=>?_
     · exact wpS_pure ⟨rfl,rfl,by (try dsimp only);lia,q5,q7,q8⟩
     · refine wpS_bind (i0 C hk g L (by lia) (by lia) ?_)
       dsimp only
       cases e2:r (K (arrOf st') (lo+k)) (K (arrOf st') (lo+(l+rr) / 2)) with
       | true =>
         have l1:=C.le_of (gx _ (by lia)) (gx _ (by lia)) e2
         exact wpS_pure ⟨rfl,rfl,by (try dsimp only);lia,by (try dsimp only);lia,by (try dsimp only);lia,q7,fun i h1 h2=>C.tr (gx _ (by lia)) (gx _ (by lia)) (gx _ (by lia)) l1 (q2 _ i (by lia) h1 h2)⟩
       | false =>
         refine wpS_pure ⟨rfl,rfl,by (try dsimp only);lia,by (try dsimp only);lia,by (try dsimp only);lia,fun i h1 h2=>?_,q8⟩
         (try dsimp only at h2)
         exact C.tr (gx _ (by lia)) (gx _ (by lia)) (gx _ (by lia)) (q2 i (lo+(l+rr) / 2) h1 (by lia) (by lia)) e2
   case post2 =>
     refine fZ fun d1 l rr=>?_
     rintro st2 ⟨e,q3,q4,q5,q7,q8⟩
     subst e
     dsimp only at *
     subst q3
     dsimp only
     refine wpS_bind (uK ?_)
     have ed:lo+k - (lo+l)=k - l:=by lia
     rw [ed]
     refine wpS_pure ⟨L.bub (by lia) (by lia),rfl,fun i j h1 h2 h3=>?_⟩
     show le r (K (bubble _ _ _) i) (K (bubble _ _ _) j)
     rw [xH (by lia) (by lia),xH (by lia) (by lia)]
     by_cases c1:i=lo+k - (k - l)
     · rw [if_pos c1]
       by_cases c2:j=lo+k - (k - l)
       · rw [if_pos c2];exact C.refl (gx _ (by lia))
       · rw [if_neg c2,if_pos (by lia)]
         exact q8 _ (by lia) (by lia)
     · rw [if_neg c1]
       by_cases c3:lo+k - (k - l) < i/\i<=lo+k
       · rw [if_pos c3]
         rw [if_neg (by lia),if_pos (by lia)]
         exact q2 _ _ (by lia) (by lia) (by lia)
       · rw [if_neg c3]
         by_cases c2:j=lo+k - (k - l)
         · rw [if_pos c2]
           exact q7 i h1 (by lia)
         · rw [if_neg c2]
           by_cases c4:lo+k - (k - l) < j/\j<=lo+k
           · rw [if_pos c4]
             exact q2 _ _ h1 (by lia) (by lia)
           · rw [if_neg c4]
             exact q2 _ _ h1 h2 (by lia)
theorem pM (base:Nat):∀ (l:List Keyed) (off:Nat) (arr:Array Keyed),base+off+l.length<=arr.size →
   ((l.zipIdx off).foldl (fun a x=>a.setIfInBounds (base+x.snd) x.fst) arr).toList=arr.toList.take (base+off)++l++arr.toList.drop (base+off+l.length)
 | [],off,arr,h=>by simp
 | x :: l,off,arr,h=>by
   rw [List.zipIdx_cons,List.foldl_cons]
   rw [List.length_cons] at h
   rw [pM base l (off+1) _ (by rw [Array.size_setIfInBounds];lia)]
   dsimp only
   have hl:base+off < arr.toList.length:=by simp;lia
   rw [Array.toList_setIfInBounds,List.set_eq_take_append_cons_drop,if_pos hl]
   have e1:(arr.toList.take (base+off)++x :: arr.toList.drop (base+off+1)).take (base+(off+1))=arr.toList.take (base+off)++[x]:=by
     have:(arr.toList.take (base+off)).length=base+off:=by rw [List.length_take];lia
     rw [List.take_append,this,List.take_of_length_le (by rw [this];lia)]
     have:base+(off+1) - (base+off)=1:=by lia
     rw [this];rfl
   have e2:(arr.toList.take (base+off)++x :: arr.toList.drop (base+off+1)).drop (base+(off+1)+l.length)=arr.toList.drop (base+off+(l.length+1)):=by
     have:(arr.toList.take (base+off)).length=base+off:=by rw [List.length_take];lia
     rw [List.drop_append,this,List.drop_eq_nil_of_le (by rw [this];lia),List.nil_append]
     have:base+(off+1)+l.length - (base+off)=l.length+1:=by lia
     rw [this,List.drop_succ_cons,List.drop_drop]
     congr 1
     lia
   rw [e1,e2]
   simp
end TS
end
section
open PySem PyProof.Rows
namespace TS
variable {prog:Program} {w:World} {A:Around} {E:Value->Shared->Prop} {s:Shared} {κ:SortKind} {G:Keyed->Prop} {r:Keyed->Keyed->Bool}
theorem fH {a:Array Keyed} {P X S:List Keyed} (e:a.toList=P++X++S) (j:Nat) (hj:j < X.length):∃ h:P.length+j < a.size,a[P.length+j]=X[j]:=by
 have hs:a.size=P.length+X.length+S.length:=by
   have:=congrArg List.length e
   simp at this
   lia
 have h:P.length+j < a.size:=by lia
 refine ⟨h,?_⟩
 have h1:a[P.length+j]?=X[j]?:=by
   rw [← Array.getElem?_toList,e,List.append_assoc,List.getElem?_append_right (by lia),Nat.add_sub_cancel_left,List.getElem?_append_left hj]
 rw [getElem?_pos a _ h,getElem?_pos X _ hj] at h1
 exact Option.some.inj h1
theorem pN (C:Cmp prog w A E s κ G r) {a:Array Keyed} {P X S:List Keyed} (e:a.toList=P++X++S) (g:∀ x∈a,G x) (sx:X.Pairwise (le r)):Seg r a P.length (P.length+X.length):=by
 intro i j hi hj h1 h2 h3
 obtain ⟨i',rfl⟩:∃ i',i=P.length+i':=⟨i - P.length,by lia⟩
 obtain ⟨j',rfl⟩:∃ j',j=P.length+j':=⟨j - P.length,by lia⟩
 obtain ⟨_,e1⟩:=fH e i' (by lia)
 obtain ⟨_,e2⟩:=fH e j' (by lia)
 rcases Nat.lt_or_ge i' j' with hlt | hge
 · rw [e1,e2]
   exact List.pairwise_iff_getElem.mp sx i' j' (by lia) (by lia) hlt
 · have:i'=j':=by lia
   subst this
   exact C.refl (g _ (Array.getElem_mem hi))
theorem yX (C:Cmp prog w A E s κ G r) {i pw pw2:Nat} {st:SortSt} {Q:Bool->SortSt->Prop} {P X Y S:List Keyed} (hk:kindOf st=κ) (g:∀ x∈arrOf st,G x) (hf:failedOf st=none)
   (e1:(arrOf st).toList=P++X++(Y++S)) (p1:(pendingOf st)[i]?=some (P.length,X.length,pw)) (p2:(pendingOf st)[i+1]?=some (P.length+X.length,Y.length,pw2))
   (sX:X.Pairwise (le r)) (sY:Y.Pairwise (le r)) (nX:0 < X.length) (nY:0 < Y.length)
   (h:∀ st' M,M.Perm (X++Y)->M.Pairwise (le r)->(arrOf st').toList=P++M++S->kindOf st'=kindOf st->failedOf st'=none →
     pendingOf st'=((pendingOf st).setIfInBounds i (P.length,X.length+Y.length,pw)).eraseIdxIfInBounds (i+1)->Q true st'):wpS (model prog w) A E s (mergeAt' i) Q st:=by
 have e2:(arrOf st).toList=(P++X)++Y++S:=by rw [e1];simp
 have hs:(arrOf st).size=P.length+X.length+Y.length+S.length:=by
   have:=congrArg List.length e1
   simp at this
   lia
 have gm:∀ x,x∈(arrOf st).toList->G x:=fun x hx=>g x (by simpa using hx)
 have gX:∀ x∈X,G x:=fun x hx=>gm x (by rw [e1];simp [hx])
 have gY:∀ x∈Y,G x:=fun x hx=>gm x (by rw [e1];simp [hx])
 have segX:=pN C e1 g sX
 have segY:=pN C e2 g sY
 rw [List.length_append] at segY
 obtain ⟨hb,eb⟩:=fH e2 0 nY
 simp only [List.length_append,Nat.add_zero] at hb eb
 obtain ⟨hl,el⟩:=fH e1 (X.length - 1) (by lia)
 have gb:G (arrOf st)[P.length+X.length]:=g _ (Array.getElem_mem hb)
 unfold mergeAt'
 change wpS (model prog w) A E s (_ >>= _) Q st
 dsimp only
 refine wpS_bind (wpS_get ?_)
 rw [show (sortPriv% PySem.Builtin.SortState.pending) st=pendingOf st from rfl,p1,p2]
 dsimp only
 refine wpS_bind (show wpS _ _ _ _ (set _) _ _ from ?_)
 refine (show wpS (model prog w) A E s (modify (fun _=>SortSt.mk' (kindOf st) (arrOf st) (((pendingOf st).setIfInBounds i (P.length,X.length+Y.length,pw)).eraseIdxIfInBounds (i+1)) (gallopOf st) (failedOf st))) _ st from wpS_modify ?_)
 refine wpS_bind (dz hb ?_)
 refine wpS_bind (eQ C (hint:=0) (by exact hk) gb g (by show P.length+X.length<=(arrOf st).size;lia) nX segX fun k hk1 hk2 hk3=>?_)
 dsimp only
 have z1:∀ x∈X.take k,le r x (arrOf st)[P.length+X.length]:=fun x hx=>by
   obtain ⟨j,hj,rfl⟩:=List.getElem_of_mem hx
   rw [List.length_take] at hj
   obtain ⟨h1,e3⟩:=fH e1 j (by lia)
   rw [List.getElem_take,← e3]
   exact hk2 _ h1 (by lia) (by lia)
 have z2:∀ x∈X.drop k,le r (arrOf st)[P.length+X.length] x:=fun x hx=>by
   obtain ⟨j,hj,rfl⟩:=List.getElem_of_mem hx
   rw [List.length_drop] at hj
   obtain ⟨h1,e3⟩:=fH e1 (k+j) (by lia)
   rw [List.getElem_drop,← e3]
   exact hk3 _ h1 (by lia) (by lia)
 have b0Y:∀ y∈Y,le r (arrOf st)[P.length+X.length] y:=fun y hy=>by
   obtain ⟨j,hj,rfl⟩:=List.getElem_of_mem hy
   obtain ⟨h1,e3⟩:=fH e2 j hj
   simp only [List.length_append] at h1 e3
   rw [← e3]
   exact segY _ _ hb h1 (by lia) (by lia) (by lia)
 refine aC (fun e3=>?_) fun e3=>?_
 · have e3':X.length<=k:=by simp at e3;lia
   refine wpS_pure (h _ (X++Y) (List.Perm.refl _) ?_ (by show (arrOf st).toList=_;rw [e1];simp) rfl hf rfl)
   rw [List.pairwise_append]
   refine ⟨sX,sY,fun x hx y hy=>C.tr (gX x hx) gb (gY y hy) (z1 x (by rw [List.take_of_length_le e3'];exact hx)) (b0Y y hy)⟩
 have hk':k < X.length:=by simp at e3;lia
 have ei:P.length+k+(X.length - k) - 1=P.length+(X.length - 1):=by lia
 refine wpS_bind (dz (show P.length+k+(X.length - k) - 1 < (arrOf st).size by lia) ?_)
 have elst:∀ (q:P.length+k+(X.length - k) - 1 < (arrOf st).size),(arrOf st)[P.length+k+(X.length - k) - 1]=X[X.length - 1]:=fun q=>by
   simp only [ei]
   exact el
 rw [elst]
 have gl:G X[X.length - 1]:=gX _ (List.getElem_mem _)
 refine wpS_bind (eQ C (hint:=Y.length - 1) (by exact hk) gl g (by show P.length+X.length+Y.length<=(arrOf st).size;lia) (by lia) segY fun m hm1 hm2 hm3=>?_)
 dsimp only
 have y1:∀ x∈Y.take m,le r x X[X.length - 1]:=fun x hx=>by
   obtain ⟨j,hj,rfl⟩:=List.getElem_of_mem hx
   rw [List.length_take] at hj
   obtain ⟨h1,e3⟩:=fH e2 j (by lia)
   simp only [List.length_append] at h1 e3
   rw [List.getElem_take,← e3]
   exact hm2 _ h1 (by lia) (by lia)
 have y2:∀ x∈Y.drop m,le r X[X.length - 1] x:=fun x hx=>by
   obtain ⟨j,hj,rfl⟩:=List.getElem_of_mem hx
   rw [List.length_drop] at hj
   obtain ⟨h1,e3⟩:=fH e2 (m+j) (by lia)
   simp only [List.length_append] at h1 e3
   rw [List.getElem_drop,← e3]
   exact hm3 _ h1 (by lia) (by lia)
 have xl:∀ x∈X,le r x X[X.length - 1]:=fun x hx=>by
   obtain ⟨j,hj,rfl⟩:=List.getElem_of_mem hx
   rcases Nat.lt_or_ge j (X.length - 1) with hlt | hge
   · exact List.pairwise_iff_getElem.mp sX j _ hj (by lia) hlt
   · have:j=X.length - 1:=by lia
     subst this
     exact C.refl gl
 refine aC (fun e4=>?_) fun e4=>?_
 · have e4':m=0:=by simpa using e4
   subst e4'
   refine wpS_pure (h _ (X++Y) (List.Perm.refl _) ?_ (by show (arrOf st).toList=_;rw [e1];simp) rfl hf rfl)
   rw [List.pairwise_append]
   exact ⟨sX,sY,fun x hx y hy=>C.tr (gX x hx) gl (gY y hy) (xl x hx) (y2 y hy)⟩
 have hm':0 < m:=by simp at e4;lia
 have ex:((arrOf st).extract (P.length+k) (P.length+X.length)).toList=X.drop k:=by
   rw [Array.toList_extract,List.extract_eq_drop_take,e1,List.append_assoc,List.drop_append,List.drop_eq_nil_of_le (by lia),List.nil_append]
   have:P.length+k - P.length=k:=by lia
   rw [this,List.drop_append,Nat.sub_eq_zero_of_le (by lia:k<=X.length),List.drop_zero]
   rw [List.take_append_of_le_length (by rw [List.length_drop];lia),List.take_of_length_le (by rw [List.length_drop];lia)]
 have ey:((arrOf st).extract (P.length+X.length) (P.length+X.length+m)).toList=Y.take m:=by
   rw [Array.toList_extract,List.extract_eq_drop_take,e2,List.append_assoc,List.drop_append,List.drop_eq_nil_of_le (by simp),List.nil_append]
   have:P.length+X.length - (P++X).length=0:=by simp
   rw [this,List.drop_zero]
   have:P.length+X.length+m - (P.length+X.length)=m:=by lia
   rw [this,List.take_append_of_le_length (by lia)]
 obtain ⟨ax,hax⟩:∃ ax,ax=(arrOf st).extract (P.length+k) (P.length+X.length):=⟨_,rfl⟩
 obtain ⟨ay,hay⟩:∃ ay,ay=(arrOf st).extract (P.length+X.length) (P.length+X.length+m):=⟨_,rfl⟩
 rw [← hax] at ex
 rw [← hay] at ey
 have mx:∀ x,x∈ax->x∈X.drop k:=fun x hx=>by rw [← ex];simpa using hx
 have my:∀ x,x∈ay->x∈Y.take m:=fun x hx=>by rw [← ey];simpa using hx
 have szx:ax.size=X.length - k:=by have:=congrArg List.length ex;simpa using this
 have szy:ay.size=m:=by have:=congrArg List.length ey;simp at this;lia
 have gax:∀ x∈ax,G x:=fun x hx=>gX x (List.mem_of_mem_drop (mx x hx))
 have gay:∀ x∈ay,G x:=fun x hx=>gY x (List.mem_of_mem_take (my x hx))
 have y0:∀ (q:0 < ay.size),ay[0]=(arrOf st)[P.length+X.length]:=fun q=>by
   rw [eb]
   have:ay[0]?=Y[0]?:=by rw [← Array.getElem?_toList,ey,List.getElem?_take_of_lt hm']
   rw [getElem?_pos ay 0 q,getElem?_pos Y 0 nY] at this
   exact Option.some.inj this
 have xl0:∀ (q:ax.size - 1 < ax.size),ax[ax.size - 1]=X[X.length - 1]:=fun q=>by
   have:ax[ax.size - 1]?=X[X.length - 1]?:=by
     rw [← Array.getElem?_toList,ex,List.getElem?_drop]
     congr 1
     lia
   rw [getElem?_pos ax _ q,getElem?_pos X _ (by lia)] at this
   exact Option.some.inj this
 have M:MC G r ax ay:=by
   refine ⟨gax,gay,uJ C gax (by rw [ex];exact sX.drop),uJ C gay (by rw [ey];exact sY.take),by lia,by lia,?_,fun j hj=>?_⟩
   · rw [y0]
     exact z2 _ (mx _ (Array.getElem_mem _))
   · rw [xl0]
     exact y1 _ (my _ (Array.getElem_mem hj))
 have fin:∀ (st1:SortSt) (res:Array Keyed),eZ (SortSt.mk' (kindOf st) (arrOf st) (((pendingOf st).setIfInBounds i (P.length,X.length+Y.length,pw)).eraseIdxIfInBounds (i+1)) (gallopOf st) (failedOf st)) st1->MR r ax ay res →
     Q (failedOf st1).isNone (SortSt.mk' (kindOf st1) (res.toList.zipIdx.foldl (fun a x=>a.setIfInBounds (P.length+k+x.snd) x.fst) (arrOf st1)) (pendingOf st1) (gallopOf st1) (failedOf st1)):=fun st1 res kp mr=>by
   obtain ⟨k1,k2,k3,k4⟩:=kp
   have k4':failedOf st1=none:=k4.trans hf
   have k2':arrOf st1=arrOf st:=k2
   rw [k4']
   have hl:res.toList.length=X.length - k+m:=by
     rw [mr.1.length_eq,ex,ey]
     simp
     lia
   have mem:∀ x,x∈res.toList->x∈X.drop k\/x∈Y.take m:=fun x hx=>by
     have:=mr.1.mem_iff.mp hx
     rw [ex,ey] at this
     exact List.mem_append.mp this
   have bk:=pM (P.length+k) res.toList 0 (arrOf st1) (by rw [k2'];lia)
   rw [k2',Nat.add_zero] at bk
   have t1:(arrOf st).toList.take (P.length+k)=P++X.take k:=by
     rw [e1,List.append_assoc,List.take_append,List.take_of_length_le (by lia),Nat.add_sub_cancel_left,List.take_append_of_le_length (by lia)]
   have t2:(arrOf st).toList.drop (P.length+k+res.toList.length)=Y.drop m++S:=by
     rw [e2,List.append_assoc,List.drop_append,List.drop_eq_nil_of_le (by rw [List.length_append];lia),List.nil_append]
     have:P.length+k+res.toList.length - (P++X).length=m:=by rw [List.length_append];lia
     rw [this,List.drop_append_of_le_length (by lia)]
   refine h _ (X.take k++res.toList++Y.drop m) ?_ ?_ ?_ k1 rfl k3
   · have p:(X.take k++(X.drop k++Y.take m)++Y.drop m)=X++Y:=by
       rw [← List.append_assoc,List.take_append_drop,List.append_assoc,List.take_append_drop]
     rw [← p]
     have:=mr.1
     rw [ex,ey] at this
     exact (this.append_left _).append_right _
   · rw [List.pairwise_append,List.pairwise_append]
     refine ⟨⟨sX.take,mr.2,fun x hx y hy=>?_⟩,sY.drop,fun x hx y hy=>?_⟩
     · rcases mem y hy with hy | hy
       · have:=sX
         rw [← List.take_append_drop k X,List.pairwise_append] at this
         exact this.2.2 x hx y hy
       · exact C.tr (gX _ (List.mem_of_mem_take hx)) gb (gY _ (List.mem_of_mem_take hy)) (z1 x hx) (b0Y y (List.mem_of_mem_take hy))
     · rcases List.mem_append.mp hx with hx | hx
       · exact C.tr (gX _ (List.mem_of_mem_take hx)) gb (gY _ (List.mem_of_mem_drop hy)) (z1 x hx) (b0Y y (List.mem_of_mem_drop hy))
       · rcases mem x hx with hx | hx
         · exact C.tr (gX _ (List.mem_of_mem_drop hx)) gl (gY _ (List.mem_of_mem_drop hy)) (xl x (List.mem_of_mem_drop hx)) (y2 y hy)
         · have:=sY
           rw [← List.take_append_drop m Y,List.pairwise_append] at this
           exact this.2.2 x hx y hy
   · show (List.foldl _ (arrOf st1) _).toList=_
     rw [k2',bk,t1,t2]
     simp
 refine aC (fun _=>?_) fun _=>?_
 · refine wpS_bind (?_:wpS (model prog w) A E s (jF ((arrOf st).extract (P.length+k) (P.length+X.length)) ((arrOf st).extract (P.length+X.length) (P.length+X.length+m))) _ _)
   rw [← hax,← hay]
   refine Ay C (by exact hk) M fun res st1 kp mr=>?_
   exact wpS_bind (wpS_modify (wpS_bind (wpS_get (wpS_pure (fin st1 res kp mr)))))
 · refine wpS_bind (?_:wpS (model prog w) A E s (jm ((arrOf st).extract (P.length+k) (P.length+X.length)) ((arrOf st).extract (P.length+X.length) (P.length+X.length+m))) _ _)
   rw [← hax,← hay]
   refine Bt C (by exact hk) M fun res st1 kp mr=>?_
   exact wpS_bind (wpS_modify (wpS_bind (wpS_get (wpS_pure (fin st1 res kp mr)))))
end TS
end
section
open PySem PyProof.Rows
namespace TS
variable {prog:Program} {w:World} {A:Around} {E:Value->Shared->Prop} {s:Shared} {κ:SortKind} {G:Keyed->Prop} {r:Keyed->Keyed->Bool}
noncomputable def g7:Nat->List (List Keyed)->List (Nat×Nat)
 | _,[]=>[]
 | o,R :: Rs=>(o,R.length) :: g7 (o+R.length) Rs
theorem gn:∀ (a b:List (List Keyed)) (o:Nat),g7 o (a++b)=g7 o a++g7 (o+a.flatten.length) b
 | [],b,o=>by simp [g7]
 | R :: a,b,o=>by
   show (o,R.length) :: g7 (o+R.length) (a++b)=(o,R.length) :: (g7 (o+R.length) a++_)
   rw [gn a b]
   simp [Nat.add_assoc]
theorem gJ:∀ (a:List (List Keyed)) (o:Nat),(g7 o a).length=a.length
 | [],o=>rfl
 | R :: a,o=>by show (g7 _ a).length+1=_;rw [gJ a];rfl
theorem kW {α β:Type} (f:α->β):∀ (l:List α) (i:Nat),(l.eraseIdx i).map f=(l.map f).eraseIdx i
 | [],i=>rfl
 | x :: l,0=>rfl
 | x :: l,i+1=>by show f x :: (l.eraseIdx i).map f=f x :: (l.map f).eraseIdx i;rw [kW f l i]
structure RI (κ:SortKind) (r:Keyed->Keyed->Bool) (a₀:Array Keyed) (st:SortSt) (runs:List (List Keyed)) (rest:List Keyed):Prop where
 kind:kindOf st=κ
 fail:failedOf st=none
 arr:(arrOf st).toList=runs.flatten++rest
 pend:(pendingOf st).toList.map (fun p=>(p.1,p.2.1))=g7 0 runs
 ok:∀ R∈runs,0 < R.length/\R.Pairwise (le r)
 perm:(arrOf st).Perm a₀
theorem RI.good {a₀:Array Keyed} {st:SortSt} {runs:List (List Keyed)} {rest:List Keyed} (h:RI κ r a₀ st runs rest) (g:∀ x∈a₀,G x):∀ x∈arrOf st,G x:=fun x hx=>by
 have:x∈(arrOf st).toList:=by simpa using hx
 exact g x (by simpa using (Array.perm_iff_toList_perm.mp h.perm).mem_iff.mp this)
theorem RI.psize {a₀:Array Keyed} {st:SortSt} {runs:List (List Keyed)} {rest:List Keyed} (h:RI κ r a₀ st runs rest):(pendingOf st).size=runs.length:=by
 have:=congrArg List.length h.pend
 rw [List.length_map,gJ] at this
 simpa using this
theorem RI.at {a₀:Array Keyed} {st:SortSt} {pre post:List (List Keyed)} {X:List Keyed} {rest:List Keyed} (h:RI κ r a₀ st (pre++X :: post) rest):∃ pw,(pendingOf st)[pre.length]?=some (pre.flatten.length,X.length,pw):=by
 have e:((pendingOf st).toList.map (fun p=>(p.1,p.2.1)))[pre.length]?=some (pre.flatten.length,X.length):=by
   rw [h.pend,gn,List.getElem?_append_right (by rw [gJ];exact Nat.le_refl _),gJ,Nat.sub_self,Nat.zero_add]
   rfl
 rw [List.getElem?_map,Array.getElem?_toList] at e
 obtain ⟨⟨a,b,c⟩,e1,e2⟩:=Option.map_eq_some_iff.mp e
 injection e2 with e3 e4
 dsimp only at e3 e4
 exact ⟨c,by rw [e1,e3,e4]⟩
theorem nk {α:Type}:∀ {l:List α} {i:Nat},i+1 < l.length->∃ pre X Y post,l=pre++X :: Y :: post/\pre.length=i
 | [],i,h=>by simp at h
 | [x],i,h=>by simp at h
 | x :: y :: l,0,h=>⟨[],x,y,l,rfl,rfl⟩
 | x :: y :: l,i+1,h=>by
   obtain ⟨pre,X,Y,post,e,hp⟩:=nk (l:=y :: l) (i:=i) (by simp at h ⊢;omega)
   exact ⟨x :: pre,X,Y,post,by rw [e];rfl,by rw [List.length_cons,hp]⟩
theorem RI.merge (C:Cmp prog w A E s κ G r) {a₀:Array Keyed} {st:SortSt} {runs:List (List Keyed)} {rest:List Keyed} {i:Nat} {Q:Bool->SortSt->Prop} (h:RI κ r a₀ st runs rest) (g:∀ x∈a₀,G x) (hi:i+1 < runs.length)
   (hq:∀ st' runs',RI κ r a₀ st' runs' rest->runs'.length+1=runs.length->runs'.flatten.length=runs.flatten.length->Q true st'):wpS (model prog w) A E s (mergeAt' i) Q st:=by
 obtain ⟨pre,X,Y,post,rfl,rfl⟩:=nk hi
 obtain ⟨pw,p1⟩:=h.at
 have h':RI κ r a₀ st ((pre++[X])++Y :: post) rest:=by
   have e:(pre++[X])++Y :: post=pre++X :: Y :: post:=by simp
   rw [e];exact h
 obtain ⟨pw2,p2⟩:=h'.at
 have oX:=h.ok X (by simp)
 have oY:=h.ok Y (by simp)
 have p2':(pendingOf st)[pre.length+1]?=some (pre.flatten.length+X.length,Y.length,pw2):=by
   simpa using p2
 refine yX C (P:=pre.flatten) (X:=X) (Y:=Y) (S:=post.flatten++rest) h.kind (h.good g) h.fail (by rw [h.arr];simp) p1 p2' oX.2 oY.2 oX.1 oY.1 fun st' M m1 m2 m3 m4 m5 m6=>?_
 have hl:=m1.length_eq
 rw [List.length_append] at hl
 refine hq st' (pre++M :: post) ⟨m4.trans h.kind,m5,by rw [m3];simp,?_,fun R hR=>?_,?_⟩ (by simp;lia) (by simp;lia)
 · rw [m6]
   have e0:(((pendingOf st).setIfInBounds pre.length (pre.flatten.length,X.length+Y.length,pw)).eraseIdxIfInBounds (pre.length+1)).toList=((pendingOf st).toList.set pre.length (pre.flatten.length,X.length+Y.length,pw)).eraseIdx (pre.length+1):=by
     simp
   rw [e0,kW,List.map_set,h.pend]
   show ((g7 0 (pre++X :: Y :: post)).set pre.length (pre.flatten.length,X.length+Y.length)).eraseIdx (pre.length+1)=g7 0 (pre++M :: post)
   rw [gn,gn]
   have ol:=gJ pre 0
   have e1:∀ (u v t:List (Nat×Nat)) (x y z:Nat×Nat),u.length=pre.length->((u++x :: y :: t).set pre.length z).eraseIdx (pre.length+1)=u++z :: t:=fun u v t x y z hu=>by
     rw [List.set_append_right _ _ (by lia),hu,Nat.sub_self,List.eraseIdx_append_of_length_le (by lia),hu]
     have:pre.length+1 - pre.length=1:=by lia
     rw [this]
     rfl
   show ((g7 0 pre++(0+pre.flatten.length,X.length) :: (0+pre.flatten.length+X.length,Y.length) :: g7 (0+pre.flatten.length+X.length+Y.length) post).set _ _).eraseIdx _=g7 0 pre++(0+pre.flatten.length,M.length) :: g7 (0+pre.flatten.length+M.length) post
   rw [e1 _ [] _ _ _ _ ol,hl,Nat.zero_add,Nat.add_assoc]
 · rcases List.mem_append.mp hR with hR | hR
   · exact h.ok R (by simp [hR])
   · rcases List.mem_cons.mp hR with rfl | hR
     · exact ⟨by lia,m2⟩
     · exact h.ok R (by simp [hR])
 · refine Array.Perm.trans ?_ h.perm
   rw [Array.perm_iff_toList_perm,m3,h.arr]
   have e:(pre++X :: Y :: post).flatten++rest=pre.flatten++(X++Y)++(post.flatten++rest):=by simp
   rw [e]
   exact (m1.append_left _).append_right _
end TS
end
section
open PySem PyProof.Rows
namespace TS
variable {prog:Program} {w:World} {A:Around} {E:Value->Shared->Prop} {s:Shared} {κ:SortKind} {G:Keyed->Prop} {r:Keyed->Keyed->Bool}
theorem RI.loc {a₀:Array Keyed} {st st2:SortSt} {runs:List (List Keyed)} {rest:List Keyed} (h:RI κ r a₀ st runs rest) (L:Lc runs.flatten.length st st2):RI κ r a₀ st2 runs ((arrOf st2).toList.drop runs.flatten.length):=by
 refine ⟨L.kind.trans h.kind,L.fail.trans h.fail,?_,by rw [L.pend];exact h.pend,h.ok,L.perm.trans h.perm⟩
 have e:(arrOf st2).toList.take runs.flatten.length=runs.flatten:=by
   have e2:(arrOf st).toList.take runs.flatten.length=runs.flatten:=by rw [h.arr,List.take_left]
   refine Eq.trans ?_ e2
   apply List.ext_getElem?
   intro i
   rw [List.getElem?_take,List.getElem?_take]
   split
   · rename_i hi
     rw [Array.getElem?_toList,Array.getElem?_toList]
     exact L.pre i hi
   · rfl
 conv=>lhs;rw [← List.take_append_drop runs.flatten.length (arrOf st2).toList,e]
theorem RI.push {a₀:Array Keyed} {st:SortSt} {runs:List (List Keyed)} {rest:List Keyed} {n lo:Nat} (h:RI κ r a₀ st runs rest) (hl:runs.flatten.length=lo) (h0:0 < n) (hn:n<=rest.length) (hp:(rest.take n).Pairwise (le r)) :
   RI κ r a₀ (setPending st ((pendingOf st).push (lo,n,0))) (runs++[rest.take n]) (rest.drop n):=by
 refine ⟨h.kind,h.fail,?_,?_,fun R hR=>?_,h.perm⟩
 · show (arrOf st).toList=_
   rw [h.arr]
   simp
 · show ((pendingOf st).push (lo,n,0)).toList.map _=_
   rw [Array.toList_push,List.map_append,h.pend,gn,Nat.zero_add,hl]
   show _++[(lo,n)]=_++[(lo,(rest.take n).length)]
   rw [List.length_take,Nat.min_eq_left hn]
 · rcases List.mem_append.mp hR with hR | hR
   · exact h.ok R hR
   · rw [List.mem_singleton.mp hR]
     exact ⟨by rw [List.length_take];lia,hp⟩
theorem pR {α β:Type} (f:α->β) (g:α->α) (hg:∀ x,f (g x)=f x):∀ (l:List α) (i:Nat),(l.modify i g).map f=l.map f
 | [],i=>by simp
 | x :: l,0=>by simp [hg]
 | x :: l,i+1=>by simp [pR f g hg l i]
theorem RI.mod {a₀:Array Keyed} {st:SortSt} {runs:List (List Keyed)} {rest:List Keyed} (h:RI κ r a₀ st runs rest) (i pw:Nat):RI κ r a₀ (setPending st ((pendingOf st).modify i fun x=>(x.1,x.2.1,pw))) runs rest :=
 ⟨h.kind,h.fail,h.arr,by
   show ((pendingOf st).modify i fun x=>(x.1,x.2.1,pw)).toList.map _=_
   rw [Array.toList_modify,pR (fun p:Nat×Nat×Nat=>(p.1,p.2.1)) (fun x=>(x.1,x.2.1,pw)) (fun x=>rfl),h.pend],h.ok,h.perm⟩
theorem Sg.pw {xs:Array Keyed} {lo n:Nat} (h:Sg r xs lo (lo+n)) (hs:lo+n<=xs.size):((xs.toList.drop lo).take n).Pairwise (le r):=by
 rw [List.pairwise_iff_getElem]
 intro i j hi hj hij
 rw [List.length_take,List.length_drop] at hi hj
 rw [List.getElem_take,List.getElem_take,List.getElem_drop,List.getElem_drop]
 have:=h (lo+i) (lo+j) (by lia) (by lia) (by lia)
 rw [uo (by lia),uo (by lia)] at this
 simpa using this
theorem RI.size {a₀:Array Keyed} {st:SortSt} {runs:List (List Keyed)} {rest:List Keyed} (h:RI κ r a₀ st runs rest):runs.flatten.length+rest.length=a₀.size:=by
 have e:=congrArg List.length h.arr
 rw [List.length_append,Array.length_toList,h.perm.size_eq] at e
 exact e.symm
theorem u9 {runs:List (List Keyed)} (h:∀ R∈runs,0 < R.length/\R.Pairwise (le r)):runs.length<=runs.flatten.length:=by
 induction runs with
 | nil=>exact Nat.le_refl _
 | cons R Rs ih =>
   have h1:=(h R (List.mem_cons_self ..)).1
   have h2:=ih fun x hx=>h x (List.mem_cons_of_mem _ hx)
   simp only [List.length_cons,List.flatten_cons,List.length_append]
   lia
theorem yt {c:Prop} [Decidable c] {a b n:Nat} (h1:a+1 < n) (h2:b+1 < n):(if c then a else b)+1 < n:=by
 split
 · exact h1
 · exact h2
theorem qw {α:Type} {a b d:Nat->Prop} {c:Nat->Prop} [∀ n,Decidable (c n)] {x R:Nat->StateT SortSt Sem α} {Q:α->SortSt->Prop} {P:Nat->SortSt->Prop} {st:SortSt} (D:∀ n st1,P n st1->wpS (model prog w) A E s (R n) Q st1) (h2:∀ m,a m->b m->d m->¬ c m->P m st)
   (h1:∀ m,a m->b m->d m->c m->(∀ n st1,P n st1->wpS (model prog w) A E s (R n) Q st1)->wpS (model prog w) A E s (x m) Q st):∀ m,a m->b m->d m->wpS (model prog w) A E s (if c m then x m else R m) Q st :=
 fun m p q z=>aC (fun y=>h1 m p q z y D) fun y=>D m st (h2 m p q z y)
theorem vD (C:Cmp prog w A E s κ G r) {a₀:Array Keyed} {st:SortSt} {Q:Unit->SortSt->Prop} (hk:kindOf st=κ) (g:∀ x∈a₀,G x) (ha:arrOf st=a₀) (hp:pendingOf st=#[]) (hf:failedOf st=none)
   (h:∀ st',(arrOf st').Perm a₀->failedOf st'=none->(arrOf st').toList.Pairwise (le r)->Q () st'):wpS (model prog w) A E s sortRuns' Q st:=by
 have R0:RI κ r a₀ st [] a₀.toList:=⟨hk,hf,by rw [ha];rfl,by rw [hp];rfl,fun R hR=>by simp at hR,by rw [ha]⟩
 unfold sortRuns'
 change wpS (model prog w) A E s (_ >>= _) Q st
 dsimp only
 refine wpS_bind (wpS_get ?_)
 have esz:((sortPriv% PySem.Builtin.SortState.a) st).size=a₀.size:=by rw [← ha]
 rw [esz]
 refine wpS_bind (wpS_mono (wpS_forRange
   (I:=fun x c st'=>c.1=none/\∃ runs rest,RI κ r a₀ st' runs rest/\runs.flatten.length=c.2/\x<=c.2)
   (Q:=fun c st'=>c.1=none/\∃ runs,RI κ r a₀ st' runs []) ?step ?fin ?init) ?post)
 case init=>exact ⟨rfl,_,_,R0,rfl,Nat.le_refl _⟩
 case fin =>
   refine all2 fun c1 lo=>?_
   rintro st' ⟨q1,runs,rest,R,hl,hx⟩
   dsimp only at *
   have:=R.size
   have e:rest=[]:=List.eq_nil_of_length_eq_zero (by lia)
   subst e
   exact ⟨q1,runs,R⟩
 case step =>
   intro x
   refine all2 fun c1 lo=>?_
   rintro st' _ hx ⟨q1,runs,rest,R,hl,hxl⟩
   dsimp only at *
   have hsz:=R.size
   refine aC (fun e=>?_) fun e=>?_
   · have e:rest=[]:=List.eq_nil_of_length_eq_zero (by lia)
     subst e
     exact wpS_pure ⟨rfl,runs,R⟩
   have asz:(arrOf st').size=a₀.size:=R.perm.size_eq
   refine wpS_bind (yr C R.kind (R.good g) (by lia) (by rw [asz];lia) fun m st2 L2 m1 m2 S2=>?_)
   dsimp only
   have I2:RI κ r a₀ st2 runs ((arrOf st2).toList.drop runs.flatten.length):=R.loc (by rw [hl];exact L2)
   have asz2:(arrOf st2).size=a₀.size:=I2.perm.size_eq
   revert m
   refine qw (P:=fun nn st3=>∃ rest3,RI κ r a₀ st3 runs rest3/\rest3.length=a₀.size - lo/\0 < nn/\nn<=rest3.length/\(rest3.take nn).Pairwise (le r)) ?D ?two ?one
   case one =>
     intro m m1 m2 S2 e2 Dk
     refine wpS_bind (fu ?_)
     refine wpS_bind (yk C I2.kind (I2.good g) m1 (by lia) (by lia) S2 fun st3 L3 S3=>?_)
     refine aC (fun e=>absurd e (by decide)) fun _=>?_
     have I3':RI κ r a₀ st3 runs ((arrOf st3).toList.drop runs.flatten.length):=I2.loc (by rw [hl];exact L3)
     have asz3:(arrOf st3).size=a₀.size:=I3'.perm.size_eq
     obtain ⟨rest3,er3⟩:∃ l,l=(arrOf st3).toList.drop runs.flatten.length:=⟨_,rfl⟩
     have I3:RI κ r a₀ st3 runs rest3:=by rw [er3];exact I3'
     have hl3:=hl
     have h3l:rest3.length=a₀.size - lo:=by rw [er3,List.length_drop,Array.length_toList,asz3,hl]
     obtain ⟨n3,en3⟩:∃ n,n=min (a₀.size - lo) ((sortPriv% PySem.Builtin.minRun) a₀.size a₀.size 0):=⟨_,rfl⟩
     rw [← en3] at S3 ⊢
     have h30:0 < n3:=by lia
     have h3n:n3<=rest3.length:=by lia
     have h3p:(rest3.take n3).Pairwise (le r):=by rw [er3,hl];exact S3.pw (by lia)
     exact Dk n3 st3 ⟨rest3,I3,h3l,h30,h3n,h3p⟩
   case two =>
     intro m m1 m2 S2 e2
     obtain ⟨rest3,er3⟩:∃ l,l=(arrOf st2).toList.drop runs.flatten.length:=⟨_,rfl⟩
     have I3:RI κ r a₀ st2 runs rest3:=by rw [er3];exact I2
     have hl3:=hl
     have h3l:rest3.length=a₀.size - lo:=by rw [er3,List.length_drop,Array.length_toList,asz2,hl]
     have h30:0 < m:=by lia
     have h3n:m<=rest3.length:=by lia
     have h3p:(rest3.take m).Pairwise (le r):=by rw [er3,hl];exact S2.pw (by lia)
     exact ⟨rest3,I3,h3l,h30,h3n,h3p⟩
   case D =>
     rintro nn st3 ⟨rest3,I3,h3l,h30,h3n,h3p⟩
     have hl3:=hl
     refine wpS_bind (wpS_get ?_)
     cases hb:(pendingOf st3).back? with
     | none =>
       dsimp only
       refine wpS_bind (wpS_modify ?_)
       refine wpS_pure ⟨rfl,_,_,I3.push hl3 h30 h3n h3p,?_,by (try dsimp only);lia⟩
       rw [List.flatten_append,List.length_append,List.flatten_singleton,List.length_take]
       (try dsimp only)
       lia
     | some v =>
       obtain ⟨s1,n1,pw1⟩:=v
       dsimp only
       refine wpS_bind (wpS_mono (wpS_forRange
         (I:=fun x c st'=>c.1=none/\∃ runs',RI κ r a₀ st' runs' rest3/\runs'.flatten.length=lo)
         (Q:=fun c st'=>c.1=none/\∃ runs',RI κ r a₀ st' runs' rest3/\runs'.flatten.length=lo) ?stepM ?finM ?initM) ?postM)
       case initM=>exact ⟨rfl,_,I3,hl3⟩
       case finM=>exact fun c st' h=>h
       case stepM =>
         intro x
         refine all2 fun c1 c2=>?_
         rintro st' _ hx ⟨q1,runs',R,hR⟩
         refine wpS_bind (wpS_get ?_)
         split
         · rename_i a b c hh
           refine aC (fun _=>?_) fun _=>?_
           · exact wpS_pure ⟨rfl,runs',R,hR⟩
           · have hp1:(pendingOf st').size > 1:=by
               by_cases z:(pendingOf st').size > 1
               · exact z
               · rw [if_neg z] at hh;cases hh
             have hp2:=R.psize
             refine wpS_bind (R.merge C g (show (pendingOf st').size - 2+1 < runs'.length by lia) fun st4 runs4 R4 l4 f4=>?_)
             refine aC (fun e=>absurd e (by decide)) fun _=>?_
             exact wpS_pure ⟨rfl,runs4,R4,by rw [f4,hR]⟩
         · exact wpS_pure ⟨rfl,runs',R,hR⟩
       case postM =>
         refine all2 fun c1 c2=>?_
         rintro st' ⟨q1,runs',R,hR⟩
         dsimp only at *
         subst q1
         dsimp only
         refine wpS_bind (wpS_modify ?_)
         refine wpS_bind (wpS_modify ?_)
         refine wpS_pure ⟨rfl,_,_,(R.mod _ _).push hR h30 h3n h3p,?_,by (try dsimp only);lia⟩
         rw [List.flatten_append,List.length_append,List.flatten_singleton,List.length_take]
         (try dsimp only)
         lia
 case post =>
   refine all2 fun c1 lo=>?_
   rintro st' ⟨q1,runs,R⟩
   dsimp only at *
   subst q1
   dsimp only
   have rl:=u9 R.ok
   have hsz:=R.size
   simp only [List.length_nil,Nat.add_zero] at hsz
   refine wpS_bind (wpS_mono (wpS_forRange
     (I:=fun x c st'=>c.1=none/\∃ runs,RI κ r a₀ st' runs []/\(runs.length<=1\/runs.length+x<=a₀.size))
     (Q:=fun c st'=>c.1=none/\∃ runs,RI κ r a₀ st' runs []/\runs.length<=1) ?step2 ?fin2 ?init2) ?post2)
   case init2=>exact ⟨rfl,runs,R,.inr (by lia)⟩
   case fin2 =>
     refine all2 fun c1 c2=>?_
     rintro st' ⟨q1,runs,R,hr⟩
     exact ⟨q1,runs,R,by lia⟩
   case step2 =>
     intro x
     refine all2 fun c1 c2=>?_
     rintro st' _ hx ⟨q1,runs,R,hr⟩
     have hp2:=R.psize
     refine wpS_bind (wpS_get ?_)
     refine aC (fun e=>?_) fun e=>?_
     · exact wpS_pure ⟨rfl,runs,R,by rw [← hp2];exact e⟩
     · have e':1 < runs.length:=by rw [← hp2];exact Nat.lt_of_not_le e
       refine wpS_bind (R.merge C g ?_ fun st4 runs4 R4 l4 f4=>?_)
       · exact yt (show (pendingOf st').size - 2 - 1+1 < _ by lia) (show (pendingOf st').size - 2+1 < _ by lia)
       · refine aC (fun e=>absurd e (by decide)) fun _=>?_
         exact wpS_pure ⟨rfl,runs4,R4,by lia⟩
   case post2 =>
     refine all2 fun c1 c2=>?_
     rintro st' ⟨q1,runs,R,hr⟩
     dsimp only at *
     subst q1
     refine wpS_pure (h st' R.perm R.fail ?_)
     rw [R.arr,List.append_nil]
     match runs,hr,R.ok with
     | [],_,_=>exact List.Pairwise.nil
     | [X],_,ok =>
       rw [List.flatten_singleton]
       exact (ok X (List.mem_cons_self ..)).2
     | X :: Y :: t,hr,_=>simp at hr
end TS
end
section
open PySem PyProof.Rows
namespace TS
variable {prog:Program} {w:World} {A:Around} {E:Value->Shared->Prop} {s:Shared} {G:Keyed->Prop} {r:Keyed->Keyed->Bool}
noncomputable def fM (h:Heap) (a:Addr) (vs:List Value):Heap:=((h.update a (Obj.mapSeq fun _=>#[])).push (seqObj "tuple" vs.toArray 0)).push (seqObj "list" #[] 0)
theorem sq {h:Heap} {a:Addr} {vs:List Value} {o:Obj} (ha:a < h.objs.size) (g:(h.update a (Obj.mapSeq fun _=>#[])).get? a=some o):(fM h a vs).get? a=some o:=by
 have k1:a ≠ (h.update a (Obj.mapSeq fun _=>#[])).objs.size:=by rw [Heap.size_update];exact Nat.ne_of_lt ha
 have k2:a ≠ ((h.update a (Obj.mapSeq fun _=>#[])).push (seqObj "tuple" vs.toArray 0)).objs.size:=by rw [size_push',Heap.size_update];exact Nat.ne_of_lt (Nat.lt_succ_of_lt ha)
 exact (Heap.get?_push_ne _ _ _ k2).trans ((Heap.get?_push_ne _ _ _ k1).trans g)
theorem nl {b n:Nat} (h:b < n) (k:Nat):b ≠ n+k:=Nat.ne_of_lt (Nat.lt_of_lt_of_le h (Nat.le_add_right _ _))
end TS
end
section
namespace L2
open PySem PySem.Spec PyProof.Rows TS
section
variable {X:Cx}
end
end L2
end
section
namespace VS
theorem wY {n k:Nat} (h:k < n):ixP n (k:Int)=some k:=by
 unfold ixP
 rw [if_pos (by lia),if_pos (by lia),Int.toNat_natCast]
mutual
theorem mE:∀ (n:Nat) (t:T),eqD n t=true->eqT t t=true
 | n,.non,_=>by simp
 | n,.bl _,_=>by simp
 | n,.int _,_=>by simp
 | n,.str _,_=>by simp
 | n+1,.tup l,h=>by
   simp only [eqD,List.all_eq_true] at h
   simp only [eqT]
   exact iS n l h
 | n+1,.lst l,h=>by
   simp only [eqD,List.all_eq_true] at h
   simp only [eqT]
   exact iS n l h
 | 0,.tup _,h=>by simp at h
 | 0,.lst _,h=>by simp at h
 | _,.scr _,h=>by simp at h
 | _,.dct _ _,h=>by simp at h
 | _,.obj _ _,h=>by simp at h
theorem iS:∀ (n:Nat) (l:List T),(∀ t∈l,eqD n t=true)->ka l l=true
 | _,[],_=>rfl
 | n,t :: r,h=>by
   simp only [ka,Bool.and_eq_true]
   exact ⟨mE n t (h t List.mem_cons_self),iS n r fun u hu=>h u (List.mem_cons_of_mem _ hu)⟩
end
theorem nA {m n:Md} {t:T} (h:eqD 60 t=true):oEq (m,t) (n,t)=some (.fr,.bl true):=by
 show (if eqD 60 t/\eqD 60 t then some (Md.fr,T.bl (eqT t t)) else none)=_
 rw [if_pos ⟨h,h⟩,mE 60 t h]
theorem tU {α:Type} (l:List α) (k:Nat):cut l none (some (k:Int))=l.take k:=by
 have h:¬ ((k:Int) < 0):=by lia
 by_cases h2:k<=l.length
 · simp [cut,clip,h,Nat.min_eq_left h2]
 · rw [List.take_of_length_le (by lia)]
   simp [cut,clip,h,Nat.min_eq_right (Nat.le_of_not_le h2)]
theorem j4 {a:Ex} {η:Env} {m:Md} {l:List T} (e:a η=some (m,.lst l)):fq a η=some (m,l):=by
 simp [fq,e]
theorem mh {tg:Tg} {it:Its} {body:Sx} {η:Env} {m:Md} {l:List T} (e:it η=some (m,l)) (h:okF m=true):dW tg it body η=forL tg body l η:=by
 unfold dW
 rw [e]
 exact if_pos h
theorem b6 {g:Fn} {as:Exs} {η:Env} {xs:List Val} {t:T} (h:as η=some xs) (h2:g (trees xs)=some (.fr,t)):aJ g as η=some (.fr,t):=by
 simp only [aJ,h,Option.bind_some,h2]
theorem cP {i:Nat} {e:Ex} {η:Env} {m:Md} {t:T} (h:e η=some (m,t)) (hm:m ≠ .bo) (hi:i < η.length):aK i e η=some (.nx (η.set i (some (.pu t)))):=by
 simp only [aK,h,Option.bind_some]
 cases m with
 | bo=>exact absurd rfl hm
 | _=>simp [hi]
theorem gE {a b:Sx} {η η':Env} (h:a η=some (.nx η')):av a b η=b η':=by simp only [av,h,Option.bind_some]
theorem BI {np nn:Nat} {body:Sx} {ts:List T} {v:Val} (η:Env) {η':Env} (hl:ts.length=np) (he:ts.map (fun t=>some (Cell.pu t))++List.replicate (nn - np) none=η) (h:body η=some (.rt v η')):fn np nn body ts=some v:=by
 unfold fn
 rw [if_pos hl,he,h]
 rfl
end VS
end
section
namespace VS
open PySem PySem.Spec PyProof.Rows L2
theorem tu (s:Tx):(sx s).cps.toList=s:=rfl
noncomputable def txB (s:Tx):Bool:=decide (s.length<=d5) && s.all (fun c=>decide (c < 1114112))
theorem uX {s:Tx} (h:txB s=true):gr s:=by
 unfold txB at h
 simp at h
 exact h
section
variable {G:Gx} {X:Cx} {e:Expr} {cs:Exs} {p pos:Pos}
theorem oN {H:Hp}:∀ {ss:List Tx},(∀ s∈ss,gr s)->RpL G H (ss.map fun s=>V.str (sx s)) (ss.map T.str) (ss.map fun _=>[])
 | [],_=>.nil
 | s :: ss,h=>.cons (.str s (h s (List.mem_cons_self ..))) (oN fun x hx=>h x (List.mem_cons_of_mem _ hx))
theorem mV {α β:Type}:∀ (l:List α),(l.map fun _=>([]:List β)).flatten=[]
 | []=>rfl
 | _ :: l=>by simp
theorem keys_str:∀ {ks:List Key} {ss:List Tx},strs? (ks.map aN)=some ss->ks=(ss.map sx).map Sum.inr
 | [],_,e=>by cases e;rfl
 | .inl i :: ks,_,e=>by cases e
 | .inr x :: ks,ss,e=>by
   simp only [List.map_cons,aN,strs?] at e
   obtain ⟨ss',e1,e2⟩:=Option.map_eq_some_iff.mp e
   subst e2
   rw [keys_str e1]
   simp [sx]
theorem qx:bootBuiltins ("sorted" : Str)=some (.builtin "sorted"):=by decide +kernel
end
end VS
end
section
namespace VS
open PySem PySem.Builtin.Str PySem.StrLaws
end VS
end
section
namespace VS
open PySem PySem.Spec PyProof.Rows L2
section
variable {G:Gx} {X:Cx} {a e:Expr} {ca:Ex} {cs:Exs}
end
end VS
end
section
namespace ST
open PySem PySem.Spec PyProof.Rows
variable {prog:Program} {w:World} {A:Around} {E:Value->Shared->Prop} {s:Shared}
end ST
end
section
namespace ST
open PySem PySem.Spec PyProof.Rows
variable {prog:Program} {w:World} {A:Around} {E:Value->Shared->Prop} {s:Shared}
theorem Bu {Q:PySem.Fin->Shared->Prop} {E':Value->Shared->Prop} (hh:A.handled=none) (h:∀ (h':Heap) (x:Addr),(∀ b o,s.heap.get? b=some o->h'.get? b=some o)->(∃ o,h'.get? x=some o/\o.cls=.type "StopIteration")->E' (.ref x) { s with heap:=h' }) :
   wpAny (model prog w) A (newExc (.type "StopIteration") [] >>= fun e=>raiseNew e) Q E' s:=by
 simp only [newExc,newTuple]
 refine wpAny_bind (wpAny_bind (wpAny_newObj_type (wpAny_bind (m:=firstArgMember _ _) (wpAny_of_eq (a:=Value.none) (by first | rfl | (simp only [firstArgMember];rfl)) (wpAny_newObj_type ?_ (by size_fits)))) (by size_fits)))
 simp only [raiseNew]
 refine wpAny_bind (wpAny_handled ?_)
 rw [hh]
 exact wpAny_bind (wpAny_pure (wpAny_throw (h _ _ (fun b o e=>Heap.get?_push_of_some _ (Heap.get?_push_of_some _ e)) ⟨_,Heap.get?_push_size _ rfl,rfl⟩)))
end ST
end
section
namespace ST
open PySem PySem.Spec PyProof.Rows
variable {prog:Program} {w:World} {A:Around} {E:Value->Shared->Prop} {s:Shared}
end ST
end
section
namespace L2
open PySem PySem.Spec PyProof.Rows TS
section
variable {X:Cx}
end
end L2
namespace VS
open PySem PySem.Spec PyProof.Rows L2
section
variable {G:Gx} {X:Cx} {a b c e tg:Expr} {es:List Expr} {ca cb cc ce:Ex} {cs:Exs} {pos p p1 p2 apos cpos pos':Pos} {k k':Nat}
end
end VS
end
section
namespace VS
open PySem PySem.Spec PyProof.Rows L2
section
variable {G:Gx}
theorem pF {Fs:List (List Addr)} {i j:Nat} {F F':List Addr} (nd:Fs.flatten.Nodup) (hi:Fs[i]?=some F) (hj:Fs[j]?=some F') (n:i ≠ j) {a:Addr} (ha:a∈F):a ∉ F':=by
 intro hb
 induction Fs generalizing i j with
 | nil=>simp at hi
 | cons G Gs ih =>
   rw [List.flatten_cons,List.nodup_append] at nd
   cases i with
   | zero =>
     simp at hi;subst hi
     cases j with
     | zero=>exact n rfl
     | succ j=>exact nd.2.2 a ha a (eA (by simpa using hj) hb) rfl
   | succ i =>
     cases j with
     | zero =>
       simp at hj;subst hj
       exact nd.2.2 a hb a (eA (by simpa using hi) ha) rfl
     | succ j=>exact ih nd.2.1 (by simpa using hi) (by simpa using hj) (by lia)
theorem fP {Fs:List (List Addr)} {j:Nat} {F':List Addr} {a:Addr} (h:a∈(Fs.set j F').flatten):a∈F'\/∃ i F,i ≠ j/\Fs[i]?=some F/\a∈F:=by
 obtain ⟨i,F,h1,h2⟩:=eL h
 by_cases e:i=j
 · subst e
   rw [List.getElem?_set_self' ] at h1
   cases q:Fs[i]? with
   | none=>rw [q] at h1;cases h1
   | some _=>rw [q] at h1;cases h1;exact .inl h2
 · rw [List.getElem?_set_ne (Ne.symm e)] at h1
   exact .inr ⟨i,F,e,h1,h2⟩
theorem gK:∀ {Fs:List (List Addr)} {j:Nat} {F':List Addr},Fs.flatten.Nodup->F'.Nodup->(∀ i F,i ≠ j->Fs[i]?=some F->∀ a∈F,a ∉ F')->(Fs.set j F').flatten.Nodup
 | [],_,_,h,_,_=>by simpa using h
 | G :: Gs,0,F',h,h',d=>by
   rw [List.flatten_cons,List.nodup_append] at h
   rw [List.set_cons_zero,List.flatten_cons,List.nodup_append]
   refine ⟨h',h.2.1,fun a ha b hb e=>?_⟩
   subst e
   obtain ⟨i,F,h1,h2⟩:=eL hb
   exact d (i+1) F (by lia) (by simpa using h1) a h2 ha
 | G :: Gs,j+1,F',h,h',d=>by
   rw [List.flatten_cons,List.nodup_append] at h
   rw [List.set_cons_succ,List.flatten_cons,List.nodup_append]
   refine ⟨h.1,gK h.2.1 h' fun i F n hi=>d (i+1) F (by lia) (by simpa using hi),fun a ha b hb e=>?_⟩
   subst e
   rcases fP hb with z | ⟨i,F,n,h1,h2⟩
   · exact d 0 G (by lia) rfl a ha z
   · exact h.2.2 a ha a (eA h1 h2) rfl
theorem RpL.each {H H2:Hp}:∀ {vs:List V} {ts:List T} {Fs:List (List Addr)},RpL G H vs ts Fs->(∀ (i:Nat) v t F,vs[i]?=some v->ts[i]?=some t->Fs[i]?=some F->Rp G H v t F->Rp G H2 v t F)->RpL G H2 vs ts Fs
 | _,_,_,.nil,_=>.nil
 | _,_,_,.cons r q,k=>.cons (k 0 _ _ _ rfl rfl rfl r) (RpL.each q fun i v t F a b c d=>k (i+1) v t F (by simpa using a) (by simpa using b) (by simpa using c) d)
theorem RpL.setAt {H H2:Hp}:∀ {vs:List V} {ts:List T} {Fs:List (List Addr)} {j:Nat} {u:V} {x':T} {F':List Addr},RpL G H vs ts Fs->vs[j]?=some u->Rp G H2 u x' F'->(∀ (i:Nat) v t F,i ≠ j->vs[i]?=some v->ts[i]?=some t->Fs[i]?=some F->Rp G H v t F->Rp G H2 v t F)->RpL G H2 vs (ts.set j x') (Fs.set j F')
 | _,_,_,_,_,_,_,.nil,h,_,_=>by simp at h
 | _,_,_,0,_,_,_,.cons r q,h,r',k=>by
   simp at h;subst h
   exact .cons r' (RpL.each q fun i v t F a b c d=>k (i+1) v t F (by lia) (by simpa using a) (by simpa using b) (by simpa using c) d)
 | _,_,_,j+1,_,_,_,.cons r q,h,r',k=>.cons (k 0 _ _ _ (by lia) rfl rfl rfl r) (RpL.setAt q (by simpa using h) r' fun i v t F n a b c d=>k (i+1) v t F (by lia) (by simpa using a) (by simpa using b) (by simpa using c) d)
theorem pC {H H2:Hp} {a:Addr} {o:HO} {vs:List V} {ts:List T} {Fs:List (List Addr)} {j:Nat} {u:V} {x':T} {Fj Fj':List Addr} (ha:H a=some o) (ra:RpL G H vs ts Fs) (nd:(a :: Fs.flatten).Nodup) (hu:vs[j]?=some u) (hF:Fs[j]?=some Fj)
   (g:Chg G H u Fj x' H2 Fj'):H2 a=some o/\RpL G H2 vs (ts.set j x') (Fs.set j Fj')/\(a :: (Fs.set j Fj').flatten).Nodup/\(∀ b∈a :: (Fs.set j Fj').flatten,b∈a :: Fs.flatten\/H b=none)/\∀ b o,b ∉ a :: Fs.flatten->H b=some o->H2 b=some o:=by
 rw [List.nodup_cons] at nd
 have subF:∀ b∈Fj,b∈Fs.flatten:=fun b hb=>eA hF hb
 have dis:∀ i F,i ≠ j->Fs[i]?=some F->∀ b∈F,b ∉ Fj':=fun i F n hi b hb hb'=>by
   rcases g.sub b hb' with z | z
   · exact pF nd.2 hi hF n hb z
   · exact Mut.ne_none (ra.dom b (eA hi hb)) z
 refine ⟨g.keep a o (fun z=>nd.1 (subF a z)) ha,ra.setAt hu g.rp (fun i v t F n h1 h2 h3 r=>r.keep g.kept fun b hb o' ho=>g.keep b o' (pF nd.2 h3 hF n hb) ho),?_,fun b hb=>?_,fun b o' hb ho=>g.keep b o' (fun z=>hb (List.mem_cons_of_mem _ (subF b z))) ho⟩
 · rw [List.nodup_cons]
   refine ⟨fun h=>?_,gK nd.2 g.nd dis⟩
   rcases fP h with z | ⟨i,F,n,h1,h2⟩
   · rcases g.sub a z with z | z
     · exact nd.1 (subF a z)
     · rw [ha] at z;cases z
   · exact nd.1 (eA h1 h2)
 · rcases List.mem_cons.mp hb with rfl | hb
   · exact .inl List.mem_cons_self
   · rcases fP hb with z | ⟨i,F,n,h1,h2⟩
     · rcases g.sub b z with z | z
       · exact .inl (List.mem_cons_of_mem _ (subF b z))
       · exact .inr z
     · exact .inl (List.mem_cons_of_mem _ (eA h1 h2))
theorem lQ {α β:Type}:∀ (as:List α) (bs:List β) (i:Nat) (a:α) (y:β),as[i]?=some a->(as.zip bs).set i (a,y)=as.zip (bs.set i y)
 | [],_,_,_,_,h=>by simp at h
 | a :: as,[],i,_,_,_=>by cases i <;> simp
 | a :: as,b :: bs,0,_,y,h=>by simp at h;subst h;rfl
 | a :: as,b :: bs,i+1,_,y,h=>by
   have:=lQ as bs i _ y (by simpa using h)
   simp [this]
theorem nh {α β:Type} (p:α->Bool):∀ {as:List α} {bs:List β} {i:Nat},as.length=bs.length->(as.zip bs).findIdx? (fun q=>p q.1)=some i->∃ a b,as[i]?=some a/\bs[i]?=some b/\p a=true/\(as.zip bs).find? (fun q=>p q.1)=some (a,b)
 | [],[],_,_,h=>by simp at h
 | a :: as,b :: bs,i,hl,h=>by
   rw [List.zip_cons_cons,List.findIdx?_cons] at h
   by_cases hp:p a=true
   · rw [if_pos hp] at h
     cases h
     exact ⟨a,b,rfl,rfl,hp,by simp [hp]⟩
   · rw [if_neg hp] at h
     obtain ⟨j,hj,rfl⟩:=Option.map_eq_some_iff.mp h
     obtain ⟨a',b',h1,h2,h3,h4⟩:=nh p (by simpa using hl) hj
     exact ⟨a',b',by simpa using h1,by simpa using h2,h3,by simp [hp,h4]⟩
theorem iu (k k':Key):eqT (aN k') (aN k)=true ↔ k'=k:=by
 cases k with
 | inl i=>cases k' <;> simp [aN]
 | inr x =>
   obtain ⟨⟨x⟩⟩:=x
   cases k' with
   | inl j=>simp [aN]
   | inr y=>obtain ⟨⟨y⟩⟩:=y;simp [aN]
theorem pD {k:Key} {u:V}:∀ {ns:List Key} {ts:List T} {vs:List V} {i:Nat},ns.length=ts.length->ns.length=vs.length->((ns.map aN).zip ts).findIdx? (fun q=>eqT q.1 (aN k))=some i->vs[i]?=some u->bX (ns.zip vs) k=some u
 | [],_,_,_,_,_,h,_=>by simp at h
 | n :: ns,t :: ts,v :: vs,i,h1,h2,h,hu=>by
   rw [List.map_cons,List.zip_cons_cons,List.findIdx?_cons] at h
   by_cases hp:eqT (aN n) (aN k)=true
   · rw [if_pos hp] at h
     cases h
     simp at hu;subst hu
     exact bO ((iu k n).mp hp)
   · rw [if_neg hp] at h
     obtain ⟨j,hj,rfl⟩:=Option.map_eq_some_iff.mp h
     have hn:n ≠ k:=fun z=>hp ((iu k n).mpr z)
     have:bX ((n :: ns).zip (v :: vs)) k=bX (ns.zip vs) k:=by simp [bX,hn]
     rw [this]
     exact pD (by simpa using h1) (by simpa using h2) hj (by simpa using hu)
 | _ :: _,[],_,_,h,_,_,_=>by simp at h
 | _ :: _,_ :: _,[],_,_,h,_,_=>by simp at h
end
end VS
end
section
namespace VS
open PySem PySem.Spec PyProof.Rows L2
section
variable {G:Gx}
variable {X:Cx} {e:Expr} {es:List Expr} {i:Nat} {way:List Stp} {pos pos' p1 apos cpos:Pos} {c:Ex} {cs:Exs} {b:Expr} {k:Nat}
@[simp] noncomputable def Cs (i:Nat) (way:List Stp) (f:T->List Val->Option (T×Val)) (as:Exs) (η:VS.Env):Option (Val×VS.Env):=match η[i]? with
 | some (some (.ow t))=>(keys way η).bind fun ks=>(as η).bind fun xs=>(pm (fun x=>f x xs) ks t).map fun z=>(z.2,η.set i (some (.ow z.1)))
 | _=>none
noncomputable def yg (G:Gx):Prop:=∀ c k k':Nat,(G.ct c).2 k=(G.ct c).2 k'->k=k'
end
end VS
end
section
namespace VS
open PySem PySem.Spec PyProof.Rows L2
section
variable {G:Gx} {X:Cx} {e o:Expr} {es:List Expr} {i:Nat} {way:List Stp} {pos pos' p1 apos cpos:Pos} {c:Ex} {cs:Exs} {b:Expr} {k:Nat} {ce ck:Ex}
theorem p0 {H:Hp} {kk:Key} {xv:V} {t:T} (rv:Rp G H xv t []):∀ {ks:List Key} {vs:List V} {ts:List T} {Fs:List (List Addr)},ks.length=vs.length->RpL G H vs ts Fs →
   ∃ vs' ts' Fs',(ks.zip vs).map (fun kv=>if kv.1=kk then (kv.1,xv) else kv)=ks.zip vs'/\ks.length=vs'.length/\((ks.map aN).zip ts).map (fun p=>if eqT p.1 (aN kk) then (p.1,t) else p)=(ks.map aN).zip ts'/\RpL G H vs' ts' Fs'/\Fs'.flatten.Sublist Fs.flatten
 | [],[],_,_,_,.nil=>⟨[],[],[],rfl,rfl,rfl,.nil,List.Sublist.refl _⟩
 | k :: ks,v :: vs,_,_,hl,.cons (t:=t0) (F:=F) (ts:=ts) (Fs:=Fs) r q=>by
   obtain ⟨vs',ts',Fs',h1,h2,h3,h4,h5⟩:=p0 rv (by simpa using hl) q
   by_cases hk:k=kk
   · have e:eqT (aN k) (aN kk)=true:=(iu kk k).mpr hk
     refine ⟨xv :: vs',t :: ts',[] :: Fs',?_,by simp [h2],?_,.cons rv h4,?_⟩
     · rw [List.zip_cons_cons,List.map_cons,h1,List.zip_cons_cons];simp [hk]
     · rw [List.map_cons,List.zip_cons_cons,List.map_cons,h3,List.zip_cons_cons];simp [e]
     · rw [List.flatten_cons,List.flatten_cons]
       exact h5.trans (List.sublist_append_right _ _)
   · have e:¬ eqT (aN k) (aN kk)=true:=fun z=>hk ((iu kk k).mp z)
     refine ⟨v :: vs',t0 :: ts',F :: Fs',?_,by simp [h2],?_,.cons r h4,?_⟩
     · rw [List.zip_cons_cons,List.map_cons,h1,List.zip_cons_cons];simp [hk]
     · rw [List.map_cons,List.zip_cons_cons,List.map_cons,h3,List.zip_cons_cons];simp [e]
     · rw [List.flatten_cons,List.flatten_cons]
       exact List.Sublist.append (List.Sublist.refl _) h5
theorem nK {kk:Key}:∀ {ks:List Key} {vs:List V} {ts:List T},ks.length=vs.length->ks.length=ts.length->((ks.zip vs).any fun kv=>decide (kv.1=kk))=(((ks.map aN).zip ts).any fun p=>eqT p.1 (aN kk))
 | [],_,_,_,_=>by simp
 | k :: ks,v :: vs,t :: ts,h1,h2=>by
   rw [List.map_cons,List.zip_cons_cons,List.zip_cons_cons,List.any_cons,List.any_cons,nK (by simpa using h1) (by simpa using h2)]
   have:decide (k=kk)=eqT (aN k) (aN kk):=by rw [Bool.eq_iff_iff,decide_eq_true_eq];exact (iu kk k).symm
   rw [this]
 | _ :: _,[],_,h,_=>by simp at h
 | _ :: _,_ :: _,[],_,h=>by simp at h
theorem oQ {H:Hp} {kk:Key} {xv:V} {t:T} (rv:Rp G H xv t []) {ks:List Key} {vs:List V} {ts:List T} {Fs:List (List Addr)} (hl:ks.length=vs.length) (ra:RpL G H vs ts Fs) :
   ∃ (ks':List Key) (vs':List V) (ts':List T) (Fs':List (List Addr)),putK (ks.zip vs) kk xv=ks'.zip vs'/\ks'.length=vs'.length/\dput ((ks.map aN).zip ts) (aN kk) t=(ks'.map aN).zip ts'/\RpL G H vs' ts' Fs'/\Fs'.flatten.Sublist Fs.flatten:=by
 have an:=nK (kk:=kk) hl (hl.trans ra.len.1)
 unfold putK dput
 rw [an]
 by_cases h:(((ks.map aN).zip ts).any fun p=>eqT p.1 (aN kk))=true
 · rw [if_pos h,if_pos h]
   obtain ⟨vs',ts',Fs',h1,h2,h3,h4,h5⟩:=p0 (kk:=kk) rv hl ra
   exact ⟨ks,vs',ts',Fs',h1,h2,h3,h4,h5⟩
 · rw [if_neg h,if_neg h]
   refine ⟨ks++[kk],vs++[xv],ts++[t],Fs++[[]],?_,by simp [hl],?_,ra.append (.cons rv .nil),by simp⟩
   · rw [List.zip_append hl];rfl
   · rw [List.map_append,List.zip_append (by rw [List.length_map];exact hl.trans ra.len.1)];rfl
noncomputable def AM:xb:=fun o i v H Q=>xK o i v H Q\/∃ a H4,o=.ref a/\oH H a i v H4/\Q H4
theorem Ab (hu:X.A.units+1 < cLine):zE X AM:=by
 intro pins s σ H o i v ov iv u Q I ro ri rv h
 rcases h with h | ⟨a,H4,rfl,g,q⟩
 · exact set_list pins s σ H o i v ov iv u Q I ro ri rv h
 · cases ro
   exact rG hu I g ri rv fun s4 I4=>⟨H4,I4,q⟩
end
end VS
end
section
namespace VS
open PySem PySem.Spec PyProof.Rows L2
theorem zf {K:PySem.W.Frag} {H:Hp} {a:Addr} {ns:List Int} (hO:uH H) (hS:SqL K H a (ns.map V.int)):i7 K H a ns:=by
 rcases hS with h | h
 · rcases h with h | h
   · rcases hO a with z | ⟨o,xs,z⟩
     · rw [z] at h;cases h
     · rw [z] at h;cases h
   · exact .inl h
 · exact .inr h
theorem yK {G:Gx} {g:Fn} {H:Hp} {a:Addr} {ns:List Int} {E:XK} (hg:g [.scr ns]=some (.fr,.bl true)) (hO:uH H) (hS:SqL G.K H a (ns.map V.int)):spF G g [.ref a] H (fun v _=>v=.bl true) E :=
 ⟨[.scr ns],[[]],.fr,.bl true,.cons (.scr (zf hO hS)) .nil,hg,fun v H' F _ r _=>r.bl_inv⟩
noncomputable def gx0 (K:PySem.W.Frag):Gx:=⟨K,fun _=>(0,fun k=>⟨#[k]⟩)⟩
theorem xx {l:PySem.W.OpenLaw} {q:Program} {loose:List Str} {XP:(Str->Option Value)->Heap->Prop} {YP:World->Heap->Prop} {d:DefRec} {K:Params->PySem.W.Frag} {g:Fn} {x:Str} {k:Nat} (hn:l.most=some 63) (hdf:d.params.defaults=[]) (hr:Room k callerA)
   (hY:∀ (w:World) (h:Heap),YP w h->(K w.params).In h) (hg:∀ ns:List Int,g [.scr ns]=some (.fr,.bl true))
   (F:∀ (w:World) (mg:Str->Option Value) (fa:Addr) (h:Heap),(K w.params).In h->h.Ns mainGlobals mg->mg d.name=some (.ref fa) →
     ∃ fd:FuncData,(∀ (s:Shared) (u:Value),BindsTo s fd ⟨[u],[]⟩ [(x,u)])/\∀ base:Heap,(K w.params).In base->base.Ns mainGlobals mg->FnOk l.prog w (K w.params) mg base CX0 k fa fd [x] (spF (gx0 (K w.params)) g)) :
   PySem.W.WalkO q loose XP YP l.row.toRowW d [] (fun f vs=>PySem.call f vs) :=
 L2.vP (n:=63) (k:=k) (x:=x) (CX:=fun _=>CX0) (sp:=fun w=>spF (gx0 (K w.params)) g) hn (by decide) hdf hr hY F (fun w H a ns _ hO hS=>yK (G:=gx0 (K w.params)) (hg ns) hO hS) fun _ _ _ _ _ z=>z
end VS
end
section
namespace L2
open PySem PySem.Spec PyProof.Rows
section
variable {X:Cx}
theorem oE (hc:X.calm=true):dB X (.type "list") (fun xs H Q=>∃ x:Str,xs=[.str x]/\x.cps.size<=sizeLine/\∀ l,H l=none->Q (.ref l) (upd H l (.lst (x.cps.toList.map fun c=>V.str ⟨#[c]⟩)))):=by
 intro pins s σ H xs us Q I rx h
 obtain ⟨x,rfl,hz,q⟩:=h
 obtain ⟨u,rfl,t,rfl⟩:=vals1 rx
 refine call_list_str (I.ok.hd hc) x t (fun h' tk acc c kp g ha=>?_) hz
 have hv:aP (x.cps.toList.map fun c=>V.str ⟨#[c]⟩) acc.toList:=by
   have key:∀ (cs:List Nat) (vs:List Value),cs.length=vs.length->(∀ (i:Nat) (v:Value),vs[i]?=some v->∃ c u,cs[i]?=some c/\v=.str ⟨#[c]⟩ u)->aP (cs.map fun c=>V.str ⟨#[c]⟩) vs:=by
     intro cs
     induction cs with
     | nil =>
       intro vs hl _
       cases vs with
       | nil=>exact .nil
       | cons v vs=>simp at hl
     | cons c cs ih =>
       intro vs hl hg
       cases vs with
       | nil=>simp at hl
       | cons v vs =>
         obtain ⟨d,u,e1,e2⟩:=hg 0 v rfl
         cases e1
         exact .cons ⟨u,e2⟩ (ih vs (by simpa using hl) fun i w hw=>by simpa using hg (i+1) w (by simpa using hw))
   refine key _ _ (by rw [Array.length_toList,Array.length_toList,ha.1]) fun i v hi=>?_
   rw [Array.getElem?_toList] at hi
   obtain ⟨d,u,e1,e2⟩:=ha.2 i v hi
   exact ⟨d,u,by rw [Array.getElem?_toList];exact e1,e2⟩
 refine ⟨.ref s.heap.objs.size,_,I.laid kp (Nat.le_refl _) (show aW X.prog X.w _ h' _ (.lst (x.cps.toList.map fun c=>V.str ⟨#[c]⟩)) from ⟨by rw [List.length_map,Array.length_toList];exact hz,acc.toList,c,hv,g⟩),rfl,q _ (I.hok.fresh (Nat.le_refl _))⟩
noncomputable def ip:Int->List Int->Int
 | i,[]=>i
 | i,j :: r=>ip (if j > i then j else i) r
theorem lH:∀ (l:List Int) (i:Int),(i<=ip i l/\∀ j∈l,j<=ip i l)/\(ip i l=i\/ip i l∈l)
 | [],i=>⟨⟨Int.le_refl _,fun j h=>by simp at h⟩,.inl rfl⟩
 | a :: l,i=>by
   obtain ⟨⟨h1,h2⟩,h3⟩:=lH l (if a > i then a else i)
   unfold ip
   have hi:i<=(if a > i then a else i)/\a<=(if a > i then a else i):=by split <;> lia
   refine ⟨⟨Int.le_trans hi.1 h1,fun j hj=>?_⟩,?_⟩
   · rcases List.mem_cons.mp hj with e | e
     · subst e
       exact Int.le_trans hi.2 h1
     · exact h2 j e
   · rcases h3 with e | e
     · split at e
       · rename_i h;rw [if_pos h,e];exact .inr List.mem_cons_self
       · rename_i h;rw [if_neg h,e];exact .inl rfl
     · exact .inr (List.mem_cons_of_mem _ e)
theorem vz {i:Int} {l:List Int} {M:Int} (h1:M∈i :: l) (h2:∀ j∈i :: l,j<=M):M=ip i l:=by
 obtain ⟨⟨a,b⟩,c⟩:=lH l i
 have u:ip i l<=M:=by
   rcases c with e | e
   · rw [e];exact h2 i List.mem_cons_self
   · exact h2 _ (List.mem_cons_of_mem _ e)
 have v:M<=ip i l:=by
   rcases List.mem_cons.mp h1 with e | e
   · rw [e];exact a
   · exact b M e
 lia
theorem qg (hc:X.calm=true):dB X (.builtin "max") (fun xs H Q=>∃ p,∃ (n:Int) (ns:List Int),xs=[.ref p]/\SqL X.K H p ((n :: ns).map V.int)/\Q (.int (ip n ns)) H):=by
 intro pins s σ H xs us Q I rx h
 obtain ⟨p,n,ns,rfl,hq,q⟩:=h
 obtain ⟨u,rfl,ru⟩:=rx.one
 cases ru
 obtain ⟨its,rv,pl,hz⟩:=I.list hq
 have hl:p < s.heap.objs.size:=by obtain ⟨_,e,_⟩:=pl.isList;exact Heap.lt_size e
 have hlen:its.toArray.size=ns.length+1:=by have:=rv.length;simp at this ⊢;lia
 have val:∀ (i:Nat) (v:Value),its.toArray[i]?=some v->∃ t,v=.int (((n :: ns)[i]?).getD 0) t:=fun i v hP=>by
   have hv:its[i]?=some v:=by simpa using hP
   cases e:(n :: ns)[i]? with
   | none =>
     have:=rv.none_of (i:=i) (by rw [List.getElem?_map,e];rfl)
     rw [this] at hv;cases hv
   | some m =>
     obtain ⟨u,hu,ru⟩:=rv.get (i:=i) (x:=.int m) (by rw [List.getElem?_map,e];rfl)
     rw [hu] at hv;cases hv
     obtain ⟨t,rfl⟩:=ru
     exact ⟨t,by simp⟩
 refine call_max_walk (wpAny_pyIter_list pl.isList ⟨s.heap.objs.size,[s.heap.objs.size,p],[s.heap.objs.size],its.toArray.size,_,_,fun i j=>decide (((n :: ns)[i]?).getD 0 > ((n :: ns)[j]?).getD 0),rfl,Walks.list (A:=X.A.in1) (I.ok.hd hc) _ p (Nat.ne_of_lt hl) its.toArray,
   ⟨⟨_,Heap.get?_push_size _ rfl,rfl,rfl⟩,pl.isList.push _⟩,fun b hb=>?_,by lia,CmpOf.ints_gt (fun i=>((n :: ns)[i]?).getD 0) val,fun v h' tk hP hk=>?_⟩)
 · rw [Heap.size_push]
   rcases List.mem_cons.mp hb with rfl | hb
   · exact Nat.lt_succ_self _
   · rw [List.mem_singleton.mp hb];exact Nat.lt_succ_of_lt hl
 · obtain ⟨t,rfl⟩:=val _ _ hP
   obtain ⟨b1,b2⟩:=argBest_gt (fun i=>((n :: ns)[i]?).getD 0) (its.toArray.size - 1)
   refine ⟨.int (ip n ns),H,I.kept (pQ hk),⟨t,?_⟩,q⟩
   congr 1
   refine vz ?_ fun j hj=>?_
   · have hb:argBest (fun i j=>decide (((n :: ns)[i]?).getD 0 > ((n :: ns)[j]?).getD 0)) (its.toArray.size - 1) < (n :: ns).length:=by simp only [List.length_cons];lia
     rw [List.getElem?_eq_getElem hb]
     exact List.getElem_mem hb
   · obtain ⟨i,hi,e⟩:=List.getElem_of_mem hj
     have:=b2 i (by simp at hi;lia)
     rw [List.getElem?_eq_getElem hi,Option.getD_some,e] at this
     exact this
end
end L2
namespace VS
open PySem PySem.Spec PyProof.Rows L2
section
variable {G:Gx} {X:Cx} {a b c e tg:Expr} {es:List Expr} {ca cb cc ce ck:Ex} {cs:Exs} {pos p p1 p2 apos cpos pos':Pos} {k k' kr:Nat}
@[simp] noncomputable def iM:List Val->Option Val
 | [(m,.lst l)]=>mkL m l
 | [(m,.tup l)]=>mkL m l
 | [(_,.str s)]=>mkL .fr (s.map fun c=>.str [c])
 | _=>none
theorem tH:fg G (fun xs H Q=>xO G.K xs H Q\/∃ x:Str,xs=[.str x]/\x.cps.size<=sizeLine/\∀ l,H l=none->Q (.ref l) (upd H l (.lst (x.cps.toList.map fun c=>V.str ⟨#[c]⟩)))) iM:=by
 intro Φ η H0 H l vs Fs m t Q A e k
 unfold iM at e
 split at e
 · exact .inl (pW Φ η H0 H _ vs Fs m t Q A e k)
 · exact .inl (pW Φ η H0 H _ vs Fs m t Q A e k)
 · rename_i mx x
   obtain ⟨v,F,rfl,rfl,rx⟩:=(show RpL G H vs [.str x] Fs from A.rp).one
   have ts:=rx.str_inv.2
   refine .inr ⟨sx x,by rw [rx.str_inv.1],?_,fun q hq=>?_⟩
   · have:=ts.1
     simp only [sx,List.size_toArray]
     exact this
   · have ec:(sx x).cps.toList.map (fun c=>V.str ⟨#[c]⟩)=(x.map fun c=>[c]).map fun s=>V.str (sx s):=by
       simp [sx]
     have et:(x.map fun c=>T.str [c])=(x.map fun c=>[c]).map T.str:=by simp
     rw [ec]
     rw [et] at e
     have r0:=oN (G:=G) (H:=H) (ss:=x.map fun c=>[c]) fun s hs=>by
       obtain ⟨c,hc,rfl⟩:=List.mem_map.mp hs
       exact ⟨by show 1<=d5;decide,fun y hy=>by rw [List.mem_singleton.mp hy];exact ts.2 c hc⟩
     refine gO A.same e r0 ?_ k q hq
     rw [mV]
     exact Fp.nil
 · cases e
theorem xg (hm:X.mg "list" = none) (ha:PVs G X [e] cs) (hg:Gl X "list" := by rfl) (hK:X.K=G.K:=by rfl) (hc:X.calm=true:=by rfl) (he:starEach [e] X.env=(false,eval e X.env) :: starEach [] X.env:=by rfl):PV G X (.Call (.Name "list" p) [e] [] pos) (eN iM cs) :=
 kf (me.or (oE hc)) (hK ▸ tH) hg hm wK ha (he:=he) (hpl:=rfl)
noncomputable def jj:List Val->Option Val
 | [(_,.lst l)]=>(gD l).bind fun
   | []=>none
   | i :: r=>some (.fr,.int (ip i r))
 | _=>none
theorem v9:fg G (fun xs H Q=>∃ p,∃ (n:Int) (ns:List Int),xs=[.ref p]/\SqL G.K H p ((n :: ns).map V.int)/\Q (.int (ip n ns)) H) jj:=by
 intro Φ η H0 H l vs Fs m t Q A e k
 unfold jj at e
 split at e
 · rename_i mx x
   obtain ⟨ns,e1,e2⟩:=Option.bind_eq_some_iff.mp e
   match ns,e1,e2 with
   | n :: ns,e1,e2 =>
     cases e2
     obtain ⟨v,F,rfl,rfl,rx⟩:=(show RpL G H vs [.lst x] Fs from A.rp).one
     obtain ⟨a,ys,Gs,rfl,rfl,ha,ra⟩:=rx.lst_inv
     have:=lC ra e1
     subst this
     exact ⟨a,n,ns,rfl,SqL.of ha,bj k (.int _)⟩
 · cases e
theorem yU (hm:X.mg "max" = none) (ha:PVs G X [e] cs) (hc:X.calm=true:=by rfl) (hg:Gl X "max" := by rfl) (hK:X.K=G.K:=by rfl) (he:starEach [e] X.env=(false,eval e X.env) :: starEach [] X.env:=by rfl):PV G X (.Call (.Name "max" p) [e] [] pos) (eN jj cs) :=
 iz (qg hc) (hK ▸ v9) hg hm xY ha (he:=he) (hpl:=rfl)
theorem vH (K:PySem.W.Frag):yg (gx0 K):=fun c k k' h=>by
 have:(#[k]:Array Nat)=#[k']:=congrArg Str.cps h
 simpa using this
end
end VS
end
section
open PySem PyProof.Rows
namespace TS
noncomputable abbrev Ky:=Sum Int Str
noncomputable def ltK:Ky->Ky->Bool
 | .inl i,.inl j=>decide (i < j)
 | .inr x,.inr y=>decide (x.cps.toList < y.cps.toList)
 | _,_=>false
noncomputable def dS:List Ky->List Ky->Bool
 | [],[]=>false
 | [],_ :: _=>true
 | _ :: _,[]=>false
 | a :: as,b :: bs=>if a=b then dS as bs else ltK a b
noncomputable def kind (k:Ky):Bool:=k.isLeft
theorem vI {x y:Str} (h:x.cps.toList=y.cps.toList):x=y:=by
 cases x;cases y
 simp only [Str.mk.injEq]
 exact Array.toList_inj.mp h
theorem xw (a:Ky):ltK a a=false:=by
 cases a with
 | inl i=>simp [ltK]
 | inr x=>simp [ltK,List.lt_irrefl]
theorem nu {a b:Ky} (h:ltK a b=true):ltK b a=false:=by
 cases a <;> cases b <;> simp only [ltK,decide_eq_true_eq,decide_eq_false_iff_not,Bool.false_eq_true] at h ⊢
 · lia
 · exact fun q=>List.lt_irrefl _ (List.lt_trans h q)
theorem qj {a b c:Ky} (h:ltK a b=true) (h':ltK b c=true):ltK a c=true:=by
 cases a <;> cases b <;> cases c <;> simp only [ltK,decide_eq_true_eq,Bool.false_eq_true] at h h' ⊢
 · lia
 · exact List.lt_trans h h'
theorem pA {a b:Ky} (k:kind a=kind b) (h:ltK a b=false) (h':ltK b a=false):a=b:=by
 cases a <;> cases b <;> simp only [ltK,decide_eq_false_iff_not,kind,Sum.isLeft,Bool.true_eq_false,Bool.false_eq_true] at h h' k ⊢
 · congr 1;lia
 · congr 1
   exact vI (List.le_antisymm (List.not_lt.mp h') (List.not_lt.mp h))
theorem kF:∀ {l m:List Ky},dS l m=true->dS m l=false
 | [],[],h=>by simp [dS] at h
 | [],_ :: _,_=>rfl
 | _ :: _,[],h=>by simp [dS] at h
 | a :: l,b :: m,h=>by
   unfold dS at h ⊢
   by_cases e:a=b
   · rw [if_pos e] at h
     rw [if_pos e.symm]
     exact kF h
   · rw [if_neg e] at h
     rw [if_neg (Ne.symm e)]
     exact nu h
theorem pL:∀ {l m n:List Ky},l.map kind=m.map kind->m.map kind=n.map kind->dS m l=false->dS n m=false->dS n l=false
 | [],[],[],_,_,_,_=>rfl
 | [],[],_ :: _,_,h,_,_=>by simp at h
 | [],_ :: _,_,h,_,_,_=>by simp at h
 | _ :: _,[],_,h,_,_,_=>by simp at h
 | _ :: _,_ :: _,[],_,h,_,_=>by simp at h
 | a :: l,b :: m,c :: n,h1,h2,h3,h4=>by
   simp only [List.map_cons,List.cons.injEq] at h1 h2
   unfold dS at h3 h4 ⊢
   by_cases e1:b=a
   · subst e1
     rw [if_pos rfl] at h3
     by_cases e2:c=b
     · rw [if_pos e2] at h4 ⊢
       exact pL h1.2 h2.2 h3 h4
     · rw [if_neg e2] at h4 ⊢
       exact h4
   · rw [if_neg e1] at h3
     have hab:ltK a b=true:=by
       cases q:ltK a b with
       | true=>rfl
       | false=>exact absurd (pA h1.1 q h3).symm e1
     by_cases e2:c=b
     · subst e2
       rw [if_neg e1]
       exact h3
     · rw [if_neg e2] at h4
       have hbc:ltK b c=true:=by
         cases q:ltK b c with
         | true=>rfl
         | false=>exact absurd (pA h2.1 q h4).symm e2
       have hac:=qj hab hbc
       have hne:c ≠ a:=fun e=>by rw [e,xw] at hac;cases hac
       rw [if_neg hne]
       exact nu hac
variable {prog:Program} {w:World} {A:Around} {E:Value->Shared->Prop} {s:Shared}
noncomputable def KyV:Ky->Value->Prop
 | .inl i,v=>∃ t,v=.int i t
 | .inr x,v=>∃ t,v=.str x t
inductive KysV:List Ky->List Value->Prop where
 | nil:KysV [] []
 | cons {k:Ky} {v:Value} {ks:List Ky} {vs:List Value}:KyV k v->KysV ks vs->KysV (k :: ks) (v :: vs)
theorem KyV.fn {k k':Ky} {v:Value} (h:KyV k v) (h':KyV k' v):k=k':=by
 cases k <;> cases k' <;> obtain ⟨t,rfl⟩:=h <;> obtain ⟨t',e⟩:=h' <;> cases e <;> rfl
theorem KysV.fn:∀ {ks ls:List Ky} {vs:List Value},KysV ks vs->KysV ls vs->ks=ls
 | _,_,_,.nil,.nil=>rfl
 | _,_,_,.cons h q,.cons h' q'=>by rw [h.fn h',q.fn q']
noncomputable def fY (h:Heap) (v:Value) (ks:List Ky):Prop:=∃ b o items n,v=.ref b/\h.get? b=some o/\o.cls=.type "tuple" ∧ o.data=.seq items n/\KysV ks items.toList
theorem fY.fn {h:Heap} {v:Value} {ks ls:List Ky} (x:fY h v ks) (y:fY h v ls):ks=ls:=by
 obtain ⟨b,o,items,n,rfl,g,_,d,k⟩:=x
 obtain ⟨b',o',items',n',e,g',_,d',k'⟩:=y
 cases e
 rw [g] at g'
 cases g'
 rw [d] at d'
 cases d'
 exact k.fn k'
theorem Ae {k k':Ky} {v v':Value} {Q:Bool->Shared->Prop} (hk:kind k=kind k') (h:KyV k v) (h':KyV k' v') (q:Q (decide (k=k')) s):wpAny (model prog w) A (eqBool v v') Q E s:=by
 cases k <;> cases k' <;> simp only [kind,Sum.isLeft,Bool.true_eq_false,Bool.false_eq_true] at hk <;> obtain ⟨t,rfl⟩:=h <;> obtain ⟨t',rfl⟩:=h'
 · exact wpAny_eqBool_int (by have e:∀ i j:Int,(i == j)=decide (Sum.inl (β:=Str) i=.inl j):=fun i j=>by by_cases z:i=j <;> simp [z]
                              rw [e];exact q)
 · exact wpAny_eqBool_str (by simpa using q)
theorem AO {k k':Ky} {v v':Value} {b:Bool} {Q:Bool->Shared->Prop} (hk:kind k=kind k') (h:KyV k v) (h':KyV k' v') (q:Q (ltK k k') s):wpAny (model prog w) A (oneLt' b v v') Q E s:=by
 cases k <;> cases k' <;> simp only [kind,Sum.isLeft,Bool.true_eq_false,Bool.false_eq_true] at hk <;> obtain ⟨t,rfl⟩:=h <;> obtain ⟨t',rfl⟩:=h'
 · cases b with
   | true=>exact oneLt_int q
   | false =>
     rw [oneLt'_eq,if_neg Bool.false_ne_true]
     exact wpAny_bind (PyProof.Rows.lt_int (wpAny_truthy_bool q):wpAny (model prog w) A (compareOp .Lt (.int _ t) (.int _ t')) _ E s)
 · cases b with
   | true=>exact oneLt_str q
   | false =>
     rw [oneLt'_eq,if_neg Bool.false_ne_true]
     exact wpAny_bind (PySem.P.lt_str (wpAny_truthy_bool q):wpAny (model prog w) A (compareOp .Lt (.str _ t) (.str _ t')) _ E s)
theorem rg (a b:Ky) (l m:List Ky):dS (a :: l) (b :: m)=if a=b then dS l m else ltK a b:=rfl
theorem yO {f:Bool} {x y:Value} {ks ls:List Ky} {Q:Bool->Shared->Prop} (hx:fY s.heap x ks) (hy:fY s.heap y ls) (hs:ks.map kind=ls.map kind) (q:Q (dS ks ls) s):wpAny (model prog w) A (keyLt' (tuples' f) x y) Q E s:=by
 obtain ⟨b,o,items,n,rfl,g,_,d,k⟩:=hx
 obtain ⟨b',o',items',n',rfl,g',_,d',k'⟩:=hy
 refine (show wpAny (model prog w) A (Builtin.List.listItems (.ref b) >>= _) Q E s from ?_)
 refine wpAny_bind (listItems_at g d (wpAny_bind (listItems_at g' d' ?_)))
 have hsz:items.size=items'.size:=by
   have e1:∀ {ks:List Ky} {vs:List Value},KysV ks vs->ks.length=vs.length:=fun h=>by induction h with | nil=>rfl | cons _ _ ih=>simp [ih]
   have h1:=e1 k
   have h2:=e1 k'
   have h3:=congrArg List.length hs
   simp at h1 h2 h3
   lia
 refine wpAny_bind (wpAny_forIn_list _ (fun rest b s'=>b=(none,())/\s'=s/\∃ (ks' ls':List Ky) (vs us:List Value) (i:Nat),rest=(vs.zip us).zipIdx i/\KysV ks' vs/\KysV ls' us/\ks'.map kind=ls'.map kind/\dS ks ls=dS ks' ls') _ ?turn ?fin _ _ ⟨rfl,rfl,ks,ls,_,_,0,rfl,k,k',hs,rfl⟩)
 case turn =>
   rintro x rest b s' ⟨rfl,rfl,ks',ls',vs,us,i,e,k1,k2,hs',hl⟩
   cases k1 with
   | nil=>simp at e
   | @cons a v ks1 vs1 ha k1 =>
     cases k2 with
     | nil=>simp at e
     | @cons b u ls1 us1 hb k2 =>
       simp only [List.zip_cons_cons,List.zipIdx_cons,List.cons.injEq] at e
       obtain ⟨rfl,rfl⟩:=e
       simp only [List.map_cons,List.cons.injEq] at hs'
       refine wpAny_bind (Ae hs'.1 ha hb ?_)
       rw [rg] at hl
       by_cases hab:a=b
       · rw [if_pos hab] at hl
         rw [decide_eq_true hab,if_neg (by simp)]
         exact wpAny_pure ⟨rfl,rfl,ks1,ls1,vs1,us1,i+1,rfl,k1,k2,hs'.2,hl⟩
       · rw [if_neg hab] at hl
         rw [decide_eq_false hab,if_pos (by simp)]
         refine wpAny_bind (m:=oneLt' _ v u) (AO hs'.1 ha hb (wpAny_pure (wpAny_pure ?_)))
         rw [← hl]
         exact q
 case fin =>
   rintro b s' ⟨rfl,rfl,ks',ls',vs,us,i,e,k1,k2,hs',hl⟩
   have:dS ks ls=decide (items.size < items'.size):=by
     rw [hl,hsz]
     cases k1 with
     | nil =>
       cases k2 with
       | nil=>simp [dS]
       | cons _ _=>simp at hs'
     | cons _ _ =>
       cases k2 with
       | nil=>simp at hs'
       | cons _ _=>simp at e
   refine wpAny_pure ?_
   rw [← this]
   exact q
theorem lV {α β:Type} {f:α->Sem β} {P:β->Prop}:∀ {vs:List α} {Q:List β->Shared->Prop},(∀ v∈vs,∃ x,P x/\∀ (Q:β->Shared->Prop),Q x s->wpAny (model prog w) A (f v) Q E s)->(∀ xs:List β,xs.length=vs.length->(∀ x∈xs,P x)->Q xs s)->wpAny (model prog w) A (vs.mapM f) Q E s
 | [],Q,_,q=>by
   rw [List.mapM_nil]
   exact wpAny_pure (q [] rfl (by simp))
 | v :: vs,Q,h,q=>by
   rw [List.mapM_cons]
   obtain ⟨x,px,hx⟩:=h v List.mem_cons_self
   refine wpAny_bind (hx _ (wpAny_bind (lV (fun u hu=>h u (List.mem_cons_of_mem _ hu)) fun xs hl hp=>wpAny_pure (q _ (by simp [hl]) fun y hy=>?_))))
   rcases List.mem_cons.mp hy with e | e
   · rw [e];exact px
   · exact hp y e
theorem sR {vs:List Value} {k0:Bool} {sh:List Bool} {Q:SortKind->Shared->Prop} (h2:0 < vs.length) (hv:∀ v∈vs,∃ ks,fY s.heap v ks/\ks.map kind=k0 :: sh) (q:Q (tuples' true) s):wpAny (model prog w) A (keyKind' vs.toArray) Q E s:=by
 have fst:∀ v∈vs,∃ x,(∀ (Q:Option Value->Shared->Prop),Q (some x) s->wpAny (model prog w) A (firstOfTuple' v) Q E s)/\(∀ (Q:Value->Shared->Prop),Q (.type (if k0 then "int" else "str")) s->wpAny (model prog w) A (typeOf x) Q E s):=fun v hm=>by
   obtain ⟨ks,⟨b,o,items,n,rfl,g,c,d,k⟩,hk⟩:=hv v hm
   cases k':items.toList with
   | nil =>
     rw [k'] at k
     cases k
     simp at hk
   | cons x xs =>
     rw [k'] at k
     cases k with
     | @cons a _ ks1 _ ha k1 =>
       simp only [List.map_cons,List.cons.injEq] at hk
       have hx:items[0]?=some x:=by rw [← Array.getElem?_toList,k'];rfl
       refine ⟨x,fun Q q=>?_,fun Q q=>?_⟩
       · refine (show wpAny _ _ (typeOf (.ref b) >>= _) _ _ _ from wpAny_bind (wpAny_typeOf (T := "tuple") ⟨o,g,c⟩ ?_))
         rw [if_neg (by decide)]
         refine wpAny_bind (listItems_at g d (wpAny_pure ?_))
         rw [hx]
         exact q
       · cases a with
         | inl i =>
           obtain ⟨t,rfl⟩:=ha
           have:k0=true:=hk.1.symm
           subst this
           exact wpAny_typeOf (T := "int") rfl q
         | inr y =>
           obtain ⟨t,rfl⟩:=ha
           have:k0=false:=hk.1.symm
           subst this
           exact wpAny_typeOf (T := "str") rfl q
 obtain ⟨tn,htn⟩:∃ tn:String,tn=(if k0 then "int" else "str"):=⟨_,rfl⟩
 have hne:(Value.type tn != Value.type "tuple")=true:=by subst htn;cases k0 <;> decide
 rw [← htn] at fst
 have mp:∀ {α β:Type} (f:α->Sem β) (l:List α) (Q:Array β->Shared->Prop),wpAny (model prog w) A (l.mapM f) (fun xs s'=>Q xs.toArray s') E s->wpAny (model prog w) A (l.toArray.mapM f) Q E s:=fun f l Q hm=>by
   rw [List.mapM_toArray]
   exact wpAny_bind (wpAny_mono hm (fun _ _ z=>wpAny_pure z) fun _ _ e=>e)
 rw [keyKind'_eq]
 refine wpAny_bind (mp _ _ _ (lV (P:=fun o=>∃ x,o=some x/\∀ (Q:Value->Shared->Prop),Q (.type tn) s->wpAny (model prog w) A (typeOf x) Q E s) (fun v hm=>by
   obtain ⟨x,h1,h3⟩:=fst v hm
   exact ⟨some x,⟨x,rfl,h3⟩,h1⟩) fun xs hl hp=>?_))
 rw [if_pos (by
   rw [List.all_toArray,List.all_eq_true]
   intro o ho
   obtain ⟨x,rfl,_⟩:=hp o ho
   rfl)]
 refine wpAny_bind (wpAny_rule (wpAny_bind ?_))
 rw [oneTypeOnly'_eq]
 have hf:(xs.toArray.filterMap id)=(xs.filterMap id).toArray:=by simp
 rw [hf]
 refine wpAny_bind (mp _ _ _ (lV (P:=fun ty=>ty=Value.type tn) (fun v hm=>by
   obtain ⟨o,ho,e⟩:=List.mem_filterMap.mp hm
   obtain ⟨x,rfl,h3⟩:=hp o ho
   cases e
   exact ⟨_,rfl,h3⟩) fun ts hl2 ht=>?_))
 have hfl:(xs.filterMap id).length=xs.length:=by
   have:∀ l:List (Option Value),(∀ o∈l,∃ x,o=some x)->(l.filterMap id).length=l.length:=fun l=>by
     induction l with
     | nil=>intro _;rfl
     | cons o l ih =>
       intro h
       obtain ⟨x,rfl⟩:=h o List.mem_cons_self
       simp [ih fun o ho=>h o (List.mem_cons_of_mem _ ho)]
   exact this xs fun o ho=>let ⟨x,e,_⟩:=hp o ho;⟨x,e⟩
 cases ts with
 | nil=>simp at hl2;lia
 | cons t0 ts =>
   have e0:=ht t0 List.mem_cons_self
   subst e0
   have e1:(Value.type tn :: ts).toArray[0]?=some (Value.type tn):=rfl
   rw [e1]
   dsimp only
   rw [if_pos (by
     rw [List.all_toArray,List.all_eq_true]
     intro y hy
     rw [ht y hy]
     simp)]
   refine wpAny_pure (wpAny_pure ?_)
   simp only [Option.any_some,hne]
   exact q
noncomputable def GT (h:Heap) (sh:List Bool) (x:Keyed):Prop:=∃ ks,fY h x.1 ks/\ks.map kind=sh
open Classical in
noncomputable def rT (h:Heap) (x y:Keyed):Bool:=decide (∃ ks ls,fY h x.1 ks/\fY h y.1 ls/\dS ks ls=true)
open Classical in
theorem jE {h:Heap} {x y:Keyed} {ks ls:List Ky} (hx:fY h x.1 ks) (hy:fY h y.1 ls):rT h x y=dS ks ls:=by
 unfold rT
 cases e:dS ks ls with
 | true=>exact decide_eq_true ⟨ks,ls,hx,hy,e⟩
 | false =>
   refine decide_eq_false fun ⟨ks',ls',hx',hy',e'⟩=>?_
   rw [hx'.fn hx,hy'.fn hy,e] at e'
   cases e'
theorem wz {sh:List Bool} {f:Bool} {h:Heap} (hk:∀ v ks,fY h v ks->fY s.heap v ks):Cmp prog w A E s (tuples' f) (GT h sh) (rT h):=by
 refine ⟨?_,?_,?_⟩
 · rintro st x y Q hkd ⟨ks,hx,ex⟩ ⟨ls,hy,ey⟩ q
   rw [lt'_eq]
   refine wpS_bind (wpS_get ?_)
   rw [hkd]
   rw [jE hx hy] at q
   exact wpS_bind (wpS_lift (wpAny_attempt (yO (hk _ _ hx) (hk _ _ hy) (ex.trans ey.symm) ⟨rfl,wpS_pure q⟩)))
 · rintro x y ⟨ks,hx,_⟩ ⟨ls,hy,_⟩ q
   rw [jE hx hy] at q
   rw [jE hy hx]
   exact kF q
 · rintro x y z ⟨ks,hx,ex⟩ ⟨ls,hy,ey⟩ ⟨ms,hz,ez⟩ q1 q2
   rw [jE hy hx] at q1
   rw [jE hz hy] at q2
   rw [jE hz hx]
   exact pL (ex.trans ey.symm) (ey.trans ez.symm) q1 q2
end TS
end
section
namespace ST
open PySem PySem.Spec PyProof.Rows
variable {prog:Program} {w:World} {A:Around} {E:Value->Shared->Prop} {s:Shared}
noncomputable abbrev dO (es:Array DictEntry) (ep:Nat):Obj:={ cls:=.type "dict",data:=.dict es ep }
noncomputable abbrev kO (d:Addr) (i n ep:Nat):Obj:={ cls:=.type "dict_keyiterator",data:=.fields #[.ref d,.int i 0,.int n 0,.int ep 0] }
theorem mD {d:Addr} {es:Array DictEntry} {ep:Nat} {Q:Value->Shared->Prop} (hd:(d == sysModules)=false) (hm:s.heap.get? d=some (dO es ep)) (q:Q (.ref s.heap.objs.size) { s with heap:=s.heap.push (kO d 0 es.size ep) }) :
   wpAny (model prog w) A (pyIter (.ref d)) Q E s:=by
 have ty:s.TypeIs (.ref d) "dict" := ⟨_,hm,rfl⟩
 refine wpAny_pyIter_slot ty F.slot_dict_iter (wpAny_call_entry F.slot_dict_iter ty F.entry_dict_iter (show wpAny _ _ (Builtin.«dict.__iter__» _) _ _ _ from ?_) (F.args_dict_iter_1 _))
 unfold Builtin.«dict.__iter__» Builtin.Dict.dictSlotNone Builtin.Dict.showsAll
 refine wpAny_bind (wpAny_bind (wpAny_notOrdered_dict ty (show wpAny _ _ (pure (Value.ref d)) _ _ s from wpAny_pure (wpAny_bind (m:=Builtin.Dict.addrOf (.ref d)) (wpAny_pure ?_)))))
 rw [if_neg (by rw [hd];exact Bool.false_ne_true)]
 exact wpAny_bind (wpAny_pure (wpAny_bind (wpAny_dictEntries hm rfl (wpAny_bind (wpAny_dictEpoch hm rfl (wpAny_bind (wpAny_newObj_type (wpAny_pure ⟨_,rfl, "dict_keyiterator",_,⟨_,Heap.get?_push_size _ rfl,rfl⟩,F.slot_dict_keyiterator_next.lookup,q⟩))))))))
theorem ij {I d:Addr} {i ep:Nat} {es:Array DictEntry} {Q:Option Value->Shared->Prop} (hh:A.handled=none) (hI:s.heap.get? I=some (kO d i es.size ep)) (hm:s.heap.get? d=some (dO es ep))
   (h1:∀ e,es[i]?=some e->∀ h',Heap.SameBut I s.heap h'->h'.get? I=some (kO d (i+1) es.size ep)->Q (some e.key) { s with heap:=h' })
   (h2:es[i]?=none->∀ h',(∀ b o,b ≠ I->s.heap.get? b=some o->h'.get? b=some o)->Q none { s with heap:=h' }):wpAny (model prog w) A (pyNext (.ref I)) Q E s:=by
 have ty:s.TypeIs (.ref I) "dict_keyiterator" := ⟨_,hI,rfl⟩
 unfold pyNext
 refine wpAny_bind (wpAny_attempt (wpAny_callSpecial?_slot (name:=Str.ofString "__next__") ty F.slot_dict_keyiterator_next (wpAny_call_entry F.slot_dict_keyiterator_next ty F.entry_dict_keyiterator_next (wpAny_mono
   (Q:=fun f s'=>∃ v,f=.done (.ret v)/\Q (some v) s') (E:=fun e s'=>∃ x,e=.ref x/\(∃ o,s'.heap.get? x=some o/\o.cls=.type "StopIteration")/\Q none s') ?_ (fun f s' ⟨v,e,q⟩=>⟨v,e,wpAny_pure q⟩) fun e s' ⟨x,e1,⟨o,g,c⟩,q⟩=>?_) (F.args_dict_keyiterator_next_1 _))))
 · refine wpAny_bind (wpAny_pure (wpAny_bind (wpAny_bind (wpAny_bind (wpAny_typeNameOfWhole_keyiter ty (wpAny_pure (wpAny_bind (wpAny_fieldsOf hI rfl ?_))))))))
   have own:Builtin.Dict_items.ownsTuple "dict_keyiterator" = false:=rfl
   simp only [own,Bool.false_eq_true,↓reduceIte]
   refine (show wpAny _ _ (if (Value.ref d == Value.none)=true then _ else _) _ _ s from ?_)
   rw [if_neg (fun e:(Value.ref d == Value.none)=true=>Bool.false_ne_true e)]
   refine wpAny_bind (wpAny_pure (wpAny_bind (wpAny_dictEntries hm rfl ?_)))
   rw [if_neg (by simp)]
   refine wpAny_bind (wpAny_pure (wpAny_bind (wpAny_dictEpoch hm rfl ?_)))
   rw [if_neg (by simp)]
   refine wpAny_pure ?_
   simp only [show ¬ ((i:Int) < 0) from by lia,↓reduceIte,Int.toNat_natCast]
   cases he:es[i]? with
   | some e =>
     dsimp only
     have g1:(s.heap.update I (Obj.mapFields (·.setIfInBounds 1 (rawInt ((i:Int)+1))))).get? I=some (kO d (i+1) es.size ep):=Heap.get?_update_self _ hI rfl
     refine wpAny_bind (wpAny_bind (wpAny_typeNameOfWhole_keyiter ty (wpAny_pure (wpAny_bind (wpAny_isOneOf_keyiter ty ?_)))))
     refine (show wpAny _ _ (setField (.ref I) 1 (rawInt ((i:Int)+1)) >>= _) _ _ s from wpAny_bind (wpAny_setField hI rfl (by show 1 < 4;decide) (wpAny_bind (wpAny_holding ?_))))
     refine wpAny_bind (wpAny_isOneOf_keyiter (s:={ s with heap:=s.heap.update I (Obj.mapFields (·.setIfInBounds 1 (rawInt ((i:Int)+1)))) }) ⟨_,g1,rfl⟩ ?_)
     refine (show wpAny _ _ (pure e.key) _ _ _ from wpAny_pure (wpAny_pure ⟨_,rfl,h1 e he _ (Heap.SameBut.update ..) g1⟩))
   | none =>
     dsimp only
     refine wpAny_bind (wpAny_bind (wpAny_typeNameOfWhole_keyiter ty (wpAny_pure ?_)))
     refine (show wpAny _ _ (setField (.ref I) 0 .none >>= _) _ _ s from wpAny_bind (wpAny_setField hI rfl (by show 0 < 4;decide) (Bu hh fun h' x kp hx=>⟨x,rfl,hx,h2 he h' fun b o hb e=>kp b o ?_⟩)))
     rw [Heap.get?_update_other _ _ (Ne.symm hb)]
     exact e
 · subst e1
   exact wpAny_bind (wpAny_isInstance (T := "StopIteration") (b:=true) ⟨o,g,c⟩ isSubtype_stop (wpAny_pure q))
end ST
end
section
namespace L2
open PySem PySem.Spec PyProof.Rows TS
section
variable {X:Cx}
theorem tV:∀ {ks:List Key} {vs:List Value},aP (ks.map kV) vs->KysV ks vs
 | [],[],_=>.nil
 | k :: ks,v :: vs,h=>by
   cases h with
   | cons r q =>
     refine .cons ?_ (tV q)
     cases k with
     | inl i=>exact r
     | inr x=>exact r
theorem vC {P:Program} {w:World} {H:Hp} {h:Heap} {a:Addr} {ks:List Key} (ok:HOk P w H h) (e:H a=some (.tup (ks.map kV))):fY h (.ref a) ks:=by
 obtain ⟨_,its,r,_,o,h1,h2,n,h3⟩:=(show aW P w H h a (.tup (ks.map kV)) from ok a _ e)
 exact ⟨a,o,its.toArray,n,rfl,h1,h2,h3,tV r⟩
theorem fY.kept {h h':Heap} {v:Value} {ks:List Ky} (k:∀ b o,h.get? b=some o->h'.get? b=some o) (x:fY h v ks):fY h' v ks:=by
 obtain ⟨b,o,items,n,e,g,r⟩:=x
 exact ⟨b,o,items,n,e,k _ _ g,r⟩
end
end L2
end
section
namespace L2
open PySem PySem.Spec PyProof.Rows TS
section
variable {X:Cx}
end
end L2
end
section
namespace VS
open PySem PySem.Spec PyProof.Rows L2 TS
section
variable {G:Gx} {X:Cx} {a b c e tg:Expr} {es:List Expr} {ca cb cc ce ck:Ex} {cs:Exs} {pos p p1 p2 apos cpos pos':Pos} {k k' kr:Nat}
noncomputable def zS:T->Bool
 | .tup l=>l.all gh
 | _=>false
@[simp] noncomputable def Cc (x y:Val):Option Val:=match y.2 with
 | .dct 1 l=>if zS x.2 then some (.fr,.bl (dQ l x.2).isSome) else none
 | .lst l=>if zS x.2 && l.all zS then some (.fr,.bl (l.any fun z=>eqT z x.2)) else none
 | _=>none
@[simp] noncomputable def BM (x y:Val):Option Val:=match Cc x y with
 | some (_,.bl b)=>some (.fr,.bl (!b))
 | _=>none
end
end VS
end
section
namespace VS
open PySem PySem.Spec PyProof.Rows L2 TS
section
variable {G:Gx} {X:Cx} {a b c e o tg:Expr} {es:List Expr} {ca cb cc ce ck:Ex} {cs:Exs} {pos p p1 p2 apos cpos pos':Pos} {k k' kr i:Nat}
end
end VS
namespace VS
open PySem PySem.Spec PyProof.Rows L2
theorem Ag {G:Gx} {X:Cx} {i:Int} {j:Nat} {pos p:Pos}:PV G X (.UnaryOp .USub (.Constant (.int i) j p) pos) (eC (.int (-i))) :=
 PE.weak (Ak zX sW) fun σ H Q ⟨Φ,η,m,t,s,e,k⟩=>by
   cases (show some (Md.fr,T.int (-i))=some (m,t) from e)
   exact ⟨i,rfl,k _ H [] (aQ.refl _) (.int _) Fp.nil⟩
end VS
end
section
namespace L2
open PySem PySem.Spec PyProof.Rows
section
variable {X:Cx}
noncomputable def wW:V->List V->Hp->VK->Prop:=fun x vs H Q=>∃ (a:Addr) (kvs:List (Key×V)) (k:Key) (y:V),x=.ref a/\vs=[kV k,y]/\H a=some (.dK kvs)/\kvs.length < sizeLine ∧
 (∀ v,bX kvs k=some v->Q v H)/\(bX kvs k=none->Q y (upd H a (.dK (putK kvs k y))))
theorem p6:MtR X "dict.setdefault" wW:=by
 intro pins s σ H x vs v us Q I rx rv h
 obtain ⟨a,kvs,k,y,rfl,rfl,e,hl,q1,q2⟩:=h
 cases rx
 obtain ⟨u,u2,rfl,ru,ru2⟩:=rv.two
 obtain ⟨z,hd,ws,rel,dd⟩:=nP I.hok e
 have hz:ws.length<=sizeLine:=by rw [← rel.length];exact z
 have hval:=rel.val k
 refine call_meetsIn PySem.F.slot_dict_setdefault dd.typeIs PySem.F.entry_dict_setdefault (PySem.F.args_dict_setdefault_3 _ _ _) (kt_meets_setdefault (bx X.prog X.w) a (kC ru) hd u2) ⟨ws,dd,hz,fun v hv=>?_,fun hn h' dd' hs=>?_⟩
 · rw [hv] at hval
   cases hx:bX kvs k with
   | none=>rw [hx] at hval;cases hval
   | some w =>
     rw [hx] at hval
     exact ⟨w,H,I.tok _,hval,q1 w hx⟩
 · rw [hn] at hval
   have hx:bX kvs k=none:=by
     cases hx:bX kvs k with
     | none=>rfl
     | some w=>rw [hx] at hval;cases hval
   have hl2:(putK kvs k y).length<=sizeLine:=by have:=eY kvs k y;lia
   have he:∃ q,h'.get? a=some q:=let ⟨q,_,_,hq,_⟩:=dd';⟨q,hq⟩
   exact ⟨y,_,fD I (by rw [e];exact True.intro) hs he (oF hl2 hd (rel.put k ru2) dd'),ru2,q2 hx⟩
end
end L2
namespace VS
open PySem PySem.Spec PyProof.Rows L2
section
variable {G:Gx} {X:Cx} {a b c e o tg:Expr} {es:List Expr} {ca cb cc ce ck cv:Ex} {cs:Exs} {pos p p1 p2 apos cpos pos' ap1 cp1 lp:Pos} {k k' kr i:Nat}
noncomputable def cq (l:List (T×T)) (k:T):List (T×T):=if (dQ l k).isSome then l else l++[(k,.lst [])]
noncomputable def gN (i:Nat) (k:Ex) (v:Exs) (η:VS.Env):Option Out:=match η[i]? with
 | some (some (.ow (.dct 0 l)))=>(k η).bind fun kv=>if gh kv.2/\l.length < d5 then
     (v (η.set i (some (.ow (.dct 0 (cq l kv.2)))))).bind fun vv=>(pm (fun x=>bg x vv) [.at kv.2] (.dct 0 (cq l kv.2))).map fun z=>.nx (η.set i (some (.ow z.1))) else none
 | _=>none
theorem Chg.none {H H':Hp} {v:V} {F:List Addr} {t:T} (sm:aQ H H') (r:Rp G H v t F) (nd:F.Nodup):Chg G H v F t H' F :=
 ⟨Kept.of sm,fun b o _ h=>sm b o h,fun b h z=>h (sm.free z),r.same sm,nd,fun a ha=>.inl ha⟩
theorem Chg.trans {H H1 H2:Hp} {v:V} {F F1 F2:List Addr} {t1 t2:T} (x:Chg G H v F t1 H1 F1) (y:Chg G H1 v F1 t2 H2 F2):Chg G H v F t2 H2 F2 :=
 ⟨x.kept.trans y.kept,fun b o hb h=>y.keep b o (fun z=>(x.sub b z).elim hb fun n=>by rw [n] at h;cases h) (x.keep b o hb h),fun b h=>y.dom b (x.dom b h),y.rp,y.nd,fun a ha=>(y.sub a ha).elim (x.sub a) fun n=>.inr (by
   cases hz:H a with
   | none=>rfl
   | some o=>exact absurd n (x.dom a (by rw [hz];simp)))⟩
theorem zp {H:Hp} {f:T->Option (T×Val)} {kk:Key} {a:Addr} {L:List (T×T)} {t':T} {F:List Addr} {y:Val} {kvs:List (Key×V)} {w:V} (r:Rp G H (.ref a) (.dct 0 L) F) (nd:F.Nodup) (e:pm f [.at (aN kk)] (.dct 0 L)=some (t',y)) (h3:H a=some (.dK kvs)) (hw:bX kvs kk=some w) :
   ∃ x F1 x',Rp G H w x F1/\F1.Nodup/\f x=some (x',y)/\∀ H2 F1',Chg G H w F1 x' H2 F1'->∃ F',Chg G H (.ref a) F t' H2 F':=by
 have e:((L.findIdx? fun p=>eqT p.1 (aN kk)).bind fun i=>(L[i]?).bind fun p=>(pm f [] p.2).map fun z=>(T.dct 0 (L.set i (p.1,z.1)),z.2))=some (t',y):=by
   cases kk <;> exact e
 obtain ⟨i,h1,e⟩:=Option.bind_eq_some_iff.mp e
 obtain ⟨p,h2,e⟩:=Option.bind_eq_some_iff.mp e
 obtain ⟨⟨z,y'⟩,e1,e2⟩:=Option.map_eq_some_iff.mp e
 cases e2
 obtain ⟨a',ns,vs,ts,Fs,ea,rfl,ha,hl,rfl,ra⟩:=fT r
 cases ea
 rw [h3] at ha
 cases ha
 have lts:(ns.map aN).length=ts.length:=by rw [List.length_map];exact hl.trans ra.len.1
 obtain ⟨k0,x0,g1,g2,g3,g4⟩:=nh (fun n=>eqT n (aN kk)) lts h1
 have ep:p=(k0,x0):=by
   have:((ns.map aN).zip ts)[i]?=some (k0,x0):=by rw [List.getElem?_zip_eq_some];exact ⟨g1,g2⟩
   rw [this] at h2;exact (Option.some.inj h2).symm
 subst ep
 obtain ⟨u,Fi,u1,u2,u3⟩:=ra.get i g2
 have ew:bX (ns.zip vs) kk=some u:=pD (by simpa using lts) hl h1 u1
 rw [hw] at ew
 cases ew
 refine ⟨x0,Fi,z,u3,((List.nodup_cons.mp nd).2).sublist (fi u2),e1,fun H2 F1' g=>?_⟩
 obtain ⟨s1,s2,s3,s4,s5⟩:=pC h3 ra nd u1 u2 g
 refine ⟨_,g.kept,s5,g.dom,?_,s3,s4⟩
 rw [lQ (ns.map aN) ts i k0 z g1]
 exact .dct s1 hl s2
theorem uy (J:yg G) (i:Nat) {x:Str} (hk:PV G X b ck) (hv:PVs G X [e] cs) (hK:X.K=G.K) (hN:X.N[i]?=some x) (hvis:Vis X.env.scope x) (hd:(x == ("__debug__" : Str))=false) (hcd:(x == ("__classdict__" : Str))=false)
   (hb1:attributeBase (.Name x p1) "setdefault" X.env (eval (.Name x p1) X.env)=eval (.Name x p1) X.env)
   (hf1:((backTo cp1 (starEach [b,.List [] lp] X.env)).all (fun x=>!x.1) && (backToKw cp1 (keywordEach [] X.env)).all (fun x=>x.1.isSome)
     && decide ([b,Expr.List [] lp].length+([]:List Keyword).length+(if ([]:List Keyword).isEmpty then 0 else 1) < 30))=true)
   (hl1:(ap1.endLine == cp1.line)=true) (hs1:starEach [b,.List [] lp] X.env=(false,eval b X.env) :: starEach [.List [] lp] X.env) (hs1':starEach [.List [] lp] X.env=(false,eval (.List [] lp) X.env) :: starEach [] X.env) (hp1:(backTo cp1 (starEach [.List [] lp] X.env)).any (·.1)=false)
   (hb2:attributeBase (.Call (.Attribute (.Name x p1) "setdefault" ap1) [b,.List [] lp] [] cp1) "append" X.env (eval (.Call (.Attribute (.Name x p1) "setdefault" ap1) [b,.List [] lp] [] cp1) X.env)=eval (.Call (.Attribute (.Name x p1) "setdefault" ap1) [b,.List [] lp] [] cp1) X.env)
   (hf2:((backTo cpos (starEach [e] X.env)).all (fun x=>!x.1) && (backToKw cpos (keywordEach [] X.env)).all (fun x=>x.1.isSome)
     && decide ([e].length+([]:List Keyword).length+(if ([]:List Keyword).isEmpty then 0 else 1) < 30))=true)
   (hl2:(apos.endLine == cpos.line)=true) (hs2:starEach [e] X.env=(false,eval e X.env) :: starEach [] X.env) (hp2:(backTo cpos (starEach [] X.env)).any (·.1)=false)
   (hsw:swapsWith (.Call (.Attribute (.Call (.Attribute (.Name x p1) "setdefault" ap1) [b,.List [] lp] [] cp1) "append" apos) [e] [] cpos) none pos.line X.env=pure false) :
   PSV G X (.Expr (.Call (.Attribute (.Call (.Attribute (.Name x p1) "setdefault" ap1) [b,.List [] lp] [] cp1) "append" apos) [e] [] cpos) pos) (gN i ck cs) :=
 PS.weak (lA (pV PySem.F.plainAttrs_list PySem.F.slot_list_append PySem.F.type_list_append gQ
   (pV PySem.F.plainAttrs_dict PySem.F.slot_dict_setdefault PySem.F.type_dict_setdefault p6 (eG hN hvis hd hcd) (d7 hk (d7 (lK fC) fC hs1') hs1) hb1 hf1 hl1 hs1 hp1) hv hb2 hf2 hl2 hs2 hp2) hsw) fun D σ H ⟨Φ,η,out,s,e,k⟩=>by
   refine L2.eT fun P_ k_=>?_
   unfold gN at e
   split at e
   · rename_i l hl
     obtain ⟨⟨mk,tk⟩,ekk,e⟩:=Option.bind_eq_some_iff.mp e
     split at e
     · rename_i hc
       obtain ⟨c1,c2⟩:=hc
       obtain ⟨lv,ev,e⟩:=Option.bind_eq_some_iff.mp e
       obtain ⟨⟨t',y'⟩,e5,e6⟩:=Option.map_eq_some_iff.mp e
       cases e6
       obtain ⟨v,g1,g2⟩:=s.rp _ _ hl
       have nd0:=s.nd i _ hl
       obtain ⟨a,ns,vs,ts,Fs,rfl,eΦ,ha,hln,el,ra⟩:=fT g2
       subst el
       rw [eΦ] at nd0
       refine k_ ?_
       refine ⟨.ref a,g1,by rw [hK];exact .inr (.inr (.inl ⟨rfl,.inl ⟨_,ha⟩⟩)),?_⟩
       refine ⟨Φ,η,mk,tk,s,ekk,fun kv H1 Fk sm1 rk fk=>⟨Nat.zero_le _,fun q hq=>?_⟩⟩
       refine L2.eT fun P_ k_=>?_
       obtain ⟨kk,rfl,etk⟩:=fG rk c1
       dsimp only at etk ekk e5 ev c1
       subst etk
       refine k_ ?_
       have fin:∀ (H3:Hp) (F3:List Addr) (kvs3:List (Key×V)) (w:V),Chg G H (.ref a) (Φ i) (.dct 0 (cq ((ns.map aN).zip ts) (aN kk))) H3 F3->H3 a=some (.dK kvs3)->bX kvs3 kk=some w →
           tyV X.K "list" w H3/\tEs G cs σ H3 (fun vs2 H4=>jf w vs2 H4 (fun _ H5=>D.nx σ H5)):=fun H3 F3 kvs3 w g h3 hw=>by
         refine L2.eT fun P_ k_=>?_
         obtain ⟨z1,z2⟩:=s.mut hl g1 g
         have hset:(η.set i (some (.ow (.dct 0 (cq ((ns.map aN).zip ts) (aN kk))))))[i]?=some (some (.ow (.dct 0 (cq ((ns.map aN).zip ts) (aN kk))))):=by
           have hi:i < η.length:=(List.getElem?_eq_some_iff.mp hl).1
           rw [List.getElem?_set_self hi]
         obtain ⟨x',F1,x3,w2,w3,w4,w5⟩:=zp g.rp g.nd e5 h3 hw
         refine k_ ?_
         refine ⟨by rw [hK];exact gy w2 w4,gW Φ i F3,_,lv,z1,ev,fun vs2 H4 Fs2 q1 q2 q3=>?_⟩
         refine iY (gW Φ i F3) _ H3 H4 w x' x3 F1 lv vs2 Fs2 y' _ w2 w3 ⟨q1,q2,q3⟩ w4 fun u H5 F' g5=>?_
         obtain ⟨F2,g6⟩:=w5 H5 F' g5
         have g6':Chg G H3 (.ref a) (gW Φ i F3 i) t' H5 F2:=by rw [eV];exact g6
         obtain ⟨y1,y2⟩:=z1.mut hset g1 g6'
         rw [List.set_set] at y1 y2
         exact k _ σ H5 y1 (z2.trans y2)
       have sm2:aQ H1 (upd H1 q (.lst [])):=cQ hq
       have sm:aQ H (upd H1 q (.lst [])):=sm1.trans sm2
       have ha2:upd H1 q (.lst []) a=some (.dK (ns.zip vs)):=sm a _ ha
       have ln:(ns.zip vs).length < sizeLine:=by
         have:((ns.map aN).zip ts).length < 16777216:=c2
         rw [List.length_zip,List.length_map] at this
         rw [List.length_zip]
         have:=ra.len.1
         have:(sizeLine:Nat)=16777216:=rfl
         lia
       have dg:=jg (G:=G) (k:=kk) hln ra
       refine ⟨a,ns.zip vs,kk,.ref q,rfl,rfl,ha2,ln,fun w hw=>?_,fun hn=>?_⟩
       · refine fin _ (a :: Fs.flatten) (ns.zip vs) w ?_ ha2 hw
         have es:cq ((ns.map aN).zip ts) (aN kk)=(ns.map aN).zip ts:=by
           unfold cq
           rcases dg with ⟨h1,h2⟩ | ⟨_,_,t2,_,h1,_⟩
           · rw [h2] at hw;cases hw
           · rw [h1];rfl
         rw [es,eΦ]
         exact Chg.none sm (by rw [eΦ] at g2;exact g2) nd0
       · have es:cq ((ns.map aN).zip ts) (aN kk)=((ns++[kk]).map aN).zip (ts++[.lst []]):=by
           unfold cq
           rcases dg with ⟨h1,h2⟩ | ⟨_,_,t2,_,h1,h2,_⟩
           · rw [h1,if_neg (by simp),List.map_append,List.zip_append (by rw [List.length_map];exact hln.trans ra.len.1)]
             rfl
           · rw [h2] at hn;cases hn
         have ep:putK (ns.zip vs) kk (.ref q)=(ns++[kk]).zip (vs++[.ref q]):=by
           unfold putK
           rw [gF,hn,if_neg (by simp),List.zip_append hln]
           rfl
         have qa:q ≠ a:=fun z=>by
           have:H1 a=some (.dK (ns.zip vs)):=sm1 a _ ha
           rw [← z,hq] at this
           cases this
         have qH:H q=none:=sm1.free hq
         have m2:Mut (upd H1 q (.lst []) a):=by rw [ha2];exact True.intro
         have nd:=List.nodup_cons.mp nd0
         have qF:q ∉ Fs.flatten:=fun z=>Mut.ne_none (ra.dom q z) qH
         have h3q:upd (upd H1 q (.lst [])) a (.dK (putK (ns.zip vs) kk (.ref q))) q=some (.lst []):=by rw [au qa,aE]
         have rq:Rp G (upd (upd H1 q (.lst [])) a (.dK (putK (ns.zip vs) kk (.ref q)))) (.ref q) (.lst []) (q :: ([]:List (List Addr)).flatten):=.lst h3q .nil
         refine fin _ (a :: (Fs++[[q]]).flatten) (putK (ns.zip vs) kk (.ref q)) (.ref q) ?_ aE (by rw [sO,if_pos rfl])
         rw [es,eΦ]
         refine Chg.upd sm List.mem_cons_self m2 (.dct (by rw [aE,ep]) (by simp [hln]) (((ra.same sm).off m2 nd.1).append (.cons rq .nil))) ?_ ?_
         · rw [List.flatten_append]
           refine List.nodup_cons.mpr ⟨fun z=>?_,List.nodup_append.mpr ⟨nd.2,by simp,fun x hx y hy z=>?_⟩⟩
           · rcases List.mem_append.mp z with z | z
             · exact nd.1 z
             · have h:a=q:=by simpa using z
               exact qa h.symm
           · subst z
             exact qF (by simpa [show x=q by simpa using hy] using hx)
         · intro y hy
           rcases List.mem_cons.mp hy with rfl | hy
           · exact .inl List.mem_cons_self
           · rw [List.flatten_append] at hy
             rcases List.mem_append.mp hy with hy | hy
             · exact .inl (List.mem_cons_of_mem _ hy)
             · rw [show y=q by simpa using hy]
               exact .inr qH
     · cases e
   · cases e
end
end VS
end
section
namespace L2
open PySem PySem.Spec PyProof.Rows
theorem Af {X:Cx} {pins:List (Addr×Obj)} {σ:St} {H:Hp} {s:Shared} {p:Addr} {kvs:List (aZ×Addr×V)} (I:Inv X pins σ H s) (e:H p=some (DN p kvs)):s.TypeIs (.ref p) "dict" ∧ ∀ a,Value.ref p=.ref a->∃ ob,s.heap.get? a=some ob/\ob.dict=none:=by
 obtain ⟨⟨_,_,_,_,o,_,_,g,ex,_⟩,_⟩:=(show aW X.prog X.w H s.heap p (DN p kvs) from I.hok p _ e)
 refine ⟨⟨o,g,ex.1⟩,fun a e2=>?_⟩
 cases e2
 exact ⟨o,g,ex.2.1⟩
noncomputable def tyN (x:V) (H:Hp):Prop:=∃ p kvs,x=.ref p/\H p=some (DN p kvs)
noncomputable def Cp (r:V->List V->Hp->VK->Prop) (to:TE) (t:TA):TE:=fun σ H Q=>to σ H fun x H1=>tyN x H1/\t σ H1 fun xs H2=>r x xs H2 Q
section
variable {X:Cx} {o e:Expr} {es:List Expr} {to:TE} {t:TA} {name:Str} {apos cpos:Pos} {id:String} {r:V->List V->Hp->VK->Prop}
theorem yV (slot:Slot "dict" name id) (hty:typeOf (.builtin id)=pure (.type "method_descriptor")) (hm:MtR X id r) (ho:PE X o to) (ha:PA X (e :: es) t)
   (hbase:attributeBase o name X.env (eval o X.env)=eval o X.env)
   (hfew:((backTo cpos (starEach (e :: es) X.env)).all (fun x=>!x.1) && (backToKw cpos (keywordEach [] X.env)).all (fun x=>x.1.isSome)
     && decide ((e :: es).length+([]:List Keyword).length+(if ([]:List Keyword).isEmpty then 0 else 1) < 30))=true)
   (hline:(apos.endLine == cpos.line)=true) (hs:starEach (e :: es) X.env=(false,eval e X.env) :: starEach es X.env) (hplain:(backTo cpos (starEach es X.env)).any (·.1)=false) :
   PE X (.Call (.Attribute o name apos) (e :: es) [] cpos) (Cp r to t):=by
 intro pins s σ H Q I h
 refine wpAny_Call_method_late hbase hfew hline rfl (thn (ho pins s σ H _ I h) fun v s1 ⟨x,H1,I1,r1,⟨p,kvs,ex,hp⟩,q1⟩=>?_)
 subst ex
 obtain rfl:=(show v=Value.ref p from r1)
 obtain ⟨h1,h2⟩:=Af I1 hp
 have hA:=ha cpos pins s1 σ H1 _ I1 q1
 refine ⟨"dict",id,PySem.F.plainAttrs_dict,slot,hty,h1,h2,?_⟩
 rw [hs] at hA ⊢
 exact Calls.callWith_builtin (by show (false || (backTo cpos (starEach es X.env)).any (·.1))=false;rw [hplain];rfl) (Calls.evalArgs_plain (thn hA fun us s2 ⟨vs,H2,I2,r2,q2⟩=>hm pins s2 σ H2 (.ref p) vs _ us Q I2 rfl r2 q2))
end
end L2
namespace VS
open PySem PySem.Spec PyProof.Rows L2
noncomputable def nkI:T->Option Int
 | .int i=>some i
 | _=>none
noncomputable def nk1:T->Option (List Int)
 | .tup l=>l.mapM nkI
 | _=>none
noncomputable def wN:T->Option aZ
 | .tup l=>l.mapM nk1
 | _=>none
theorem vh {t:T} {i:Int} (h:nkI t=some i):t=.int i:=by cases t <;> simp [nkI] at h;subst h;rfl
theorem jY {α β:Type} {f:α->Option β} {g:β->α} (h:∀ a b,f a=some b->a=g b):∀ {l:List α} {m:List β},l.mapM f=some m->l=m.map g
 | [],m,e=>by simp at e;subst e;rfl
 | a :: l,m,e=>by
   simp only [List.mapM_cons,Option.pure_def,Option.bind_eq_bind] at e
   obtain ⟨b,hb,e⟩:=Option.bind_eq_some_iff.mp e
   obtain ⟨bs,hbs,e⟩:=Option.bind_eq_some_iff.mp e
   cases e
   rw [List.map_cons,← h a b hb,← jY h hbs]
theorem xq {t:T} {k:List Int} (h:nk1 t=some k):t=.tup (k.map T.int):=by
 cases t with
 | tup l=>exact congrArg T.tup (jY (fun a b=>vh) h)
 | _=>simp [nk1] at h
theorem t5 {t:T} {k:aZ} (h:wN t=some k):t=nkT k:=by
 cases t with
 | tup l=>exact congrArg T.tup (jY (fun a b=>xq) h)
 | _=>simp [wN] at h
section
variable {G:Gx} {X:Cx} {a b c e o tg:Expr} {es:List Expr} {ca cb cc ce ck cv:Ex} {cs:Exs} {pos p p1 p2 apos cpos pos' ap1 cp1 lp:Pos} {k k' kr i:Nat}
theorem RpL.ints {H:Hp}:∀ {k:List Int} {vs:List V} {Fs:List (List Addr)},RpL G H vs (k.map T.int) Fs->vs=k.map V.int
 | [],_,_,r=>by rw [List.map_nil] at r;cases r;rfl
 | i :: k,_,_,r=>by
   rw [List.map_cons] at r
   cases r with
   | cons h t=>rw [List.map_cons,← RpL.ints t,h.int_inv]
theorem Rp.tup_inv' {H:Hp} {v:V} {ts:List T} {F:List Addr} (r:Rp G H v (.tup ts) F):∃ b vs Fs,v=.ref b/\H b=some (.tup vs)/\RpL G H vs ts Fs:=by
 cases r with
 | tup h q=>exact ⟨_,_,_,rfl,h,q⟩
theorem zD {H:Hp} {v:V} {k:aZ} {F:List Addr} (r:Rp G H v (nkT k) F):∃ b,v=.ref b/\NAt H k b:=by
 obtain ⟨b,vs,Fs,rfl,h,q⟩:=Rp.tup_inv' r
 have all:∀ {k:aZ} {vs:List V} {Fs:List (List Addr)},RpL G H vs (k.map fun x=>T.tup (x.map T.int)) Fs->∃ cs:List Addr,vs=cs.map V.ref/\Paired (fun (x:List Int) (c:Addr)=>H c=some (.tup (x.map V.int))) k cs:=by
   intro k
   induction k with
   | nil=>intro vs Fs q;rw [List.map_nil] at q;cases q;exact ⟨[],rfl,.nil⟩
   | cons x k ih =>
     intro vs Fs q
     rw [List.map_cons] at q
     cases q with
     | cons h t =>
       obtain ⟨c,us,Gs,rfl,hc,qc⟩:=Rp.tup_inv' h
       obtain ⟨cs,e,pr⟩:=ih t
       rw [RpL.ints qc] at hc
       exact ⟨c :: cs,by rw [e];rfl,.cons hc pr⟩
 obtain ⟨cs,e,pr⟩:=all q
 exact ⟨b,rfl,cs,by rw [h,e],pr⟩
theorem kg:∀ (x y:List Int),ka (x.map T.int) (y.map T.int)=decide (x=y)
 | [],[]=>rfl
 | [],_ :: _=>rfl
 | _ :: _,[]=>rfl
 | i :: x,j :: y=>by
   rw [List.map_cons,List.map_cons,ka,kg x y]
   simp only [eqT,List.cons.injEq,Bool.decide_and]
   rfl
theorem jZ:∀ (x y:aZ),eqT (nkT x) (nkT y)=decide (x=y):=by
 intro x y
 unfold nkT
 rw [eqT]
 induction x generalizing y with
 | nil=>cases y <;> simp
 | cons i x ih =>
   cases y with
   | nil=>simp
   | cons j y =>
     rw [List.map_cons,List.map_cons,ka,ih y,eqT,kg]
     simp only [List.cons.injEq,Bool.decide_and]
noncomputable abbrev kvN (ks:List (aZ×Addr)) (vs:List V):List (aZ×Addr×V):=(ks.zip vs).map fun p=>(p.1.1,p.1.2,p.2)
theorem jT {H:Hp} {k:aZ}:∀ {ks:List (aZ×Addr)} {vs:List V} {ts:List T} {Fs:List (List Addr)},ks.length=vs.length->RpL G H vs ts Fs →
   (((ks.map fun p=>nkT p.1).zip ts).findIdx? (fun q=>eqT q.1 (nkT k))=none/\atN (kvN ks vs) k=none) ∨
   ∃ (j:Nat) (v:V) (t:T) (F:List Addr),((ks.map fun p=>nkT p.1).zip ts).findIdx? (fun q=>eqT q.1 (nkT k))=some j/\(ks.map fun p=>nkT p.1)[j]?=some (nkT k)/\ts[j]?=some t/\atN (kvN ks vs) k=some v/\vs[j]?=some v/\Fs[j]?=some F/\Rp G H v t F
 | [],[],_,_,_,.nil=>.inl ⟨rfl,rfl⟩
 | k' :: ks,v :: vs,_,_,hl,.cons (t:=t) (F:=F) (ts:=ts) (Fs:=Fs) r q=>by
   by_cases hk:k'.1=k
   · refine .inr ⟨0,v,t,F,?_,by simp [hk],rfl,by simp [atN,kvN,hk],rfl,rfl,r⟩
     rw [List.map_cons,List.zip_cons_cons,List.findIdx?_cons,if_pos (by rw [jZ];exact decide_eq_true hk)]
   · have e1:((((k' :: ks).map fun p=>nkT p.1).zip (t :: ts)).findIdx? fun q=>eqT q.1 (nkT k))=((((ks.map fun p=>nkT p.1).zip ts)).findIdx? fun q=>eqT q.1 (nkT k)).map (·+1):=by
       rw [List.map_cons,List.zip_cons_cons,List.findIdx?_cons,if_neg (by rw [jZ];simp [hk])]
     have e2:atN (kvN (k' :: ks) (v :: vs)) k=atN (kvN ks vs) k:=by simp [atN,kvN,hk]
     rcases jT (k:=k) (by simpa using hl) q with ⟨h1,h2⟩ | ⟨j,v',t',F',h1,h2,h3,h4,h5,h6,h7⟩
     · exact .inl ⟨by rw [e1,h1];rfl,by rw [e2];exact h2⟩
     · exact .inr ⟨j+1,v',t',F',by rw [e1,h1];rfl,by simpa using h2,by simpa using h3,by rw [e2];exact h4,by simpa using h5,by simpa using h6,h7⟩
theorem nQ {H:Hp} {v:V} {l:List (T×T)} {F:List Addr} (r:Rp G H v (.dct 2 l) F):∃ (a:Addr) (ks:List (aZ×Addr)) (vs:List V) (ts:List T) (Fs:List (List Addr)),v=.ref a/\F=a :: Fs.flatten/\H a=some (DN a (kvN ks vs))/\ks.length=vs.length/\(∀ p∈ks,NAt H p.1 p.2)/\l=(ks.map fun p=>nkT p.1).zip ts/\RpL G H vs ts Fs:=by
 cases r with
 | dctN h hl n q=>exact ⟨_,_,_,_,_,rfl,rfl,h,hl,n,rfl,q⟩
theorem jN {H:Hp} {ks:List (aZ×Addr)} {vs:List V} (h:∀ p∈ks,NAt H p.1 p.2):∀ p∈kvN ks vs,NAt H p.1 p.2.1:=fun p hp=>by
 obtain ⟨q,hq,rfl⟩:=List.mem_map.mp hp
 exact h q.1 (List.of_mem_zip (a:=q.1) (b:=q.2) hq).1
noncomputable def bG (l:List (T×T)) (k:T):List (T×T):=if (l.findIdx? fun p=>eqT p.1 k).isSome then l else l++[(k,.lst [])]
noncomputable def mS (f:T->Option (T×Val)) (l:List (T×T)) (k:T):Option (List (T×T)):=(l.findIdx? fun p=>eqT p.1 k).bind fun j=>(l[j]?).bind fun p=>(f p.2).map fun z=>l.set j (p.1,z.1)
noncomputable def fA (i:Nat) (k:Ex) (v:Exs) (η:VS.Env):Option Out:=match η[i]? with
 | some (some (.ow (.dct 2 l)))=>(k η).bind fun kv=>if (wN kv.2).isSome/\l.length < d5 then
     (v (η.set i (some (.ow (.dct 2 (bG l kv.2)))))).bind fun vv=>(mS (fun x=>bg x vv) (bG l kv.2) kv.2).map fun z=>.nx (η.set i (some (.ow (.dct 2 z)))) else none
 | _=>none
theorem p9 (i:Nat) {x:Str} (hr:Room kr X.A) (hk:PV G X b ck) (hv:PVs G X [e] cs) (hK:X.K=G.K) (hN:X.N[i]?=some x) (hvis:Vis X.env.scope x) (hd:(x == ("__debug__" : Str))=false) (hcd:(x == ("__classdict__" : Str))=false)
   (hb1:attributeBase (.Name x p1) "setdefault" X.env (eval (.Name x p1) X.env)=eval (.Name x p1) X.env)
   (hf1:((backTo cp1 (starEach [b,.List [] lp] X.env)).all (fun x=>!x.1) && (backToKw cp1 (keywordEach [] X.env)).all (fun x=>x.1.isSome)
     && decide ([b,Expr.List [] lp].length+([]:List Keyword).length+(if ([]:List Keyword).isEmpty then 0 else 1) < 30))=true)
   (hl1:(ap1.endLine == cp1.line)=true) (hs1:starEach [b,.List [] lp] X.env=(false,eval b X.env) :: starEach [.List [] lp] X.env) (hs1':starEach [.List [] lp] X.env=(false,eval (.List [] lp) X.env) :: starEach [] X.env) (hp1:(backTo cp1 (starEach [.List [] lp] X.env)).any (·.1)=false)
   (hb2:attributeBase (.Call (.Attribute (.Name x p1) "setdefault" ap1) [b,.List [] lp] [] cp1) "append" X.env (eval (.Call (.Attribute (.Name x p1) "setdefault" ap1) [b,.List [] lp] [] cp1) X.env)=eval (.Call (.Attribute (.Name x p1) "setdefault" ap1) [b,.List [] lp] [] cp1) X.env)
   (hf2:((backTo cpos (starEach [e] X.env)).all (fun x=>!x.1) && (backToKw cpos (keywordEach [] X.env)).all (fun x=>x.1.isSome)
     && decide ([e].length+([]:List Keyword).length+(if ([]:List Keyword).isEmpty then 0 else 1) < 30))=true)
   (hl2:(apos.endLine == cpos.line)=true) (hs2:starEach [e] X.env=(false,eval e X.env) :: starEach [] X.env) (hp2:(backTo cpos (starEach [] X.env)).any (·.1)=false)
   (hsw:swapsWith (.Call (.Attribute (.Call (.Attribute (.Name x p1) "setdefault" ap1) [b,.List [] lp] [] cp1) "append" apos) [e] [] cpos) none pos.line X.env=pure false) :
   PSV G X (.Expr (.Call (.Attribute (.Call (.Attribute (.Name x p1) "setdefault" ap1) [b,.List [] lp] [] cp1) "append" apos) [e] [] cpos) pos) (fA i ck cs) :=
 PS.weak (lA (pV PySem.F.plainAttrs_list PySem.F.slot_list_append PySem.F.type_list_append gQ
   (yV PySem.F.slot_dict_setdefault PySem.F.type_dict_setdefault (oG (by have:=hr.un;lia)) (eG hN hvis hd hcd) (d7 hk (d7 (lK fC) fC hs1') hs1) hb1 hf1 hl1 hs1 hp1) hv hb2 hf2 hl2 hs2 hp2) hsw) fun D σ H ⟨Φ,η,out,s,e,k⟩=>by
   refine L2.eT fun P_ k_=>?_
   unfold fA at e
   split at e
   · rename_i l hl
     obtain ⟨⟨mk,tk⟩,ekk,e⟩:=Option.bind_eq_some_iff.mp e
     split at e
     · rename_i hc
       obtain ⟨c1,c2⟩:=hc
       obtain ⟨lv,ev,e⟩:=Option.bind_eq_some_iff.mp e
       obtain ⟨t',e5,e6⟩:=Option.map_eq_some_iff.mp e
       cases e6
       obtain ⟨kk,ek1⟩:=Option.isSome_iff_exists.mp c1
       dsimp only at ek1
       have etk:=t5 ek1
       subst etk
       obtain ⟨v,g1,g2⟩:=s.rp _ _ hl
       have nd0:=s.nd i _ hl
       obtain ⟨a,ns,vs,ts,Fs,rfl,eΦ,ha,hln,hat,el,ra⟩:=nQ g2
       subst el
       rw [eΦ] at nd0
       refine k_ ?_
       refine ⟨.ref a,g1,⟨a,_,rfl,ha⟩,?_⟩
       refine ⟨Φ,η,mk,nkT kk,s,ekk,fun kv H1 Fk sm1 rk fk=>⟨Nat.zero_le _,fun q hq=>?_⟩⟩
       obtain ⟨kb,rfl,hkb⟩:=zD rk
       dsimp only at ekk e5 ev c1
       have fin:∀ (H3:Hp) (ns3:List (aZ×Addr)) (vs3:List V) (ts3:List T) (Fs3:List (List Addr)) (w:V),bG ((ns.map fun p=>nkT p.1).zip ts) (nkT kk)=(ns3.map fun p=>nkT p.1).zip ts3->Chg G H (.ref a) (Φ i) (.dct 2 (bG ((ns.map fun p=>nkT p.1).zip ts) (nkT kk))) H3 (a :: Fs3.flatten) →
           H3 a=some (DN a (kvN ns3 vs3))->ns3.length=vs3.length->(∀ p∈ns3,NAt H3 p.1 p.2)->RpL G H3 vs3 ts3 Fs3->atN (kvN ns3 vs3) kk=some w →
           tyV X.K "list" w H3/\tEs G cs σ H3 (fun vs2 H4=>jf w vs2 H4 (fun _ H5=>D.nx σ H5)):=fun H3 ns3 vs3 ts3 Fs3 w es g h3 hl3 hn3 ra3 hw=>by
         refine L2.eT fun P_ k_=>?_
         obtain ⟨z1,z2⟩:=s.mut hl g1 g
         have hset:(η.set i (some (.ow (.dct 2 (bG ((ns.map fun p=>nkT p.1).zip ts) (nkT kk))))))[i]?=some (some (.ow (.dct 2 (bG ((ns.map fun p=>nkT p.1).zip ts) (nkT kk))))):=by
           have hi:i < η.length:=(List.getElem?_eq_some_iff.mp hl).1
           rw [List.getElem?_set_self hi]
         rcases jT (G:=G) (k:=kk) hl3 ra3 with ⟨_,h2⟩ | ⟨j,w',x',F1,h1,h2,h4,h5,h6,h7,h8⟩
         · rw [h2] at hw;cases hw
         rw [h5] at hw
         obtain rfl:=Option.some.inj hw
         rw [es] at e5
         unfold mS at e5
         rw [h1,Option.bind_some,show ((ns3.map fun p=>nkT p.1).zip ts3)[j]?=some (nkT kk,x') from by rw [List.getElem?_zip_eq_some];exact ⟨h2,h4⟩,Option.bind_some] at e5
         obtain ⟨⟨x3,y'⟩,w4,e7⟩:=Option.map_eq_some_iff.mp e5
         have nd3:F1.Nodup:=((List.nodup_cons.mp g.nd).2).sublist (fi h7)
         refine k_ ?_
         refine ⟨by rw [hK];exact gy h8 w4,gW Φ i (a :: Fs3.flatten),_,lv,z1,ev,fun vs2 H4 Fs2 q1 q2 q3=>?_⟩
         refine iY (gW Φ i (a :: Fs3.flatten)) _ H3 H4 w' x' x3 F1 lv vs2 Fs2 y' _ h8 nd3 ⟨q1,q2,q3⟩ w4 fun u H5 F' g5=>?_
         obtain ⟨s1,s2,s3,s4,s5⟩:=pC h3 ra3 g.nd h6 h7 g5
         have g6:Chg G H3 (.ref a) (gW Φ i (a :: Fs3.flatten) i) (.dct 2 t') H5 (a :: (Fs3.set j F').flatten):=by
           rw [eV]
           refine ⟨g5.kept,s5,g5.dom,?_,s3,s4⟩
           rw [← e7,lQ _ ts3 j _ x3 h2]
           exact .dctN s1 hl3 (fun p hp=>(hn3 p hp).mono g5.kept.tup) s2
         obtain ⟨y1,y2⟩:=z1.mut hset g1 g6
         rw [List.set_set] at y1 y2
         exact k _ σ H5 y1 (z2.trans y2)
       have sm2:aQ H1 (upd H1 q (.lst [])):=cQ hq
       have sm:aQ H (upd H1 q (.lst [])):=sm1.trans sm2
       have ha2:upd H1 q (.lst []) a=some (DN a (kvN ns vs)):=sm a _ ha
       have hat2:∀ p∈ns,NAt (upd H1 q (.lst [])) p.1 p.2:=fun p hp=>(hat p hp).mono fun b xs z=>sm b _ z
       have hkb2:NAt (upd H1 q (.lst [])) kk kb:=hkb.mono fun b xs z=>sm2 b _ z
       have ln:(kvN ns vs).length < sizeLine:=by
         have:((ns.map fun p=>nkT p.1).zip ts).length < 16777216:=c2
         rw [List.length_zip,List.length_map] at this
         rw [List.length_map,List.length_zip]
         have:=ra.len.1
         have:(sizeLine:Nat)=16777216:=rfl
         lia
       have dg:=jT (G:=G) (k:=kk) hln ra
       refine ⟨a,kb,kvN ns vs,kk,.ref q,rfl,rfl,ha2,jN hat2,hkb2,ln,fun w hw=>?_,fun hn=>?_⟩
       · have es:bG ((ns.map fun p=>nkT p.1).zip ts) (nkT kk)=(ns.map fun p=>nkT p.1).zip ts:=by
           unfold bG
           rcases dg with ⟨h1,h2⟩ | ⟨_,_,t2,_,h1,_⟩
           · rw [h2] at hw;cases hw
           · rw [h1];rfl
         refine fin _ ns vs ts Fs w es ?_ ha2 hln hat2 (ra.same sm) hw
         rw [es,eΦ]
         exact Chg.none sm (by rw [eΦ] at g2;exact g2) nd0
       · have es:bG ((ns.map fun p=>nkT p.1).zip ts) (nkT kk)=((ns++[(kk,kb)]).map fun p=>nkT p.1).zip (ts++[.lst []]):=by
           unfold bG
           rcases dg with ⟨h1,h2⟩ | ⟨_,_,t2,_,h1,_,_,h2,_⟩
           · rw [h1,if_neg (by simp),List.map_append,List.zip_append (by rw [List.length_map];exact hln.trans ra.len.1)]
             rfl
           · rw [h2] at hn;cases hn
         have ep:kvN ns vs++[(kk,kb,.ref q)]=kvN (ns++[(kk,kb)]) (vs++[.ref q]):=by
           unfold kvN
           rw [List.zip_append hln,List.map_append]
           rfl
         have qa:q ≠ a:=fun z=>by
           have:H1 a=some (DN a (kvN ns vs)):=sm1 a _ ha
           rw [← z,hq] at this
           cases this
         have qH:H q=none:=sm1.free hq
         have m2:Mut (upd H1 q (.lst []) a):=by rw [ha2];exact True.intro
         have nd:=List.nodup_cons.mp nd0
         have qF:q ∉ Fs.flatten:=fun z=>Mut.ne_none (ra.dom q z) qH
         rw [ep]
         have h3q:upd (upd H1 q (.lst [])) a (DN a (kvN (ns++[(kk,kb)]) (vs++[.ref q]))) q=some (.lst []):=by rw [au qa,aE]
         have rq:Rp G (upd (upd H1 q (.lst [])) a (DN a (kvN (ns++[(kk,kb)]) (vs++[.ref q])))) (.ref q) (.lst []) (q :: ([]:List (List Addr)).flatten):=.lst h3q .nil
         have kp:Kept (upd H1 q (.lst [])) (upd (upd H1 q (.lst [])) a (DN a (kvN (ns++[(kk,kb)]) (vs++[.ref q])))):=Kept.upd (.inl m2)
         have ln2:(ns++[(kk,kb)]).length=(vs++[V.ref q]).length:=by simp [hln]
         have hat3:∀ p∈ns++[(kk,kb)],NAt (upd (upd H1 q (.lst [])) a (DN a (kvN (ns++[(kk,kb)]) (vs++[.ref q])))) p.1 p.2:=fun p hp=>by
           rcases List.mem_append.mp hp with hp | hp
           · exact (hat2 p hp).mono kp.tup
           · rw [List.mem_singleton.mp hp];exact hkb2.mono kp.tup
         have ra3:=((ra.same sm).off (o:=DN a (kvN (ns++[(kk,kb)]) (vs++[.ref q]))) m2 nd.1).append (.cons rq .nil)
         refine fin _ (ns++[(kk,kb)]) (vs++[.ref q]) (ts++[.lst []]) (Fs++[[q]]) (.ref q) es ?_ aE ln2 hat3 ra3 ?_
         · rw [es,eΦ]
           refine Chg.upd sm List.mem_cons_self m2 (.dctN aE ln2 hat3 ra3) ?_ ?_
           · rw [List.flatten_append]
             refine List.nodup_cons.mpr ⟨fun z=>?_,List.nodup_append.mpr ⟨nd.2,by simp,fun x hx y hy z=>?_⟩⟩
             · rcases List.mem_append.mp z with z | z
               · exact nd.1 z
               · have h:a=q:=by simpa using z
                 exact qa h.symm
             · subst z
               exact qF (by simpa [show x=q by simpa using hy] using hx)
           · intro y hy
             rcases List.mem_cons.mp hy with rfl | hy
             · exact .inl List.mem_cons_self
             · rw [List.flatten_append] at hy
               rcases List.mem_append.mp hy with hy | hy
               · exact .inl (List.mem_cons_of_mem _ hy)
               · rw [show y=q by simpa using hy]
                 exact .inr qH
         · rw [← ep]
           unfold atN at hn ⊢
           rw [List.find?_append,Option.map_eq_none_iff.mp hn]
           simp
     · cases e
   · cases e
end
end VS
end
section
namespace L2
open PySem PySem.Spec PyProof.Rows
section
variable {X:Cx} {tg:Expr} {pos:Pos}
noncomputable def xW:TE:=fun _ H Q=>∀ p,H p=none->Q (.ref p) (upd H p (DN p []))
theorem uj:PE X (.Dict [] [] pos) xW:=fun pins s σ H Q I h =>
 wpAny_Dict_empty ⟨.ref s.heap.objs.size,_,I.laid (a:=s.heap.objs.size) (o:=DN s.heap.objs.size []) (t':=s.toks) (fun _ _ q=>Heap.get?_push_of_some _ q) (Nat.le_refl _)
   (sj (xs:=[]) (Nat.zero_le _) (beq_eq_false_iff_ne.mpr (Ne.symm (Nat.ne_of_lt I.big))) .nil (Heap.DictOfH.new s.heap)),rfl,h _ (I.hok.fresh (Nat.le_refl _))⟩
theorem lE {pins:List (Addr×Obj)} {σ:St} {H:Hp} {s:Shared} {d:Addr} {kvs:List (aZ×Addr×V)} {o:Obj} (I:Inv X pins σ H s) (e:H d=some (DN d kvs)) (g:s.heap.get? d=some o):Inv X pins σ (upd H d (.frz o (DN d kvs))) s :=
 fD (t':=s.toks) I (by rw [e];exact True.intro) ⟨rfl,fun _ _=>rfl⟩ ⟨o,g⟩ ⟨g,I.hok d _ e⟩
noncomputable def Itn (d:Addr) (o:Obj) (kvs:List (aZ×Addr×V)):It :=
 ⟨fun i H=>H d=some (.frz o (DN d kvs))/\i < kvs.length,fun i H x H'=>H'=H/\∃ p,kvs[i]?=some p/\x=.ref p.2.1,fun i H=>H d=some (.frz o (DN d kvs))/\kvs.length<=i⟩
theorem KN.get {l:List (aZ×Addr×V)} {m:List (aZ×Addr×Value)} (r:KN l m) {i:Nat} {q:aZ×Addr×Value} (h:m[i]?=some q):∃ p,l[i]?=some p/\p.1=q.1/\p.2.1=q.2.1:=by
 induction r generalizing i with
 | nil=>simp at h
 | @cons p' q' ps qs hq t ih =>
   cases i with
   | zero=>simp at h;subst h;exact ⟨p',rfl,hq.1,hq.2.1⟩
   | succ i=>simpa using ih (by simpa using h)
theorem KN.keys {l:List (aZ×Addr×V)} {m:List (aZ×Addr×Value)} (r:KN l m):l.map (·.1)=m.map (·.1):=by
 induction r with
 | nil=>rfl
 | cons hq _ ih=>rw [List.map_cons,List.map_cons,hq.1,ih]
theorem yI {P:Program} {w:World} {K:PySem.W.Frag} (d it:Addr) {kvs:List (aZ×Addr×V)} {es:Array DictEntry} {ep:Nat} {xs:List (aZ×Addr×Value)} (rel:KN kvs xs) (he:es.toList=xs.map BE) :
   Turn P w K tg (Itn d (ST.dO es ep) kvs) [it] it (fun i h=>h.get? it=some (ST.kO d i es.size ep)) where
 mem:=by simp
 obj:=fun i h st b hb=>by
   rw [List.mem_singleton.mp hb]
   exact ⟨_,st,fun v z=>by cases z⟩
 keep:=fun i h h' st k=>k it (by simp) _ st
 item:=by
   intro X hP hw hK hc i pins s σ H E I hf st hg
   subst hP hw hK
   obtain ⟨f0,f1,f2,f3,f4,f5⟩:=hf it (by simp)
   refine ST.ij (I.ok.hd hc) st (show s.heap.get? d=some (ST.dO es ep) from (I.hok d _ hg.1).1) (fun e hi h' sb g=>?_) fun hn=>?_
   · have I1:Inv X pins σ H { s with heap:=h' }:=I.turned (t':=s.toks) (fun b o hb e=>(sb.2 b hb).trans e) f0 f1 f3 f4 f5
     rw [← Array.getElem?_toList,he,List.getElem?_map] at hi
     obtain ⟨q,hq,rfl⟩:=Option.map_eq_some_iff.mp hi
     obtain ⟨p,hp,_,hb⟩:=rel.get hq
     exact ⟨_,rfl,kI (s:={ s with heap:=h' }) g rfl rfl rfl ⟨.ref p.2.1,H,I1,by rw [hb];rfl,⟨rfl,p,hp,rfl⟩,g,fun b hb=>(hf b hb).1⟩⟩
   · exfalso
     rw [← Array.getElem?_toList,he,List.getElem?_eq_none_iff,List.length_map,← rel.length] at hn
     exact absurd hg.2 (by lia)
 done:=by
   intro X hP hw hK hc i pins s σ H E I hf st hg
   subst hP hw hK
   obtain ⟨f0,f1,f2,f3,f4,f5⟩:=hf it (by simp)
   refine ST.ij (I.ok.hd hc) st (show s.heap.get? d=some (ST.dO es ep) from (I.hok d _ hg.1).1) (fun e hi h' sb g=>?_) fun hn h' kp=>⟨rfl,I.turned (t':=s.toks) (fun b o hb e=>kp b o hb e) f0 f1 f3 f4 f5⟩
   exfalso
   rw [← Array.getElem?_toList,he,List.getElem?_map] at hi
   obtain ⟨q,hq,rfl⟩:=Option.map_eq_some_iff.mp hi
   have:=(List.getElem?_eq_some_iff.mp hq).1
   have h2:=hg.2
   rw [rel.length] at h2
   lia
 self:=fun _ _ _ _ _ st hQ=>wpAny_pyIter_slot ⟨_,st,rfl⟩ F.slot_dict_keyiterator_iter (wpAny_call_entry F.slot_dict_keyiterator_iter ⟨_,st,rfl⟩ F.entry_dict_keyiterator_iter (show wpAny _ _ (ret (.ref it)) _ _ _ from wpAny_pure ⟨_,rfl, "dict_keyiterator",_,⟨_,st,rfl⟩,F.slot_dict_keyiterator_next.lookup,hQ⟩) (F.args_dict_keyiterator_iter_1 _))
noncomputable def iDn (tl:TE):TI:=fun σ H R=>tl σ H fun x H1=>∃ d kvs,x=.ref d/\H1 d=some (DN d kvs)/\∀ o,kvs.length<=sizeLine->(kvs.map (·.1)).Nodup->R (Itn d o kvs) (upd H1 d (.frz o (DN d kvs)))
theorem mR {o:Obj} {es:Array DictEntry} {ep:Nat} (h:o.ExactDict) (e:o.data=.dict es ep):o=ST.dO es ep:=by
 obtain ⟨c,d,dt,sl⟩:=o
 obtain ⟨h1,h2,h3⟩:=h
 simp only at h1 h2 h3 e
 subst h1 h2 h3 e
 rfl
theorem Bb {l:Expr} {tl:TE} (hl:PE X l tl):PI X tg l (iDn tl):=by
 intro pins s σ H R I h
 refine thn (hl pins s σ H _ I h) fun v s1 ⟨x,H1,I1,r1,q1⟩=>?_
 obtain ⟨d,kvs,ex,e,q⟩:=q1
 subst ex
 cases r1
 obtain ⟨⟨z,y,xs,rel,o,es,ep,g,ex,hd,he,hn⟩,_⟩:=(show aW X.prog X.w H1 s1.heap d (DN d kvs) from I1.hok d _ e)
 have eo:=mR ex hd
 subst eo
 refine ST.mD y g ?_
 refine ⟨s1.heap.objs.size,[s1.heap.objs.size],_,_,_,rfl,(lE I1 e g).kept (t':=s1.toks) fun b o e=>Heap.get?_push_of_some _ e,yI d _ rel he,Heap.get?_push_size _ rfl,fun b hb=>?_,q _ z (by rw [rel.keys];exact hn)⟩
 have eb:b=s1.heap.objs.size:=by simpa using hb
 subst eb
 exact (lE I1 e g).fpOk (Nat.le_refl _) ((lE I1 e g).hok.fresh (Nat.le_refl _))
noncomputable def BZ:R2:=fun x y H Q=>∃ d o kvs k b v,x=.ref d/\y=.ref b/\H d=some (.frz o (DN d kvs))/\(∀ p∈kvs,NAt H p.1 p.2.1)/\NAt H k b/\atN kvs k=some v/\Q v H
theorem Ck (hu:X.A.units+2 < cLine):IxR X BZ:=by
 intro value slice pins s σ H x y v u Q I rx ry h hs
 obtain ⟨d,o,kvs,k,b,w,rfl,rfl,e,hks,hk,hw,q⟩:=h
 cases rx
 obtain rfl:=(show u=Value.ref b from ry)
 obtain ⟨g,ok⟩:=(show aW X.prog X.w H s.heap d (.frz o (DN d kvs)) from I.hok d _ e)
 obtain ⟨⟨z,y,xs,rel,o',es,ep,h1,h2,h3,h4,h5⟩,_⟩:=(show aW X.prog X.w H s.heap d (DN d kvs) from ok)
 have all:∀ {l:List (aZ×Addr×V)} {m:List (aZ×Addr×Value)},KN l m->(∀ p∈l,NAt H p.1 p.2.1)->∀ x∈m,NK.IsN (intKind X.prog X.w) s.heap x.1 x.2.1:=by
   intro l m q
   induction q with
   | nil=>intro _ x hx;exact nomatch hx
   | @cons p q ps qs hq t ih =>
     intro hl x hx
     rcases List.mem_cons.mp hx with e | hx
     · subst e
       rw [← hq.1,← hq.2.1]
       exact (hl p List.mem_cons_self).is I.hok
     · exact ih (fun p hp=>hl p (List.mem_cons_of_mem _ hp)) x hx
 have dd:s.heap.DictOfH (NK.nest (intKind X.prog X.w)) d xs:=⟨o',es,ep,h1,h2,h3,h4,fun x hx=>all rel hks x hx,h5⟩
 have hT:=dd.typeIs
 have hat:=rel.at k
 rw [hw] at hat
 obtain ⟨pv,hp,rp⟩:∃ pv,atKey xs k=some pv/\RelV w pv.2:=by
   cases hz:atKey xs k with
   | none=>rw [hz] at hat;exact False.elim hat
   | some pv=>rw [hz] at hat;exact ⟨pv,rfl,hat⟩
 unfold subscriptTail
 refine wpAny_bind ?_
 rw [getitemInPython_of_ne hT.not_modules]
 refine wpAny_bind (wpAny_specialOf hT PySem.F.slot_dict_getitem.lookup ?_)
 have fin:wpAny (model X.prog X.w) X.A (subscripted slice false (.ref d) (.ref b)) (fun r s₃=>wpAny (model X.prog X.w) X.A (letTemporaryGo value (.ref d) r >>= fun _=>pure r) (EP X pins σ Q) X.xe s₃) X.xe s:=by
   rw [hs]
   exact wpAny_operating (wpAny_getItem_heap (knd:=NK.nest (intKind X.prog X.w)) (by show X.A.units+1+1 < cLine;omega) (hk.is I.hok) dd hp (wpAny_bind (wpAny_letTemporaryGo (wpAny_pure ⟨w,H,I.tok _,rp,q⟩))))
 first
   | exact wpAny_pure (wpAny_bind fin)
   | exact wpAny_bind (wpAny_pure (wpAny_bind fin))
   | exact wpAny_bind fin
theorem yN {kvs:List (aZ×Addr×V)}:∀ {i:Nat} {p:aZ×Addr×V},(kvs.map (·.1)).Nodup->kvs[i]?=some p->atN kvs p.1=some p.2.2:=by
 induction kvs with
 | nil=>intro i p _ h;simp at h
 | cons x l ih =>
   intro i p hn h
   rw [List.map_cons,List.nodup_cons] at hn
   cases i with
   | zero=>simp at h;subst h;simp [atN]
   | succ i =>
     have h':l[i]?=some p:=by simpa using h
     have ne:x.1 ≠ p.1:=fun e=>hn.1 (by rw [e];exact List.mem_map.mpr ⟨p,List.mem_of_getElem? h',rfl⟩)
     have:=ih hn.2 h'
     unfold atN at this ⊢
     rw [List.find?_cons,decide_eq_false ne]
     exact this
end
end L2
namespace VS
open PySem PySem.Spec PyProof.Rows L2
section
variable {G:Gx} {X:Cx} {pos p p1 p2 p3 p4 spos:Pos} {kr i:Nat} {sc:Scope}
theorem wO:PV G X (.Dict [] [] pos) (i9 2 []):=PE.weak uj fun σ H Q ⟨Φ,η,m,t,s,e,k⟩=>by
 cases (show some (Md.fr,T.dct 2 [])=some (m,t) from e)
 intro q hq
 have:Rp G (upd H q (DN q [])) (.ref q) (.dct 2 ((([]:List (aZ×Addr)).map fun p=>nkT p.1).zip [])) (q :: ([]:List (List Addr)).flatten):=.dctN (vs:=[]) aE rfl (fun p hp=>by simp at hp) .nil
 exact k _ _ [q] (cQ hq) this ⟨by simp,fun b hb=>by rw [List.mem_singleton.mp hb];exact hq⟩
noncomputable def gI (i:Nat) (η:VS.Env):Option Out:=match η[i]? with
 | some (some (.ow (.dct 2 l)))=>some (.rt (.fr,.lst (l.map (·.2))) (η.set i none))
 | _=>none
theorem qU (i:Nat) (N:List Str) {x y:Str} (hr:Room kr X.A) (hcalm:X.calm=true) (hN:X.N[i]?=some x) (hv:Vis X.env.scope x) (hd:(x == ("__debug__" : Str))=false) (hcd:(x == ("__classdict__" : Str))=false)
   (hin:∀ cl C s H fp,PG (aT X N sc cl C s H fp) (.Name y p3) (jP 0)/\PE (aT X N sc cl C s H fp) (.Name x p1) (rB (i+1))/\PE (aT X N sc cl C s H fp) (.Name y p2) (rB 0)/\(aT X N sc cl C s H fp).A.units=X.A.units)
   (hix:fF (.Name y p2)) (hsc:iK X.env sc=true) (hnm:gp sc (N.drop 1) X.N=true) (hNl:1<=N.length) (hs:∀ z,foldedSetIterable (.Name x p4) X.env z=pure z) :
   PSV G X (.Return (some (.ListComp (.Subscript (.Name x p1) (.Name y p2) p) [⟨.Name y p3,.Name x p4,[],0⟩] sc pos)) spos) (gI i) :=
 PS.weak (ou (lN (k:=1) hcalm (Bb (eG hN hv hd hcd)) hsc hnm hNl (fun cl C s H fp=>⟨(hin cl C s H fp).1,jq,uQ (Ck (by have:=hr.un;rw [(hin cl C s H fp).2.2.2];lia)) (hin cl C s H fp).2.1 (hin cl C s H fp).2.2.1 hix⟩) hs)) fun D σ H ⟨Φ,η,out,s,e,k⟩=>by
   refine L2.eT fun P_ k_=>?_
   unfold gI at e
   split at e
   · rename_i l hl
     cases e
     obtain ⟨v,g1,g2⟩:=s.rp _ _ hl
     have nd0:=s.nd i _ hl
     obtain ⟨a,ns,vs,ts,Fs,rfl,eΦ,ha,hln,hat,el,ra⟩:=nQ g2
     subst el
     rw [eΦ] at nd0
     have nd:=List.nodup_cons.mp nd0
     refine k_ ?_
     refine ⟨.ref a,g1,a,kvN ns vs,rfl,ha,fun o hz hnd Dn hD=>?_⟩
     have mu:Mut (H a):=by rw [ha];exact True.intro
     have aD:Dn ≠ a:=fun z=>by rw [z,aE] at hD;cases hD
     have HD:H Dn=none:=by rw [au aD] at hD;exact hD
     have kp:∀ ys,Kept H (upd (upd H a (.frz o (DN a (kvN ns vs)))) Dn (.lst ys)):=fun ys=>(Kept.upd (.inl mu)).trans (Kept.upd (.inr hD))
     refine ⟨fun j m σ' H'=>m+j=(kvN ns vs).length/\(∃ c,σ'=c :: σ)/\H'=upd (upd H a (.frz o (DN a (kvN ns vs)))) Dn (.lst (((kvN ns vs).take j).map (·.2.2))),⟨(kvN ns vs).length,rfl,⟨none,rfl⟩,rfl⟩,?_⟩
     rintro j m σ' H' ⟨hm,⟨c,rfl⟩,rfl⟩
     have hfz:∀ ys,upd (upd H a (.frz o (DN a (kvN ns vs)))) Dn (.lst ys) a=some (.frz o (DN a (kvN ns vs))):=fun ys=>by rw [au (Ne.symm aD),aE]
     by_cases hj:j < (kvN ns vs).length
     · refine .inr ⟨⟨hfz _,hj⟩,?_⟩
       rintro x' H2 ⟨rfl,q,hq,rfl⟩
       refine ⟨.ref a,?_,.ref q.2.1,?_,a,o,kvN ns vs,q.1,q.2.1,q.2.2,rfl,rfl,hfz _,fun r hr=>(jN hat r hr).mono (kp _).tup,(jN hat q (List.mem_of_getElem? hq)).mono (kp _).tup,yN hnd hq,?_⟩
       · show (σ:L2.St)[i]?=_
         exact g1
       · rfl
       · refine ⟨_,aE,?_,m - 1,by lia,by lia,⟨_,rfl⟩,?_⟩
         · rw [List.length_map,List.length_take];lia
         · rw [xa,List.take_add_one,hq,List.map_append]
           rfl
     · have ej:(kvN ns vs).take j=kvN ns vs:=List.take_of_length_le (by lia)
       refine .inl ⟨⟨hfz _,by lia⟩,?_⟩
       rw [ej]
       have ev:(kvN ns vs).map (·.2.2)=vs:=by
         unfold kvN
         rw [List.map_map]
         exact List.map_snd_zip (Nat.le_of_eq hln.symm)
       have et:((ns.map fun p=>nkT p.1).zip ts).map (·.2)=ts:=List.map_snd_zip (by rw [List.length_map,hln,ra.len.1];exact Nat.le_refl _)
       rw [ev]
       have nF:∀ b∈Fs.flatten,b ≠ a/\b ≠ Dn:=fun b hb=>⟨fun z=>nd.1 (z ▸ hb),fun z=>Mut.ne_none (ra.dom b hb) (z ▸ HD)⟩
       have Da:∀ b,H b ≠ none->b ≠ Dn:=fun b h z=>h (z ▸ HD)
       have ai:bN Φ η a:=⟨i,_,hl,by rw [eΦ];exact List.mem_cons_self⟩
       have sub:∀ b,bN Φ (η.set i none) b->bN Φ η b/\b ≠ a:=fun b ⟨j,t,h1,h2⟩=>⟨⟨j,t,(bP h1).2,h2⟩,fun z=>by
         subst z
         exact s.sep i j _ _ hl (bP h1).2 (bP h1).1.symm b (by rw [eΦ];exact List.mem_cons_self) h2⟩
       have subp:∀ b,cZ Φ (η.set i none) b->cZ Φ η b/\b ≠ a:=fun b ⟨j,t,h1,h2⟩=>⟨⟨j,t,(bP h1).2,h2⟩,fun z=>by
         subst z
         exact s.sep i j _ _ hl (bP h1).2 (bP h1).1.symm b (by rw [eΦ];exact List.mem_cons_self) h2⟩
       have dmo:∀ b,bN Φ η b->H b ≠ none:=fun b ⟨j,t,h1,h2⟩=>by
         obtain ⟨v',_,r'⟩:=s.rp _ _ h1
         exact Mut.ne_none (r'.dom b h2)
       have dmp:∀ b,cZ Φ η b->H b ≠ none:=fun b ⟨j,t,h1,h2⟩=>by
         obtain ⟨v',_,r'⟩:=s.rp _ _ h1
         exact Mut.ne_none (r'.dom b h2)
       rw [et] at k
       refine k (.ref Dn) _ (Dn :: Fs.flatten) Φ σ (SR.off (SR.off (s.drop i) (.inl mu) (fun z=>(subp a z).2 rfl) fun z=>(sub a z).2 rfl) (.inr hD) (fun z=>dmp _ (subp _ z).1 HD) fun z=>dmo _ (sub _ z).1 HD) ⟨fun b ob h n=>⟨?_,fun z=>n (sub b z).1⟩,fun b h=>?_,fun b z=>.inl (sub b z).1,fun b z=>.inl (subp b z).1,kp _⟩ (.lst aE (ra.keep (kp _) fun b hb ob h=>?_)) ⟨List.nodup_cons.mpr ⟨fun z=>(nF Dn z).2 rfl,nd.2⟩,fun b hb=>?_⟩
       · have h1:b ≠ a:=fun z=>n (z ▸ ai)
         have h2:b ≠ Dn:=Da b (by rw [h];simp)
         rw [au h2,au h1]
         exact h
       · rw [au (Da b h)]
         by_cases z:b=a
         · rw [z,aE];simp
         · rw [au z];exact h
       · rw [au (nF b hb).2,au (nF b hb).1]
         exact h
       · rcases List.mem_cons.mp hb with rfl | hb
         · exact .inl HD
         · exact .inr ⟨i,_,hl,by rw [eΦ];exact List.mem_cons_of_mem _ hb⟩
   · cases e
end
end VS
end
section
namespace VS
open PySem PySem.Spec PyProof.Rows L2
section
variable {G:Gx} {X:Cx} {pos:Pos}
theorem wI {x:Str} {t:Tx} {j:Nat} {q q':Pos} (h:x=sx t) (hl:gr t):PV G X (.Dict [some (.Constant (.str x) j q)] [.List [] q'] pos) (i9 0 [(eC (.str t),gw aA)]) :=
 PE.weak (wt (tQ ur (lK fC) vg) rfl rfl (by simp) (by show 1<=15;decide)) fun σ H Q ⟨Φ,η,m,r,s,e,k⟩=>by
   subst h
   cases (show some (Md.fr,T.dct 0 [(.str t,.lst [])])=some (m,r) from e)
   intro p hp
   refine ⟨Nat.zero_le _,fun b hb=>?_⟩
   have bp:b ≠ p:=fun z=>by rw [z,aE] at hb;cases hb
   have Hb:H b=none:=by rw [au bp] at hb;exact hb
   refine ⟨by rw [au (Ne.symm bp),aE],[(Sum.inr (sx t),.ref b)],rfl,(by show 1<=15;decide),?_⟩
   have hk:aN (Sum.inr (sx t))=.str t:=rfl
   have sm:aQ H (upd (upd (upd H p (.dK [])) b (.lst [])) p (.dK (i4 [] [(Sum.inr (sx t),.ref b)]))):=fun c o hc=>by
     rw [au (bD hc hp),au (bD hc Hb),au (bD hc hp)]
     exact hc
   have:Rp G (upd (upd (upd H p (.dK [])) b (.lst [])) p (.dK [(Sum.inr (sx t),.ref b)])) (.ref p) (.dct 0 ((([Sum.inr (sx t)]:List Key).map aN).zip [.lst []])) (p :: ([[b]]:List (List Addr)).flatten) :=
     .dct (ks:=[Sum.inr (sx t)]) (vs:=[V.ref b]) aE rfl (.cons (F:=b :: ([]:List (List Addr)).flatten) (.lst (by rw [au bp,aE]) .nil) .nil)
   simp only [List.map_cons,List.map_nil,hk,List.zip_cons_cons,List.zip_nil_right] at this
   exact k _ _ _ sm this ⟨by simp [Ne.symm bp],fun c hc=>by
     rcases List.mem_cons.mp hc with rfl | hc
     · exact hp
     · simp at hc;rw [hc];exact Hb⟩
end
end VS
end
section
open PySem PyProof.Rows
namespace TS
variable {prog:Program} {w:World} {A:Around} {E:Value->Shared->Prop} {s:Shared} {G:Keyed->Prop} {r:Keyed->Keyed->Bool}
noncomputable def gC (h:Heap) (a:Addr) (vs:List Value):Addr:=((h.update a (Obj.mapSeq fun _=>#[])).push (seqObj "tuple" vs.toArray 0)).objs.size
theorem mP (h:Heap) (a:Addr) (vs:List Value):gC h a vs=h.objs.size+1:=by unfold gC;rw [size_push',Heap.size_update]
structure KeyPre (prog:Program) (w:World) (A:Around) (E:Value->Shared->Prop) (P:PySem.Fin->Shared->Prop) (f:Value) (a K:Addr) (oa:Option Obj) (vs:List Value) (J:List Value->Shared->Prop):Prop where
 keys:∀ ks s',J ks s'->∃ e,s'.heap.get? K=some (seqObj "list" ks.toArray e)
 self:∀ ks s',J ks s'->s'.heap.get? a=oa
 step:∀ ks x s',vs[ks.length]?=some x->J ks s'->wpAny (model prog w) A (call f [x]) (fun k s2=>(∃ e,s2.heap.get? K=some (seqObj "list" ks.toArray e))/\J (ks++[k]) { s2 with heap:=s2.heap.update K (Obj.mapSeq fun xs=>xs.push k) }) (fun _ _=>False) s'
 fin:∀ ks s',J ks s'->ks.length=vs.length->∃ kd G r,Cmp prog w A E s' kd G r/\(∀ p∈ks.zip vs,G p)/\(2<=vs.length->∀ Q:SortKind->Shared->Prop,Q kd s'->wpAny (model prog w) A (keyKind' ks.toArray) Q E s') ∧
   ∀ out:List Keyed,out.Perm (ks.zip vs)->out.Pairwise (le r)->P (.done (.ret .none)) { s' with heap:=(s'.heap.update K (Obj.mapSeq fun _=>#[])).update a (Obj.mapSeq fun _=>(out.map (·.2)).toArray) }
theorem qk {a:Addr} {f:Value} {vs:List Value} {n:Nat} {P:PySem.Fin->Shared->Prop} {J:List Value->Shared->Prop} (hf:(f != Value.none)=true) (ho:s.heap.get? a=some (seqObj "list" vs.toArray n)) (hlen:vs.length<=sizeLine)
   (j0:J [] { s with heap:=fM s.heap a vs }) (p:KeyPre prog w A E P f a (gC s.heap a vs) ((fM s.heap a vs).get? a) vs J) :
   wpAny (model prog w) A (Builtin.«list.sort» ⟨[.ref a],[(("key" : Str),f)]⟩) P E s:=by
 obtain ⟨ep,at1⟩:∃ k,(s.heap.update a (Obj.mapSeq fun _=>#[])).get? a=some (seqObj "list" #[] k):=⟨_,get?_update_seq ho _⟩
 have at2:=sq (vs:=vs) (Heap.lt_size ho) at1
 have ne:a ≠ gC s.heap a vs:=by rw [mP];exact Nat.ne_of_lt (Nat.lt_succ_of_lt (Heap.lt_size ho))
 unfold Builtin.«list.sort»
 refine (show wpAny (model prog w) A (Builtin.List.listItems (.ref a) >>= _) P E s from ?_)
 refine wpAny_bind (listItems_at ho rfl (wpAny_bind (listUpdate_at ho rfl (wpAny_bind (seqEpoch_at at1 rfl (wpAny_bind (wpAny_newTuple (wpAny_bind (wpAny_newList (wpAny_holding ?_))))))))))
 refine (show wpAny (model prog w) A (if (f != Value.none)=true then _ else _) P E { s with heap:=fM s.heap a vs } from ?_)
 rw [if_pos hf]
 refine wpAny_bind (wpAny_rule (wpAny_bind ?_))
 rw [← Array.forIn_toList]
 refine wpAny_forIn_list _ (fun rest _ s'=>∃ ks,J ks s'/\rest=vs.drop ks.length/\ks.length<=vs.length) _ ?turn ?fin _ _ ⟨[],j0,by simp,by simp⟩
 case turn =>
   rintro x rest r s' ⟨ks,jk,e,hl⟩
   have hlt:ks.length < vs.length:=by
     have:=congrArg List.length e
     rw [List.length_cons,List.length_drop] at this
     lia
   have e2:x :: rest=vs[ks.length] :: vs.drop (ks.length+1):=by rw [e];exact List.drop_eq_getElem_cons hlt
   injection e2 with ex er
   have hx:vs[ks.length]?=some x:=by rw [List.getElem?_eq_getElem hlt,ex]
   refine wpAny_bind (wpAny_attempt (wpAny_mono (p.step ks x s' hx jk) (fun k s2 ⟨⟨e2,he⟩,j2⟩=>?_) fun _ _ z=>z.elim))
   have sz:ks.toArray.size<=sizeLine:=by rw [List.size_toArray];lia
   exact (show wpAny (model prog w) A (Builtin.List.listUpdate (.ref (gC s.heap a vs)) (fun xs=>xs.push k) >>= _) _ _ _ from wpAny_bind (listUpdate_at he rfl (wpAny_pure ⟨ks++[k],j2,by rw [er];simp,by simp;lia⟩) (hsz:=sz) (hsz2:=by rw [Array.size_push];lia)))
 case fin =>
   rintro r s' ⟨ks,jk,e,hl⟩
   have hln:ks.length=vs.length:=by
     have:=congrArg List.length e
     rw [List.length_nil,List.length_drop] at this
     lia
   obtain ⟨eK,hK⟩:=p.keys ks s' jk
   have hS:=p.self ks s' jk
   rw [at2] at hS
   obtain ⟨kd,G,r,hC,hG,hkk,hP⟩:=p.fin ks s' jk hln
   have fin:∀ st':SortSt,(arrOf st').Perm (ks.zip vs).toArray->failedOf st'=none->(arrOf st').toList.Pairwise (le r)->P (.done (.ret .none)) { s' with heap:=(s'.heap.update (gC s.heap a vs) (Obj.mapSeq fun _=>#[])).update a (Obj.mapSeq fun _=>(arrOf st').map (·.2)) }:=fun st' p1 _ p3=>by
     have:=hP (arrOf st').toList (by simpa using Array.perm_iff_toList_perm.mp p1) p3
     rwa [← Array.toList_map,Array.toArray_toList] at this
   have hS2:(s'.heap.update (gC s.heap a vs) (Obj.mapSeq fun _=>#[])).get? a=some (seqObj "list" #[] ep):=by rw [Heap.get?_update_other _ _ (Ne.symm ne)];exact hS
   refine (show wpAny (model prog w) A (if (f != Value.none)=true then _ else _) P E s' from ?_)
   rw [if_pos hf]
   refine (show wpAny (model prog w) A (Builtin.List.listItems (.ref (gC s.heap a vs)) >>= _) P E s' from wpAny_bind (listItems_at hK rfl ?_))
   have room:∀ st':SortSt,(arrOf st').Perm (ks.zip vs).toArray->((arrOf st').map (·.2)).size<=sizeLine+1:=fun st' p1=>by
     rw [Array.size_map,p1.size_eq,List.size_toArray,List.length_zip]
     lia
   have szK:ks.toArray.size<=sizeLine:=by rw [List.size_toArray];lia
   have ez:ks.toArray.zip vs.toArray=(ks.zip vs).toArray:=by simp
   by_cases two:2<=vs.length
   · have no:¬ (vs.toArray.size < 2):=by rw [List.size_toArray];lia
     refine (show wpAny (model prog w) A (if vs.toArray.size < 2 then _ else _) P E s' from ?_)
     rw [if_neg no]
     refine wpAny_bind (hkk two _ ?_)
     refine (show wpAny (model prog w) A (StateT.run (if vs.toArray.size < 2 then pure () else sortRuns') (SortSt.mk' kd (ks.toArray.zip vs.toArray) #[] 7 none) >>= _) P E s' from ?_)
     rw [if_neg no]
     refine wpAny_bind (wpAny_mono (vD hC (a₀:=(ks.zip vs).toArray) (st:=SortSt.mk' kd (ks.toArray.zip vs.toArray) #[] 7 none)
       (Q:=fun _ st'=>(arrOf st').Perm (ks.zip vs).toArray/\failedOf st'=none/\(arrOf st').toList.Pairwise (le r)) rfl (fun x hx=>hG x (by simpa using hx)) ez rfl rfl fun st' a1 a2 a3=>⟨a1,a2,a3⟩) ?_ fun _ _ e=>e)
     rintro ⟨⟨⟩,st'⟩ s2 ⟨rfl,p1,p2,p3⟩
     refine (show wpAny (model prog w) A (if (f != Value.none)=true then _ else _) P E s2 from ?_)
     rw [if_pos hf]
     refine (show wpAny (model prog w) A (Builtin.List.listUpdate (.ref (gC s.heap a vs)) (fun _=>#[]) >>= _) P E s2 from wpAny_bind (listUpdate_at hK rfl (wpAny_bind (wpAny_letGo (wpAny_bind (seqEpoch_at hS2 rfl (wpAny_bind (listUpdate_at hS2 rfl ?_ (hsz2:=room st' p1))))))) (hsz:=szK)))
     have q2:=p2
     unfold failedOf at q2
     rw [q2]
     simp only [bne_self_eq_false,Bool.false_eq_true,↓reduceIte]
     exact wpAny_pure (fin st' p1 p2 p3)
   · have yes:vs.toArray.size < 2:=by rw [List.size_toArray];lia
     have p1:(arrOf (SortSt.mk' general' (ks.toArray.zip vs.toArray) #[] 7 none)).Perm (ks.zip vs).toArray:=by
       show (ks.toArray.zip vs.toArray).Perm _
       rw [ez]
     have p3:(arrOf (SortSt.mk' general' (ks.toArray.zip vs.toArray) #[] 7 none)).toList.Pairwise (le r):=by
       show (ks.toArray.zip vs.toArray).toList.Pairwise (le r)
       rw [ez]
       match vs,ks,two with
       | [],_,_=>simp
       | [_],[],_=>simp
       | [_],_ :: _,_=>simp
       | _ :: _ :: _,_,q=>simp at q
     refine (show wpAny (model prog w) A (if vs.toArray.size < 2 then _ else _) P E s' from ?_)
     rw [if_pos yes]
     refine wpAny_bind (wpAny_pure ?_)
     refine (show wpAny (model prog w) A (StateT.run (if vs.toArray.size < 2 then pure () else sortRuns') (SortSt.mk' general' (ks.toArray.zip vs.toArray) #[] 7 none) >>= _) P E s' from ?_)
     rw [if_pos yes,StateT.run_pure]
     refine wpAny_bind (wpAny_pure ?_)
     refine (show wpAny (model prog w) A (if (f != Value.none)=true then _ else _) P E s' from ?_)
     rw [if_pos hf]
     refine (show wpAny (model prog w) A (Builtin.List.listUpdate (.ref (gC s.heap a vs)) (fun _=>#[]) >>= _) P E s' from wpAny_bind (listUpdate_at hK rfl (wpAny_bind (wpAny_letGo (wpAny_bind (seqEpoch_at hS2 rfl (wpAny_bind (listUpdate_at hS2 rfl ?_ (hsz2:=room _ p1))))))) (hsz:=szK)))
     have b0:(ep != ep)=false:=bne_self_eq_false _
     refine (show wpAny (model prog w) A (if (ep != ep)=true then _ else ret Value.none) P E _ from ?_)
     rw [if_neg (by rw [b0];simp)]
     exact wpAny_pure (fin _ p1 rfl p3)
end TS
end
section
open PySem PyProof.Rows
namespace TS
variable {prog:Program} {w:World} {A:Around} {E:Value->Shared->Prop} {s:Shared}
theorem lT (a f:Value):argsOk "sorted" ⟨[a],[(("key" : Str),f)]⟩:=by unfold argsOk;kernel_rfl
theorem oo (a f:Value):argsOk "list.sort" ⟨[a],[(("key" : Str),f)]⟩:=by unfold argsOk;kernel_rfl
noncomputable def fE (h:Heap) (vs:List Value):Heap:=fM (h.push (seqObj "list" vs.toArray 0)) h.objs.size vs
theorem nc {h:Heap} {vs:List Value} {b:Addr} {o:Obj} (e:h.get? b=some o):(fE h vs).get? b=some o:=by
 have hb:=Heap.lt_size e
 unfold fE fM
 rw [Heap.get?_push_ne _ _ _ (by rw [size_push',Heap.size_update,size_push'];exact nl hb 2),Heap.get?_push_ne _ _ _ (by rw [Heap.size_update,size_push'];exact nl hb 1),Heap.get?_update_ne _ _ _ _ (Nat.ne_of_lt hb),Heap.get?_push_ne _ _ _ (Nat.ne_of_lt hb)]
 exact e
theorem ma (h:Heap) (vs:List Value):∃ e,(fE h vs).get? h.objs.size=some (seqObj "list" #[] e):=by
 have hoL:(h.push (seqObj "list" vs.toArray 0)).get? h.objs.size=some (seqObj "list" vs.toArray 0):=Heap.get?_push_size _ rfl
 obtain ⟨k,at1⟩:∃ k,((h.push (seqObj "list" vs.toArray 0)).update h.objs.size (Obj.mapSeq fun _=>#[])).get? h.objs.size=some (seqObj "list" #[] k):=⟨_,get?_update_seq hoL _⟩
 exact ⟨k,sq (vs:=vs) (Heap.lt_size hoL) at1⟩
theorem lD (h:Heap) (vs:List Value):(fE h vs).get? (h.objs.size+2)=some (seqObj "list" #[] 0):=by
 unfold fE fM
 have e:(((h.push (seqObj "list" vs.toArray 0)).update h.objs.size (Obj.mapSeq fun _=>#[])).push (seqObj "tuple" vs.toArray 0)).objs.size=h.objs.size+2:=by rw [size_push',Heap.size_update,size_push']
 rw [← e]
 exact Heap.get?_push_size _ rfl
theorem nN {x f:Value} {Q:Value->Shared->Prop} (hf:(f != Value.none)=true)
   (hcol:∀ (A':Around) (E':Value->Shared->Prop),A'.handled=A.handled->wpAny (model prog w) A' (collect x) (fun vs s1=>vs.length<=sizeLine/\∃ J,J [] { s1 with heap:=fE s1.heap vs } ∧
     KeyPre prog w A.in1.in1 E (fun fin s'=>fin=.done (.ret .none)/\Q (.ref s1.heap.objs.size) s') f s1.heap.objs.size (s1.heap.objs.size+2) ((fE s1.heap vs).get? s1.heap.objs.size) vs J) E' s) :
   wpAny (model prog w) A (call (.builtin "sorted") [x] [(("key" : Str),f)]) Q E s:=by
 refine call_function_entry_kw kind_sorted plain_sorted entry_sorted (lT _ _) (show wpAny _ _ (Builtin.«sorted» _) _ _ _ from ?_)
 unfold Builtin.«sorted»
 refine wpAny_bind (m:=checkCount "sorted" 1 1 _) (wpAny_pure (wpAny_bind (wpAny_mono (hcol A.in1 (fun _ _=>False) rfl) ?_ fun _ _ e=>e.elim)))
 rintro vs s1 ⟨hlen,J,j0,kp⟩
 refine wpAny_bind (wpAny_newList ?_ (by exact hlen))
 have hoL:(s1.heap.push (seqObj "list" vs.toArray 0)).get? s1.heap.objs.size=some (seqObj "list" vs.toArray 0):=Heap.get?_push_size _ rfl
 have eK:gC (s1.heap.push (seqObj "list" vs.toArray 0)) s1.heap.objs.size vs=s1.heap.objs.size+2:=by rw [mP,size_push']
 refine (show wpAny _ _ _ _ _ { s1 with heap:=s1.heap.push (seqObj "list" vs.toArray 0) } from ?_)
 have main:=qk (J:=J) (s:={ s1 with heap:=s1.heap.push (seqObj "list" vs.toArray 0) }) hf hoL hlen j0 (P:=fun fin s'=>fin=.done (.ret .none)/\Q (.ref s1.heap.objs.size) s') (by rw [eK];exact kp)
 exact wpAny_bind (wpAny_holding (wpAny_call_entry_kw slot_list_sort ⟨_,hoL,rfl⟩ entry_list_sort (wpAny_mono main (fun fin s' h=>⟨_,h.1,wpAny_pure ⟨_,rfl,h.2⟩⟩) fun _ _ e=>e) (oo _ _)))
end TS
end
section
namespace L2
open PySem PySem.Spec PyProof.Rows TS
section
variable {X:Cx} {pins:List (Addr×Obj)} {σ:St} {H:Hp} {s:Shared} {h':Heap}
theorem Inv.adopt {a:Addr} {o:HO} {t':Nat} (I:Inv X pins σ H s) (f:ic X pins H a) (k:∀ b u,b ≠ a->s.heap.get? b=some u->h'.get? b=some u) (he:∃ u,h'.get? a=some u) (new:aW X.prog X.w (upd H a o) h' a o) :
   Inv X pins σ (upd H a o) { s with heap:=h',toks:=t' }:=by
 obtain ⟨f0,f1,f2,f3,f4,f5⟩:=f
 have ne:∀ b u,H b=some u->b ≠ a:=fun b u e z=>by rw [z,f0] at e;cases e
 refine I.step (g':=s.gens) (d':=s.drawn) (ch:=[a]) (fun b hb=>?_) (fun b o _ _ hc e _=>k b o (fun z=>hc (by simp [z])) e) (fun b o _ _ hc e _=>⟨o.slots,k b o (fun z=>hc (by simp [z])) e⟩) (fun b _ hc _ n=>?_)
   (fun b o hc e=>⟨o,k b o (fun z=>hc (by simp [z])) e⟩) (fun b xs e=>?_) (fun b o u e=>?_) (fun b ps e=>⟨#[],?_⟩) (fun m hm=>?_) (fun b u e=>?_) I.bare
 · rw [List.mem_singleton.mp hb]
   exact ⟨f3,f1,f4,f5⟩
 · rw [au (fun z=>hc (by simp [z]))];exact n
 · rw [au (ne b _ e)];exact e
 · rw [au (ne b _ e)];exact e
 · rw [au (ne b _ e),e];simp
 · obtain ⟨o,es,ep,ho,r⟩:=hm
   exact ⟨o,es,ep,k _ o (Ne.symm f1) ho,r⟩
 · by_cases hb:b=a
   · subst hb
     rw [aE] at e
     cases e
     exact new
   · rw [au hb] at e
     refine (I.hok b u e).stay (fun c v hc q=>k c v ?_ q) (fun c q=>by rw [au (ne c _ q)];exact q) fun c xs q=>by rw [au (ne c _ q)];exact q
     rcases hc with z | z
     · rw [z];exact hb
     · exact ne c _ z
theorem ye {k:Nat} {f:Addr} {fd:FuncData} {ps:List Str} {sp:Sp} {A':Around} {E:XK} {Q:VK} {us:List Value} {vs:List V} (F:FnOk X.prog X.w X.K X.mg X.base CX0 k f fd ps sp) (hr:Room k A') (hfr:A'.frames=X.A.frames) (hb:Binds X.K fd ps [])
   (I:Inv X pins σ H s) (r:aP vs us) (h:sp vs H Q E):wpAny (model X.prog X.w) A' (call (.ref f) us) (fun u s'=>∃ v H',Inv X pins σ H' s'/\RelV v u/\Q v H'/\∀ b o,ic X pins H b->s.heap.get? b=some o->s'.heap.get? b=some o/\ic X pins H' b) (fun _ _=>False) s:=by
 have hl:us.length=ps.length:=by rw [← r.length];exact F.len _ _ _ _ h
 have e0:Env0 X.prog X.w X.K X.mg X.base A' X.stack s H:=⟨hfr.trans I.env0.frames,I.env0.mod,I.env0.bs,I.env0.bsz,I.env0.funs,I.env0.frf,I.env0.hok,I.env0.bare⟩
 have hb':=hb s us I.kIn (by rw [List.append_nil];exact hl)
 rw [List.append_nil] at hb'
 refine wpAny_call (codeAny_mono (F.run A' X.stack s H ⟨us,[]⟩ us vs Q E hr e0 hb' r h) fun r s' hq=>?_)
 cases r with
 | error e=>exact hq.elim
 | ok fl =>
   cases fl with
   | ret u =>
     obtain ⟨v,H',os,bare,un,hok,r,q⟩:=hq
     obtain ⟨v2,H2,I2,r2,rfl,rfl,q2⟩:=I.after (Q:=fun v1 H1=>v1=v/\H1=H'/\Q v1 H1) ⟨v,H',os,bare,un,hok,r,rfl,rfl,q⟩
     refine ⟨v2,H2,I2,r2,q2,fun b o fb e=>?_⟩
     have nf:b ∉ frs X.stack:=fun z=>(List.mem_cons.mp (I.stkSub b z)).elim fb.2.1 fb.2.2.1
     exact ⟨un.keep b o e fb.1 nf (by simp),un.free b o e fb.1 (by simp),fb.2⟩
   | next=>exact False.elim hq
   | brk=>exact False.elim hq
   | cont=>exact False.elim hq
noncomputable def kL (x:Str):List Key:=[.inl (x.cps.toList.length:Int),.inr x]
noncomputable def txV:Value->Str
 | .str x _=>x
 | _=>⟨#[]⟩
noncomputable def JK (X:Cx) (pins:List (Addr×Obj)) (σ:St) (H:Hp) (ss:List Str) (n0 e0:Nat) (ks:List Value) (s':Shared):Prop:=∃ H1,Inv X pins σ H1 s'/\aQ H H1/\ic X pins H1 n0/\ic X pins H1 (n0+2)/\(∃ e,s'.heap.get? (n0+2)=some (seqObj "list" ks.toArray e))/\s'.heap.get? n0=some (seqObj "list" #[] e0) ∧
   ∀ (i:Nat) (u:Value),ks[i]?=some u->∃ (b:Addr) (x:Str),u=Value.ref b/\ss[i]?=some x/\H1 b=some (.tup ((kL x).map kV))
theorem ja {k:Nat} {f p:Addr} {fd:FuncData} {ps:List Str} {sp:Sp} {E:XK} {Q:VK} {ss:List Str} {ws:List V} (hc:X.calm=true) (F:FnOk X.prog X.w X.K X.mg X.base CX0 k f fd ps sp) (hr:Room (k+2) X.A) (hb:Binds X.K fd ps [])
   (I:Inv X pins σ H s) (hl:ss.length=ws.length) (hq:H p=some (.dK ((ss.map Sum.inr).zip ws)))
   (hsp:∀ x∈ss,∀ H1,aQ H H1->∀ Q1:VK,(∀ b H2,aQ H1 H2->H2 b=some (.tup ((kL x).map kV))->Q1 (.ref b) H2)->sp [.str x] H1 Q1 E)
   (q:∀ (l:Addr) (H1:Hp) (ys:List Str),aQ H H1->H1 l=none->ys.Perm ss->ys.Pairwise (fun a b=>dS (kL b) (kL a)=false)->Q (.ref l) (upd H1 l (.lst (ys.map V.str)))) :
   wpAny (model X.prog X.w) X.A (call (.builtin "sorted") [.ref p] [(("key" : Str),.ref f)]) (EP X pins σ Q) X.xe s:=by
 obtain ⟨hz,hS,kvs,rel,dd⟩:=nP I.hok hq
 obtain ⟨ep,dd⟩:=dd.dictAt
 rw [List.length_zip,List.length_map] at hz
 have hkl:kvs.length=ss.length:=by
   have:=rel.length
   rw [List.length_zip,List.length_map] at this
   lia
 have hky:∀ i:Nat,(kvs[i]?).map (fun x=>x.1)=(ss[i]?).map (Sum.inr:Str->Key):=fun i=>by
   have h1:((kvs.map (·.1)))[i]?=(ss.map (Sum.inr:Str->Key))[i]?:=by
     rw [← rel.keys,List.map_fst_zip (by rw [List.length_map];lia)]
   rw [List.getElem?_map,List.getElem?_map] at h1
   exact h1
 refine nN rfl fun A' E' hA=>PySem.W.kdu_collect (PySem.W.kdl_dict hS) (hA.trans (I.ok.hd hc)) dd (by lia) fun h1 tk acc kp hacc=>?_
 have I1:Inv X pins σ H { s with heap:=h1,toks:=tk }:=I.kept kp
 have hal:acc.toList.length=ss.length:=by rw [Array.length_toList,hacc.1,hkl]
 have each:∀ i v,acc.toList[i]?=some v->∃ x t,v=Value.str x t/\ss[i]?=some x:=fun i v hv=>by
   rw [Array.getElem?_toList] at hv
   obtain ⟨k,x,e1,e2⟩:=hacc.2 i v hv
   have e3:=hky i
   rw [e1] at e3
   cases e4:ss[i]? with
   | none=>rw [e4] at e3;cases e3
   | some y =>
     rw [e4] at e3
     have e5:k=Sum.inr y:=Option.some.inj e3
     subst e5
     obtain ⟨t,rfl⟩:=Value.isStrOf_shape (show Value.isStrOf y v=true from e2)
     exact ⟨y,t,rfl,e4⟩
 have hvs:acc.toList.map txV=ss:=by
   apply List.ext_getElem?
   intro i
   rw [List.getElem?_map]
   cases e:acc.toList[i]? with
   | some v =>
     obtain ⟨x,t,rfl,e2⟩:=each i v e
     rw [e2];rfl
   | none =>
     rw [List.getElem?_eq_none_iff] at e
     rw [List.getElem?_eq_none (by lia)];rfl
 generalize hvv:acc.toList=vs at *
 obtain ⟨e0,hL0⟩:=ma h1 vs
 have LK:h1.objs.size ≠ h1.objs.size+2:=by lia
 refine ⟨by lia,JK X pins σ H ss h1.objs.size e0,?_,?_⟩
 · exact ⟨H,I1.kept (t':=tk) fun b o e=>nc e,aQ.refl _,I1.fpOk (Nat.le_refl _) (I1.hok.fresh (Nat.le_refl _)),I1.fpOk (Nat.le_add_right _ 2) (I1.hok.fresh (Nat.le_add_right _ 2)),⟨0,lD h1 vs⟩,hL0,fun i u e=>by simp at e⟩
 · refine ⟨fun ks s' ⟨H1,_,_,_,_,e,_⟩=>e,fun ks s' ⟨H1,_,_,_,_,_,e,_⟩=>e.trans hL0.symm,?_,?_⟩
   · rintro ks x s' hx ⟨H1,I2,sm,fL,fK,⟨eK,hK⟩,hL,hks⟩
     obtain ⟨y,t,rfl,hy⟩:=each _ _ hx
     refine wpAny_mono (ye (A':=X.A.in1.in1) F (Room.in1 (Room.in1 hr)) rfl hb I2 (vs:=[.str y]) (.cons ⟨t,rfl⟩ .nil) (hsp y (List.mem_of_getElem? hy) H1 sm (fun v H2=>∃ b,v=.ref b/\aQ H1 H2/\H2 b=some (.tup ((kL y).map kV))) fun b H2 s2 h2=>⟨b,rfl,s2,h2⟩)) ?_ fun _ _ e=>e
     rintro u s2 ⟨v,H2,I3,ru,⟨b,rfl,sm2,hb2⟩,kp2⟩
     obtain rfl:=(show u=Value.ref b from ru)
     obtain ⟨kK,fK2⟩:=kp2 _ _ fK hK
     obtain ⟨kL',fL2⟩:=kp2 _ _ fL hL
     have hK3:∃ e,(s2.heap.update (h1.objs.size+2) (Obj.mapSeq fun xs=>xs.push (Value.ref b))).get? (h1.objs.size+2)=some (seqObj "list" (ks++[Value.ref b]).toArray e):=by
       have:=get?_update_seq kK fun xs=>xs.push (Value.ref b)
       rw [this,show ks.toArray.push (Value.ref b)=(ks++[Value.ref b]).toArray by simp]
       exact ⟨_,rfl⟩
     refine ⟨⟨eK,kK⟩,H2,I3.turned (it:=h1.objs.size+2) (t':=s2.toks) (fun c o hc e=>by rw [Heap.get?_update_ne _ _ _ _ hc];exact e) fK2.1 fK2.2.1 fK2.2.2.2.1 fK2.2.2.2.2.1 fK2.2.2.2.2.2,sm.trans sm2,fL2,fK2,hK3,?_,fun i u hu=>?_⟩
     · rw [Heap.get?_update_ne _ _ _ _ LK];exact kL'
     · by_cases hi:i < ks.length
       · rw [List.getElem?_append_left hi] at hu
         obtain ⟨c,x,e1,e2,e3⟩:=hks i u hu
         exact ⟨c,x,e1,e2,sm2 _ _ e3⟩
       · rw [List.getElem?_append_right (by lia)] at hu
         have hi0:i=ks.length:=by
           by_cases z:i - ks.length=0
           · lia
           · rw [List.getElem?_eq_none (by simp;lia)] at hu;cases hu
         subst hi0
         simp at hu
         exact ⟨b,y,hu.symm,hy,hb2⟩
   · rintro ks s' ⟨H1,I2,sm,fL,fK,⟨eK,hK⟩,hL,hks⟩ hln
     have kz:∀ z∈ks.zip vs,∃ b x t,z=(Value.ref b,Value.str x t)/\H1 b=some (.tup ((kL x).map kV)):=fun z hz=>by
       obtain ⟨i,hi,e⟩:=List.getElem_of_mem hz
       have e':(ks.zip vs)[i]?=some z:=by rw [List.getElem?_eq_getElem hi,e]
       obtain ⟨z1,z2⟩:=z
       rw [List.getElem?_zip_eq_some] at e'
       obtain ⟨b,x,rfl,e2,e3⟩:=hks i z1 e'.1
       obtain ⟨x2,t,rfl,e4⟩:=each i z2 e'.2
       rw [e2] at e4
       cases e4
       exact ⟨b,x,t,rfl,e3⟩
     have tk1:∀ {b:Addr} {x:Str},H1 b=some (.tup ((kL x).map kV))->fY s'.heap (.ref b) (kL x):=fun e=>vC I2.hok e
     refine ⟨tuples' true,GT s'.heap [true,false],rT s'.heap,wz fun v ks t=>t,fun z hz=>?_,fun two Q1 q1=>?_,fun out o1 o2=>⟨rfl,?_⟩⟩
     · obtain ⟨b,x,t,rfl,e⟩:=kz z hz
       exact ⟨_,tk1 e,rfl⟩
     · refine sR (k0:=true) (sh:=[false]) (by lia) (fun v hv=>?_) q1
       obtain ⟨i,hi,e⟩:=List.getElem_of_mem hv
       obtain ⟨b,x,rfl,_,e3⟩:=hks i v (by rw [List.getElem?_eq_getElem hi,e])
       exact ⟨_,tk1 e3,rfl⟩
     · have I3:=I2.turned (it:=h1.objs.size+2) (t':=s'.toks) (h':=s'.heap.update (h1.objs.size+2) (Obj.mapSeq fun _=>#[])) (fun c o hc e=>by rw [Heap.get?_update_ne _ _ _ _ hc];exact e) fK.1 fK.2.1 fK.2.2.2.1 fK.2.2.2.2.1 fK.2.2.2.2.2
       have hL2:(s'.heap.update (h1.objs.size+2) (Obj.mapSeq fun _=>#[])).get? h1.objs.size=some (seqObj "list" #[] e0):=by rw [Heap.get?_update_ne _ _ _ _ LK];exact hL
       have hL3:=get?_update_seq hL2 fun _=>(out.map (·.2)).toArray
       have ho:∀ z∈out,∃ b x t,z=(Value.ref b,Value.str x t)/\H1 b=some (.tup ((kL x).map kV)):=fun z hz=>kz z (o1.mem_iff.mp hz)
       have olen:out.length=ss.length:=by
         rw [o1.length_eq,List.length_zip]
         lia
       have vals:∀ {out:List Keyed},(∀ z∈out,∃ b x t,z=(Value.ref b,Value.str x t)/\H1 b=some (.tup ((kL x).map kV)))->aP ((out.map fun z=>txV z.2).map V.str) (out.map (·.2)):=by
         intro out
         induction out with
         | nil=>intro _;exact .nil
         | cons z out ih =>
           intro h
           obtain ⟨b,x,t,rfl,_⟩:=h z List.mem_cons_self
           exact .cons ⟨t,rfl⟩ (ih fun z hz=>h z (List.mem_cons_of_mem _ hz))
       refine ⟨.ref h1.objs.size,_,I3.adopt (o:=.lst ((out.map fun z=>txV z.2).map V.str)) (t':=s'.toks) fL (fun c o hc e=>by rw [Heap.get?_update_ne _ _ _ _ hc];exact e) ⟨_,hL3⟩ (show aW X.prog X.w _ _ _ (.lst _) from ⟨by rw [List.length_map,List.length_map,olen];lia,out.map (·.2),_,vals ho,hL3⟩),rfl,q _ H1 _ sm fL.1 ?_ ?_⟩
       · have:=o1.map fun z=>txV z.2
         have e2:(ks.zip vs).map (fun z=>txV z.2)=ss:=by
           rw [← hvs]
           have:(ks.zip vs).map (fun z=>txV z.2)=((ks.zip vs).map Prod.snd).map txV:=by rw [List.map_map];rfl
           rw [this,List.map_snd_zip (by lia)]
         rw [e2] at this
         exact this
       · rw [List.pairwise_map]
         refine List.Pairwise.imp_of_mem (fun {a b} ha hb h=>?_) o2
         obtain ⟨c,x,t,rfl,e⟩:=ho a ha
         obtain ⟨c2,x2,t2,rfl,e2⟩:=ho b hb
         unfold le at h
         rw [jE (tk1 e2) (tk1 e)] at h
         exact h
end
end L2
end
section
namespace VS
open PySem PySem.Spec PyProof.Rows L2 TS
noncomputable def lL (a b:Tx):Prop:=a.length < b.length\/a.length=b.length/\a < b
noncomputable def ltL (a b:Tx):Bool:=decide (a.length < b.length) || (decide (a.length=b.length) && ltx a b)
theorem pP (a b:Tx):ltL a b=true ↔ lL a b:=by
 unfold ltL lL
 rw [jQ]
 simp
theorem qr (a:Tx):¬ lL a a:=fun h=>by
 rcases h with h | ⟨_,h⟩
 · exact Nat.lt_irrefl _ h
 · exact List.lt_irrefl _ h
theorem ny {a b c:Tx} (h:lL a b) (h':lL b c):lL a c:=by
 rcases h with h | ⟨e,h⟩ <;> rcases h' with h' | ⟨e',h'⟩
 · exact .inl (by lia)
 · exact .inl (by lia)
 · exact .inl (by lia)
 · exact .inr ⟨by lia,List.lt_trans h h'⟩
theorem tj (a b:Tx):lL a b\/a=b\/lL b a:=by
 rcases Nat.lt_trichotomy a.length b.length with h | h | h
 · exact .inl (.inl h)
 · by_cases h1:a < b
   · exact .inl (.inr ⟨h,h1⟩)
   · by_cases h2:b < a
     · exact .inr (.inr (.inr ⟨h.symm,h2⟩))
     · exact .inr (.inl (List.le_antisymm (List.not_lt.mp h2) (List.not_lt.mp h1)))
 · exact .inr (.inr (.inl h))
noncomputable def oR (x:Tx):List Tx->List Tx
 | []=>[x]
 | y :: r=>if ltL y x then y :: oR x r else x :: y :: r
noncomputable def bS (l:List Tx):List Tx:=l.foldr oR []
theorem iO (x:Tx):∀ l:List Tx,(oR x l).Perm (x :: l)
 | []=>List.Perm.refl _
 | y :: r=>by
   unfold oR
   split
   · exact ((iO x r).cons y).trans (List.Perm.swap _ _ _)
   · exact List.Perm.refl _
theorem cX:∀ l:List Tx,(bS l).Perm l
 | []=>List.Perm.refl _
 | x :: l=>(iO x _).trans ((cX l).cons x)
theorem pS (x:Tx):∀ {l:List Tx},l.Pairwise (fun a b=>¬ lL b a)->(oR x l).Pairwise (fun a b=>¬ lL b a)
 | [],_=>by simp [oR]
 | y :: r,h=>by
   unfold oR
   obtain ⟨h1,h2⟩:=List.pairwise_cons.mp h
   split
   · rename_i c
     have c':=(pP y x).mp c
     refine List.pairwise_cons.mpr ⟨fun z hz=>?_,pS x h2⟩
     rcases List.mem_cons.mp ((iO x r).mem_iff.mp hz) with rfl | hz
     · exact fun w=>qr _ (ny c' w)
     · exact h1 z hz
   · rename_i c
     have c':¬ lL y x:=fun z=>c ((pP y x).mpr z)
     refine List.pairwise_cons.mpr ⟨fun z hz=>?_,h⟩
     rcases List.mem_cons.mp hz with rfl | hz
     · exact c'
     · intro w
       rcases tj y x with z1 | z1 | z1
       · exact c' z1
       · subst z1;exact h1 z hz w
       · exact h1 z hz (ny w z1)
theorem iI:∀ l:List Tx,(bS l).Pairwise (fun a b=>¬ lL b a)
 | []=>List.Pairwise.nil
 | x :: l=>pS x (iI l)
theorem hZ {l l':List Tx} (h:l'.Perm l) (hp:l'.Pairwise (fun a b=>¬ lL b a)):l'=bS l :=
 List.Perm.eq_of_pairwise (le:=fun a b=>¬ lL b a) (fun a b _ _ h1 h2=>(tj a b).elim (fun z=>absurd z h2) fun z=>z.elim id fun z=>absurd z h1) hp (iI l) (h.trans (cX l).symm)
theorem xp (a b:Str):dS (kL a) (kL b)=true ↔ lL a.cps.toList b.cps.toList:=by
 unfold kL lL
 rw [dS]
 by_cases h:((a.cps.toList.length:Int))=(b.cps.toList.length:Int)
 · rw [if_pos (by rw [h]),dS]
   have h':a.cps.toList.length=b.cps.toList.length:=by lia
   by_cases e:a=b
   · subst e
     simp [dS,List.lt_irrefl]
   · rw [if_neg (by simpa using e),ltK]
     simp [h']
 · rw [if_neg (fun z=>h (by injection z)),ltK,decide_eq_true_eq]
   constructor
   · intro h2
     exact .inl (by lia)
   · rintro (h2 | ⟨h2,_⟩)
     · lia
     · lia
noncomputable def i3:List Val->Option Val
 | [(_,.dct 0 l)]=>(strs? (l.map (·.1))).bind fun ss=>if ss.all txB then some (.fr,.lst ((bS ss).map .str)) else none
 | _=>none
section
variable {G:Gx} {X:Cx} {e:Expr} {cs:Exs} {p p2 kp pos:Pos} {k:Nat} {f:Addr} {fd:FuncData} {ps:List Str} {cg:Fn} {x:Str}
theorem q9 {ss:List Tx} {ys:List Str} (h:ys.Perm (ss.map sx)) (hp:ys.Pairwise (fun a b=>dS (kL b) (kL a)=false)):ys=(bS ss).map sx:=by
 have e:ys=(ys.map fun x=>x.cps.toList).map sx:=by
   rw [List.map_map]
   conv=>lhs;rw [← List.map_id ys]
   apply List.map_congr_left
   intro x hx
   obtain ⟨s,_,rfl⟩:=List.mem_map.mp (h.mem_iff.mp hx)
   show sx s=sx (sx s).cps.toList
   rw [tu]
 have e2:(ys.map fun x=>x.cps.toList)=bS ss:=by
   refine hZ ?_ ?_
   · have:=h.map fun x:Str=>x.cps.toList
     rw [List.map_map] at this
     have e3:((fun x:Str=>x.cps.toList) ∘ sx)=id:=by
       funext s
       exact tu s
     rw [e3,List.map_id] at this
     exact this
   · rw [List.pairwise_map]
     exact hp.imp fun {a b} h z=>by
       rw [(xp b a).mpr z] at h
       cases h
 rw [e,e2]
theorem wx (F:FnOk X.prog X.w X.K X.mg X.base CX0 k f fd ps (spF G cg)) (hcg:∀ t:Tx,gr t->cg [.str t]=some (.fr,.tup [.int t.length,.str t])) (hr:Room (k+2) X.A) (hgx:Gl X x) (hmx:X.mg x=some (.ref f)) (hb:Binds X.K fd ps [])
   (hm:X.mg "sorted" = none) (ha:PVs G X [e] cs) (hg:Gl X "sorted") (hc:X.calm=true) (hdx:(x == ("__debug__" : Str))=false)
   (he:backTo pos (starEach [e] X.env)=(false,eval e X.env) :: backTo pos (starEach [] X.env)) (hpl:(backTo pos (starEach [e] X.env)).any (·.1)=false) :
   PV G X (.Call (.Name "sorted" p) [e] [⟨some "key",.Name x p2,kp⟩] pos) (eN i3 cs):=by
 intro pins s σ H Q I h
 refine L2.eT fun P_ k_=>?_
 obtain ⟨Φ,η,m,t,sr,e0,kk⟩:=h
 unfold eN at e0
 obtain ⟨l,el,e0⟩:=Option.bind_eq_some_iff.mp e0
 refine k_ ?_
 refine wpAny_Call_Name_kw (iQ I hg hm qx ?_ (by decide) rfl)
 refine PyProof.Rows.callWith_kw (thn (ha pos pins s σ H (fun vs H1=>∃ Fs,Args G Φ η H H1 l vs Fs) I ⟨Φ,η,l,sr,el,fun vs H1 Fs q1 q2 q3=>⟨Fs,q1,q2,q3⟩⟩) fun us s1 ⟨vs,H1,I1,r1,Fs,A⟩=>?_) he hpl rfl rfl
 refine thn ((vt (nm:=some "key") (kpos:=kp) (xu (v:=.ref f) (pos:=p2) hgx hmx rfl hdx) zN) pos pins s1 σ H1 (fun zs H2=>zs=[.ref f]/\H2=H1) I1 ⟨rfl,rfl⟩) fun ws s2 ⟨zs,H2,I2,rz,ez,eH⟩=>?_
 subst ez eH
 obtain ⟨u,rfl,ru⟩:=rz.one
 obtain rfl:=(show u=Value.ref f from ru)
 refine (show wpAny (model X.prog X.w) X.A (call (.builtin "sorted") us [(("key" : Str),Value.ref f)]) (EP X pins σ Q) X.xe s2 from ?_)
 refine L2.eT fun P_ k_=>?_
 unfold i3 at e0
 split at e0
 · rename_i mx y hh
   obtain ⟨ss,e1,e2⟩:=Option.bind_eq_some_iff.mp e0
   split at e2
   · rename_i hbt
     cases e2
     obtain ⟨v,F',rfl,rfl,rx⟩:=(show RpL G H2 vs [.dct 0 y] Fs from A.rp).one
     obtain ⟨a,ks,ys,ts,Gs,rfl,rfl,hha,hl,rfl,ra⟩:=fT rx
     obtain ⟨u,rfl,ru⟩:=r1.one
     obtain rfl:=(show u=Value.ref a from ru)
     have hl2:ks.length=ts.length:=by rw [hl,ra.len.1]
     have e3:((ks.map aN).zip ts).map (·.1)=ks.map aN:=List.map_fst_zip (by rw [List.length_map];lia)
     rw [e3] at e1
     have e4:=keys_str e1
     have tok:∀ s∈ss,gr s:=fun s hs=>uX (List.all_eq_true.mp hbt s hs)
     refine k_ ?_
     refine ja (ss:=ss.map sx) (ws:=ys) (E:=E0) hc F hr hb I2 (by rw [← hl,e4];simp) (by rw [← e4];exact hha) (fun x hx H3 sm Q1 q1=>?_) fun l H3 zs sm hl3 pz pw=>?_
     · obtain ⟨s,hs,rfl⟩:=List.mem_map.mp hx
       refine ⟨[.str s],[[]],.fr,_,.cons (.str s (tok s hs)) .nil,hcg s (tok s hs),fun v H4 F4 sm4 r4 _=>?_⟩
       cases r4 with
       | tup h4 q4 =>
         cases q4 with
         | cons c1 q4 =>
           cases q4 with
           | cons c2 q4 =>
             cases q4
             cases c1
             cases c2
             refine q1 _ _ sm4 ?_
             rw [h4]
             simp [kL,kV,sx]
     · rw [q9 pz pw]
       have r0:RpL G (upd H3 l (.lst (((bS ss).map sx).map V.str))) ((bS ss).map fun s=>V.str (sx s)) ((bS ss).map T.str) ((bS ss).map fun _=>[]):=oN fun s hs=>tok s ((cX ss).mem_iff.mp hs)
       have r:Rp G (upd H3 l (.lst (((bS ss).map sx).map V.str))) (.ref l) (.lst ((bS ss).map T.str)) (l :: ((bS ss).map fun _=>[]).flatten):=.lst (by rw [aE,List.map_map];rfl) r0
       rw [mV] at r
       exact kk _ _ _ ((A.same.trans sm).trans (cQ hl3)) r (Fp.new ((A.same.trans sm).free hl3) (by simp) Fp.nil)
   · cases e2
 · cases e0
end
end VS
end
section
namespace L2
open PySem PySem.Spec PyProof.Rows
section
variable {X:Cx}
end
end L2
namespace VS
open PySem PySem.Spec PyProof.Rows L2
section
variable {G:Gx} {X:Cx} {e:Expr} {cs:Exs} {p p2 pos pos2:Pos}
end
end VS
end
section
namespace VS
open PySem PySem.Spec PyProof.Rows L2
section
variable {G:Gx} {X:Cx} {e b:Expr} {cs:Exs} {cb:Ex} {pos p p1 p2 kp apos cpos:Pos} {k k' kr:Nat} {x:Str} {ps:List Str} {g:Fn}
theorem rJ {gk:Fn} (F:FnAt X.prog X.w X.K X.mg X.base k x ps G gk) (hk:k+2<=k') (hcg:∀ t:Tx,gr t->gk [.str t]=some (.fr,.tup [.int t.length,.str t])) (hr:Room k' X.A) (hm:X.mg "sorted" = none) (ha:PVs G X [e] cs) (hgx:Gl X x) (hg:Gl X "sorted") (hc:X.calm=true) (hdx:(x == ("__debug__" : Str))=false)
   (he:backTo pos (starEach [e] X.env)=(false,eval e X.env) :: backTo pos (starEach [] X.env)) (hpl:(backTo pos (starEach [e] X.env)).any (·.1)=false) :
   PV G X (.Call (.Name "sorted" p) [e] [⟨some "key",.Name x p2,kp⟩] pos) (eN i3 cs):=by
 obtain ⟨f,fd,h1,h2,h3,h4⟩:=F.ex
 exact wx h1 hcg (hr.mono hk) hgx h2 h4 hm ha hg hc hdx he hpl
@[simp] noncomputable def Cw (i:Nat) (c:Ex) (as:Exs) (η:VS.Env):Option (Val×VS.Env):=match η[i]? with
 | some (some (.ow (.lst l)))=>(c η).bind fun kv=>(int? kv.2).bind fun n=>(ixP l.length n).bind fun j=>(l[j]?).bind fun x=>(as η).bind fun xs=>(bg x xs).map fun z=>(z.2,η.set i (some (.ow (.lst (l.set j z.1)))))
 | _=>none
end
end VS
end
section
namespace VS
open PySem PySem.Spec PyProof.Rows L2
section
variable {G:Gx} {X:Cx} {a b e:Expr} {ca ck ce:Ex} {pos pos' p1:Pos} {kr:Nat}
noncomputable def kN (i:Nat) (k e:Ex) (η:VS.Env):Option Out:=(e η).bind fun v=>match η[i]? with
 | some (some (.ow (.dct 0 l)))=>(k η).bind fun kv=>if gh kv.2/\imm v.2/\l.length < d5 then some (.nx (η.set i (some (.ow (.dct 0 (dput l kv.2 v.2)))))) else none
 | _=>none
theorem yA (i:Nat) {x:Str} (hr:Room kr X.A) (hk:PV G X b ck) (he:PV G X e ce) (hN:X.N[i]?=some x) (hv:Vis X.env.scope x) (hd:(x == ("__debug__" : Str))=false) (hcd:(x == ("__classdict__" : Str))=false)
   (ha:∀ v,assign (.Subscript (.Name x p1) b pos') X.env v=(do
     let ov ← holding [v] (eval (.Name x p1) X.env)
     let iv ← holding [v,ov] (eval b X.env)
     standAt pos'
     holding [v,ov,iv] (setItem ov iv v)
     release [v,ov,iv] [])) (hs:swapsWithSole [.Subscript (.Name x p1) b pos'] e pos.line X.env=pure false) (hw:swappedStores [.Subscript (.Name x p1) b pos'] e X.env=pure none)
   (h1:(assignEach [.Subscript (.Name x p1) b pos'] X.env).map (·.2)=[assign (.Subscript (.Name x p1) b pos') X.env]):PSV G X (.Assign [.Subscript (.Name x p1) b pos'] e pos) (kN i ck ce) :=
 PS.weak (zy he (zY (eG hN hv hd hcd) hk (Ab (sV hr)) ha) hs hw h1) fun D σ H ⟨Φ,η,out,s,e,k⟩=>by
   unfold kN at e
   obtain ⟨⟨mv,tv⟩,ev,e⟩:=Option.bind_eq_some_iff.mp e
   split at e
   · rename_i l ht
     obtain ⟨⟨mk,tk⟩,ekk,e⟩:=Option.bind_eq_some_iff.mp e
     split at e
     · rename_i hc
       obtain ⟨c1,c2,c3⟩:=hc
       cases e
       obtain ⟨w,g1,w2⟩:=s.rp _ _ ht
       have w3:=s.nd i _ ht
       refine ⟨Φ,η,mv,tv,s,ev,fun xv H1 Fv sm1 rv fv=>⟨w,g1,Φ,η,mk,tk,s.same sm1,ekk,fun kv H3 Fk sm3 rk fk=>?_⟩⟩
       have sm:aQ H H3:=sm1.trans sm3
       have rv3:Rp G H3 xv tv Fv:=rv.same sm3
       have eF:=rv3.imm c2
       subst eF
       obtain ⟨a,ns,vs,ts,Fs,rfl,eF1,ha',hl,rfl,ra⟩:=fT w2
       rw [eF1] at w3
       obtain ⟨kk,rfl,ekk'⟩:=fG rk c1
       subst ekk'
       have ha3:H3 a=some (.dK (ns.zip vs)):=sm a _ ha'
       have m3:Mut (H3 a):=by rw [ha3];exact True.intro
       have nd:=List.nodup_cons.mp w3
       obtain ⟨ks',vs',ts',Fs',q1,q2,q3,q4,q5⟩:=oQ (kk:=kk) rv3 hl (ra.same sm)
       have ln:(ns.zip vs).length < sizeLine:=by
         have:((ns.map aN).zip ts).length < 16777216:=c3
         rw [List.length_zip,List.length_map] at this
         rw [List.length_zip]
         have:=ra.len.1
         have:(sizeLine:Nat)=16777216:=rfl
         lia
       refine .inr ⟨a,_,rfl,oH.k ha3 ln,?_⟩
       have g:Chg G H (.ref a) (Φ i) (.dct 0 (dput ((ns.map aN).zip ts) (aN kk) tv)) (upd H3 a (.dK (putK (ns.zip vs) kk xv))) (a :: Fs'.flatten):=by
         rw [eF1,q1,q3]
         refine Chg.upd sm List.mem_cons_self m3 (.dct aE q2 (q4.off m3 fun z=>nd.1 (q5.subset z))) ?_ ?_
         · exact List.nodup_cons.mpr ⟨fun z=>nd.1 (q5.subset z),nd.2.sublist q5⟩
         · intro bb hb
           rcases List.mem_cons.mp hb with rfl | hb
           · exact .inl List.mem_cons_self
           · exact .inl (List.mem_cons_of_mem _ (q5.subset hb))
       obtain ⟨z1,z2⟩:=s.mut ht g1 g
       exact k _ σ _ z1 z2
     · cases e
   · cases e
end
end VS
end
section
namespace DP
open PySem PySem.Spec PyProof.Rows
variable {prog:Program} {w:World} {A:Around} {E:Value->Shared->Prop}
end DP
end
section
namespace DP
open PySem PySem.Spec PyProof.Rows L2
variable {prog:Program} {w:World} {A:Around} {E:Value->Shared->Prop}
section
variable {R:Result->Shared->Prop} {I:Addr} {fp wr:List Addr} {G:Array GenState->Array GenState->Prop} {n:Nat} {P:Nat->Value->Prop} {St:Nat->Shared->Prop}
end
end DP
end
section
namespace DP
open PySem PySem.Spec PyProof.Rows L2
variable {prog:Program} {w:World} {A:Around} {E:Value->Shared->Prop} {s:Shared}
end DP
end
section
namespace L2
open PySem PySem.Spec PyProof.Rows
section
variable {X:Cx}
end
end L2
end
section
namespace VS
open PySem PySem.Spec PyProof.Rows L2
section
variable {G:Gx} {X:Cx} {e:Expr} {cs:Exs} {p pos:Pos}
@[simp] noncomputable def Cz:List Val->Option Val
 | [(_,.int i)]=>some (.fr,.int i)
 | [(_,.bl b)]=>some (.fr,.int (if b then 1 else 0))
 | _=>none
end
end VS
end
section
namespace L2
open PySem PySem.Spec PyProof.Rows
section
variable {X:Cx} {pins:List (Addr×Obj)} {σ:St} {H:Hp} {s:Shared}
theorem Inv.unfrz {d:Addr} {o:Obj} {u:HO} (I:Inv X pins σ H s) (e:H d=some (.frz o u)) (nf:∀ o u,X.H₀ d ≠ some (.frz o u)):Inv X pins σ (upd H d u) s:=by
 have nn:∀ b,H b=none->b ≠ d:=fun b n z=>by rw [z,e] at n;cases n
 have up:∀ {b:Addr},H b=none->upd H d u b=none:=fun {b} n=>by rw [au (nn b n)];exact n
 have ho:∀ a b,H b=some (.own a)->upd H d u b=some (.own a):=fun a b q=>by rw [au fun z=>by rw [z,e] at q;cases q];exact q
 have ht:∀ b xs,H b=some (.tup xs)->upd H d u b=some (.tup xs):=fun b xs q=>by rw [au fun z=>by rw [z,e] at q;cases q];exact q
 refine ⟨I.ok,I.os,I.bare,⟨I.base.keep,I.base.slot,fun b o q n hx=>up (I.base.free b o q n hx),I.base.there,fun b xs q=>ht b xs (I.base.tups b xs q),fun b o' u' q=>?_,fun b ps q=>?_⟩,I.loc,I.cell,up I.free,fun x c q=>up (I.freeC x c q),fun p hp=>?_,fun b ob q=>?_,I.len⟩
 · rw [au (show b ≠ d from fun z=>nf o' u' (by rw [← z];exact q))]
   exact I.base.frzs b o' u' q
 · obtain ⟨m,q2⟩:=I.base.tbls b ps q
   refine ⟨m,?_⟩
   rw [au fun z=>by rw [z,e] at q2;cases q2]
   exact q2
 · obtain ⟨h1,h2,h3⟩:=I.pin p hp
   exact ⟨h1,up h2,h3⟩
 · by_cases hb:b=d
   · subst hb
     rw [aE] at q
     cases q
     exact aW.stay (h':=s.heap) (show aW X.prog X.w H s.heap b u from (I.hok b _ e).2) (fun _ _ _ g=>g) (fun c=>ho b c) ht
   · rw [au hb] at q
     exact aW.stay (h':=s.heap) (I.hok b _ q) (fun _ _ _ g=>g) (fun c=>ho b c) ht
theorem lB {d:Addr} {kvs:List (Key×V)} {o:Obj} (I:Inv X pins σ H s) (e:H d=some (.dK kvs)) (g:s.heap.get? d=some o):Inv X pins σ (upd H d (.frz o (.dK kvs))) s :=
 fD (t':=s.toks) I (by rw [e];exact True.intro) ⟨rfl,fun _ _=>rfl⟩ ⟨o,g⟩ ⟨g,I.hok d _ e⟩
end
noncomputable def Itk (d:Addr) (o:Obj) (kvs:List (Key×V)):It :=
 ⟨fun i H=>H d=some (.frz o (.dK kvs))/\i < kvs.length,fun i H x H'=>H'=H/\∃ p,kvs[i]?=some p/\x=kV p.1,fun i H=>H d=some (.frz o (.dK kvs))/\kvs.length<=i⟩
theorem wk {k:Key} {v:Value} (h:i8 k v=true):RelV (kV k) v:=by
 rcases bB h with ⟨i,t,rfl,rfl⟩ | ⟨x,t,rfl,rfl⟩
 · exact ⟨t,rfl⟩
 · exact ⟨t,rfl⟩
theorem ku {P:Program} {w:World} {es:List DictEntry} {m:List (Key×Value)} (r:Pairs (bx P w) es m) {i:Nat} {e:DictEntry} (h:es[i]?=some e):∃ q,m[i]?=some q/\i8 q.1 e.key=true:=by
 induction r generalizing i with
 | nil=>simp at h
 | @cons e' kv es kvs h1 h2 _ ih =>
   cases i with
   | zero =>
     simp at h
     subst h
     exact ⟨kv,rfl,h1⟩
   | succ i=>simpa using ih (by simpa using h)
theorem zu {l:List (Key×V)} {m:List (Key×Value)} (r:KV l m) {i:Nat} {q:Key×Value} (h:m[i]?=some q):∃ p,l[i]?=some p/\p.1=q.1:=by
 induction r generalizing i with
 | nil=>simp at h
 | @cons p' q' ps qs hq t ih =>
   cases i with
   | zero=>simp at h;subst h;exact ⟨p',rfl,hq.1⟩
   | succ i=>simpa using ih (by simpa using h)
section
variable {X:Cx} {tg:Expr} {pos:Pos}
theorem yy {P:Program} {w:World} {K:PySem.W.Frag} (d it:Addr) {kvs:List (Key×V)} {es:Array DictEntry} {ep:Nat} {xs:List (Key×Value)} (rel:KV kvs xs) (he:Pairs (bx P w) es.toList xs) :
   Turn P w K tg (Itk d (ST.dO es ep) kvs) [it] it (fun i h=>h.get? it=some (ST.kO d i es.size ep)) where
 mem:=by simp
 obj:=fun i h st b hb=>by
   rw [List.mem_singleton.mp hb]
   exact ⟨_,st,fun v z=>by cases z⟩
 keep:=fun i h h' st k=>k it (by simp) _ st
 item:=by
   intro X hP hw hK hc i pins s σ H E I hf st hg
   subst hP hw hK
   obtain ⟨f0,f1,f2,f3,f4,f5⟩:=hf it (by simp)
   refine ST.ij (I.ok.hd hc) st (show s.heap.get? d=some (ST.dO es ep) from (I.hok d _ hg.1).1) (fun e hi h' sb g=>?_) fun hn=>?_
   · have I1:Inv X pins σ H { s with heap:=h' }:=I.turned (t':=s.toks) (fun b o hb e=>(sb.2 b hb).trans e) f0 f1 f3 f4 f5
     rw [← Array.getElem?_toList] at hi
     obtain ⟨q,hq,hk⟩:=ku he hi
     obtain ⟨p,hp,hb⟩:=zu rel hq
     exact ⟨_,rfl,kI (s:={ s with heap:=h' }) g rfl rfl rfl ⟨kV p.1,H,I1,by rw [hb];exact wk hk,⟨rfl,p,hp,rfl⟩,g,fun b hb=>(hf b hb).1⟩⟩
   · exfalso
     rw [← Array.getElem?_toList,List.getElem?_eq_none_iff,he.length,← Paired.length rel] at hn
     exact absurd hg.2 (by lia)
 done:=by
   intro X hP hw hK hc i pins s σ H E I hf st hg
   subst hP hw hK
   obtain ⟨f0,f1,f2,f3,f4,f5⟩:=hf it (by simp)
   refine ST.ij (I.ok.hd hc) st (show s.heap.get? d=some (ST.dO es ep) from (I.hok d _ hg.1).1) (fun e hi h' sb g=>?_) fun hn h' kp=>⟨rfl,I.turned (t':=s.toks) (fun b o hb e=>kp b o hb e) f0 f1 f3 f4 f5⟩
   exfalso
   rw [← Array.getElem?_toList] at hi
   obtain ⟨q,hq,hk⟩:=ku he hi
   have:=(List.getElem?_eq_some_iff.mp hq).1
   have h2:=hg.2
   rw [Paired.length rel] at h2
   lia
 self:=fun _ _ _ _ _ st hQ=>wpAny_pyIter_slot ⟨_,st,rfl⟩ F.slot_dict_keyiterator_iter (wpAny_call_entry F.slot_dict_keyiterator_iter ⟨_,st,rfl⟩ F.entry_dict_keyiterator_iter (show wpAny _ _ (ret (.ref it)) _ _ _ from wpAny_pure ⟨_,rfl, "dict_keyiterator",_,⟨_,st,rfl⟩,F.slot_dict_keyiterator_next.lookup,hQ⟩) (F.args_dict_keyiterator_iter_1 _))
noncomputable def iDk (tl:TE):TI:=fun σ H R=>tl σ H fun x H1=>∃ d kvs,x=.ref d/\H1 d=some (.dK kvs)/\∀ o,R (Itk d o kvs) (upd H1 d (.frz o (.dK kvs)))
theorem Bv {l:Expr} {tl:TE} (hl:PE X l tl):PI X tg l (iDk tl):=by
 intro pins s σ H R I h
 refine thn (hl pins s σ H _ I h) fun v s1 ⟨x,H1,I1,r1,q1⟩=>?_
 obtain ⟨d,kvs,ex,e,q⟩:=q1
 subst ex
 cases r1
 obtain ⟨z,y,xs,rel,o,es,ep,g,ex,hd,_,he,hn⟩:=nP I1.hok e
 have eo:=mR ex hd
 subst eo
 refine ST.mD y g ?_
 refine ⟨s1.heap.objs.size,[s1.heap.objs.size],_,_,_,rfl,(lB I1 e g).kept (t':=s1.toks) fun b o e=>Heap.get?_push_of_some _ e,yy d _ rel he,Heap.get?_push_size _ rfl,fun b hb=>?_,q _⟩
 have eb:b=s1.heap.objs.size:=by simpa using hb
 subst eb
 exact (lB I1 e g).fpOk (Nat.le_refl _) ((lB I1 e g).hok.fresh (Nat.le_refl _))
end
end L2
namespace VS
open PySem PySem.Spec PyProof.Rows L2
noncomputable def sca:T->Bool
 | .non=>true
 | .bl _=>true
 | .int _=>true
 | .str _=>true
 | _=>false
theorem u6 {G:Gx} {H H':Hp} {v:V} {t:T} {F:List Addr} (h:sca t=true) (r:Rp G H v t F):F=[]/\Rp G H' v t []:=by
 cases r with
 | non=>exact ⟨rfl,.non⟩
 | bl b=>exact ⟨rfl,.bl b⟩
 | int i=>exact ⟨rfl,.int i⟩
 | str s ok=>exact ⟨rfl,.str s ok⟩
 | _=>cases h
noncomputable def gu (ce:Ex) (n:Nat):List T->Option (List T)
 | []=>some []
 | .str k :: l=>if txB k then (ce (some (.pu (.str k)) :: List.replicate n none)).bind fun v=>if sca v.2 then (gu ce n l).map (v.2 :: ·) else none else none
 | _ :: _=>none
noncomputable def n8 (j:Nat) (ce:Ex):Ex:=fun η=>match η[j]? with
 | some (some (.pu (.dct 0 l)))=>(gu ce η.length (l.map (·.1))).bind fun vs=>if decide (vs.length<=d5) then some (.fr,.lst vs) else none
 | some (some (.ow (.dct 0 l)))=>(gu ce η.length (l.map (·.1))).bind fun vs=>if decide (vs.length<=d5) then some (.fr,.lst vs) else none
 | _=>none
theorem qL {j:Nat} {ce:Ex} {η:VS.Env} {m:Md} {t:T} (h:n8 j ce η=some (m,t)):∃ c l vs,η[j]?=some (some c)/\iq c=.dct 0 l/\gu ce η.length (l.map (·.1))=some vs/\vs.length<=d5/\m=.fr/\t=.lst vs:=by
 unfold n8 at h
 split at h
 · rename_i l hl
   obtain ⟨vs,e1,e2⟩:=Option.bind_eq_some_iff.mp h
   split at e2
   · rename_i hz
     cases e2
     exact ⟨_,l,vs,hl,rfl,e1,of_decide_eq_true hz,rfl,rfl⟩
   · cases e2
 · rename_i l hl
   obtain ⟨vs,e1,e2⟩:=Option.bind_eq_some_iff.mp h
   split at e2
   · rename_i hz
     cases e2
     exact ⟨_,l,vs,hl,rfl,e1,of_decide_eq_true hz,rfl,rfl⟩
   · cases e2
 · cases h
theorem kB {ce:Ex} {n:Nat}:∀ {l:List T} {vs:List T},gu ce n l=some vs->vs.length=l.length
 | [],vs,h=>by cases h;rfl
 | t :: l,vs,h=>by
   cases t with
   | str k =>
     unfold gu at h
     split at h
     · obtain ⟨v,_,e2⟩:=Option.bind_eq_some_iff.mp h
       split at e2
       · obtain ⟨r,e3,rfl⟩:=Option.map_eq_some_iff.mp e2
         rw [List.length_cons,List.length_cons,kB e3]
       · cases e2
     · cases h
   | _=>cases h
theorem nU {ce:Ex} {n:Nat}:∀ {l:List T} {vs:List T} {i:Nat} {t:T},gu ce n l=some vs->l[i]?=some t->∃ k m v,t=.str k/\gr k/\ce (some (.pu (.str k)) :: List.replicate n none)=some (m,v)/\sca v=true/\vs[i]?=some v
 | [],vs,i,t,h,q=>by simp at q
 | t' :: l,vs,i,t,h,q=>by
   cases t' with
   | str k =>
     unfold gu at h
     split at h
     · rename_i hk
       obtain ⟨v,e1,e2⟩:=Option.bind_eq_some_iff.mp h
       split at e2
       · rename_i hv
         obtain ⟨r,e3,rfl⟩:=Option.map_eq_some_iff.mp e2
         cases i with
         | zero =>
           simp at q
           subst q
           exact ⟨k,v.1,v.2,rfl,uX hk,e1,hv,rfl⟩
         | succ i=>simpa using nU e3 (by simpa using q)
       · cases e2
     · cases h
   | _=>cases h
section
variable {G:Gx} {X:Cx} {p1 p2 pos pos' spos:Pos} {sc:Scope} {elt:Expr} {ce:Ex}
theorem yE (i j:Nat) (N:List Str) {x y z:Str} (hcalm:X.calm=true) (hjN:X.N[j]?=some z) (hv:Vis X.env.scope z) (hd:(z == ("__debug__" : Str))=false) (hcd:(z == ("__classdict__" : Str))=false)
   (hg:∀ cl C s H fp,PG (aT X N sc cl C s H fp) (.Name y p1) (jP 0)) (he:∀ cl C s H fp,PV G (aT X N sc cl C s H fp) elt ce) (hN:X.N.Nodup) (hiN:X.N[i]?=some x) (hx:Loc X.env.scope x)
   (hsc:iK X.env sc=true) (hnm:gp sc (N.drop 1) X.N=true) (hNl:1<=N.length) (hsw:swapsWith (.ListComp elt [⟨.Name y p1,.Name z p2,[],0⟩] sc pos) (some (.Name x pos')) spos.line X.env=pure true)
   (hf:X.fn x=true\/X.env.scope.names.lookup x=some .local) (hs:∀ v,foldedSetIterable (.Name z p2) X.env v=pure v) :
   PSV G X (.Assign [.Name x pos'] (.ListComp elt [⟨.Name y p1,.Name z p2,[],0⟩] sc pos) spos) (aK i (n8 j ce)):=by
 intro pins s σ H D I h
 obtain ⟨Φ,η,m,r,sr,e,k⟩:=vo h
 obtain ⟨c,l,vs,hc,hl,hks,hlen,rfl,rfl⟩:=qL e
 obtain ⟨v,g1,g2⟩:=sr.rp _ _ hc
 rw [hl] at g2
 obtain ⟨d,ns,us,ts,Fs,rfl,eΦ,hdk,hln,el,ra⟩:=fT g2
 have ek:l.map (·.1)=ns.map aN:=by
   rw [el]
   exact List.map_fst_zip (by rw [List.length_map,hln,ra.len.1];exact Nat.le_refl _)
 rw [ek] at hks
 have ezl:(ns.zip us).length=ns.length:=by rw [List.length_zip,hln,Nat.min_self]
 have mu:Mut (H d):=by rw [hdk];exact True.intro
 have nf:∀ o u,X.H₀ d ≠ some (.frz o u):=fun o u q=>by
   have:=I.base.frzs d o u q
   rw [hdk] at this
   cases this
 have key:=oK (k:=1) (g:=jP 0) (tc:=fun σ H Q=>Q true H) (te:=tE G ce) hN hiN hx hcalm (Bv (eG hjN hv hd hcd)) hsc hnm hNl (fun cl C s H fp=>⟨hg cl C s H fp,jq,he cl C s H fp⟩) hsw hf hs pins s σ H
   { D with nx:=fun σ' H'=>(∃ o,H' d=some (.frz o (.dK (ns.zip us))))/\D.nx σ' (upd H' d (.dK (ns.zip us))) } I ?_
 · refine wpAny_mono key (fun f s' hq=>?_) fun _ _ e=>e
   cases f with
   | next =>
     obtain ⟨σ',H',I',⟨o,h1⟩,h2⟩:=hq
     exact ⟨σ',_,I'.unfrz h1 nf,h2⟩
   | brk=>exact hq
   | cont=>exact hq
   | ret u=>exact hq
 · refine ⟨.ref d,g1,d,ns.zip us,rfl,hdk,fun o Dn hD=>?_⟩
   have aD:Dn ≠ d:=fun z=>by rw [z,aE] at hD;cases hD
   have HD:H Dn=none:=by rw [au aD] at hD;exact hD
   refine ⟨fun q m σ' H'=>m+q=ns.length/\(∃ c,σ'=c :: σ)/\(∀ b ob,b ≠ d->H b=some ob->H' b=some ob)/\H' d=some (.frz o (.dK (ns.zip us)))/\∃ xs,H' Dn=some (.lst xs)/\∀ H0,RpL G H0 xs (vs.take q) (List.replicate q []),⟨ns.length,rfl,⟨none,rfl⟩,fun b ob hb q=>?_,?_,[],aE,fun _=>.nil⟩,?_⟩
   · rw [au (show b ≠ Dn from fun z=>by rw [z,HD] at q;cases q),au hb]
     exact q
   · rw [au (Ne.symm aD),aE]
   · rintro q m σ' H' ⟨hm,⟨c',rfl⟩,old,hfz,xs,hxs,rp⟩
     have vl:vs.length=ns.length:=by rw [kB hks,List.length_map]
     by_cases hq:q < ns.length
     · refine .inr ⟨⟨hfz,by rw [ezl];exact hq⟩,?_⟩
       rintro x' H2 ⟨rfl,pr,hpr,rfl⟩
       have hk:ns[q]?=some pr.1:=by
         have:=congrArg (Option.map Prod.fst) hpr
         rw [← List.getElem?_map,List.map_fst_zip (Nat.le_of_eq hln)] at this
         exact this
       have hkT:(ns.map aN)[q]?=some (aN pr.1):=by rw [List.getElem?_map,hk];rfl
       obtain ⟨kx,mv,tv,ekx,okx,ece,hi,hvs⟩:=nU hks hkT
       have ev:kV pr.1=.str (sx kx):=by
         cases hp1:pr.1 with
         | inl i=>rw [hp1] at ekx;cases ekx
         | inr w=>rw [hp1] at ekx;cases ekx;rfl
       refine ⟨fun _=>[],some (.pu (.str kx)) :: List.replicate η.length none,mv,tv,⟨by simp [sr.len],fun a c hc=>?_,fun a t ha=>?_,fun a b t c ha=>?_⟩,ece,fun w H5 Fw e5 rw5 fw5=>?_⟩
       · cases a with
         | zero =>
           cases hc
           exact ⟨_,rfl,by rw [ev];exact .str kx okx⟩
         | succ a =>
           rw [List.getElem?_cons_succ,List.getElem?_replicate] at hc
           split at hc <;> cases hc
       · exact List.nodup_nil
       · intro _ _ b hb
         exact nomatch hb
       · refine ⟨xs,e5 _ _ hxs,?_,m - 1,by lia,by lia,⟨_,rfl⟩,fun b ob hb h=>?_,?_,xs++[w],aE,?_⟩
         · have:=(rp H).len.1
           rw [List.length_take] at this
           have:sizeLine=d5:=rfl
           lia
         · rw [au fun z=>by rw [z,HD] at h;cases h]
           exact e5 _ _ (old b ob hb h)
         · rw [au (Ne.symm aD)]
           exact e5 _ _ hfz
         · intro H0
           rw [List.take_add_one,hvs,List.replicate_succ']
           exact RpL.append (rp H0) (.cons (u6 hi rw5).2 .nil)
     · refine .inl ⟨⟨hfz,by rw [ezl];lia⟩,⟨o,hfz⟩,?_⟩
       have et:vs.take q=vs:=List.take_of_length_le (by lia)
       rw [et] at rp
       have fl:(List.replicate q ([]:List Addr)).flatten=[]:=by simp
       refine k (.ref Dn) _ (Dn :: (List.replicate q ([]:List Addr)).flatten) (fun b ob h=>?_) (.lst (by rw [au aD];exact hxs) (rp _)) ⟨?_,fun b hb=>?_⟩
       · by_cases hb:b=d
         · subst hb
           rw [aE,← h,hdk]
         · rw [au hb]
           exact old b ob hb h
       · rw [fl];exact List.nodup_cons.mpr ⟨(fun z=>nomatch z),List.nodup_nil⟩
       · rw [fl] at hb
         rw [List.mem_singleton.mp hb]
         exact HD
end
end VS
end
section
namespace VS
open PySem PySem.Spec PyProof.Rows L2
section
variable {G:Gx} {X:Cx} {a b c:Expr} {ca cb cc:Ex} {pos:Pos}
noncomputable def oM:Val->Val->Option Val
 | (_,.int i),(_,.int j)=>if 0<=j/\j<=1000000/\i.natAbs < 18446744073709551616 then some (.fr,.int (i ^ j.toNat)) else none
 | _,_=>none
theorem xX:eP G (rI AK fun i j=>.int (i ^ j.toNat)) oM:=by
 intro Φ η H0 H x y u w F1 F2 m t Q tw e k
 obtain ⟨m1,x⟩:=x
 obtain ⟨m2,y⟩:=y
 obtain ⟨same,r1,r2,f1,f2,nd⟩:=tw
 unfold oM at e
 split at e
 · rename_i e1 e2
   cases e1
   cases e2
   split at e
   · rename_i h
     cases e
     exact ⟨_,_,r1.int_inv,r2.int_inv,h,bj k (.int _)⟩
   · cases e
 · cases e
theorem w_pow (ha:PV G X a ca) (hb:PV G X b cb):PV G X (.BinOp a .Pow b pos) (e2 oM ca cb):=ju yo xX ha hb
theorem jO (ha:PV G X a ca) (hb:PV G X b cb) (hc:PV G X c cc) (hm:lastMarks [.LtE,.LtE] [b,c]=false):PVT G X (.Compare a [.LtE,.LtE] [b,c] pos) (fQ oLe oLe ca cb cc) :=
 PT.weak (uc uq uq ha hb hc hm) fun σ H Q h=>nL h (fun η m r e=>by
   unfold fQ at e
   obtain ⟨x,ea,e⟩:=Option.bind_eq_some_iff.mp e
   obtain ⟨y,eb,e⟩:=Option.bind_eq_some_iff.mp e
   obtain ⟨⟨mz,z⟩,ez,e⟩:=Option.bind_eq_some_iff.mp e
   cases z with
   | bl q =>
     cases q with
     | false=>cases e;exact ⟨_,rfl⟩
     | true =>
       obtain ⟨z2,ec,e⟩:=Option.bind_eq_some_iff.mp (show (cc η).bind (fun z=>oLe y z)=some (m,r) from e)
       exact mY y z2 m r e
   | _=>cases e) fun Q h=>uM xE xE h
end
end VS
end
section
namespace L2
open PySem PySem.Spec PyProof.Rows
noncomputable def pick {α:Type} (l:List α) (is:List Nat):List α:=is.filterMap (l[·]?)
noncomputable def Cn {α:Type} (l:List α) (lo hi st:Option Int):List α:=pick l (sliceRange (sliceBounds lo hi st l.length).1 (sliceBounds lo hi st l.length).2.1 (sliceBounds lo hi st l.length).2.2)
section
variable {X:Cx} {e st:Expr} {lo hi:Option Expr} {te:TE} {tl th ts:TO} {pos p2:Pos}
end
end L2
namespace VS
open PySem PySem.Spec PyProof.Rows L2
section
variable {G:Gx} {X:Cx} {a:Expr} {ca:Ex} {pos:Pos}
noncomputable def sl3 (x:Val) (l h c:Option Int):Option Val:=match x with
 | (_,.lst ts)=>if ts.all sca/\c ≠ some 0 then some (.fr,.lst (Cn ts l h c)) else none
 | _=>none
end
end VS
end
section
namespace L2
open PySem PySem.Spec PyProof.Rows
section
variable {X:Cx}
end
end L2
namespace VS
open PySem PySem.Spec PyProof.Rows L2
section
variable {G:Gx} {X:Cx} {e:Expr} {cs:Exs} {p pos:Pos}
end
end VS
end
section
namespace ST
open PySem PySem.Spec PyProof.Rows
variable {prog:Program} {w:World} {A:Around} {E:Value->Shared->Prop} {s:Shared}
end ST
namespace L2
open PySem PySem.Spec PyProof.Rows TS
section
variable {X:Cx}
end
end L2
namespace VS
open PySem PySem.Spec PyProof.Rows L2
section
variable {G:Gx} {X:Cx} {e:Expr} {cs:Exs} {pos p p2 pos':Pos}
end
end VS
end
section
namespace VS
open PySem PySem.Spec PyProof.Rows L2
structure Q (p:Prop):Prop where h:p
section
variable {G:Gx} {X:Cx} {a b c e tg iter elt:Expr} {es rest:List Expr} {ca cb cc ce:Ex} {cs:Exs} {pos pos' spos p p1 p2 apos cpos tpos:Pos} {k k' n i:Nat} {x:Str} {st:Stmt} {sts:List Stmt} {c1 c2:Sx} {sc:Scope} {N:List Str} {ci:Its} {g:Tg} {elts:List Expr} {ps:List Str}
theorem ae {i j pos}:Q (PV G X (.Constant (.int i) j pos) (eC (.int i))):=⟨yh⟩
theorem pJ {i j pos}:Q (PV G X (.Constant (.bool i) j pos) (eC (.bl i))):=⟨AW⟩
theorem rP {j pos}:Q (PV G X (.Constant .none j pos) (eC .non)):=⟨zC⟩
theorem gG {x:Str} {t:Tx} {j pos} (h:x=sx t) (hl:gr t):Q (PV G X (.Constant (.str x) j pos) (eC (.str t))):=⟨zM h hl⟩
theorem ab (i:Nat) {x:Str} {pos:Pos} (hN:X.N[i]?=some x) (hv:Vis X.env.scope x) (hd:(x == ("__debug__" : Str))=false) (hcd:(x == ("__classdict__" : Str))=false):Q (PV G X (.Name x pos) (ah i)):=⟨zA i hN hv hd hcd⟩
theorem ag  : Q (PVs G X [] aA):=⟨wc⟩
theorem aa (ha:Q (PV G X e ca)) (hr:Q (PVs G X es cs)) (hs:starEach (e :: es) X.env=(false,eval e X.env) :: starEach es X.env):Q (PVs G X (e :: es) (af ca cs)):=⟨rK ha.h hr.h hs⟩
theorem dk (h:Q (PVs G X es cs)):Q (PV G X (.List es pos) (gw cs)):=⟨zB h.h⟩
theorem iE {x1} (h:Q (PVs G X es cs)):Q (PV G X (.Tuple es x1 pos) (mW cs)):=⟨zk h.h⟩
theorem kU (h:Q (PV G X a ca)) (hK:X.K=G.K) (he:∀ whole,isTrue a X.env whole=(do let v ← whole;standAt a.pos;holding [v] (truthy v))):Q (PVT G X a ca):=⟨xh h.h hK he⟩
theorem iN (h:Q (PVW G X e ca)):Q (PVT G X e ca):=⟨PVW.pvt h.h⟩
theorem hV (ha:Q (PVT G X a ca)):Q (PVW G X (.BoolOp .And [a] pos) ca):=⟨rO ha.h⟩
theorem gL (ha:Q (PVT G X a ca)) (hb:Q (PVW G X (.BoolOp .And (b :: rest) pos) cb)):Q (PVW G X (.BoolOp .And (a :: b :: rest) pos) (gU ca cb)):=⟨vG ha.h hb.h⟩
theorem kA (ha:Q (PVT G X a ca)):Q (PVT G X (.UnaryOp .Not a pos) (j3 ca)):=⟨vS ha.h⟩
theorem rS (ha:Q (PV G X a ca)):Q (PV G X (.UnaryOp .Not a pos) (j3 ca)):=⟨yM ha.h⟩
theorem mB {op} (h:Q (PV G X a ca)):Q (PV G X (.BoolOp op [a] pos) ca):=⟨zT h.h⟩
theorem jG (ha:Q (PV G X a ca)) (hb:Q (PV G X (.BoolOp .And (b :: rest) pos) cb)):Q (PV G X (.BoolOp .And (a :: b :: rest) pos) (gU ca cb)):=⟨zl ha.h hb.h⟩
theorem eI  : Q (PVO G X none none):=⟨ua⟩
theorem bU (h:Q (PV G X a ca)):Q (PVO G X (some a) (some ca)):=⟨tM h.h⟩
theorem cY {lo hi:Option Expr} {cl ch:Option Ex} {p2:Pos} (ha:Q (PV G X a ca)) (hl:Q (PVO G X lo cl)) (hh:Q (PVO G X hi ch)) (hK:X.K=G.K):Q (PV G X (.Subscript a (.Slice lo hi none p2) pos) (eSl ca cl ch)):=⟨sk ha.h hl.h hh.h hK⟩
theorem cj  : Q (eO G X [] gc):=⟨vZ⟩
theorem aj (h1:Q (PSV G X st c1)) (h2:Q (eO G X sts c2)):Q (eO G X (st :: sts) (av c1 c2)):=⟨u0 h1.h h2.h⟩
theorem ar (h1:Q (PSV G X st c1)):Q (eO G X [st] c1):=⟨vx h1.h⟩
theorem cz {t:Expr} {ct:Ex} {a b:List Stmt} (hc:Q (PVT G X t ct)) (ha:Q (eO G X a c1)) (hb:Q (eO G X b c2)):Q (PSV G X (.If t a b pos) (sIf ct c1 c2)):=⟨yj hc.h ha.h hb.h⟩
theorem aY (he:Q (PV G X e ce)):Q (PSV G X (.Return (some e) pos) (cW ce)):=⟨vK he.h⟩
theorem fR (i:Nat) {x:Str} {p:Pos} (hN:X.N[i]?=some x) (hv:Vis X.env.scope x) (hd:(x == ("__debug__" : Str))=false) (hcd:(x == ("__classdict__" : Str))=false):Q (PSV G X (.Return (some (.Name x p)) pos) (jz i)):=⟨tJ i hN hv hd hcd⟩
theorem dC {i:Nat} {x:Str} {pos':Pos} (he:Q (PV G X e ce)) (hN:X.N.Nodup) (hi:X.N[i]?=some x) (hx:Loc X.env.scope x) (hs:swapsWith e (some (.Name x pos')) pos.line X.env=pure false) (hf:X.fn x=true\/X.env.scope.names.lookup x=some .local):Q (PSV G X (.Assign [.Name x pos'] e pos) (j9 i ce)):=⟨wU he.h hN hi hx hs hf⟩
theorem ak {i:Nat} {x:Str} {pos':Pos} (he:Q (PV G X e ce)) (hN:X.N.Nodup) (hi:X.N[i]?=some x) (hx:Loc X.env.scope x) (hs:swapsWith e (some (.Name x pos')) pos.line X.env=pure false) (hf:X.fn x=true\/X.env.scope.names.lookup x=some .local):Q (PSV G X (.Assign [.Name x pos'] e pos) (aK i ce)):=⟨ug he.h hN hi hx hs hf⟩
theorem km {c:Sx} (i:Nat) (h:Q (eO G X sts c)):Q (eO G X sts (av (p7 i) c)):=⟨vb i h.h⟩
theorem bK (ha:Q (PV G X a ca)) (hg:Gl X "range") (hm:X.mg "range" = none) (hs:starEach [a] X.env=(false,eval a X.env) :: starEach [] X.env) (hs':starEach [a] X.env=[(false,eval a X.env)]):Q (PVI G X tg (.Call (.Name "range" p) [a] [] pos) (bJ ca)):=⟨ox ha.h hg hm hs hs'⟩
theorem aO (i:Nat) {x:Str} (hN:X.N.Nodup) (hi:X.N[i]?=some x) (hx:Loc X.env.scope x) (hf:X.fn x=true\/X.env.scope.names.lookup x=some .local):Q (PVG G X (.Name x pos) (bw i)):=⟨u4 i hN hi hx hf⟩
theorem j1  : Q (nC G X [] []):=⟨rM⟩
theorem eR {g:Tg} {gs:List Tg} (h1:Q (PVG G X e g)) (h2:Q (nC G X es gs)) (hs:(assignEach (e :: es) X.env).map (·.2)=assign e X.env :: (assignEach es X.env).map (·.2)):Q (nC G X (e :: es) (g :: gs)):=⟨qC h1.h h2.h hs⟩
theorem kY {gs:List Tg} {k:Nat} (hc:X.calm=true) (h:Q (nC G X es gs)) (hn:(assignEach es X.env).length=gs.length) (hst:(assignEach es X.env).findIdx? (·.1)=none) (hK:X.K=G.K):Q (PVG G X (.Tuple es k pos) (jC gs)):=⟨xk hc h.h hn hst hK⟩
theorem bC {iter:Expr} {body:List Stmt} {ci:Its} {g:Tg} {cb:Sx} (hp:PassesOwn (model X.prog X.w) X.A X.env X.xe) (hc:X.calm=true) (hi:Q (PVI G X tg iter ci)) (hg:Q (PVG G X tg g)) (hb:Q (eO G X body cb)) (hs:∀ x,foldedSetIterable iter X.env x=pure x):Q (PSV G X (.For tg iter body [] pos) (dW g ci cb)):=⟨vB hp hc hi.h hg.h hb.h hs⟩
theorem kn (k:Nat) (N:List Str) (hcalm:X.calm=true) (hi:Q (PVI G X tg iter ci)) (hin:qo k g) (hg:∀ cl C s H fp,Q (PVG G (aT X N sc cl C s H fp) tg g)) (he:∀ cl C s H fp,Q (PV G (aT X N sc cl C s H fp) elt ce)) (hsc:iK X.env sc=true) (hnm:gp sc (N.drop k) X.N=true) (hNl:k<=N.length) (hs:∀ x,foldedSetIterable iter X.env x=pure x):Q (PV G X (.ListComp elt [⟨tg,iter,[],0⟩] sc pos) (de k g ci none ce)):=⟨xy k N hcalm hi.h hin (fun cl C s H fp=>(hg cl C s H fp).h) (fun cl C s H fp=>(he cl C s H fp).h) hsc hnm hNl hs⟩
theorem i6 (k:Nat) (N:List Str) (hcalm:X.calm=true) (hi:Q (PVI G X tg iter ci)) (hin:qo k g) (hg:∀ cl C s H fp,Q (PVG G (aT X N sc cl C s H fp) tg g)) (hc:∀ cl C s H fp,Q (PVT G (aT X N sc cl C s H fp) c cc)) (he:∀ cl C s H fp,Q (PV G (aT X N sc cl C s H fp) elt ce)) (hsc:iK X.env sc=true) (hnm:gp sc (N.drop k) X.N=true) (hNl:k<=N.length) (hs:∀ x,foldedSetIterable iter X.env x=pure x):Q (PV G X (.ListComp elt [⟨tg,iter,[c],0⟩] sc pos) (de k g ci (some cc) ce)):=⟨qZ k N hcalm hi.h hin (fun cl C s H fp=>(hg cl C s H fp).h) (fun cl C s H fp=>(hc cl C s H fp).h) (fun cl C s H fp=>(he cl C s H fp).h) hsc hnm hNl hs⟩
theorem jr (ha:Q (PV G X a ca)) (hg:Gl X "enumerate") (hm:X.mg "enumerate" = none) (hs:starEach [a] X.env=(false,eval a X.env) :: starEach [] X.env) (hs':starEach [a] X.env=[(false,eval a X.env)]):Q (PVI G X (.Tuple elts n tpos) (.Call (.Name "enumerate" p) [a] [] pos) (kJ ca)):=⟨sQ ha.h hg hm hs hs'⟩
theorem aV (ha:Q (PV G X a ca)) (hb:Q (PV G X b cb)):Q (PV G X (.BinOp a .Add b pos) (e2 bt ca cb)):=⟨w_add ha.h hb.h⟩
theorem gP (ha:Q (PV G X a ca)) (hb:Q (PV G X b cb)):Q (PV G X (.BinOp a .Sub b pos) (e2 iV ca cb)):=⟨w_sub ha.h hb.h⟩
theorem dm (ha:Q (PV G X a ca)) (hb:Q (PV G X b cb)):Q (PV G X (.BinOp a .Mult b pos) (e2 dY ca cb)):=⟨w_mul ha.h hb.h⟩
theorem dA (ha:Q (PV G X a ca)) (hb:Q (PV G X b cb)):Q (PV G X (.BinOp a .FloorDiv b pos) (e2 dU ca cb)):=⟨xZ ha.h hb.h⟩
theorem aU (ha:Q (PV G X a ca)) (hb:Q (PV G X b cb)):Q (PV G X (.BinOp a .Mod b pos) (e2 oMod ca cb)):=⟨w_mod ha.h hb.h⟩
theorem v7 (ha:Q (PV G X a ca)) (hb:Q (PV G X b cb)):Q (PVT G X (.Compare a [.Lt] [b] pos) (e2 oLt ca cb)):=⟨An ha.h hb.h⟩
theorem tK (hr:Room k X.A) (ha:Q (PV G X a ca)) (hb:Q (PV G X b cb)):Q (PV G X (.Compare a [.Eq] [b] pos) (e2 oEq ca cb)):=⟨w_eq hr ha.h hb.h⟩
theorem iC (hr:Room k X.A) (ha:Q (PV G X a ca)) (hb:Q (PV G X b cb)):Q (PVT G X (.Compare a [.Eq] [b] pos) (e2 oEq ca cb)):=⟨Bf hr ha.h hb.h⟩
theorem xi (hr:Room k X.A) (ha:Q (PV G X a ca)) (hb:Q (PV G X b cb)):Q (PVT G X (.Compare a [.NotEq] [b] pos) (e2 oNe ca cb)):=⟨AN hr ha.h hb.h⟩
theorem ba (ha:Q (PV G X a ca)) (hb:Q (PV G X b cb)) (hs:fF b) (hK:X.K=G.K):Q (PV G X (.Subscript a b pos) (e2 aS ca cb)):=⟨AI ha.h hb.h hs hK⟩
theorem cw (hm:X.mg "len" = none) (ha:Q (PVs G X [e] cs)) (hg:Gl X "len") (hK:X.K=G.K) (he:starEach [e] X.env=(false,eval e X.env) :: starEach [] X.env):Q (PV G X (.Call (.Name "len" p) [e] [] pos) (eN dR cs)):=⟨Au hm ha.h hg hK he⟩
theorem nV (hm:X.mg "min" = none) (ha:Q (PVs G X [a,b] cs)) (hc:X.calm=true) (hg:Gl X "min") (he:starEach [a,b] X.env=(false,eval a X.env) :: starEach [b] X.env) (hpl:(backTo pos (starEach [b] X.env)).any (·.1)=false):Q (PV G X (.Call (.Name "min" p) [a,b] [] pos) (eN lh cs)):=⟨yi hm ha.h hc hg he hpl⟩
theorem sS (t:Ty) (hm:X.mg "isinstance" = none) (hm2:X.mg (tyN t)=none) (ha:Q (PV G X a ca)) (hg:Gl X "isinstance") (hg2:Gl X (tyN t)) (hK:X.K=G.K) (hs:starEach [a,.Name (tyN t) p2] X.env=(false,eval a X.env) :: starEach [.Name (tyN t) p2] X.env):Q (PV G X (.Call (.Name "isinstance" p1) [a,.Name (tyN t) p2] [] pos) (eIs t ca)):=⟨w_is t hm hm2 ha.h hg hg2 hK hs⟩
theorem eu (i:Nat) {x:Str} (ha:Q (PVs G X [e] cs)) (hK:X.K=G.K) (hN:X.N[i]?=some x) (hv:Vis X.env.scope x) (hd:(x == ("__debug__" : Str))=false) (hcd:(x == ("__classdict__" : Str))=false) (hfew:((backTo cpos (starEach [e] X.env)).all (fun x=>!x.1) && (backToKw cpos (keywordEach [] X.env)).all (fun x=>x.1.isSome)
     && decide ([e].length+([]:List Keyword).length+(if ([]:List Keyword).isEmpty then 0 else 1) < 30))=true) (hline:(apos.endLine == cpos.line)=true) (hs:starEach [e] X.env=(false,eval e X.env) :: starEach [] X.env):Q (PSV G X (.Expr (.Call (.Attribute (.Name x p1) "append" apos) [e] [] cpos) pos) (sX (j7 i [] bg cs))):=⟨uC i ha.h hK hN hv hd hcd hfew hline hs⟩
theorem aI {g:Fn} (F:FnAt X.prog X.w X.K X.mg X.base k x ps G g) (hr:Room k' X.A) (ha:Q (PVs G X (e :: es) cs)) (hk:k<=k') (hg:Gl X x) (hdb:(x == ("__debug__" : Str))=false) (he:starEach (e :: es) X.env=(false,eval e X.env) :: starEach es X.env) (hpl:(backTo pos (starEach es X.env)).any (·.1)=false):Q (PV G X (.Call (.Name x p) (e :: es) [] pos) (aJ g cs)):=⟨xV F hr ha.h hk hg hdb he hpl⟩
theorem dD (ha:Q (PV G X a ca)) (hK:X.K=G.K):Q (PVI G X tg a (fq ca)):=⟨va ha.h hK⟩
theorem vk (hm:X.mg "sum" = none) (ha:Q (PVs G X [e] cs)) (hg:Gl X "sum") (hK:X.K=G.K) (hc:X.calm=true) (he:starEach [e] X.env=(false,eval e X.env) :: starEach [] X.env):Q (PV G X (.Call (.Name "sum" p) [e] [] pos) (eN q0 cs)):=⟨w_sum hm ha.h hg hK hc he⟩
theorem kH (hm:X.mg "tuple" = none) (ha:Q (PVs G X [e] cs)) (hg:Gl X "tuple") (hK:X.K=G.K) (he:starEach [e] X.env=(false,eval e X.env) :: starEach [] X.env):Q (PV G X (.Call (.Name "tuple" p) [e] [] pos) (eN eW cs)):=⟨xA hm ha.h hg hK he⟩
theorem jc (ha:Q (PV G X a ca)) (hb:Q (PV G X b cb)):Q (PVT G X (.Compare a [.Gt] [b] pos) (e2 oGt ca cb)):=⟨Bj ha.h hb.h⟩
theorem pX (ha:Q (PV G X a ca)) (hb:Q (PV G X b cb)):Q (PVT G X (.Compare a [.GtE] [b] pos) (e2 oGe ca cb)):=⟨AV ha.h hb.h⟩
theorem uO (ha:Q (PV G X a ca)) (hb:Q (PV G X b cb)):Q (PV G X (.BinOp a .Mult b pos) (e2 jl ca cb)):=⟨zW ha.h hb.h⟩
theorem tN  : Q (PV G X (.Dict [] [] pos) (i9 0 [])):=⟨zj⟩
theorem oA (hr:Room k X.A) (ha:Q (PV G X a ca)) (hb:Q (PV G X b cb)) (hs:fF b) (hK:X.K=G.K):Q (PV G X (.Subscript a b pos) (e2 oIx ca cb)):=⟨Cf hr ha.h hb.h hs hK⟩
theorem wZ (hr:Room k X.A) (ha:Q (PV G X a ca)) (hb:Q (PV G X b cb)) (hm:behindInMarks .In b=false) (hK:X.K=G.K):Q (PVT G X (.Compare a [.In] [b] pos) (e2 ly ca cb)):=⟨AA hr ha.h hb.h hm hK⟩
theorem rA (hm:X.mg "list" = none) (ha:Q (PVs G X [e] cs)) (hg:Gl X "list") (hK:X.K=G.K) (hc:X.calm=true) (he:starEach [e] X.env=(false,eval e X.env) :: starEach [] X.env):Q (PV G X (.Call (.Name "list" p) [e] [] pos) (eN iM cs)):=⟨xg hm ha.h hg hK hc he⟩
theorem sf (hm:X.mg "max" = none) (ha:Q (PVs G X [e] cs)) (hc:X.calm=true) (hg:Gl X "max") (hK:X.K=G.K) (he:starEach [e] X.env=(false,eval e X.env) :: starEach [] X.env):Q (PV G X (.Call (.Name "max" p) [e] [] pos) (eN jj cs)):=⟨yU hm ha.h hc hg hK he⟩
theorem vV {G:Gx} {X:Cx} {i:Int} {j:Nat} {pos p:Pos}:Q (PV G X (.UnaryOp .USub (.Constant (.int i) j p) pos) (eC (.int (-i)))):=⟨Ag⟩
theorem oT (J:yg G) (i:Nat) {x:Str} (hk:Q (PV G X b ck)) (hv:Q (PVs G X [e] cs)) (hK:X.K=G.K) (hN:X.N[i]?=some x) (hvis:Vis X.env.scope x) (hd:(x == ("__debug__" : Str))=false) (hcd:(x == ("__classdict__" : Str))=false) (hb1:attributeBase (.Name x p1) "setdefault" X.env (eval (.Name x p1) X.env)=eval (.Name x p1) X.env) (hf1:((backTo cp1 (starEach [b,.List [] lp] X.env)).all (fun x=>!x.1) && (backToKw cp1 (keywordEach [] X.env)).all (fun x=>x.1.isSome)
     && decide ([b,Expr.List [] lp].length+([]:List Keyword).length+(if ([]:List Keyword).isEmpty then 0 else 1) < 30))=true) (hl1:(ap1.endLine == cp1.line)=true) (hs1:starEach [b,.List [] lp] X.env=(false,eval b X.env) :: starEach [.List [] lp] X.env) (hs1':starEach [.List [] lp] X.env=(false,eval (.List [] lp) X.env) :: starEach [] X.env) (hp1:(backTo cp1 (starEach [.List [] lp] X.env)).any (·.1)=false) (hb2:attributeBase (.Call (.Attribute (.Name x p1) "setdefault" ap1) [b,.List [] lp] [] cp1) "append" X.env (eval (.Call (.Attribute (.Name x p1) "setdefault" ap1) [b,.List [] lp] [] cp1) X.env)=eval (.Call (.Attribute (.Name x p1) "setdefault" ap1) [b,.List [] lp] [] cp1) X.env) (hf2:((backTo cpos (starEach [e] X.env)).all (fun x=>!x.1) && (backToKw cpos (keywordEach [] X.env)).all (fun x=>x.1.isSome)
     && decide ([e].length+([]:List Keyword).length+(if ([]:List Keyword).isEmpty then 0 else 1) < 30))=true) (hl2:(apos.endLine == cpos.line)=true) (hs2:starEach [e] X.env=(false,eval e X.env) :: starEach [] X.env) (hp2:(backTo cpos (starEach [] X.env)).any (·.1)=false) (hsw:swapsWith (.Call (.Attribute (.Call (.Attribute (.Name x p1) "setdefault" ap1) [b,.List [] lp] [] cp1) "append" apos) [e] [] cpos) none pos.line X.env=pure false):Q (PSV G X (.Expr (.Call (.Attribute (.Call (.Attribute (.Name x p1) "setdefault" ap1) [b,.List [] lp] [] cp1) "append" apos) [e] [] cpos) pos) (gN i ck cs)):=⟨uy J i hk.h hv.h hK hN hvis hd hcd hb1 hf1 hl1 hs1 hs1' hp1 hb2 hf2 hl2 hs2 hp2 hsw⟩
theorem nO (i:Nat) {x:Str} (hr:Room kr X.A) (hk:Q (PV G X b ck)) (hv:Q (PVs G X [e] cs)) (hK:X.K=G.K) (hN:X.N[i]?=some x) (hvis:Vis X.env.scope x) (hd:(x == ("__debug__" : Str))=false) (hcd:(x == ("__classdict__" : Str))=false) (hb1:attributeBase (.Name x p1) "setdefault" X.env (eval (.Name x p1) X.env)=eval (.Name x p1) X.env) (hf1:((backTo cp1 (starEach [b,.List [] lp] X.env)).all (fun x=>!x.1) && (backToKw cp1 (keywordEach [] X.env)).all (fun x=>x.1.isSome)
     && decide ([b,Expr.List [] lp].length+([]:List Keyword).length+(if ([]:List Keyword).isEmpty then 0 else 1) < 30))=true) (hl1:(ap1.endLine == cp1.line)=true) (hs1:starEach [b,.List [] lp] X.env=(false,eval b X.env) :: starEach [.List [] lp] X.env) (hs1':starEach [.List [] lp] X.env=(false,eval (.List [] lp) X.env) :: starEach [] X.env) (hp1:(backTo cp1 (starEach [.List [] lp] X.env)).any (·.1)=false) (hb2:attributeBase (.Call (.Attribute (.Name x p1) "setdefault" ap1) [b,.List [] lp] [] cp1) "append" X.env (eval (.Call (.Attribute (.Name x p1) "setdefault" ap1) [b,.List [] lp] [] cp1) X.env)=eval (.Call (.Attribute (.Name x p1) "setdefault" ap1) [b,.List [] lp] [] cp1) X.env) (hf2:((backTo cpos (starEach [e] X.env)).all (fun x=>!x.1) && (backToKw cpos (keywordEach [] X.env)).all (fun x=>x.1.isSome)
     && decide ([e].length+([]:List Keyword).length+(if ([]:List Keyword).isEmpty then 0 else 1) < 30))=true) (hl2:(apos.endLine == cpos.line)=true) (hs2:starEach [e] X.env=(false,eval e X.env) :: starEach [] X.env) (hp2:(backTo cpos (starEach [] X.env)).any (·.1)=false) (hsw:swapsWith (.Call (.Attribute (.Call (.Attribute (.Name x p1) "setdefault" ap1) [b,.List [] lp] [] cp1) "append" apos) [e] [] cpos) none pos.line X.env=pure false):Q (PSV G X (.Expr (.Call (.Attribute (.Call (.Attribute (.Name x p1) "setdefault" ap1) [b,.List [] lp] [] cp1) "append" apos) [e] [] cpos) pos) (fA i ck cs)):=⟨p9 i hr hk.h hv.h hK hN hvis hd hcd hb1 hf1 hl1 hs1 hs1' hp1 hb2 hf2 hl2 hs2 hp2 hsw⟩
theorem qd  : Q (PV G X (.Dict [] [] pos) (i9 2 [])):=⟨wO⟩
theorem nJ (i:Nat) (N:List Str) {x y:Str} (hr:Room kr X.A) (hcalm:X.calm=true) (hN:X.N[i]?=some x) (hv:Vis X.env.scope x) (hd:(x == ("__debug__" : Str))=false) (hcd:(x == ("__classdict__" : Str))=false) (hin:∀ cl C s H fp,PG (aT X N sc cl C s H fp) (.Name y p3) (jP 0)/\PE (aT X N sc cl C s H fp) (.Name x p1) (rB (i+1))/\PE (aT X N sc cl C s H fp) (.Name y p2) (rB 0)/\(aT X N sc cl C s H fp).A.units=X.A.units) (hix:fF (.Name y p2)) (hsc:iK X.env sc=true) (hnm:gp sc (N.drop 1) X.N=true) (hNl:1<=N.length) (hs:∀ z,foldedSetIterable (.Name x p4) X.env z=pure z):Q (PSV G X (.Return (some (.ListComp (.Subscript (.Name x p1) (.Name y p2) p) [⟨.Name y p3,.Name x p4,[],0⟩] sc pos)) spos) (gI i)):=⟨qU i N hr hcalm hN hv hd hcd hin hix hsc hnm hNl hs⟩
theorem qS {x:Str} {t:Tx} {j:Nat} {q q':Pos} (h:x=sx t) (hl:gr t):Q (PV G X (.Dict [some (.Constant (.str x) j q)] [.List [] q'] pos) (i9 0 [(eC (.str t),gw aA)])):=⟨wI h hl⟩
theorem nt {gk:Fn} (F:FnAt X.prog X.w X.K X.mg X.base k x ps G gk) (hk:k+2<=k') (hcg:∀ t:Tx,gr t->gk [.str t]=some (.fr,.tup [.int t.length,.str t])) (hr:Room k' X.A) (hm:X.mg "sorted" = none) (ha:Q (PVs G X [e] cs)) (hgx:Gl X x) (hg:Gl X "sorted") (hc:X.calm=true) (hdx:(x == ("__debug__" : Str))=false) (he:backTo pos (starEach [e] X.env)=(false,eval e X.env) :: backTo pos (starEach [] X.env)) (hpl:(backTo pos (starEach [e] X.env)).any (·.1)=false):Q (PV G X (.Call (.Name "sorted" p) [e] [⟨some "key",.Name x p2,kp⟩] pos) (eN i3 cs)):=⟨rJ F hk hcg hr hm ha.h hgx hg hc hdx he hpl⟩
theorem sE (i:Nat) {x:Str} (hr:Room kr X.A) (hk:Q (PV G X b ck)) (he:Q (PV G X e ce)) (hN:X.N[i]?=some x) (hv:Vis X.env.scope x) (hd:(x == ("__debug__" : Str))=false) (hcd:(x == ("__classdict__" : Str))=false) (ha:∀ v,assign (.Subscript (.Name x p1) b pos') X.env v=(do
     let ov ← holding [v] (eval (.Name x p1) X.env)
     let iv ← holding [v,ov] (eval b X.env)
     standAt pos'
     holding [v,ov,iv] (setItem ov iv v)
     release [v,ov,iv] [])) (hs:swapsWithSole [.Subscript (.Name x p1) b pos'] e pos.line X.env=pure false) (hw:swappedStores [.Subscript (.Name x p1) b pos'] e X.env=pure none) (h1:(assignEach [.Subscript (.Name x p1) b pos'] X.env).map (·.2)=[assign (.Subscript (.Name x p1) b pos') X.env]):Q (PSV G X (.Assign [.Subscript (.Name x p1) b pos'] e pos) (kN i ck ce)):=⟨yA i hr hk.h he.h hN hv hd hcd ha hs hw h1⟩
theorem t4 (i j:Nat) (N:List Str) {x y z:Str} (hcalm:X.calm=true) (hjN:X.N[j]?=some z) (hv:Vis X.env.scope z) (hd:(z == ("__debug__" : Str))=false) (hcd:(z == ("__classdict__" : Str))=false) (hg:∀ cl C s H fp,PG (aT X N sc cl C s H fp) (.Name y p1) (jP 0)) (he:∀ cl C s H fp,Q (PV G (aT X N sc cl C s H fp) elt ce)) (hN:X.N.Nodup) (hiN:X.N[i]?=some x) (hx:Loc X.env.scope x) (hsc:iK X.env sc=true) (hnm:gp sc (N.drop 1) X.N=true) (hNl:1<=N.length) (hsw:swapsWith (.ListComp elt [⟨.Name y p1,.Name z p2,[],0⟩] sc pos) (some (.Name x pos')) spos.line X.env=pure true) (hf:X.fn x=true\/X.env.scope.names.lookup x=some .local) (hs:∀ v,foldedSetIterable (.Name z p2) X.env v=pure v):Q (PSV G X (.Assign [.Name x pos'] (.ListComp elt [⟨.Name y p1,.Name z p2,[],0⟩] sc pos) spos) (aK i (n8 j ce))):=⟨yE i j N hcalm hjN hv hd hcd hg (fun cl C s H fp=>(he cl C s H fp).h) hN hiN hx hsc hnm hNl hsw hf hs⟩
theorem vi (ha:Q (PV G X a ca)) (hb:Q (PV G X b cb)):Q (PV G X (.BinOp a .Pow b pos) (e2 oM ca cb)):=⟨w_pow ha.h hb.h⟩
theorem iZ (ha:Q (PV G X a ca)) (hb:Q (PV G X b cb)) (hc:Q (PV G X c cc)) (hm:lastMarks [.LtE,.LtE] [b,c]=false):Q (PVT G X (.Compare a [.LtE,.LtE] [b,c] pos) (fQ oLe oLe ca cb cc)):=⟨jO ha.h hb.h hc.h hm⟩
end
section
variable {G:Gx} {P:Program} {w:World} {K:PySem.W.Frag} {mg:Str->Option Value} {base:Heap}
theorem eD {x:Str} {st:Stmt} {f:Addr} {fd:FuncData} {N ps:List Str} {k np nn:Nat} {c:Sx} (F:Fun K x x st f fd) (hm:mg x=some (.ref f)) (S:FnScope N ps (ao st)) (hp:ps.length=np) (hn:N.length=nn)
   (hbd:∀ (kV doc pm:Value) (an:Option Addr) (cdv ct:Value) (us:List Value),us.length=ps.length->bindArgs (PySem.W.fnOf x x (aX st) (aR st) (ao st) .none kV doc pm an cdv ct) ⟨us,[]⟩=pure (ps.zip us))
   (hb:∀ (cdv:Value) (A:Around) (outer:List PySem.Env) (s:Shared) (H:Hp) (E:XK),Room k (A.deeper (envOfC x (ao st) s.heap.objs.size f cdv))->Q (eO G (kc CX0 P w K mg base N x (ao st) f cdv A outer s H E).nox (aR st) c)) :
   FnAt P w K mg base (k+1) x ps G (fn np nn c):=AX F hm S hp hn hbd fun cdv A outer s H E hr=>(hb cdv A outer s H E hr).h
theorem B3 {x qual:Str} {st:Stmt} {f:Addr} {fd:FuncData} {N ps:List Str} {k np nn:Nat} {c:Sx} (F:Fun K x qual st f fd) (S:FnScope N ps (ao st)) (hp:ps.length=np) (hn:N.length=nn)
   (hb:∀ (cdv:Value) (A:Around) (outer:List PySem.Env) (s:Shared) (H:Hp) (E:XK),Room k (A.deeper (envOfC qual (ao st) s.heap.objs.size f cdv))->Q (eO G (kc CX0 P w K mg base N qual (ao st) f cdv A outer s H E).nox (aR st) c)) :
   FnOk P w K mg base CX0 (k+1) f fd ps (spF G (fn np nn c)):=fnV F S hp hn fun cdv A outer s H E hr=>(hb cdv A outer s H E hr).h
end
end VS
end
section
namespace T25
open VS
noncomputable def fj:Fn:=fn 1 1
   (cW (eN q0 (af (de 1 (bw 0) (fq (eSl (ah 0) (some (eC (.int 1))) none)) none (e2 bt (e2 iV (e2 aS (ah 0) (eC (.int 1))) (e2 aS (ah 0) (eC (.int 0)))) (eC (.int 1)))) aA)))
noncomputable def cn:Fn:=fn 2 2
   (cW (eN dR (af (de 1 (bw 0) (fq (ah 0)) (some (fQ oLe oLe (e2 aS (ah 0) (eC (.int 0))) (ah 2) (e2 aS (ah 0) (eC (.int 1))))) (ah 0)) aA)))
noncomputable def bE:Fn:=fn 2 2
   (av (sIf (e2 oLt (ah 1) (eN dR (af (ah 0) aA))) (cW (e2 aS (ah 0) (ah 1))) gc)
   (cW (eC (.int 0))))
noncomputable def aw:Fn:=fn 2 4
   (av (aK 2 (eC (.int 7)))
   (av (sIf (e2 oGt (eN dR (af (ah 0) aA)) (eC (.int 0))) (aK 2 (e2 aS (ah 0) (e2 oMod (ah 1) (eN dR (af (ah 0) aA))))) gc)
   (av (aK 3 (e2 oMod (e2 dY (e2 bt (e2 bt (e2 oMod (ah 2) (eC (.int 2147483629))) (e2 dY (eC (.int 40503)) (ah 1))) (eC (.int 1))) (eC (.int 48271))) (eC (.int 2147483647))))
   (av (aK 3 (e2 oMod (e2 dY (ah 3) (ah 3)) (eC (.int 2147483629))))
   (av (aK 3 (e2 oMod (e2 dY (e2 bt (ah 3) (ah 1)) (eC (.int 69621))) (eC (.int 2147483587))))
   (cW (e2 dU (e2 oMod (e2 dY (ah 3) (ah 3)) (eC (.int 2147483563))) (eC (.int 3)))))))))
noncomputable def bz:Fn:=fn 1 3
   (av (aK 1 (e2 oMod (ah 0) (eC (.int 26))))
   (av (aK 2 (e2 aS (gw (af (eC (.int 1)) (af (eC (.int 3)) (af (eC (.int 5)) (af (eC (.int 7)) (af (eC (.int 9)) aA)))))) (e2 oMod (e2 dU (ah 0) (eC (.int 26))) (eC (.int 5)))))
   (cW (de 1 (bw 0) (bJ (eC (.int 26))) none (e2 aS (eC (.str [97,98,99,100,101,102,103,104,105,106,107,108,109,110,111,112,113,114,115,116,117,118,119,120,121,122])) (e2 oMod (e2 bt (ah 2) (e2 dY (ah 3) (ah 0))) (eC (.int 26))))))))
noncomputable def bV:Sx :=
   (av (aK 8 (e2 bt (ah 8) (e2 aS (ah 1) (e2 oMod (ah 0) (ah 2)))))
   (aK 0 (e2 dU (ah 0) (ah 2))))
noncomputable def bW:Sx :=
   (av (aK 7 (eN lh (af (ah 4) (af (e2 oMod (ah 0) (eC (.int 25))) aA))))
   (av (aK 0 (e2 dU (ah 0) (eC (.int 25))))
   (av (aK 4 (e2 iV (ah 4) (ah 7)))
   (av (aK 8 (eC (.str [])))
   (av (dW (bw 9) (bJ (ah 7)) bV)
   (sX (j7 5 [] bg (af (ah 8) aA))))))))
noncomputable def br:Fn:=fn 1 10
   (av (aK 1 (aJ bz (af (ah 0) aA)))
   (av (aK 2 (e2 aS (gw (af (eC (.int 1)) (af (eC (.int 2)) (af (eC (.int 3)) (af (eC (.int 4)) (af (eC (.int 2)) (af (eC (.int 3)) (af (eC (.int 4)) (af (eC (.int 26)) aA))))))))) (e2 oMod (e2 dU (ah 0) (eC (.int 130))) (eC (.int 8)))))
   (av (aK 3 (e2 oMod (e2 dU (ah 0) (eC (.int 1040))) (eC (.int 5))))
   (av (aK 0 (e2 dU (ah 0) (eC (.int 5200))))
   (av (aK 4 (eC (.int 24)))
   (av (j9 5 (gw aA))
   (av (dW (bw 6) (bJ (ah 3)) bW)
   (jz 5))))))))
noncomputable def bF:Sx :=
   (av (aK 11 (aJ aw (af (ah 0) (af (e2 bt (e2 bt (e2 dY (eC (.int 20)) (ah 6)) (eC (.int 6))) (ah 10)) aA))))
   (sIf (gU (e2 oGe (eN dR (af (ah 9) aA)) (ah 8)) (e2 oGt (e2 oMod (ah 11) (eC (.int 4))) (eC (.int 0)))) (aK 9 (e2 bt (ah 9) (e2 aS (ah 9) (e2 iV (eN dR (af (ah 9) aA)) (ah 8))))) (aK 9 (e2 bt (ah 9) (e2 aS (ah 2) (e2 oMod (e2 dU (ah 11) (eC (.int 4))) (ah 3)))))))
noncomputable def bY:Sx :=
   (av (aK 7 (eN lh (af (ah 4) (af (e2 oMod (aJ aw (af (ah 0) (af (e2 bt (e2 dY (eC (.int 20)) (ah 6)) (eC (.int 4))) aA))) (e2 bt (ah 1) (eC (.int 1)))) aA))))
   (av (aK 4 (e2 iV (ah 4) (ah 7)))
   (av (aK 8 (e2 bt (eC (.int 1)) (e2 oMod (aJ aw (af (ah 0) (af (e2 bt (e2 dY (eC (.int 20)) (ah 6)) (eC (.int 5))) aA))) (eC (.int 5)))))
   (av (aK 9 (eC (.str [])))
   (av (dW (bw 10) (bJ (ah 7)) bF)
   (av (sX (j7 5 [] bg (af (ah 9) aA)))
   (sIf (gU (e2 oGt (ah 7) (eC (.int 2))) (gU (e2 oEq (e2 oMod (aJ aw (af (ah 0) (af (e2 bt (e2 dY (eC (.int 20)) (ah 6)) (eC (.int 5))) aA))) (eC (.int 3))) (eC (.int 0))) (e2 oGe (ah 4) (eC (.int 2))))) (av (sX (j7 5 [] bg (af (eSl (ah 9) (some (eC (.int 1))) (some (eC (.int 3)))) aA)))
   (aK 4 (e2 iV (ah 4) (eC (.int 2))))) gc)))))))
noncomputable def b7:Fn:=fn 2 12
   (av (aK 2 (aJ bz (af (aJ aw (af (ah 0) (af (eC (.int 1)) aA))) aA)))
   (av (aK 3 (e2 aS (gw (af (eC (.int 1)) (af (eC (.int 2)) (af (eC (.int 3)) (af (eC (.int 4)) (af (eC (.int 2)) (af (eC (.int 3)) (af (eC (.int 9)) (af (eC (.int 26)) aA))))))))) (e2 oMod (aJ aw (af (ah 0) (af (eC (.int 2)) aA))) (eC (.int 8)))))
   (av (aK 4 (ah 1))
   (av (j9 5 (gw aA))
   (av (dW (bw 6) (bJ (e2 oMod (aJ aw (af (ah 0) (af (eC (.int 3)) aA))) (eC (.int 6)))) bY)
   (av (p7 5)
   (cW (eSl (ah 5) none (some (eC (.int 8)))))))))))
noncomputable def bR:Fn:=fn 1 4
   (av (aK 1 (aJ bz (af (aJ aw (af (ah 0) (af (eC (.int 1)) aA))) aA)))
   (av (aK 2 (e2 jl (e2 aS (ah 1) (eC (.int 0))) (e2 bt (eC (.int 100)) (e2 oMod (aJ aw (af (ah 0) (af (eC (.int 2)) aA))) (eC (.int 21))))))
   (av (sIf (e2 oEq (e2 oMod (aJ aw (af (ah 0) (af (eC (.int 3)) aA))) (eC (.int 2))) (eC (.int 0))) (av (aK 3 (e2 oMod (aJ aw (af (ah 0) (af (eC (.int 4)) aA))) (eN dR (af (ah 2) aA))))
   (aK 2 (e2 bt (e2 bt (eSl (ah 2) none (some (ah 3))) (e2 aS (ah 1) (eC (.int 1)))) (eSl (ah 2) (some (e2 bt (ah 3) (eC (.int 1)))) none)))) gc)
   (cW (gw (af (ah 2) aA))))))
noncomputable def cA:Fn:=fn 2 2
   (av (sIf (e2 oEq (e2 oMod (aJ bE (af (ah 0) (af (eC (.int 0)) aA))) (eC (.int 2))) (eC (.int 0))) (cW (aJ br (af (e2 dU (aJ bE (af (ah 0) (af (eC (.int 0)) aA))) (eC (.int 2))) aA))) gc)
   (av (sIf (gU (e2 oGt (ah 1) (eC (.int 30))) (e2 oEq (e2 oMod (aJ aw (af (ah 0) (af (eC (.int 5)) aA))) (eC (.int 16))) (eC (.int 0)))) (cW (aJ bR (af (ah 0) aA))) gc)
   (cW (aJ b7 (af (ah 0) (af (e2 aS (gw (af (eC (.int 24)) (af (eC (.int 24)) (af (eC (.int 24)) (af (ah 1) aA))))) (e2 oMod (aJ aw (af (ah 0) (af (eC (.int 0)) aA))) (eC (.int 4)))) aA))))))
noncomputable def cT:Sx :=
   (gN 1 (eSl (ah 3) (some (ah 5)) (some (ah 4))) (af (mW (af (ah 2) (af (ah 4) aA))) aA))
noncomputable def cV:Sx :=
   (dW (bw 5) (bJ (e2 bt (ah 4) (eC (.int 1)))) cT)
noncomputable def bZ:Sx :=
   (dW (bw 4) (bJ (e2 bt (eN dR (af (ah 3) aA)) (eC (.int 1)))) cV)
noncomputable def cI:Fn:=fn 1 6
   (av (j9 1 (i9 0 [((eC (.str [])),(gw aA))]))
   (av (dW (jC [(bw 2),(bw 3)]) (kJ (ah 0)) bZ)
   (jz 1)))
noncomputable def dM:Fn:=fn 1 1
   (cW (mW (af (eN dR (af (ah 0) aA)) (af (ah 0) aA))))
noncomputable def cU:Sx :=
   (fA 1 (eN eW (af (e2 oIx (ah 0) (ah 2)) aA)) (af (ah 2) aA))
noncomputable def cD:Fn:=fn 1 3
   (av (j9 1 (i9 2 []))
   (av (dW (bw 2) (fq (eN i3 (af (ah 0) aA))) cU)
   (gI 1)))
noncomputable def cG:Sx :=
   (kN 1 (ah 4) (ah 2))
noncomputable def dH:Sx :=
   (dW (bw 4) (fq (ah 3)) cG)
noncomputable def bL:Fn:=fn 1 5
   (av (j9 1 (i9 0 []))
   (av (dW (jC [(bw 2),(bw 3)]) (kJ (ah 0)) dH)
   (jz 1)))
noncomputable def bQ:Sx :=
   (sIf (e2 ly (e2 bt (e2 aS (ah 3) (eC (.int 0))) (ah 5)) (ah 1)) (sX (j7 4 [] bg (af (mW (af (ah 5) (af (e2 oIx (ah 1) (e2 bt (e2 aS (ah 3) (eC (.int 0))) (ah 5))) aA))) aA))) gc)
noncomputable def dw:Sx :=
   (av (j9 4 (gw aA))
   (av (dW (bw 5) (fq (eC (.str [97,98,99,100,101,102,103,104,105,106,107,108,109,110,111,112,113,114,115,116,117,118,119,120,121,122]))) bQ)
   (av (p7 4)
   (av (aK 6 (eC .non))
   (av (sIf (e2 oNe (e2 aS (ah 3) (eC (.int 0))) (eC (.str []))) (aK 6 (e2 oIx (ah 1) (eSl (e2 aS (ah 3) (eC (.int 0))) (some (eC (.int 1))) none))) gc)
   (sX (j7 2 [] bg (af (mW (af (eN dR (af (e2 aS (ah 3) (eC (.int 0))) aA)) (af (eN dR (af (e2 aS (ah 3) (eC (.int (-1)))) aA)) (af (ah 6) (af (eN eW (af (ah 4) aA)) aA))))) aA))))))))
noncomputable def dc:Fn:=fn 2 7
   (av (j9 2 (gw aA))
   (av (dW (bw 3) (fq (ah 0)) dw)
   (jz 2)))
noncomputable def cS:Fn:=fn 2 2
   (cW (gU (eIs .int (ah 0)) (gU (j3 (eIs .bool (ah 0))) (e2 oEq (ah 0) (ah 1)))))
noncomputable def iB:Sx :=
   (sIf (j3 (aJ cS (af (aJ cn (af (ah 5) (af (ah 7) aA))) (af (eN dR (af (de 1 (bw 0) (fq (ah 6)) (some (e2 oEq (ah 0) (ah 8))) (ah 0)) aA)) aA)))) (cW (eC (.bl false))) gc)
noncomputable def kM:Fn:=fn 1 9
   (av (aK 1 (aJ cA (af (ah 0) (af (eC (.int 60)) aA))))
   (av (aK 2 (aJ cI (af (ah 1) aA)))
   (av (aK 3 (aJ cD (af (ah 2) aA)))
   (av (aK 4 (aJ dc (af (ah 3) (af (aJ bL (af (ah 3) aA)) aA))))
   (av (aK 5 (eN iM (af (ah 4) aA)))
   (av (aK 6 (n8 2 (eN dR (af (ah 0) aA))))
   (av (sIf (j3 (aJ cS (af (aJ fj (af (ah 5) aA)) (af (e2 iV (eN dR (af (ah 2) aA)) (eC (.int 1))) aA)))) (cW (eC (.bl false))) gc)
   (av (dW (bw 7) (bJ (e2 bt (eN jj (af (ah 6) aA)) (eC (.int 4)))) iB)
   (av (aK 8 (e2 bt (eC (.int 200)) (e2 dY (aJ aw (af (ah 0) (af (eC (.int 300)) aA))) (e2 oM (eC (.int 10)) (eC (.int 49))))))
   (cW (gU (aJ cS (af (aJ cn (af (ah 5) (af (ah 8) aA))) (af (eC (.int 0)) aA))) (e2 oEq (ah 5) (ah 4)))))))))))))
end T25
end
section
namespace T25
open VS
theorem jx (t:Tx) (h:gr t):dM [.str t]=some (.fr,.tup [.int t.length,.str t]):=by
 have h1:=h.1
 simp [dM,fn,dR,BG,pO]
 rw [if_pos (by decide)]
 rfl
end T25
end
section
namespace T25
open VS
theorem zG (ns:List Int):∃ c,bE [.scr ns,.int 0]=some (.fr,.int c):=by
 cases ns with
 | cons a r =>
   refine ⟨a,?_⟩
   have h2:(0:Int) < ((a :: r).length:Int):=by simp
   simp [bE,h2,ixP]
 | nil=>exact ⟨0,by simp [bE]⟩
theorem e2v {f:Val->Val->Option Val} {a b:Ex} {η:Env} {x y z:Val} (h1:a η=some x) (h2:b η=some y) (h3:f x y=some z):e2 f a b η=some z:=by
 show (a η).bind _=_
 rw [h1,Option.bind_some,h2]
 exact h3
theorem cK (ns:List Int) (k:Int) (h0:0<=k) (h1:k < 1000):∃ n,aw [.scr ns,.int k]=some (.fr,.int n)/\0<=n/\n < 2147483648:=by
 obtain ⟨c,hc⟩:∃ c,(sIf (e2 oGt (eN dR (af (ah 0) aA)) (eC (.int 0))) (aK 2 (e2 aS (ah 0) (e2 oMod (ah 1) (eN dR (af (ah 0) aA))))) gc) [some (.pu (.scr ns)),some (.pu (.int k)),some (.pu (.int 7)),none]=some (.nx [some (.pu (.scr ns)),some (.pu (.int k)),some (.pu (.int c)),none]):=by
   cases ns with
   | nil=>exact ⟨7,by simp⟩
   | cons a r =>
     have hp:(0:Int) < ((a :: r).length:Int):=by simp
     have b0:=Int.emod_nonneg k (b:=((a :: r).length:Int)) (by lia)
     have b1:=Int.emod_lt_of_pos k (b:=((a :: r).length:Int)) hp
     generalize hl:(a :: r)=ns at *
     have hne:ns ≠ []:=by rw [← hl];simp
     have b2:(k % (ns.length:Int)).toNat < ns.length:=by lia
     refine ⟨ns[(k % (ns.length:Int)).toNat],?_⟩
     simp [hp,hne,aM hp,ixP,b0,b1,b2]
 have a0:=Int.emod_nonneg c (b:=2147483629) (by decide)
 have a1:=Int.emod_lt_of_pos c (b:=2147483629) (by decide)
 generalize hx1:c % 2147483629=x1 at a0 a1
 have b0:=Int.emod_nonneg ((x1+40503 * k+1) * 48271) (b:=2147483647) (by decide)
 have b1:=Int.emod_lt_of_pos ((x1+40503 * k+1) * 48271) (b:=2147483647) (by decide)
 generalize hx2:(x1+40503 * k+1) * 48271 % 2147483647=x2 at b0 b1
 have c0:=Int.emod_nonneg (x2 * x2) (b:=2147483629) (by decide)
 have c1:=Int.emod_lt_of_pos (x2 * x2) (b:=2147483629) (by decide)
 generalize hx3:x2 * x2 % 2147483629=x3 at c0 c1
 have d0:=Int.emod_nonneg ((x3+k) * 69621) (b:=2147483587) (by decide)
 have d1:=Int.emod_lt_of_pos ((x3+k) * 69621) (b:=2147483587) (by decide)
 generalize hx4:(x3+k) * 69621 % 2147483587=x4 at d0 d1
 have e0:=Int.emod_nonneg (x4 * x4) (b:=2147483563) (by decide)
 have e1:=Int.emod_lt_of_pos (x4 * x4) (b:=2147483563) (by decide)
 refine ⟨x4 * x4 % 2147483563 / 3,?_,by lia,by lia⟩
 have m1:∀ m n,dY (m,.int (x1+40503 * k+1)) (n,.int 48271)=some (.fr,.int ((x1+40503 * k+1) * 48271)):=fun m n=>dZ (by lia)
 have m2:∀ m n,dY (m,.int x2) (n,.int x2)=some (.fr,.int (x2 * x2)):=fun m n=>dZ (by lia)
 have m3:∀ m n,dY (m,.int (x3+k)) (n,.int 69621)=some (.fr,.int ((x3+k) * 69621)):=fun m n=>dZ (by lia)
 have m4:∀ m n,dY (m,.int x4) (n,.int x4)=some (.fr,.int (x4 * x4)):=fun m n=>dZ (by lia)
 have m0:∀ m n,dY (m,.int 40503) (n,.int k)=some (.fr,.int (40503 * k)):=fun m n=>dZ (by decide)
 unfold aw
 refine BI [some (.pu (.scr ns)),some (.pu (.int k)),none,none] (η':=[some (.pu (.scr ns)),some (.pu (.int k)),some (.pu (.int c)),some (.pu (.int x4))]) rfl rfl ?_
 rw [gE (η':=[some (.pu (.scr ns)),some (.pu (.int k)),some (.pu (.int 7)),none]) rfl,gE hc]
 rw [gE (cP (m:=.fr) (t:=.int x2) (e2v (e2v (e2v (e2v (e2v rfl rfl ((aM (by decide)).trans (by rw [hx1]))) (e2v rfl rfl (m0 _ _)) rfl) rfl rfl) rfl (m1 _ _)) rfl ((aM (by decide)).trans (by rw [hx2]))) (by decide) (by simp))]
 refine (show av _ _ [some (.pu (.scr ns)),some (.pu (.int k)),some (.pu (.int c)),some (.pu (.int x2))]=_ from ?_)
 rw [gE (cP (m:=.fr) (t:=.int x3) (e2v (e2v rfl rfl (m2 _ _)) rfl ((aM (by decide)).trans (by rw [hx3]))) (by decide) (by simp))]
 refine (show av _ _ [some (.pu (.scr ns)),some (.pu (.int k)),some (.pu (.int c)),some (.pu (.int x3))]=_ from ?_)
 rw [gE (cP (m:=.fr) (t:=.int x4) (e2v (e2v (e2v rfl rfl rfl) rfl (m3 _ _)) rfl ((aM (by decide)).trans (by rw [hx4]))) (by decide) (by simp))]
 refine (show cW _ [some (.pu (.scr ns)),some (.pu (.int k)),some (.pu (.int c)),some (.pu (.int x4))]=_ from ?_)
 have r:=e2v (f:=dU) (η:=[some (.pu (.scr ns)),some (.pu (.int k)),some (.pu (.int c)),some (.pu (.int x4))]) (e2v (f:=oMod) (a:=e2 dY (ah 3) (ah 3)) (b:=eC (.int 2147483563)) (e2v rfl rfl (m4 _ _)) rfl (aM (by decide))) (show eC (.int 3) _=some (.fr,.int 3) from rfl) (dn (by decide))
 simp only [cW,r,Option.bind_some]
noncomputable abbrev abc:Tx:=[97,98,99,100,101,102,103,104,105,106,107,108,109,110,111,112,113,114,115,116,117,118,119,120,121,122]
theorem uY {m n:Md} (t:Tx) (i:Int) (h0:0<=i) (h1:i < t.length):aS (m,.str t) (n,.int i)=some (.fr,.str [t.getD i.toNat 0]):=by
 have b2:i.toNat < t.length:=by lia
 simp [ixP,h0,h1,List.getD_eq_getElem?_getD,b2]
theorem zZ (i:Nat) (h:i < 26):97<=abc.getD i 0/\abc.getD i 0<=122:=by
 have:∀ i,i < 26->97<=abc.getD i 0/\abc.getD i 0<=122:=by decide
 exact this i h
theorem lR (c:Int):∃ sg:List Nat,bz [.int c]=some (.fr,.lst (sg.map fun x=>T.str [x]))/\sg.length=26/\∀ x∈sg,97<=x/\x<=122:=by
 have a0:=Int.emod_nonneg (c / 26) (b:=5) (by decide)
 have a1:=Int.emod_lt_of_pos (c / 26) (b:=5) (by decide)
 have li:=jW (m:=.fr) (n:=.fr) T.int [1,3,5,7,9] (c / 26 % 5) 0 a0 (by simpa using a1) rfl
 simp only [List.map_cons,List.map_nil] at li
 obtain ⟨st,hst,s0,s1⟩:∃ st:Int,List.getD [1,3,5,7,9] (c / 26 % 5).toNat 0=st/\0<=st/\st < 10:=by
   have pk:∀ i,i < 5->0<=(List.getD [1,3,5,7,9] i 0:Int)/\(List.getD [1,3,5,7,9] i 0:Int) < 10:=by decide
   have h:=pk (c / 26 % 5).toNat (by lia)
   exact ⟨_,rfl,h.1,h.2⟩
 rw [hst] at li
 have k0:=Int.emod_nonneg c (b:=26) (by decide)
 have k1:=Int.emod_lt_of_pos c (b:=26) (by decide)
 generalize hs:c % 26=s at k0 k1
 have comp:=kR (k:=1) (tg:=bw 0) (it:=bJ (eC (.int 26))) (elt:=e2 aS (eC (.str abc)) (e2 oMod (e2 bt (ah 2) (e2 dY (ah 3) (ah 0))) (eC (.int 26))))
   (η:=[some (.pu (.int c)),some (.pu (.int s)),some (.pu (.int st))]) (m:=.fr) (fun (j:Nat)=>T.int (j:Int)) (fun j:Nat=>T.str [abc.getD ((s+st * (j:Int)) % 26).toNat 0]) (List.range 26)
   (by rw [hU (m:=.fr) (j:=26) (by simp) (by lia),jB];rfl) rfl (by decide) (fun j hj=>⟨_,by simp;rfl,by
     have e0:=Int.emod_nonneg (s+st * (j:Int)) (b:=26) (by decide)
     have e1:=Int.emod_lt_of_pos (s+st * (j:Int)) (b:=26) (by decide)
     have ix:=uY (m:=.fr) (n:=.fr) abc ((s+st * (j:Int)) % 26) e0 (by exact e1)
     have mu:∀ m n,dY (m,.int st) (n,.int (j:Int))=some (.fr,.int (st * (j:Int))):=fun m n=>dZ (by lia)
     simp [-aS,mu,aM (j:=26) (by decide)]
     exact ix⟩)
 refine ⟨(List.range 26).map fun j:Nat=>abc.getD ((s+st * (j:Int)) % 26).toNat 0,?_,by simp,fun x hx=>?_⟩
 · simp [-aS,bz,aM,dn,hs,dG,li]
   rw [comp]
   simp
 · obtain ⟨j,_,rfl⟩:=List.mem_map.mp hx
   have e0:=Int.emod_nonneg (s+st * (j:Int)) (b:=26) (by decide)
   have e1:=Int.emod_lt_of_pos (s+st * (j:Int)) (b:=26) (by decide)
   exact zZ _ (by lia)
end T25
end
section
namespace T25
open VS
noncomputable def Az (t:List Nat):Prop:=∀ x∈t,97<=x/\x<=122
theorem Az.app {s t:List Nat} (a:Az s) (b:Az t):Az (s++t):=fun x hx=>(List.mem_append.mp hx).elim (a x) (b x)
noncomputable abbrev sgT (sg:List Nat):T:=.lst (sg.map fun x=>T.str [x])
theorem mm {m n:Md} (sg:List Nat) (i:Int) (h0:0<=i) (h1:i < sg.length):aS (m,sgT sg) (n,.int i)=some (.fr,.str [sg.getD i.toNat 0]):=jW (fun x=>T.str [x]) sg i 0 h0 h1 rfl
theorem iJ {sg:List Nat} (h:Az sg) {i:Nat} (hi:i < sg.length):Az [sg.getD i 0]:=fun x hx=>by
 rw [List.mem_singleton.mp hx,List.getD_eq_getElem?_getD,List.getElem?_eq_getElem hi]
 exact h _ (List.getElem_mem hi)
theorem A7 (sg:List Nat) (hsg:Az sg) (so many room size:Int) (h0:0 < so) (h1:so<=sg.length) (h2:so < 1000) (bk:List T) (k6:Option Cell):∀ (ks:List Nat) (c:Int) (t:Tx) (z:Option Cell),t.length+ks.length<=1000->Az t →
   ∃ c' t' z',forL (bw 9) bV (ks.map fun (k:Nat)=>T.int (k:Int)) [some (.pu (.int c)),some (.pu (sgT sg)),some (.pu (.int so)),some (.pu (.int many)),some (.pu (.int room)),some (.ow (.lst bk)),k6,some (.pu (.int size)),some (.pu (.str t)),z] =
     some (.nx [some (.pu (.int c')),some (.pu (sgT sg)),some (.pu (.int so)),some (.pu (.int many)),some (.pu (.int room)),some (.ow (.lst bk)),k6,some (.pu (.int size)),some (.pu (.str t')),z'])/\t'.length=t.length+ks.length/\Az t'
 | [],c,t,z,_,ht=>⟨c,t,z,by simp [forL],by simp,ht⟩
 | k :: ks,c,t,z,hl,ht=>by
   have e0:=Int.emod_nonneg c (b:=so) (by lia)
   have e1:=Int.emod_lt_of_pos c (b:=so) h0
   rw [List.length_cons] at hl
   have ix:=fun m n=>mm (m:=m) (n:=n) sg (c % so) e0 (by lia)
   have ad:∀ m n,bt (m,.str t) (n,.str [sg.getD (c % so).toNat 0])=some (.fr,.str (t++[sg.getD (c % so).toNat 0])):=fun m n=>ft (by simp;lia)
   obtain ⟨c',t',z',e,hl',ht'⟩:=A7 sg hsg so many room size h0 h1 h2 bk k6 ks (c / so) (t++[sg.getD (c % so).toNat 0]) (some (.pu (.int k))) (by rw [List.length_append,List.length_singleton];lia) (ht.app (iJ hsg (by lia)))
   refine ⟨c',t',z',?_,by rw [hl',List.length_append,List.length_singleton,List.length_cons];lia,ht'⟩
   rw [List.map_cons,cx (η1:=[some (.pu (.int c)),some (.pu (sgT sg)),some (.pu (.int so)),some (.pu (.int many)),some (.pu (.int room)),some (.ow (.lst bk)),k6,some (.pu (.int size)),some (.pu (.str t)),some (.pu (.int k))]) (by simp)
     (η2:=[some (.pu (.int (c / so))),some (.pu (sgT sg)),some (.pu (.int so)),some (.pu (.int many)),some (.pu (.int room)),some (.ow (.lst bk)),k6,some (.pu (.int size)),some (.pu (.str (t++[sg.getD (c % so).toNat 0]))),some (.pu (.int k))]) (by
       simp [-aS,-List.getD_eq_getElem?_getD,-List.map_cons,bV,aM h0,ix,ad,dn (show 0 < so/\so < 1073741824 by lia)]),e]
structure Bk (most:Nat) (bk:List Tx):Prop where
 n:bk.flatten.length<=most
 az:∀ t∈bk,Az t
theorem Bk.snoc {m m':Nat} {bk:List Tx} {t:Tx} (B:Bk m bk) (h:m+t.length<=m') (ht:Az t):Bk m' (bk++[t]):=by
 refine ⟨?_,fun s hs=>?_⟩
 · have:=B.n
   rw [List.flatten_append,List.length_append,show [t].flatten=t by simp]
   lia
 · rcases List.mem_append.mp hs with hs | hs
   · exact B.az s hs
   · rw [List.mem_singleton.mp hs];exact ht
theorem kQ {a:Ex} {η:Env} {m:Md} {n:Nat} (e:a η=some (m,.int (n:Int))) (h:n < 100000):bJ a η=some (.fr,(List.range n).map fun (k:Nat)=>T.int (k:Int)):=by
 rw [hU e (by lia),jB]
 rfl
theorem fJ {tg:Tg} {it:Its} {body:Sx} {η:Env} {l:List T} (h:it η=some (.fr,l)):dW tg it body η=forL tg body l η:=by
 simp [dW,h]
theorem jA {i:Nat} {η:Env} {l:List T} {t:T} {e:Ex} (h:η[i]?=some (some (.ow (.lst l)))) (he:e η=some (.fr,t)) (hl:l.length < 16777216):(sX (j7 i [] bg (af e aA))) η=some (.nx (η.set i (some (.ow (.lst (l++[t])))))):=by
 simp [h,he,eB hl]
theorem aq {a b:Sx} {η η1:Env} (h:a η=some (.nx η1)):av a b η=b η1:=by simp [av,h]
theorem qX (sg:List Nat) (hsg:Az sg) (so many:Int) (h0:0 < so) (h1:so<=sg.length) (h2:so < 1000) (k:Nat) (c:Int) (room:Nat) (bk:List Tx) (z7 z8 z9:Option Cell) (hr:room<=24) (B:Bk (24 - room) bk) (hl:bk.length < 1000) :
   ∃ (c1:Int) (sz:Nat) (t1:Tx) (z1:Option Cell),sz<=room/\Bk (24 - (room - sz)) (bk++[t1])/\bW [some (.pu (.int c)),some (.pu (sgT sg)),some (.pu (.int so)),some (.pu (.int many)),some (.pu (.int (room:Int))),some (.ow (.lst (bk.map T.str))),some (.pu (.int k)),z7,z8,z9] =
     some (.nx [some (.pu (.int c1)),some (.pu (sgT sg)),some (.pu (.int so)),some (.pu (.int many)),some (.pu (.int ((room - sz:Nat):Int))),some (.ow (.lst ((bk++[t1]).map T.str))),some (.pu (.int k)),some (.pu (.int sz)),some (.pu (.str t1)),z1]):=by
 have e0:=Int.emod_nonneg c (b:=25) (by decide)
 have e1:=Int.emod_lt_of_pos c (b:=25) (by decide)
 obtain ⟨sz,hsz,hsr,hs2⟩:∃ sz:Nat,(if c % 25 < (room:Int) then c % 25 else (room:Int))=(sz:Int)/\sz<=room/\sz<=24:=by
   by_cases h:c % 25 < (room:Int)
   · exact ⟨(c % 25).toNat,by rw [if_pos h];lia,by lia,by lia⟩
   · exact ⟨room,by rw [if_neg h],Nat.le_refl _,hr⟩
 have er:((room:Int) - (sz:Int))=((room - sz:Nat):Int):=by lia
 generalize ht:(room - sz:Nat)=r1 at er
 obtain ⟨c1,t1,z1,ee,hl1,ht1⟩:=A7 sg hsg so many (r1:Int) (sz:Int) h0 h1 h2 (bk.map T.str) (some (.pu (.int k))) (List.range sz) (c / 25) [] z9 (by rw [List.length_range];simp;lia) (fun x hx=>by simp at hx)
 rw [List.length_range,List.length_nil,Nat.zero_add] at hl1
 refine ⟨c1,sz,t1,z1,hsr,B.snoc (by lia) ht1,?_⟩
 have fo:dW (bw 9) (bJ (ah 7)) bV [some (.pu (.int (c / 25))),some (.pu (sgT sg)),some (.pu (.int so)),some (.pu (.int many)),some (.pu (.int (r1:Int))),some (.ow (.lst (bk.map T.str))),some (.pu (.int k)),some (.pu (.int sz)),some (.pu (.str [])),z9] =
     some (.nx [some (.pu (.int c1)),some (.pu (sgT sg)),some (.pu (.int so)),some (.pu (.int many)),some (.pu (.int (r1:Int))),some (.ow (.lst (bk.map T.str))),some (.pu (.int k)),some (.pu (.int sz)),some (.pu (.str t1)),z1]):=by
   rw [fJ (kQ (m:=.fr) (n:=sz) (by simp) (by lia))]
   exact ee
 have ap:=jA (i:=5) (e:=ah 8) (t:=.str t1) (l:=bk.map T.str) (η:=[some (.pu (.int c1)),some (.pu (sgT sg)),some (.pu (.int so)),some (.pu (.int many)),some (.pu (.int (r1:Int))),some (.ow (.lst (bk.map T.str))),some (.pu (.int k)),some (.pu (.int sz)),some (.pu (.str t1)),z1]) rfl (by simp) (by rw [List.length_map];lia)
 rw [ht]
 unfold bW
 rw [aq (η:=[some (.pu (.int c)),some (.pu (sgT sg)),some (.pu (.int so)),some (.pu (.int many)),some (.pu (.int (room:Int))),some (.ow (.lst (bk.map T.str))),some (.pu (.int k)),z7,z8,z9]) (η1:=[some (.pu (.int c)),some (.pu (sgT sg)),some (.pu (.int so)),some (.pu (.int many)),some (.pu (.int (room:Int))),some (.ow (.lst (bk.map T.str))),some (.pu (.int k)),some (.pu (.int sz)),z8,z9]) (by simp [aM (j:=25) (by decide),hsz])]
 rw [aq (η:=[some (.pu (.int c)),some (.pu (sgT sg)),some (.pu (.int so)),some (.pu (.int many)),some (.pu (.int (room:Int))),some (.ow (.lst (bk.map T.str))),some (.pu (.int k)),some (.pu (.int sz)),z8,z9]) (η1:=[some (.pu (.int (c / 25))),some (.pu (sgT sg)),some (.pu (.int so)),some (.pu (.int many)),some (.pu (.int (room:Int))),some (.ow (.lst (bk.map T.str))),some (.pu (.int k)),some (.pu (.int sz)),z8,z9]) (by simp [dn (j:=25) (by decide)])]
 rw [aq (η:=[some (.pu (.int (c / 25))),some (.pu (sgT sg)),some (.pu (.int so)),some (.pu (.int many)),some (.pu (.int (room:Int))),some (.ow (.lst (bk.map T.str))),some (.pu (.int k)),some (.pu (.int sz)),z8,z9]) (η1:=[some (.pu (.int (c / 25))),some (.pu (sgT sg)),some (.pu (.int so)),some (.pu (.int many)),some (.pu (.int (r1:Int))),some (.ow (.lst (bk.map T.str))),some (.pu (.int k)),some (.pu (.int sz)),z8,z9]) (by simp [er])]
 rw [aq (η:=[some (.pu (.int (c / 25))),some (.pu (sgT sg)),some (.pu (.int so)),some (.pu (.int many)),some (.pu (.int (r1:Int))),some (.ow (.lst (bk.map T.str))),some (.pu (.int k)),some (.pu (.int sz)),z8,z9]) (η1:=[some (.pu (.int (c / 25))),some (.pu (sgT sg)),some (.pu (.int so)),some (.pu (.int many)),some (.pu (.int (r1:Int))),some (.ow (.lst (bk.map T.str))),some (.pu (.int k)),some (.pu (.int sz)),some (.pu (.str [])),z9]) (by simp)]
 rw [aq fo,ap]
 simp
theorem B8 (sg:List Nat) (hsg:Az sg) (so many:Int) (h0:0 < so) (h1:so<=sg.length) (h2:so < 1000) (ks:List Nat):∀ (c:Int) (room:Nat) (bk:List Tx) (z6 z7 z8 z9:Option Cell),room<=24->Bk (24 - room) bk->bk.length+ks.length<=1000 →
   ∃ c' r' bk' z6' z7' z8' z9',forL (bw 6) bW (ks.map fun (k:Nat)=>T.int (k:Int)) [some (.pu (.int c)),some (.pu (sgT sg)),some (.pu (.int so)),some (.pu (.int many)),some (.pu (.int (room:Int))),some (.ow (.lst (bk.map T.str))),z6,z7,z8,z9] =
     some (.nx [some (.pu (.int c')),some (.pu (sgT sg)),some (.pu (.int so)),some (.pu (.int many)),some (.pu (.int r')),some (.ow (.lst (bk'.map T.str))),z6',z7',z8',z9'])/\Bk 24 bk'/\bk'.length=bk.length+ks.length:=by
 induction ks with
 | nil=>exact fun c room bk z6 z7 z8 z9 hr B _=>⟨c,room,bk,z6,z7,z8,z9,by simp [forL],⟨by have:=B.n;lia,B.az⟩,by simp⟩
 | cons k ks ih =>
   intro c room bk z6 z7 z8 z9 hr B hl
   rw [List.length_cons] at hl
   obtain ⟨c1,sz,t1,z1,hsr,B1,eb⟩:=qX sg hsg so many h0 h1 h2 k c room bk z7 z8 z9 hr B (by lia)
   obtain ⟨c',r',bk',z6',z7',z8',z9',e,B',hl'⟩:=ih c1 (room - sz) (bk++[t1]) (some (.pu (.int k))) (some (.pu (.int sz))) (some (.pu (.str t1))) z1 (by lia) B1 (by rw [List.length_append,List.length_singleton];lia)
   refine ⟨c',r',bk',z6',z7',z8',z9',?_,B',by rw [hl',List.length_append,List.length_singleton,List.length_cons];lia⟩
   rw [List.map_cons,cx (by simp) eb,e]
end T25
end
section
namespace T25
open VS
theorem eJ {np nn:Nat} {b:Sx} {ts:List T} {v:Val} {η:Env} (hl:ts.length=np) (h:b (ts.map (fun t=>some (.pu t))++List.replicate (nn - np) none)=some (.rt v η)):fn np nn b ts=some v:=by
 unfold fn
 rw [if_pos hl]
 subst hl
 rw [h]
 rfl
theorem uw (c:Int):∃ bk:List Tx,br [.int c]=some (.fr,.lst (bk.map T.str))/\Bk 24 bk/\bk.length<=4:=by
 obtain ⟨sg,hs,hl,haz⟩:=lR c
 have a0:=Int.emod_nonneg (c / 130) (b:=8) (by decide)
 have a1:=Int.emod_lt_of_pos (c / 130) (b:=8) (by decide)
 have li:=fun m n=>jW (m:=m) (n:=n) T.int [1,2,3,4,2,3,4,26] (c / 130 % 8) 0 a0 (by simpa using a1) rfl
 simp only [List.map_cons,List.map_nil] at li
 obtain ⟨so,hso,s0,s1⟩:∃ so:Int,List.getD [1,2,3,4,2,3,4,26] (c / 130 % 8).toNat 0=so/\0 < so/\so<=26:=by
   have pk:∀ i,i < 8->0 < (List.getD [1,2,3,4,2,3,4,26] i 0:Int)/\(List.getD [1,2,3,4,2,3,4,26] i 0:Int)<=26:=by decide
   have h:=pk (c / 130 % 8).toNat (by lia)
   exact ⟨_,rfl,h.1,h.2⟩
 rw [hso] at li
 have b0:=Int.emod_nonneg (c / 1040) (b:=5) (by decide)
 have b1:=Int.emod_lt_of_pos (c / 1040) (b:=5) (by decide)
 obtain ⟨mn,hmn,m1⟩:∃ mn:Nat,c / 1040 % 5=(mn:Int)/\mn<=4:=⟨(c / 1040 % 5).toNat,by lia,by lia⟩
 obtain ⟨c',r',bk',z6',z7',z8',z9',e,B',hl'⟩:=B8 sg haz so mn s0 (by lia) (by lia) (List.range mn) (c / 5200) 24 [] none none none none (Nat.le_refl _) ⟨by simp,fun t ht=>by simp at ht⟩ (by rw [List.length_range];simp;lia)
 rw [List.length_range,List.length_nil,Nat.zero_add] at hl'
 refine ⟨bk',?_,B',by lia⟩
 unfold br
 refine eJ rfl (η:=[some (.pu (.int c')),some (.pu (sgT sg)),some (.pu (.int so)),some (.pu (.int mn)),some (.pu (.int r')),none,z6',z7',z8',z9']) ?_
 refine (show av _ _ [some (.pu (.int c)),none,none,none,none,none,none,none,none,none]=_ from ?_)
 rw [aq (η1:=[some (.pu (.int c)),some (.pu (sgT sg)),none,none,none,none,none,none,none,none]) (by simp [hs])]
 rw [aq (η1:=[some (.pu (.int c)),some (.pu (sgT sg)),some (.pu (.int so)),none,none,none,none,none,none,none]) (by simp [-aS,aM (j:=8) (by decide),dn (j:=130) (by decide),dG,li])]
 rw [aq (η1:=[some (.pu (.int c)),some (.pu (sgT sg)),some (.pu (.int so)),some (.pu (.int mn)),none,none,none,none,none,none]) (by simp [aM (j:=5) (by decide),dn (j:=1040) (by decide),hmn])]
 rw [aq (η1:=[some (.pu (.int (c / 5200))),some (.pu (sgT sg)),some (.pu (.int so)),some (.pu (.int mn)),none,none,none,none,none,none]) (by simp [dn (j:=5200) (by decide)])]
 rw [aq (η1:=[some (.pu (.int (c / 5200))),some (.pu (sgT sg)),some (.pu (.int so)),some (.pu (.int mn)),some (.pu (.int ((24:Nat):Int))),none,none,none,none,none]) (by simp)]
 rw [aq (η1:=[some (.pu (.int (c / 5200))),some (.pu (sgT sg)),some (.pu (.int so)),some (.pu (.int mn)),some (.pu (.int ((24:Nat):Int))),some (.ow (.lst (([]:List Tx).map T.str))),none,none,none,none]) (by simp [dG])]
 rw [aq (show dW _ _ _ _=_ from by
   rw [fJ (kQ (m:=.fr) (n:=mn) (by simp) (by lia))]
   exact e)]
 simp
end T25
end
section
namespace T25
open VS
theorem oy {c:Ex} {a b:Sx} {η:Env} {m:Md} (h:c η=some (m,.bl true)):sIf c a b η=a η:=by simp [sIf,h]
theorem lX {c:Ex} {a b:Sx} {η:Env} {m:Md} (h:c η=some (m,.bl false)):sIf c a b η=b η:=by simp [sIf,h]
theorem qJ (ns:List Int) (sg:List Nat) (hsg:Az sg) (most so room size:Int) (h0:0 < so) (h1:so<=sg.length) (bk:List T) (k back:Nat) (hk:k < 6) (hb:1<=back) (hb2:back<=5) (j:Nat) (hj:j < 200) (t:Tx) (ht:Az t) (hl:t.length<=1000) (z11:Option Cell) :
   ∃ x n,Az [x]/\bF [some (.pu (.scr ns)),some (.pu (.int most)),some (.pu (sgT sg)),some (.pu (.int so)),some (.pu (.int room)),some (.ow (.lst bk)),some (.pu (.int k)),some (.pu (.int size)),some (.pu (.int (back:Int))),some (.pu (.str t)),some (.pu (.int j)),z11] =
     some (.nx [some (.pu (.scr ns)),some (.pu (.int most)),some (.pu (sgT sg)),some (.pu (.int so)),some (.pu (.int room)),some (.ow (.lst bk)),some (.pu (.int k)),some (.pu (.int size)),some (.pu (.int (back:Int))),some (.pu (.str (t++[x]))),some (.pu (.int j)),some (.pu (.int n))]):=by
 obtain ⟨n,hn,n0,n1⟩:=cK ns (20 * (k:Int)+6+(j:Int)) (by lia) (by lia)
 unfold bF
 rw [aq (η1:=[some (.pu (.scr ns)),some (.pu (.int most)),some (.pu (sgT sg)),some (.pu (.int so)),some (.pu (.int room)),some (.ow (.lst bk)),some (.pu (.int k)),some (.pu (.int size)),some (.pu (.int (back:Int))),some (.pu (.str t)),some (.pu (.int j)),some (.pu (.int n))]) (by simp [hn,dZ (i:=20) (by decide)])]
 by_cases p:(back:Int)<=(t.length:Int)/\0 < n % 4
 · have ix:=fun m n=>uY (m:=m) (n:=n) t ((t.length:Int) - (back:Int)) (by lia) (by lia)
   have ad:∀ x m n,bt (m,.str t) (n,.str [x])=some (.fr,.str (t++[x])):=fun x m n=>ft (by simp;lia)
   refine ⟨t.getD ((t.length:Int) - (back:Int)).toNat 0,n,iJ ht (by lia),?_⟩
   rw [oy (m:=.fr) (by simp [aM (j:=4) (by decide),p.1,p.2])]
   simp [-aS,-List.getD_eq_getElem?_getD,ix,ad]
 · have e0:=Int.emod_nonneg (n / 4) (b:=so) (by lia)
   have e1:=Int.emod_lt_of_pos (n / 4) (b:=so) h0
   have ix:=fun m n'=>mm (m:=m) (n:=n') sg (n / 4 % so) e0 (by lia)
   have ad:∀ x m n,bt (m,.str t) (n,.str [x])=some (.fr,.str (t++[x])):=fun x m n=>ft (by simp;lia)
   refine ⟨sg.getD (n / 4 % so).toNat 0,n,iJ hsg (by lia),?_⟩
   rw [lX (m:=.fr) (by
     by_cases p1:(back:Int)<=(t.length:Int)
     · have p2:¬ 0 < n % 4:=fun z=>p ⟨p1,z⟩
       simp [aM (j:=4) (by decide),p1,p2]
     · simp [aM (j:=4) (by decide),p1])]
   simp [-aS,-List.getD_eq_getElem?_getD,dn (j:=4) (by decide),aM h0,ix,ad]
theorem Ce (ns:List Int) (sg:List Nat) (hsg:Az sg) (most so room size:Int) (h0:0 < so) (h1:so<=sg.length) (bk:List T) (k back:Nat) (hk:k < 6) (hb:1<=back) (hb2:back<=5) (js:List Nat):∀ (t:Tx) (z10 z11:Option Cell),(∀ j∈js,j < 200)->t.length+js.length<=1000->Az t →
   ∃ t' z10' z11',forL (bw 10) bF (js.map fun (j:Nat)=>T.int (j:Int)) [some (.pu (.scr ns)),some (.pu (.int most)),some (.pu (sgT sg)),some (.pu (.int so)),some (.pu (.int room)),some (.ow (.lst bk)),some (.pu (.int k)),some (.pu (.int size)),some (.pu (.int (back:Int))),some (.pu (.str t)),z10,z11] =
     some (.nx [some (.pu (.scr ns)),some (.pu (.int most)),some (.pu (sgT sg)),some (.pu (.int so)),some (.pu (.int room)),some (.ow (.lst bk)),some (.pu (.int k)),some (.pu (.int size)),some (.pu (.int (back:Int))),some (.pu (.str t')),z10',z11'])/\t'.length=t.length+js.length/\Az t':=by
 induction js with
 | nil=>exact fun t z10 z11 _ _ ht=>⟨t,z10,z11,by simp [forL],by simp,ht⟩
 | cons j js ih =>
   intro t z10 z11 hj hl ht
   rw [List.length_cons] at hl
   obtain ⟨x,n,hx,eb⟩:=qJ ns sg hsg most so room size h0 h1 bk k back hk hb hb2 j (hj j List.mem_cons_self) t ht (by lia) z11
   obtain ⟨t',a,b,e,hl',ht'⟩:=ih (t++[x]) (some (.pu (.int j))) (some (.pu (.int n))) (fun i hi=>hj i (List.mem_cons_of_mem _ hi)) (by rw [List.length_append,List.length_singleton];lia) (ht.app hx)
   refine ⟨t',a,b,?_,by rw [hl',List.length_append,List.length_singleton,List.length_cons];lia,ht'⟩
   rw [List.map_cons,cx (by simp) eb,e]
theorem pK (t:Tx) (i L:Nat) (h:i<=t.length):cut t (some (i:Int)) (some ((i:Int)+(L:Int)))=(t.drop i).take L:=by
 have h1:¬ ((i:Int) < 0):=by lia
 have h2:¬ ((i:Int)+(L:Int) < 0):=by lia
 simp only [cut,clip,if_neg h1,if_neg h2,Int.toNat_natCast]
 rw [show ((i:Int)+(L:Int)).toNat=i+L by lia,Nat.min_eq_left h]
 by_cases q:i+L<=t.length
 · rw [Nat.min_eq_left q,show i+L - i=L by lia]
 · rw [Nat.min_eq_right (by lia),List.take_of_length_le (l:=t.drop i) (by simp),List.take_of_length_le (l:=t.drop i) (by simp;lia)]
theorem qz (ns:List Int) (sg:List Nat) (hsg:Az sg) (most so:Int) (hm0:0<=most) (hm1:most<=120) (h0:0 < so) (h1:so<=sg.length) (k:Nat) (hk:k < 6) (room:Nat) (hr:(room:Int)<=most) (bk:List Tx) (B:Bk (most.toNat - room) bk) (hl:bk.length<=100) (z7 z8 z9 z10 z11:Option Cell) :
   ∃ (room':Nat) (bk':List Tx) (y7 y8 y9 y10 y11:Option Cell),room'<=room/\Bk (most.toNat - room') bk'/\bk'.length<=bk.length+2/\bY [some (.pu (.scr ns)),some (.pu (.int most)),some (.pu (sgT sg)),some (.pu (.int so)),some (.pu (.int (room:Int))),some (.ow (.lst (bk.map T.str))),some (.pu (.int k)),z7,z8,z9,z10,z11] =
     some (.nx [some (.pu (.scr ns)),some (.pu (.int most)),some (.pu (sgT sg)),some (.pu (.int so)),some (.pu (.int (room':Int))),some (.ow (.lst (bk'.map T.str))),some (.pu (.int k)),y7,y8,y9,y10,y11]):=by
 obtain ⟨n4,hn4,n40,n41⟩:=cK ns (20 * (k:Int)+4) (by lia) (by lia)
 obtain ⟨n5,hn5,n50,n51⟩:=cK ns (20 * (k:Int)+5) (by lia) (by lia)
 have e0:=Int.emod_nonneg n4 (b:=most+1) (by lia)
 have e1:=Int.emod_lt_of_pos n4 (b:=most+1) (by lia)
 have f0:=Int.emod_nonneg n5 (b:=5) (by decide)
 have f1:=Int.emod_lt_of_pos n5 (b:=5) (by decide)
 obtain ⟨sz,hsz,hsr⟩:∃ sz:Nat,(if n4 % (most+1) < (room:Int) then n4 % (most+1) else (room:Int))=(sz:Int)/\sz<=room:=by
   by_cases h:n4 % (most+1) < (room:Int)
   · exact ⟨(n4 % (most+1)).toNat,by rw [if_pos h];lia,by lia⟩
   · exact ⟨room,by rw [if_neg h],Nat.le_refl _⟩
 have er:((room:Int) - (sz:Int))=((room - sz:Nat):Int):=by lia
 generalize ht:(room - sz:Nat)=r1 at er
 obtain ⟨bc,hbc,c0,c1⟩:∃ bc:Nat,1+n5 % 5=(bc:Int)/\1<=bc/\bc<=5:=⟨(1+n5 % 5).toNat,by lia,by lia,by lia⟩
 obtain ⟨t1,y10,y11,ee,hl1,ht1⟩:=Ce ns sg hsg most so (r1:Int) (sz:Int) h0 h1 (bk.map T.str) k bc hk c0 c1 (List.range sz) [] z10 z11 (fun j hj=>by have:=List.mem_range.mp hj;lia) (by rw [List.length_range];simp;lia) (fun x hx=>by simp at hx)
 rw [List.length_range,List.length_nil,Nat.zero_add] at hl1
 have B1:Bk (most.toNat - r1) (bk++[t1]):=B.snoc (by lia) ht1
 have ap:=jA (i:=5) (e:=ah 9) (t:=.str t1) (l:=bk.map T.str) (η:=[some (.pu (.scr ns)),some (.pu (.int most)),some (.pu (sgT sg)),some (.pu (.int so)),some (.pu (.int (r1:Int))),some (.ow (.lst (bk.map T.str))),some (.pu (.int k)),some (.pu (.int (sz:Int))),some (.pu (.int (bc:Int))),some (.pu (.str t1)),y10,y11]) rfl (by simp) (by rw [List.length_map];lia)
 have fo:dW (bw 10) (bJ (ah 7)) bF [some (.pu (.scr ns)),some (.pu (.int most)),some (.pu (sgT sg)),some (.pu (.int so)),some (.pu (.int (r1:Int))),some (.ow (.lst (bk.map T.str))),some (.pu (.int k)),some (.pu (.int (sz:Int))),some (.pu (.int (bc:Int))),some (.pu (.str [])),z10,z11]=some (.nx [some (.pu (.scr ns)),some (.pu (.int most)),some (.pu (sgT sg)),some (.pu (.int so)),some (.pu (.int (r1:Int))),some (.ow (.lst (bk.map T.str))),some (.pu (.int k)),some (.pu (.int (sz:Int))),some (.pu (.int (bc:Int))),some (.pu (.str t1)),y10,y11]):=by
   rw [fJ (kQ (m:=.fr) (n:=sz) (by simp) (by lia))]
   exact ee
 unfold bY
 rw [aq (η1:=[some (.pu (.scr ns)),some (.pu (.int most)),some (.pu (sgT sg)),some (.pu (.int so)),some (.pu (.int (room:Int))),some (.ow (.lst (bk.map T.str))),some (.pu (.int k)),some (.pu (.int (sz:Int))),z8,z9,z10,z11]) (by simp [hn4,aM (show 0 < most+1 by lia),hsz,dZ (i:=20) (by decide)])]
 rw [aq (η1:=[some (.pu (.scr ns)),some (.pu (.int most)),some (.pu (sgT sg)),some (.pu (.int so)),some (.pu (.int (r1:Int))),some (.ow (.lst (bk.map T.str))),some (.pu (.int k)),some (.pu (.int (sz:Int))),z8,z9,z10,z11]) (by simp [er])]
 rw [aq (η1:=[some (.pu (.scr ns)),some (.pu (.int most)),some (.pu (sgT sg)),some (.pu (.int so)),some (.pu (.int (r1:Int))),some (.ow (.lst (bk.map T.str))),some (.pu (.int k)),some (.pu (.int (sz:Int))),some (.pu (.int (bc:Int))),z9,z10,z11]) (by simp [hn5,aM (j:=5) (by decide),hbc,dZ (i:=20) (by decide)])]
 rw [aq (η1:=[some (.pu (.scr ns)),some (.pu (.int most)),some (.pu (sgT sg)),some (.pu (.int so)),some (.pu (.int (r1:Int))),some (.ow (.lst (bk.map T.str))),some (.pu (.int k)),some (.pu (.int (sz:Int))),some (.pu (.int (bc:Int))),some (.pu (.str [])),z10,z11]) (by simp)]
 rw [aq fo,aq (η1:=[some (.pu (.scr ns)),some (.pu (.int most)),some (.pu (sgT sg)),some (.pu (.int so)),some (.pu (.int (r1:Int))),some (.ow (.lst ((bk++[t1]).map T.str))),some (.pu (.int k)),some (.pu (.int (sz:Int))),some (.pu (.int (bc:Int))),some (.pu (.str t1)),y10,y11]) (by rw [ap];simp)]
 by_cases p:(2:Int) < (sz:Int)/\n5 % 3=0/\(2:Int)<=(r1:Int)
 · have cu:cut t1 (some 1) (some 3)=(t1.drop 1).take 2:=pK t1 1 2 (by lia)
   have az2:Az ((t1.drop 1).take 2):=fun x hx=>ht1 x (List.mem_of_mem_drop (List.mem_of_mem_take hx))
   have l2:((t1.drop 1).take 2).length<=2:=by rw [List.length_take];lia
   have ap2:=jA (i:=5) (e:=eSl (ah 9) (some (eC (.int 1))) (some (eC (.int 3)))) (t:=.str ((t1.drop 1).take 2)) (l:=(bk++[t1]).map T.str) (η:=[some (.pu (.scr ns)),some (.pu (.int most)),some (.pu (sgT sg)),some (.pu (.int so)),some (.pu (.int (r1:Int))),some (.ow (.lst ((bk++[t1]).map T.str))),some (.pu (.int k)),some (.pu (.int (sz:Int))),some (.pu (.int (bc:Int))),some (.pu (.str t1)),y10,y11]) rfl (by simp [cu]) (by rw [List.length_map,List.length_append,List.length_singleton];lia)
   refine ⟨r1 - 2,bk++[t1]++[(t1.drop 1).take 2],some (.pu (.int (sz:Int))),some (.pu (.int (bc:Int))),some (.pu (.str t1)),y10,y11,by lia,B1.snoc (by lia) az2,by simp,?_⟩
   rw [oy (m:=.fr) (by simp [hn5,aM (j:=3) (by decide),p.1,p.2.1,p.2.2,dZ (i:=20) (by decide)])]
   rw [aq (η1:=[some (.pu (.scr ns)),some (.pu (.int most)),some (.pu (sgT sg)),some (.pu (.int so)),some (.pu (.int (r1:Int))),some (.ow (.lst ((bk++[t1]++[(t1.drop 1).take 2]).map T.str))),some (.pu (.int k)),some (.pu (.int (sz:Int))),some (.pu (.int (bc:Int))),some (.pu (.str t1)),y10,y11]) (by rw [ap2];simp)]
   have e2':((r1:Int) - 2)=((r1 - 2:Nat):Int):=by lia
   simp [e2']
 · refine ⟨r1,bk++[t1],some (.pu (.int (sz:Int))),some (.pu (.int (bc:Int))),some (.pu (.str t1)),y10,y11,by lia,B1,by simp,?_⟩
   rw [lX (m:=.fr) (by
     by_cases p1:(2:Int) < (sz:Int)
     · by_cases p2:n5 % 3=0
       · have p3:¬ (2:Int)<=(r1:Int):=fun z=>p ⟨p1,p2,z⟩
         simp [hn5,aM (j:=3) (by decide),p1,p2,p3,dZ (i:=20) (by decide)]
       · have q2:(n5 % 3 == 0)=false:=by simpa using p2
         simp [hn5,aM (j:=3) (by decide),p1,q2,dZ (i:=20) (by decide)]
     · simp [p1])]
   simp
theorem BV (ns:List Int) (sg:List Nat) (hsg:Az sg) (most so:Int) (hm0:0<=most) (hm1:most<=120) (h0:0 < so) (h1:so<=sg.length) (ks:List Nat):∀ (room:Nat) (bk:List Tx) (z6 z7 z8 z9 z10 z11:Option Cell),(∀ k∈ks,k < 6)->(room:Int)<=most->Bk (most.toNat - room) bk->bk.length+2 * ks.length<=100 →
   ∃ (room':Int) (bk':List Tx) (y6 y7 y8 y9 y10 y11:Option Cell),Bk most.toNat bk'/\bk'.length<=bk.length+2 * ks.length/\forL (bw 6) bY (ks.map fun (k:Nat)=>T.int (k:Int)) [some (.pu (.scr ns)),some (.pu (.int most)),some (.pu (sgT sg)),some (.pu (.int so)),some (.pu (.int (room:Int))),some (.ow (.lst (bk.map T.str))),z6,z7,z8,z9,z10,z11] =
     some (.nx [some (.pu (.scr ns)),some (.pu (.int most)),some (.pu (sgT sg)),some (.pu (.int so)),some (.pu (.int room')),some (.ow (.lst (bk'.map T.str))),y6,y7,y8,y9,y10,y11]):=by
 induction ks with
 | nil=>exact fun room bk z6 z7 z8 z9 z10 z11 _ hr B _=>⟨room,bk,z6,z7,z8,z9,z10,z11,⟨by have:=B.n;lia,B.az⟩,by simp,by simp [forL]⟩
 | cons k ks ih =>
   intro room bk z6 z7 z8 z9 z10 z11 hk hr B hl
   rw [List.length_cons] at hl
   obtain ⟨r1,b1,y7,y8,y9,y10,y11,hr1,B1,hl1,eb⟩:=qz ns sg hsg most so hm0 hm1 h0 h1 k (hk k List.mem_cons_self) room hr bk B (by lia) z7 z8 z9 z10 z11
   obtain ⟨r2,b2,x6,x7,x8,x9,x10,x11,B2,hl2,e⟩:=ih r1 b1 (some (.pu (.int k))) y7 y8 y9 y10 y11 (fun i hi=>hk i (List.mem_cons_of_mem _ hi)) (by lia) B1 (by lia)
   refine ⟨r2,b2,x6,x7,x8,x9,x10,x11,B2,by rw [List.length_cons];lia,?_⟩
   rw [List.map_cons,cx (by simp) eb,e]
end T25
end
section
namespace T25
open VS
theorem B6 {α:Type} (l:List α):cut l none (some 8)=l.take 8:=by
 simp only [cut,clip]
 by_cases h:8<=l.length
 · simp [Nat.min_eq_left h]
 · simp [Nat.min_eq_right (Nat.le_of_lt (Nat.lt_of_not_le h))]
   rw [List.take_of_length_le (by lia)]
theorem Bk.take {m:Nat} {bk:List Tx} (B:Bk m bk) (n:Nat):Bk m (bk.take n):=by
 refine ⟨?_,fun t ht=>B.az t (List.mem_of_mem_take ht)⟩
 have h:bk.flatten=(bk.take n).flatten++(bk.drop n).flatten:=by rw [← List.flatten_append,List.take_append_drop]
 have:=B.n
 rw [h,List.length_append] at this
 lia
theorem uZ (l:List Tx):d6 (l.map T.str)=true:=by
 induction l with
 | nil=>rfl
 | cons a l ih=>simpa [d6,imm] using ih
theorem sH (ns:List Int) (most:Int) (hm0:0<=most) (hm1:most<=120):∃ bk:List Tx,b7 [.scr ns,.int most]=some (.fr,.lst (bk.map T.str))/\Bk most.toNat bk/\bk.length<=8:=by
 obtain ⟨n1,hn1,_,_⟩:=cK ns 1 (by lia) (by lia)
 obtain ⟨n2,hn2,_,_⟩:=cK ns 2 (by lia) (by lia)
 obtain ⟨n3,hn3,_,_⟩:=cK ns 3 (by lia) (by lia)
 obtain ⟨sg,hs,hl,haz⟩:=lR n1
 have a0:=Int.emod_nonneg n2 (b:=8) (by decide)
 have a1:=Int.emod_lt_of_pos n2 (b:=8) (by decide)
 have li:=fun m n=>jW (m:=m) (n:=n) T.int [1,2,3,4,2,3,9,26] (n2 % 8) 0 a0 (by simpa using a1) rfl
 simp only [List.map_cons,List.map_nil] at li
 obtain ⟨so,hso,s0,s1⟩:∃ so:Int,List.getD [1,2,3,4,2,3,9,26] (n2 % 8).toNat 0=so/\0 < so/\so<=26:=by
   have pk:∀ i,i < 8->0 < (List.getD [1,2,3,4,2,3,9,26] i 0:Int)/\(List.getD [1,2,3,4,2,3,9,26] i 0:Int)<=26:=by decide
   have h:=pk (n2 % 8).toNat (by lia)
   exact ⟨_,rfl,h.1,h.2⟩
 rw [hso] at li
 have b0:=Int.emod_nonneg n3 (b:=6) (by decide)
 have b1:=Int.emod_lt_of_pos n3 (b:=6) (by decide)
 obtain ⟨mn,hmn,m1⟩:∃ mn:Nat,n3 % 6=(mn:Int)/\mn < 6:=⟨(n3 % 6).toNat,by lia,by lia⟩
 obtain ⟨rm,hrm⟩:∃ rm:Nat,most=(rm:Int):=⟨most.toNat,by lia⟩
 obtain ⟨r2,b2,x6,x7,x8,x9,x10,x11,B2,hl2,e⟩:=BV ns sg haz most so hm0 hm1 s0 (by lia) (List.range mn) rm [] none none none none none none (fun k hk=>by have:=List.mem_range.mp hk;lia) (by lia) ⟨by simp,fun t ht=>by simp at ht⟩ (by rw [List.length_range];simp;lia)
 refine ⟨b2.take 8,?_,B2.take 8,by rw [List.length_take];lia⟩
 unfold b7
 refine eJ rfl (η:=[some (.pu (.scr ns)),some (.pu (.int most)),some (.pu (sgT sg)),some (.pu (.int so)),some (.pu (.int r2)),some (.pu (.lst (b2.map T.str))),x6,x7,x8,x9,x10,x11]) ?_
 refine (show av _ _ [some (.pu (.scr ns)),some (.pu (.int most)),none,none,none,none,none,none,none,none,none,none]=_ from ?_)
 rw [aq (η1:=[some (.pu (.scr ns)),some (.pu (.int most)),some (.pu (sgT sg)),none,none,none,none,none,none,none,none,none]) (by simp [hn1,hs])]
 rw [aq (η1:=[some (.pu (.scr ns)),some (.pu (.int most)),some (.pu (sgT sg)),some (.pu (.int so)),none,none,none,none,none,none,none,none]) (by simp [-aS,hn2,aM (j:=8) (by decide),dG,li])]
 rw [aq (η1:=[some (.pu (.scr ns)),some (.pu (.int most)),some (.pu (sgT sg)),some (.pu (.int so)),some (.pu (.int (rm:Int))),none,none,none,none,none,none,none]) (by simp [hrm])]
 rw [aq (η1:=[some (.pu (.scr ns)),some (.pu (.int most)),some (.pu (sgT sg)),some (.pu (.int so)),some (.pu (.int (rm:Int))),some (.ow (.lst (([]:List Tx).map T.str))),none,none,none,none,none,none]) (by simp [dG])]
 rw [aq (show dW _ _ _ _=_ from by
   rw [fJ (kQ (m:=.fr) (n:=mn) (by simp [hn3,aM (j:=6) (by decide),hmn]) (by lia))]
   exact e)]
 rw [aq (η1:=[some (.pu (.scr ns)),some (.pu (.int most)),some (.pu (sgT sg)),some (.pu (.int so)),some (.pu (.int r2)),some (.pu (.lst (b2.map T.str))),x6,x7,x8,x9,x10,x11]) (by simp [p7])]
 have mk:mkL .pu ((b2.take 8).map T.str)=some (.fr,.lst ((b2.take 8).map T.str)):=by
   unfold mkL
   rw [if_pos (show ((b2.take 8).map T.str).length<=d5 by rw [List.length_map,List.length_take];show _<=16777216;lia),if_pos (uZ _)]
 simp [B6,← List.map_take,mk]
end T25
end
section
namespace T25
open VS
theorem tU {α:Type} (l:List α) (n:Nat) (h:n<=l.length):cut l none (some (n:Int))=l.take n:=by
 have h1:¬ ((n:Int) < 0):=by lia
 simp only [cut,clip,if_neg h1,Int.toNat_natCast,Nat.min_eq_left h]
 simp
theorem uu {α:Type} (l:List α) (n:Nat) (h:n<=l.length):cut l (some (n:Int)) none=l.drop n:=by
 have h1:¬ ((n:Int) < 0):=by lia
 simp only [cut,clip,if_neg h1,Int.toNat_natCast,Nat.min_eq_left h]
 rw [List.take_of_length_le (by simp)]
theorem sN (n x:Nat):(List.replicate n [x]).flatten=List.replicate n x:=by
 induction n with
 | zero=>rfl
 | succ n ih=>rw [List.replicate_succ,List.flatten_cons,ih];rfl
theorem vU (ns:List Int):∃ bk:List Tx,bR [.scr ns]=some (.fr,.lst (bk.map T.str))/\Bk 120 bk/\bk.length<=8:=by
 obtain ⟨n1,hn1,_,_⟩:=cK ns 1 (by lia) (by lia)
 obtain ⟨n2,hn2,_,_⟩:=cK ns 2 (by lia) (by lia)
 obtain ⟨n3,hn3,_,_⟩:=cK ns 3 (by lia) (by lia)
 obtain ⟨n4,hn4,_,_⟩:=cK ns 4 (by lia) (by lia)
 obtain ⟨sg,hs,hl,haz⟩:=lR n1
 have a0:=Int.emod_nonneg n2 (b:=21) (by decide)
 have a1:=Int.emod_lt_of_pos n2 (b:=21) (by decide)
 obtain ⟨L,hL,l0,l1⟩:∃ L:Nat,100+n2 % 21=(L:Int)/\100<=L/\L<=120:=⟨(100+n2 % 21).toNat,by lia,by lia,by lia⟩
 have ix0:=fun m n=>mm (m:=m) (n:=n) sg 0 (by lia) (by lia)
 have ix1:=fun m n=>mm (m:=m) (n:=n) sg 1 (by lia) (by lia)
 have z0:Az [sg.getD (0:Int).toNat 0]:=iJ haz (by simp;lia)
 have z1:Az [sg.getD (1:Int).toNat 0]:=iJ haz (by simp;lia)
 generalize sg.getD (0:Int).toNat 0=x at ix0 z0
 generalize sg.getD (1:Int).toNat 0=y at ix1 z1
 have rp:∀ m n,jl (m,.str [x]) (n,.int (L:Int))=some (.fr,.str (List.replicate L x)):=fun m n=>by
   exact (if_pos (by show [x].length * (L:Int).toNat<=16777216/\-4611686018427387904<=(L:Int)/\(L:Int) < 4611686018427387904;simp;lia)).trans (by rw [Int.toNat_natCast,sN])
 have tl:(List.replicate L x).length=L:=List.length_replicate
 have ta:Az (List.replicate L x):=fun c hc=>by
   rw [(List.mem_replicate.mp hc).2]
   exact z0 x (by simp)
 generalize List.replicate L x=t at rp tl ta
 have done:∀ (t':Tx) (z:Option Cell),t'.length<=120->Az t'->(cW (gw (af (ah 2) aA))) [some (.pu (.scr ns)),some (.pu (sgT sg)),some (.pu (.str t')),z]=some (.rt (.fr,.lst (([t']:List Tx).map T.str)) [some (.pu (.scr ns)),some (.pu (sgT sg)),some (.pu (.str t')),z]):=fun t' z _ _=>by
   simp [dG]
 have bk1:∀ t':Tx,t'.length<=120->Az t'->Bk 120 [t']:=fun t' h1 h2=>⟨by simpa using h1,fun s hs=>by rw [List.mem_singleton.mp hs];exact h2⟩
 have st1:(aK 1 (aJ bz (af (aJ aw (af (ah 0) (af (eC (.int 1)) aA))) aA))) [some (.pu (.scr ns)),none,none,none]=some (.nx [some (.pu (.scr ns)),some (.pu (sgT sg)),none,none]):=by simp [hn1,hs]
 have st2:(aK 2 (e2 jl (e2 aS (ah 1) (eC (.int 0))) (e2 bt (eC (.int 100)) (e2 oMod (aJ aw (af (ah 0) (af (eC (.int 2)) aA))) (eC (.int 21)))))) [some (.pu (.scr ns)),some (.pu (sgT sg)),none,none]=some (.nx [some (.pu (.scr ns)),some (.pu (sgT sg)),some (.pu (.str t)),none]):=by
   simp [-aS,hn2,aM (j:=21) (by decide),hL,ix0,rp]
 by_cases p:n3 % 2=0
 · have b0:=Int.emod_nonneg n4 (b:=(t.length:Int)) (by lia)
   have b1:=Int.emod_lt_of_pos n4 (b:=(t.length:Int)) (by lia)
   obtain ⟨q,hq,hq2⟩:∃ q:Nat,n4 % (t.length:Int)=(q:Int)/\q < t.length:=⟨(n4 % (t.length:Int)).toNat,by lia,by lia⟩
   have c1:=tU t q (by lia)
   have c2:=uu t (q+1) (by lia)
   have eq1:((q:Int)+1)=((q+1:Nat):Int):=by lia
   have ad1:∀ m n,bt (m,.str (t.take q)) (n,.str [y])=some (.fr,.str (t.take q++[y])):=fun m n=>ft (by rw [List.length_take];simp;lia)
   have ad2:∀ m n,bt (m,.str (t.take q++[y])) (n,.str (t.drop (q+1)))=some (.fr,.str (t.take q++[y]++t.drop (q+1))):=fun m n=>ft (by rw [List.length_append,List.length_take,List.length_drop];simp;lia)
   have len:(t.take q++[y]++t.drop (q+1)).length<=120:=by rw [List.length_append,List.length_append,List.length_take,List.length_drop,List.length_singleton];lia
   have az:Az (t.take q++[y]++t.drop (q+1)):=(Az.app (Az.app (fun c hc=>ta c (List.mem_of_mem_take hc)) z1) (fun c hc=>ta c (List.mem_of_mem_drop hc)))
   refine ⟨[t.take q++[y]++t.drop (q+1)],?_,bk1 _ len az,by simp⟩
   have s1:eSl (ah 2) none (some (ah 3)) [some (.pu (.scr ns)),some (.pu (sgT sg)),some (.pu (.str t)),some (.pu (.int q))]=some (.fr,.str (t.take q)):=by simp [c1]
   have s2:eSl (ah 2) (some (e2 bt (ah 3) (eC (.int 1)))) none [some (.pu (.scr ns)),some (.pu (sgT sg)),some (.pu (.str t)),some (.pu (.int q))]=some (.fr,.str (t.drop (q+1))):=by
     rw [← c2,← eq1]
     simp
   have s3:e2 aS (ah 1) (eC (.int 1)) [some (.pu (.scr ns)),some (.pu (sgT sg)),some (.pu (.str t)),some (.pu (.int q))]=some (.fr,.str [y]):=by simp [-aS,ix1]
   have big:e2 bt (e2 bt (eSl (ah 2) none (some (ah 3))) (e2 aS (ah 1) (eC (.int 1)))) (eSl (ah 2) (some (e2 bt (ah 3) (eC (.int 1)))) none) [some (.pu (.scr ns)),some (.pu (sgT sg)),some (.pu (.str t)),some (.pu (.int q))]=some (.fr,.str (t.take q++[y]++t.drop (q+1))):=by
     show ((((eSl (ah 2) none (some (ah 3))) [some (.pu (.scr ns)),some (.pu (sgT sg)),some (.pu (.str t)),some (.pu (.int q))]).bind fun a=>((e2 aS (ah 1) (eC (.int 1))) [some (.pu (.scr ns)),some (.pu (sgT sg)),some (.pu (.str t)),some (.pu (.int q))]).bind fun b=>bt a b).bind fun a=>((eSl (ah 2) (some (e2 bt (ah 3) (eC (.int 1)))) none) [some (.pu (.scr ns)),some (.pu (sgT sg)),some (.pu (.str t)),some (.pu (.int q))]).bind fun b=>bt a b)=_
     rw [s1,s2,s3,Option.bind_some,Option.bind_some,ad1,Option.bind_some,Option.bind_some,ad2]
   unfold bR
   refine eJ rfl (η:=[some (.pu (.scr ns)),some (.pu (sgT sg)),some (.pu (.str (t.take q++[y]++t.drop (q+1)))),some (.pu (.int q))]) ?_
   refine (show av _ _ [some (.pu (.scr ns)),none,none,none]=_ from ?_)
   rw [aq st1,aq st2]
   rw [aq (η1:=[some (.pu (.scr ns)),some (.pu (sgT sg)),some (.pu (.str (t.take q++[y]++t.drop (q+1)))),some (.pu (.int q))]) (by
     rw [oy (m:=.fr) (by simp [hn3,aM (j:=2) (by decide),p])]
     rw [aq (η1:=[some (.pu (.scr ns)),some (.pu (sgT sg)),some (.pu (.str t)),some (.pu (.int q))]) (by simp [hn4,aM (show (0:Int) < (t.length:Int) by lia),hq])]
     simp only [aK,big,Option.bind_some]
     simp)]
   exact done _ _ len az
 · refine ⟨[t],?_,bk1 t (by lia) ta,by simp⟩
   unfold bR
   refine eJ rfl (η:=[some (.pu (.scr ns)),some (.pu (sgT sg)),some (.pu (.str t)),none]) ?_
   refine (show av _ _ [some (.pu (.scr ns)),none,none,none]=_ from ?_)
   have q2:(n3 % 2 == 0)=false:=by simpa using p
   rw [aq st1,aq st2]
   rw [aq (η1:=[some (.pu (.scr ns)),some (.pu (sgT sg)),some (.pu (.str t)),none]) (by
     rw [lX (m:=.fr) (by simp [hn3,aM (j:=2) (by decide),q2])]
     simp)]
   exact done t none (by lia) ta
end T25
end
section
namespace T25
open VS
theorem Bk.up {m n:Nat} {bk:List Tx} (B:Bk m bk) (h:m<=n):Bk n bk:=⟨Nat.le_trans B.n h,B.az⟩
theorem zQ (ns:List Int):∃ bk:List Tx,cA [.scr ns,.int 60]=some (.fr,.lst (bk.map T.str))/\Bk 120 bk/\bk.length<=8:=by
 obtain ⟨c,hc⟩:=zG ns
 obtain ⟨n5,hn5,_,_⟩:=cK ns 5 (by lia) (by lia)
 obtain ⟨n0,hn0,_,_⟩:=cK ns 0 (by lia) (by lia)
 by_cases p:c % 2=0
 · obtain ⟨bk,hb,B,hl⟩:=uw (c / 2)
   refine ⟨bk,?_,B.up (by lia),by lia⟩
   unfold cA
   refine eJ rfl (η:=[some (.pu (.scr ns)),some (.pu (.int 60))]) ?_
   refine (show av _ _ [some (.pu (.scr ns)),some (.pu (.int 60))]=_ from ?_)
   have st:(sIf (e2 oEq (e2 oMod (aJ bE (af (ah 0) (af (eC (.int 0)) aA))) (eC (.int 2))) (eC (.int 0))) (cW (aJ br (af (e2 dU (aJ bE (af (ah 0) (af (eC (.int 0)) aA))) (eC (.int 2))) aA))) gc) [some (.pu (.scr ns)),some (.pu (.int 60))]=some (.rt (.fr,.lst (bk.map T.str)) [some (.pu (.scr ns)),some (.pu (.int 60))]):=by
     rw [oy (m:=.fr) (by simp [hc,aM (j:=2) (by decide),p])]
     simp [hc,dn (j:=2) (by decide),hb]
   unfold av
   rw [st]
   rfl
 · have q2:(c % 2 == 0)=false:=by simpa using p
   have st1:(sIf (e2 oEq (e2 oMod (aJ bE (af (ah 0) (af (eC (.int 0)) aA))) (eC (.int 2))) (eC (.int 0))) (cW (aJ br (af (e2 dU (aJ bE (af (ah 0) (af (eC (.int 0)) aA))) (eC (.int 2))) aA))) gc) [some (.pu (.scr ns)),some (.pu (.int 60))]=some (.nx [some (.pu (.scr ns)),some (.pu (.int 60))]):=by
     rw [lX (m:=.fr) (by simp [hc,aM (j:=2) (by decide),q2])]
     simp
   by_cases r:n5 % 16=0
   · obtain ⟨bk,hb,B,hl⟩:=vU ns
     refine ⟨bk,?_,B,hl⟩
     unfold cA
     refine eJ rfl (η:=[some (.pu (.scr ns)),some (.pu (.int 60))]) ?_
     refine (show av _ _ [some (.pu (.scr ns)),some (.pu (.int 60))]=_ from ?_)
     have st2:(sIf (gU (e2 oGt (ah 1) (eC (.int 30))) (e2 oEq (e2 oMod (aJ aw (af (ah 0) (af (eC (.int 5)) aA))) (eC (.int 16))) (eC (.int 0)))) (cW (aJ bR (af (ah 0) aA))) gc) [some (.pu (.scr ns)),some (.pu (.int 60))]=some (.rt (.fr,.lst (bk.map T.str)) [some (.pu (.scr ns)),some (.pu (.int 60))]):=by
       rw [oy (m:=.fr) (by simp [hn5,aM (j:=16) (by decide),r])]
       simp [hb]
     rw [aq st1]
     unfold av
     rw [st2]
     rfl
   · have r2:(n5 % 16 == 0)=false:=by simpa using r
     have st2:(sIf (gU (e2 oGt (ah 1) (eC (.int 30))) (e2 oEq (e2 oMod (aJ aw (af (ah 0) (af (eC (.int 5)) aA))) (eC (.int 16))) (eC (.int 0)))) (cW (aJ bR (af (ah 0) aA))) gc) [some (.pu (.scr ns)),some (.pu (.int 60))]=some (.nx [some (.pu (.scr ns)),some (.pu (.int 60))]):=by
       rw [lX (m:=.fr) (by simp [hn5,aM (j:=16) (by decide),r2])]
       simp
     have a0:=Int.emod_nonneg n0 (b:=4) (by decide)
     have a1:=Int.emod_lt_of_pos n0 (b:=4) (by decide)
     have li:=fun m n=>jW (m:=m) (n:=n) T.int [24,24,24,60] (n0 % 4) 0 a0 (by simpa using a1) rfl
     simp only [List.map_cons,List.map_nil] at li
     obtain ⟨mo,hmo,m0,m1⟩:∃ mo:Int,List.getD [24,24,24,60] (n0 % 4).toNat 0=mo/\0<=mo/\mo<=120:=by
       have pk:∀ i,i < 4->0<=(List.getD [24,24,24,60] i 0:Int)/\(List.getD [24,24,24,60] i 0:Int)<=120:=by decide
       have h:=pk (n0 % 4).toNat (by lia)
       exact ⟨_,rfl,h.1,h.2⟩
     rw [hmo] at li
     obtain ⟨bk,hb,B,hl⟩:=sH ns mo m0 m1
     refine ⟨bk,?_,B.up (by lia),hl⟩
     unfold cA
     refine eJ rfl (η:=[some (.pu (.scr ns)),some (.pu (.int 60))]) ?_
     refine (show av _ _ [some (.pu (.scr ns)),some (.pu (.int 60))]=_ from ?_)
     rw [aq st1,aq st2]
     simp [-aS,hn0,aM (j:=4) (by decide),dG,li,hb]
end T25
end
section
namespace T25
open VS
noncomputable abbrev Pl:=Nat×Nat
noncomputable def tP (p:Pl):T:=.tup [.int p.1,.int p.2]
noncomputable abbrev Fd:=List (Tx×List Pl)
noncomputable def dT (d:Fd):List (T×T):=d.map fun p=>(T.str p.1,T.lst (p.2.map tP))
noncomputable def cE:Fd->Tx->Pl->Fd
 | [],w,p=>[(w,[p])]
 | (x,l) :: d,w,p=>if x=w then (x,l++[p]) :: d else (x,l) :: cE d w p
noncomputable def oW (f:T->Option (T×Val)) (w:Tx) (L:List (T×T)):Option (List (T×T)):=(L.findIdx? fun q=>eqT q.1 (.str w)).bind fun i=>(L[i]?).bind fun q=>(f q.2).map fun z=>L.set i (q.1,z.1)
theorem qY {f:T->Option (T×Val)} {w:Tx} {a:T×T} {L:List (T×T)} (h:eqT a.1 (.str w)=false):oW f w (a :: L)=(oW f w L).map (a :: ·):=by
 unfold oW
 rw [List.findIdx?_cons,if_neg (by rw [h];simp)]
 cases e:L.findIdx? fun q=>eqT q.1 (.str w) with
 | none=>rfl
 | some i =>
   simp only [Option.map_some,Option.bind_some,List.getElem?_cons_succ]
   cases e2:L[i]? with
   | none=>rfl
   | some q =>
     simp only [Option.bind_some]
     cases f q.2 with
     | none=>rfl
     | some z=>rfl
theorem mJ {f:T->Option (T×Val)} {w:Tx} {a:T×T} {L:List (T×T)} (h:eqT a.1 (.str w)=true):oW f w (a :: L)=(f a.2).map fun z=>(a.1,z.1) :: L:=by
 unfold oW
 rw [List.findIdx?_cons,if_pos h]
 rfl
theorem ni {k:T} {a:T×T} {L:List (T×T)} (h:eqT a.1 k=false):cq (a :: L) k=a :: cq L k:=by
 unfold cq dQ
 rw [List.find?_cons,h]
 dsimp only
 by_cases q:(Option.map (fun x=>x.2) (L.find? fun p=>eqT p.1 k)).isSome=true
 · rw [if_pos q,if_pos q]
 · rw [if_neg q,if_neg q]
   rfl
theorem oO {k:T} {a:T×T} {L:List (T×T)} (h:eqT a.1 k=true):cq (a :: L) k=a :: L:=by
 unfold cq dQ
 rw [List.find?_cons,h]
 rfl
theorem oQ (d:Fd) (w:Tx) (p:Pl) (hl:∀ q∈d,q.2.length < 16777216):oW (fun x=>bg x [(.fr,tP p)]) w (cq (dT d) (.str w))=some (dT (cE d w p)):=by
 induction d with
 | nil =>
   have:cq (dT []) (.str w)=[(.str w,.lst [])]:=rfl
   rw [this,mJ (by simp),eB (by decide)]
   rfl
 | cons a d ih =>
   obtain ⟨x,l⟩:=a
   by_cases e:x=w
   · subst e
     have h:eqT (T.str x) (.str x)=true:=by simp
     rw [show dT ((x,l) :: d)=(T.str x,T.lst (l.map tP)) :: dT d from rfl,oO h,mJ h,eB (by rw [List.length_map];exact hl (x,l) List.mem_cons_self)]
     simp [cE,dT]
   · have h:eqT (T.str x) (.str w)=false:=by simpa using e
     rw [show dT ((x,l) :: d)=(T.str x,T.lst (l.map tP)) :: dT d from rfl,ni h,qY h,ih fun q hq=>hl q (List.mem_cons_of_mem _ hq)]
     simp [cE,dT,e]
theorem qb {i:Nat} {ck:Ex} {cv:Ex} {η:Env} {d:Fd} {w:Tx} {p:Pl} {m:Md} (h:η[i]?=some (some (.ow (.dct 0 (dT d))))) (hk:ck η=some (m,.str w)) (hv:∀ c,cv (η.set i c)=some (.fr,tP p)) (hl:∀ q∈d,q.2.length < 16777216) (hd:d.length < 16777216) :
   gN i ck (af cv aA) η=some (.nx (η.set i (some (.ow (.dct 0 (dT (cE d w p))))))):=by
 unfold gN
 simp only [h]
 rw [hk,Option.bind_some,if_pos ⟨rfl,by rw [dT,List.length_map];exact hd⟩]
 have e:af cv aA (η.set i (some (.ow (.dct 0 (cq (dT d) (.str w))))))=some [(.fr,tP p)]:=by simp [hv]
 rw [e,Option.bind_some]
 have pk:=oQ d w p hl
 unfold oW at pk
 obtain ⟨j,h1,pk⟩:=Option.bind_eq_some_iff.mp pk
 obtain ⟨q,h2,pk⟩:=Option.bind_eq_some_iff.mp pk
 obtain ⟨z,h3,pk⟩:=Option.map_eq_some_iff.mp pk
 have hp:pm (fun x=>bg x [(.fr,tP p)]) [.at (.str w)] (.dct 0 (cq (dT d) (.str w)))=some (.dct 0 (dT (cE d w p)),z.2):=by
   show (if gh (.str w) then _ else none)=_
   rw [if_pos (show gh (.str w)=true from rfl),h1,Option.bind_some,h2,Option.bind_some]
   show (bg q.2 [(.fr,tP p)]).map _=_
   rw [show bg q.2 [(.fr,tP p)]=some z from h3,Option.map_some,pk]
 rw [hp]
 rfl
end T25
end
section
namespace T25
open VS
noncomputable def Sz (N:Nat) (d:Fd):Prop:=d.length<=N/\∀ q∈d,q.2.length<=N
theorem uP (d:Fd) (w:Tx) (p:Pl):(cE d w p).length<=d.length+1:=by
 induction d with
 | nil=>simp [cE]
 | cons a d ih =>
   obtain ⟨x,l⟩:=a
   unfold cE
   split
   · simp
   · simp only [List.length_cons];lia
theorem t6 (d:Fd) (w:Tx) (p:Pl) (N:Nat) (h:∀ q∈d,q.2.length<=N):∀ q∈cE d w p,q.2.length<=N+1:=by
 induction d with
 | nil=>intro q hq;simp [cE] at hq;rw [hq];simp
 | cons a d ih =>
   obtain ⟨x,l⟩:=a
   have h1:=h (x,l) List.mem_cons_self
   have ih:=ih fun q hq=>h q (List.mem_cons_of_mem _ hq)
   unfold cE
   split
   · intro q hq
     rcases List.mem_cons.mp hq with rfl | hq
     · simp only [List.length_append,List.length_singleton];simp only at h1;lia
     · have:=h q (List.mem_cons_of_mem _ hq);lia
   · intro q hq
     rcases List.mem_cons.mp hq with rfl | hq
     · simp only at h1 ⊢;lia
     · exact ih q hq
theorem Sz.add {N:Nat} {d:Fd} (h:Sz N d) (w:Tx) (p:Pl):Sz (N+1) (cE d w p):=⟨by have:=uP d w p;have:=h.1;lia,t6 d w p N h.2⟩
noncomputable def adds (n:Nat) (t:Tx) (e:Nat) (ss:List Nat) (d:Fd):Fd:=ss.foldl (fun d s=>cE d ((t.drop s).take (e - s)) (n,e)) d
theorem pl1 (bk:T) (n:Nat) (t:Tx) (e:Nat) (he:e<=t.length) (ss:List Nat):∀ (d:Fd) (N:Nat) (z:Option Cell),(∀ s∈ss,s<=e)->Sz N d->N+ss.length < 16777216 →
   ∃ z',forL (bw 5) cT (ss.map fun (s:Nat)=>T.int (s:Int)) [some (.pu bk),some (.ow (.dct 0 (dT d))),some (.pu (.int n)),some (.pu (.str t)),some (.pu (.int e)),z] =
     some (.nx [some (.pu bk),some (.ow (.dct 0 (dT (adds n t e ss d)))),some (.pu (.int n)),some (.pu (.str t)),some (.pu (.int e)),z'])/\Sz (N+ss.length) (adds n t e ss d):=by
 induction ss with
 | nil=>exact fun d N z _ h _=>⟨z,by simp [forL,adds],by simpa [adds] using h⟩
 | cons s ss ih =>
   intro d N z hs h hN
   rw [List.length_cons] at hN
   have hse:s<=e:=hs s List.mem_cons_self
   have cu:cut t (some (s:Int)) (some (e:Int))=(t.drop s).take (e - s):=by
     have:=pK t s (e - s) (by lia)
     rwa [show ((s:Int)+((e - s:Nat):Int))=(e:Int) by lia] at this
   obtain ⟨z',ee,hz⟩:=ih (cE d ((t.drop s).take (e - s)) (n,e)) (N+1) (some (.pu (.int s))) (fun i hi=>hs i (List.mem_cons_of_mem _ hi)) (h.add _ _) (by lia)
   refine ⟨z',?_,by rw [List.length_cons];rw [show N+(ss.length+1)=N+1+ss.length by lia];exact hz⟩
   have bo:cT [some (.pu bk),some (.ow (.dct 0 (dT d))),some (.pu (.int n)),some (.pu (.str t)),some (.pu (.int e)),some (.pu (.int s))] =
       some (.nx [some (.pu bk),some (.ow (.dct 0 (dT (cE d ((t.drop s).take (e - s)) (n,e))))),some (.pu (.int n)),some (.pu (.str t)),some (.pu (.int e)),some (.pu (.int s))]):=by
     unfold cT
     rw [qb (d:=d) (w:=(t.drop s).take (e - s)) (p:=(n,e)) (m:=.fr) rfl (by simp [cu]) (fun c=>by simp [jy,tP,up,imm,d6]) (fun q hq=>by have:=h.2 q hq;lia) (by have:=h.1;lia)]
     simp
   rw [List.map_cons,cx (by simp) bo,ee]
   rfl
end T25
end
section
namespace T25
open VS
noncomputable def fS (n:Nat) (t:Tx) (es:List Nat) (d:Fd):Fd:=es.foldl (fun d e=>adds n t e (List.range (e+1)) d) d
theorem pl2 (bk:T) (n:Nat) (t:Tx) (ht:t.length<=120) (es:List Nat):∀ (d:Fd) (N:Nat) (z4 z5:Option Cell),(∀ e∈es,e<=t.length)->Sz N d->N+121 * es.length < 16777216 →
   ∃ z4' z5',forL (bw 4) cV (es.map fun (e:Nat)=>T.int (e:Int)) [some (.pu bk),some (.ow (.dct 0 (dT d))),some (.pu (.int n)),some (.pu (.str t)),z4,z5] =
     some (.nx [some (.pu bk),some (.ow (.dct 0 (dT (fS n t es d)))),some (.pu (.int n)),some (.pu (.str t)),z4',z5'])/\Sz (N+121 * es.length) (fS n t es d):=by
 induction es with
 | nil=>exact fun d N z4 z5 _ h _=>⟨z4,z5,by simp [forL,fS],by simpa [fS] using h⟩
 | cons e es ih =>
   intro d N z4 z5 hs h hN
   rw [List.length_cons] at hN
   have he:e<=t.length:=hs e List.mem_cons_self
   obtain ⟨y5,e1,h1⟩:=pl1 bk n t e he (List.range (e+1)) d N z5 (fun s hs=>by have:=List.mem_range.mp hs;lia) h (by rw [List.length_range];lia)
   rw [List.length_range] at h1
   have h2:Sz (N+121) (adds n t e (List.range (e+1)) d):=⟨by have:=h1.1;lia,fun q hq=>by have:=h1.2 q hq;lia⟩
   obtain ⟨x4,x5,ee,hz⟩:=ih (adds n t e (List.range (e+1)) d) (N+121) (some (.pu (.int e))) y5 (fun i hi=>hs i (List.mem_cons_of_mem _ hi)) h2 (by lia)
   refine ⟨x4,x5,?_,by rw [List.length_cons,show N+121 * (es.length+1)=N+121+121 * es.length by lia];exact hz⟩
   have bo:cV [some (.pu bk),some (.ow (.dct 0 (dT d))),some (.pu (.int n)),some (.pu (.str t)),some (.pu (.int e)),z5] =
       some (.nx [some (.pu bk),some (.ow (.dct 0 (dT (adds n t e (List.range (e+1)) d)))),some (.pu (.int n)),some (.pu (.str t)),some (.pu (.int e)),y5]):=by
     unfold cV
     rw [fJ (kQ (m:=.fr) (n:=e+1) (by simp) (by lia))]
     exact e1
   rw [List.map_cons,cx (by simp) bo,ee]
   rfl
theorem pl3 (bk:T) (n:Nat) (t:Tx) (ht:t.length<=120) (d:Fd) (N:Nat) (z4 z5:Option Cell) (h:Sz N d) (hN:N+14641 < 16777216):∃ z4' z5',bZ [some (.pu bk),some (.ow (.dct 0 (dT d))),some (.pu (.int n)),some (.pu (.str t)),z4,z5] =
     some (.nx [some (.pu bk),some (.ow (.dct 0 (dT (fS n t (List.range (t.length+1)) d)))),some (.pu (.int n)),some (.pu (.str t)),z4',z5'])/\Sz (N+14641) (fS n t (List.range (t.length+1)) d):=by
 obtain ⟨z4',z5',e,hz⟩:=pl2 bk n t ht (List.range (t.length+1)) d N z4 z5 (fun e he=>by have:=List.mem_range.mp he;lia) h (by rw [List.length_range];lia)
 rw [List.length_range] at hz
 refine ⟨z4',z5',?_,⟨by have:=hz.1;lia,fun q hq=>by have:=hz.2 q hq;lia⟩⟩
 unfold bZ
 rw [fJ (kQ (m:=.fr) (n:=t.length+1) (by simp) (by lia))]
 exact e
end T25
end
section
namespace T25
open VS
noncomputable def gZ:Nat->List Tx->Fd->Fd
 | _,[],d=>d
 | n,t :: l,d=>gZ (n+1) l (fS n t (List.range (t.length+1)) d)
theorem pl4 (bk:T) (l:List Tx):∀ (n:Nat) (d:Fd) (N:Nat) (z2 z3 z4 z5:Option Cell),(∀ t∈l,t.length<=120)->Sz N d->N+14641 * l.length < 16000000 →
   ∃ z2' z3' z4' z5',forL (jC [bw 2,bw 3]) bZ ((l.zipIdx n).map fun p=>T.tup [.int p.2,.str p.1]) [some (.pu bk),some (.ow (.dct 0 (dT d))),z2,z3,z4,z5] =
     some (.nx [some (.pu bk),some (.ow (.dct 0 (dT (gZ n l d)))),z2',z3',z4',z5'])/\Sz (N+14641 * l.length) (gZ n l d):=by
 induction l with
 | nil=>exact fun n d N z2 z3 z4 z5 _ h _=>⟨z2,z3,z4,z5,by simp [forL,gZ],by simpa [gZ] using h⟩
 | cons t l ih =>
   intro n d N z2 z3 z4 z5 ht h hN
   rw [List.length_cons] at hN
   obtain ⟨y4,y5,e1,h1⟩:=pl3 bk n t (ht t List.mem_cons_self) d N z4 z5 h (by lia)
   obtain ⟨x2,x3,x4,x5,ee,hz⟩:=ih (n+1) (fS n t (List.range (t.length+1)) d) (N+14641) (some (.pu (.int n))) (some (.pu (.str t))) y4 y5 (fun s hs=>ht s (List.mem_cons_of_mem _ hs)) h1 (by lia)
   refine ⟨x2,x3,x4,x5,?_,by rw [List.length_cons,show N+14641 * (l.length+1)=N+14641+14641 * l.length by lia];exact hz⟩
   rw [List.zipIdx_cons,List.map_cons,cx (η1:=[some (.pu bk),some (.ow (.dct 0 (dT d))),some (.pu (.int n)),some (.pu (.str t)),z4,z5]) (by simp [jC,mq]) e1,ee]
   rfl
end T25
end
section
namespace T25
open VS
theorem enum_zip (l:List Tx):∀ n:Nat,eE n (l.map T.str)=(l.zipIdx n).map fun p=>T.tup [.int p.2,.str p.1]:=by
 induction l with
 | nil=>intro n;rfl
 | cons t l ih=>intro n;rw [List.zipIdx_cons,List.map_cons,List.map_cons,eE,ih (n+1)]
noncomputable def found (bk:List Tx):Fd:=gZ 0 bk [([],[])]
theorem uf (bk:List Tx) (B:Bk 120 bk) (hl:bk.length<=8):cI [.lst (bk.map T.str)]=some (.fr,.dct 0 (dT (found bk)))/\Sz 117129 (found bk):=by
 have hlen:∀ t∈bk,t.length<=120:=fun t ht=>by
   have h:t.length<=bk.flatten.length:=by
     obtain ⟨a,b,rfl⟩:=List.append_of_mem ht
     simp only [List.flatten_append,List.flatten_cons,List.length_append]
     lia
   have:=B.n
   lia
 obtain ⟨z2,z3,z4,z5,e,hz⟩:=pl4 (.lst (bk.map T.str)) bk 0 [([],[])] 1 none none none none hlen ⟨by simp,fun q hq=>by rw [List.mem_singleton.mp hq];simp⟩ (by lia)
 refine ⟨?_,⟨by have:=hz.1;unfold found;lia,fun q hq=>by have:=hz.2 q hq;lia⟩⟩
 unfold cI
 refine eJ rfl (η:=[some (.pu (.lst (bk.map T.str))),none,z2,z3,z4,z5]) ?_
 refine (show av _ _ [some (.pu (.lst (bk.map T.str))),none,none,none,none,none]=_ from ?_)
 rw [aq (η1:=[some (.pu (.lst (bk.map T.str))),some (.ow (.dct 0 (dT [([],[])]))),none,none,none,none]) (by
   have:i9 0 [((eC (.str [])),(gw aA))] [some (.pu (.lst (bk.map T.str))),none,none,none,none,none]=some (.fr,.dct 0 (dT [([],[])])):=rfl
   simp [this])]
 have fo:dW (jC [bw 2,bw 3]) (kJ (ah 0)) bZ [some (.pu (.lst (bk.map T.str))),some (.ow (.dct 0 (dT [([],[])]))),none,none,none,none]=some (.nx [some (.pu (.lst (bk.map T.str))),some (.ow (.dct 0 (dT (gZ 0 bk [([],[])])))),z2,z3,z4,z5]):=by
   rw [← enum_zip] at e
   simp [-forL,xG]
   exact e
 rw [aq fo]
 simp [found]
end T25
end
section
namespace T25
open VS
noncomputable def aL (d:Fd):List Tx:=d.map (·.1)
theorem oD (d:Fd) (w:Tx) (p:Pl):aL (cE d w p)=if w∈aL d then aL d else aL d++[w]:=by
 induction d with
 | nil=>simp [aL,cE]
 | cons a d ih =>
   obtain ⟨x,l⟩:=a
   unfold cE
   by_cases e:x=w
   · rw [if_pos e];subst e;simp [aL]
   · rw [if_neg e]
     have:aL ((x,l) :: cE d w p)=x :: aL (cE d w p):=rfl
     rw [this,ih]
     have e':¬ w=x:=fun z=>e z.symm
     by_cases m:w∈aL d
     · rw [if_pos m,if_pos (by simp only [aL,List.map_cons,List.mem_cons];exact .inr m)];rfl
     · rw [if_neg m,if_neg (by simp only [aL,List.map_cons,List.mem_cons,not_or];exact ⟨e',m⟩)];rfl
theorem v8 {d:Fd} {w x:Tx} {p:Pl}:x∈aL (cE d w p) ↔ x∈aL d\/x=w:=by
 rw [oD]
 by_cases m:w∈aL d
 · rw [if_pos m]
   constructor
   · exact .inl
   · rintro (h | rfl)
     · exact h
     · exact m
 · rw [if_neg m];simp
theorem zH {d:Fd} (w:Tx) (p:Pl) (h:(aL d).Nodup):(aL (cE d w p)).Nodup:=by
 rw [oD]
 by_cases m:w∈aL d
 · rw [if_pos m];exact h
 · rw [if_neg m]
   exact List.nodup_append.mpr ⟨h,by simp,fun a ha b hb e=>m (by rw [List.mem_singleton] at hb;rw [← hb,← e];exact ha)⟩
theorem zO {d:Fd} {r:List Tx} (w:Tx) (p:Pl) (h:aL d=[] :: r):∃ r',aL (cE d w p)=[] :: r':=by
 rw [oD]
 split
 · exact ⟨r,h⟩
 · exact ⟨r++[w],by rw [h];rfl⟩
theorem ky {P:Fd->Prop} (hP:∀ d w p,P d->P (cE d w p)):∀ (l:List Tx) (n:Nat) (d:Fd),P d->P (gZ n l d):=by
 have h1:∀ (n:Nat) (t:Tx) (e:Nat) (ss:List Nat) (d:Fd),P d->P (adds n t e ss d):=by
   intro n t e ss
   induction ss with
   | nil=>exact fun d h=>h
   | cons s ss ih=>exact fun d h=>ih _ (hP _ _ _ h)
 have h2:∀ (n:Nat) (t:Tx) (es:List Nat) (d:Fd),P d->P (fS n t es d):=by
   intro n t es
   induction es with
   | nil=>exact fun d h=>h
   | cons e es ih=>exact fun d h=>ih _ (h1 n t e _ d h)
 intro l
 induction l with
 | nil=>exact fun n d h=>h
 | cons t l ih=>exact fun n d h=>ih (n+1) _ (h2 n t _ d h)
theorem m7 (bk:List Tx):(aL (found bk)).Nodup:=ky (P:=fun d=>(aL d).Nodup) (fun d w p h=>zH w p h) bk 0 _ (by simp [aL])
theorem n6 (bk:List Tx):∃ r,aL (found bk)=[] :: r:=ky (P:=fun d=>∃ r,aL d=[] :: r) (fun d w p ⟨r,h⟩=>zO w p h) bk 0 _ ⟨[],rfl⟩
theorem sy (n:Nat) (t:Tx) (e:Nat) (x:Tx) (ss:List Nat):∀ d,x∈aL (adds n t e ss d) ↔ x∈aL d\/∃ s∈ss,x=(t.drop s).take (e - s):=by
 induction ss with
 | nil=>intro d;simp [adds]
 | cons s ss ih =>
   intro d
   have:=ih (cE d ((t.drop s).take (e - s)) (n,e))
   rw [show adds n t e (s :: ss) d=adds n t e ss (cE d ((t.drop s).take (e - s)) (n,e)) from rfl,this,v8]
   simp [or_assoc]
theorem rW (n:Nat) (t:Tx) (x:Tx) (es:List Nat):∀ d,x∈aL (fS n t es d) ↔ x∈aL d\/∃ e∈es,∃ s∈List.range (e+1),x=(t.drop s).take (e - s):=by
 induction es with
 | nil=>intro d;simp [fS]
 | cons e es ih =>
   intro d
   rw [show fS n t (e :: es) d=fS n t es (adds n t e (List.range (e+1)) d) from rfl,ih,sy,or_assoc]
   simp only [List.mem_cons,exists_eq_or_imp]
theorem jK (x:Tx) (l:List Tx):∀ n d,x∈aL (gZ n l d) ↔ x∈aL d\/∃ t∈l,∃ e∈List.range (t.length+1),∃ s∈List.range (e+1),x=(t.drop s).take (e - s):=by
 induction l with
 | nil=>intro n d;simp [gZ]
 | cons t l ih =>
   intro n d
   rw [show gZ n (t :: l) d=gZ (n+1) l (fS n t (List.range (t.length+1)) d) from rfl,ih,rW,or_assoc]
   simp only [List.mem_cons,exists_eq_or_imp]
theorem o6 (bk:List Tx) (x:Tx) (h:x∈aL (found bk)):x.drop 1∈aL (found bk):=by
 unfold found at h ⊢
 rw [jK] at h ⊢
 rcases h with h | ⟨t,ht,e,he,s,hs,rfl⟩
 · left
   simp [aL] at h ⊢
   rw [h];rfl
 · have h1:=List.mem_range.mp he
   have h2:=List.mem_range.mp hs
   by_cases q:s=e
   · left
     subst q
     simp [aL]
   · right
     refine ⟨t,ht,e,he,s+1,List.mem_range.mpr (by lia),?_⟩
     rw [List.drop_take,List.drop_drop]
     congr 1
theorem nW (bk:List Tx) (B:Bk 120 bk) (x:Tx) (h:x∈aL (found bk)):Az x/\x.length<=120:=by
 unfold found at h
 rw [jK] at h
 rcases h with h | ⟨t,ht,e,he,s,hs,rfl⟩
 · simp [aL] at h
   subst h
   exact ⟨fun c hc=>by simp at hc,by simp⟩
 · refine ⟨fun c hc=>B.az t ht c (List.mem_of_mem_drop (List.mem_of_mem_take hc)),?_⟩
   have h1:=List.mem_range.mp he
   have hl:t.length<=bk.flatten.length:=by
     obtain ⟨a,b,rfl⟩:=List.append_of_mem ht
     simp only [List.flatten_append,List.flatten_cons,List.length_append]
     lia
   have:=B.n
   rw [List.length_take]
   lia
end T25
end
section
namespace T25
open VS L2
noncomputable abbrev Gr:=List (List Pl×List Tx)
noncomputable def nkP (l:List Pl):aZ:=l.map fun q=>[(q.1:Int),(q.2:Int)]
theorem pY:∀ {x y:List Pl},nkP x=nkP y->x=y
 | [],[],_=>rfl
 | [],_ :: _,h=>by simp [nkP] at h
 | _ :: _,[],h=>by simp [nkP] at h
 | (a,b) :: x,(c,d) :: y,h=>by
   simp only [nkP,List.map_cons,List.cons.injEq,Int.natCast_inj,and_true] at h
   obtain ⟨⟨rfl,rfl⟩,h⟩:=h
   rw [pY h]
theorem By (l:List Pl):nkT (nkP l)=T.tup (l.map tP):=by simp [nkT,nkP,tP]
theorem wg (l:List Pl):wN (T.tup (l.map tP))=some (nkP l):=by
 show (l.map tP).mapM nk1=_
 induction l with
 | nil=>rfl
 | cons a l ih =>
   rw [List.map_cons,List.mapM_cons,ih]
   rfl
noncomputable def gT (g:Gr):List (T×T):=g.map fun p=>(nkT (nkP p.1),T.lst (p.2.map T.str))
noncomputable def cN:Gr->List Pl->Tx->Gr
 | [],k,w=>[(k,[w])]
 | (x,l) :: g,k,w=>if x=k then (x,l++[w]) :: g else (x,l) :: cN g k w
theorem qh {f:T->Option (T×Val)} {k:T} {a:T×T} {L:List (T×T)} (h:eqT a.1 k=false):mS f (a :: L) k=(mS f L k).map (a :: ·):=by
 unfold mS
 rw [List.findIdx?_cons,if_neg (by rw [h];simp)]
 cases e:L.findIdx? fun q=>eqT q.1 k with
 | none=>rfl
 | some i =>
   simp only [Option.map_some,Option.bind_some,List.getElem?_cons_succ]
   cases e2:L[i]? with
   | none=>rfl
   | some q =>
     simp only [Option.bind_some]
     cases f q.2 with
     | none=>rfl
     | some z=>rfl
theorem n9 {f:T->Option (T×Val)} {k:T} {a:T×T} {L:List (T×T)} (h:eqT a.1 k=true):mS f (a :: L) k=(f a.2).map fun z=>(a.1,z.1) :: L:=by
 unfold mS
 rw [List.findIdx?_cons,if_pos h]
 rfl
theorem lY {k:T} {a:T×T} {L:List (T×T)} (h:eqT a.1 k=false):bG (a :: L) k=a :: bG L k:=by
 have q:(a :: L).findIdx? (fun q=>eqT q.1 k)=(L.findIdx? fun q=>eqT q.1 k).map (·+1):=by
   rw [List.findIdx?_cons,if_neg (by rw [h];exact Bool.false_ne_true)]
 unfold bG
 rw [q]
 cases e:L.findIdx? fun q=>eqT q.1 k with
 | none=>rfl
 | some i=>rfl
theorem nB {k:T} {a:T×T} {L:List (T×T)} (h:eqT a.1 k=true):bG (a :: L) k=a :: L:=by
 unfold bG
 rw [List.findIdx?_cons,if_pos h]
 rfl
theorem vc (g:Gr) (k:List Pl) (w:Tx) (hl:∀ q∈g,q.2.length < 16777216):mS (fun x=>bg x [(.fr,.str w)]) (bG (gT g) (nkT (nkP k))) (nkT (nkP k))=some (gT (cN g k w)):=by
 induction g with
 | nil =>
   have:bG (gT []) (nkT (nkP k))=[(nkT (nkP k),.lst [])]:=rfl
   rw [this,n9 (by rw [jZ];simp),eB (by decide)]
   rfl
 | cons a g ih =>
   obtain ⟨x,l⟩:=a
   by_cases e:x=k
   · subst e
     have h:eqT (nkT (nkP x)) (nkT (nkP x))=true:=by rw [jZ];simp
     rw [show gT ((x,l) :: g)=(nkT (nkP x),T.lst (l.map T.str)) :: gT g from rfl,nB h,n9 h,eB (by rw [List.length_map];exact hl (x,l) List.mem_cons_self)]
     simp [cN,gT]
   · have h:eqT (nkT (nkP x)) (nkT (nkP k))=false:=by rw [jZ];exact decide_eq_false fun z=>e (pY z)
     rw [show gT ((x,l) :: g)=(nkT (nkP x),T.lst (l.map T.str)) :: gT g from rfl,lY h,qh h,ih fun q hq=>hl q (List.mem_cons_of_mem _ hq)]
     simp [cN,gT,e]
theorem oq {i:Nat} {ck:Ex} {cv:Ex} {η:Env} {g:Gr} {w:Tx} {k:List Pl} {m:Md} (h:η[i]?=some (some (.ow (.dct 2 (gT g))))) (hk:ck η=some (m,.tup (k.map tP))) (hv:∀ c,cv (η.set i c)=some (.fr,.str w)) (hl:∀ q∈g,q.2.length < 16777216) (hd:g.length < 16777216) :
   fA i ck (af cv aA) η=some (.nx (η.set i (some (.ow (.dct 2 (gT (cN g k w))))))):=by
 unfold fA
 simp only [h]
 rw [hk,Option.bind_some,if_pos ⟨by rw [wg];rfl,by rw [gT,List.length_map];exact hd⟩]
 have e:af cv aA (η.set i (some (.ow (.dct 2 (bG (gT g) (T.tup (k.map tP)))))))=some [(.fr,.str w)]:=by simp [hv]
 rw [e,Option.bind_some,← By,vc g k w hl]
 rfl
noncomputable def look:Fd->Tx->List Pl
 | [],_=>[]
 | (x,l) :: d,w=>if x=w then l else look d w
theorem uv (d:Fd) (w:Tx) (h:w∈aL d):dQ (dT d) (.str w)=some (.lst ((look d w).map tP)):=by
 induction d with
 | nil=>simp [aL] at h
 | cons a d ih =>
   obtain ⟨x,l⟩:=a
   rw [show dT ((x,l) :: d)=(T.str x,T.lst (l.map tP)) :: dT d from rfl]
   unfold dQ
   by_cases e:x=w
   · rw [List.find?_cons,show eqT (T.str x) (T.str w)=true by simp [e]]
     simp [look,e]
   · rw [List.find?_cons,show eqT (T.str x) (T.str w)=false by simpa using e]
     have hm:w∈aL d:=by
       rcases List.mem_cons.mp (show w∈x :: aL d from h) with h | h
       · exact absurd h.symm e
       · exact h
     rw [show look ((x,l) :: d) w=look d w by simp [look,e]]
     exact ih hm
theorem sI (d:Fd) (w:Tx) (N:Nat) (h:∀ q∈d,q.2.length<=N):(look d w).length<=N:=by
 induction d with
 | nil=>simp [look]
 | cons a d ih =>
   obtain ⟨x,l⟩:=a
   unfold look
   split
   · exact h _ List.mem_cons_self
   · exact ih fun q hq=>h q (List.mem_cons_of_mem _ hq)
noncomputable def grp (d:Fd) (ws:List Tx) (g:Gr):Gr:=ws.foldl (fun g w=>cN g (look d w) w) g
theorem xr (g:Gr) (k:List Pl) (w:Tx) (N:Nat) (h:g.length<=N/\∀ q∈g,q.2.length<=N):(cN g k w).length<=N+1/\∀ q∈cN g k w,q.2.length<=N+1:=by
 induction g generalizing N with
 | nil=>simp [cN]
 | cons a g ih =>
   obtain ⟨x,l⟩:=a
   have h1:=h.2 (x,l) List.mem_cons_self
   have h0:=h.1
   unfold cN
   split
   · refine ⟨by simp only [List.length_cons] at h0 ⊢;lia,fun q hq=>?_⟩
     rcases List.mem_cons.mp hq with rfl | hq
     · simp only [List.length_append,List.length_singleton];simp only at h1;lia
     · have:=h.2 q (List.mem_cons_of_mem _ hq);lia
   · have hN:∀ (g:Gr),(cN g k w).length<=g.length+1:=by
       intro g
       induction g with
       | nil=>simp [cN]
       | cons a g ih=>obtain ⟨x,l⟩:=a;unfold cN;split <;> simp only [List.length_cons] <;> lia
     refine ⟨by have:=hN g;simp only [List.length_cons] at h0 ⊢;lia,fun q hq=>?_⟩
     rcases List.mem_cons.mp hq with rfl | hq
     · simp only at h1 ⊢;lia
     · exact (ih N ⟨by simp only [List.length_cons] at h0;lia,fun q hq=>h.2 q (List.mem_cons_of_mem _ hq)⟩).2 q hq
theorem st1 (d:Fd) (hd:∀ q∈d,q.2.length<=117129) (ws:List Tx):∀ (g:Gr) (N:Nat) (z:Option Cell),(∀ w∈ws,w∈aL d)->(g.length<=N/\∀ q∈g,q.2.length<=N)->N+ws.length < 16777216 →
   ∃ z',forL (bw 2) cU (ws.map T.str) [some (.pu (.dct 0 (dT d))),some (.ow (.dct 2 (gT g))),z]=some (.nx [some (.pu (.dct 0 (dT d))),some (.ow (.dct 2 (gT (grp d ws g)))),z']):=by
 induction ws with
 | nil=>exact fun g N z _ _ _=>⟨z,by simp [forL,grp]⟩
 | cons w ws ih =>
   intro g N z hw hN hl
   rw [List.length_cons] at hl
   obtain ⟨z',e⟩:=ih (cN g (look d w) w) (N+1) (some (.pu (.str w))) (fun x hx=>hw x (List.mem_cons_of_mem _ hx)) (xr g _ w N hN) (by lia)
   refine ⟨z',?_⟩
   have lk:=uv d w (hw w List.mem_cons_self)
   have ll:=sI d w 117129 hd
   have bo:cU [some (.pu (.dct 0 (dT d))),some (.ow (.dct 2 (gT g))),some (.pu (.str w))]=some (.nx [some (.pu (.dct 0 (dT d))),some (.ow (.dct 2 (gT (cN g (look d w) w)))),some (.pu (.str w))]):=by
     unfold cU
     have im:d6 ((look d w).map tP)=true:=gf tP (fun x=>by simp [tP]) _
     rw [oq (g:=g) (w:=w) (k:=look d w) (m:=.fr) rfl (by
       have h1:e2 oIx (ah 0) (ah 2) [some (.pu (.dct 0 (dT d))),some (.ow (.dct 2 (gT g))),some (.pu (.str w))]=some (.pu,.lst ((look d w).map tP)):=by
         simp [lk,gh]
       have h2:eW [(.pu,.lst ((look d w).map tP))]=some (.fr,.tup ((look d w).map tP)):=by
         show (if _ then _ else _)=_
         rw [if_pos (by rw [List.length_map];exact Nat.le_trans ll (by decide))]
         simp only [up,imm,im,if_true]
       simp only [eN,af,h1,aA,Option.bind_some,h2]) (fun c=>by simp) (fun q hq=>by have:=hN.2 q hq;lia) (by have:=hN.1;lia)]
     simp
   rw [List.map_cons,cx (by simp) bo,e]
   rfl
noncomputable def stT (st:List (List Tx)):T:=.lst (st.map fun s=>T.lst (s.map T.str))
noncomputable def g0 (d:Fd):List (List Tx):=(grp d (bS (aL d)) []).map (·.2)
theorem tq (d:Fd) (hz:Sz 117129 d) (haz:∀ x∈aL d,Az x/\x.length<=120):cD [.dct 0 (dT d)]=some (.fr,stT (g0 d)):=by
 have pm:=cX (aL d)
 obtain ⟨z',e⟩:=st1 d hz.2 (bS (aL d)) [] 0 none (fun w hw=>pm.mem_iff.mp hw) ⟨by simp,fun q hq=>by simp at hq⟩ (by rw [pm.length_eq,aL,List.length_map];have:=hz.1;lia)
 have so:i3 [(.pu,.dct 0 (dT d))]=some (.fr,.lst ((bS (aL d)).map T.str)):=by
   show ((strs? ((dT d).map (·.1))).bind _)=_
   rw [show (dT d).map (·.1)=d.map fun p=>T.str p.1 by simp [dT],strs_map (fun p:Tx×List Pl=>p.1) d,Option.bind_some,show d.map (fun p=>p.1)=aL d from rfl,if_pos (show ((aL d).all txB)=true from List.all_eq_true.mpr fun x hx=>by
     obtain ⟨h1,h2⟩:=haz x hx
     simp only [txB,Bool.and_eq_true,decide_eq_true_eq,List.all_eq_true]
     exact ⟨Nat.le_trans h2 (by decide),fun c hc=>by have:=h1 c hc;lia⟩)]
 unfold cD
 refine eJ rfl (η:=[some (.pu (.dct 0 (dT d))),none,z']) ?_
 refine (show av _ _ [some (.pu (.dct 0 (dT d))),none,none]=_ from ?_)
 rw [aq (η1:=[some (.pu (.dct 0 (dT d))),some (.ow (.dct 2 (gT []))),none]) (by
   have:i9 2 [] [some (.pu (.dct 0 (dT d))),none,none]=some (.fr,.dct 2 (gT [])):=rfl
   simp [this])]
 rw [aq (η1:=[some (.pu (.dct 0 (dT d))),some (.ow (.dct 2 (gT (grp d (bS (aL d)) [])))),z']) (by
   rw [fJ (l:=(bS (aL d)).map T.str) (by simp [so])]
   exact e)]
 simp [gI,stT,g0,gT]
end T25
end
section
namespace T25
open VS L2
structure Stn (st:List (List Tx)) (ks:List Tx):Prop where
 ne:∀ s∈st,s ≠ []
 pm:st.flatten.Perm ks
 hd:∃ a b,st=([] :: a) :: b
theorem wM (g:Gr) (k:List Pl) (w:Tx) (h:∀ q∈g,q.2 ≠ []):∀ q∈cN g k w,q.2 ≠ []:=by
 induction g with
 | nil=>intro q hq;simp [cN] at hq;rw [hq];simp
 | cons a g ih =>
   obtain ⟨x,l⟩:=a
   have ih:=ih fun q hq=>h q (List.mem_cons_of_mem _ hq)
   unfold cN
   split
   · intro q hq
     rcases List.mem_cons.mp hq with rfl | hq
     · simp
     · exact h q (List.mem_cons_of_mem _ hq)
   · intro q hq
     rcases List.mem_cons.mp hq with rfl | hq
     · exact h _ List.mem_cons_self
     · exact ih q hq
theorem wQ (g:Gr) (k:List Pl) (w:Tx):((cN g k w).map (·.2)).flatten.Perm (w :: (g.map (·.2)).flatten):=by
 induction g with
 | nil=>simp [cN]
 | cons a g ih =>
   obtain ⟨x,l⟩:=a
   unfold cN
   split
   · rw [List.map_cons,List.flatten_cons,List.map_cons,List.flatten_cons]
     show (l++[w]++_).Perm (w :: (l++_))
     rw [List.append_assoc]
     exact List.perm_middle
   · rw [List.map_cons,List.flatten_cons,List.map_cons,List.flatten_cons]
     exact (List.Perm.append_left l ih).trans List.perm_middle
theorem vF (g:Gr) (k:List Pl) (w:Tx) (k0:List Pl) (a:List Tx) (b:Gr) (h:g=(k0,[] :: a) :: b):∃ a' b',cN g k w=(k0,[] :: a') :: b':=by
 subst h
 unfold cN
 split
 · exact ⟨a++[w],b,rfl⟩
 · exact ⟨a,_,rfl⟩
theorem zz (d:Fd) (ws:List Tx):∀ g:Gr,(∀ q∈g,q.2 ≠ [])->∀ q∈grp d ws g,q.2 ≠ []:=by
 induction ws with
 | nil=>exact fun g h=>h
 | cons w ws ih=>exact fun g h=>ih _ (wM g _ w h)
theorem zt (d:Fd) (ws:List Tx):∀ g:Gr,((grp d ws g).map (·.2)).flatten.Perm (ws++(g.map (·.2)).flatten):=by
 induction ws with
 | nil=>exact fun g=>by simp [grp]
 | cons w ws ih =>
   intro g
   refine (ih (cN g (look d w) w)).trans ?_
   refine ((wQ g (look d w) w).append_left ws).trans ?_
   exact List.perm_middle
theorem zc (d:Fd) (ws:List Tx):∀ (g:Gr) (k0:List Pl) (a:List Tx) (b:Gr),g=(k0,[] :: a) :: b->∃ a' b',grp d ws g=(k0,[] :: a') :: b':=by
 induction ws with
 | nil=>exact fun g k0 a b h=>⟨a,b,h⟩
 | cons w ws ih =>
   intro g k0 a b h
   obtain ⟨a',b',h'⟩:=vF g (look d w) w k0 a b h
   exact ih _ k0 a' b' h'
theorem rV (l:List Tx) (h:[]∈l):∃ r,bS l=[] :: r:=by
 have pm:=cX l
 have pw:=iI l
 have m:[]∈bS l:=pm.mem_iff.mpr h
 cases e:bS l with
 | nil=>rw [e] at m;simp at m
 | cons x r =>
   rw [e] at m pw
   rcases List.mem_cons.mp m with m1 | m2
   · exact ⟨r,by rw [m1]⟩
   · cases x with
     | nil=>exact ⟨r,rfl⟩
     | cons c x=>exact absurd (.inl (by simp)) ((List.pairwise_cons.mp pw).1 [] m2)
theorem rN (d:Fd) (h:[]∈aL d):Stn (g0 d) (aL d):=by
 refine ⟨fun s hs=>?_,?_,?_⟩
 · obtain ⟨q,hq,rfl⟩:=List.mem_map.mp hs
   exact zz d _ [] (fun q hq=>by simp at hq) q hq
 · have:=zt d (bS (aL d)) []
   simp only [List.map_nil,List.flatten_nil,List.append_nil] at this
   exact this.trans (cX _)
 · obtain ⟨r,e⟩:=rV _ h
   obtain ⟨a,b,h'⟩:=zc d r (cN [] (look d []) []) (look d []) [] [] rfl
   refine ⟨a,b.map (·.2),?_⟩
   unfold g0
   rw [e,show grp d ([] :: r) []=grp d r (cN [] (look d []) []) from rfl,h']
   rfl
noncomputable def num:List (List Tx)->Tx->Nat
 | [],_=>0
 | s :: st,w=>if w∈s then 0 else num st w+1
noncomputable def nT (m:List (Tx×Nat)):List (T×T):=m.map fun p=>(T.str p.1,T.int (p.2:Int))
noncomputable def nums:Nat->List (List Tx)->List (Tx×Nat)
 | _,[]=>[]
 | k,s :: st=>s.map (fun w=>(w,k))++nums (k+1) st
theorem sP (a b:List (T×T)) (k:T):dQ (a++b) k=(dQ a k).or (dQ b k):=by
 unfold dQ
 rw [List.find?_append]
 cases a.find? fun p=>eqT p.1 k <;> rfl
theorem sU (s:List Tx) (k:Nat) (w:Tx):dQ (nT (s.map fun w=>(w,k))) (.str w)=if w∈s then some (.int (k:Int)) else none:=by
 induction s with
 | nil=>rfl
 | cons x s ih =>
   rw [List.map_cons,show nT ((x,k) :: s.map fun w=>(w,k))=(T.str x,T.int (k:Int)) :: nT (s.map fun w=>(w,k)) from rfl]
   by_cases e:x=w
   · rw [dQ,List.find?_cons,show eqT (T.str x) (T.str w)=true by simp [e],if_pos (by rw [e];simp)]
     rfl
   · rw [dQ,List.find?_cons,show eqT (T.str x) (T.str w)=false by simpa using e]
     have e':¬ w=x:=fun z=>e z.symm
     refine (show dQ (nT (s.map fun w=>(w,k))) (.str w)=_ from ?_)
     rw [ih]
     by_cases q:w∈s
     · rw [if_pos q,if_pos (List.mem_cons_of_mem _ q)]
     · rw [if_neg q,if_neg fun z=>(List.mem_cons.mp z).elim e' q]
theorem kj (st:List (List Tx)) (w:Tx):∀ k,dQ (nT (nums k st)) (.str w)=if w∈st.flatten then some (.int ((k+num st w:Nat):Int)) else none:=by
 induction st with
 | nil=>exact fun k=>rfl
 | cons s st ih =>
   intro k
   rw [nums,nT,List.map_append,sP]
   rw [show dQ ((s.map fun w=>(w,k)).map fun p=>(T.str p.1,T.int (p.2:Int))) (.str w)=_ from sU s k w]
   rw [show dQ ((nums (k+1) st).map fun p=>(T.str p.1,T.int (p.2:Int))) (.str w)=_ from ih (k+1),List.flatten_cons]
   by_cases h:w∈s
   · rw [if_pos h,if_pos (List.mem_append.mpr (.inl h)),show num (s :: st) w=0 by simp [num,h]]
     rfl
   · rw [if_neg h]
     by_cases h2:w∈st.flatten
     · rw [if_pos h2,if_pos (List.mem_append.mpr (.inr h2)),show num (s :: st) w=num st w+1 by simp [num,h],show k+(num st w+1)=k+1+num st w by lia]
       rfl
     · rw [if_neg h2,if_neg fun z=>(List.mem_append.mp z).elim h h2]
       rfl
end T25
end
section
namespace T25
open VS L2
theorem wy (m:List (Tx×Nat)) (w:Tx) (k:Nat) (h:w ∉ m.map (·.1)):dput (nT m) (.str w) (.int (k:Int))=nT (m++[(w,k)]):=by
 unfold dput
 rw [if_neg (by
   simp only [List.any_eq_true,not_exists,not_and]
   intro p hp
   obtain ⟨q,hq,rfl⟩:=List.mem_map.mp hp
   simp only [eqT,beq_iff_eq]
   intro e
   exact h (List.mem_map.mpr ⟨q,hq,e⟩))]
 simp [nT]
theorem we {i:Nat} {k e:Ex} {η:Env} {l:List (T×T)} {kv v:T} {m n:Md} (h:η[i]?=some (some (.ow (.dct 0 l)))) (he:e η=some (m,v)) (hk:k η=some (n,kv)) (h1:gh kv=true) (h2:imm v=true) (h3:l.length < 16777216):kN i k e η=some (.nx (η.set i (some (.ow (.dct 0 (dput l kv v)))))):=by
 unfold kN
 rw [he,Option.bind_some,h,hk]
 exact if_pos ⟨h1,h2,h3⟩
theorem nm1 (st:T) (some_:T) (k:Nat) (s:List Tx):∀ (m:List (Tx×Nat)) (z:Option Cell),(m.map (·.1)++s).Nodup->m.length+s.length < 16777216 →
   ∃ z',forL (bw 4) cG (s.map T.str) [some (.pu st),some (.ow (.dct 0 (nT m))),some (.pu (.int k)),some (.pu some_),z]=some (.nx [some (.pu st),some (.ow (.dct 0 (nT (m++s.map fun w=>(w,k))))),some (.pu (.int k)),some (.pu some_),z']):=by
 induction s with
 | nil=>exact fun m z _ _=>⟨z,by simp [forL]⟩
 | cons w s ih =>
   intro m z hn hl
   rw [List.length_cons] at hl
   obtain ⟨z',e⟩:=ih (m++[(w,k)]) (some (.pu (.str w))) (by simpa using hn) (by rw [List.length_append,List.length_singleton];lia)
   refine ⟨z',?_⟩
   have nw:w ∉ m.map (·.1):=fun hm=>by
     have:=(List.nodup_append.mp hn).2.2 w hm w List.mem_cons_self
     exact this rfl
   have bo:cG [some (.pu st),some (.ow (.dct 0 (nT m))),some (.pu (.int k)),some (.pu some_),some (.pu (.str w))]=some (.nx [some (.pu st),some (.ow (.dct 0 (nT (m++[(w,k)])))),some (.pu (.int k)),some (.pu some_),some (.pu (.str w))]):=by
     unfold cG
     rw [we (l:=nT m) (kv:=.str w) (v:=.int (k:Int)) (m:=.fr) (n:=.fr) rfl (by simp) (by simp) rfl rfl (by rw [nT,List.length_map];lia),wy m w k nw]
     rfl
   rw [List.map_cons,cx (by simp) bo,e]
   simp
theorem nm2 (st:T) (l:List (List Tx)):∀ (n:Nat) (m:List (Tx×Nat)) (z2 z3 z4:Option Cell),(m.map (·.1)++l.flatten).Nodup->m.length+l.flatten.length < 16777216 →
   ∃ z2' z3' z4',forL (jC [bw 2,bw 3]) dH (eE n (l.map fun s=>T.lst (s.map T.str))) [some (.pu st),some (.ow (.dct 0 (nT m))),z2,z3,z4]=some (.nx [some (.pu st),some (.ow (.dct 0 (nT (m++nums n l)))),z2',z3',z4']):=by
 induction l with
 | nil=>exact fun n m z2 z3 z4 _ _=>⟨z2,z3,z4,by simp [forL,eE,nums]⟩
 | cons s l ih =>
   intro n m z2 z3 z4 hn hl
   rw [List.flatten_cons,List.length_append] at hl
   rw [List.flatten_cons,← List.append_assoc] at hn
   obtain ⟨y4,e1⟩:=nm1 st (.lst (s.map T.str)) n s m z4 (List.nodup_append.mp hn).1 (by lia)
   obtain ⟨x2,x3,x4,e⟩:=ih (n+1) (m++s.map fun w=>(w,n)) (some (.pu (.int n))) (some (.pu (.lst (s.map T.str)))) y4 (by rw [List.map_append,List.map_map,show ((fun x:Tx×Nat=>x.1) ∘ fun w:Tx=>(w,n))=id from rfl,List.map_id];exact hn) (by rw [List.length_append,List.length_map];lia)
   refine ⟨x2,x3,x4,?_⟩
   rw [List.map_cons,eE,cx (η1:=[some (.pu st),some (.ow (.dct 0 (nT m))),some (.pu (.int n)),some (.pu (.lst (s.map T.str))),z4]) (by simp) (by
     unfold dH
     rw [mh (m:=.pu) (l:=s.map T.str) (by simp) rfl,e1]),e,List.append_assoc]
   rfl
theorem qV (st:List (List Tx)) (hn:st.flatten.Nodup) (hl:st.flatten.length < 16777216):bL [stT st]=some (.fr,.dct 0 (nT (nums 0 st))):=by
 obtain ⟨z2,z3,z4,e⟩:=nm2 (stT st) st 0 [] none none none (by simpa using hn) (by simpa using hl)
 unfold bL
 refine eJ rfl (η:=[some (.pu (stT st)),none,z2,z3,z4]) ?_
 refine (show av _ _ [some (.pu (stT st)),none,none,none,none]=_ from ?_)
 rw [aq (η1:=[some (.pu (stT st)),some (.ow (.dct 0 (nT []))),none,none,none]) (by
   have:i9 0 [] [some (.pu (stT st)),none,none,none,none]=some (.fr,.dct 0 (nT [])):=rfl
   simp [this])]
 rw [aq (η1:=[some (.pu (stT st)),some (.ow (.dct 0 (nT (nums 0 st)))),z2,z3,z4]) (by
   rw [mh (m:=.pu) (l:=eE 0 (st.map fun s=>T.lst (s.map T.str))) (by simp [stT]) rfl]
   exact e)]
 simp
end T25
end
section
namespace T25
open VS L2
noncomputable def hdW (s:List Tx):Tx:=s.headD []
noncomputable def laW (s:List Tx):Tx:=s.getLast?.getD []
theorem xC {m n:Md} {s:List Tx} (h:s ≠ []):aS (m,.lst (s.map T.str)) (n,.int 0)=some (.fr,.str (hdW s)):=by
 cases s with
 | nil=>exact absurd rfl h
 | cons a s =>
   have:ixP ((T.str a :: s.map T.str).length) 0=some 0:=wY (k:=0) (by simp)
   show (ixP ((T.str a :: s.map T.str).length) 0).bind _=_
   rw [this]
   rfl
theorem AB {m n:Md} {s:List Tx} (h:s ≠ []):aS (m,.lst (s.map T.str)) (n,.int (-1))=some (.fr,.str (laW s)):=by
 have hl:0 < s.length:=List.length_pos_iff.mpr h
 have:ixP ((s.map T.str).length) (-1)=some (s.length - 1):=by
   unfold ixP
   rw [if_neg (by lia),List.length_map,if_pos (by lia)]
   congr 1
   lia
 show (ixP ((s.map T.str).length) (-1)).bind _=_
 rw [this,Option.bind_some,List.getElem?_map,List.getElem?_eq_getElem (show s.length - 1 < s.length by lia)]
 unfold laW
 rw [List.getLast?_eq_getElem?,List.getElem?_eq_getElem (show s.length - 1 < s.length by lia)]
 rfl
noncomputable def wT (p:Nat×Nat):T:=.tup [.str [p.1],.int (p.2:Int)]
noncomputable def kP (st:List (List Tx)) (h:Tx) (c:Nat):List (Nat×Nat):=if h++[c]∈st.flatten then [(c,num st (h++[c]))] else []
noncomputable def fU (st:List (List Tx)) (h:Tx) (cs:List Nat):List (Nat×Nat):=cs.flatMap (kP st h)
theorem tm (st:List (List Tx)) (h:Tx) (cs:List Nat):(fU st h cs).length<=cs.length:=by
 induction cs with
 | nil=>simp [fU]
 | cons c cs ih =>
   have:fU st h (c :: cs)=kP st h c++fU st h cs:=rfl
   rw [this,List.length_append,List.length_cons]
   have:(kP st h c).length<=1:=by unfold kP;split <;> simp
   lia
theorem tb1 (st:List (List Tx)) (S:T) (tb:T) (s:List Tx) (hs:s ≠ []) (hl:(hdW s).length<=120) (l6:Option Cell) (cs:List Nat):∀ (ws:List (Nat×Nat)) (z:Option Cell),ws.length+cs.length < 1000 →
   ∃ z',forL (bw 5) bQ (cs.map fun c=>T.str [c]) [some (.pu S),some (.pu (.dct 0 (nT (nums 0 st)))),some (.ow tb),some (.pu (.lst (s.map T.str))),some (.ow (.lst (ws.map wT))),z,l6] =
     some (.nx [some (.pu S),some (.pu (.dct 0 (nT (nums 0 st)))),some (.ow tb),some (.pu (.lst (s.map T.str))),some (.ow (.lst ((ws++fU st (hdW s) cs).map wT))),z',l6]):=by
 induction cs with
 | nil=>exact fun ws z _=>⟨z,by simp [forL,fU]⟩
 | cons c cs ih =>
   intro ws z hw
   rw [List.length_cons] at hw
   have hq:=kj st (hdW s++[c]) 0
   rw [Nat.zero_add] at hq
   have ad:e2 bt (e2 aS (ah 3) (eC (.int 0))) (ah 5) [some (.pu S),some (.pu (.dct 0 (nT (nums 0 st)))),some (.ow tb),some (.pu (.lst (s.map T.str))),some (.ow (.lst (ws.map wT))),some (.pu (.str [c])),l6]=some (.fr,.str (hdW s++[c])):=by
     have h1:e2 aS (ah 3) (eC (.int 0)) [some (.pu S),some (.pu (.dct 0 (nT (nums 0 st)))),some (.ow tb),some (.pu (.lst (s.map T.str))),some (.ow (.lst (ws.map wT))),some (.pu (.str [c])),l6]=some (.fr,.str (hdW s)):=by
       simp [-aS,xC hs]
     simp only [e2] at h1 ⊢
     rw [h1,Option.bind_some]
     simp [ft (show (hdW s).length+[c].length<=16777216 by simp;lia)]
   by_cases p:hdW s++[c]∈st.flatten
   · rw [if_pos p] at hq
     obtain ⟨z',e⟩:=ih (ws++[(c,num st (hdW s++[c]))]) (some (.pu (.str [c]))) (by rw [List.length_append,List.length_singleton];lia)
     refine ⟨z',?_⟩
     have bo:bQ [some (.pu S),some (.pu (.dct 0 (nT (nums 0 st)))),some (.ow tb),some (.pu (.lst (s.map T.str))),some (.ow (.lst (ws.map wT))),some (.pu (.str [c])),l6] =
         some (.nx [some (.pu S),some (.pu (.dct 0 (nT (nums 0 st)))),some (.ow tb),some (.pu (.lst (s.map T.str))),some (.ow (.lst ((ws++[(c,num st (hdW s++[c]))]).map wT))),some (.pu (.str [c])),l6]):=by
       unfold bQ
       rw [oy (m:=.fr) (by
         rw [e2,ad,Option.bind_some]
         simp [gh,hq])]
       rw [jA (l:=ws.map wT) (t:=wT (c,num st (hdW s++[c]))) rfl (by
         have h2:e2 oIx (ah 1) (e2 bt (e2 aS (ah 3) (eC (.int 0))) (ah 5)) [some (.pu S),some (.pu (.dct 0 (nT (nums 0 st)))),some (.ow tb),some (.pu (.lst (s.map T.str))),some (.ow (.lst (ws.map wT))),some (.pu (.str [c])),l6]=some (.fr,.int (num st (hdW s++[c]):Nat)):=by
           rw [e2,ad]
           simp [gh,hq]
         simp only [mW,af,h2,aA,Option.bind_some]
         simp [jy,wT]) (by rw [List.length_map];lia)]
       simp
     rw [List.map_cons,cx (by simp) bo,e]
     simp [fU,kP,p]
   · rw [if_neg p] at hq
     obtain ⟨z',e⟩:=ih ws (some (.pu (.str [c]))) (by lia)
     refine ⟨z',?_⟩
     have bo:bQ [some (.pu S),some (.pu (.dct 0 (nT (nums 0 st)))),some (.ow tb),some (.pu (.lst (s.map T.str))),some (.ow (.lst (ws.map wT))),some (.pu (.str [c])),l6] =
         some (.nx [some (.pu S),some (.pu (.dct 0 (nT (nums 0 st)))),some (.ow tb),some (.pu (.lst (s.map T.str))),some (.ow (.lst (ws.map wT))),some (.pu (.str [c])),l6]):=by
       unfold bQ
       rw [lX (m:=.fr) (by
         rw [e2,ad,Option.bind_some]
         simp [gh,hq])]
       simp
     rw [List.map_cons,cx (by simp) bo,e]
     simp [fU,kP,p]
noncomputable def iw:List Nat:=[97,98,99,100,101,102,103,104,105,106,107,108,109,110,111,112,113,114,115,116,117,118,119,120,121,122]
noncomputable def lkT (st:List (List Tx)) (s:List Tx):T:=if hdW s=[] then .non else .int (num st ((hdW s).drop 1):Nat)
noncomputable def cM (st:List (List Tx)) (s:List Tx):T:=.tup [.int (hdW s).length,.int (laW s).length,lkT st s,.tup ((fU st (hdW s) iw).map wT)]
theorem pf (l:List (Nat×Nat)):d6 (l.map wT)=true:=gf wT (fun x=>by simp [wT]) l
theorem o7 (st:List (List Tx)) (s:List Tx):imm (lkT st s)=true:=by unfold lkT;split <;> rfl
theorem jt (st:List (List Tx)) (s:List Tx):imm (cM st s)=true:=by simp [cM,o7,pf]
theorem Cm (t:Tx):cut t (some 1) none=t.drop 1:=by
 unfold cut clip
 simp only [show ¬ ((1:Int) < 0) by lia,if_false]
 by_cases h:1<=t.length
 · rw [Nat.min_eq_left (by simpa using h),show (1:Int).toNat=1 from rfl,List.take_of_length_le (by simp)]
 · have:t=[]:=List.length_eq_zero_iff.mp (by lia)
   subst this
   rfl
theorem ui (st:List (List Tx)) (S:T) (s:List Tx) (hs:s ≠ []) (hl:(hdW s).length<=120) (ht:hdW s ≠ []->(hdW s).drop 1∈st.flatten) (tb:List T) (hb:tb.length < 16777216) (z4 z5 z6:Option Cell) :
   ∃ z4' z5' z6',dw [some (.pu S),some (.pu (.dct 0 (nT (nums 0 st)))),some (.ow (.lst tb)),some (.pu (.lst (s.map T.str))),z4,z5,z6] =
     some (.nx [some (.pu S),some (.pu (.dct 0 (nT (nums 0 st)))),some (.ow (.lst (tb++[cM st s]))),some (.pu (.lst (s.map T.str))),z4',z5',z6']):=by
 obtain ⟨z',e⟩:=tb1 st S (.lst tb) s hs hl z6 iw [] z5 (by decide)
 rw [List.nil_append] at e
 refine ⟨some (.pu (.lst ((fU st (hdW s) iw).map wT))),z',some (.pu (lkT st s)),?_⟩
 unfold dw
 rw [aq (η1:=[some (.pu S),some (.pu (.dct 0 (nT (nums 0 st)))),some (.ow (.lst tb)),some (.pu (.lst (s.map T.str))),some (.ow (.lst (([]:List (Nat×Nat)).map wT))),z5,z6]) (by simp [dG])]
 rw [aq (η1:=[some (.pu S),some (.pu (.dct 0 (nT (nums 0 st)))),some (.ow (.lst tb)),some (.pu (.lst (s.map T.str))),some (.ow (.lst ((fU st (hdW s) iw).map wT))),z',z6]) (by
   rw [fJ (l:=iw.map fun c=>T.str [c]) (by simp [iw])]
   exact e)]
 rw [aq (η1:=[some (.pu S),some (.pu (.dct 0 (nT (nums 0 st)))),some (.ow (.lst tb)),some (.pu (.lst (s.map T.str))),some (.pu (.lst ((fU st (hdW s) iw).map wT))),z',z6]) (by simp)]
 rw [aq (η1:=[some (.pu S),some (.pu (.dct 0 (nT (nums 0 st)))),some (.ow (.lst tb)),some (.pu (.lst (s.map T.str))),some (.pu (.lst ((fU st (hdW s) iw).map wT))),z',some (.pu .non)]) (by simp)]
 have ih:=xC (m:=.pu) (n:=.fr) hs
 have il:=AB (m:=.pu) (n:=.fr) hs
 rw [aq (η1:=[some (.pu S),some (.pu (.dct 0 (nT (nums 0 st)))),some (.ow (.lst tb)),some (.pu (.lst (s.map T.str))),some (.pu (.lst ((fU st (hdW s) iw).map wT))),z',some (.pu (lkT st s))]) (by
   by_cases p:hdW s=[]
   · rw [lX (m:=.fr) (by simp [-aS,ih,p])]
     simp [lkT,p]
   · have hq:=kj st ((hdW s).drop 1) 0
     rw [Nat.zero_add,if_pos (ht p)] at hq
     rw [oy (m:=.fr) (by simp [-aS,ih,p])]
     simp [-aS,ih,lkT,p,Cm,gh,hq,-List.drop_one])]
 have li:=o7 st s
 have wi:=pf (fU st (hdW s) iw)
 have wl:(fU st (hdW s) iw).length<=16777216:=Nat.le_trans (tm _ _ _) (by decide)
 have tl:∀ m,eW [(m,.lst ((fU st (hdW s) iw).map wT))]=some (.fr,.tup ((fU st (hdW s) iw).map wT)):=fun m=>by
   show (if _ then _ else _)=_
   rw [if_pos (by rw [List.length_map];exact wl)]
   simp only [up,imm,wi,if_true]
 rw [jA (l:=tb) (t:=cM st s) rfl (by
   simp [-aS,ih,il,tl,li,wi,jy,cM]) hb]
 simp
theorem tb2 (st:List (List Tx)) (S:T) (l:List (List Tx)):∀ (tb:List T) (z3 z4 z5 z6:Option Cell),(∀ s∈l,s ≠ []/\(hdW s).length<=120/\(hdW s ≠ []->(hdW s).drop 1∈st.flatten))->tb.length+l.length < 16777216 →
   ∃ z3' z4' z5' z6',forL (bw 3) dw (l.map fun s=>T.lst (s.map T.str)) [some (.pu S),some (.pu (.dct 0 (nT (nums 0 st)))),some (.ow (.lst tb)),z3,z4,z5,z6] =
     some (.nx [some (.pu S),some (.pu (.dct 0 (nT (nums 0 st)))),some (.ow (.lst (tb++l.map (cM st)))),z3',z4',z5',z6']):=by
 induction l with
 | nil=>exact fun tb z3 z4 z5 z6 _ _=>⟨z3,z4,z5,z6,by simp [forL]⟩
 | cons s l ih =>
   intro tb z3 z4 z5 z6 h hl
   rw [List.length_cons] at hl
   obtain ⟨h1,h2,h3⟩:=h s List.mem_cons_self
   obtain ⟨y4,y5,y6,eb⟩:=ui st S s h1 h2 h3 tb (by lia) z4 z5 z6
   obtain ⟨x3,x4,x5,x6,e⟩:=ih (tb++[cM st s]) (some (.pu (.lst (s.map T.str)))) y4 y5 y6 (fun x hx=>h x (List.mem_cons_of_mem _ hx)) (by rw [List.length_append,List.length_singleton];lia)
   refine ⟨x3,x4,x5,x6,?_⟩
   rw [List.map_cons,cx (by simp) eb,e]
   simp
noncomputable def bu (st:List (List Tx)):T:=.lst (st.map (cM st))
theorem w6 (st:List (List Tx)) (h:∀ s∈st,s ≠ []/\(hdW s).length<=120/\(hdW s ≠ []->(hdW s).drop 1∈st.flatten)) (hl:st.length < 16777216):dc [stT st,.dct 0 (nT (nums 0 st))]=some (.fr,bu st):=by
 obtain ⟨z3,z4,z5,z6,e⟩:=tb2 st (stT st) st [] none none none none h (by simpa using hl)
 rw [List.nil_append] at e
 unfold dc
 refine eJ rfl (η:=[some (.pu (stT st)),some (.pu (.dct 0 (nT (nums 0 st)))),none,z3,z4,z5,z6]) ?_
 refine (show av _ _ [some (.pu (stT st)),some (.pu (.dct 0 (nT (nums 0 st)))),none,none,none,none,none]=_ from ?_)
 rw [aq (η1:=[some (.pu (stT st)),some (.pu (.dct 0 (nT (nums 0 st)))),some (.ow (.lst [])),none,none,none,none]) (by simp [dG])]
 rw [aq (η1:=[some (.pu (stT st)),some (.pu (.dct 0 (nT (nums 0 st)))),some (.ow (.lst (st.map (cM st)))),z3,z4,z5,z6]) (by
   rw [mh (m:=.pu) (l:=st.map fun s=>T.lst (s.map T.str)) (by simp [stT]) rfl]
   exact e)]
 simp [bu]
end T25
end
section
namespace T25
open VS L2
structure GI (f:Tx->List Pl) (g:Gr) (pre:List Tx):Prop where
 nd:(g.map (·.1)).Nodup
 eq:∀ q∈g,q.2=pre.filter fun w=>decide (f w=q.1)
 al:∀ w∈pre,f w∈g.map (·.1)
theorem kh (g:Gr) (k:List Pl) (w:Tx):(cN g k w).map (·.1)=if k∈g.map (·.1) then g.map (·.1) else g.map (·.1)++[k]:=by
 induction g with
 | nil=>simp [cN]
 | cons a g ih =>
   obtain ⟨x,l⟩:=a
   unfold cN
   by_cases e:x=k
   · rw [if_pos e];subst e;simp
   · rw [if_neg e,List.map_cons,ih]
     have e':¬ k=x:=fun z=>e z.symm
     by_cases m:k∈g.map (·.1)
     · rw [if_pos m,if_pos (by rw [List.map_cons];exact List.mem_cons_of_mem _ m)];rfl
     · rw [if_neg m,if_neg (by rw [List.map_cons,List.mem_cons,not_or];exact ⟨e',m⟩)];rfl
theorem tf (g:Gr) (k:List Pl) (w:Tx) (nd:(g.map (·.1)).Nodup) (q:List Pl×List Tx) (h:q∈cN g k w):(q.1 ≠ k/\q∈g)\/(q.1=k/\((∃ l,(k,l)∈g/\q.2=l++[w])\/(k ∉ g.map (·.1)/\q.2=[w]))):=by
 induction g with
 | nil =>
   simp only [cN,List.mem_singleton] at h
   subst h
   exact .inr ⟨rfl,.inr ⟨by simp,rfl⟩⟩
 | cons a g ih =>
   obtain ⟨x,l⟩:=a
   rw [List.map_cons,List.nodup_cons] at nd
   unfold cN at h
   by_cases e:x=k
   · rw [if_pos e] at h
     rcases List.mem_cons.mp h with rfl | h
     · exact .inr ⟨e,.inl ⟨l,by rw [← e];exact List.mem_cons_self,rfl⟩⟩
     · exact .inl ⟨fun z=>nd.1 (List.mem_map.mpr ⟨q,h,z.trans e.symm⟩),List.mem_cons_of_mem _ h⟩
   · rw [if_neg e] at h
     rcases List.mem_cons.mp h with rfl | h
     · exact .inl ⟨e,List.mem_cons_self⟩
     · rcases ih nd.2 h with ⟨h1,h2⟩ | ⟨h1,⟨l',h2,h3⟩ | ⟨h2,h3⟩⟩
       · exact .inl ⟨h1,List.mem_cons_of_mem _ h2⟩
       · exact .inr ⟨h1,.inl ⟨l',List.mem_cons_of_mem _ h2,h3⟩⟩
       · exact .inr ⟨h1,.inr ⟨by rw [List.map_cons,List.mem_cons,not_or];exact ⟨fun z=>e z.symm,h2⟩,h3⟩⟩
theorem GI.add {f:Tx->List Pl} {g:Gr} {pre:List Tx} (I:GI f g pre) (w:Tx):GI f (cN g (f w) w) (pre++[w]):=by
 refine ⟨?_,fun q hq=>?_,fun x hx=>?_⟩
 · rw [kh]
   by_cases m:f w∈g.map (·.1)
   · rw [if_pos m];exact I.nd
   · rw [if_neg m]
     exact List.nodup_append.mpr ⟨I.nd,by simp,fun a ha b hb e=>m (by rw [List.mem_singleton] at hb;rw [← hb,← e];exact ha)⟩
 · rw [List.filter_append]
   rcases tf g (f w) w I.nd q hq with ⟨h1,h2⟩ | ⟨h1,⟨l,h2,h3⟩ | ⟨h2,h3⟩⟩
   · rw [I.eq q h2,show [w].filter (fun w=>decide (f w=q.1))=[] by rw [List.filter_cons_of_neg (by simp only [decide_eq_true_eq];exact fun z=>h1 z.symm)];rfl,List.append_nil]
   · rw [h3,show l=pre.filter fun w'=>decide (f w'=f w) from I.eq (f w,l) h2,h1,show [w].filter (fun w'=>decide (f w'=f w))=[w] by simp]
   · rw [h3,h1,show [w].filter (fun w'=>decide (f w'=f w))=[w] by simp,List.filter_eq_nil_iff.mpr fun x hx=>by
       have:=I.al x hx
       simp only [decide_eq_true_eq]
       intro z
       rw [z] at this
       exact h2 this]
     rfl
 · rw [kh]
   rcases List.mem_append.mp hx with hx | hx
   · have:=I.al x hx
     by_cases m:f w∈g.map (·.1)
     · rw [if_pos m];exact this
     · rw [if_neg m];exact List.mem_append.mpr (.inl this)
   · rw [List.mem_singleton.mp hx]
     by_cases m:f w∈g.map (·.1)
     · rw [if_pos m];exact m
     · rw [if_neg m];simp
theorem GI.grp {d:Fd} (ws:List Tx):∀ {g:Gr} {pre:List Tx},GI (look d) g pre->GI (look d) (grp d ws g) (pre++ws):=by
 induction ws with
 | nil=>intro g pre I;rw [List.append_nil];exact I
 | cons w ws ih =>
   intro g pre I
   have:=ih (I.add w)
   rw [List.append_assoc] at this
   exact this
theorem Bc (d:Fd):GI (look d) (grp d (bS (aL d)) []) (bS (aL d)):=GI.grp (bS (aL d)) (g:=[]) (pre:=[]) ⟨by simp,fun q hq=>by simp at hq,fun w hw=>by simp at hw⟩
theorem xQ (d:Fd) (s:List Tx) (h:s∈g0 d):∃ k,s=(bS (aL d)).filter fun w=>decide (look d w=k):=by
 obtain ⟨q,hq,rfl⟩:=List.mem_map.mp h
 exact ⟨q.1,(Bc d).eq q hq⟩
theorem uh (d:Fd) (s:List Tx) (h:s∈g0 d):s.Pairwise (fun a b=>¬ lL b a):=by
 obtain ⟨k,rfl⟩:=xQ d s h
 exact (iI _).filter _
theorem jL (d:Fd) (s:List Tx) (h:s∈g0 d) (w:Tx) (hw:w∈s):(hdW s).length<=w.length:=by
 have p:=uh d s h
 cases s with
 | nil=>simp at hw
 | cons a s =>
   rcases List.mem_cons.mp hw with rfl | hw
   · exact Nat.le_refl _
   · have:=(List.pairwise_cons.mp p).1 w hw
     unfold lL at this
     show a.length<=_
     lia
end T25
end
section
namespace T25
open VS L2
theorem um (d:Fd) (w x:Tx) (p:Pl):look (cE d w p) x=if x=w then look d x++[p] else look d x:=by
 induction d with
 | nil =>
   by_cases e:x=w
   · simp [cE,look,e]
   · have e':¬ w=x:=fun z=>e z.symm
     simp [cE,look,e,e']
 | cons a d ih =>
   obtain ⟨y,l⟩:=a
   unfold cE
   by_cases e:y=w
   · rw [if_pos e]
     subst e
     by_cases e2:y=x
     · simp [look,e2]
     · have e3:¬ x=y:=fun z=>e2 z.symm
       simp [look,e2,e3]
   · rw [if_neg e]
     by_cases e2:y=x
     · have e3:¬ x=w:=fun z=>e (e2.trans z)
       simp [look,e2,e3]
     · rw [show look ((y,l) :: cE d w p) x=look (cE d w p) x by simp [look,e2],show look ((y,l) :: d) x=look d x by simp [look,e2],ih]
theorem rh (n:Nat) (t:Tx) (e:Nat) (x:Tx) (ss:List Nat):∀ d,look (adds n t e ss d) x=look d x++(ss.filter fun s=>decide ((t.drop s).take (e - s)=x)).map fun _=>(n,e):=by
 induction ss with
 | nil=>intro d;simp [adds]
 | cons s ss ih =>
   intro d
   rw [show adds n t e (s :: ss) d=adds n t e ss (cE d ((t.drop s).take (e - s)) (n,e)) from rfl,ih,um]
   by_cases h:x=(t.drop s).take (e - s)
   · rw [if_pos h,List.filter_cons_of_pos (by simpa using h.symm)]
     simp
   · rw [if_neg h,List.filter_cons_of_neg (by simpa using fun z=>h z.symm)]
theorem jv {P:Nat->Bool} {s0:Nat}:∀ {l:List Nat},l.Nodup->(∀ s∈l,P s=true->s=s0)->l.filter P=if s0∈l/\P s0=true then [s0] else []
 | [],_,_=>by simp
 | a :: l,hn,h=>by
   obtain ⟨h1,h2⟩:=List.nodup_cons.mp hn
   have ih:=jv h2 fun s hs=>h s (List.mem_cons_of_mem _ hs)
   by_cases q:P a=true
   · have e:=h a List.mem_cons_self q
     subst e
     rw [List.filter_cons_of_pos q,ih,if_neg fun z=>h1 z.1,if_pos ⟨List.mem_cons_self,q⟩]
   · rw [List.filter_cons_of_neg q,ih]
     by_cases z:s0∈l/\P s0=true
     · rw [if_pos z,if_pos ⟨List.mem_cons_of_mem _ z.1,z.2⟩]
     · rw [if_neg z,if_neg]
       rintro ⟨z1,z2⟩
       rcases List.mem_cons.mp z1 with rfl | z1
       · exact q z2
       · exact z ⟨z1,z2⟩
theorem starts (t x:Tx) (e:Nat) (he:e<=t.length):((List.range (e+1)).filter fun s=>decide ((t.drop s).take (e - s)=x)).map (fun _=>())=if x <:+ t.take e then [()] else []:=by
 have cut:∀ s,s<=e->(t.drop s).take (e - s)=(t.take e).drop s:=fun s hs=>by rw [List.drop_take]
 have len:∀ s,s<=e->((t.take e).drop s).length=e - s:=fun s hs=>by rw [List.length_drop,List.length_take];omega
 rw [jv (s0:=e - x.length) List.nodup_range fun s hs hp=>by
   have h1:=List.mem_range.mp hs
   have h2:=of_decide_eq_true hp
   rw [cut s (by omega)] at h2
   have:=len s (by omega)
   rw [h2] at this
   omega]
 by_cases h:x <:+ t.take e
 · have hl:x.length<=e:=by have:=h.length_le;rw [List.length_take] at this;omega
   rw [if_pos h,if_pos]
   · rfl
   · refine ⟨List.mem_range.mpr (by omega),decide_eq_true ?_⟩
     rw [cut _ (by omega)]
     obtain ⟨y,hy⟩:=h
     have h1:(t.take e).length=e:=by rw [List.length_take];omega
     rw [← hy,List.length_append] at h1
     rw [← hy,show e - x.length=y.length by omega,List.drop_left]
 · rw [if_neg h,if_neg]
   · rfl
   · rintro ⟨h1,h2⟩
     have h1:=List.mem_range.mp h1
     have h2:=of_decide_eq_true h2
     rw [cut _ (by omega)] at h2
     exact h (by rw [← h2];exact List.drop_suffix _ _)
theorem qQ (n:Nat) (t x:Tx) (es:List Nat):∀ d,(∀ e∈es,e<=t.length)->look (fS n t es d) x=look d x++(es.filter fun e=>decide (x <:+ t.take e)).map fun e=>(n,e):=by
 induction es with
 | nil=>intro d _;simp [fS]
 | cons e es ih =>
   intro d h
   rw [show fS n t (e :: es) d=fS n t es (adds n t e (List.range (e+1)) d) from rfl,ih _ fun i hi=>h i (List.mem_cons_of_mem _ hi),rh]
   have st:=starts t x e (h e List.mem_cons_self)
   have:((List.range (e+1)).filter fun s=>decide ((t.drop s).take (e - s)=x)).map (fun _=>(n,e))=(if x <:+ t.take e then [()] else []).map fun _=>(n,e):=by
     rw [← st,List.map_map];rfl
   rw [this]
   by_cases q:x <:+ t.take e
   · rw [if_pos q,List.filter_cons_of_pos (by simpa using q)]
     simp
   · rw [if_neg q,List.filter_cons_of_neg (by simpa using q)]
     simp
noncomputable def iP:Nat->List Tx->List Pl
 | _,[]=>[]
 | n,t :: l=>(List.range (t.length+1)).map (fun e=>(n,e))++iP (n+1) l
theorem vQ (l:List Tx):∀ n p,p∈iP n l->n<=p.1:=by
 induction l with
 | nil=>intro n p h;simp [iP] at h
 | cons t l ih =>
   intro n p h
   rcases List.mem_append.mp h with h | h
   · obtain ⟨e,_,rfl⟩:=List.mem_map.mp h
     exact Nat.le_refl _
   · have:=ih (n+1) p h
     omega
theorem qG (x:Tx) (l:List Tx):∀ n d,look (gZ n l d) x=look d x++(iP n l).filter fun p=>decide (x <:+ (l.getD (p.1 - n) []).take p.2):=by
 induction l with
 | nil=>intro n d;simp [gZ,iP]
 | cons t l ih =>
   intro n d
   rw [show gZ n (t :: l) d=gZ (n+1) l (fS n t (List.range (t.length+1)) d) from rfl,ih,qQ n t x _ d fun e he=>by have:=List.mem_range.mp he;omega,List.append_assoc]
   congr 1
   rw [iP,List.filter_append,List.filter_map]
   congr 1
   · congr 1
     apply List.filter_congr
     intro e _
     simp
   · apply List.filter_congr
     intro p hp
     have:=vQ l (n+1) p hp
     rw [show p.1 - n=(p.1 - (n+1))+1 by omega,List.getD_cons_succ]
noncomputable def En (bk:List Tx) (x:Tx) (p:Pl):Prop:=x <:+ (bk.getD p.1 []).take p.2
noncomputable instance (bk:List Tx) (x:Tx) (p:Pl):Decidable (En bk x p):=inferInstanceAs (Decidable (_ <:+ _))
theorem h9 (bk:List Tx) (x:Tx):look (found bk) x=(iP 0 bk).filter fun p=>decide (En bk x p):=by
 unfold found
 rw [qG,show look [([],[])] x=[] by unfold look;split <;> rfl,List.nil_append]
 rfl
theorem nR {bk:List Tx} {x:Tx} {p:Pl}:p∈look (found bk) x ↔ p∈iP 0 bk/\En bk x p:=by
 rw [h9,List.mem_filter,decide_eq_true_eq]
theorem look_same {bk:List Tx} {x y:Tx}:look (found bk) x=look (found bk) y ↔ ∀ p∈iP 0 bk,En bk x p ↔ En bk y p:=by
 constructor
 · intro h p hp
   have h1:=nR (bk:=bk) (x:=x) (p:=p)
   have h2:=nR (bk:=bk) (x:=y) (p:=p)
   rw [h] at h1
   exact ⟨fun z=>(h2.mp (h1.mpr ⟨hp,z⟩)).2,fun z=>(h1.mp (h2.mpr ⟨hp,z⟩)).2⟩
 · intro h
   rw [h9,h9]
   apply List.filter_congr
   intro p hp
   exact decide_eq_decide.mpr (h p hp)
theorem ig (l:List Tx):∀ n p,p∈iP n l ↔ n<=p.1/\p.1 < n+l.length/\p.2<=(l.getD (p.1 - n) []).length:=by
 induction l with
 | nil=>intro n p;simp [iP];omega
 | cons t l ih =>
   intro n p
   obtain ⟨i,e⟩:=p
   rw [iP,List.mem_append,ih,List.mem_map]
   simp only [List.mem_range,Prod.mk.injEq,List.length_cons]
   constructor
   · rintro (⟨a,h1,h2,h3⟩ | ⟨h1,h2,h3⟩)
     · subst h2 h3
       simp
       omega
     · refine ⟨by omega,by omega,?_⟩
       rw [show i - n=(i - (n+1))+1 by omega,List.getD_cons_succ]
       exact h3
   · rintro ⟨h1,h2,h3⟩
     by_cases q:i=n
     · subst q
       simp at h3
       exact .inl ⟨e,by omega,rfl,rfl⟩
     · rw [show i - n=(i - (n+1))+1 by omega,List.getD_cons_succ] at h3
       exact .inr ⟨by omega,by omega,h3⟩
theorem lW {bk:List Tx} {x:Tx}:x∈aL (found bk) ↔ x=[]\/∃ p∈iP 0 bk,En bk x p:=by
 unfold found
 rw [jK]
 constructor
 · rintro (h | ⟨t,ht,e,he,s,hs,rfl⟩)
   · left;simpa [aL] using h
   · right
     obtain ⟨i,hi,rfl⟩:=List.getElem_of_mem ht
     have h1:=List.mem_range.mp he
     refine ⟨(i,e),(ig bk 0 (i,e)).mpr ⟨Nat.zero_le _,by simpa using hi,?_⟩,?_⟩
     · simp [hi];omega
     · show _ <:+ (bk.getD i []).take e
       rw [List.getD_eq_getElem?_getD,List.getElem?_eq_getElem hi,Option.getD_some,← List.drop_take]
       exact List.drop_suffix _ _
 · rintro (h | ⟨⟨i,e⟩,hp,h⟩)
   · left;rw [h];simp [aL]
   · right
     obtain ⟨_,h2,h3⟩:=(ig bk 0 (i,e)).mp hp
     have hi:i < bk.length:=by simpa using h2
     have hg:bk.getD i []=bk[i]:=by rw [List.getD_eq_getElem?_getD,List.getElem?_eq_getElem hi,Option.getD_some]
     have h3:e<=bk[i].length:=by simpa [hi] using h3
     have h4:x <:+ bk[i].take e:=by rw [← hg];exact h
     have hl:x.length<=e:=by have:=h4.length_le;rw [List.length_take] at this;omega
     refine ⟨bk[i],List.getElem_mem hi,e,List.mem_range.mpr (by omega),e - x.length,List.mem_range.mpr (by omega),?_⟩
     obtain ⟨y,hy⟩:=h4
     have h5:(bk[i].take e).length=e:=by rw [List.length_take];omega
     rw [← hy,List.length_append] at h5
     rw [← List.drop_take,← hy,show e - x.length=y.length by omega,List.drop_left]
end T25
end
section
namespace T25
open VS L2
theorem md {s:List Tx} (h:s ≠ []):hdW s∈s:=by
 cases s with
 | nil=>exact absurd rfl h
 | cons a s=>exact List.mem_cons_self
theorem mf {s:List Tx} (h:s ≠ []):laW s∈s:=by
 unfold laW
 rw [List.getLast?_eq_some_getLast h]
 exact List.getLast_mem h
theorem ux {d:Fd} {s:List Tx} (hs:s∈g0 d) (hne:s ≠ []) (w:Tx):w∈s ↔ w∈aL d/\look d w=look d (hdW s):=by
 obtain ⟨k,e⟩:=xQ d s hs
 have hk:look d (hdW s)=k:=by
   have:=md hne
   rw [e] at this
   have:=(List.mem_filter.mp this).2
   rw [← e] at this
   exact of_decide_eq_true this
 rw [hk]
 conv=>lhs;rw [e]
 rw [List.mem_filter,decide_eq_true_eq,(cX (aL d)).mem_iff]
theorem ml {bk:List Tx} {x y:Tx} {p:Pl} (h:x <:+ y) (e:En bk y p):En bk x p:=h.trans e
theorem wm {bk:List Tx} {x:Tx} {n:Nat} (h:En bk x (n,0)):x=[]:=by
 unfold En at h
 simpa using h
theorem sT {bk:List Tx} {x:Tx} (hx:x∈aL (found bk)) (h:look (found bk) x=look (found bk) []):x=[]:=by
 rcases lW.mp hx with z | ⟨p,hp,z⟩
 · exact z
 · have hp':=(ig bk 0 p).mp hp
   rw [look_same] at h
   exact wm ((h (p.1,0) ((ig bk 0 (p.1,0)).mpr ⟨hp'.1,hp'.2.1,Nat.zero_le _⟩)).mpr (by unfold En;simp))
theorem ve (d:Fd) (s:List Tx) (h:s∈g0 d) (w:Tx) (hw:w∈s):w.length<=(laW s).length:=by
 have p:=uh d s h
 have hne:s ≠ []:=List.ne_nil_of_mem hw
 obtain ⟨a,b,rfl⟩:∃ a b,s=a++[b]:=⟨_,_,(List.dropLast_concat_getLast hne).symm⟩
 rw [show laW (a++[b])=b by simp [laW]]
 rcases List.mem_append.mp hw with hw | hw
 · have:=(List.pairwise_append.mp p).2.2 w hw b (by simp)
   unfold lL at this
   omega
 · rw [List.mem_singleton.mp hw]
   exact Nat.le_refl _
noncomputable def d3 (h L:Tx):List Tx:=(List.range' h.length (L.length - h.length+1)).map fun l=>L.drop (L.length - l)
theorem rC {h L y:Tx} (hl:h.length<=L.length):y∈d3 h L ↔ y <:+ L/\h.length<=y.length:=by
 unfold d3
 rw [List.mem_map]
 constructor
 · rintro ⟨l,hl',rfl⟩
   have:=List.mem_range'_1.mp hl'
   exact ⟨List.drop_suffix _ _,by rw [List.length_drop];omega⟩
 · rintro ⟨h1,h2⟩
   have:=h1.length_le
   exact ⟨y.length,List.mem_range'_1.mpr ⟨h2,by omega⟩,(List.suffix_iff_eq_drop.mp h1).symm⟩
theorem uD (h L:Tx) (hl:h.length<=L.length):(d3 h L).Pairwise (fun a b=>a.length < b.length):=by
 unfold d3
 rw [List.pairwise_map]
 have pw:=List.pairwise_lt_range' (s:=h.length) (n:=L.length - h.length+1)
 exact pw.imp_of_mem fun {a b} ha hb hab=>by
   have h1:=List.mem_range'_1.mp ha
   have h2:=List.mem_range'_1.mp hb
   rw [List.length_drop,List.length_drop]
   omega
theorem rX (bk:List Tx) (s:List Tx) (hs:s∈g0 (found bk)) (hne:s ≠ []) (hn:s.Nodup):s=d3 (hdW s) (laW s):=by
 have hh:=md hne
 have hL:=mf hne
 have hl:=jL (found bk) s hs _ hL
 have m:=fun w=>ux hs hne (d:=found bk) w
 have kL:=(m _).mp hL
 have suf:∀ x∈s,x <:+ laW s:=fun x hx=>by
   have hx':=(m x).mp hx
   have len:=ve (found bk) s hs x hx
   rcases lW.mp kL.1 with z | ⟨p,hp,z⟩
   · rw [z] at len
     have:x=[]:=List.length_eq_zero_iff.mp (by simpa using len)
     rw [this];exact List.nil_suffix
   · have zx:En bk x p:=(look_same.mp (hx'.2.trans kL.2.symm) p hp).mpr z
     exact List.suffix_of_suffix_length_le zx z len
 have mem:∀ y,y∈s ↔ y∈d3 (hdW s) (laW s):=fun y=>by
   rw [rC hl]
   constructor
   · exact fun hy=>⟨suf y hy,jL (found bk) s hs y hy⟩
   · rintro ⟨h1,h2⟩
     have h3:hdW s <:+ y:=List.suffix_of_suffix_length_le (suf _ hh) h1 h2
     have hlk:look (found bk) y=look (found bk) (hdW s):=by
       rw [look_same]
       intro p hp
       exact ⟨ml h3,fun z=>ml h1 ((look_same.mp kL.2 p hp).mpr z)⟩
     refine (m y).mpr ⟨?_,hlk⟩
     rcases lW.mp kL.1 with z | ⟨p,hp,z⟩
     · rw [z] at h1
       rw [List.suffix_nil.mp h1,← z]
       exact kL.1
     · exact lW.mpr (.inr ⟨p,hp,ml h1 z⟩)
 have pw:=uD (hdW s) (laW s) hl
 have nd:(d3 (hdW s) (laW s)).Nodup:=pw.imp fun h e=>by rw [e] at h;omega
 have pm:(d3 (hdW s) (laW s)).Perm s:=(List.perm_ext_iff_of_nodup nd hn).mpr fun y=>(mem y).symm
 have e1:=hZ pm (pw.imp fun h=>by unfold lL;omega)
 have e2:=hZ (List.Perm.refl s) (uh (found bk) s hs)
 rw [e1,← e2]
end T25
end
section
namespace T25
open VS L2
theorem g8 {f:Val->Val->Option Val} {a b:Ex} {η:Env} {x y:Val} (h1:a η=some x) (h2:b η=some y):e2 f a b η=f x y:=by simp [h1,h2]
theorem fX {a:Ex} {r:Exs} {η:Env} {x:Val} {xs:List Val} (h1:a η=some x) (h2:r η=some xs):af a r η=some (x :: xs):=by simp [h1,h2]
theorem wF (st:List (List Tx)) (s:List Tx) (n:Nat):eqD (n+3) (cM st s)=true:=by
 have d1:eqD (n+2) (lkT st s)=true:=by unfold lkT;split <;> rfl
 have d2:((fU st (hdW s) iw).map wT).all (eqD (n+1))=true:=by
   rw [List.all_eq_true]
   intro x hx
   obtain ⟨p,_,rfl⟩:=List.mem_map.mp hx
   simp [wT]
 unfold cM
 rw [eqD]
 simp only [List.all_cons,List.all_nil,d1,eqD,d2,Bool.and_self,Bool.true_and]
theorem wL (st:List (List Tx)):eqD 60 (bu st)=true:=by
 unfold bu
 rw [eqD,List.all_eq_true]
 intro x hx
 obtain ⟨s,_,rfl⟩:=List.mem_map.mp hx
 exact wF st s 56
theorem Ar (l:List (List Tx)):(∀ s∈l,s ≠ [])->l.length<=l.flatten.length:=by
 induction l with
 | nil=>exact fun _=>by simp
 | cons s l ih =>
   intro h
   have h1:=List.length_pos_iff.mpr (h s List.mem_cons_self)
   have h2:=ih fun x hx=>h x (List.mem_cons_of_mem _ hx)
   rw [List.flatten_cons,List.length_append,List.length_cons]
   lia
theorem ze (st:List (List Tx)) (h:st.length < 16777216):iM [(.pu,bu st)]=some (.fr,bu st):=by
 have im:d6 (st.map (cM st))=true:=gf (cM st) (fun s=>jt st s) st
 show mkL .pu (st.map (cM st))=_
 rw [dG (by rw [List.length_map];lia),im]
 rfl
theorem nz {f:List Val->Option Val} {as:Exs} {η:Env} {xs:List Val} (h:as η=some xs):eN f as η=f xs:=by simp [h]
end T25
end
section
namespace T25
open VS L2
structure Cd (st:List (List Tx)):Prop where
 len:st.length < 1000000
 tl:∀ s∈st,s=d3 (hdW s) (laW s)
 sh:∀ s∈st,(hdW s).length<=(laW s).length
 sz:∀ s∈st,(laW s).length<=120
 z0:∃ b,st=[[]] :: b
theorem wD (k n:Nat):∀ a,(List.range' a n).countP (fun i=>decide (i=k))=if a<=k/\k < a+n then 1 else 0:=by
 induction n with
 | zero =>
   intro a
   rw [if_neg (by lia)]
   rfl
 | succ n ih =>
   intro a
   rw [List.range'_succ,List.countP_cons,ih (a+1)]
   by_cases h:a=k
   · rw [decide_eq_true h,if_neg (by lia),if_pos rfl,if_pos (by lia)]
   · rw [decide_eq_false h,if_neg Bool.false_ne_true,Nat.add_zero]
     by_cases g:a+1<=k/\k < a+1+n
     · rw [if_pos g,if_pos (by lia)]
     · rw [if_neg g,if_neg (by lia)]
theorem jD (h L:Tx) (hl:h.length<=L.length):(d3 h L).map List.length=List.range' h.length (L.length - h.length+1):=by
 unfold d3
 rw [List.map_map]
 refine (List.map_congr_left fun l hm=>?_).trans (List.map_id _)
 have:=List.mem_range'_1.mp hm
 show (L.drop (L.length - l)).length=id l
 rw [List.length_drop]
 show _=l
 lia
theorem qI (h L:Tx) (hl:h.length<=L.length) (k:Nat):(d3 h L).countP (fun w=>decide (w.length=k))=if h.length<=k/\k<=L.length then 1 else 0:=by
 have e:=List.countP_map (p:=fun i=>decide (i=k)) (f:=List.length) (l:=d3 h L)
 rw [jD h L hl,wD] at e
 refine (show _=List.countP ((fun i=>decide (i=k)) ∘ List.length) (d3 h L) from rfl).trans (e.symm.trans ?_)
 by_cases g:h.length<=k/\k<=L.length
 · rw [if_pos g,if_pos (by lia)]
 · rw [if_neg g,if_neg (by lia)]
noncomputable def inB (k:Nat) (s:List Tx):Bool:=decide ((hdW s).length<=k) && decide (k<=(laW s).length)
theorem nr (k:Nat):∀ st:List (List Tx),(∀ s∈st,s=d3 (hdW s) (laW s)/\(hdW s).length<=(laW s).length)->(st.filter (inB k)).length=st.flatten.countP (fun w=>decide (w.length=k))
 | [],_=>rfl
 | s :: st,h=>by
   obtain ⟨h1,h2⟩:=h s List.mem_cons_self
   have ih:=nr k st fun x hx=>h x (List.mem_cons_of_mem _ hx)
   have c:s.countP (fun w=>decide (w.length=k))=if (hdW s).length<=k/\k<=(laW s).length then 1 else 0:=by
     have:=qI (hdW s) (laW s) h2 k
     rw [← h1] at this
     exact this
   rw [List.flatten_cons,List.countP_append,c,← ih,List.filter_cons]
   by_cases g:(hdW s).length<=k/\k<=(laW s).length
   · have b:inB k s=true:=by unfold inB;rw [decide_eq_true g.1,decide_eq_true g.2];rfl
     rw [b,if_pos rfl,if_pos g,List.length_cons,Nat.add_comm]
   · have b:inB k s=false:=by
       unfold inB
       rw [← Bool.not_eq_true,Bool.and_eq_true,decide_eq_true_iff,decide_eq_true_iff]
       exact g
     rw [b,if_neg Bool.false_ne_true,if_neg g,Nat.zero_add]
noncomputable def wide (s:List Tx):Int:=((laW s).length:Int) - ((hdW s).length:Int)+1
theorem mG:∀ st:List (List Tx),(∀ s∈st,s=d3 (hdW s) (laW s)/\(hdW s).length<=(laW s).length)->(st.map wide).sum=(st.flatten.length:Int)
 | [],_=>rfl
 | s :: st,h=>by
   obtain ⟨h1,h2⟩:=h s List.mem_cons_self
   have ih:=mG st fun x hx=>h x (List.mem_cons_of_mem _ hx)
   have c:s.length=(laW s).length - (hdW s).length+1:=by
     have:=congrArg List.length (jD (hdW s) (laW s) h2)
     rw [← h1,List.length_map,List.length_range'] at this
     exact this
   rw [List.map_cons,List.sum_cons,ih,List.flatten_cons,List.length_append,c]
   unfold wide
   lia
theorem ints_map {α:Type} (f:α->Int):∀ l:List α,gD (l.map fun x=>T.int (f x))=some (l.map f)
 | []=>rfl
 | x :: l=>by
   show (gD (l.map fun x=>T.int (f x))).map (f x :: ·)=_
   rw [ints_map f l]
   rfl
theorem Br {α:Type} (t:List α):cut t (some 1) none=t.drop 1:=by
 unfold cut clip
 simp only [show ¬ ((1:Int) < 0) by lia,if_false]
 by_cases h:1<=t.length
 · rw [Nat.min_eq_left (by simpa using h),show (1:Int).toNat=1 from rfl,List.take_of_length_le (by simp)]
 · have:t=[]:=List.length_eq_zero_iff.mp (by lia)
   subst this
   rfl
theorem xR {m n:Md} (st:List (List Tx)) (s:List Tx):aS (m,cM st s) (n,.int 0)=some (.fr,.int (hdW s).length):=rfl
theorem xS {m n:Md} (st:List (List Tx)) (s:List Tx):aS (m,cM st s) (n,.int 1)=some (.fr,.int (laW s).length):=rfl
theorem ub (st:List (List Tx)) (s:List Tx) (r:Env):ah 0 (some (.pu (cM st s)) :: r)=some (.fr,cM st s):=by
 simp [jt]
section
variable {st:List (List Tx)} (D:Cd st)
include D
theorem sM:fj [bu st]=some (.fr,.int ((st.flatten.length:Int) - 1)):=by
 obtain ⟨b,hb⟩:=D.z0
 have sl:=D.len
 have ev0:ah 0 [some (.pu (bu st))]=some (.pu,bu st):=rfl
 have im:∀ l:List (List Tx),d6 (l.map (cM st))=true:=gf (cM st) (fun s=>jt st s)
 have it:fq (eSl (ah 0) (some (eC (.int 1))) none) [some (.pu (bu st))]=some (.fr,(st.drop 1).map (cM st)):=by
   refine j4 ?_
   show mkL .pu (cut (st.map (cM st)) (some 1) none)=_
   rw [Br,← List.map_drop,dG (by rw [List.length_map,List.length_drop];lia),im]
   rfl
 have co:de 1 (bw 0) (fq (eSl (ah 0) (some (eC (.int 1))) none)) none (e2 bt (e2 iV (e2 aS (ah 0) (eC (.int 1))) (e2 aS (ah 0) (eC (.int 0)))) (eC (.int 1))) [some (.pu (bu st))]=some (.fr,.lst ((st.drop 1).map fun s=>T.int (wide s))) :=
   kR (m:=.fr) (cM st) (fun s=>T.int (wide s)) (st.drop 1) it rfl (by rw [List.length_drop];lia) fun s hs=>⟨[some (.pu (cM st s)),some (.pu (bu st))],rfl,by
     have e:=ub st s [some (.pu (bu st))]
     rw [g8 (x:=(.fr,.int (((laW s).length:Int) - ((hdW s).length:Int)))) (y:=(.fr,.int 1)) (by
       rw [g8 (x:=(.fr,.int (laW s).length)) (y:=(.fr,.int (hdW s).length)) (by rw [g8 e (y:=(.fr,.int 1)) rfl,xS]) (by rw [g8 e (y:=(.fr,.int 0)) rfl,xR])]
       rfl) rfl]
     rfl⟩
 have sm:=mG (st.drop 1) fun s hs=>⟨D.tl s (List.mem_of_mem_drop hs),D.sh s (List.mem_of_mem_drop hs)⟩
 have fl:(st.flatten.length:Int) - 1=((st.drop 1).flatten.length:Int):=by
   rw [hb,List.flatten_cons,List.length_append,List.drop_one,List.tail_cons,List.length_singleton]
   lia
 unfold fj
 refine eJ rfl (η:=[some (.pu (bu st))]) ?_
 have e:eN q0 (af (de 1 (bw 0) (fq (eSl (ah 0) (some (eC (.int 1))) none)) none (e2 bt (e2 iV (e2 aS (ah 0) (eC (.int 1))) (e2 aS (ah 0) (eC (.int 0)))) (eC (.int 1)))) aA) [some (.pu (bu st))]=some (.fr,.int ((st.flatten.length:Int) - 1)):=by
   rw [nz (fX co rfl)]
   show (gD ((st.drop 1).map fun s=>T.int (wide s))).bind _=_
   rw [ints_map wide,Option.bind_some,sm,fl]
 refine (show cW _ [some (.pu (bu st))]=_ from ?_)
 simp only [cW,e,Option.bind_some]
theorem kX (n:Int):cn [bu st,.int n]=some (.fr,.int ((st.filter fun s=>decide (((hdW s).length:Int)<=n) && decide (n<=((laW s).length:Int))).length:Nat)):=by
 have sl:=D.len
 have it:fq (ah 0) [some (.pu (bu st)),some (.pu (.int n))]=some (.pu,st.map (cM st)):=j4 rfl
 have co:de 1 (bw 0) (fq (ah 0)) (some (fQ oLe oLe (e2 aS (ah 0) (eC (.int 0))) (ah 2) (e2 aS (ah 0) (eC (.int 1))))) (ah 0) [some (.pu (bu st)),some (.pu (.int n))]=some (.fr,.lst ((st.filter fun s=>decide (((hdW s).length:Int)<=n) && decide (n<=((laW s).length:Int))).map (cM st))) :=
   iD (m:=.pu) (cM st) _ (cM st) st it rfl (by lia) fun s hs=>by
     have e:=ub st s [some (.pu (bu st)),some (.pu (.int n))]
     have e0:e2 aS (ah 0) (eC (.int 0)) [some (.pu (cM st s)),some (.pu (bu st)),some (.pu (.int n))]=some (.fr,.int (hdW s).length):=by rw [g8 e (y:=(.fr,.int 0)) rfl,xR]
     have e1:e2 aS (ah 0) (eC (.int 1)) [some (.pu (cM st s)),some (.pu (bu st)),some (.pu (.int n))]=some (.fr,.int (laW s).length):=by rw [g8 e (y:=(.fr,.int 1)) rfl,xS]
     have en:ah 2 [some (.pu (cM st s)),some (.pu (bu st)),some (.pu (.int n))]=some (.fr,.int n):=rfl
     refine ⟨[some (.pu (cM st s)),some (.pu (bu st)),some (.pu (.int n))],(.fr,.bl (decide (((hdW s).length:Int)<=n) && decide (n<=((laW s).length:Int)))),rfl,?_,rfl,fun _=>e⟩
     unfold fQ
     simp only [e0,e1,en,Option.bind_some]
     refine (show (match (T.bl (decide (((hdW s).length:Int)<=n))) with | .bl true=>oLe (.fr,.int n) (.fr,.int (laW s).length) | .bl false=>some (.fr,.bl false) | _=>none)=_ from ?_)
     cases decide (((hdW s).length:Int)<=n) <;> rfl
 unfold cn
 refine eJ rfl (η:=[some (.pu (bu st)),some (.pu (.int n))]) ?_
 have e:eN dR (af (de 1 (bw 0) (fq (ah 0)) (some (fQ oLe oLe (e2 aS (ah 0) (eC (.int 0))) (ah 2) (e2 aS (ah 0) (eC (.int 1))))) (ah 0)) aA) [some (.pu (bu st)),some (.pu (.int n))]=some (.fr,.int ((st.filter fun s=>decide (((hdW s).length:Int)<=n) && decide (n<=((laW s).length:Int))).length:Nat)):=by
   rw [nz (fX co rfl)]
   show some (Md.fr,T.int ((((st.filter fun s=>decide (((hdW s).length:Int)<=n) && decide (n<=((laW s).length:Int))).map (cM st)).length:Nat):Int))=_
   rw [List.length_map]
 refine (show cW _ [some (.pu (bu st)),some (.pu (.int n))]=_ from ?_)
 simp only [cW,e,Option.bind_some]
theorem xo (k:Nat):cn [bu st,.int (k:Int)]=some (.fr,.int (st.flatten.countP (fun w=>decide (w.length=k)):Nat)):=by
 rw [kX D,← nr k st fun s hs=>⟨D.tl s hs,D.sh s hs⟩]
 have:(fun s=>decide (((hdW s).length:Int)<=(k:Int)) && decide ((k:Int)<=((laW s).length:Int)))=inB k:=by
   funext s
   unfold inB
   simp only [Int.ofNat_le]
 rw [this]
theorem Ah (n:Int) (h:200<=n):cn [bu st,.int n]=some (.fr,.int 0):=by
 rw [kX D]
 have:(st.filter fun s=>decide (((hdW s).length:Int)<=n) && decide (n<=((laW s).length:Int)))=[]:=by
   rw [List.filter_eq_nil_iff]
   intro s hs
   have:=D.sz s hs
   rw [decide_eq_false (p:=n<=((laW s).length:Int)) (by lia),Bool.and_false]
   exact Bool.false_ne_true
 rw [this]
 rfl
end
theorem yQ (n:Int):cS [.int n,.int n]=some (.fr,.bl true):=by
 unfold cS
 refine eJ rfl (η:=[some (.pu (.int n)),some (.pu (.int n))]) ?_
 have e:oEq (.fr,.int n) (.fr,.int n)=some (.fr,.bl true):=nA rfl
 simp [-oEq,e]
theorem mO {st:List (List Tx)} (h:st.flatten.Nodup) {s:List Tx} (hs:s∈st):s.Nodup:=by
 obtain ⟨a,b,rfl⟩:=List.append_of_mem hs
 rw [List.flatten_append,List.flatten_cons] at h
 exact (List.nodup_append.mp (List.nodup_append.mp h).2.1).1
theorem AH (bk:List Tx) (B:Bk 120 bk) (hz:Sz 117129 (found bk)):Cd (g0 (found bk)):=by
 obtain ⟨r,hd⟩:=n6 bk
 have haz:=nW bk B
 have S0:=rN (found bk) (by rw [hd];exact List.mem_cons_self)
 have nf:(g0 (found bk)).flatten.Nodup:=S0.pm.nodup_iff.mpr (m7 bk)
 have fl:(g0 (found bk)).flatten.length<=117129:=by rw [S0.pm.length_eq,aL,List.length_map];exact hz.1
 have sl:=Ar _ S0.ne
 have sm:=fun {s:List Tx} (hs:s∈g0 (found bk)) w=>ux hs (S0.ne s hs) w
 refine ⟨by lia,fun s hs=>rX bk s hs (S0.ne s hs) (mO nf hs),fun s hs=>jL (found bk) s hs _ (mf (S0.ne s hs)),fun s hs=>(haz _ (((sm hs _).mp (mf (S0.ne s hs))).1)).2,?_⟩
 obtain ⟨a,b,hst⟩:=S0.hd
 have hin:([] :: a)∈g0 (found bk):=by rw [hst];exact List.mem_cons_self
 have nd:=mO nf hin
 have ha:a=[]:=by
   cases a with
   | nil=>rfl
   | cons x a =>
     have hx:=(sm hin x).mp (List.mem_cons_of_mem _ List.mem_cons_self)
     have:x=[]:=sT hx.1 hx.2
     rw [this] at nd
     exact absurd List.mem_cons_self (List.nodup_cons.mp nd).1
 exact ⟨b,by rw [hst,ha]⟩
end T25
end
section
namespace T25
open VS L2
theorem Bx {x:Tx} (h:Az x) (hl:x.length<=120):txB x=true:=by
 unfold txB
 rw [decide_eq_true (show x.length<=d5 from Nat.le_trans hl (by decide)),Bool.true_and,List.all_eq_true]
 intro c hc
 exact decide_eq_true (Nat.lt_of_le_of_lt (h c hc).2 (by decide))
theorem pq (n:Nat):∀ ks:List Tx,(∀ x∈ks,Az x/\x.length<=120)->gu (eN dR (af (ah 0) aA)) n (ks.map T.str)=some (ks.map fun w=>T.int (w.length:Int))
 | [],_=>rfl
 | x :: ks,h=>by
   have hx:=h x List.mem_cons_self
   have ih:=pq n ks fun y hy=>h y (List.mem_cons_of_mem _ hy)
   have e:eN dR (af (ah 0) aA) (some (.pu (.str x)) :: List.replicate n none)=some (.fr,.int (x.length:Int)):=rfl
   rw [List.map_cons,gu,if_pos (Bx hx.1 hx.2),e,Option.bind_some,ih]
   rfl
section
variable {st:List (List Tx)} (D:Cd st) (a0 a1:Option Cell) (d:Fd) (pm:st.flatten.Perm (aL d)) (hz:d.length<=117129)
noncomputable abbrev szT (d:Fd):T:=.lst ((aL d).map fun w=>T.int (w.length:Int))
noncomputable abbrev E9 (st:List (List Tx)) (a0 a1:Option Cell) (d:Fd) (z7 z8:Option Cell):Env:=[a0,a1,some (.pu (.dct 0 (dT d))),some (.pu (stT st)),some (.pu (bu st)),some (.pu (bu st)),some (.pu (szT d)),z7,z8]
include D pm hz
theorem vd (k:Nat):iB (E9 st a0 a1 d (some (.pu (.int k))) none)=some (.nx (E9 st a0 a1 d (some (.pu (.int k))) none)):=by
 have kl:(aL d).length<=16777216:=by rw [aL,List.length_map];lia
 have c1:aJ cn (af (ah 5) (af (ah 7) aA)) (E9 st a0 a1 d (some (.pu (.int k))) none)=some (.fr,.int (st.flatten.countP (fun w=>decide (w.length=k)):Nat)) :=
   b6 (xs:=[(.pu,bu st),(.fr,.int k)]) rfl (xo D k)
 have co:de 1 (bw 0) (fq (ah 6)) (some (e2 oEq (ah 0) (ah 8))) (ah 0) (E9 st a0 a1 d (some (.pu (.int k))) none)=some (.fr,.lst (((aL d).filter fun w=>decide (w.length=k)).map fun w=>T.int (w.length:Int))) :=
   iD (m:=.pu) (fun w:Tx=>T.int (w.length:Int)) (fun w=>decide (w.length=k)) (fun w=>T.int (w.length:Int)) (aL d) (j4 rfl) rfl kl fun w _=>⟨some (.pu (.int (w.length:Int))) :: E9 st a0 a1 d (some (.pu (.int k))) none,(.fr,.bl (((w.length:Int)) == (k:Int))),rfl,rfl,by
     show some _=some _
     congr 1
     by_cases h:w.length=k
     · rw [h,decide_eq_true rfl];exact beq_self_eq_true _
     · rw [decide_eq_false h];exact beq_eq_false_iff_ne.mpr (by lia),fun _=>rfl⟩
 have c2:eN dR (af (de 1 (bw 0) (fq (ah 6)) (some (e2 oEq (ah 0) (ah 8))) (ah 0)) aA) (E9 st a0 a1 d (some (.pu (.int k))) none)=some (.fr,.int (st.flatten.countP (fun w=>decide (w.length=k)):Nat)):=by
   rw [nz (fX co rfl)]
   show some (Md.fr,T.int (((((aL d).filter fun w=>decide (w.length=k)).map fun w=>T.int (w.length:Int)).length:Nat):Int))=_
   rw [List.length_map,← List.countP_eq_length_filter,← pm.countP_eq]
 have c3:=b6 (g:=cS) (as:=af _ (af _ aA)) (xs:=[(.fr,.int _),(.fr,.int _)]) (fX c1 (fX c2 rfl)) (yQ _)
 unfold iB
 rw [lX (m:=.fr) (by simp only [j3,c3,Option.bind_some,Bool.not_true])]
 rfl
theorem lw (is:List Nat):∀ z7:Option Cell,∃ z7',forL (bw 7) iB (is.map fun i:Nat=>T.int (i:Int)) (E9 st a0 a1 d z7 none)=some (.nx (E9 st a0 a1 d z7' none)):=by
 induction is with
 | nil=>exact fun z7=>⟨z7,rfl⟩
 | cons i is ih =>
   intro z7
   obtain ⟨x7,e⟩:=ih (some (.pu (.int i)))
   exact ⟨x7,by rw [List.map_cons,cx (η1:=E9 st a0 a1 d (some (.pu (.int i))) none) rfl (vd D a0 a1 d pm hz i),e]⟩
end
theorem zK (ns:List Int) (bk:List Tx) (d:Fd) (st:List (List Tx)) (D:Cd st) (pm:st.flatten.Perm (aL d)) (hz:d.length<=117129) (az:∀ x∈aL d,Az x/\x.length<=120) (hd:∃ r,aL d=[] :: r)
   (hb:cA [.scr ns,.int 60]=some (.fr,.lst (bk.map T.str))) (hp:cI [.lst (bk.map T.str)]=some (.fr,.dct 0 (dT d))) (hsd:cD [.dct 0 (dT d)]=some (.fr,stT st))
   (hn:bL [stT st]=some (.fr,.dct 0 (nT (nums 0 st)))) (ht:dc [stT st,.dct 0 (nT (nums 0 st))]=some (.fr,bu st)):kM [.scr ns]=some (.fr,.bl true):=by
 have sl:=D.len
 obtain ⟨r,hr⟩:=hd
 obtain ⟨mx,hmx,m0,m1⟩:∃ mx:Int,jj [(.pu,szT d)]=some (.fr,.int mx)/\0<=mx/\mx<=120:=by
   refine ⟨ip 0 (r.map fun w=>(w.length:Int)),?_,?_⟩
   · show (gD ((aL d).map fun w=>T.int (w.length:Int))).bind _=_
     rw [ints_map (fun w:Tx=>(w.length:Int)),hr]
     rfl
   · obtain ⟨⟨h1,_⟩,h2⟩:=lH (r.map fun w=>(w.length:Int)) 0
     refine ⟨h1,?_⟩
     rcases h2 with h2 | h2
     · rw [h2];decide
     · obtain ⟨w,hw,e⟩:=List.mem_map.mp h2
       have:=(az w (by rw [hr];exact List.mem_cons_of_mem _ hw)).2
       rw [← e]
       lia
 obtain ⟨mn,hmn,n0,n1⟩:=cK ns 300 (by decide) (by decide)
 have far:(200:Int)<=200+mn * 10 ^ 49:=by
   have:=Int.mul_nonneg n0 (show (0:Int)<=10 ^ 49 by decide)
   lia
 obtain ⟨x7,e7⟩:=lw D (some (.pu (.scr ns))) (some (.pu (.lst (bk.map T.str)))) d pm hz (List.range (mx+4).toNat) none
 unfold kM
 refine eJ rfl (η:=[some (.pu (.scr ns)),some (.pu (.lst (bk.map T.str))),some (.pu (.dct 0 (dT d))),some (.pu (stT st)),some (.pu (bu st)),some (.pu (bu st)),some (.pu (szT d)),x7,some (.pu (.int (200+mn * 10 ^ 49)))]) ?_
 refine (show av _ _ [some (.pu (.scr ns)),none,none,none,none,none,none,none,none]=_ from ?_)
 rw [aq (η1:=[some (.pu (.scr ns)),some (.pu (.lst (bk.map T.str))),none,none,none,none,none,none,none]) (by
   rw [cP (b6 (xs:=[(.fr,.scr ns),(.fr,.int 60)]) rfl hb) (by decide) (by decide:1 < 9)];rfl)]
 rw [aq (η1:=[some (.pu (.scr ns)),some (.pu (.lst (bk.map T.str))),some (.pu (.dct 0 (dT d))),none,none,none,none,none,none]) (by
   rw [cP (b6 (xs:=[(.pu,.lst (bk.map T.str))]) rfl hp) (by decide) (by decide:2 < 9)];rfl)]
 rw [aq (η1:=[some (.pu (.scr ns)),some (.pu (.lst (bk.map T.str))),some (.pu (.dct 0 (dT d))),some (.pu (stT st)),none,none,none,none,none]) (by
   rw [cP (b6 (xs:=[(.pu,.dct 0 (dT d))]) rfl hsd) (by decide) (by decide:3 < 9)];rfl)]
 rw [aq (η1:=[some (.pu (.scr ns)),some (.pu (.lst (bk.map T.str))),some (.pu (.dct 0 (dT d))),some (.pu (stT st)),some (.pu (bu st)),none,none,none,none]) (by
   have h1:ah 3 [some (.pu (.scr ns)),some (.pu (.lst (bk.map T.str))),some (.pu (.dct 0 (dT d))),some (.pu (stT st)),none,none,none,none,none]=some (.pu,stT st):=rfl
   have h2:=b6 (g:=bL) (as:=af (ah 3) aA) (fX h1 rfl) hn
   rw [cP (b6 (xs:=[(.pu,stT st),(.fr,.dct 0 (nT (nums 0 st)))]) (fX h1 (fX h2 rfl)) ht) (by decide) (by decide:4 < 9)];rfl)]
 rw [aq (η1:=[some (.pu (.scr ns)),some (.pu (.lst (bk.map T.str))),some (.pu (.dct 0 (dT d))),some (.pu (stT st)),some (.pu (bu st)),some (.pu (bu st)),none,none,none]) (by
   rw [cP (m:=.fr) (t:=bu st) (by
     rw [nz (xs:=[(.pu,bu st)]) rfl,ze st (by lia)]) (by decide) (by decide:5 < 9)];rfl)]
 rw [aq (η1:=E9 st (some (.pu (.scr ns))) (some (.pu (.lst (bk.map T.str)))) d none none) (by
   rw [cP (m:=.fr) (t:=szT d) (by
     show (gu _ 9 ((dT d).map (·.1))).bind _=_
     have e:(dT d).map (·.1)=(aL d).map T.str:=by unfold dT aL;rw [List.map_map,List.map_map];rfl
     rw [e,pq 9 (aL d) az,Option.bind_some,if_pos (decide_eq_true (by rw [List.length_map,aL,List.length_map];exact Nat.le_trans hz (by decide)))]) (by decide) (by decide:6 < 9)];rfl)]
 have un:=b6 (g:=fj) (as:=af (ah 5) aA) (η:=E9 st (some (.pu (.scr ns))) (some (.pu (.lst (bk.map T.str)))) d none none) (xs:=[(.pu,bu st)]) rfl (sM D)
 have du:e2 iV (eN dR (af (ah 2) aA)) (eC (.int 1)) (E9 st (some (.pu (.scr ns))) (some (.pu (.lst (bk.map T.str)))) d none none)=some (.fr,.int ((st.flatten.length:Int) - 1)):=by
   have e:st.flatten.length=(dT d).length:=by rw [pm.length_eq,aL,dT,List.length_map,List.length_map]
   rw [e]
   rfl
 have c3:=b6 (g:=cS) (as:=af _ (af _ aA)) (xs:=[(.fr,.int _),(.fr,.int _)]) (fX un (fX du rfl)) (yQ _)
 rw [aq (η1:=E9 st (some (.pu (.scr ns))) (some (.pu (.lst (bk.map T.str)))) d none none) (by
   rw [lX (m:=.fr) (by simp only [j3,c3,Option.bind_some,Bool.not_true])]
   rfl)]
 rw [aq (η1:=E9 st (some (.pu (.scr ns))) (some (.pu (.lst (bk.map T.str)))) d x7 none) (by
   have e:e2 bt (eN jj (af (ah 6) aA)) (eC (.int 4)) (E9 st (some (.pu (.scr ns))) (some (.pu (.lst (bk.map T.str)))) d none none)=some (.fr,.int (mx+4)):=by
     rw [g8 (x:=(.fr,.int mx)) (y:=(.fr,.int 4)) (by rw [nz (xs:=[(.pu,szT d)]) rfl,hmx]) rfl]
     rfl
   rw [fJ (by rw [hU e (by lia),jB])]
   exact e7)]
 rw [aq (η1:=[some (.pu (.scr ns)),some (.pu (.lst (bk.map T.str))),some (.pu (.dct 0 (dT d))),some (.pu (stT st)),some (.pu (bu st)),some (.pu (bu st)),some (.pu (szT d)),x7,some (.pu (.int (200+mn * 10 ^ 49)))]) (by
   have e1:aJ aw (af (ah 0) (af (eC (.int 300)) aA)) (E9 st (some (.pu (.scr ns))) (some (.pu (.lst (bk.map T.str)))) d x7 none)=some (.fr,.int mn):=b6 (xs:=[(.fr,.scr ns),(.fr,.int 300)]) rfl hmn
   have e2':e2 oM (eC (.int 10)) (eC (.int 49)) (E9 st (some (.pu (.scr ns))) (some (.pu (.lst (bk.map T.str)))) d x7 none)=some (.fr,.int (10 ^ 49)):=rfl
   have e3:e2 dY (aJ aw (af (ah 0) (af (eC (.int 300)) aA))) (e2 oM (eC (.int 10)) (eC (.int 49))) (E9 st (some (.pu (.scr ns))) (some (.pu (.lst (bk.map T.str)))) d x7 none)=some (.fr,.int (mn * 10 ^ 49)):=by
     rw [g8 e1 e2']
     exact if_pos (.inl ⟨by show -18446744073709551616 < mn;lia,by show mn < 18446744073709551616;lia⟩)
   rw [cP (m:=.fr) (t:=.int (200+mn * 10 ^ 49)) (by rw [g8 (x:=(.fr,.int 200)) rfl e3];rfl) (by decide) (by decide:8 < 9)]
   rfl)]
 have cf:=b6 (g:=cn) (as:=af (ah 5) (af (ah 8) aA)) (η:=[some (.pu (.scr ns)),some (.pu (.lst (bk.map T.str))),some (.pu (.dct 0 (dT d))),some (.pu (stT st)),some (.pu (bu st)),some (.pu (bu st)),some (.pu (szT d)),x7,some (.pu (.int (200+mn * 10 ^ 49)))]) (xs:=[(.pu,bu st),(.fr,.int (200+mn * 10 ^ 49))]) rfl (Ah D _ far)
 have ci:=b6 (g:=cS) (as:=af _ (af _ aA)) (xs:=[(.fr,.int _),(.fr,.int _)]) (fX cf (fX (a:=eC (.int 0)) (x:=(.fr,.int 0)) rfl rfl)) (yQ 0)
 have ce:e2 oEq (ah 5) (ah 4) [some (.pu (.scr ns)),some (.pu (.lst (bk.map T.str))),some (.pu (.dct 0 (dT d))),some (.pu (stT st)),some (.pu (bu st)),some (.pu (bu st)),some (.pu (szT d)),x7,some (.pu (.int (200+mn * 10 ^ 49)))]=some (.fr,.bl true):=by
   rw [g8 (x:=(.pu,bu st)) (y:=(.pu,bu st)) rfl rfl]
   exact nA (wL st)
 simp only [cW,gU,ci,ce,Option.bind_some]
theorem uU (ns:List Int):kM [.scr ns]=some (.fr,.bl true):=by
 obtain ⟨bk,hb,B,hbl⟩:=zQ ns
 obtain ⟨hp,hz⟩:=uf bk B hbl
 have hh:=n6 bk
 obtain ⟨r,hd⟩:=hh
 have haz:=nW bk B
 have hsd:=tq (found bk) hz haz
 have S0:=rN (found bk) (by rw [hd];exact List.mem_cons_self)
 have D:=AH bk B hz
 have nd:=m7 bk
 have tl:=o6 bk
 generalize g0 (found bk)=st at hsd S0 D
 have nf:st.flatten.Nodup:=S0.pm.nodup_iff.mpr nd
 have sl:=D.len
 have hm:∀ s∈st,hdW s∈st.flatten:=fun s hs=>List.mem_flatten.mpr ⟨s,hs,md (S0.ne s hs)⟩
 have dr:∀ x∈st.flatten,x.drop 1∈st.flatten:=fun x hx=>S0.pm.mem_iff.mpr (tl x (S0.pm.mem_iff.mp hx))
 have ht:=w6 st (fun s hs=>⟨S0.ne s hs,(haz _ (S0.pm.mem_iff.mp (hm s hs))).2,fun _=>dr _ (hm s hs)⟩) (by lia)
 have fl:st.flatten.length<=117129:=by rw [S0.pm.length_eq,aL,List.length_map];exact hz.1
 exact zK ns bk (found bk) st D S0.pm hz.1 haz ⟨r,hd⟩ hb hp hsd (qV st nf (by lia)) ht
end T25
end
section
namespace T25
open PySem PySem.Spec PyProof.Rows L2 VS
noncomputable def top (i:Nat):Stmt:=PySem.Challenge.pw_allparts_k25_how_many_parts.main.body.getD i (.Pass ⟨0,0,0,0⟩)
structure Blt (mg:Str->Option Value):Prop where
 b_bool:mg "bool" = none
 b_enumerate:mg "enumerate" = none
 b_int:mg "int" = none
 b_isinstance:mg "isinstance" = none
 b_len:mg "len" = none
 b_list:mg "list" = none
 b_max:mg "max" = none
 b_min:mg "min" = none
 b_range:mg "range" = none
 b_sorted:mg "sorted" = none
 b_sum:mg "sum" = none
 b_tuple:mg "tuple" = none
section
variable {P:Program} {w:World} {K:PySem.W.Frag} {mg:Str->Option Value} {base:Heap}
noncomputable abbrev fz:Stmt:=top 1
theorem rn:FnScope ["table"] ["table"] (ao fz):=⟨rfl,rfl,rfl,by decide +kernel,rfl,by decide +kernel,by decide +kernel⟩
theorem gv {f:Addr} {fd:FuncData} (F:Fun K "unlike" "unlike" fz f fd) (hm:mg "unlike" = some (.ref f)) (B:Blt mg) :
   FnAt P w K mg base 1 "unlike" ["table"] (gx0 K) fj:=eD F hm rn rfl rfl (fun _ _ _ _ _ _ us hl=>match us,hl with | [_],_=>rfl) fun cdv A outer s H E hr =>
   (ar (aY (vk B.b_sum (aa (kn 1 ["row", "table"] rfl (dD (cY (ab 0 rfl (Or.inl rfl) rfl rfl) (bU ae) eI rfl) rfl) (je (by decide)) (fun _ _ _ _ _=>(aO 0 (show List.Nodup (["row", "table"]:List Str) from by decide +kernel) rfl (Or.inl rfl) (Or.inr rfl))) (fun _ _ _ _ _=>(aV (gP (ba (ab 0 rfl (Or.inl rfl) rfl rfl) ae (fun _ _=>rfl) rfl) (ba (ab 0 rfl (Or.inl rfl) rfl rfl) ae (fun _ _=>rfl) rfl)) ae)) rfl rfl (by decide) (fun _=>rfl)) ag rfl) rfl rfl rfl rfl)))
noncomputable abbrev d9:Stmt:=top 2
theorem oZ:FnScope ["table", "long"] ["table", "long"] (ao d9):=⟨rfl,rfl,rfl,by decide +kernel,rfl,by decide +kernel,by decide +kernel⟩
theorem d8 {f:Addr} {fd:FuncData} (F:Fun K "counted" "counted" d9 f fd) (hm:mg "counted" = some (.ref f)) (B:Blt mg) :
   FnAt P w K mg base 1 "counted" ["table", "long"] (gx0 K) cn:=eD F hm oZ rfl rfl (fun _ _ _ _ _ _ us hl=>match us,hl with | [_,_],_=>rfl) fun cdv A outer s H E hr =>
   (ar (aY (cw B.b_len (aa (i6 1 ["row", "table", "long"] rfl (dD (ab 0 rfl (Or.inl rfl) rfl rfl) rfl) (je (by decide)) (fun _ _ _ _ _=>(aO 0 (show List.Nodup (["row", "table", "long"]:List Str) from by decide +kernel) rfl (Or.inl rfl) (Or.inr rfl))) (fun _ _ _ _ _=>(iZ (ba (ab 0 rfl (Or.inl rfl) rfl rfl) ae (fun _ _=>rfl) rfl) (ab 2 rfl (Or.inr (Or.inl rfl)) rfl rfl) (ba (ab 0 rfl (Or.inl rfl) rfl rfl) ae (fun _ _=>rfl) rfl) (by with_unfolding_all rfl))) (fun _ _ _ _ _=>(ab 0 rfl (Or.inl rfl) rfl rfl)) rfl rfl (by decide) (fun _=>rfl)) ag rfl) rfl rfl rfl)))
noncomputable abbrev dF:Stmt:=top 4
theorem m8:FnScope ["_law_script", "_law_k"] ["_law_script", "_law_k"] (ao dF):=⟨rfl,rfl,rfl,by decide +kernel,rfl,by decide +kernel,by decide +kernel⟩
theorem dE {f:Addr} {fd:FuncData} (F:Fun K "_law_cell" "_law_cell" dF f fd) (hm:mg "_law_cell" = some (.ref f)) (B:Blt mg) :
   FnAt P w K mg base 1 "_law_cell" ["_law_script", "_law_k"] (gx0 K) bE:=eD F hm m8 rfl rfl (fun _ _ _ _ _ _ us hl=>match us,hl with | [_,_],_=>rfl) fun cdv A outer s H E hr =>
   (aj (cz (v7 (ab 1 rfl (Or.inl rfl) rfl rfl) (cw B.b_len (aa (ab 0 rfl (Or.inl rfl) rfl rfl) ag rfl) rfl rfl rfl)) (ar (aY (ba (ab 0 rfl (Or.inl rfl) rfl rfl) (ab 1 rfl (Or.inl rfl) rfl rfl) (fun _ _=>rfl) rfl))) cj)
   (ar (aY ae)))
noncomputable abbrev di:Stmt:=top 5
theorem cF:FnScope ["_law_script", "_law_k", "_law_cell_here", "_law_number"] ["_law_script", "_law_k"] (ao di):=⟨rfl,rfl,rfl,by decide +kernel,rfl,by decide +kernel,by decide +kernel⟩
theorem aF {f:Addr} {fd:FuncData} (F:Fun K "_law_mixed" "_law_mixed" di f fd) (hm:mg "_law_mixed" = some (.ref f)) (B:Blt mg) :
   FnAt P w K mg base 1 "_law_mixed" ["_law_script", "_law_k"] (gx0 K) aw:=eD F hm cF rfl rfl (fun _ _ _ _ _ _ us hl=>match us,hl with | [_,_],_=>rfl) fun cdv A outer s H E hr =>
   (aj (ak ae cF.nd rfl (Or.inl rfl) rfl (Or.inl rfl))
   (aj (cz (jc (cw B.b_len (aa (ab 0 rfl (Or.inl rfl) rfl rfl) ag rfl) rfl rfl rfl) ae) (ar (ak (ba (ab 0 rfl (Or.inl rfl) rfl rfl) (aU (ab 1 rfl (Or.inl rfl) rfl rfl) (cw B.b_len (aa (ab 0 rfl (Or.inl rfl) rfl rfl) ag rfl) rfl rfl rfl)) (fun _ _=>rfl) rfl) cF.nd rfl (Or.inl rfl) rfl (Or.inl rfl))) cj)
   (aj (ak (aU (dm (aV (aV (aU (ab 2 rfl (Or.inl rfl) rfl rfl) ae) (dm ae (ab 1 rfl (Or.inl rfl) rfl rfl))) ae) ae) ae) cF.nd rfl (Or.inl rfl) rfl (Or.inl rfl))
   (aj (ak (aU (dm (ab 3 rfl (Or.inl rfl) rfl rfl) (ab 3 rfl (Or.inl rfl) rfl rfl)) ae) cF.nd rfl (Or.inl rfl) rfl (Or.inl rfl))
   (aj (ak (aU (dm (aV (ab 3 rfl (Or.inl rfl) rfl rfl) (ab 1 rfl (Or.inl rfl) rfl rfl)) ae) ae) cF.nd rfl (Or.inl rfl) rfl (Or.inl rfl))
   (ar (aY (dA (aU (dm (ab 3 rfl (Or.inl rfl) rfl rfl) (ab 3 rfl (Or.inl rfl) rfl rfl)) ae) ae))))))))
noncomputable abbrev dh:Stmt:=top 6
theorem fB:FnScope ["_law_cell_here", "_law_start", "_law_step"] ["_law_cell_here"] (ao dh):=⟨rfl,rfl,rfl,by decide +kernel,rfl,by decide +kernel,by decide +kernel⟩
theorem bq {f:Addr} {fd:FuncData} (F:Fun K "_law_signs" "_law_signs" dh f fd) (hm:mg "_law_signs" = some (.ref f)) (B:Blt mg) :
   FnAt P w K mg base 1 "_law_signs" ["_law_cell_here"] (gx0 K) bz:=eD F hm fB rfl rfl (fun _ _ _ _ _ _ us hl=>match us,hl with | [_],_=>rfl) fun cdv A outer s H E hr =>
   (aj (ak (aU (ab 0 rfl (Or.inl rfl) rfl rfl) ae) fB.nd rfl (Or.inr rfl) rfl (Or.inl rfl))
   (aj (ak (ba (dk (aa ae (aa ae (aa ae (aa ae (aa ae ag rfl) rfl) rfl) rfl) rfl)) (aU (dA (ab 0 rfl (Or.inl rfl) rfl rfl) ae) ae) (fun _ _=>rfl) rfl) fB.nd rfl (Or.inr rfl) rfl (Or.inl rfl))
   (ar (aY (kn 1 ["_law_k", "_law_cell_here", "_law_start", "_law_step"] rfl (bK ae rfl B.b_range rfl rfl) (je (by decide)) (fun _ _ _ _ _=>(aO 0 (show List.Nodup (["_law_k", "_law_cell_here", "_law_start", "_law_step"]:List Str) from by decide +kernel) rfl (Or.inl rfl) (Or.inr rfl))) (fun _ _ _ _ _=>(ba (gG (by decide +kernel) (by decide)) (aU (aV (ab 2 rfl (Or.inr (Or.inl rfl)) rfl rfl) (dm (ab 3 rfl (Or.inr (Or.inl rfl)) rfl rfl) (ab 0 rfl (Or.inl rfl) rfl rfl))) ae) (fun _ _=>rfl) rfl)) rfl rfl (by decide) (fun _=>rfl))))))
noncomputable abbrev bH:Stmt:=top 7
theorem aG:FnScope ["_law_cell_here", "_law_signs_here", "_law_some", "_law_many", "_law_room", "_law_book_here", "_law_k", "_law_size", "_law_text", "_law_j"] ["_law_cell_here"] (ao bH):=⟨rfl,rfl,rfl,by decide +kernel,rfl,by decide +kernel,by decide +kernel⟩
theorem b8 {f:Addr} {fd:FuncData} (F:Fun K "_law_by_digits" "_law_by_digits" bH f fd) (hm:mg "_law_by_digits" = some (.ref f)) (B:Blt mg) (bq:FnAt P w K mg base 1 "_law_signs" ["_law_cell_here"] (gx0 K) bz) :
   FnAt P w K mg base 2 "_law_by_digits" ["_law_cell_here"] (gx0 K) br:=eD F hm aG rfl rfl (fun _ _ _ _ _ _ us hl=>match us,hl with | [_],_=>rfl) fun cdv A outer s H E hr =>
   (aj (ak (aI bq hr (aa (ab 0 rfl (Or.inl rfl) rfl rfl) ag rfl) (by decide) rfl rfl rfl rfl) aG.nd rfl (Or.inl rfl) rfl (Or.inl rfl))
   (aj (ak (ba (dk (aa ae (aa ae (aa ae (aa ae (aa ae (aa ae (aa ae (aa ae ag rfl) rfl) rfl) rfl) rfl) rfl) rfl) rfl)) (aU (dA (ab 0 rfl (Or.inl rfl) rfl rfl) ae) ae) (fun _ _=>rfl) rfl) aG.nd rfl (Or.inl rfl) rfl (Or.inl rfl))
   (aj (ak (aU (dA (ab 0 rfl (Or.inl rfl) rfl rfl) ae) ae) aG.nd rfl (Or.inl rfl) rfl (Or.inl rfl))
   (aj (ak (dA (ab 0 rfl (Or.inl rfl) rfl rfl) ae) aG.nd rfl (Or.inl rfl) rfl (Or.inl rfl))
   (aj (ak ae aG.nd rfl (Or.inl rfl) rfl (Or.inl rfl))
   (aj (dC (dk ag) aG.nd rfl (Or.inl rfl) rfl (Or.inl rfl))
   (aj (bC PassesOwn.never rfl (bK (ab 3 rfl (Or.inl rfl) rfl rfl) rfl B.b_range rfl rfl) (aO 6 aG.nd rfl (Or.inl rfl) (Or.inl rfl))
   (aj (ak (nV B.b_min (aa (ab 4 rfl (Or.inl rfl) rfl rfl) (aa (aU (ab 0 rfl (Or.inl rfl) rfl rfl) ae) ag rfl) rfl) rfl rfl rfl rfl) aG.nd rfl (Or.inl rfl) rfl (Or.inl rfl))
   (aj (ak (dA (ab 0 rfl (Or.inl rfl) rfl rfl) ae) aG.nd rfl (Or.inl rfl) rfl (Or.inl rfl))
   (aj (ak (gP (ab 4 rfl (Or.inl rfl) rfl rfl) (ab 7 rfl (Or.inl rfl) rfl rfl)) aG.nd rfl (Or.inl rfl) rfl (Or.inl rfl))
   (aj (ak (gG (by decide +kernel) (by decide)) aG.nd rfl (Or.inl rfl) rfl (Or.inl rfl))
   (aj (bC PassesOwn.never rfl (bK (ab 7 rfl (Or.inl rfl) rfl rfl) rfl B.b_range rfl rfl) (aO 9 aG.nd rfl (Or.inl rfl) (Or.inl rfl))
   (aj (ak (aV (ab 8 rfl (Or.inl rfl) rfl rfl) (ba (ab 1 rfl (Or.inl rfl) rfl rfl) (aU (ab 0 rfl (Or.inl rfl) rfl rfl) (ab 2 rfl (Or.inl rfl) rfl rfl)) (fun _ _=>rfl) rfl)) aG.nd rfl (Or.inl rfl) rfl (Or.inl rfl))
   (ar (ak (dA (ab 0 rfl (Or.inl rfl) rfl rfl) (ab 2 rfl (Or.inl rfl) rfl rfl)) aG.nd rfl (Or.inl rfl) rfl (Or.inl rfl)))) (fun _=>rfl))
   (ar (eu 5 (aa (ab 8 rfl (Or.inl rfl) rfl rfl) ag rfl) rfl rfl (Or.inl rfl) rfl rfl rfl rfl rfl))))))) (fun _=>rfl))
   (ar (fR 5 rfl (Or.inl rfl) rfl rfl)))))))))
noncomputable abbrev bI:Stmt:=top 8
theorem aH:FnScope ["_law_script", "_law_most", "_law_signs_here", "_law_some", "_law_room", "_law_book_here", "_law_k", "_law_size", "_law_back", "_law_text", "_law_j", "_law_number"] ["_law_script", "_law_most"] (ao bI):=⟨rfl,rfl,rfl,by decide +kernel,rfl,by decide +kernel,by decide +kernel⟩
theorem b5 {f:Addr} {fd:FuncData} (F:Fun K "_law_by_mixing" "_law_by_mixing" bI f fd) (hm:mg "_law_by_mixing" = some (.ref f)) (B:Blt mg) (aF:FnAt P w K mg base 1 "_law_mixed" ["_law_script", "_law_k"] (gx0 K) aw) (bq:FnAt P w K mg base 1 "_law_signs" ["_law_cell_here"] (gx0 K) bz) :
   FnAt P w K mg base 2 "_law_by_mixing" ["_law_script", "_law_most"] (gx0 K) b7:=eD F hm aH rfl rfl (fun _ _ _ _ _ _ us hl=>match us,hl with | [_,_],_=>rfl) fun cdv A outer s H E hr =>
   (aj (ak (aI bq hr (aa (aI aF hr (aa (ab 0 rfl (Or.inl rfl) rfl rfl) (aa ae ag rfl) rfl) (by decide) rfl rfl rfl rfl) ag rfl) (by decide) rfl rfl rfl rfl) aH.nd rfl (Or.inl rfl) rfl (Or.inl rfl))
   (aj (ak (ba (dk (aa ae (aa ae (aa ae (aa ae (aa ae (aa ae (aa ae (aa ae ag rfl) rfl) rfl) rfl) rfl) rfl) rfl) rfl)) (aU (aI aF hr (aa (ab 0 rfl (Or.inl rfl) rfl rfl) (aa ae ag rfl) rfl) (by decide) rfl rfl rfl rfl) ae) (fun _ _=>rfl) rfl) aH.nd rfl (Or.inl rfl) rfl (Or.inl rfl))
   (aj (ak (ab 1 rfl (Or.inl rfl) rfl rfl) aH.nd rfl (Or.inl rfl) rfl (Or.inl rfl))
   (aj (dC (dk ag) aH.nd rfl (Or.inl rfl) rfl (Or.inl rfl))
   (aj (bC PassesOwn.never rfl (bK (aU (aI aF hr (aa (ab 0 rfl (Or.inl rfl) rfl rfl) (aa ae ag rfl) rfl) (by decide) rfl rfl rfl rfl) ae) rfl B.b_range rfl rfl) (aO 6 aH.nd rfl (Or.inl rfl) (Or.inl rfl))
   (aj (ak (nV B.b_min (aa (ab 4 rfl (Or.inl rfl) rfl rfl) (aa (aU (aI aF hr (aa (ab 0 rfl (Or.inl rfl) rfl rfl) (aa (aV (dm ae (ab 6 rfl (Or.inl rfl) rfl rfl)) ae) ag rfl) rfl) (by decide) rfl rfl rfl rfl) (aV (ab 1 rfl (Or.inl rfl) rfl rfl) ae)) ag rfl) rfl) rfl rfl rfl rfl) aH.nd rfl (Or.inl rfl) rfl (Or.inl rfl))
   (aj (ak (gP (ab 4 rfl (Or.inl rfl) rfl rfl) (ab 7 rfl (Or.inl rfl) rfl rfl)) aH.nd rfl (Or.inl rfl) rfl (Or.inl rfl))
   (aj (ak (aV ae (aU (aI aF hr (aa (ab 0 rfl (Or.inl rfl) rfl rfl) (aa (aV (dm ae (ab 6 rfl (Or.inl rfl) rfl rfl)) ae) ag rfl) rfl) (by decide) rfl rfl rfl rfl) ae)) aH.nd rfl (Or.inl rfl) rfl (Or.inl rfl))
   (aj (ak (gG (by decide +kernel) (by decide)) aH.nd rfl (Or.inl rfl) rfl (Or.inl rfl))
   (aj (bC PassesOwn.never rfl (bK (ab 7 rfl (Or.inl rfl) rfl rfl) rfl B.b_range rfl rfl) (aO 10 aH.nd rfl (Or.inl rfl) (Or.inl rfl))
   (aj (ak (aI aF hr (aa (ab 0 rfl (Or.inl rfl) rfl rfl) (aa (aV (aV (dm ae (ab 6 rfl (Or.inl rfl) rfl rfl)) ae) (ab 10 rfl (Or.inl rfl) rfl rfl)) ag rfl) rfl) (by decide) rfl rfl rfl rfl) aH.nd rfl (Or.inl rfl) rfl (Or.inl rfl))
   (ar (cz (iN (gL (pX (cw B.b_len (aa (ab 9 rfl (Or.inl rfl) rfl rfl) ag rfl) rfl rfl rfl) (ab 8 rfl (Or.inl rfl) rfl rfl)) (hV (jc (aU (ab 11 rfl (Or.inl rfl) rfl rfl) ae) ae)))) (ar (ak (aV (ab 9 rfl (Or.inl rfl) rfl rfl) (ba (ab 9 rfl (Or.inl rfl) rfl rfl) (gP (cw B.b_len (aa (ab 9 rfl (Or.inl rfl) rfl rfl) ag rfl) rfl rfl rfl) (ab 8 rfl (Or.inl rfl) rfl rfl)) (fun _ _=>rfl) rfl)) aH.nd rfl (Or.inl rfl) rfl (Or.inl rfl))) (ar (ak (aV (ab 9 rfl (Or.inl rfl) rfl rfl) (ba (ab 2 rfl (Or.inl rfl) rfl rfl) (aU (dA (ab 11 rfl (Or.inl rfl) rfl rfl) ae) (ab 3 rfl (Or.inl rfl) rfl rfl)) (fun _ _=>rfl) rfl)) aH.nd rfl (Or.inl rfl) rfl (Or.inl rfl)))))) (fun _=>rfl))
   (aj (eu 5 (aa (ab 9 rfl (Or.inl rfl) rfl rfl) ag rfl) rfl rfl (Or.inl rfl) rfl rfl rfl rfl rfl)
   (ar (cz (iN (gL (jc (ab 7 rfl (Or.inl rfl) rfl rfl) ae) (gL (iC hr (aU (aI aF hr (aa (ab 0 rfl (Or.inl rfl) rfl rfl) (aa (aV (dm ae (ab 6 rfl (Or.inl rfl) rfl rfl)) ae) ag rfl) rfl) (by decide) rfl rfl rfl rfl) ae) ae) (hV (pX (ab 4 rfl (Or.inl rfl) rfl rfl) ae))))) (aj (eu 5 (aa (cY (ab 9 rfl (Or.inl rfl) rfl rfl) (bU ae) (bU ae) rfl) ag rfl) rfl rfl (Or.inl rfl) rfl rfl rfl rfl rfl)
   (ar (ak (gP (ab 4 rfl (Or.inl rfl) rfl rfl) ae) aH.nd rfl (Or.inl rfl) rfl (Or.inl rfl)))) cj)))))))) (fun _=>rfl))
   (km 5 (ar (aY (cY (ab 5 rfl (Or.inl rfl) rfl rfl) eI (bU ae) rfl)))))))))
noncomputable abbrev dj:Stmt:=top 9
theorem dv:FnScope ["_law_script", "_law_signs_here", "_law_text", "_law_at"] ["_law_script"] (ao dj):=⟨rfl,rfl,rfl,by decide +kernel,rfl,by decide +kernel,by decide +kernel⟩
theorem dN {f:Addr} {fd:FuncData} (F:Fun K "_law_great" "_law_great" dj f fd) (hm:mg "_law_great" = some (.ref f)) (B:Blt mg) (aF:FnAt P w K mg base 1 "_law_mixed" ["_law_script", "_law_k"] (gx0 K) aw) (bq:FnAt P w K mg base 1 "_law_signs" ["_law_cell_here"] (gx0 K) bz) :
   FnAt P w K mg base 2 "_law_great" ["_law_script"] (gx0 K) bR:=eD F hm dv rfl rfl (fun _ _ _ _ _ _ us hl=>match us,hl with | [_],_=>rfl) fun cdv A outer s H E hr =>
   (aj (ak (aI bq hr (aa (aI aF hr (aa (ab 0 rfl (Or.inl rfl) rfl rfl) (aa ae ag rfl) rfl) (by decide) rfl rfl rfl rfl) ag rfl) (by decide) rfl rfl rfl rfl) dv.nd rfl (Or.inl rfl) rfl (Or.inl rfl))
   (aj (ak (uO (ba (ab 1 rfl (Or.inl rfl) rfl rfl) ae (fun _ _=>rfl) rfl) (aV ae (aU (aI aF hr (aa (ab 0 rfl (Or.inl rfl) rfl rfl) (aa ae ag rfl) rfl) (by decide) rfl rfl rfl rfl) ae))) dv.nd rfl (Or.inl rfl) rfl (Or.inl rfl))
   (aj (cz (iC hr (aU (aI aF hr (aa (ab 0 rfl (Or.inl rfl) rfl rfl) (aa ae ag rfl) rfl) (by decide) rfl rfl rfl rfl) ae) ae) (aj (ak (aU (aI aF hr (aa (ab 0 rfl (Or.inl rfl) rfl rfl) (aa ae ag rfl) rfl) (by decide) rfl rfl rfl rfl) (cw B.b_len (aa (ab 2 rfl (Or.inl rfl) rfl rfl) ag rfl) rfl rfl rfl)) dv.nd rfl (Or.inl rfl) rfl (Or.inl rfl))
   (ar (ak (aV (aV (cY (ab 2 rfl (Or.inl rfl) rfl rfl) eI (bU (ab 3 rfl (Or.inl rfl) rfl rfl)) rfl) (ba (ab 1 rfl (Or.inl rfl) rfl rfl) ae (fun _ _=>rfl) rfl)) (cY (ab 2 rfl (Or.inl rfl) rfl rfl) (bU (aV (ab 3 rfl (Or.inl rfl) rfl rfl) ae)) eI rfl)) dv.nd rfl (Or.inl rfl) rfl (Or.inl rfl)))) cj)
   (ar (aY (dk (aa (ab 2 rfl (Or.inl rfl) rfl rfl) ag rfl)))))))
noncomputable abbrev dI:Stmt:=top 10
theorem mI:FnScope ["_law_script", "_law_most"] ["_law_script", "_law_most"] (ao dI):=⟨rfl,rfl,rfl,by decide +kernel,rfl,by decide +kernel,by decide +kernel⟩
theorem ef {f:Addr} {fd:FuncData} (F:Fun K "_law_book" "_law_book" dI f fd) (hm:mg "_law_book" = some (.ref f)) (B:Blt mg) (b8:FnAt P w K mg base 2 "_law_by_digits" ["_law_cell_here"] (gx0 K) br) (b5:FnAt P w K mg base 2 "_law_by_mixing" ["_law_script", "_law_most"] (gx0 K) b7) (dE:FnAt P w K mg base 1 "_law_cell" ["_law_script", "_law_k"] (gx0 K) bE) (dN:FnAt P w K mg base 2 "_law_great" ["_law_script"] (gx0 K) bR) (aF:FnAt P w K mg base 1 "_law_mixed" ["_law_script", "_law_k"] (gx0 K) aw) :
   FnAt P w K mg base 3 "_law_book" ["_law_script", "_law_most"] (gx0 K) cA:=eD F hm mI rfl rfl (fun _ _ _ _ _ _ us hl=>match us,hl with | [_,_],_=>rfl) fun cdv A outer s H E hr =>
   (aj (cz (iC hr (aU (aI dE hr (aa (ab 0 rfl (Or.inl rfl) rfl rfl) (aa ae ag rfl) rfl) (by decide) rfl rfl rfl rfl) ae) ae) (ar (aY (aI b8 hr (aa (dA (aI dE hr (aa (ab 0 rfl (Or.inl rfl) rfl rfl) (aa ae ag rfl) rfl) (by decide) rfl rfl rfl rfl) ae) ag rfl) (by decide) rfl rfl rfl rfl))) cj)
   (aj (cz (iN (gL (jc (ab 1 rfl (Or.inl rfl) rfl rfl) ae) (hV (iC hr (aU (aI aF hr (aa (ab 0 rfl (Or.inl rfl) rfl rfl) (aa ae ag rfl) rfl) (by decide) rfl rfl rfl rfl) ae) ae)))) (ar (aY (aI dN hr (aa (ab 0 rfl (Or.inl rfl) rfl rfl) ag rfl) (by decide) rfl rfl rfl rfl))) cj)
   (ar (aY (aI b5 hr (aa (ab 0 rfl (Or.inl rfl) rfl rfl) (aa (ba (dk (aa ae (aa ae (aa ae (aa (ab 1 rfl (Or.inl rfl) rfl rfl) ag rfl) rfl) rfl) rfl)) (aU (aI aF hr (aa (ab 0 rfl (Or.inl rfl) rfl rfl) (aa ae ag rfl) rfl) (by decide) rfl rfl rfl rfl) ae) (fun _ _=>rfl) rfl) ag rfl) rfl) (by decide) rfl rfl rfl rfl)))))
noncomputable abbrev cH:Stmt:=top 11
theorem b9:FnScope ["_law_book_here", "_law_found", "_law_number", "_law_text", "_law_end", "_law_start"] ["_law_book_here"] (ao cH):=⟨rfl,rfl,rfl,by decide +kernel,rfl,by decide +kernel,by decide +kernel⟩
theorem dq {f:Addr} {fd:FuncData} (F:Fun K "_law_places" "_law_places" cH f fd) (hm:mg "_law_places" = some (.ref f)) (B:Blt mg) :
   FnAt P w K mg base 1 "_law_places" ["_law_book_here"] (gx0 K) cI:=eD F hm b9 rfl rfl (fun _ _ _ _ _ _ us hl=>match us,hl with | [_],_=>rfl) fun cdv A outer s H E hr =>
   (aj (dC (qS (by decide +kernel) (by decide)) b9.nd rfl (Or.inl rfl) rfl (Or.inl rfl))
   (aj (bC PassesOwn.never rfl (jr (ab 0 rfl (Or.inl rfl) rfl rfl) rfl B.b_enumerate rfl rfl) (kY rfl (eR (aO 2 b9.nd rfl (Or.inl rfl) (Or.inl rfl)) (eR (aO 3 b9.nd rfl (Or.inl rfl) (Or.inl rfl)) j1 rfl) rfl) rfl rfl rfl)
   (ar (bC PassesOwn.never rfl (bK (aV (cw B.b_len (aa (ab 3 rfl (Or.inl rfl) rfl rfl) ag rfl) rfl rfl rfl) ae) rfl B.b_range rfl rfl) (aO 4 b9.nd rfl (Or.inl rfl) (Or.inl rfl))
   (ar (bC PassesOwn.never rfl (bK (aV (ab 4 rfl (Or.inl rfl) rfl rfl) ae) rfl B.b_range rfl rfl) (aO 5 b9.nd rfl (Or.inl rfl) (Or.inl rfl))
   (ar (oT (vH _) 1 (cY (ab 3 rfl (Or.inl rfl) rfl rfl) (bU (ab 5 rfl (Or.inl rfl) rfl rfl)) (bU (ab 4 rfl (Or.inl rfl) rfl rfl)) rfl) (aa (iE (aa (ab 2 rfl (Or.inl rfl) rfl rfl) (aa (ab 4 rfl (Or.inl rfl) rfl rfl) ag rfl) rfl)) ag rfl)  rfl rfl (Or.inl rfl) rfl rfl rfl rfl rfl rfl rfl rfl rfl rfl rfl rfl rfl rfl)) (fun _=>rfl))) (fun _=>rfl))) (fun _=>rfl))
   (ar (fR 1 rfl (Or.inl rfl) rfl rfl))))
noncomputable abbrev cp:Stmt:=top 12
theorem jJ:FnScope ["_law_word"] ["_law_word"] (ao cp):=⟨rfl,rfl,rfl,by decide +kernel,rfl,by decide +kernel,by decide +kernel⟩
theorem cO {f:Addr} {fd:FuncData} (F:Fun K "_law_by_size" "_law_by_size" cp f fd) (hm:mg "_law_by_size" = some (.ref f)) (B:Blt mg) :
   FnAt P w K mg base 1 "_law_by_size" ["_law_word"] (gx0 K) dM:=eD F hm jJ rfl rfl (fun _ _ _ _ _ _ us hl=>match us,hl with | [_],_=>rfl) fun cdv A outer s H E hr =>
   (ar (aY (iE (aa (cw B.b_len (aa (ab 0 rfl (Or.inl rfl) rfl rfl) ag rfl) rfl rfl rfl) (aa (ab 0 rfl (Or.inl rfl) rfl rfl) ag rfl) rfl))))
noncomputable abbrev cC:Stmt:=top 13
theorem ff:FnScope ["_law_found", "_law_groups", "_law_word"] ["_law_found"] (ao cC):=⟨rfl,rfl,rfl,by decide +kernel,rfl,by decide +kernel,by decide +kernel⟩
theorem dy {f:Addr} {fd:FuncData} (F:Fun K "_law_stands" "_law_stands" cC f fd) (hm:mg "_law_stands" = some (.ref f)) (B:Blt mg) (cO:FnAt P w K mg base 1 "_law_by_size" ["_law_word"] (gx0 K) dM) :
   FnAt P w K mg base 4 "_law_stands" ["_law_found"] (gx0 K) cD:=eD F hm ff rfl rfl (fun _ _ _ _ _ _ us hl=>match us,hl with | [_],_=>rfl) fun cdv A outer s H E hr =>
   (aj (dC qd ff.nd rfl (Or.inr rfl) rfl (Or.inl rfl))
   (aj (bC PassesOwn.never rfl (dD (nt cO (by decide) jx hr B.b_sorted (aa (ab 0 rfl (Or.inl rfl) rfl rfl) ag rfl) rfl rfl rfl rfl rfl rfl) rfl) (aO 2 ff.nd rfl (Or.inl rfl) (Or.inl rfl))
   (ar (nO 1 hr (kH B.b_tuple (aa (oA hr (ab 0 rfl (Or.inl rfl) rfl rfl) (ab 2 rfl (Or.inl rfl) rfl rfl) (fun _ _=>rfl) rfl) ag rfl) rfl rfl rfl) (aa (ab 2 rfl (Or.inl rfl) rfl rfl) ag rfl)  rfl rfl (Or.inr (Or.inl rfl)) rfl rfl rfl rfl rfl rfl rfl rfl rfl rfl rfl rfl rfl rfl)) (fun _=>rfl))
   (ar (nJ 1 ["_law_some", "_law_found", "_law_groups", "_law_word"] hr rfl rfl (Or.inr (Or.inl rfl)) rfl rfl (fun _ _ _ _ _=>⟨L2.lF (show List.Nodup (["_law_some", "_law_found", "_law_groups", "_law_word"]:List Str) from by decide +kernel) rfl (Or.inl rfl) (Or.inr rfl),L2.eG rfl (Or.inr (Or.inl rfl)) rfl rfl,L2.eG rfl (Or.inl rfl) rfl rfl,rfl⟩) (fun _ _=>rfl) rfl rfl (by decide) (fun _=>rfl)))))
noncomputable abbrev cm:Stmt:=top 14
theorem cB:FnScope ["_law_stands_here", "_law_numbers_here", "_law_k", "_law_some", "_law_word"] ["_law_stands_here"] (ao cm):=⟨rfl,rfl,rfl,by decide +kernel,rfl,by decide +kernel,by decide +kernel⟩
theorem cR {f:Addr} {fd:FuncData} (F:Fun K "_law_numbers" "_law_numbers" cm f fd) (hm:mg "_law_numbers" = some (.ref f)) (B:Blt mg) :
   FnAt P w K mg base 1 "_law_numbers" ["_law_stands_here"] (gx0 K) bL:=eD F hm cB rfl rfl (fun _ _ _ _ _ _ us hl=>match us,hl with | [_],_=>rfl) fun cdv A outer s H E hr =>
   (aj (dC tN cB.nd rfl (Or.inl rfl) rfl (Or.inl rfl))
   (aj (bC PassesOwn.never rfl (jr (ab 0 rfl (Or.inl rfl) rfl rfl) rfl B.b_enumerate rfl rfl) (kY rfl (eR (aO 2 cB.nd rfl (Or.inl rfl) (Or.inl rfl)) (eR (aO 3 cB.nd rfl (Or.inl rfl) (Or.inl rfl)) j1 rfl) rfl) rfl rfl rfl)
   (ar (bC PassesOwn.never rfl (dD (ab 3 rfl (Or.inl rfl) rfl rfl) rfl) (aO 4 cB.nd rfl (Or.inl rfl) (Or.inl rfl))
   (ar (sE 1 hr (ab 4 rfl (Or.inl rfl) rfl rfl) (ab 2 rfl (Or.inl rfl) rfl rfl) rfl (Or.inl rfl) rfl rfl (fun _=>rfl) rfl rfl rfl)) (fun _=>rfl))) (fun _=>rfl))
   (ar (fR 1 rfl (Or.inl rfl) rfl rfl))))
noncomputable abbrev df:Stmt:=top 15
theorem bT:FnScope ["_law_stands_here", "_law_numbers_here", "_law_table_here", "_law_some", "_law_ways", "_law_sign", "_law_link"] ["_law_stands_here", "_law_numbers_here"] (ao df):=⟨rfl,rfl,rfl,by decide +kernel,rfl,by decide +kernel,by decide +kernel⟩
theorem dP {f:Addr} {fd:FuncData} (F:Fun K "_law_table" "_law_table" df f fd) (hm:mg "_law_table" = some (.ref f)) (B:Blt mg) :
   FnAt P w K mg base 1 "_law_table" ["_law_stands_here", "_law_numbers_here"] (gx0 K) dc:=eD F hm bT rfl rfl (fun _ _ _ _ _ _ us hl=>match us,hl with | [_,_],_=>rfl) fun cdv A outer s H E hr =>
   (aj (dC (dk ag) bT.nd rfl (Or.inl rfl) rfl (Or.inl rfl))
   (aj (bC PassesOwn.never rfl (dD (ab 0 rfl (Or.inl rfl) rfl rfl) rfl) (aO 3 bT.nd rfl (Or.inl rfl) (Or.inl rfl))
   (aj (dC (dk ag) bT.nd rfl (Or.inl rfl) rfl (Or.inl rfl))
   (aj (bC PassesOwn.never rfl (dD (gG (by decide +kernel) (by decide)) rfl) (aO 5 bT.nd rfl (Or.inl rfl) (Or.inl rfl))
   (ar (cz (wZ hr (aV (ba (ab 3 rfl (Or.inl rfl) rfl rfl) ae (fun _ _=>rfl) rfl) (ab 5 rfl (Or.inl rfl) rfl rfl)) (ab 1 rfl (Or.inl rfl) rfl rfl) (by with_unfolding_all rfl) rfl) (ar (eu 4 (aa (iE (aa (ab 5 rfl (Or.inl rfl) rfl rfl) (aa (oA hr (ab 1 rfl (Or.inl rfl) rfl rfl) (aV (ba (ab 3 rfl (Or.inl rfl) rfl rfl) ae (fun _ _=>rfl) rfl) (ab 5 rfl (Or.inl rfl) rfl rfl)) (fun _ _=>rfl) rfl) ag rfl) rfl)) ag rfl) rfl rfl (Or.inl rfl) rfl rfl rfl rfl rfl)) cj)) (fun _=>rfl))
   (km 4 (aj (ak rP bT.nd rfl (Or.inl rfl) rfl (Or.inl rfl))
   (aj (cz (xi hr (ba (ab 3 rfl (Or.inl rfl) rfl rfl) ae (fun _ _=>rfl) rfl) (gG (by decide +kernel) (by decide))) (ar (ak (oA hr (ab 1 rfl (Or.inl rfl) rfl rfl) (cY (ba (ab 3 rfl (Or.inl rfl) rfl rfl) ae (fun _ _=>rfl) rfl) (bU ae) eI rfl) (fun _ _=>rfl) rfl) bT.nd rfl (Or.inl rfl) rfl (Or.inl rfl))) cj)
   (ar (eu 2 (aa (iE (aa (cw B.b_len (aa (ba (ab 3 rfl (Or.inl rfl) rfl rfl) ae (fun _ _=>rfl) rfl) ag rfl) rfl rfl rfl) (aa (cw B.b_len (aa (ba (ab 3 rfl (Or.inl rfl) rfl rfl) vV (fun _ _=>rfl) rfl) ag rfl) rfl rfl rfl) (aa (ab 6 rfl (Or.inl rfl) rfl rfl) (aa (kH B.b_tuple (aa (ab 4 rfl (Or.inl rfl) rfl rfl) ag rfl) rfl rfl rfl) ag rfl) rfl) rfl) rfl)) ag rfl) rfl rfl (Or.inl rfl) rfl rfl rfl rfl rfl))))))) (fun _=>rfl))
   (ar (fR 2 rfl (Or.inl rfl) rfl rfl))))
noncomputable abbrev fh:Stmt:=top 16
theorem qB:FnScope ["_law_found", "_law_due"] ["_law_found", "_law_due"] (ao fh):=⟨rfl,rfl,rfl,by decide +kernel,rfl,by decide +kernel,by decide +kernel⟩
theorem eg {f:Addr} {fd:FuncData} (F:Fun K "_law_is" "_law_is" fh f fd) (hm:mg "_law_is" = some (.ref f)) (B:Blt mg) :
   FnAt P w K mg base 1 "_law_is" ["_law_found", "_law_due"] (gx0 K) cS:=eD F hm qB rfl rfl (fun _ _ _ _ _ _ us hl=>match us,hl with | [_,_],_=>rfl) fun cdv A outer s H E hr =>
   (ar (aY (jG (sS .int B.b_isinstance B.b_int (ab 0 rfl (Or.inl rfl) rfl rfl) rfl rfl rfl rfl) (jG (rS (sS .bool B.b_isinstance B.b_bool (ab 0 rfl (Or.inl rfl) rfl rfl) rfl rfl rfl rfl)) (mB (tK hr (ab 0 rfl (Or.inl rfl) rfl rfl) (ab 1 rfl (Or.inl rfl) rfl rfl)))))))
noncomputable abbrev iG:Stmt:=top 17
theorem fI:FnScope ["_law_script", "_law_book_here", "_law_found", "_law_stands_here", "_law_table_here", "_law_handed", "_law_sizes", "_law_long", "_law_far"] ["_law_script"] (ao iG):=⟨rfl,rfl,rfl,by decide +kernel,rfl,by decide +kernel,by decide +kernel⟩
theorem yR {f:Addr} {fd:FuncData} (F:Fun K "law" "law" iG f fd) (B:Blt mg) (ef:FnAt P w K mg base 3 "_law_book" ["_law_script", "_law_most"] (gx0 K) cA) (eg:FnAt P w K mg base 1 "_law_is" ["_law_found", "_law_due"] (gx0 K) cS) (aF:FnAt P w K mg base 1 "_law_mixed" ["_law_script", "_law_k"] (gx0 K) aw) (cR:FnAt P w K mg base 1 "_law_numbers" ["_law_stands_here"] (gx0 K) bL) (dq:FnAt P w K mg base 1 "_law_places" ["_law_book_here"] (gx0 K) cI) (dy:FnAt P w K mg base 4 "_law_stands" ["_law_found"] (gx0 K) cD) (dP:FnAt P w K mg base 1 "_law_table" ["_law_stands_here", "_law_numbers_here"] (gx0 K) dc) (d8:FnAt P w K mg base 1 "counted" ["table", "long"] (gx0 K) cn) (gv:FnAt P w K mg base 1 "unlike" ["table"] (gx0 K) fj) :
   FnOk P w K mg base CX0 5 f fd ["_law_script"] (spF (gx0 K) kM):=B3 F fI rfl rfl fun cdv A outer s H E hr =>
   (aj (ak (aI ef hr (aa (ab 0 rfl (Or.inl rfl) rfl rfl) (aa ae ag rfl) rfl) (by decide) rfl rfl rfl rfl) fI.nd rfl (Or.inl rfl) rfl (Or.inl rfl))
   (aj (ak (aI dq hr (aa (ab 1 rfl (Or.inl rfl) rfl rfl) ag rfl) (by decide) rfl rfl rfl rfl) fI.nd rfl (Or.inl rfl) rfl (Or.inl rfl))
   (aj (ak (aI dy hr (aa (ab 2 rfl (Or.inl rfl) rfl rfl) ag rfl) (by decide) rfl rfl rfl rfl) fI.nd rfl (Or.inl rfl) rfl (Or.inl rfl))
   (aj (ak (aI dP hr (aa (ab 3 rfl (Or.inl rfl) rfl rfl) (aa (aI cR hr (aa (ab 3 rfl (Or.inl rfl) rfl rfl) ag rfl) (by decide) rfl rfl rfl rfl) ag rfl) rfl) (by decide) rfl rfl rfl rfl) fI.nd rfl (Or.inl rfl) rfl (Or.inl rfl))
   (aj (ak (rA B.b_list (aa (ab 4 rfl (Or.inl rfl) rfl rfl) ag rfl) rfl rfl rfl rfl) fI.nd rfl (Or.inl rfl) rfl (Or.inl rfl))
   (aj (t4 6 2 ["_law_word", "_law_script", "_law_book_here", "_law_found", "_law_stands_here", "_law_table_here", "_law_handed", "_law_sizes", "_law_long", "_law_far"] rfl rfl (Or.inl rfl) rfl rfl (fun _ _ _ _ _=>L2.lF (show List.Nodup (["_law_word", "_law_script", "_law_book_here", "_law_found", "_law_stands_here", "_law_table_here", "_law_handed", "_law_sizes", "_law_long", "_law_far"]:List Str) from by decide +kernel) rfl (Or.inl rfl) (Or.inr rfl)) (fun _ _ _ _ _=>(cw B.b_len (aa (ab 0 rfl (Or.inl rfl) rfl rfl) ag rfl) rfl rfl rfl)) fI.nd rfl (Or.inl rfl) rfl rfl (by decide) rfl (Or.inl rfl) (fun _=>rfl))
   (aj (cz (kA (kU (aI eg hr (aa (aI gv hr (aa (ab 5 rfl (Or.inl rfl) rfl rfl) ag rfl) (by decide) rfl rfl rfl rfl) (aa (gP (cw B.b_len (aa (ab 2 rfl (Or.inl rfl) rfl rfl) ag rfl) rfl rfl rfl) ae) ag rfl) rfl) (by decide) rfl rfl rfl rfl) rfl (fun _=>rfl))) (ar (aY pJ)) cj)
   (aj (bC PassesOwn.never rfl (bK (aV (sf B.b_max (aa (ab 6 rfl (Or.inl rfl) rfl rfl) ag rfl) rfl rfl rfl rfl) ae) rfl B.b_range rfl rfl) (aO 7 fI.nd rfl (Or.inr rfl) (Or.inl rfl))
   (ar (cz (kA (kU (aI eg hr (aa (aI d8 hr (aa (ab 5 rfl (Or.inl rfl) rfl rfl) (aa (ab 7 rfl (Or.inr (Or.inl rfl)) rfl rfl) ag rfl) rfl) (by decide) rfl rfl rfl rfl) (aa (cw B.b_len (aa (i6 1 ["_law_size", "_law_script", "_law_book_here", "_law_found", "_law_stands_here", "_law_table_here", "_law_handed", "_law_sizes", "_law_long", "_law_far"] rfl (dD (ab 6 rfl (Or.inl rfl) rfl rfl) rfl) (je (by decide)) (fun _ _ _ _ _=>(aO 0 (show List.Nodup (["_law_size", "_law_script", "_law_book_here", "_law_found", "_law_stands_here", "_law_table_here", "_law_handed", "_law_sizes", "_law_long", "_law_far"]:List Str) from by decide +kernel) rfl (Or.inl rfl) (Or.inr rfl))) (fun _ _ _ _ _=>(iC hr (ab 0 rfl (Or.inl rfl) rfl rfl) (ab 8 rfl (Or.inr (Or.inl rfl)) rfl rfl))) (fun _ _ _ _ _=>(ab 0 rfl (Or.inl rfl) rfl rfl)) rfl rfl (by decide) (fun _=>rfl)) ag rfl) rfl rfl rfl) ag rfl) rfl) (by decide) rfl rfl rfl rfl) rfl (fun _=>rfl))) (ar (aY pJ)) cj)) (fun _=>rfl))
   (aj (ak (aV ae (dm (aI aF hr (aa (ab 0 rfl (Or.inl rfl) rfl rfl) (aa ae ag rfl) rfl) (by decide) rfl rfl rfl rfl) (vi ae ae))) fI.nd rfl (Or.inl rfl) rfl (Or.inl rfl))
   (ar (aY (jG (aI eg hr (aa (aI d8 hr (aa (ab 5 rfl (Or.inl rfl) rfl rfl) (aa (ab 8 rfl (Or.inl rfl) rfl rfl) ag rfl) rfl) (by decide) rfl rfl rfl rfl) (aa ae ag rfl) rfl) (by decide) rfl rfl rfl rfl) (mB (tK hr (ab 5 rfl (Or.inl rfl) rfl rfl) (ab 4 rfl (Or.inl rfl) rfl rfl)))))))))))))))
end
theorem all_mk {l:PySem.W.OpenLaw} {w:World} {K:PySem.W.Frag} {h:Heap} {mg:Str->Option Value} {fa f0 f1 f2 f3 f4 f5 f6 f7 f8 f9 f10 f11 f12 f13 f14 f15:Addr} (X:K.In h) (G:h.Ns mainGlobals mg) (hfa:mg "law" = some (.ref fa))
   {od0 an0 od1 an1 od2 an2 od3 an3 od4 an4 od5 an5 od6 an6 od7 an7 od8 an8 od9 an9 od10 an10 od11 an11 od12 an12 od13 an13 od14 an14 od15 an15:Option Addr} {sl0 sl1 sl2 sl3 sl4 sl5 sl6 sl7 sl8 sl9 sl10 sl11 sl12 sl13 sl14 sl15:Array (Option Value)} {oc0 kV0 dc0 pm0 cd0 ct0 oc1 kV1 dc1 pm1 cd1 ct1 oc2 kV2 dc2 pm2 cd2 ct2 oc3 kV3 dc3 pm3 cd3 ct3 oc4 kV4 dc4 pm4 cd4 ct4 oc5 kV5 dc5 pm5 cd5 ct5 oc6 kV6 dc6 pm6 cd6 ct6 oc7 kV7 dc7 pm7 cd7 ct7 oc8 kV8 dc8 pm8 cd8 ct8 oc9 kV9 dc9 pm9 cd9 ct9 oc10 kV10 dc10 pm10 cd10 ct10 oc11 kV11 dc11 pm11 cd11 ct11 oc12 kV12 dc12 pm12 cd12 ct12 oc13 kV13 dc13 pm13 cd13 ct13 oc14 kV14 dc14 pm14 cd14 ct14 oc15 kV15 dc15 pm15 cd15 ct15:Value}
   (a0:PySem.W.nsIn K mainGlobals "unlike" = some (some (.ref f0))) (l0:K.lookup f0=some ⟨oc0,od0,.func (PySem.W.fnOf "unlike" "unlike" (aX fz) (aR fz) (ao fz) .none kV0 dc0 pm0 an0 cd0 ct0),sl0⟩) (c0:PySem.W.codeIn K cd0 "unlike" = true) (k0:PySem.W.keepIn K (.ref f0)=true)
   (a1:PySem.W.nsIn K mainGlobals "counted" = some (some (.ref f1))) (l1:K.lookup f1=some ⟨oc1,od1,.func (PySem.W.fnOf "counted" "counted" (aX d9) (aR d9) (ao d9) .none kV1 dc1 pm1 an1 cd1 ct1),sl1⟩) (c1:PySem.W.codeIn K cd1 "counted" = true) (k1:PySem.W.keepIn K (.ref f1)=true)
   (a2:PySem.W.nsIn K mainGlobals "_law_cell" = some (some (.ref f2))) (l2:K.lookup f2=some ⟨oc2,od2,.func (PySem.W.fnOf "_law_cell" "_law_cell" (aX dF) (aR dF) (ao dF) .none kV2 dc2 pm2 an2 cd2 ct2),sl2⟩) (c2:PySem.W.codeIn K cd2 "_law_cell" = true) (k2:PySem.W.keepIn K (.ref f2)=true)
   (a3:PySem.W.nsIn K mainGlobals "_law_mixed" = some (some (.ref f3))) (l3:K.lookup f3=some ⟨oc3,od3,.func (PySem.W.fnOf "_law_mixed" "_law_mixed" (aX di) (aR di) (ao di) .none kV3 dc3 pm3 an3 cd3 ct3),sl3⟩) (c3:PySem.W.codeIn K cd3 "_law_mixed" = true) (k3:PySem.W.keepIn K (.ref f3)=true)
   (a4:PySem.W.nsIn K mainGlobals "_law_signs" = some (some (.ref f4))) (l4:K.lookup f4=some ⟨oc4,od4,.func (PySem.W.fnOf "_law_signs" "_law_signs" (aX dh) (aR dh) (ao dh) .none kV4 dc4 pm4 an4 cd4 ct4),sl4⟩) (c4:PySem.W.codeIn K cd4 "_law_signs" = true) (k4:PySem.W.keepIn K (.ref f4)=true)
   (a5:PySem.W.nsIn K mainGlobals "_law_by_digits" = some (some (.ref f5))) (l5:K.lookup f5=some ⟨oc5,od5,.func (PySem.W.fnOf "_law_by_digits" "_law_by_digits" (aX bH) (aR bH) (ao bH) .none kV5 dc5 pm5 an5 cd5 ct5),sl5⟩) (c5:PySem.W.codeIn K cd5 "_law_by_digits" = true) (k5:PySem.W.keepIn K (.ref f5)=true)
   (a6:PySem.W.nsIn K mainGlobals "_law_by_mixing" = some (some (.ref f6))) (l6:K.lookup f6=some ⟨oc6,od6,.func (PySem.W.fnOf "_law_by_mixing" "_law_by_mixing" (aX bI) (aR bI) (ao bI) .none kV6 dc6 pm6 an6 cd6 ct6),sl6⟩) (c6:PySem.W.codeIn K cd6 "_law_by_mixing" = true) (k6:PySem.W.keepIn K (.ref f6)=true)
   (a7:PySem.W.nsIn K mainGlobals "_law_great" = some (some (.ref f7))) (l7:K.lookup f7=some ⟨oc7,od7,.func (PySem.W.fnOf "_law_great" "_law_great" (aX dj) (aR dj) (ao dj) .none kV7 dc7 pm7 an7 cd7 ct7),sl7⟩) (c7:PySem.W.codeIn K cd7 "_law_great" = true) (k7:PySem.W.keepIn K (.ref f7)=true)
   (a8:PySem.W.nsIn K mainGlobals "_law_book" = some (some (.ref f8))) (l8:K.lookup f8=some ⟨oc8,od8,.func (PySem.W.fnOf "_law_book" "_law_book" (aX dI) (aR dI) (ao dI) .none kV8 dc8 pm8 an8 cd8 ct8),sl8⟩) (c8:PySem.W.codeIn K cd8 "_law_book" = true) (k8:PySem.W.keepIn K (.ref f8)=true)
   (a9:PySem.W.nsIn K mainGlobals "_law_places" = some (some (.ref f9))) (l9:K.lookup f9=some ⟨oc9,od9,.func (PySem.W.fnOf "_law_places" "_law_places" (aX cH) (aR cH) (ao cH) .none kV9 dc9 pm9 an9 cd9 ct9),sl9⟩) (c9:PySem.W.codeIn K cd9 "_law_places" = true) (k9:PySem.W.keepIn K (.ref f9)=true)
   (a10:PySem.W.nsIn K mainGlobals "_law_by_size" = some (some (.ref f10))) (l10:K.lookup f10=some ⟨oc10,od10,.func (PySem.W.fnOf "_law_by_size" "_law_by_size" (aX cp) (aR cp) (ao cp) .none kV10 dc10 pm10 an10 cd10 ct10),sl10⟩) (c10:PySem.W.codeIn K cd10 "_law_by_size" = true) (k10:PySem.W.keepIn K (.ref f10)=true)
   (a11:PySem.W.nsIn K mainGlobals "_law_stands" = some (some (.ref f11))) (l11:K.lookup f11=some ⟨oc11,od11,.func (PySem.W.fnOf "_law_stands" "_law_stands" (aX cC) (aR cC) (ao cC) .none kV11 dc11 pm11 an11 cd11 ct11),sl11⟩) (c11:PySem.W.codeIn K cd11 "_law_stands" = true) (k11:PySem.W.keepIn K (.ref f11)=true)
   (a12:PySem.W.nsIn K mainGlobals "_law_numbers" = some (some (.ref f12))) (l12:K.lookup f12=some ⟨oc12,od12,.func (PySem.W.fnOf "_law_numbers" "_law_numbers" (aX cm) (aR cm) (ao cm) .none kV12 dc12 pm12 an12 cd12 ct12),sl12⟩) (c12:PySem.W.codeIn K cd12 "_law_numbers" = true) (k12:PySem.W.keepIn K (.ref f12)=true)
   (a13:PySem.W.nsIn K mainGlobals "_law_table" = some (some (.ref f13))) (l13:K.lookup f13=some ⟨oc13,od13,.func (PySem.W.fnOf "_law_table" "_law_table" (aX df) (aR df) (ao df) .none kV13 dc13 pm13 an13 cd13 ct13),sl13⟩) (c13:PySem.W.codeIn K cd13 "_law_table" = true) (k13:PySem.W.keepIn K (.ref f13)=true)
   (a14:PySem.W.nsIn K mainGlobals "_law_is" = some (some (.ref f14))) (l14:K.lookup f14=some ⟨oc14,od14,.func (PySem.W.fnOf "_law_is" "_law_is" (aX fh) (aR fh) (ao fh) .none kV14 dc14 pm14 an14 cd14 ct14),sl14⟩) (c14:PySem.W.codeIn K cd14 "_law_is" = true) (k14:PySem.W.keepIn K (.ref f14)=true)
   (a15:PySem.W.nsIn K mainGlobals "law" = some (some (.ref f15))) (l15:K.lookup f15=some ⟨oc15,od15,.func (PySem.W.fnOf "law" "law" (aX iG) (aR iG) (ao iG) .none kV15 dc15 pm15 an15 cd15 ct15),sl15⟩) (c15:PySem.W.codeIn K cd15 "law" = true) (k15:PySem.W.keepIn K (.ref f15)=true)
   (z_bool:PySem.W.nsIn K mainGlobals "bool" = some none)
   (z_enumerate:PySem.W.nsIn K mainGlobals "enumerate" = some none)
   (z_int:PySem.W.nsIn K mainGlobals "int" = some none)
   (z_isinstance:PySem.W.nsIn K mainGlobals "isinstance" = some none)
   (z_len:PySem.W.nsIn K mainGlobals "len" = some none)
   (z_list:PySem.W.nsIn K mainGlobals "list" = some none)
   (z_max:PySem.W.nsIn K mainGlobals "max" = some none)
   (z_min:PySem.W.nsIn K mainGlobals "min" = some none)
   (z_range:PySem.W.nsIn K mainGlobals "range" = some none)
   (z_sorted:PySem.W.nsIn K mainGlobals "sorted" = some none)
   (z_sum:PySem.W.nsIn K mainGlobals "sum" = some none)
   (z_tuple:PySem.W.nsIn K mainGlobals "tuple" = some none)
   : ∃ fd:FuncData,(∀ (s:Shared) (v:Value),BindsTo s fd ⟨[v],[]⟩ [("_law_script",v)])/\∀ base:Heap,K.In base->base.Ns mainGlobals mg->FnOk l.prog w K mg base CX0 5 fa fd ["_law_script"] (spF (gx0 K) kM):=by
 have e:=hfa.symm.trans (PySem.W.mg_of X G a15)
 cases e
 have B:Blt mg:=⟨PySem.W.mg_none_of X G z_bool,PySem.W.mg_none_of X G z_enumerate,PySem.W.mg_none_of X G z_int,PySem.W.mg_none_of X G z_isinstance,PySem.W.mg_none_of X G z_len,PySem.W.mg_none_of X G z_list,PySem.W.mg_none_of X G z_max,PySem.W.mg_none_of X G z_min,PySem.W.mg_none_of X G z_range,PySem.W.mg_none_of X G z_sorted,PySem.W.mg_none_of X G z_sum,PySem.W.mg_none_of X G z_tuple⟩
 refine ⟨PySem.W.fnOf "law" "law" (aX iG) (aR iG) (ao iG) .none kV15 dc15 pm15 an15 cd15 ct15,fun s v=>.of_eq rfl,fun base _ _=>?_⟩
 have gv:=gv (P:=l.prog) (w:=w) (base:=base) (cL (st:=fz) l0 c0 k0) (PySem.W.mg_of X G a0) B
 have d8:=d8 (P:=l.prog) (w:=w) (base:=base) (cL (st:=d9) l1 c1 k1) (PySem.W.mg_of X G a1) B
 have dE:=dE (P:=l.prog) (w:=w) (base:=base) (cL (st:=dF) l2 c2 k2) (PySem.W.mg_of X G a2) B
 have aF:=aF (P:=l.prog) (w:=w) (base:=base) (cL (st:=di) l3 c3 k3) (PySem.W.mg_of X G a3) B
 have bq:=bq (P:=l.prog) (w:=w) (base:=base) (cL (st:=dh) l4 c4 k4) (PySem.W.mg_of X G a4) B
 have b8:=b8 (P:=l.prog) (w:=w) (base:=base) (cL (st:=bH) l5 c5 k5) (PySem.W.mg_of X G a5) B bq
 have b5:=b5 (P:=l.prog) (w:=w) (base:=base) (cL (st:=bI) l6 c6 k6) (PySem.W.mg_of X G a6) B aF bq
 have dN:=dN (P:=l.prog) (w:=w) (base:=base) (cL (st:=dj) l7 c7 k7) (PySem.W.mg_of X G a7) B aF bq
 have ef:=ef (P:=l.prog) (w:=w) (base:=base) (cL (st:=dI) l8 c8 k8) (PySem.W.mg_of X G a8) B b8 b5 dE dN aF
 have dq:=dq (P:=l.prog) (w:=w) (base:=base) (cL (st:=cH) l9 c9 k9) (PySem.W.mg_of X G a9) B
 have cO:=cO (P:=l.prog) (w:=w) (base:=base) (cL (st:=cp) l10 c10 k10) (PySem.W.mg_of X G a10) B
 have dy:=dy (P:=l.prog) (w:=w) (base:=base) (cL (st:=cC) l11 c11 k11) (PySem.W.mg_of X G a11) B cO
 have cR:=cR (P:=l.prog) (w:=w) (base:=base) (cL (st:=cm) l12 c12 k12) (PySem.W.mg_of X G a12) B
 have dP:=dP (P:=l.prog) (w:=w) (base:=base) (cL (st:=df) l13 c13 k13) (PySem.W.mg_of X G a13) B
 have eg:=eg (P:=l.prog) (w:=w) (base:=base) (cL (st:=fh) l14 c14 k14) (PySem.W.mg_of X G a14) B
 exact yR (cL (st:=iG) l15 c15 k15) B ef eg aF cR dq dy dP d8 gv
end T25
open PySem PySem.W PyProof.Rows
set_option maxRecDepth 100000 in
set_option maxHeartbeats 0 in
theorem PySem.Challenge.cw_allparts_k25_how_many_parts_holds : PySem.Challenge.rw_allparts_k25_how_many_parts.Holds := by
 w_on;o_law;k_head;(case hw=>w_witness2)
 k_fill
 refine VS.xx (l:=PySem.Challenge.rw_allparts_k25_how_many_parts) (k:=5) (x := "_law_script") (g:=T25.kM) rfl rfl ⟨rfl,by decide,by decide⟩ (fun w h Y=>PySem.W.kIn_of Y) T25.uU ?F
 case F =>
   intro w mg fa h KX G hmg
   refine' T25.all_mk KX G hmg ?a0 ?l0 ?c0 ?k0 ?a1 ?l1 ?c1 ?k1 ?a2 ?l2 ?c2 ?k2 ?a3 ?l3 ?c3 ?k3 ?a4 ?l4 ?c4 ?k4 ?a5 ?l5 ?c5 ?k5 ?a6 ?l6 ?c6 ?k6 ?a7 ?l7 ?c7 ?k7 ?a8 ?l8 ?c8 ?k8 ?a9 ?l9 ?c9 ?k9 ?a10 ?l10 ?c10 ?k10 ?a11 ?l11 ?c11 ?k11 ?a12 ?l12 ?c12 ?k12 ?a13 ?l13 ?c13 ?k13 ?a14 ?l14 ?c14 ?k14 ?a15 ?l15 ?c15 ?k15 ?z_bool ?z_enumerate ?z_int ?z_isinstance ?z_len ?z_list ?z_max ?z_min ?z_range ?z_sorted ?z_sum ?z_tuple
   (case a0=>k_is)
   (case l0=>k_is)
   (case c0=>k_is)
   (case k0=>k_is)
   (case a1=>k_is)
   (case l1=>k_is)
   (case c1=>k_is)
   (case k1=>k_is)
   (case a2=>k_is)
   (case l2=>k_is)
   (case c2=>k_is)
   (case k2=>k_is)
   (case a3=>k_is)
   (case l3=>k_is)
   (case c3=>k_is)
   (case k3=>k_is)
   (case a4=>k_is)
   (case l4=>k_is)
   (case c4=>k_is)
   (case k4=>k_is)
   (case a5=>k_is)
   (case l5=>k_is)
   (case c5=>k_is)
   (case k5=>k_is)
   (case a6=>k_is)
   (case l6=>k_is)
   (case c6=>k_is)
   (case k6=>k_is)
   (case a7=>k_is)
   (case l7=>k_is)
   (case c7=>k_is)
   (case k7=>k_is)
   (case a8=>k_is)
   (case l8=>k_is)
   (case c8=>k_is)
   (case k8=>k_is)
   (case a9=>k_is)
   (case l9=>k_is)
   (case c9=>k_is)
   (case k9=>k_is)
   (case a10=>k_is)
   (case l10=>k_is)
   (case c10=>k_is)
   (case k10=>k_is)
   (case a11=>k_is)
   (case l11=>k_is)
   (case c11=>k_is)
   (case k11=>k_is)
   (case a12=>k_is)
   (case l12=>k_is)
   (case c12=>k_is)
   (case k12=>k_is)
   (case a13=>k_is)
   (case l13=>k_is)
   (case c13=>k_is)
   (case k13=>k_is)
   (case a14=>k_is)
   (case l14=>k_is)
   (case c14=>k_is)
   (case k14=>k_is)
   (case a15=>k_is)
   (case l15=>k_is)
   (case c15=>k_is)
   (case k15=>k_is)
   (case z_bool=>k_is)
   (case z_enumerate=>k_is)
   (case z_int=>k_is)
   (case z_isinstance=>k_is)
   (case z_len=>k_is)
   (case z_list=>k_is)
   (case z_max=>k_is)
   (case z_min=>k_is)
   (case z_range=>k_is)
   (case z_sorted=>k_is)
   (case z_sum=>k_is)
   (case z_tuple=>k_is)
end
