import PyProof.Rows.All
import Wide.All
import OpenK.AllK
import Wide.FinOn
import Lean
import PyProof.EqAt
import PyProof.EqKinds
import PyProof.TupleCall
import PyProof.Rows.SortShellK
import PyProof.Rows.SortStr
import PyProof.Rows.SortWalk
import PyProof.StrBlockH
import PyProof.StrLawsIn
import PyProof.Rows.SetFrom
import PyProof.CollectWalk
import KE.KDictSum
import PyProof.ListStr
import PyProof.SeqI3
import PyProof.Rows.CallKwBuiltin
import PyProof.ListRange
import PyProof.AttrMissSeq
import PyProof.DictUpdate
import PyProof.DictList
import PyProof.ListNew
import PyProof.FactsAll.dict_1
import PyProof.SliceList
import PyProof.WalkInts
import PyProof.StationsW
import OpenK.KOwn
import KE.KTryMore
import PyProof.NsDelKeeps
import PyProof.ExcArgsOwn
import PyProof.ExcAttrAll.Exception
import OpenK.KDescr
import KE.KIsAll
import PyProof.ExcBaseAll.ValueError
import PyProof.StrBlock
import PyProof.StrCalls
import PyProof.StrLawsOccR
import PyProof.Rows.StrCase
import PySem.Challenge.RW_allparts_k50_texts_of_no_book
set_option linter.all false
set_option maxRecDepth 100000
set_option Elab.async false
set_option maxHeartbeats 4000000
abbrev Zt:=PySem.Value->PySem.Shared->Prop
abbrev Zk:=List (PySem.Addr×PySem.Obj)
abbrev Zj:=List (List PySem.Addr)
abbrev Zi:=PySem.W.Frag
abbrev Zh:=PySem.Str->Option PySem.Value
abbrev Zg:=List PySem.Addr
abbrev Zf:=List PySem.Value
abbrev Ze:=Option PySem.Value
abbrev Zd:=List Nat
abbrev Zc:=List Int
abbrev Zb:=List (List (List Nat))
abbrev zi:=@if_pos
open Option renaming bind_eq_some_iff->zz,bind_some->zw,map_eq_some_iff->zv,getD_some->Zo,getD_none->Zn
open List renaming mem_cons_of_mem->zy,mem_cons_self->zx,length_map->zt,getElem?_eq_some_iff->zq,length_append->zp,mem_cons->zj,size_toArray->zd,flatten_cons->zc,length_cons->zZ,getElem?_eq_getElem->zX,getD_eq_getElem?_getD->zW,mem_append_right->zV,mem_append->zT,getElem?_map->zS,map_cons->zR,mem_singleton->zO,length_replicate->zK,replicate_succ->zH,all_eq_true->zF,getElem?_append_right->zE,getElem?_append_left->zD,mem_append_left->zB,getElem?_set_ne->zA,nodup_cons->z0,flatten_append->z6,getElem?_set_self->z7,lookup_cons->z9,append_nil->yz,map_map->yy,getElem?_replicate->yw,drop_of_length_le->yu,length_singleton->yq,length_range->yo,length_drop->ym,all_map->yk,getElem?_eq_none_iff->yj,nil_append->yh,length_set->yg,mem_replicate->yf,sublist_cons_self->yb,nodup_append->ya,mem_map->yZ,getElem?_eq_none->yU,getElem_mem->yS,foldl_cons->yP,length_flatten->yN,filterMap_cons->yM,drop_eq_getElem_cons->yI,append_assoc->yH,length_take->yE,length_nil->yA,cons_lt_cons_iff->y0,nodup_nil->y8,mem_of_getElem?->y9,drop_zero->xZ,map_congr_left->x9,map_id'->Zq,filter_cons->Zl
open PySem renaming wpAny_bind->zu,wpAny_pure->zf,wpAny_mono->zI,wpAny_truthy_bool->z8,mem_of_lookup->yi,typeIs_str->yY,wpAny_field->yW,sizeLine_eq->yV,wpAny_passesOwn->yK,wpAny_execs_nil->yJ,wpAny_Call_Name_kw->yG,wpAny_pyIter_list->yB,wpAny_Name->x4,codeAny_mono->x5,call_meets->x6
open PySem.Heap renaming get?_push_of_some->zr,lt_size->zo,get?_push_size->za,get?_update_other->zC,get?_update_self->Zu
open Nat renaming le_refl->zm,le_trans->zk,lt_of_lt_of_le->zg,ne_of_lt->zQ,le_of_ble_eq_true->zL,lt_irrefl->yr,le_of_not_lt->yn,zero_le->yd,add_sub_cancel->yL,le_of_not_le->yF,succ_mul->yD,le_add_right_of_le->yC,not_lt->Zv,ne_of_gt->Zs,add_sub_of_le->Zr,succ_le_succ->Zm
open PySem.W renaming mg_of->zl,mg_none_of->zP,kia_one->zJ
open Bool renaming false_ne_true->zh,and_eq_true->zb,false_eq_true->ye,true_and->yQ,or_eq_true->yO,false_and->x3
open Option.some renaming inj->zU
open Int renaming emod_lt_of_pos->zN,emod_nonneg->zG
open PySem.F renaming plainAttrs_str->yc
open PySem.Calls renaming spliced_cons->yX,callWith_builtin->Zz,evalArgs_plain->Zp
open Ne renaming symm->yR
open PySem.PassesOwn renaming never->Zy
open PySem.W.KFB renaming if_not->Zx
open PySem.Obj renaming isFreed_of_fields->Zw
section
namespace L2
theorem iz {G:Prop} (h:∀ P:Prop,(G->P)->P):G:=h G id
end L2
namespace VS
noncomputable abbrev Tx:=Zd
inductive T where
 | non | bl (b:Bool) | int (i:Int) | str (s:Tx) | scr (ns:Zc)
 | tup (l:List T) | lst (l:List T) | dct (kd:Nat) (l:List (T×T)) | obj (c:Nat) (fs:List (Nat×T))
 deriving Inhabited
abbrev Z2:=List T
noncomputable def dh:Nat:=16777216
mutual
@[simp] noncomputable def imm:T->Bool
 | .lst _=>false
 | .dct _ _=>false
 | .obj _ _=>false
 | .tup l=>dI l
 | _=>true
@[simp] noncomputable def dI:Z2->Bool
 | []=>true
 | t :: r=>imm t && dI r
end
mutual
@[simp] noncomputable def eqT:T->T->Bool
 | .non,.non=>true
 | .bl a,.bl b=>a == b
 | .bl a,.int i=>(if a then 1 else 0) == i
 | .int i,.bl a=>i == (if a then 1 else 0)
 | .int i,.int j=>i == j
 | .str s,.str t=>s == t
 | .tup a,.tup b=>kh a b
 | .lst a,.lst b=>kh a b
 | _,_=>false
@[simp] noncomputable def kh:Z2->Z2->Bool
 | [],[]=>true
 | a :: as,b :: bs=>eqT a b && kh as bs
 | _,_=>false
end
@[simp] noncomputable def eqD:Nat->T->Bool
 | _,.non=>true
 | _,.bl _=>true
 | _,.int _=>true
 | _,.str _=>true
 | n+1,.tup l=>l.all (eqD n)
 | n+1,.lst l=>l.all (eqD n)
 | _,_=>false
inductive Md where | fr | pu | bo
 deriving DecidableEq,Inhabited
@[simp] noncomputable def Md.join:Md->Md->Md
 | .bo,_=>.bo
 | _,.bo=>.bo
 | .pu,_=>.pu
 | _,.pu=>.pu
 | .fr,.fr=>.fr
inductive Cell where | pu (t:T) | ow (t:T)
 deriving Inhabited
abbrev Za:=Option Cell
noncomputable abbrev Env:=List (Za)
noncomputable abbrev Val:=Md×T
abbrev Z1:=Option Val
abbrev Z0:=List Val
noncomputable abbrev Ex:=Env->Z1
noncomputable abbrev Exs:=Env->Option (Z0)
@[simp] noncomputable def up (m:Md) (t:T):Val:=(if imm t then .fr else m,t)
@[simp] noncomputable def rV:T->Bool
 | .lst _=>true
 | .dct _ _=>true
 | .obj _ _=>true
 | _=>false
@[simp] noncomputable def cellOf:Val->Za
 | (.fr,t)=>some (if rV t then .ow t else .pu t)
 | (.pu,t)=>some (.pu t)
 | (.bo,_)=>none
inductive Out where | nx (η:Env) | rt (v:Val) (η:Env) | bk (η:Env) | ct (η:Env)
noncomputable abbrev Sx:=Env->Option Out
@[simp] noncomputable def eC (t:T) (_:Env):Z1:=some (.fr,t)
@[simp] noncomputable def ah (i:Nat) (η:Env):Z1:=match η[i]? with
 | some (some (.pu t))=>some (up .pu t)
 | some (some (.ow t))=>some (.bo,t)
 | _=>none
@[simp] noncomputable def e1 (f:Val->Z1) (a:Ex) (η:Env):Z1:=(a η).bind f
@[simp] noncomputable def e2 (f:Val->Val->Z1) (a b:Ex) (η:Env):Z1:=(a η).bind fun x=>(b η).bind fun y=>f x y
@[simp] noncomputable def ao (_:Env):Option (Z0):=some []
@[simp] noncomputable def af (a:Ex) (r:Exs) (η:Env):Option (Z0):=(a η).bind fun x=>(r η).bind fun xs=>some (x :: xs)
@[simp] noncomputable def eN (f:Z0->Z1) (as:Exs) (η:Env):Z1:=(as η).bind f
@[simp] noncomputable def bL:Z0->Md
 | []=>.fr
 | v :: r=>v.1.join (bL r)
@[simp] noncomputable def trees (l:Z0):Z2:=l.map (·.2)
noncomputable def mkL (m:Md) (l:Z2):Z1:=if l.length<=dh then some (if dI l then .fr else m,.lst l) else none
@[simp] noncomputable def bC (as:Exs) (η:Env):Z1:=(as η).bind fun l=>mkL (bL l) (trees l)
noncomputable def rJ (l:Z0):Z1:=if l.length<=dh then some (up (bL l) (.tup (trees l))) else none
@[simp] noncomputable def nc (as:Exs) (η:Env):Z1:=(as η).bind rJ
noncomputable def dput (l:List (T×T)) (k v:T):List (T×T):=if l.any (fun p=>eqT p.1 k) then l.map (fun p=>if eqT p.1 k then (p.1,v) else p) else l++[(k,v)]
noncomputable def mT:T->Bool
 | .int _=>true
 | .str _=>true
 | _=>false
noncomputable def keyOk:Nat->T->Bool
 | 0,t=>mT t
 | 1,.tup l=>l.all mT
 | _,_=>false
noncomputable def pairs:List (Ex×Ex)->Env->Option (List (Val×Val))
 | [],_=>some []
 | (a,b) :: r,η=>(a η).bind fun x=>(b η).bind fun y=>(pairs r η).map ((x,y) :: ·)
noncomputable def px (kd:Nat) (ps:List (Ex×Ex)) (η:Env):Z1:=(pairs ps η).bind fun l=>if l.all (fun p=>keyOk kd p.1.2)/\l.length<=15 then
 some (bL (l.map (·.2)),.dct kd (l.foldl (fun d p=>dput d p.1.2 p.2.2) [])) else none
@[simp] noncomputable def tru:T->Option Bool
 | .bl b=>some b
 | .int i=>some (i != 0)
 | .str s=>some (!s.isEmpty)
 | .lst l=>some (!l.isEmpty)
 | .tup l=>some (!l.isEmpty)
 | .dct 0 l=>some (!l.isEmpty)
 | .non=>some false
 | _=>none
@[simp] noncomputable def fQ (a b:Ex) (η:Env):Z1:=(a η).bind fun x=>match x.2 with
 | .bl true=>b η
 | .bl false=>some (.fr,.bl false)
 | _=>none
@[simp] noncomputable def eOr (a b:Ex) (η:Env):Z1:=(a η).bind fun x=>match x.2 with
 | .bl true=>some (.fr,.bl true)
 | .bl false=>b η
 | _=>none
@[simp] noncomputable def gI (a:Ex) (η:Env):Z1:=(a η).bind fun x=>match x.2 with
 | .bl b=>some (.fr,.bl (!b))
 | _=>none
@[simp] noncomputable def eIf (c a b:Ex) (η:Env):Z1:=(c η).bind fun x=>(tru x.2).bind fun t=>if t then a η else b η
@[simp] noncomputable def isN:T->Bool
 | .non=>true
 | _=>false
@[simp] noncomputable def nj (a:Ex) (η:Env):Z1:=(a η).bind fun x=>some (.fr,.bl (isN x.2))
@[simp] noncomputable def jB (a:Ex) (η:Env):Z1:=(a η).bind fun x=>some (.fr,.bl (!isN x.2))
@[simp] noncomputable def gg (f g:Val->Val->Z1) (a b c:Ex) (η:Env):Z1:=(a η).bind fun x=>(b η).bind fun y=>(f x y).bind fun r=>match r.2 with
 | .bl true=>(c η).bind fun z=>g y z
 | .bl false=>some (.fr,.bl false)
 | _=>none
@[simp] noncomputable def int?:T->Option Int
 | .int i=>some i
 | _=>none
noncomputable def aY:Val->Val->Z1
 | (_,.int i),(_,.int j)=>some (.fr,.int (i+j))
 | (_,.str s),(_,.str t)=>if s.length+t.length<=dh then some (.fr,.str (s++t)) else none
 | (m,.lst s),(n,.lst t)=>mkL (m.join n) (s++t)
 | _,_=>none
@[simp] noncomputable def fq:Val->Val->Z1
 | (_,.int i),(_,.int j)=>some (.fr,.int (i - j))
 | _,_=>none
noncomputable def B62:Int:=4611686018427387904
noncomputable def B64:Int:=18446744073709551616
noncomputable def gL:Val->Val->Z1
 | (_,.int i),(_,.int j)=>if (-B64 < i/\i < B64)\/(-B64 < j/\j < B64) then some (.fr,.int (i * j)) else none
 | _,_=>none
noncomputable def eE:Val->Val->Z1
 | (_,.str s),(_,.int j)=>if s.length * j.toNat<=dh/\-B62<=j/\j < B62 then some (.fr,.str (List.replicate j.toNat s).flatten) else none
 | _,_=>none
noncomputable def fO:Val->Val->Z1
 | (_,.lst s),(_,.int j)=>if dI s/\s.length * j.toNat<=dh/\-B62<=j/\j < B62 then some (.fr,.lst (List.replicate j.toNat s).flatten) else none
 | _,_=>none
noncomputable def dC:Val->Val->Z1
 | (_,.int i),(_,.int j)=>if 0 < j/\j < 1073741824 then some (.fr,.int (i / j)) else none
 | _,_=>none
noncomputable def oMod:Val->Val->Z1
 | (_,.int i),(_,.int j)=>if 0 < j then some (.fr,.int (i % j)) else none
 | _,_=>none
noncomputable def ltx:Tx->Tx->Bool
 | [],[]=>false
 | [],_ :: _=>true
 | _ :: _,[]=>false
 | a :: as,b :: bs=>if a < b then true else if b < a then false else ltx as bs
@[simp] noncomputable def oLt:Val->Val->Z1
 | (_,.int i),(_,.int j)=>some (.fr,.bl (decide (i < j)))
 | (_,.str s),(_,.str t)=>some (.fr,.bl (ltx s t))
 | _,_=>none
@[simp] noncomputable def oLe:Val->Val->Z1
 | (_,.int i),(_,.int j)=>some (.fr,.bl (decide (i<=j)))
 | (_,.str s),(_,.str t)=>some (.fr,.bl (!ltx t s))
 | _,_=>none
@[simp] noncomputable def oGt (a b:Val):Z1:=oLt b a
@[simp] noncomputable def oGe (a b:Val):Z1:=oLe b a
@[simp] noncomputable def oEq (a b:Val):Z1:=if eqD 60 a.2/\eqD 60 b.2 then some (.fr,.bl (eqT a.2 b.2)) else none
@[simp] noncomputable def oNe (a b:Val):Z1:=if eqD 60 a.2/\eqD 60 b.2 then some (.fr,.bl (!eqT a.2 b.2)) else none
noncomputable def q9 (l:List (T×T)) (k:T):Option T:=(l.find? fun p=>eqT p.1 k).map (·.2)
noncomputable def ixP (n:Nat) (i:Int):Option Nat:=if 0<=i then (if i < n then some i.toNat else none) else (if 0<=i+n then some (i+n).toNat else none)
@[simp] noncomputable def sub (m:Md) (t:T):Val:=up m t
@[simp] noncomputable def bG:Val->Val->Z1
 | (m,.lst l),(_,.int i)=>(ixP l.length i).bind fun k=>(l[k]?).map (sub m)
 | (m,.tup l),(_,.int i)=>(ixP l.length i).bind fun k=>(l[k]?).map (sub m)
 | (_,.scr l),(_,.int i)=>(ixP l.length i).bind fun k=>(l[k]?).map fun n=>(.fr,.int n)
 | (_,.str l),(_,.int i)=>(ixP l.length i).bind fun k=>(l[k]?).map fun n=>(.fr,.str [n])
 | _,_=>none
noncomputable def clip (n:Nat) (i:Int):Nat:=if i < 0 then (i+n).toNat else min i.toNat n
noncomputable def cut {α:Type} (l:List α) (a b:Option Int):List α :=
 let lo:=match a with | none=>0 | some i=>clip l.length i
 let hi:=match b with | none=>l.length | some i=>clip l.length i
 (l.drop lo).take (hi - lo)
@[simp] noncomputable def oSl (v:Val) (a b:Option Int):Z1:=match v with
 | (_,.str s)=>some (.fr,.str (cut s a b))
 | (m,.lst l)=>mkL m (cut l a b)
 | _=>none
@[simp] noncomputable def jH (c:Option Ex) (η:Env):Option (Option Int):=match c with
 | none=>some none
 | some e=>(e η).bind fun y=>(int? y.2).map some
@[simp] noncomputable def eSl (a:Ex) (lo hi:Option Ex) (η:Env):Z1:=(a η).bind fun x=>(jH lo η).bind fun l=>(jH hi η).bind fun h=>oSl x l h
@[simp] noncomputable def wR:T->Option Nat
 | .lst l=>some l.length
 | .tup l=>some l.length
 | .str l=>some l.length
 | .scr l=>some l.length
 | .dct 0 l=>some l.length
 | _=>none
@[simp] noncomputable def cp:Z0->Z1
 | [x]=>(wR x.2).map fun n=>(.fr,.int n)
 | _=>none
@[simp] noncomputable def jQ:Z0->Z1
 | [(_,.int i),(_,.int j)]=>some (.fr,.int (if j < i then j else i))
 | _=>none
@[simp] noncomputable def j5:Z0->Z1
 | [(_,.int i),(_,.int j)]=>some (.fr,.int (if j > i then j else i))
 | _=>none
noncomputable def iG:Z2->Option (Zc)
 | []=>some []
 | .int i :: r=>(iG r).map (i :: ·)
 | _=>none
noncomputable def strs?:Z2->Option (List Tx)
 | []=>some []
 | .str i :: r=>(strs? r).map (i :: ·)
 | _=>none
noncomputable def fY:Z2->Option (List Bool)
 | []=>some []
 | .bl i :: r=>(fY r).map (i :: ·)
 | _=>none
noncomputable def kK:Z0->Z1
 | [(_,.lst l)]=>(iG l).bind fun is=>some (.fr,.int is.sum)
 | _=>none
noncomputable def fZ:Z0->Z1
 | [(_,.lst l)]=>(fY l).bind fun bs=>some (.fr,.bl (bs.all id))
 | _=>none
@[simp] noncomputable def xR:T->Option (Z2)
 | .lst l=>some l
 | .tup l=>some l
 | .scr l=>some (l.map T.int)
 | .str l=>some (l.map fun c=>T.str [c])
 | .dct _ l=>some (l.map (·.1))
 | _=>none
@[simp] noncomputable def xM:Z0->Z1
 | [(m,.lst l)]=>mkL m l
 | [(m,.tup l)]=>mkL m l
 | _=>none
inductive Ty where | int | str | bool | list | tuple | dict
@[simp] noncomputable def kf:Ty->T->Bool
 | .int,.int _=>true
 | .int,.bl _=>true
 | .bool,.bl _=>true
 | .str,.str _=>true
 | .list,.lst _=>true
 | .tuple,.tup _=>true
 | .dict,.dct _ _=>true
 | _,_=>false
@[simp] noncomputable def iW:T->Bool
 | .obj _ _=>false
 | .scr _=>false
 | .dct n _=>n != 2
 | _=>true
@[simp] noncomputable def eIs (t:Ty) (a:Ex) (η:Env):Z1:=(a η).bind fun x=>if iW x.2 then some (.fr,.bl (kf t x.2)) else none
noncomputable def total:List Tx->Nat
 | []=>0
 | x :: r=>x.length+total r
noncomputable def az (sep:Tx):List Tx->Tx
 | []=>[]
 | [x]=>x
 | x :: r=>x++sep++az sep r
noncomputable def bJ:Val->Z0->Z1
 | (_,.str sep),[(_,.lst l)]=>(strs? l).bind fun ss=>if total ss+ss.length * sep.length<=dh then some (.fr,.str (az sep ss)) else none
 | _,_=>none
@[simp] noncomputable def eM (f:Val->Z0->Z1) (o:Ex) (as:Exs) (η:Env):Z1:=(o η).bind fun x=>(as η).bind fun xs=>f x xs
noncomputable abbrev Fn:=Z2->Z1
@[simp] noncomputable def aS (g:Fn) (as:Exs) (η:Env):Z1:=(as η).bind fun xs=>(g (trees xs)).bind fun r=>match r with
 | (.fr,t)=>some (.fr,t)
 | (_,t)=>some ((Md.pu).join (bL xs),t)
noncomputable abbrev Its:=Env->Option (Md×Z2)
@[simp] noncomputable def xi:Val->Option (Md×Z2)
 | (m,.lst l)=>some (m,l)
 | (m,.tup l)=>some (m,l)
 | (_,.str l)=>some (.fr,l.map fun c=>.str [c])
 | _=>none
@[simp] noncomputable def dM (a:Ex) (η:Env):Option (Md×Z2):=(a η).bind xi
noncomputable def rng (lo:Int) (n:Nat):Z2:=(List.range n).map fun (k:Nat)=>T.int (lo+k)
noncomputable def cL (a:Ex) (η:Env):Option (Md×Z2):=(a η).bind fun x=>(int? x.2).bind fun j=>if -B62<=j/\j < B62 then some (.fr,rng 0 j.toNat) else none
noncomputable def rM (k:Nat):Z2->Z2
 | []=>[]
 | t :: r=>.tup [.int k,t] :: rM (k+1) r
@[simp] noncomputable def wu:Val->Option (Md×Z2)
 | (m,.lst l)=>some (m,rM 0 l)
 | _=>none
@[simp] noncomputable def xN (a:Ex) (η:Env):Option (Md×Z2):=(a η).bind wu
noncomputable abbrev Tg:=T->Env->Option Env
@[simp] noncomputable def cn (i:Nat) (t:T) (η:Env):Option Env:=if i < η.length then some (η.set i (some (.pu t))) else none
@[simp] noncomputable def vD:List Tg->Z2->Env->Option Env
 | [],[],η=>some η
 | g :: gs,t :: ts,η=>(g t η).bind fun η'=>vD gs ts η'
 | _,_,_=>none
@[simp] noncomputable def xX (gs:List Tg) (t:T) (η:Env):Option Env:=match t with
 | .tup l=>vD gs l η
 | _=>none
@[simp] noncomputable def okI (m:Md) (l:Z2):Bool:=match m with
 | .bo=>dI l
 | _=>true
noncomputable def ig (tg:Tg) (cond:Option Ex) (elt:Ex) (η:Env):Z2->Option (Z0)
 | []=>some []
 | t :: r=>(tg t η).bind fun η'=>(match cond with | none=>some true | some c=>(c η').bind fun x=>tru x.2).bind fun b =>
  if b then (elt η').bind fun v=>(ig tg cond elt η r).map (v :: ·) else ig tg cond elt η r
noncomputable def cM (k:Nat) (tg:Tg) (it:Its) (cond:Option Ex) (elt:Ex) (η:Env):Z1:=(it η).bind fun (m,l)=>if okI m l then
 (ig tg cond elt (List.replicate k none++η) l).bind fun vs=>mkL (bL vs) (trees vs) else none
@[simp] noncomputable def dJ (η:Env):Option Out:=some (.nx η)
@[simp] noncomputable def aA (a b:Sx) (η:Env):Option Out:=(a η).bind fun o=>match o with
 | .nx η'=>b η'
 | o=>some o
@[simp] noncomputable def fI (i:Nat) (e:Ex) (η:Env):Option Out:=(e η).bind fun v=>(cellOf v).bind fun c=>if i < η.length then some (.nx (η.set i (some c))) else none
@[simp] noncomputable def bh (i:Nat) (e:Ex) (η:Env):Option Out:=(e η).bind fun v=>match v.1 with
 | .bo=>none
 | _=>if i < η.length then some (.nx (η.set i (some (.pu v.2)))) else none
@[simp] noncomputable def cA (e:Ex) (η:Env):Option Out:=(e η).bind fun v=>some (.rt (match v.1 with | .bo=>.pu | m=>m,v.2) η)
@[simp] noncomputable def iL (i:Nat) (η:Env):Option Out:=match η[i]? with
 | some (some (.ow t))=>some (.rt (.fr,t) (η.set i none))
 | some (some (.pu t))=>some (.rt (up .pu t) η)
 | _=>none
@[simp] noncomputable def xV (η:Env):Option Out:=some (.rt (.fr,.non) η)
@[simp] noncomputable def xY (η:Env):Option Out:=some (.bk η)
@[simp] noncomputable def xW (η:Env):Option Out:=some (.ct η)
@[simp] noncomputable def sIf (c:Ex) (a b:Sx) (η:Env):Option Out:=(c η).bind fun x=>(tru x.2).bind fun t=>if t then a η else b η
noncomputable def forL (tg:Tg) (body:Sx):Z2->Env->Option Out
 | [],η=>some (.nx η)
 | t :: r,η=>(tg t η).bind fun η1=>(body η1).bind fun o=>match o with
  | .nx η2=>forL tg body r η2
  | .ct η2=>forL tg body r η2
  | .bk η2=>some (.nx η2)
  | .rt v η2=>some (.rt v η2)
@[simp] noncomputable def okF:Md->Bool
 | .bo=>false
 | _=>true
@[simp] noncomputable def iu (tg:Tg) (it:Its) (body:Sx) (η:Env):Option Out:=(it η).bind fun (m,l)=>if okF m then forL tg body l η else none
@[simp] noncomputable def lY (i:Nat) (η:Env):Option Out:=match η[i]? with
 | some (some (.ow t))=>some (.nx (η.set i (some (.pu t))))
 | some (some (.pu _))=>some (.nx η)
 | _=>none
inductive Stp where | fld (k:Nat) | ix (e:Ex)
inductive Ky where | fld (k:Nat) | at (t:T)
@[simp] noncomputable def keys:List Stp->Env->Option (List Ky)
 | [],_=>some []
 | .fld k :: r,η=>(keys r η).map (.fld k :: ·)
 | .ix e :: r,η=>(e η).bind fun x=>(keys r η).map (.at x.2 :: ·)
noncomputable def xk (fs:List (Nat×T)) (k:Nat):Option T:=fs.lookup k
noncomputable def xm (fs:List (Nat×T)) (k:Nat) (v:T):List (Nat×T):=if fs.any (fun p=>p.1 == k) then fs.map (fun p=>if p.1 == k then (p.1,v) else p) else fs++[(k,v)]
@[simp] noncomputable def qW {α:Type} (f:T->Option (T×α)):List Ky->T->Option (T×α)
 | [],t=>f t
 | .fld k :: r,.obj c fs=>(xk fs k).bind fun x=>(qW f r x).map fun (y,a)=>(.obj c (xm fs k y),a)
 | .at (.int i) :: r,.lst l=>(ixP l.length i).bind fun j=>(l[j]?).bind fun x=>(qW f r x).map fun (y,a)=>(.lst (l.set j y),a)
 | .at k :: r,.dct d l=>(q9 l k).bind fun x=>(qW f r x).map fun (y,a)=>(.dct d (dput l k y),a)
 | _,_=>none
noncomputable abbrev Xx:=Env->Option (Val×Env)
@[simp] noncomputable def xP (e:Ex) (η:Env):Option (Val×Env):=(e η).map fun v=>(v,η)
@[simp] noncomputable def gM (i:Nat) (way:List Stp) (f:T->Z0->Option (T×Val)) (as:Exs) (η:Env):Option (Val×Env):=match η[i]? with
 | some (some (.ow t))=>(keys way η).bind fun ks=>(as η).bind fun xs=>(qW (fun x=>f x xs) ks t).map fun (t',v)=>(v,η.set i (some (.ow t')))
 | _=>none
@[simp] noncomputable def fit (v:Val):Option T:=match v.1 with
 | .fr=>some v.2
 | _=>none
noncomputable def bH:T->Z0->Option (T×Val)
 | .lst l,[v]=>(fit v).bind fun t=>if l.length < dh then some (.lst (l++[t]),(.fr,.non)) else none
 | _,_=>none
@[simp] noncomputable def sX (x:Xx) (η:Env):Option Out:=(x η).map fun r=>.nx r.2
@[simp] noncomputable def xT (i:Nat) (x:Xx) (η:Env):Option Out:=(x η).bind fun (v,η')=>(cellOf v).bind fun c=>if i < η'.length then some (.nx (η'.set i (some c))) else none
@[simp] noncomputable def xS (x:Xx) (η:Env):Option Out:=(x η).bind fun (v,η')=>some (.rt (match v.1 with | .bo=>.pu | m=>m,v.2) η')
@[simp] noncomputable def fn (np nn:Nat) (body:Sx):Fn:=fun ts=>if ts.length=np then
 (body (ts.map (fun t=>some (.pu t))++List.replicate (nn - np) none)).bind fun o=>match o with
  | .rt v _=>some v
  | .nx _=>some (.fr,.non)
  | _=>none else none
@[simp] theorem vA {m n:Md} {i j:Int}:aY (m,.int i) (n,.int j)=some (.fr,.int (i+j)):=rfl
theorem n3 {m n:Md} {s t:Tx} (h:s.length+t.length<=16777216):aY (m,.str s) (n,.str t)=some (.fr,.str (s++t)):=zi h
theorem gv {m n:Md} {i j:Int} (h:-18446744073709551616 < i/\i < 18446744073709551616):gL (m,.int i) (n,.int j)=some (.fr,.int (i * j)):=zi (.inl h)
theorem av {m n:Md} {i j:Int} (h:0 < j/\j < 1073741824):dC (m,.int i) (n,.int j)=some (.fr,.int (i / j)):=zi h
theorem aw {m n:Md} {i j:Int} (h:0 < j):oMod (m,.int i) (n,.int j)=some (.fr,.int (i % j)):=zi h
theorem fo {l:Z2} {t:T} (h:l.length < 16777216):bH (.lst l) [(.fr,t)]=some (.lst (l++[t]),(.fr,.non)):=by
 simp only [bH,fit,zw]
 exact zi h
theorem fu {a:Ex} {η:Env} {m:Md} {j:Int} (e:a η=some (m,.int j)) (h:-4611686018427387904<=j/\j < 4611686018427387904):cL a η=some (.fr,rng 0 j.toNat):=by
 simp only [cL,e,zw,int?]
 exact zi h
theorem bK {m:Md} {l:Z2} (h:l.length<=16777216):mkL m l=some (if dI l then .fr else m,.lst l):=zi h
theorem iZ {tg:Tg} {body:Sx} {t:T} {r:Z2} {η η1 η2:Env} (h1:tg t η=some η1) (h2:body η1=some (.nx η2)):forL tg body (t :: r) η=forL tg body r η2:=by
 simp [forL,h1,h2]
theorem pQ {tg:Tg} {body:Sx} {t:T} {r:Z2} {η η1 η2:Env} {v:Val} (h1:tg t η=some η1) (h2:body η1=some (.rt v η2)):forL tg body (t :: r) η=some (.rt v η2):=by
 simp [forL,h1,h2]
theorem strs_map {α:Type} (f:α->Tx):∀ l:List α,strs? (l.map fun x=>T.str (f x))=some (l.map f)
 | []=>rfl
 | a :: r=>by simp [strs?,strs_map f r]
theorem ints_map {α:Type} (f:α->Int):∀ l:List α,iG (l.map fun x=>T.int (f x))=some (l.map f)
 | []=>rfl
 | a :: r=>by simp [iG,ints_map f r]
theorem eU {α:Type} (f:α->Bool):∀ l:List α,fY (l.map fun x=>T.bl (f x))=some (l.map f)
 | []=>rfl
 | a :: r=>by simp [fY,eU f r]
theorem gR:∀ ss:List Tx,az [] ss=ss.flatten
 | []=>rfl
 | [x]=>by simp [az]
 | x :: y :: r=>by
  have:=gR (y :: r)
  simp [az] at this ⊢
  exact this
theorem fh:∀ ss:List Tx,total ss=ss.flatten.length
 | []=>rfl
 | x :: r=>by simp [total,fh r]
theorem fT {m n:Md} {l:Z2} {ss:List Tx} (e:strs? l=some ss) (h1:ss.flatten.length<=16777216):bJ (m,.str []) [(n,.lst l)]=some (.fr,.str ss.flatten):=by
 simp only [bJ,zw,e,gR]
 refine zi ?_
 rw [fh]
 show _<=16777216
 simpa using h1
theorem fH {α:Type} (l:List α):(l.map fun x=>[x]).flatten=l:=by
 induction l with
 | nil=>rfl
 | cons a r ih=>rw [zR,zc,ih];rfl
theorem ke (n:Nat):rng 0 n=(List.range n).map fun (k:Nat)=>T.int (k:Int):=by
 unfold rng
 simp
theorem eG {α:Type} (f:α->T) (h:∀ x,imm (f x)=true):∀ l:List α,dI (l.map f)=true
 | []=>rfl
 | a :: r=>by simp [h,eG f h r]
theorem iO {α:Type} {tg:Tg} {elt:Ex} {η:Env} (g:α->T) (f:α->Val):∀ l:List α,(∀ a∈l,∃ η',tg (g a) η=some η'/\elt η'=some (f a))->ig tg none elt η (l.map g)=some (l.map f)
 | [],_=>rfl
 | a :: r,h=>by
  obtain ⟨η',h1,h2⟩:=h a zx
  simp [ig,h1,h2,iO g f r fun b hb=>h b (zy _ hb)]
theorem jY {α:Type} (f:α->T):∀ l:List α,bL (l.map fun a=>(Md.fr,f a))=.fr
 | []=>rfl
 | a :: r=>by simp [jY f r]
theorem lQ {α:Type} (f:α->Val) (l:List α):trees (l.map f)=l.map fun a=>(f a).2:=by simp
theorem cP {α:Type} {k:Nat} {tg:Tg} {it:Its} {elt:Ex} {η:Env} {m:Md} (g:α->T) (f:α->T) (l:List α) (hi:it η=some (m,l.map g)) (hk:okI m (l.map g)=true) (hl:l.length<=16777216)
  (h:∀ a∈l,∃ η',tg (g a) (List.replicate k none++η)=some η'/\elt η'=some (.fr,f a)):cM k tg it none elt η=some (.fr,.lst (l.map f)):=by
 simp only [cM,hi,zw]
 rw [zi hk,iO g (fun a=>(Md.fr,f a)) l h]
 simp only [zw,jY,lQ]
 rw [bK (by rw [zt];exact hl)]
 simp
theorem oO {α:Type} {m n:Md} (f:α->T) (l:List α) (i:Int) (d:α) (h0:0<=i) (h1:i < l.length) (hi:imm (f (l.getD i.toNat d))=true):bG (m,.lst (l.map f)) (n,.int i)=some (.fr,f (l.getD i.toNat d)):=by
 have b2:i.toNat < l.length:=by lia
 simp only [zW,zX b2,Zo] at hi ⊢
 simp [ixP,h0,h1,b2,hi]
end VS
end
section
namespace L2
open PySem PySem.Spec PyProof.Rows
noncomputable abbrev Key:=Sum Int Str
noncomputable def rL:Key->Value->Bool
 | .inl k,v=>Value.isInt k v
 | .inr x,v=>Value.isStrOf x v
noncomputable def xl (w:World):Key->Int
 | .inl k=>hashInt k
 | .inr x=>hashStr w x
theorem bD:∀ {k:Key} {v:Value},rL k v=true->(∃ i t,k=Sum.inl i/\v=Value.int i t)\/(∃ x t,k=Sum.inr x/\v=Value.str x t)
 | .inl i,v,h=>by
  obtain ⟨t,e⟩:=Value.isInt_shape (k:=i) (v:=v) h
  exact .inl ⟨i,t,rfl,e⟩
 | .inr x,v,h=>by
  obtain ⟨t,e⟩:=Value.isStrOf_shape (x:=x) (v:=v) h
  exact .inr ⟨x,t,rfl,e⟩
theorem u0 (a b:Int):decide ((Sum.inl a:Key)=Sum.inl b)=(a == b):=by
 by_cases e:a=b
 ·subst e;simp
 ·have h:¬ (Sum.inl a:Key)=Sum.inl b:=fun q=>e (Sum.inl.inj q)
  rw [decide_eq_false h]
  exact (beq_eq_false_iff_ne.mpr e).symm
theorem sv (a b:Str):decide ((Sum.inr a:Key)=Sum.inr b)=decide (a=b):=by
 by_cases e:a=b
 ·subst e;simp
 ·have h:¬ (Sum.inr a:Key)=Sum.inr b:=fun q=>e (Sum.inr.inj q)
  rw [decide_eq_false h,decide_eq_false e]
theorem uD (a:Int) (b:Str):decide ((Sum.inl a:Key)=Sum.inr b)=false:=decide_eq_false (fun q=>nomatch q)
theorem sQ (a:Str) (b:Int):decide ((Sum.inr a:Key)=Sum.inl b)=false:=decide_eq_false (fun q=>nomatch q)
noncomputable def gG (prog:Program) (w:World):PySem.KeyKind prog w Key where
 is:=rL
 hash:=xl w
 inj:=fun v a b ha hb=>by
  rcases bD ha with ⟨i,t,rfl,rfl⟩ | ⟨x,t,rfl,rfl⟩
  ·rcases bD hb with ⟨j,u,rfl,e⟩ | ⟨y,u,rfl,e⟩
   ·injection e with e1 _;rw [e1]
   ·exact nomatch e
  ·rcases bD hb with ⟨j,u,rfl,e⟩ | ⟨y,u,rfl,e⟩
   ·exact nomatch e
   ·injection e with e1 _;rw [e1]
 byValue:=fun k v h=>by
  rcases bD h with ⟨i,t,rfl,rfl⟩ | ⟨x,t,rfl,rfl⟩ <;> rfl
 pyHash:=fun hv h=>by
  rcases bD hv with ⟨i,t,rfl,rfl⟩ | ⟨x,t,rfl,rfl⟩
  ·exact wpAny_pyHash_int h
  ·exact wpAny_pyHash_str h
 eqBool:=fun hu hv h=>by
  rcases bD hu with ⟨i,t,rfl,rfl⟩ | ⟨x,t,rfl,rfl⟩
  ·rcases bD hv with ⟨j,u,rfl,rfl⟩ | ⟨y,u,rfl,rfl⟩
   ·rw [u0] at h;exact wpAny_eqBool_int h
   ·rw [uD] at h;exact SeqAt.EqAt.int_str i t y u _ _ _ _ h
  ·rcases bD hv with ⟨j,u,rfl,rfl⟩ | ⟨y,u,rfl,rfl⟩
   ·rw [sQ] at h;exact SeqAt.EqAt.str_int x t j u _ _ _ _ h
   ·rw [sv] at h;exact wpAny_eqBool_str h
 «strs» := fun k x t v h=>by
  rcases bD h with ⟨i,u,rfl,e⟩ | ⟨y,u,rfl,e⟩
  ·exact nomatch e
  ·injection e with e1 _
   subst e1
   cases v <;> rfl
inductive V where
 | non | bl (b:Bool) | int (i:Int) | str (x:Str) | byt (b:Array UInt8) | flt (b:UInt64) | ref (a:Addr) | ty (n:String)
 deriving DecidableEq
noncomputable def RelV:V->Value->Prop
 | .non,u=>u=Value.none
 | .bl b,u=>u=Value.bool b
 | .int i,u=>∃ t,u=Value.int i t
 | .str x,u=>∃ t,u=Value.str x t
 | .byt b,u=>∃ t,u=Value.bytes b t
 | .flt b,u=>∃ t,u=Value.float b t
 | .ref a,u=>u=Value.ref a
 | .ty n,u=>u=Value.type n
noncomputable abbrev aW:List V->Zf->Prop:=Paired RelV
theorem aW.length {xs:List V} {us:Zf} (r:aW xs us):xs.length=us.length:=Paired.length r
theorem aW.get:∀ {xs:List V} {us:Zf} {i:Nat} {x:V},aW xs us->xs[i]?=some x->∃ u,us[i]?=some u/\RelV x u
 | _,_,_,_,.nil,e=>by simp at e
 | _,_,0,_,.cons r _,e=>by simp at e;subst e;exact ⟨_,rfl,r⟩
 | _,_,i+1,x,.cons _ t,e=>by
  obtain ⟨u,h1,h2⟩:=aW.get (i:=i) (x:=x) t (by simpa using e)
  exact ⟨u,by simpa using h1,h2⟩
theorem aW.append:∀ {xs ys:List V} {us ws:Zf},aW xs us->aW ys ws->aW (xs++ys) (us++ws)
 | _,_,_,_,.nil,s=>s
 | _,_,_,_,.cons r t,s=>.cons r (aW.append t s)
theorem aW.take:∀ {xs:List V} {us:Zf} (n:Nat),aW xs us->aW (xs.take n) (us.take n)
 | _,_,0,_=>.nil
 | _,_,_+1,.nil=>.nil
 | _,_,n+1,.cons r t=>.cons r (aW.take n t)
theorem aW.drop:∀ {xs:List V} {us:Zf} (n:Nat),aW xs us->aW (xs.drop n) (us.drop n)
 | _,_,0,r=>r
 | _,_,_+1,.nil=>.nil
 | _,_,n+1,.cons _ t=>aW.drop n t
theorem aW.none_of:∀ {xs:List V} {us:Zf} {i:Nat},aW xs us->xs[i]?=none->us[i]?=none:=fun {xs us i} r e=>by
 have h1:=r.length
 have h2:xs.length<=i:=yj.mp e
 exact yj.mpr (by lia)
noncomputable def sy:Option V->Ze->Prop
 | some v,some u=>RelV v u
 | none,none=>True
 | _,_=>False
noncomputable def KV {κ:Type}:List (κ×V)->List (κ×Value)->Prop:=Paired fun (p:κ×V) (q:κ×Value)=>p.1=q.1/\RelV p.2 q.2
noncomputable def kV:Key->V
 | .inl i=>.int i
 | .inr x=>.str x
inductive HO where
 | lst (xs:List V)
 | tup (xs:List V)
 | dK (kvs:List (Key×V)) | dT (kvs:List (List Key×V))
 | set (S:Int->Bool) (n:Nat)
 | ins (C dx:Addr) (fs:List (Str×V))
 | own (x:Addr)
 | xd (fs:List (Str×V))
 | met (f x:Addr)
 | rng (lo hi:Int)
 | frz (o:Obj) (u:HO)
 | tbl (ps:Array Value)
 | ext (φ:Heap->Prop)
noncomputable abbrev Hp:=Addr->Option HO
noncomputable def upd (H:Hp) (a:Addr) (o:HO):Hp:=fun b=>if b=a then some o else H b
theorem bB {H:Hp} {a:Addr} {o:HO}:upd H a o a=some o:=by unfold upd;rw [zi rfl]
theorem aN {H:Hp} {a b:Addr} {o:HO} (h:b ≠ a):upd H a o b=H b:=by unfold upd;rw [if_neg h]
theorem cX {H:Hp} {a b:Addr} {o:HO} (h:H a=some o) (h':H b=none):a ≠ b:=by
 intro e;subst e;rw [h] at h';cases h'
noncomputable def NoD (h:Heap) (a:Addr):Prop:=∀ o,h.get? a=some o->o.dict=none
theorem NoD.of {h:Heap} {a:Addr} {o:Obj} (e:h.get? a=some o) (d:o.dict=none):NoD h a:=fun o' e'=>by
 rw [e] at e'
 cases e'
 exact d
section
variable (P:Program) (w:World)
noncomputable def bN (H:Hp) (h:Heap) (a:Addr):HO->Prop
 | .lst xs=>xs.length<=sizeLine/\∃ (its:Zf) (n:Nat),aW xs its/\h.get? a=some { cls:=.type "list",data:=.seq its.toArray n }
 | .tup xs=>xs.length<=sizeLine/\∃ its:Zf,aW xs its/\NoD h a/\IsTup h a its.toArray
 | .dK kvs=>kvs.length<=sizeLine/\(a == sysModules)=false/\∃ vs,KV kvs vs/\h.DictOf (gG P w) a vs
 | .dT kvs=>kvs.length<=sizeLine/\(a == sysModules)=false/\∃ xs:List (List Key×Addr×Value),
   Paired (fun (p:List Key×V) (q:List Key×Addr×Value)=>p.1=q.1/\H q.2.1=some (.tup (p.1.map kV))/\RelV p.2 q.2.2) kvs xs ∧
   ∃ o es ep,h.get? a=some o/\o.ExactDict/\o.data=.dict es ep/\es.toList=xs.map (entryOfKey (tupleKind (gG P w)))/\(xs.map (·.1)).Nodup
 | .set S n=>h.SetOf (intKind P w) a S n
 | .ins C dx fs=>H dx=some (.own a)/\fs.length<=1000/\dx ≠ a/\h.get? a=some (PySem.W.instObj C dx) ∧
   ∃ mA,h.Ns1 dx mA/\(∀ f,sy (fs.lookup f) (mA f))/\PySem.Within mA (fs.map (·.1))
 | .own _=>∃ o,h.get? a=some o
 | .xd fs=>∃ mA,h.Ns1 a mA/\∀ f,sy (fs.lookup f) (mA f)
 | .rng lo hi=>∃ t u v,h.get? a=some { cls:=.type "range",data:=.fields #[.int lo t,.int hi u,.int 1 v] }
 | .frz o u=>h.get? a=some o/\bN H h a u
 | .tbl ps=>h.get? a=some { cls:=.none,data:=.fields ps }
 | .met f x=>h.get? a=some (PySem.W.methodObj (.ref f) (.ref x))
 | .ext φ=>φ h/\(∃ o,h.get? a=some o)/\∀ h1 h2:Heap,φ h1->(∀ o,h1.get? a=some o->h2.get? a=some o)->φ h2
noncomputable def HOk (H:Hp) (h:Heap):Prop:=∀ a o,H a=some o->bN P w H h a o
end
section
variable {P:Program} {w:World} {H H':Hp} {h h':Heap} {a:Addr} {o:HO}
theorem bN.lt (x:bN P w H h a o):a < h.objs.size:=by
 cases o with
 | lst xs=>obtain ⟨_,_,_,_,e⟩:=x;exact zo e
 | tup xs=>obtain ⟨_,_,_,_,p⟩:=x;exact p.lt
 | dK kvs=>obtain ⟨_,_,_,_,o,_,_,e,_⟩:=x;exact zo e
 | dT kvs=>obtain ⟨_,_,_,_,o,_,_,e,_⟩:=x;exact zo e
 | set S n=>obtain ⟨o,_,_,_,e,_⟩:=x;exact zo e
 | ins C dx fs=>obtain ⟨_,_,_,e,_⟩:=x;exact zo e
 | own y=>obtain ⟨_,e⟩:=x;exact zo e
 | xd fs=>obtain ⟨_,⟨_,_,_,e,_⟩,_⟩:=x;exact zo e
 | rng lo hi=>obtain ⟨_,_,_,e⟩:=x;exact zo e
 | frz ob u=>obtain ⟨e,_⟩:=x;exact zo e
 | tbl ps=>exact zo (show h.get? a=some _ from x)
 | met f y=>exact zo (show h.get? a=some _ from x)
 | ext φ=>obtain ⟨_,⟨_,e⟩,_⟩:=x;exact zo e
theorem Paired.mapP {α β:Type} {F G:α->β->Prop}:∀ {l₁:List α} {l₂:List β},Paired F l₁ l₂->(∀ a b,F a b->G a b)->Paired G l₁ l₂
 | _,_,.nil,_=>.nil
 | _,_,.cons r t,f=>.cons (f _ _ r) (Paired.mapP t f)
theorem bN.stay (x:bN P w H h a o) (k:∀ b u,(b=a\/H b=some (.own a))->h.get? b=some u->h'.get? b=some u)
  (ho:∀ b,H b=some (.own a)->H' b=some (.own a)) (ht:∀ b xs,H b=some (.tup xs)->H' b=some (.tup xs)):bN P w H' h' a o:=by
 induction o with
 | lst xs=>obtain ⟨z,its,n,r,e⟩:=x;exact ⟨z,its,n,r,k _ _ (.inl rfl) e⟩
 | tup xs=>obtain ⟨z,its,r,nd,ob,e,c⟩:=x;exact ⟨z,its,r,NoD.of (k _ _ (.inl rfl) e) (nd _ e),ob,k _ _ (.inl rfl) e,c⟩
 | dK kvs=>obtain ⟨z,y,vs,r,ob,es,ep,e,c⟩:=x;exact ⟨z,y,vs,r,ob,es,ep,k _ _ (.inl rfl) e,c⟩
 | dT kvs =>
  obtain ⟨z,y,xs,r,ob,es,ep,e,c⟩:=x
  exact ⟨z,y,xs,Paired.mapP r fun p q z=>⟨z.1,ht _ _ z.2.1,z.2.2⟩,ob,es,ep,k _ _ (.inl rfl) e,c⟩
 | set S n=>obtain ⟨ob,es,ep,t,e,c⟩:=x;exact ⟨ob,es,ep,t,k _ _ (.inl rfl) e,c⟩
 | ins C dx fs =>
  obtain ⟨d,z,ne,e,mA,⟨od,es,ep,e2,c⟩,r⟩:=x
  exact ⟨ho _ d,z,ne,k _ _ (.inl rfl) e,mA,⟨od,es,ep,k _ _ (.inr d) e2,c⟩,r⟩
 | own y=>obtain ⟨ob,e⟩:=x;exact ⟨ob,k _ _ (.inl rfl) e⟩
 | xd fs=>obtain ⟨mA,⟨od,es,ep,e,c⟩,r⟩:=x;exact ⟨mA,⟨od,es,ep,k _ _ (.inl rfl) e,c⟩,r⟩
 | rng lo hi=>obtain ⟨t,u,v,e⟩:=x;exact ⟨t,u,v,k _ _ (.inl rfl) e⟩
 | frz ob u ih=>obtain ⟨e,q⟩:=x;exact ⟨k _ _ (.inl rfl) e,ih q⟩
 | tbl ps =>
  have e:h.get? a=some { cls:=.none,data:=.fields ps }:=x
  show h'.get? a=some { cls:=.none,data:=.fields ps }
  exact k a _ (.inl rfl) e
 | met f y =>
  have e:h.get? a=some (PySem.W.methodObj (.ref f) (.ref y)):=x
  show h'.get? a=some (PySem.W.methodObj (.ref f) (.ref y))
  exact k a _ (.inl rfl) e
 | ext φ=>obtain ⟨p,⟨o,e⟩,st⟩:=x;exact ⟨st _ _ p fun o q=>k _ _ (.inl rfl) q,⟨o,k _ _ (.inl rfl) e⟩,st⟩
theorem HOk.lt (x:HOk P w H h) (e:H a=some o):a < h.objs.size:=(x a o e).lt
theorem HOk.fresh (x:HOk P w H h) (e:h.objs.size<=a):H a=none:=by
 cases q:H a with
 | none=>rfl
 | some u=>exact absurd (zg (x.lt q) e) (yr _)
theorem HOk.kept (x:HOk P w H h) (k:∀ b u,h.get? b=some u->h'.get? b=some u):HOk P w H h':=fun a o e =>
 (x a o e).stay (fun b u _ q=>k b u q) (fun _ q=>q) fun _ _ q=>q
theorem HOk.laid (x:HOk P w H h) (k:∀ b u,h.get? b=some u->h'.get? b=some u) (hp:h.objs.size<=a) (new:bN P w (upd H a o) h' a o):HOk P w (upd H a o) h':=fun b u e=>by
 have hn:=x.fresh hp
 by_cases hb:b=a
 ·subst hb;rw [bB] at e;cases e;exact new
 ·rw [aN hb] at e
  exact (x b u e).stay (fun c v _ q=>k c v q) (fun c q=>by rw [aN (cX q hn)];exact q) fun c xs q=>by rw [aN (cX q hn)];exact q
end
noncomputable def Rd (H:Hp) (a:Addr) (u:HO):Prop:=H a=some u\/∃ o,H a=some (.frz o u)
theorem Rd.ok {P:Program} {w:World} {H:Hp} {h:Heap} {a:Addr} {u:HO} (r:Rd H a u) (x:HOk P w H h):bN P w H h a u:=by
 rcases r with r | ⟨o,r⟩
 ·exact x a u r
 ·obtain ⟨_,q⟩:=x a _ r
  exact q
noncomputable def Mut:Option HO->Prop
 | some (.lst _)=>True
 | some (.dK _)=>True
 | some (.dT _)=>True
 | some (.set _ _)=>True
 | some (.ins _ _ _)=>True
 | some (.ext _)=>True
 | _=>False
section
variable {P:Program} {w:World} {H:Hp} {h h':Heap} {x e:Addr} {o':HO}
theorem HOk.write (ok:HOk P w H h) (mu:Mut (H x)) (he:e=x\/H e=some (.own x)) (k:∀ b u,b ≠ e->h.get? b=some u->h'.get? b=some u) (heo:∃ u,h'.get? e=some u)
  (new:bN P w (upd H x o') h' x o'):HOk P w (upd H x o') h':=fun b u q=>by
 have nown:∀ c y,H c=some (.own y)->c ≠ x:=fun c y r z=>by subst z;rw [r] at mu;exact mu
 have ntup:∀ c xs,H c=some (.tup xs)->c ≠ x:=fun c xs r z=>by subst z;rw [r] at mu;exact mu
 by_cases hb:b=x
 ·subst hb;rw [bB] at q;cases q;exact new
 ·rw [aN hb] at q
  by_cases hbe:b=e
  ·have q':H b=some (.own x):=by
    rcases he with z | z
    ·exact absurd (hbe.trans z) hb
    ·rw [hbe];exact z
   rw [q] at q';cases q'
   obtain ⟨v,hv⟩:=heo
   exact ⟨v,by rw [hbe];exact hv⟩
  ·refine (ok b u q).stay (fun c v hc r=>k c v ?_ r) (fun c r=>by rw [aN (nown c b r)];exact r) fun c xs r=>by rw [aN (ntup c xs r)];exact r
   rcases hc with rfl | hc
   ·exact hbe
   ·rintro rfl
    rcases he with z | z
    ·exact nown c b hc z
    ·rw [hc] at z;cases z;exact hb rfl
end
structure Un (fs ex:Zg) (H H':Hp) (h h':Heap):Prop where
 keep:∀ b o,h.get? b=some o->H b=none->b ∉ fs->b ∉ ex->h'.get? b=some o
 slot:∀ b o,h.get? b=some o->H b=none->b∈fs->b ∉ ex->∃ sl,h'.get? b=some { o with slots:=sl }
 free:∀ b o,h.get? b=some o->H b=none->b ∉ ex->H' b=none
 there:∀ b o,h.get? b=some o->b ∉ ex->∃ o',h'.get? b=some o'
 tups:∀ b xs,H b=some (.tup xs)->H' b=some (.tup xs)
 frzs:∀ b o u,H b=some (.frz o u)->H' b=some (.frz o u)
 tbls:∀ b ps,H b=some (.tbl ps)->∃ more,H' b=some (.tbl (ps++more))
section
variable {fs fs' ex ex':Zg} {H H1 H2:Hp} {h h1 h2 h':Heap} {a x e:Addr} {o:HO}
theorem Un.any (u:Un fs ex H H1 h h1) {b:Addr} {ob:Obj} (q:h.get? b=some ob) (n:H b=none) (hx:b ∉ ex):∃ sl,h1.get? b=some { ob with slots:=sl }:=by
 by_cases hb:b∈fs
 ·exact u.slot b ob q n hb hx
 ·exact ⟨ob.slots,u.keep b ob q n hb hx⟩
theorem Un.kept (k:∀ b u,h.get? b=some u->h'.get? b=some u):Un fs ex H H h h' :=
 ⟨fun b ob q _ _ _=>k b ob q,fun b ob q _ _ _=>⟨ob.slots,k b ob q⟩,fun _ _ _ n _=>n,fun b ob q _=>⟨ob,k b ob q⟩,fun _ _ q=>q,fun _ _ _ q=>q,fun _ ps q=>⟨#[],by rw [q];simp⟩⟩
theorem Un.refl:Un fs ex H H h h:=Un.kept fun _ _ q=>q
theorem Un.laid (k:∀ b u,h.get? b=some u->h'.get? b=some u) (hp:h.objs.size<=a) (hn:H a=none):Un fs ex H (upd H a o) h h' where
 keep:=fun b u q _ _ _=>k b u q
 slot:=fun b u q _ _ _=>⟨u.slots,k b u q⟩
 free:=fun b u q n _=>by rw [aN (zQ (zg (zo q) hp))];exact n
 there:=fun b u q _=>⟨u,k b u q⟩
 tups:=fun b xs q=>by rw [aN (cX q hn)];exact q
 frzs:=fun b u xs q=>by rw [aN (cX q hn)];exact q
 tbls:=fun b ps q=>⟨#[],by rw [aN (cX q hn),q];simp⟩
theorem Un.write (mu:Mut (H x)) (he:e=x\/H e=some (.own x)) (k:∀ b u,b ≠ e->h.get? b=some u->h'.get? b=some u) (heo:∃ u,h'.get? e=some u):Un fs ex H (upd H x o) h h':=by
 have hx:∀ b,H b=none->b ≠ x:=fun b n z=>by subst z;rw [n] at mu;exact mu
 have hb:∀ b,H b=none->b ≠ e:=fun b n z=>by
  subst z
  rcases he with r | r
  ·exact hx b n r
  ·rw [n] at r;cases r
 have hm:∀ b u,H b=some u->¬ Mut (some u)->b ≠ x:=fun b u q nm z=>by subst z;rw [q] at mu;exact nm mu
 refine ⟨fun b u q n _ _=>k b u (hb b n) q,fun b u q n _ _=>⟨u.slots,k b u (hb b n) q⟩,fun b u q n _=>by rw [aN (hx b n)];exact n,fun b u q _=>?_,
  fun b xs q=>by rw [aN (hm b _ q fun z=>z)];exact q,fun b u xs q=>by rw [aN (hm b _ q fun z=>z)];exact q,fun b ps q=>⟨#[],by rw [aN (hm b _ q fun z=>z),q];simp⟩⟩
 by_cases hbe:b=e
 ·subst hbe;exact heo
 ·exact ⟨u,k b u hbe q⟩
end
noncomputable def trk (h:Heap) (H:Hp):Zg:=(List.range h.objs.size).filter fun a=>(H a).isSome
noncomputable def jv (h:Heap) (H:Hp):Heap:=PySem.W.hideAll h (trk h H)
theorem mP (h:Heap) (H:Hp):(jv h H).objs.size=h.objs.size:=PySem.W.hideAll_size _ _
theorem o9 {h:Heap} {H:Hp} {b:Addr} {o:Obj} (e:h.get? b=some o) (n:H b=none):(jv h H).get? b=some o :=
 PySem.W.hideAll_get _ e fun hm=>by
  have q:(H b).isSome=true:=(List.mem_filter.mp hm).2
  rw [n] at q;simp at q
theorem rk {h:Heap} {H:Hp} {b:Addr} {o:Obj} (e:(jv h H).get? b=some o):h.get? b=some o/\H b=none:=by
 have e':h.get? b=some o:=PySem.W.of_hideAll (trk h H) e
 refine ⟨e',?_⟩
 cases q:H b with
 | none=>rfl
 | some x =>
  have hm:b∈trk h H:=List.mem_filter.mpr ⟨List.mem_range.mpr (zo e'),by simp [q]⟩
  have z:(jv h H).get? b=none:=PySem.W.hideAll_none (trk h H) hm
  rw [z] at e;cases e
noncomputable def qy (g h:Heap) (L:Addr):Zk:=(List.range h.objs.size).filterMap fun a=>if a=L\/(g.get? a).isSome=true then none else (h.get? a).map fun o=>(a,o)
noncomputable def rest (g h:Heap) (L d:Addr):Zk:=(qy g h L).filter fun p=>decide (p.1 ≠ d)
structure Mod (K:Zi) (mg:Zh) (base:Heap):Prop where
 kin:K.In base
 glob:base.Ns mainGlobals mg
 blt:∃ mb,base.Ns builtinsNs mb/\∀ x:Str,x ≠ "__name__" → mb x=bootBuiltins x
 nolimit:base.NoLimit
structure Cx where
 prog:Program
 w:World
 K:Zi
 mg:Zh
 base:Heap
 A:Around
 N:List Str
 s₀:Shared
 H₀:Hp
 env:Env
 outer:List Env
 stack:List Env
 ex:Zg
 fn:Str->Bool
 calm:Bool
 pn:Zk
 xe:Zt
noncomputable def frs (l:List Env):Zg:=l.filterMap (·.frame)
noncomputable abbrev Cx.fs (X:Cx):Zg:=frs X.outer
noncomputable def Vis (sc:Scope) (x:Str):Prop:=sc.names.lookup x=some .local\/sc.names.lookup x=some .cell\/sc.names.lookup x=some .free
noncomputable def Loc (sc:Scope) (x:Str):Prop:=sc.names.lookup x=some .local\/sc.names.lookup x=some .cell
noncomputable def Look (env:Env) (h:Heap) (m:Zh) (x:Str) (u:Value):Prop :=
 (env.kindOf x=some .local/\m x=some u)\/((env.kindOf x=some .cell\/env.kindOf x=some .free)/\∃ c,env.cells.lookup x=some c/\h.IsCell c (some u))
structure Cx.Ok (X:Cx):Prop where
 mod:Mod X.K X.mg X.base
 kind:X.env.scope.kind=.function
 glob:X.env.globals=mainGlobals
 blt:X.env.builtins=builtinsNs
 above:X.s₀.heap.objs.size<=X.env.locals
 inj:∀ x y c,X.env.cells.lookup x=some c->X.env.cells.lookup y=some c->x=y
 has:∀ x,(X.env.kindOf x=some .cell\/X.env.kindOf x=some .free)->∃ c,X.env.cells.lookup x=some c
 cab:∀ x c,X.fn x=true->X.env.cells.lookup x=some c->X.s₀.heap.objs.size<=c
 hd:X.calm=true->X.A.handled=none
 frames:X.A.frames=some X.stack
 stk:X.stack=X.outer\/(X.stack=X.env :: X.outer/\X.env.frame=some X.env.locals)
 exf:∀ b∈X.ex,b ≠ X.env.locals/\∀ x c,X.env.cells.lookup x=some c->c ≠ b
 bs:∀ b o,X.base.get? b=some o->X.s₀.heap.get? b=some o/\X.H₀ b=none
 bsz:X.base.objs.size<=X.s₀.heap.objs.size
 noex:∀ b o,X.base.get? b=some o->b ∉ X.ex
 exfs:∀ b∈X.ex,b ∉ X.fs
 funs:X.s₀.heap.FunFrames X.base X.outer
 frf:∀ b∈X.fs,X.H₀ b=none
structure Inv (X:Cx) (pins:Zk) (σ:List (Option V)) (H:Hp) (s:Shared):Prop where
 ok:X.Ok
 os:s.os=X.s₀.os
 bare:AllBare s.gens
 base:Un X.fs X.ex X.H₀ H X.s₀.heap s.heap
 loc:∃ m,s.heap.Ns X.env.locals m/\∀ (i:Nat) (x:Str) (v:V),X.N[i]?=some x->σ[i]?=some (some v)->Vis X.env.scope x->∃ u,RelV v u/\Look X.env s.heap m x u
 cell:∀ x c,X.env.cells.lookup x=some c->∃ v,s.heap.IsCell c v
 free:H X.env.locals=none
 freeC:∀ x c,X.env.cells.lookup x=some c->H c=none
 pin:∀ p∈X.pn++pins,s.heap.get? p.1=some p.2/\H p.1=none/\p.1 ≠ X.env.locals/\p.1 ∉ X.fs/\∀ v,p.2.data ≠ .cell v
 hok:HOk X.prog X.w H s.heap
 len:σ.length=X.N.length
section
variable {X:Cx} {pins:Zk} {σ:List (Option V)} {H H':Hp} {s:Shared} {h':Heap}
theorem Cx.Ok.nofr (ok:X.Ok) {b:Addr} {o:Obj} (e:X.base.get? b=some o):b ∉ X.fs:=fun hb=>by
 have:=(ok.funs.mem hb).1
 rw [e] at this;cases this
theorem Inv.bs (I:Inv X pins σ H s):∀ b o,X.base.get? b=some o->s.heap.get? b=some o/\H b=none:=fun b o e =>
 ⟨I.base.keep b o (I.ok.bs b o e).1 (I.ok.bs b o e).2 (I.ok.nofr e) (I.ok.noex b o e),I.base.free b o (I.ok.bs b o e).1 (I.ok.bs b o e).2 (I.ok.noex b o e)⟩
theorem Inv.bk (I:Inv X pins σ H s):∀ b o,X.base.get? b=some o->s.heap.get? b=some o:=fun b o e=>(I.bs b o e).1
theorem Inv.mod (I:Inv X pins σ H s):Mod X.K X.mg X.base:=I.ok.mod
theorem Inv.kIn (I:Inv X pins σ H s):X.K.In s.heap:=I.ok.mod.kin.keeps I.bk
theorem Inv.lt (I:Inv X pins σ H s):X.env.locals < s.heap.objs.size:=let ⟨_,hn,_⟩:=I.loc;hn.lt
theorem Inv.sz (I:Inv X pins σ H s):X.s₀.heap.objs.size<=s.heap.objs.size:=zk I.ok.above (Nat.le_of_lt I.lt)
theorem Inv.nofs (I:Inv X pins σ H s) {a:Addr} (h:s.heap.objs.size<=a):a ∉ X.fs:=fun hb=>by
 obtain ⟨_,o,ho,_⟩:=I.ok.funs.mem hb
 exact absurd (zg (zo ho) (zk I.sz h)) (yr _)
theorem Inv.cne (I:Inv X pins σ H s):∀ x c,X.env.cells.lookup x=some c->c ≠ X.env.locals:=fun x c e z=>by
 obtain ⟨v,o,ho,hd⟩:=I.cell x c e
 obtain ⟨m,⟨o',es,ep,ho',hd',_⟩,_⟩:=I.loc
 rw [z,ho'] at ho;cases ho;rw [hd'] at hd;cases hd
theorem Inv.funs (I:Inv X pins σ H s):s.heap.FunFrames X.base X.outer:=by
 have all:∀ (l:List Env),(∀ b∈frs l,b∈X.fs)->X.s₀.heap.FunFrames X.base l->s.heap.FunFrames X.base l:=by
  intro l
  induction l with
  | nil=>intro _ _;trivial
  | cons env r ih =>
   intro hs hl
   obtain ⟨hk,⟨L,o,hf,hn,ho,hd⟩,hr⟩:=hl
   have hL:L∈X.fs:=hs L (by unfold frs;rw [yM,hf];exact zx)
   obtain ⟨sl,e⟩:=I.base.slot L o ho (I.ok.frf L hL) hL fun z=>I.ok.exfs L z hL
   exact ⟨hk,⟨L,_,hf,hn,e,hd⟩,ih (fun b hb=>hs b (by unfold frs;rw [yM,hf];exact zy _ hb)) hr⟩
 exact all X.outer (fun _ hb=>hb) I.ok.funs
theorem Inv.stack (I:Inv X pins σ H s):s.heap.FunFrames X.base X.stack:=by
 rcases I.ok.stk with e | ⟨e,hf⟩
 ·rw [e];exact I.funs
 ·rw [e]
  obtain ⟨m,hn,_⟩:=I.loc
  refine .cons (by rw [I.ok.kind];decide) hf hn ?_ I.funs
  exact Heap.get?_none_of_le (zk I.ok.bsz I.ok.above)
theorem Inv.stkSub (I:Inv X pins σ H s):∀ b∈frs X.stack,b∈X.env.locals :: X.fs:=fun b hb=>by
 rcases I.ok.stk with e | ⟨e,hf⟩
 ·rw [e] at hb;exact zy _ hb
 ·rw [e] at hb
  unfold frs at hb
  rw [yM,hf] at hb
  exact hb
theorem Inv.stkFree (I:Inv X pins σ H s):∀ b∈frs X.stack,H b=none:=fun b hb=>by
 rcases zj.mp (I.stkSub b hb) with e | hb
 ·rw [e];exact I.free
 ·obtain ⟨_,o,ho,_⟩:=I.ok.funs.mem hb
  exact I.base.free b o ho (I.ok.frf b hb) fun z=>I.ok.exfs b z hb
theorem Inv.step {g':Array GenState} {t':Nat} {d':Drawn} {ch:Zg} (I:Inv X pins σ H s)
  (hch:∀ b∈ch,(b∈X.ex\/X.s₀.heap.objs.size<=b)/\b ≠ X.env.locals/\(∀ x c,X.env.cells.lookup x=some c->c ≠ b)/\∀ p∈X.pn++pins,p.1 ≠ b)
  (keep:∀ b o,b ≠ X.env.locals->b ∉ X.fs->b ∉ ch->s.heap.get? b=some o->H b=none->h'.get? b=some o)
  (slot:∀ b o,b ≠ X.env.locals->b∈X.fs->b ∉ ch->s.heap.get? b=some o->H b=none->∃ sl,h'.get? b=some { o with slots:=sl }) (free:∀ b o,b ∉ ch->s.heap.get? b=some o->H b=none->H' b=none)
  (there:∀ b o,b ∉ ch->s.heap.get? b=some o->∃ o',h'.get? b=some o')
  (tups:∀ b xs,H b=some (.tup xs)->H' b=some (.tup xs)) (frzs:∀ b o u,H b=some (.frz o u)->H' b=some (.frz o u)) (tbls:∀ b ps,H b=some (.tbl ps)->∃ more,H' b=some (.tbl (ps++more)))
  (ns:∀ m,s.heap.Ns X.env.locals m->h'.Ns X.env.locals m) (hok:HOk X.prog X.w H' h') (hg:AllBare g') :
  Inv X pins σ H' { s with heap:=h',gens:=g',drawn:=d',toks:=t' }:=by
 have neL:∀ b o,X.s₀.heap.get? b=some o->b ≠ X.env.locals:=fun b o e=>zQ (zg (zo e) I.ok.above)
 have neC:∀ b o,X.s₀.heap.get? b=some o->b ∉ X.ex->b ∉ ch:=fun b o e hx hb=>by
  rcases (hch b hb).1 with z | z
  ·exact hx z
  ·exact absurd (zg (zo e) z) (yr _)
 have cellK:∀ x c,X.env.cells.lookup x=some c->∀ v,s.heap.IsCell c v->h'.IsCell c v:=fun x c e v ⟨o,ho,hd⟩=>by
  have nch:c ∉ ch:=fun z=>(hch c z).2.2.1 x c e rfl
  by_cases hc:c∈X.fs
  ·obtain ⟨sl,q⟩:=slot c o (I.cne x c e) hc nch ho (I.freeC x c e)
   exact ⟨_,q,hd⟩
  ·exact ⟨o,keep c o (I.cne x c e) hc nch ho (I.freeC x c e),hd⟩
 refine ⟨I.ok,I.os,hg,⟨fun b o e n hb hx=>?_,fun b o e n hb hx=>?_,fun b o e n hx=>?_,fun b o e hx=>?_,fun b xs e=>tups b xs (I.base.tups b xs e),fun b o xs e=>frzs b o xs (I.base.frzs b o xs e),fun b ps e=>?_⟩,?_,fun x c e=>?_,?_,fun x c e=>?_,fun p hp=>?_,hok,I.len⟩
 ·exact keep b o (neL b o e) hb (neC b o e hx) (I.base.keep b o e n hb hx) (I.base.free b o e n hx)
 ·obtain ⟨sl,e1⟩:=I.base.slot b o e n hb hx
  obtain ⟨sl',e2⟩:=slot b _ (neL b o e) hb (neC b o e hx) e1 (I.base.free b o e n hx)
  exact ⟨sl',e2⟩
 ·obtain ⟨o',e1⟩:=I.base.there b o e hx
  exact free b o' (neC b o e hx) e1 (I.base.free b o e n hx)
 ·obtain ⟨o',e1⟩:=I.base.there b o e hx
  exact there b o' (neC b o e hx) e1
 ·obtain ⟨m1,e1⟩:=I.base.tbls b ps e
  obtain ⟨m2,e2⟩:=tbls b _ e1
  exact ⟨m1++m2,by rw [e2,Array.append_assoc]⟩
 ·obtain ⟨m,hn,hl⟩:=I.loc
  refine ⟨m,ns m hn,fun i x v e1 e2 e3=>?_⟩
  obtain ⟨u,r,l⟩:=hl i x v e1 e2 e3
  refine ⟨u,r,?_⟩
  rcases l with l | ⟨k,c,e,z⟩
  ·exact .inl l
  ·exact .inr ⟨k,c,e,cellK x c e _ z⟩
 ·obtain ⟨v,z⟩:=I.cell x c e
  exact ⟨v,cellK x c e v z⟩
 ·obtain ⟨m,⟨o,_,_,ho,_⟩,_⟩:=I.loc
  exact free _ o (fun z=>(hch _ z).2.1 rfl) ho I.free
 ·obtain ⟨v,o,ho,hd⟩:=I.cell x c e
  exact free c o (fun z=>(hch c z).2.2.1 x c e rfl) ho (I.freeC x c e)
 ·obtain ⟨e,n,ne,nf,d⟩:=I.pin p hp
  have nch:p.1 ∉ ch:=fun z=>(hch p.1 z).2.2.2 p hp rfl
  exact ⟨keep p.1 p.2 ne nf nch e n,free p.1 p.2 nch e n,ne,nf,d⟩
theorem Inv.un {t':Nat} (I:Inv X pins σ H s) (u:Un X.fs [] H H' s.heap h') (hok:HOk X.prog X.w H' h'):Inv X pins σ H' { s with heap:=h',toks:=t' }:=by
 obtain ⟨m,⟨o,es,ep,ho,r⟩,_⟩:=id I.loc
 obtain ⟨sl,hL⟩:=u.any ho I.free (by simp)
 exact I.step (g':=s.gens) (d':=s.drawn) (ch:=[]) (fun _ z=>nomatch z) (fun b o _ hb _ e n=>u.keep b o e n hb (by simp)) (fun b o _ hb _ e n=>u.slot b o e n hb (by simp)) (fun b o _ e n=>u.free b o e n (by simp)) (fun b o _ e=>u.there b o e (by simp)) u.tups u.frzs u.tbls (fun m' hm=>by
  obtain ⟨o',es',ep',ho',r'⟩:=hm
  rw [ho] at ho';cases ho'
  exact ⟨_,es',ep',hL,r'⟩) hok I.bare
theorem Inv.call {g':Array GenState} {t':Nat} {d':Drawn} {ch:Zg} (I:Inv X pins σ H s) (u:Un (frs X.stack) ch H H' s.heap h') (hok:HOk X.prog X.w H' h') (hg:AllBare g')
  (hch:∀ b∈ch,(b∈X.ex\/X.s₀.heap.objs.size<=b)/\b ≠ X.env.locals/\(∀ x c,X.env.cells.lookup x=some c->c ≠ b)/\∀ p∈X.pn++pins,p.1 ≠ b) :
  Inv X pins σ H' { s with heap:=h',gens:=g',drawn:=d',toks:=t' }:=by
 obtain ⟨m,⟨o,es,ep,ho,r⟩,_⟩:=id I.loc
 obtain ⟨sl,hL⟩:=u.any ho I.free fun z=>(hch _ z).2.1 rfl
 exact I.step (ch:=ch) hch (fun b o hL hb hc e n=>u.keep b o e n (fun z=>(zj.mp (I.stkSub b z)).elim hL hb) hc) (fun b o _ _ hc e n=>u.any e n hc) (fun b o hc e n=>u.free b o e n hc) (fun b o hc e=>u.there b o e hc) u.tups u.frzs u.tbls (fun m' hm=>by
  obtain ⟨o',es',ep',ho',r'⟩:=hm
  rw [ho] at ho';cases ho'
  exact ⟨_,es',ep',hL,r'⟩) hok hg
theorem Inv.turned {t':Nat} {it:Addr} (I:Inv X pins σ H s) (k:∀ b o,b ≠ it->s.heap.get? b=some o->h'.get? b=some o) (hn:H it=none) (hL:it ≠ X.env.locals)
  (h1:it∈X.ex\/X.s₀.heap.objs.size<=it) (h2:∀ x c,X.env.cells.lookup x=some c->c ≠ it) (h3:∀ p∈X.pn++pins,p.1 ≠ it):Inv X pins σ H { s with heap:=h',toks:=t' }:=by
 have nit:∀ b u,H b=some u->b ≠ it:=fun b u e z=>by rw [z,hn] at e;cases e
 refine I.step (g':=s.gens) (d':=s.drawn) (ch:=[it]) (fun b hb=>?_) (fun b o _ _ hc e _=>k b o (fun z=>hc (by simp [z])) e) (fun b o _ _ hc e _=>⟨o.slots,k b o (fun z=>hc (by simp [z])) e⟩) (fun _ _ _ _ n=>n)
  (fun b o hc e=>⟨o,k b o (fun z=>hc (by simp [z])) e⟩) (fun _ _ e=>e) (fun _ _ _ e=>e) (fun b ps e=>⟨#[],by rw [e];simp⟩) (fun m hm=>?_) (fun b u e=>?_) I.bare
 ·have e:b=it:=by simpa using hb
  subst e
  exact ⟨h1,hL,h2,h3⟩
 ·obtain ⟨o,es,ep,ho,r⟩:=hm
  exact ⟨o,es,ep,k _ o (yR hL) ho,r⟩
 ·refine (I.hok b u e).stay (fun c v hc q=>k c v ?_ q) (fun _ q=>q) fun _ _ q=>q
  rcases hc with z | z
  ·rw [z];exact nit b u e
  ·exact nit c _ z
theorem Inv.tok (I:Inv X pins σ H s) (t:Nat):Inv X pins σ H { s with toks:=t }:=I.un (h':=s.heap) (t':=t) Un.refl I.hok
theorem Inv.kept {t':Nat} (I:Inv X pins σ H s) (k:∀ b u,s.heap.get? b=some u->h'.get? b=some u):Inv X pins σ H { s with heap:=h',toks:=t' }:=I.un (Un.kept k) (I.hok.kept k)
theorem Inv.laid {a:Addr} {o:HO} {t':Nat} (I:Inv X pins σ H s) (k:∀ b u,s.heap.get? b=some u->h'.get? b=some u) (hp:s.heap.objs.size<=a) (new:bN X.prog X.w (upd H a o) h' a o) :
  Inv X pins σ (upd H a o) { s with heap:=h',toks:=t' }:=I.un (Un.laid k hp (I.hok.fresh hp)) (I.hok.laid k hp new)
theorem Inv.write {x e:Addr} {o:HO} {t':Nat} (I:Inv X pins σ H s) (mu:Mut (H x)) (he:e=x\/H e=some (.own x)) (k:∀ b u,b ≠ e->s.heap.get? b=some u->h'.get? b=some u) (heo:∃ u,h'.get? e=some u)
  (new:bN X.prog X.w (upd H x o) h' x o):Inv X pins σ (upd H x o) { s with heap:=h',toks:=t' }:=I.un (Un.write mu he k heo) (I.hok.write mu he k heo new)
theorem Inv.pins_of {pins':Zk} (I:Inv X pins σ H s) (h:∀ p∈pins',s.heap.get? p.1=some p.2/\H p.1=none/\p.1 ≠ X.env.locals/\p.1 ∉ X.fs/\∀ v,p.2.data ≠ .cell v):Inv X pins' σ H s :=
 ⟨I.ok,I.os,I.bare,I.base,I.loc,I.cell,I.free,I.freeC,fun p hp=>(zT.mp hp).elim (fun z=>I.pin p (zB _ z)) (h p),I.hok,I.len⟩
theorem jW {N:List Str} (hN:N.Nodup) {i j:Nat} {x:Str} (a:N[i]?=some x) (b:N[j]?=some x):i=j:=by
 obtain ⟨h1,e1⟩:=zq.mp a
 obtain ⟨h2,e2⟩:=zq.mp b
 exact (List.getElem_inj hN).mp (e1.trans e2.symm)
theorem iA {M:Model} {A:Around} {E:Zt} {i:Nat} {x:Str} {v:V} {u:Value} {Q:Unit->Shared->Prop} (I:Inv X pins σ H s) (hN:X.N.Nodup) (hi:X.N[i]?=some x) (hx:Loc X.env.scope x) (r:RelV v u)
  (h:∀ s',Inv X pins (σ.set i (some v)) H s'->(∃ a,Heap.SameBut a s.heap s'.heap/\(a=X.env.locals\/X.env.cells.lookup x=some a))->Q () s') (hf:X.fn x=true\/X.env.scope.names.lookup x=some .local:=by first | exact .inl rfl | exact .inr rfl | assumption):wpAny M A (storeName X.env x u) Q E s:=by
 obtain ⟨m,hn,hl⟩:=id I.loc
 have hcls:(X.env.scope.kind == .class || (X.env.scope.kind == .module && X.env.locals != X.env.globals))=false:=by rw [I.ok.kind];rfl
 have hiσ:i < σ.length:=by rw [I.len];exact (zq.mp hi).1
 have cne:=I.cne
 have tracked:∀ {a:Addr} {h':Heap},(∃ o,s.heap.get? a=some o/\H a=none)->Heap.SameBut a s.heap h'->HOk X.prog X.w H h':=fun {a h'} ha hs b ob e=>by
  obtain ⟨_,_,hfree⟩:=ha
  refine (I.hok b ob e).stay (fun c w' hc q=>(hs.2 c ?_).trans q) (fun _ q=>q) fun _ _ q=>q
  rintro rfl
  rcases hc with rfl | hc
  ·rw [hfree] at e;cases e
  ·rw [hfree] at hc;cases hc
 rcases hx with hk | hk
 ·refine wpAny_storeName_local hk hn (fun h' hn' hs=>?_) hcls
  obtain ⟨oL,_,_,hoL,_⟩:=id hn
  refine h _ ⟨I.ok,I.os,I.bare,⟨fun b o e n hb hx=>?_,fun b o e n hb hx=>?_,I.base.free,fun b o e hx=>?_,I.base.tups,I.base.frzs,I.base.tbls⟩,⟨_,hn',fun j y v' e1 e2 e3=>?_⟩,fun y c e=>?_,I.free,I.freeC,fun p hp=>?_,tracked ⟨oL,hoL,I.free⟩ hs,by simpa using I.len⟩ ⟨_,hs,.inl rfl⟩
  ·exact (hs.2 b (zQ (zg (zo e) I.ok.above))).trans (I.base.keep b o e n hb hx)
  ·obtain ⟨sl,e1⟩:=I.base.slot b o e n hb hx
   exact ⟨sl,(hs.2 b (zQ (zg (zo e) I.ok.above))).trans e1⟩
  ·obtain ⟨o',e1⟩:=I.base.there b o e hx
   exact ⟨o',(hs.2 b (zQ (zg (zo e) I.ok.above))).trans e1⟩
  ·by_cases hj:j=i
   ·subst hj
    rw [hi] at e1;cases e1
    rw [z7 hiσ] at e2
    cases e2
    exact ⟨u,r,.inl ⟨hk,by simp⟩⟩
   ·rw [zA (yR hj)] at e2
    obtain ⟨u',r',q⟩:=hl j y v' e1 e2 e3
    refine ⟨u',r',?_⟩
    rcases q with ⟨k,e⟩ | ⟨k,c,e,z⟩
    ·refine .inl ⟨k,?_⟩
     have:y ≠ x:=fun e=>hj (jW hN e1 (e ▸ hi))
     simp [this,e]
    ·exact .inr ⟨k,c,e,z.sameBut hs (cne y c e)⟩
  ·obtain ⟨w',z⟩:=I.cell y c e
   exact ⟨w',z.sameBut hs (cne y c e)⟩
  ·obtain ⟨e,n,ne,nf,d⟩:=I.pin p hp
   exact ⟨(hs.2 p.1 ne).trans e,n,ne,nf,d⟩
 ·have hfn:X.fn x=true:=by
   rcases hf with z | z
   ·exact z
   ·rw [z] at hk;cases hk
  obtain ⟨c,hc⟩:=I.ok.has x (.inl hk)
  obtain ⟨w',z⟩:=I.cell x c hc
  refine wpAny_storeName_cell I.ok.kind hk hc z (fun h' hc' hs=>?_)
  obtain ⟨oc,hoc,hocd⟩:=id z
  refine h { s with heap:=h' } ⟨I.ok,I.os,I.bare,⟨fun b o e n hb hx=>?_,fun b o e n hb hx=>?_,I.base.free,fun b o e hx=>?_,I.base.tups,I.base.frzs,I.base.tbls⟩,⟨m,hn.sameBut hs (yR (cne x c hc)),fun j y v' e1 e2 e3=>?_⟩,fun y c' e=>?_,I.free,I.freeC,fun p hp=>?_,tracked ⟨oc,hoc,I.freeC x c hc⟩ hs,by simpa using I.len⟩ ⟨c,hs,.inr hc⟩
  ·exact (hs.2 b (zQ (zg (zo e) (I.ok.cab x c hfn hc)))).trans (I.base.keep b o e n hb hx)
  ·obtain ⟨sl,e1⟩:=I.base.slot b o e n hb hx
   exact ⟨sl,(hs.2 b (zQ (zg (zo e) (I.ok.cab x c hfn hc)))).trans e1⟩
  ·obtain ⟨o',e1⟩:=I.base.there b o e hx
   exact ⟨o',(hs.2 b (zQ (zg (zo e) (I.ok.cab x c hfn hc)))).trans e1⟩
  ·by_cases hj:j=i
   ·subst hj
    rw [hi] at e1;cases e1
    rw [z7 hiσ] at e2
    cases e2
    exact ⟨u,r,.inr ⟨.inl hk,c,hc,hc'⟩⟩
   ·rw [zA (yR hj)] at e2
    obtain ⟨u',r',q⟩:=hl j y v' e1 e2 e3
    refine ⟨u',r',?_⟩
    rcases q with q | ⟨k,c',e,z'⟩
    ·exact .inl q
    ·refine .inr ⟨k,c',e,z'.sameBut hs ?_⟩
     rintro rfl
     exact hj (jW hN e1 (I.ok.inj _ _ _ e hc ▸ hi))
  ·by_cases hcc:c'=c
   ·subst hcc;exact ⟨_,hc'⟩
   ·obtain ⟨w2,z2⟩:=I.cell y c' e
    exact ⟨w2,z2.sameBut hs hcc⟩
  ·obtain ⟨e,n,ne,nf,d⟩:=I.pin p hp
   refine ⟨(hs.2 p.1 ?_).trans e,n,ne,nf,d⟩
   intro q
   rw [q,hoc] at e
   have q':oc=p.2:=zU e
   exact d w' (by rw [← q'];exact hocd)
theorem fM {M:Model} {A:Around} {E:Zt} {i:Nat} {x:Str} {v:V} {u:Value} {Q:Unit->Shared->Prop} (I:Inv X pins σ H s) (hN:X.N.Nodup) (hi:X.N[i]?=some x) (hx:Loc X.env.scope x) (r:RelV v u)
  (h:∀ s',Inv X pins (σ.set i (some v)) H s'->Q () s') (hf:X.fn x=true\/X.env.scope.names.lookup x=some .local:=by first | exact .inl rfl | exact .inr rfl | assumption):wpAny M A (storeName X.env x u) Q E s :=
 iA I hN hi hx r (fun s' I' _=>h s' I') hf
theorem Inv.call' {s':Shared} {ch:Zg} (I:Inv X pins σ H s) (ho:s'.os=s.os) (u:Un (frs X.stack) ch H H' s.heap s'.heap) (hok:HOk X.prog X.w H' s'.heap) (hg:AllBare s'.gens)
  (hch:∀ b∈ch,(b∈X.ex\/X.s₀.heap.objs.size<=b)/\b ≠ X.env.locals/\(∀ x c,X.env.cells.lookup x=some c->c ≠ b)/\∀ p∈X.pn++pins,p.1 ≠ b):Inv X pins σ H' s':=by
 obtain ⟨h',g',d',t',o'⟩:=s'
 have e:o'=s.os:=ho
 subst e
 exact I.call (g':=g') (t':=t') (d':=d') u hok hg hch
end
noncomputable abbrev XK:=Value->Option Addr->Hp->Prop
noncomputable abbrev St:=List (Option V)
noncomputable abbrev VK:=V->Hp->Prop
noncomputable abbrev TE:=St->Hp->VK->Prop
noncomputable abbrev TT:=St->Hp->(Bool->Hp->Prop)->Prop
noncomputable abbrev TA:=St->Hp->(List V->Hp->Prop)->Prop
structure Ends where
 nx:St->Hp->Prop
 rt:VK
 bk:St->Hp->Prop:=fun _ _=>False
 ct:St->Hp->Prop:=fun _ _=>False
noncomputable abbrev TS:=Ends->St->Hp->Prop
noncomputable def EP (X:Cx) (pins:Zk) (σ:St) (Q:VK) (u:Value) (s':Shared):Prop:=∃ v H',Inv X pins σ H' s'/\RelV v u/\Q v H'
noncomputable def TP (X:Cx) (pins:Zk) (σ:St) (Q:Bool->Hp->Prop) (b:Bool) (s':Shared):Prop:=∃ H',Inv X pins σ H' s'/\Q b H'
noncomputable def AP (X:Cx) (pins:Zk) (σ:St) (Q:List V->Hp->Prop) (us:Zf) (s':Shared):Prop:=∃ vs H',Inv X pins σ H' s'/\aW vs us/\Q vs H'
noncomputable def SP (X:Cx) (pins:Zk) (D:Ends) (f:Flow) (s':Shared):Prop :=
 match f with
 | .next=>∃ σ' H',Inv X pins σ' H' s'/\D.nx σ' H'
 | .brk=>∃ σ' H',Inv X pins σ' H' s'/\D.bk σ' H'
 | .cont=>∃ σ' H',Inv X pins σ' H' s'/\D.ct σ' H'
 | .ret u=>∃ v σ' H',Inv X pins σ' H' s'/\RelV v u/\D.rt v H'
noncomputable def PE (X:Cx) (e:Expr) (t:TE):Prop :=
 ∀ (pins:Zk) (s:Shared) (σ:St) (H:Hp) (Q:VK),Inv X pins σ H s->t σ H Q->wpAny (model X.prog X.w) X.A (eval e X.env) (EP X pins σ Q) X.xe s
noncomputable def PT (X:Cx) (e:Expr) (t:TT):Prop :=
 ∀ (pins:Zk) (s:Shared) (σ:St) (H:Hp) (Q:Bool->Hp->Prop),Inv X pins σ H s->t σ H Q->wpAny (model X.prog X.w) X.A (isTrue e X.env (eval e X.env)) (TP X pins σ Q) X.xe s
noncomputable def PW (X:Cx) (e:Expr) (t:TT):Prop :=
 ∀ (whole:Sem Value) (pins:Zk) (s:Shared) (σ:St) (H:Hp) (Q:Bool->Hp->Prop),Inv X pins σ H s->t σ H Q->wpAny (model X.prog X.w) X.A (isTrue e X.env whole) (TP X pins σ Q) X.xe s
theorem PW.pt {X:Cx} {e:Expr} {t:TT} (h:PW X e t):PT X e t:=h _
noncomputable def PA (X:Cx) (es:List Expr) (t:TA):Prop :=
 ∀ (pos:Pos) (pins:Zk) (s:Shared) (σ:St) (H:Hp) (Q:List V->Hp->Prop),Inv X pins σ H s->t σ H Q->wpAny (model X.prog X.w) X.A (spliced (backTo pos (starEach es X.env))) (AP X pins σ Q) X.xe s
noncomputable def PS (X:Cx) (st:Stmt) (t:TS):Prop :=
 ∀ (pins:Zk) (s:Shared) (σ:St) (H:Hp) (D:Ends),Inv X pins σ H s->t D σ H->wpAny (model X.prog X.w) X.A (exec st X.env) (SP X pins D) X.xe s
noncomputable def PSs (X:Cx) (st:List Stmt) (t:TS):Prop :=
 ∀ (pins:Zk) (s:Shared) (σ:St) (H:Hp) (D:Ends),Inv X pins σ H s->t D σ H->wpAny (model X.prog X.w) X.A (execs st X.env) (SP X pins D) X.xe s
theorem thn {α:Type} {t:Sem α} {Q Q':α->Shared->Prop} {M:Model} {A:Around} {E:Zt} {s:Shared} (h:wpAny M A t Q E s) (hQ:∀ a s,Q a s->Q' a s):wpAny M A t Q' E s:=zI h hQ fun _ _ x=>x
section
variable {X:Cx}
noncomputable def xD (i:Nat):TE:=fun σ H Q=>∃ v,σ[i]?=some (some v)/\Q v H
noncomputable def tC (v:V):TE:=fun _ H Q=>Q v H
theorem kR {i:Nat} {x:Str} {pos:Pos} (hN:X.N[i]?=some x) (hv:Vis X.env.scope x) (hd:(x == ("__debug__" : Str))=false:=by decide) (hcd:(x == ("__classdict__" : Str))=false:=by decide):PE X (.Name x pos) (xD i):=by
 intro pins s σ H Q I h
 obtain ⟨v,e,h⟩:=h
 obtain ⟨m,hn,hl⟩:=I.loc
 obtain ⟨u,r,l⟩:=hl i x v hN e hv
 have fin:EP X pins σ Q u s:=⟨v,H,I,r,h⟩
 rcases l with ⟨hk,hm⟩ | ⟨hk,c,hc,hcell⟩
 ·exact x4 (wpAny_loadName_local I.ok.kind hk hn hm fin) hd
 ·rcases hk with hk | hk
  ·exact x4 (wpAny_loadName_cell I.ok.kind hk hc hcell fin) hd
  ·exact x4 (wpAny_loadName_free I.ok.kind hk hc hcell fin hcd) hd
theorem uC {i j pos}:PE X (.Constant (.int i) j pos) (tC (.int i)):=fun _ _ _ H _ I h=>wpAny_Constant_int ⟨.int i,H,I.tok _,⟨_,rfl⟩,h⟩
theorem v9 {b j pos}:PE X (.Constant (.bool b) j pos) (tC (.bl b)):=fun _ _ _ H _ I h=>Constant_bool ⟨.bl b,H,I,rfl,h⟩
theorem uv {j pos}:PE X (.Constant .none j pos) (tC .non):=fun _ _ _ H _ I h=>Constant_none ⟨.non,H,I,rfl,h⟩
theorem sE {x j pos}:PE X (.Constant (.str x) j pos) (tC (.str x)):=fun _ _ _ H _ I h=>Calls.Constant_str ⟨.str x,H,I.tok _,⟨_,rfl⟩,h⟩
noncomputable def Gl (X:Cx) (x:Str):Prop:=X.env.kindOf x=some .globalImplicit
theorem eV {E:Zt} {pins:Zk} {s:Shared} {σ:St} {H:Hp} {x:Str} {u:Value} {pos:Pos} {Q:Zt} (I:Inv X pins σ H s) (hg:Gl X x) (hm:X.mg x=some u) (h:Q u s)
  (hd:(x == ("__debug__" : Str))=false:=by decide):wpAny (model X.prog X.w) X.A (eval (.Name x pos) X.env) Q E s :=
 Calls.Name_function_global I.ok.kind hg (Calls.loadGlobal_global (by rw [I.ok.glob];exact I.mod.glob.keeps I.bk) hm h) hd
theorem jq {E:Zt} {pins:Zk} {s:Shared} {σ:St} {H:Hp} {x:Str} {u:Value} {pos:Pos} {Q:Zt} (I:Inv X pins σ H s) (hg:Gl X x) (hm:X.mg x=none) (hv:bootBuiltins x=some u) (h:Q u s)
  (hn:x ≠ "__name__" := by decide) (hd:(x == ("__debug__" : Str))=false:=by decide):wpAny (model X.prog X.w) X.A (eval (.Name x pos) X.env) Q E s:=by
 obtain ⟨mb,h1,h2⟩:=I.mod.blt
 exact Calls.Name_function_global I.ok.kind hg (Calls.loadGlobal_builtin (by rw [I.ok.glob];exact I.mod.glob.keeps I.bk) hm (by rw [I.ok.blt];exact h1.keeps I.bk) ((h2 x hn).trans hv) h) hd
theorem i0 {x:Str} {v:V} {u:Value} {pos:Pos} (hg:Gl X x) (hm:X.mg x=some u) (r:RelV v u) (hd:(x == ("__debug__" : Str))=false:=by decide):PE X (.Name x pos) (tC v) :=
 fun _ _ _ H _ I h=>eV I hg hm ⟨v,H,I,r,h⟩ hd
theorem lb {x:Str} {v:V} {u:Value} {pos:Pos} (hg:Gl X x) (hm:X.mg x=none) (hv:bootBuiltins x=some u) (r:RelV v u) (hn:x ≠ "__name__" := by decide) (hd:(x == ("__debug__" : Str))=false:=by decide):PE X (.Name x pos) (tC v) :=
 fun _ _ _ H _ I h=>jq I hg hm hv ⟨v,H,I,r,h⟩ hn hd
variable {a b:Expr} {ta tb:TE} {pos:Pos}
noncomputable def PC (X:Cx) (op:CmpOp) (a b:Expr) (t:TE):Prop :=
 ∀ (pins:Zk) (s:Shared) (σ:St) (H:Hp) (Q:VK),Inv X pins σ H s->t σ H Q →
  wpAny (model X.prog X.w) X.A (eval a X.env) (fun v s₁=>wpAny (model X.prog X.w) X.A (eval b X.env) (fun u s₂=>wpAny (model X.prog X.w) X.A (compareOp op v u) (EP X pins σ Q) X.xe s₂) X.xe s₁) X.xe s
theorem oa (b:Expr) {op:CmpOp} (h:op ≠ .In) (h2:op ≠ .NotIn):behindInMarks op b=false:=by
 have e1:(op == CmpOp.In)=false:=by cases op <;> first | rfl | exact absurd rfl h
 have e2:(op == CmpOp.NotIn)=false:=by cases op <;> first | rfl | exact absurd rfl h2
 cases b <;> simp [behindInMarks,e1,e2]
noncomputable def xu (ta:TE):TE:=fun σ H Q=>ta σ H fun x H1=>Q (.bl (decide (x=.non))) H1
noncomputable def we (ta:TE):TE:=fun σ H Q=>ta σ H fun x H1=>Q (.bl (!decide (x=.non))) H1
theorem RelV.none_iff {x:V} {v:Value} (r:RelV x v):(v == Value.none)=decide (x=.non):=by
 cases x with
 | non=>cases r;rfl
 | bl _=>cases r;rfl
 | int _=>obtain ⟨t,rfl⟩:=r;rfl
 | str _=>obtain ⟨t,rfl⟩:=r;rfl
 | byt _=>obtain ⟨t,rfl⟩:=r;rfl
 | flt _=>obtain ⟨t,rfl⟩:=r;rfl
 | ref _=>cases r;rfl
 | ty _=>cases r;rfl
theorem uF {j pos'} (ha:PE X a ta):PC X .Is a (.Constant .none j pos') (xu ta):=by
 intro pins s σ H Q I h
 refine thn (ha pins s σ H _ I h) fun v s1 ⟨x,H1,I1,r1,q1⟩=>?_
 exact Constant_none (is_none_gen ⟨.bl _,H1,I1,by rw [r1.none_iff];rfl,q1⟩)
theorem qJ {j pos'} (ha:PE X a ta):PC X .IsNot a (.Constant .none j pos') (we ta):=by
 intro pins s σ H Q I h
 refine thn (ha pins s σ H _ I h) fun v s1 ⟨x,H1,I1,r1,q1⟩=>?_
 exact Constant_none (isnot_none_gen ⟨.bl _,H1,I1,by rw [r1.none_iff];rfl,q1⟩)
noncomputable def tB (t:TE):TT:=fun σ H Q=>t σ H fun x H1=>∃ c,x=.bl c/\Q c H1
theorem nk {op:CmpOp} {t:TE} (h:PC X op a b t) (h1:behindInMarks op b=false:=by first | exact oa _ (by decide) (by decide) | rfl):PT X (.Compare a [op] [b] pos) (tB t):=by
 intro pins s σ H Q I hw
 refine wpAny_isTrue_Compare1 (thn (h pins s σ H _ I hw) fun v s1 h1=>thn h1 fun u s2 h2=>thn h2 fun c s3 ⟨x,H1,I1,r1,q1⟩=>?_) h1
 obtain ⟨d,rfl,q⟩:=q1
 cases r1
 exact z8 ⟨H1,I1,q⟩
variable {tA tB':TT} {rest:List Expr}
noncomputable def w6 (t u:TT):TT:=fun σ H Q=>t σ H fun c H1=>if c=true then u σ H1 Q else Q false H1
noncomputable def tOr (t u:TT):TT:=fun σ H Q=>t σ H fun c H1=>if c=true then Q true H1 else u σ H1 Q
noncomputable def xJ (t:TT):TT:=fun σ H Q=>t σ H fun c H1=>Q (!c) H1
theorem qD (ha:PT X a tA):PW X (.BoolOp .And [a] pos) tA:=by
 intro wh pins s σ H Q I h
 refine isTrue_and (thn (ha pins s σ H Q I h) fun c s1 e=>?_)
 cases c with
 | true=>exact isTrue_and_nil e
 | false=>exact e
theorem ur (ha:PT X a tA):PW X (.BoolOp .Or [a] pos) tA:=by
 intro wh pins s σ H Q I h
 refine isTrue_or (thn (ha pins s σ H Q I h) fun c s1 e=>?_)
 cases c with
 | false=>exact isTrue_or_nil e
 | true=>exact e
theorem sC (ha:PT X a tA) (hb:PW X (.BoolOp .And (b :: rest) pos) tB'):PW X (.BoolOp .And (a :: b :: rest) pos) (w6 tA tB'):=by
 intro wh pins s σ H Q I h
 refine isTrue_and (thn (ha pins s σ H _ I h) fun c s1 ⟨H1,I1,q1⟩=>?_)
 cases c with
 | true=>exact hb wh pins s1 σ H1 Q I1 q1
 | false=>exact ⟨H1,I1,q1⟩
theorem vo (ha:PT X a tA) (hb:PW X (.BoolOp .Or (b :: rest) pos) tB'):PW X (.BoolOp .Or (a :: b :: rest) pos) (tOr tA tB'):=by
 intro wh pins s σ H Q I h
 refine isTrue_or (thn (ha pins s σ H _ I h) fun c s1 ⟨H1,I1,q1⟩=>?_)
 cases c with
 | true=>exact ⟨H1,I1,q1⟩
 | false=>exact hb wh pins s1 σ H1 Q I1 q1
theorem uq (ha:PT X a tA):PT X (.UnaryOp .Not a pos) (xJ tA):=by
 intro pins s σ H Q I h
 exact isTrue_not (ha pins s σ H (fun c H1=>Q (!c) H1) I h)
noncomputable def vr (ta tb:TE):TE:=fun σ H Q=>ta σ H fun x H1=>∃ c,x=.bl c/\if c=true then tb σ H1 Q else Q (.bl false) H1
noncomputable def wW (ta tb:TE):TE:=fun σ H Q=>ta σ H fun x H1=>∃ c,x=.bl c/\if c=true then Q (.bl true) H1 else tb σ H1 Q
theorem um {op} {t:TE} (h:PE X a t):PE X (.BoolOp op [a] pos) t:=fun pins s σ H Q I hw=>BoolOp_one (h pins s σ H Q I hw)
theorem uE (ha:PE X a ta) (hb:PE X (.BoolOp .And (b :: rest) pos) tb):PE X (.BoolOp .And (a :: b :: rest) pos) (vr ta tb):=by
 intro pins s σ H Q I h
 refine BoolOp_and (thn (ha pins s σ H _ I h) fun v s1 ⟨x,H1,I1,r1,q1⟩=>?_)
 obtain ⟨c,rfl,q1⟩:=q1
 cases r1
 refine z8 ?_
 cases c with
 | true=>exact hb pins s1 σ H1 Q I1 q1
 | false=>exact ⟨.bl false,H1,I1,rfl,q1⟩
theorem v8 (ha:PE X a ta) (hb:PE X (.BoolOp .Or (b :: rest) pos) tb):PE X (.BoolOp .Or (a :: b :: rest) pos) (wW ta tb):=by
 intro pins s σ H Q I h
 refine BoolOp_or (thn (ha pins s σ H _ I h) fun v s1 ⟨x,H1,I1,r1,q1⟩=>?_)
 obtain ⟨c,rfl,q1⟩:=q1
 cases r1
 refine z8 ?_
 cases c with
 | false=>exact hb pins s1 σ H1 Q I1 q1
 | true=>exact ⟨.bl true,H1,I1,rfl,q1⟩
noncomputable def tIf (t:TT) (ta tb:TE):TE:=fun σ H Q=>t σ H fun c H1=>if c=true then ta σ H1 Q else tb σ H1 Q
theorem ov {c:Expr} (hc:PT X c tA) (ha:PE X a ta) (hb:PE X b tb):PE X (.IfExp c a b pos) (tIf tA ta tb):=by
 intro pins s σ H Q I h
 refine wpAny_IfExp (thn (hc pins s σ H _ I h) fun d s1 ⟨H1,I1,q1⟩=>?_)
 cases d with
 | true=>exact ha pins s1 σ H1 Q I1 q1
 | false=>exact hb pins s1 σ H1 Q I1 q1
end
noncomputable def SqL (K:Zi) (H:Hp) (a:Addr) (xs:List V):Prop :=
 Rd H a (.lst xs) ∨
  ∃ (o:Obj) (its:Array Value) (n:Nat),K.lookup a=some o/\o.cls=.type "list" ∧ o.dict=none/\o.data=.seq its n/\its.size<=sizeLine/\aW xs its.toList
noncomputable def SqT (K:Zi) (H:Hp) (a:Addr) (xs:List V):Prop :=
 Rd H a (.tup xs) ∨
  ∃ (o:Obj) (its:Array Value) (n:Nat),K.lookup a=some o/\o.cls=.type "tuple" ∧ o.data=.seq its n/\its.size<=sizeLine/\aW xs its.toList
noncomputable def xp:Value->Option V
 | .none=>some .non
 | .bool b=>some (.bl b)
 | .int i _=>some (.int i)
 | .str x _=>some (.str x)
 | .bytes b _=>some (.byt b)
 | .float b _=>some (.flt b)
 | .ref a=>some (.ref a)
 | .type n=>some (.ty n)
 | _=>none
theorem RelV.abs {x:V} {u:Value} (r:RelV x u):xp u=some x:=by
 cases x with
 | non=>cases r;rfl
 | bl _=>cases r;rfl
 | int _=>obtain ⟨t,rfl⟩:=r;rfl
 | str _=>obtain ⟨t,rfl⟩:=r;rfl
 | byt _=>obtain ⟨t,rfl⟩:=r;rfl
 | flt _=>obtain ⟨t,rfl⟩:=r;rfl
 | ref _=>cases r;rfl
 | ty _=>cases r;rfl
theorem RelV.inj {x y:V} {u:Value} (r:RelV x u) (q:RelV y u):x=y:=zU (r.abs.symm.trans q.abs)
theorem aW.inj:∀ {xs ys:List V} {us:Zf},aW xs us->aW ys us->xs=ys
 | _,_,_,.nil,.nil=>rfl
 | _,_,_,.cons r t,.cons r' t'=>by rw [r.inj r',aW.inj t t']
section
variable {X:Cx} {pins:Zk} {σ:St} {H:Hp} {s:Shared} {a:Addr} {xs ys:List V}
theorem SqL.of {K:Zi} (h:H a=some (.lst xs)):SqL K H a xs:=.inl (.inl h)
theorem SqT.of {K:Zi} (h:H a=some (.tup xs)):SqT K H a xs:=.inl (.inl h)
theorem Inv.list (I:Inv X pins σ H s) (h:SqL X.K H a xs):∃ its:Zf,aW xs its/\PlainL s.heap a its.toArray/\xs.length<=sizeLine:=by
 rcases h with h | ⟨o,its,n,hk,hc,hd,hs,hz,r⟩
 ·obtain ⟨z,its,n,r,e⟩:=h.ok I.hok
  exact ⟨its,r,⟨_,n,e,rfl,rfl,rfl⟩,z⟩
 ·refine ⟨its.toList,r,⟨o,n,I.kIn a o hk,hc,hd,by simpa using hs⟩,?_⟩
  have e:=r.length
  simp only [Array.length_toList] at e
  lia
theorem Inv.tuple (I:Inv X pins σ H s) (h:SqT X.K H a xs):∃ its:Zf,aW xs its/\IsTup s.heap a its.toArray/\xs.length<=sizeLine:=by
 rcases h with h | ⟨o,its,n,hk,hc,hs,hz,r⟩
 ·obtain ⟨z,its,r,_,p⟩:=h.ok I.hok
  exact ⟨its,r,p,z⟩
 ·refine ⟨its.toList,r,⟨o,I.kIn a o hk,hc,n,by simpa using hs⟩,?_⟩
  have e:=r.length
  simp only [Array.length_toList] at e
  lia
theorem Inv.list_inj (I:Inv X pins σ H s) (h:SqL X.K H a xs) (h':SqL X.K H a ys):xs=ys:=by
 obtain ⟨its,r,⟨o,n,e,_,_,d⟩,_⟩:=I.list h
 obtain ⟨its',r',⟨o',n',e',_,_,d'⟩,_⟩:=I.list h'
 rw [e] at e';cases e'
 rw [d] at d'
 injection d' with d1 _
 have:its=its':=by simpa using congrArg Array.toList d1
 subst this
 exact r.inj r'
theorem Inv.tuple_inj (I:Inv X pins σ H s) (h:SqT X.K H a xs) (h':SqT X.K H a ys):xs=ys:=by
 obtain ⟨its,r,⟨o,e,_,n,d⟩,_⟩:=I.tuple h
 obtain ⟨its',r',⟨o',e',_,n',d'⟩,_⟩:=I.tuple h'
 rw [e] at e';cases e'
 rw [d] at d'
 injection d' with d1 _
 have:its=its':=by simpa using congrArg Array.toList d1
 subst this
 exact r.inj r'
end
noncomputable abbrev Cx.wish (X:Cx) (E:Zt):Cx:={ X with xe:=E }
noncomputable abbrev Cx.nox (X:Cx):Cx:=X.wish fun _ _=>False
theorem Cx.Ok.wish {X:Cx} (ok:X.Ok) (E:Zt):(X.wish E).Ok :=
 ⟨ok.mod,ok.kind,ok.glob,ok.blt,ok.above,ok.inj,ok.has,ok.cab,ok.hd,ok.frames,ok.stk,ok.exf,ok.bs,ok.bsz,ok.noex,ok.exfs,ok.funs,ok.frf⟩
theorem Cx.Ok.unwish {X:Cx} {E:Zt} (ok:(X.wish E).Ok):X.Ok :=
 ⟨ok.mod,ok.kind,ok.glob,ok.blt,ok.above,ok.inj,ok.has,ok.cab,ok.hd,ok.frames,ok.stk,ok.exf,ok.bs,ok.bsz,ok.noex,ok.exfs,ok.funs,ok.frf⟩
section
variable {X:Cx} {pins:Zk} {σ:St} {H:Hp} {s:Shared} {E:Zt}
theorem Inv.wish (I:Inv X pins σ H s) (E:Zt):Inv (X.wish E) pins σ H s:=⟨I.ok.wish E,I.os,I.bare,I.base,I.loc,I.cell,I.free,I.freeC,I.pin,I.hok,I.len⟩
theorem Inv.unwish (I:Inv (X.wish E) pins σ H s):Inv X pins σ H s:=⟨I.ok.unwish,I.os,I.bare,I.base,I.loc,I.cell,I.free,I.freeC,I.pin,I.hok,I.len⟩
theorem SP.unwish {D:Ends} {f:Flow} {s':Shared} (h:SP (X.wish E) pins D f s'):SP X pins D f s':=by
 cases f with
 | next=>obtain ⟨σ',H',I,q⟩:=h;exact ⟨σ',H',I.unwish,q⟩
 | brk=>obtain ⟨σ',H',I,q⟩:=h;exact ⟨σ',H',I.unwish,q⟩
 | cont=>obtain ⟨σ',H',I,q⟩:=h;exact ⟨σ',H',I.unwish,q⟩
 | ret u=>obtain ⟨v,σ',H',I,r,q⟩:=h;exact ⟨v,σ',H',I.unwish,r,q⟩
theorem PT.nox {e:Expr} {t:TT} (h:PT X.nox e t):PT X e t:=fun pins s σ H Q I hw =>
 zI (h pins s σ H Q (I.wish _) hw) (fun _ _ ⟨H',I',q⟩=>⟨H',I'.unwish,q⟩) fun _ _ z=>False.elim z
theorem PSs.nox {st:List Stmt} {t:TS} (h:PSs X.nox st t):PSs X st t:=fun pins s σ H D I hw =>
 zI (h pins s σ H D (I.wish _) hw) (fun _ _ q=>q.unwish) fun _ _ z=>False.elim z
end
section
variable {X:Cx} {st:Stmt} {rest:List Stmt} {t u:TS} {e:Expr} {te:TE} {pos:Pos}
noncomputable def wB:TS:=fun D σ H=>D.nx σ H
noncomputable def xr (t u:TS):TS:=fun D σ H=>t { D with nx:=u D } σ H
theorem qx:PSs X [] wB:=fun _ _ σ H _ I h=>yJ ⟨σ,H,I,h⟩
theorem jK (h1:PS X st t) (h2:PSs X rest u):PSs X (st :: rest) (xr t u):=by
 intro pins s σ H D I h
 refine wpAny_execs_cons (thn (h1 pins s σ H { D with nx:=u D } I h) fun f s1 q=>?_)
 cases f with
 | next =>
  obtain ⟨σ',H',I',q⟩:=q
  exact h2 pins s1 σ' H' D I' q
 | ret v=>exact q
 | brk=>exact q
 | cont=>exact q
theorem la (h1:PS X st t):PSs X [st] t:=by
 intro pins s σ H D I h
 refine wpAny_execs_cons (thn (h1 pins s σ H D I h) fun f s1 q=>?_)
 cases f with
 | next=>exact yJ q
 | ret v=>exact q
 | brk=>exact q
 | cont=>exact q
theorem Inv.quiet {pins:Zk} {σ:St} {H:Hp} {s:Shared} (I:Inv X pins σ H s):interactive X.env=false:=by simp [interactive,I.ok.kind]
noncomputable def rU (te:TE):TS:=fun D σ H=>te σ H fun _ H1=>D.nx σ H1
theorem je (he:PE X e te) (hs:swapsWith e none pos.line X.env=pure false:=by rfl):PS X (.Expr e pos) (rU te):=by
 intro pins s σ H D I h
 exact wpAny_Expr_any (thn (he pins s σ H _ I h) fun v s1 ⟨x,H1,I1,r1,q1⟩=>⟨σ,H1,I1,q1⟩) I.quiet hs
noncomputable def xK (te:TE):TS:=fun D σ H=>te σ H D.rt
theorem oY (he:PE X e te):PS X (.Return (some e) pos) (xK te):=by
 intro pins s σ H D I h
 exact wpAny_Return_some (thn (he pins s σ H _ I h) fun v s1 ⟨x,H1,I1,r1,q1⟩=>⟨x,σ,H1,I1,r1,q1⟩)
noncomputable def xx (c:TT) (t u:TS):TS:=fun D σ H=>c σ H fun b H1=>if b=true then t D σ H1 else u D σ H1
theorem sd {c:Expr} {a b:List Stmt} {tc:TT} (hc:PT X c tc) (ha:PSs X a t) (hb:PSs X b u):PS X (.If c a b pos) (xx tc t u):=by
 intro pins s σ H D I h
 refine wpAny_If (thn (hc pins s σ H _ I h) fun d s1 ⟨H1,I1,q1⟩=>?_)
 cases d with
 | true=>exact ha pins s1 σ H1 D I1 q1
 | false=>exact hb pins s1 σ H1 D I1 q1
end
noncomputable abbrev TG:=V->St->Hp->(St->Hp->Prop)->Prop
noncomputable def PG (X:Cx) (target:Expr) (t:TG):Prop :=
 ∀ (pins:Zk) (s:Shared) (σ:St) (H:Hp) (v:V) (u:Value) (Q:St->Hp->Prop),Inv X pins σ H s->RelV v u->t v σ H Q →
  wpAny (model X.prog X.w) X.A (assign target X.env u) (fun _ s'=>∃ σ' H',Inv X pins σ' H' s'/\Q σ' H') X.xe s
section
variable {X:Cx} {pos:Pos}
noncomputable def oG (i:Nat):TG:=fun v σ H Q=>Q (σ.set i (some v)) H
theorem pT {i:Nat} {x:Str} (hN:X.N.Nodup) (hi:X.N[i]?=some x) (hx:Loc X.env.scope x) (hf:X.fn x=true\/X.env.scope.names.lookup x=some .local:=by first | exact .inl rfl | exact .inr rfl | assumption):PG X (.Name x pos) (oG i):=by
 intro pins s σ H v u Q I r h
 exact wpAny_assign_Name (fM I hN hi hx r (fun s' I'=>⟨_,H,I',h⟩) hf)
noncomputable def vS (te:TE) (g:TG):TS:=fun D σ H=>te σ H fun x H1=>g x σ H1 D.nx
theorem kM {i:Nat} {x:Str} {e:Expr} {te:TE} {pos':Pos} (hN:X.N.Nodup) (hi:X.N[i]?=some x) (hx:Loc X.env.scope x) (he:PE X e te) (hs:swapsWith e (some (.Name x pos')) pos.line X.env=pure false:=by rfl) (hf:X.fn x=true\/X.env.scope.names.lookup x=some .local:=by first | exact .inl rfl | exact .inr rfl | assumption) :
  PS X (.Assign [.Name x pos'] e pos) (vS te (oG i)):=by
 intro pins s σ H D I h
 refine wpAny_Assign_Name (thn (he pins s σ H _ I h) fun v s1 ⟨y,H1,I1,r1,q1⟩=>?_) hs
 exact fM I1 hN hi hx r1 (fun s2 I2=>⟨_,H1,I2,q1⟩) hf
end
structure It where
 go:Nat->Hp->Prop
 yld:Nat->Hp->V->Hp->Prop
 stop:Nat->Hp->Prop
noncomputable def ip (X:Cx) (pins:Zk) (H:Hp) (b:Addr):Prop :=
 H b=none/\b ≠ X.env.locals/\b ∉ X.fs/\(b∈X.ex\/X.s₀.heap.objs.size<=b)/\(∀ x c,X.env.cells.lookup x=some c->c ≠ b)/\∀ p∈X.pn++pins,p.1 ≠ b
theorem Inv.fpOk {X:Cx} {pins:Zk} {σ:St} {H H':Hp} {s:Shared} {b:Addr} (I:Inv X pins σ H s) (hb:s.heap.objs.size<=b) (hn:H' b=none):ip X pins H' b:=by
 refine ⟨hn,Zs (zg I.lt hb),I.nofs hb,.inr (zk I.sz hb),fun x c e z=>?_,fun p hp z=>?_⟩
 ·obtain ⟨v,q⟩:=I.cell x c e
  exact absurd (zg q.lt (by rw [z];exact hb)) (yr _)
 ·exact absurd (zg (zo (I.pin p hp).1) (by rw [z];exact hb)) (yr _)
structure Turn (P:Program) (w:World) (K:Zi) (tg:Expr) (J:It) (fp:Zg) (it:Addr) (tn:Nat->Heap->Prop):Prop where
 mem:it∈fp
 obj:∀ i h,tn i h->∀ b∈fp,∃ o,h.get? b=some o/\∀ v,o.data ≠ .cell v
 keep:∀ i h h',tn i h->(∀ b∈fp,∀ o,h.get? b=some o->h'.get? b=some o)->tn i h'
 item:∀ (X:Cx),X.prog=P->X.w=w->X.K=K->X.calm=true->∀ (i:Nat) (pins:Zk) (s:Shared) (σ:St) (H:Hp) (E:Zt),Inv X pins σ H s->(∀ b∈fp,ip X pins H b)->tn i s.heap->J.go i H →
  wpAny (model P w) X.A (pyNext (.ref it)) (fun r s1=>∃ u,r=some u ∧
   wpAny (model P w) X.A (letOwnedTupleGo tg (.ref it) u) (fun _ s2=>∃ x H',Inv X pins σ H' s2/\RelV x u/\J.yld i H x H'/\tn (i+1) s2.heap/\∀ b∈fp,H' b=none) E s1) E s
 done:∀ (X:Cx),X.prog=P->X.w=w->X.K=K->X.calm=true->∀ (i:Nat) (pins:Zk) (s:Shared) (σ:St) (H:Hp) (E:Zt),Inv X pins σ H s->(∀ b∈fp,ip X pins H b)->tn i s.heap->J.stop i H →
  wpAny (model P w) X.A (pyNext (.ref it)) (fun r s1=>r=none/\Inv X pins σ H s1) E s
 self:∀ (A:Around) (i:Nat) (s:Shared) (Q:Zt) (E:Zt),tn i s.heap->Q (.ref it) s->wpAny (model P w) A (pyIter (.ref it)) Q E s
noncomputable abbrev TI:=St->Hp->(It->Hp->Prop)->Prop
noncomputable def PIE (X:Cx) (pins:Zk) (σ:St) (tg:Expr) (R:It->Hp->Prop) (itv:Value) (s2:Shared):Prop :=
 ∃ (it:Addr) (fp:Zg) (tn:Nat->Heap->Prop) (J:It) (H':Hp),itv=.ref it/\Inv X pins σ H' s2/\Turn X.prog X.w X.K tg J fp it tn/\tn 0 s2.heap/\(∀ b∈fp,ip X pins H' b)/\R J H'
noncomputable def PI (X:Cx) (tg iter:Expr) (wi:TI):Prop :=
 ∀ (pins:Zk) (s:Shared) (σ:St) (H:Hp) (R:It->Hp->Prop),Inv X pins σ H s->wi σ H R →
  wpAny (model X.prog X.w) X.A (eval iter X.env) (fun v s1=>wpAny (model X.prog X.w) X.A (pyIter v) (PIE X pins σ tg R) X.xe s1) X.xe s
theorem lD {M:Model} {A:Around} {E:Zt} {s:Shared} {tg:Expr} {it:Addr} {u:Value} {o:Obj} {n:String} {vs:Array Value} {Q:Unit->Shared->Prop} (ho:s.heap.get? it=some o) (hc:o.cls=.type n) (hd:o.data=.fields vs)
  (hn:["enumerate", "zip", "dict_itemiterator", "dict_reverseitemiterator", "odict_iterator", "itertools.zip_longest", "itertools.pairwise"].contains n=false) (hQ:Q () s):wpAny M A (letOwnedTupleGo tg (.ref it) u) Q E s:=by
 unfold letOwnedTupleGo
 cases tg <;> first
  | exact zf hQ
  | (cases u <;> first
    | exact zf hQ
    | (refine zu (wpAny_load ho ?_)
       rw [hc,hd]
       show wpAny M A (if (["enumerate", "zip", "dict_itemiterator", "dict_reverseitemiterator", "odict_iterator", "itertools.zip_longest", "itertools.pairwise"].contains n && vs[0]? == some (rawInt _))=true then _ else _) Q E s
       rw [if_neg (by intro h;rw [hn,x3] at h;cases h)]
       exact zf hQ))
noncomputable def Itl (K:Zi) (a:Addr):It :=
 ⟨fun i H=>∃ xs x,SqL K H a xs/\xs[i]?=some x,fun i H x H'=>H'=H/\∀ xs,SqL K H a xs->xs[i]?=some x,fun i H=>∃ xs,SqL K H a xs/\xs.length<=i⟩
noncomputable def Itt (K:Zi) (a:Addr):It :=
 ⟨fun i H=>∃ xs x,SqT K H a xs/\xs[i]?=some x,fun i H x H'=>H'=H/\∀ xs,SqT K H a xs->xs[i]?=some x,fun i H=>∃ xs,SqT K H a xs/\xs.length<=i⟩
noncomputable def Itr (lo:Int) (n:Nat):It:=⟨fun i _=>i < n,fun i H x H'=>H'=H/\x=.int (lo+i),fun i _=>n<=i⟩
theorem md {P:Program} {w:World} {K:Zi} {tg:Expr} (a it:Addr):Turn P w K tg (Itl K a) [it] it (fun i h=>h.IsListIter it a i) where
 mem:=by simp
 obj:=fun i h st b hb=>by
  have e:b=it:=by simpa using hb
  subst e
  obtain ⟨o,e,c,d⟩:=st
  exact ⟨o,e,fun v z=>by rw [d] at z;cases z⟩
 keep:=fun i h h' st k=>st.at fun o e=>k it (by simp) o e
 item:=by
  intro X hP hw hK hc i pins s σ H E I hf st hg
  subst hP hw hK
  obtain ⟨xs,x,hq,hx⟩:=hg
  obtain ⟨its,rv,p,hz⟩:=I.list hq
  obtain ⟨u,hu,ru⟩:=rv.get hx
  obtain ⟨f0,f1,f2,f3,f4,f5⟩:=hf it (by simp)
  refine wpAny_pyNext_list_item st p.isList (x:=u) (by simpa using hu) fun h' st' sb=>?_
  have I1:Inv X pins σ H { s with heap:=h' }:=I.turned (t':=s.toks) (fun b o hb e=>(sb.2 b hb).trans e) f0 f1 f3 f4 f5
  obtain ⟨o,e,c,d⟩:=id st'
  exact ⟨u,rfl,lD (s:={ s with heap:=h' }) e c d (by decide) ⟨x,H,I1,ru,⟨rfl,fun ys hy=>by rw [I.list_inj hy hq];exact hx⟩,st',fun b hb=>(hf b hb).1⟩⟩
 done:=by
  intro X hP hw hK hc i pins s σ H E I hf st hg
  subst hP hw hK
  obtain ⟨xs,hq,hx⟩:=hg
  obtain ⟨its,rv,p,hz⟩:=I.list hq
  obtain ⟨f0,f1,f2,f3,f4,f5⟩:=hf it (by simp)
  have hl:=rv.length
  exact wpAny_pyNext_list_end (I.ok.hd hc) st p.isList (by simp;lia) fun h' eb=>⟨rfl,I.turned (t':=s.toks) (fun b o hb e=>eb b o hb e) f0 f1 f3 f4 f5⟩
 self:=fun _ _ _ _ _ st h=>wpAny_pyIter_listiter st h
theorem kj {P:Program} {w:World} {K:Zi} {tg:Expr} (a it:Addr):Turn P w K tg (Itt K a) [it] it (fun i h=>h.IsTupleIter it a i) where
 mem:=by simp
 obj:=fun i h st b hb=>by
  have e:b=it:=by simpa using hb
  subst e
  obtain ⟨o,e,c,d⟩:=st
  exact ⟨o,e,fun v z=>by rw [d] at z;cases z⟩
 keep:=fun i h h' st k=>st.at fun o e=>k it (by simp) o e
 item:=by
  intro X hP hw hK hc i pins s σ H E I hf st hg
  subst hP hw hK
  obtain ⟨xs,x,hq,hx⟩:=hg
  obtain ⟨its,rv,p,hz⟩:=I.tuple hq
  obtain ⟨u,hu,ru⟩:=rv.get hx
  obtain ⟨f0,f1,f2,f3,f4,f5⟩:=hf it (by simp)
  refine wpAny_pyNext_tuple_item st (show s.heap.IsTuple a its.toArray from p) (x:=u) (by simpa using hu) fun h' st' sb=>?_
  have I1:Inv X pins σ H { s with heap:=h' }:=I.turned (t':=s.toks) (fun b o hb e=>(sb.2 b hb).trans e) f0 f1 f3 f4 f5
  obtain ⟨o,e,c,d⟩:=id st'
  exact ⟨u,rfl,lD (s:={ s with heap:=h' }) e c d (by decide) ⟨x,H,I1,ru,⟨rfl,fun ys hy=>by rw [I.tuple_inj hy hq];exact hx⟩,st',fun b hb=>(hf b hb).1⟩⟩
 done:=by
  intro X hP hw hK hc i pins s σ H E I hf st hg
  subst hP hw hK
  obtain ⟨xs,hq,hx⟩:=hg
  obtain ⟨its,rv,p,hz⟩:=I.tuple hq
  obtain ⟨f0,f1,f2,f3,f4,f5⟩:=hf it (by simp)
  have hl:=rv.length
  exact wpAny_pyNext_tuple_end (I.ok.hd hc) st (show s.heap.IsTuple a its.toArray from p) (by simp;lia) fun h' eb=>⟨rfl,I.turned (t':=s.toks) (fun b o hb e=>eb b o hb e) f0 f1 f3 f4 f5⟩
 self:=fun _ _ _ _ _ st h=>wpAny_pyIter_tupleiter st h
theorem kT {P:Program} {w:World} {K:Zi} {tg:Expr} (it:Addr) (lo:Int) (n:Nat):Turn P w K tg (Itr lo n) [it] it (fun i h=>IsRangeIter h it (lo+(i:Nat) * 1) ((n:Int) - (i:Nat)) 1) where
 mem:=by simp
 obj:=fun i h st b hb=>by
  have e:b=it:=by simpa using hb
  subst e
  exact ⟨_,st,fun v z=>by
   have z':Data.fields _=Data.cell v:=z
   cases z'⟩
 keep:=fun i h h' st k=>k it (by simp) _ st
 item:=by
  intro X hP hw hK hc i pins s σ H E I hf st hg
  subst hP hw hK
  obtain ⟨f0,f1,f2,f3,f4,f5⟩:=hf it (by simp)
  have W:=Walks.range (prog:=X.prog) (w:=X.w) (I.ok.hd hc) it lo 1 n
  refine W.item i s _ _ hg st fun v h' tk hv st' kk=>?_
  obtain ⟨t,rfl⟩:=hv
  have I1:Inv X pins σ H { s with heap:=h',toks:=tk }:=I.turned (fun b o hb e=>kk b o (by simpa using hb) e) f0 f1 f3 f4 f5
  refine ⟨_,rfl,lD (s:={ s with heap:=h',toks:=tk }) (n := "range_iterator") st' rfl rfl (by decide) ⟨.int (lo+i),H,I1,⟨t,?_⟩,⟨rfl,rfl⟩,st',fun b hb=>(hf b hb).1⟩⟩
  rw [Int.mul_one]
 done:=by
  intro X hP hw hK hc i pins s σ H E I hf st hg
  subst hP hw hK
  obtain ⟨f0,f1,f2,f3,f4,f5⟩:=hf it (by simp)
  exact wpAny_pyNext_range_end (I.ok.hd hc) st (by have:n<=i:=hg;lia) fun h' eb=>⟨rfl,I.turned (t':=s.toks) (fun b o hb e=>eb b o hb e) f0 f1 f3 f4 f5⟩
 self:=fun _ _ _ _ _ st h=>wpAny_pyIter_rangeiter st h
section
variable {X:Cx} {tg:Expr}
theorem nJ {pins:Zk} {σ:St} {H:Hp} {s:Shared} {R:It->Hp->Prop} {E:Zt} {lo hi:Int} {t u v:Tok} {tk:Nat} (I:Inv X pins σ H s) (h1:-(2 ^ 62)<=lo) (h2:lo < 2 ^ 62) (h3:-(2 ^ 62)<=hi) (h4:hi < 2 ^ 62)
  (q:R (Itr lo (hi - lo).toNat) H):wpAny (model X.prog X.w) X.A (pyIter (.ref s.heap.objs.size)) (PIE X pins σ tg R) E { s with heap:=s.heap.push { cls:=.type "range",data:=.fields #[.int lo t,.int hi u,.int 1 v] },toks:=tk }:=by
 refine wpAny_pyIter_range (IsRange.new ..) (small_one h1 h2 h3 h4) ?_
 have I1:Inv X pins σ H { s with heap:=s.heap.push { cls:=.type "range",data:=.fields #[.int lo t,.int hi u,.int 1 v] },toks:=tk }:=I.kept fun b o e=>zr _ e
 refine ⟨(s.heap.push { cls:=.type "range",data:=.fields #[.int lo t,.int hi u,.int 1 v] }).objs.size,[(s.heap.push { cls:=.type "range",data:=.fields #[.int lo t,.int hi u,.int 1 v] }).objs.size],_,_,H,rfl,
  I1.kept (t':=tk) fun b o e=>zr _ e,kT _ lo (hi - lo).toNat,?_,fun b hb=>?_,q⟩
 ·have e1:lo+((0:Nat):Int) * 1=lo:=by simp
  have e2:(((hi - lo).toNat:Nat):Int) - ((0:Nat):Int)=Builtin.Range.rangeSize lo hi 1:=by rw [rangeSize_one];split <;> lia
  show IsRangeIter _ _ (lo+((0:Nat):Int) * 1) ((((hi - lo).toNat:Nat):Int) - ((0:Nat):Int)) 1
  rw [e1,e2]
  exact za _ rfl
 ·have e:b=(s.heap.push { cls:=.type "range",data:=.fields #[.int lo t,.int hi u,.int 1 v] }).objs.size:=by simpa using hb
  subst e
  exact I1.fpOk (zm _) (I1.hok.fresh (zm _))
noncomputable def wK (ta:TA):TI:=fun σ H R=>ta σ H fun vs H1=>∃ j:Int,vs=[.int j]/\-(2 ^ 62)<=j/\j < 2 ^ 62/\R (Itr 0 j.toNat) H1
theorem mf {a:Expr} {ta:TA} {p pos:Pos} (hg:Gl X "range") (hm:X.mg "range" = none) (ha:PA X [a] ta) (hs:starEach [a] X.env=[(false,eval a X.env)]:=by rfl):PI X tg (.Call (.Name "range" p) [a] [] pos) (wK ta):=by
 intro pins s σ H R I h
 refine Call_ (jq I hg hm boot_range (PyProof.Rows.callWith_type1 (thn (ha pos pins s σ H _ I h) fun us s1 ⟨vs,H1,I1,r1,q1⟩=>?_) hs rfl))
 obtain ⟨j,e,q1,q2,q⟩:=q1
 subst e
 cases r1 with
 | cons r rr =>
  cases rr
  obtain ⟨t,rfl⟩:=r
  exact call_range_1 (nJ I1 (by lia) (by lia) q1 q2 (by simpa using q))
noncomputable def xq (wi:TI) (g:TG) (tb:TS):TS:=fun D σ H=>wi σ H fun J H1=>∃ W:Nat->Nat->St->Hp->Prop,(∃ m,W 0 m σ H1)/\∀ i m σ H,W i m σ H →
 (J.stop i H/\D.nx σ H)\/(J.go i H/\∃ N:St->Hp->Prop,(∀ σ' H',N σ' H'->∃ m',m' < m/\W (i+1) m' σ' H')/\∀ x H',J.yld i H x H'->g x σ H' fun σ2 H2=>tb { D with nx:=N,ct:=N,bk:=D.nx } σ2 H2)
noncomputable def gX (fp:Zg) (h:Heap):Zk:=fp.filterMap fun b=>(h.get? b).map fun o=>(b,o)
theorem eB {fp:Zg} {h:Heap} {b:Addr} {o:Obj} (hb:b∈fp) (e:h.get? b=some o):(b,o)∈gX fp h:=List.mem_filterMap.mpr ⟨b,hb,by rw [e];rfl⟩
theorem mR {fp:Zg} {h:Heap} {p:Addr×Obj} (hp:p∈gX fp h):p.1∈fp/\h.get? p.1=some p.2:=by
 obtain ⟨b,hb,e⟩:=List.mem_filterMap.mp hp
 cases q:h.get? b with
 | none=>rw [q] at e;cases e
 | some o =>
  rw [q] at e
  have e':(b,o)=p:=zU e
  subst e'
  exact ⟨hb,q⟩
theorem Inv.pinned {pins:Zk} {σ:St} {H:Hp} {s:Shared} {fp:Zg} (I:Inv X pins σ H s) (hf:∀ b∈fp,ip X pins H b) (ho:∀ b∈fp,∃ o,s.heap.get? b=some o/\∀ v,o.data ≠ .cell v):Inv X (pins++gX fp s.heap) σ H s :=
 I.pins_of fun p hp=>(zT.mp hp).elim (fun z=>I.pin p (zV _ z)) fun z=>by
  obtain ⟨hb,e⟩:=mR z
  obtain ⟨f0,f1,f2,_⟩:=hf p.1 hb
  obtain ⟨o,e',d⟩:=ho p.1 hb
  rw [e] at e';cases e'
  exact ⟨e,f0,f1,f2,d⟩
theorem Inv.unpinned {pins pl:Zk} {σ:St} {H:Hp} {s:Shared} (I:Inv X (pins++pl) σ H s):Inv X pins σ H s:=I.pins_of fun p hp=>I.pin p (zV _ (zB _ hp))
theorem t8 {iter:Expr} {body:List Stmt} {wi:TI} {g:TG} {tb:TS} {pos:Pos} (hp:PassesOwn (model X.prog X.w) X.A X.env X.xe) (hc:X.calm=true) (hi:PI X tg iter wi) (hg:PG X tg g) (hb:PSs X body tb)
  (hs:∀ x,foldedSetIterable iter X.env x=pure x:=by intro _;rfl):PS X (.For tg iter body [] pos) (xq wi g tb):=by
 intro pins s σ H D I h
 refine wpAny_For (thn (hi pins s σ H _ I h) fun v s1 h1=>thn h1 fun itv s2 h2=>?_) hs
 obtain ⟨it,fp,tn,J,H2,e,I2,T,st2,f2,W,⟨m0,w0⟩,turn⟩:=h2
 subst e
 have stat:∀ {H':Hp},(∀ b∈fp,H' b=none)->∀ b∈fp,ip X pins H' b:=fun hn b hb=>⟨hn b hb,(f2 b hb).2⟩
 refine codeAny_forLoop_any (fun n s'=>∃ i σ' H',Inv X pins σ' H' s'/\tn i s'.heap/\(∀ b∈fp,H' b=none)/\W i n σ' H') ?_ m0 ⟨0,σ,H2,I2,st2,fun b hb=>(f2 b hb).1,w0⟩
 rintro n s3 ⟨i,σ3,H3,I3,st3,fr3,w3⟩
 rcases turn i n σ3 H3 w3 with ⟨stop,qn⟩ | ⟨go,N,hN,step⟩
 ·refine yK hp (thn (T.done X rfl rfl rfl hc i pins s3 σ3 H3 X.xe I3 (stat fr3) st3 stop) fun r s4 ⟨hr,I4⟩=>?_)
  subst hr
  exact yJ ⟨σ3,H3,I4,qn⟩
 ·refine yK hp (thn (T.item X rfl rfl rfl hc i pins s3 σ3 H3 X.xe I3 (stat fr3) st3 go) fun r s4 ⟨u,hr,h4⟩=>?_)
  subst hr
  refine yK hp (thn h4 fun _ s5 ⟨x,H5,I5,r5,y5,st5,fr5⟩=>?_)
  have I5':=I5.pinned (stat fr5) (T.obj _ _ st5)
  refine yK hp (thn (hg _ s5 σ3 H5 x u _ I5' r5 (step x H5 y5)) fun _ s6 ⟨σ6,H6,I6,q6⟩=>?_)
  refine yK hp (thn (hb _ s6 σ6 H6 _ I6 q6) fun f s7 q7=>?_)
  have again:∀ {σ7:St} {H7:Hp},Inv X (pins++gX fp s5.heap) σ7 H7 s7->N σ7 H7->∃ m,m < n/\∃ i σ' H',Inv X pins σ' H' s7/\tn i s7.heap/\(∀ b∈fp,H' b=none)/\W i m σ' H':=fun {σ7 H7} I7 n7=>by
   obtain ⟨m',hm,w7⟩:=hN σ7 H7 n7
   refine ⟨m',hm,i+1,σ7,H7,I7.unpinned,T.keep _ _ _ st5 fun b hb o e=>(I7.pin (b,o) (zV _ (zV _ (eB hb e)))).1,fun b hb=>?_,w7⟩
   obtain ⟨o,e,d⟩:=T.obj _ _ st5 b hb
   exact (I7.pin (b,o) (zV _ (zV _ (eB hb e)))).2.1
  cases f with
  | next=>obtain ⟨σ7,H7,I7,n7⟩:=q7;exact again I7 n7
  | cont=>obtain ⟨σ7,H7,I7,n7⟩:=q7;exact again I7 n7
  | brk=>obtain ⟨σ7,H7,I7,q7⟩:=q7;exact ⟨σ7,H7,I7.unpinned,q7⟩
  | ret v=>obtain ⟨x7,σ7,H7,I7,r7,q7⟩:=q7;exact ⟨x7,σ7,H7,I7.unpinned,r7,q7⟩
end
noncomputable abbrev R2:=V->V->Hp->VK->Prop
noncomputable def OpR (X:Cx) (f:Value->Value->Sem Value) (r:R2):Prop :=
 ∀ (pins:Zk) (s:Shared) (σ:St) (H:Hp) (x y:V) (v u:Value) (Q:VK),Inv X pins σ H s->RelV x v->RelV y u->r x y H Q →
  wpAny (model X.prog X.w) X.A (f v u) (EP X pins σ Q) X.xe s
noncomputable def cG (X:Cx) (f:Value) (r:List V->Hp->VK->Prop):Prop :=
 ∀ (pins:Zk) (s:Shared) (σ:St) (H:Hp) (xs:List V) (us:Zf) (Q:VK),Inv X pins σ H s->aW xs us->r xs H Q →
  wpAny (model X.prog X.w) X.A (call f us) (EP X pins σ Q) X.xe s
noncomputable def xo (X:Cx) (r:V->Hp->(Bool->Hp->Prop)->Prop):Prop :=
 ∀ (pins:Zk) (s:Shared) (σ:St) (H:Hp) (x:V) (v:Value) (Q:Bool->Hp->Prop),Inv X pins σ H s->RelV x v->r x H Q →
  wpAny (model X.prog X.w) X.A (truthy v) (TP X pins σ Q) X.xe s
noncomputable def tOp (r:R2) (ta tb:TE):TE:=fun σ H Q=>ta σ H fun x H1=>tb σ H1 fun y H2=>r x y H2 Q
noncomputable def rI (C:Int->Int->Prop) (g:Int->Int->V):R2:=fun x y H Q=>∃ i j,x=.int i/\y=.int j/\C i j/\Q (g i j) H
noncomputable def rI0 (g:Int->Int->V):R2:=fun x y H Q=>∃ i j,x=.int i/\y=.int j/\Q (g i j) H
section
variable {X:Cx} {a b c:Expr} {ta tb tc:TE} {pos:Pos}
theorem t2 (ha:PE X a ta) (hb:PE X b tb) {pins:Zk} {s:Shared} {σ:St} {H:Hp} {R:V->V->Hp->Prop} (I:Inv X pins σ H s)
  (h:ta σ H fun x H1=>tb σ H1 fun y H2=>R x y H2) {Q:Zt} {f:Value->Value->Sem Value}
  (hf:∀ v u s2 x y H2,Inv X pins σ H2 s2->RelV x v->RelV y u->R x y H2->wpAny (model X.prog X.w) X.A (f v u) Q X.xe s2) :
  wpAny (model X.prog X.w) X.A (eval a X.env) (fun v s₁=>wpAny (model X.prog X.w) X.A (eval b X.env) (fun u s₂=>wpAny (model X.prog X.w) X.A (f v u) Q X.xe s₂) X.xe s₁) X.xe s:=by
 refine thn (ha pins s σ H _ I h) fun v s1 ⟨x,H1,I1,r1,q1⟩=>?_
 refine thn (hb pins s1 σ H1 _ I1 q1) fun u s2 ⟨y,H2,I2,r2,q2⟩=>?_
 exact hf v u s2 x y H2 I2 r1 r2 q2
theorem vt {op:Operator} {r:R2} (ho:OpR X (binaryOp op) r) (ha:PE X a ta) (hb:PE X b tb):PE X (.BinOp a op b pos) (tOp r ta tb):=by
 intro pins s σ H Q I h
 exact wpAny_BinOp (t2 ha hb I h fun v u s2 x y H2 I2 rx ry q=>ho pins s2 σ H2 x y v u Q I2 rx ry q)
theorem opI {f:Value->Value->Sem Value} {C:Int->Int->Prop} {g:Int->Int->Int}
  (rule:∀ (i j:Int) (t u:Tok) (s:Shared) (Q:Zt) (E:Zt),C i j->Q (.int (g i j) s.toks) { s with toks:=s.toks+1 }->wpAny (model X.prog X.w) X.A (f (.int i t) (.int j u)) Q E s) :
  OpR X f (rI C fun i j=>.int (g i j)):=by
 intro pins s σ H x y v u Q I rx ry h
 obtain ⟨i,j,rfl,rfl,hc,q⟩:=h
 obtain ⟨t,rfl⟩:=rx
 obtain ⟨t',rfl⟩:=ry
 exact rule i j t t' s _ _ hc ⟨.int (g i j),H,I.tok _,⟨_,rfl⟩,q⟩
theorem wC {f:Value->Value->Sem Value} {g:Int->Int->Int}
  (rule:∀ (i j:Int) (t u:Tok) (s:Shared) (Q:Zt) (E:Zt),Q (.int (g i j) s.toks) { s with toks:=s.toks+1 }->wpAny (model X.prog X.w) X.A (f (.int i t) (.int j u)) Q E s) :
  OpR X f (rI0 fun i j=>.int (g i j)):=by
 intro pins s σ H x y v u Q I rx ry h
 obtain ⟨i,j,rfl,rfl,q⟩:=h
 obtain ⟨t,rfl⟩:=rx
 obtain ⟨t',rfl⟩:=ry
 exact rule i j t t' s _ _ ⟨.int (g i j),H,I.tok _,⟨_,rfl⟩,q⟩
theorem tm {f:Value->Value->Sem Value} {g:Int->Int->Bool}
  (rule:∀ (i j:Int) (t u:Tok) (s:Shared) (Q:Zt) (E:Zt),Q (.bool (g i j)) s->wpAny (model X.prog X.w) X.A (f (.int i t) (.int j u)) Q E s) :
  OpR X f (rI0 fun i j=>.bl (g i j)):=by
 intro pins s σ H x y v u Q I rx ry h
 obtain ⟨i,j,rfl,rfl,q⟩:=h
 obtain ⟨t,rfl⟩:=rx
 obtain ⟨t',rfl⟩:=ry
 exact rule i j t t' s _ _ ⟨.bl (g i j),H,I,rfl,q⟩
noncomputable def wm (i j:Int):Prop:=0 < j/\j < 1073741824
noncomputable def pH (i j:Int):Prop:=(-(2 ^ 64) < i/\i < 2 ^ 64)\/(-(2 ^ 64) < j/\j < 2 ^ 64)
theorem pH.ok {i j:Int} (h:pH i j):IntMulOk i j:=by
 rcases h with ⟨h1,h2⟩ | ⟨h1,h2⟩
 ·exact .of_left (intBits_le_64 h1 h2)
 ·exact .of_right (intBits_le_64 h1 h2)
theorem t5:OpR X (binaryOp .Add) (rI0 fun i j=>.int (i+j)):=wC fun _ _ _ _ _ _ _ q=>add_int q
theorem sP:OpR X (binaryOp .Sub) (rI0 fun i j=>.int (i - j)):=wC fun _ _ _ _ _ _ _ q=>sub_int q
theorem so:OpR X (binaryOp .Mult) (rI pH fun i j=>.int (i * j)):=opI fun _ _ _ _ _ _ _ hc q=>mul_int q hc.ok
theorem qN:OpR X (binaryOp .FloorDiv) (rI wm fun i j=>.int (i / j)):=opI fun i j _ _ _ _ _ hc q=>by
 have h1:(0:Int) < j:=hc.1
 have h2:j < 1073741824:=hc.2
 exact floordiv_int (by lia) (by rw [Int.fdiv_eq_ediv_of_nonneg i (by lia)];exact q) (.inl (PyProof.noPylong_small (by omega)))
theorem uG:OpR X (binaryOp .Mod) (rI (fun _ j=>0 < j) fun i j=>.int (i % j)):=opI fun i j _ _ _ _ _ hc q=>by
 have h1:(0:Int) < j:=hc
 exact mod_int' (by lia) (by rw [Int.fmod_eq_emod_of_nonneg i (by lia)];exact q)
end
section
variable {X:Cx} {a b c:Expr} {ta tb tc:TE} {pos:Pos}
theorem uM {pins:Zk} {σ:St} {H:Hp} {s:Shared} {Q:VK} {k k':Bool} (I:Inv X pins σ H s) (q:Q (.bl k) H) (e:k=k'):EP X pins σ Q (.bool k') s:=by
 subst e
 exact ⟨.bl k,H,I,rfl,q⟩
theorem vW:OpR X (compareOp .Lt) (rI0 fun i j=>.bl (decide (i < j))):=tm fun _ _ _ _ _ _ _ q=>lt_int q
theorem wH:OpR X (compareOp .LtE) (rI0 fun i j=>.bl (decide (i<=j))):=tm fun _ _ _ _ _ _ _ q=>le_int q
theorem vw:OpR X (compareOp .Gt) (rI0 fun i j=>.bl (decide (j < i))):=tm fun _ _ _ _ _ _ _ q=>gt_int q
theorem mM:OpR X (compareOp .Lt) (fun x y H Q=>∃ i j,x=.str i/\y=.str j/\Q (.bl (decide (i.cps.toList < j.cps.toList))) H):=by
 intro pins s σ H x y v u Q I rx ry h
 obtain ⟨i,j,rfl,rfl,q⟩:=h
 obtain ⟨t,rfl⟩:=rx
 obtain ⟨t',rfl⟩:=ry
 exact lt_str (uM I q rfl)
noncomputable def isObj:HO->Bool
 | .lst _=>true
 | .ins _ _ _=>true
 | _=>false
theorem iK {pins:Zk} {s:Shared} {σ:St} {H:Hp} {a:Addr} {o:HO} (I:Inv X pins σ H s) (h:H a=some o) (p:isObj o=true):∃ ob,s.heap.get? a=some ob/\ob.cls ≠ .type "tuple" := by
 cases o with
 | lst xs =>
  obtain ⟨_,its,n,_,e⟩:xs.length<=sizeLine/\∃ (its:Zf) (n:Nat),aW xs its/\s.heap.get? a=some { cls:=.type "list",data:=.seq its.toArray n }:=I.hok a _ h
  exact ⟨_,e,(by show Value.type "list" ≠ .type "tuple";decide +kernel)⟩
 | ins C dx fs =>
  have x:=I.hok a _ h
  obtain ⟨_,_,_,e,_⟩:=x
  exact ⟨_,e,(by show Value.ref C ≠ .type "tuple";exact fun z=>by cases z)⟩
 | _=>exact absurd (show false=true from p) zh
theorem OpR.or {f:Value->Value->Sem Value} {r r':R2} (h:OpR X f r) (h':OpR X f r'):OpR X f (fun x y H Q=>r x y H Q\/r' x y H Q):=by
 intro pins s σ H x y v u Q I rx ry q
 rcases q with q | q
 ·exact h pins s σ H x y v u Q I rx ry q
 ·exact h' pins s σ H x y v u Q I rx ry q
theorem fk (b:Expr) {op:CmpOp} (h:op ≠ .In:=by decide) (h2:op ≠ .NotIn:=by decide):behindInMarks op b=false:=by
 have e1:(op == CmpOp.In)=false:=by cases op <;> first | rfl | exact absurd rfl h
 have e2:(op == CmpOp.NotIn)=false:=by cases op <;> first | rfl | exact absurd rfl h2
 cases b <;> simp [behindInMarks,e1,e2]
theorem qr {op:CmpOp} {r:R2} (ho:OpR X (compareOp op) r) (ha:PE X a ta) (hb:PE X b tb) (hm:behindInMarks op b=false):PE X (.Compare a [op] [b] pos) (tOp r ta tb):=by
 intro pins s σ H Q I h
 exact wpAny_Compare1 (t2 ha hb I h fun v u s2 x y H2 I2 rx ry q=>ho pins s2 σ H2 x y v u Q I2 rx ry q) hm
noncomputable def rH (t:TE):TT:=fun σ H Q=>t σ H fun x H'=>∃ k,x=.bl k/\Q k H'
theorem pX {op:CmpOp} {r:R2} (ho:OpR X (compareOp op) r) (ha:PE X a ta) (hb:PE X b tb) (hm:behindInMarks op b=false):PT X (.Compare a [op] [b] pos) (rH (tOp r ta tb)):=by
 intro pins s σ H Q I h
 refine wpAny_isTrue_Compare1 (thn (ha pins s σ H _ I h) fun v s1 ⟨x,H1,I1,r1,q1⟩=>thn (hb pins s1 σ H1 _ I1 q1) fun u s2 ⟨y,H2,I2,r2,q2⟩ =>
  thn (ho pins s2 σ H2 x y v u _ I2 r1 r2 q2) fun c s3 ⟨z,H3,I3,r3,k,e,q3⟩=>?_) hm
 subst e
 cases r3
 exact z8 ⟨H3,I3,q3⟩
noncomputable def nQ (r r':R2) (ta tb tc:TE):TE:=fun σ H Q=>ta σ H fun x H1=>tb σ H1 fun y H2=>r x y H2 fun z H3=>∃ k,z=.bl k ∧
 (if k=true then tc σ H3 fun w' H4=>r' y w' H4 Q else Q (.bl false) H3)
theorem nZ {op op':CmpOp} {r r':R2} (ho:OpR X (compareOp op) r) (ho':OpR X (compareOp op') r') (ha:PE X a ta) (hb:PE X b tb) (hc:PE X c tc)
  (hm:lastMarks [op,op'] [b,c]=false:=by with_unfolding_all rfl):PE X (.Compare a [op,op'] [b,c] pos) (nQ r r' ta tb tc):=by
 intro pins s σ H Q I h
 refine Compare_chain (thn (ha pins s σ H _ I h) fun v s1 ⟨x,H1,I1,r1,q1⟩=>chain_link (thn (hb pins s1 σ H1 _ I1 q1) fun u s2 ⟨y,H2,I2,r2,q2⟩ =>
  thn (ho pins s2 σ H2 x y v u _ I2 r1 r2 q2) fun d s3 ⟨z,H3,I3,r3,k,e,q3⟩=>?_)) hm
 subst e
 cases r3
 refine z8 ?_
 cases k with
 | false=>exact ite_ff ⟨.bl false,H3,I3,rfl,q3⟩
 | true=>exact ite_tt (chain_last (thn (hc pins s3 σ H3 _ I3 q3) fun w' s4 ⟨z',H4,I4,r4,q4⟩=>ho' pins s4 σ H4 y z' u w' Q I4 r2 r4 q4))
noncomputable def sU (K:Zi) (x:V) (H:Hp) (k:Bool):Prop :=
 match x with
 | .non=>k=false
 | .bl b=>k=b
 | .int i=>k=(i != 0)
 | .str y=>y.length<=sizeLine/\k=((y.length:Int) != 0)
 | .byt y=>y.size<=sizeLine/\k=((y.size:Int) != 0)
 | .ref p=>(∃ xs,SqL K H p xs/\k=!xs.isEmpty)\/(∃ xs,SqT K H p xs/\k=!xs.isEmpty)\/∃ kvs,H p=some (.dK kvs)/\k=!kvs.isEmpty
 | _=>False
theorem kg {κ:Type} {kvs:List (κ×V)} {vs:List (κ×Value)} (r:KV kvs vs):(!vs.isEmpty)=!kvs.isEmpty:=by
 cases r <;> rfl
theorem gN {xs:List V} {its:Zf} (r:aW xs its):(!its.toArray.isEmpty)=!xs.isEmpty:=by
 cases r <;> simp
theorem ib:(sizeLine:Nat) < 2 ^ 63:=by rw [yV];decide
theorem su:xo X (fun x H Q=>∃ k,sU X.K x H k/\Q k H):=by
 intro pins s σ H x v Q I rx h
 obtain ⟨k,e,q⟩:=h
 have hl:=ib
 have hs:sizeLine=16777216:=yV
 cases x with
 | non =>
  cases rx
  have e':k=false:=e
  subst e'
  exact truthy_none ⟨H,I,q⟩
 | bl b =>
  cases rx
  have e':k=b:=e
  subst e'
  exact z8 ⟨H,I,q⟩
 | int i =>
  obtain ⟨t,rfl⟩:=rx
  have e':k=(i != 0):=e
  subst e'
  exact PySem.P.truthy_int ⟨H,I,q⟩
 | str y =>
  obtain ⟨t,rfl⟩:=rx
  obtain ⟨hy,e'⟩:y.length<=sizeLine/\k=((y.length:Int) != 0):=e
  subst e'
  exact PySem.P.truthy_str (by lia) ⟨H,I.tok _,q⟩
 | byt y =>
  obtain ⟨t,rfl⟩:=rx
  obtain ⟨hy,e'⟩:y.size<=sizeLine/\k=((y.size:Int) != 0):=e
  subst e'
  exact PySem.W.truthy_bytes (by lia) ⟨H,I.tok _,q⟩
 | ref p =>
  cases rx
  have e':(∃ xs,SqL X.K H p xs/\k=!xs.isEmpty)\/(∃ xs,SqT X.K H p xs/\k=!xs.isEmpty)\/∃ kvs,H p=some (.dK kvs)/\k=!kvs.isEmpty:=e
  rcases e' with ⟨xs,hx,e'⟩ | ⟨xs,hx,e'⟩ | ⟨kvs,hx,e'⟩
  ·subst e'
   obtain ⟨its,r,pl,hz⟩:=I.list hx
   have hlen:=r.length
   exact wpAny_truthy_list pl.isList (by simp only [zd];lia) ⟨H,I.tok _,by rw [gN r];exact q⟩
  ·subst e'
   obtain ⟨its,r,pl,hz⟩:=I.tuple hx
   have hlen:=r.length
   exact truthy_tuple pl (by simp only [zd];lia) ⟨H,I.tok _,by rw [gN r];exact q⟩
  ·subst e'
   obtain ⟨hz,hS,vs,r,m⟩:kvs.length<=sizeLine/\(p == sysModules)=false/\∃ vs,KV kvs vs/\s.heap.DictOf (gG X.prog X.w) p vs:=I.hok p _ hx
   have hlen:kvs.length=vs.length:=Paired.length r
   exact wpAny_truthy_dict hS m (by lia) ⟨H,I.tok _,by rw [kg r];exact q⟩
 | _=>exact (show False from e).elim
theorem oH (ha:PE X a ta) (he:∀ whole,isTrue a X.env whole=(do let v ← whole;standAt a.pos;holding [v] (truthy v))) :
  PT X a (fun σ H Q=>ta σ H fun x H'=>∃ k,sU X.K x H' k/\Q k H'):=by
 intro pins s σ H Q I h
 exact isTrue_plain (thn (ha pins s σ H _ I h) fun v s1 ⟨x,H1,I1,r1,q1⟩=>su pins s1 σ H1 x v Q I1 r1 q1) (he _)
theorem ki:OpR X (binaryOp .Add) (fun x y H Q=>∃ i j,x=.str i/\y=.str j/\i.length+j.length<=sizeLine/\Q (.str (i++j)) H):=by
 intro pins s σ H x y v u Q I rx ry h
 obtain ⟨i,j,rfl,rfl,hz,q⟩:=h
 obtain ⟨t,rfl⟩:=rx
 obtain ⟨t',rfl⟩:=ry
 exact add_str (fun t' tk=>⟨.str (i++j),H,I.tok _,⟨_,rfl⟩,q⟩) hz
theorem vals1 {x:V} {us:Zf} (r:aW [x] us):∃ u,us=[u]/\RelV x u:=by
 cases r with
 | cons r1 r2=>cases r2;exact ⟨_,rfl,r1⟩
theorem vals2 {x y:V} {us:Zf} (r:aW [x,y] us):∃ u w',us=[u,w']/\RelV x u/\RelV y w':=by
 cases r with
 | cons r1 r2 =>
  cases r2 with
  | cons r3 r4=>cases r4;exact ⟨_,_,rfl,r1,r3⟩
theorem mY (hc:X.calm=true):cG X (.builtin "max") (fun xs H Q=>∃ i j,xs=[.int i,.int j]/\Q (.int (if j > i then j else i)) H):=by
 intro pins s σ H xs us Q I r h
 obtain ⟨i,j,rfl,q⟩:=h
 obtain ⟨u,w',rfl,⟨t,rfl⟩,⟨t',rfl⟩⟩:=vals2 r
 refine max_two_ints (I.ok.hd hc) fun h' tk k=>⟨_,H,I.kept k,?_,q⟩
 by_cases hj:j > i
 ·rw [zi hj,zi hj];exact ⟨_,rfl⟩
 ·rw [if_neg hj,if_neg hj];exact ⟨_,rfl⟩
theorem mL (hc:X.calm=true):cG X (.builtin "min") (fun xs H Q=>∃ i j,xs=[.int i,.int j]/\Q (.int (if j < i then j else i)) H):=by
 intro pins s σ H xs us Q I r h
 obtain ⟨i,j,rfl,q⟩:=h
 obtain ⟨u,w',rfl,⟨t,rfl⟩,⟨t',rfl⟩⟩:=vals2 r
 refine min_two_ints (I.ok.hd hc) fun h' tk k=>⟨_,H,I.kept k,?_,q⟩
 by_cases hj:j < i
 ·rw [zi hj,zi hj];exact ⟨_,rfl⟩
 ·rw [if_neg hj,if_neg hj];exact ⟨_,rfl⟩
theorem mE:cG X (.type "int") (fun xs H Q=>(∃ i,xs=[.int i]/\Q (.int i) H)\/∃ k,xs=[.bl k]/\Q (.int (if k then 1 else 0)) H):=by
 intro pins s σ H xs us Q I r h
 rcases h with ⟨i,rfl,q⟩ | ⟨k,rfl,q⟩
 ·obtain ⟨u,rfl,t,rfl⟩:=vals1 r
  exact call_int_int ⟨.int i,H,I,⟨_,rfl⟩,q⟩
 ·obtain ⟨u,rfl,r1⟩:=vals1 r
  cases r1
  exact call_int_bool ⟨.int (if k then 1 else 0),H,I.tok _,⟨_,rfl⟩,q⟩
noncomputable def vI (K:Zi) (x:V) (H:Hp) (n:Nat):Prop :=
 match x with
 | .str y=>y.length<=sizeLine/\n=y.length
 | .byt y=>y.size<=sizeLine/\n=y.size
 | .ref p=>(∃ xs,SqL K H p xs/\n=xs.length)\/∃ xs,SqT K H p xs/\n=xs.length
 | _=>False
theorem oD:cG X (.builtin "len") (fun xs H Q=>∃ x n,xs=[x]/\vI X.K x H n/\Q (.int n) H):=by
 intro pins s σ H xs us Q I r h
 obtain ⟨x,n,rfl,e,q⟩:=h
 obtain ⟨u,rfl,rx⟩:=vals1 r
 have hl:=ib
 have hs:sizeLine=16777216:=yV
 cases x with
 | str y =>
  obtain ⟨t,rfl⟩:=rx
  obtain ⟨hy,e'⟩:y.length<=sizeLine/\n=y.length:=e
  subst e'
  exact len_str (by lia) ⟨.int _,H,I.tok _,⟨_,rfl⟩,q⟩
 | byt y =>
  obtain ⟨t,rfl⟩:=rx
  obtain ⟨hy,e'⟩:y.size<=sizeLine/\n=y.size:=e
  subst e'
  exact PySem.W.len_bytes (by lia) ⟨.int _,H,I.tok _,⟨_,rfl⟩,q⟩
 | ref p =>
  cases rx
  have e':(∃ xs,SqL X.K H p xs/\n=xs.length)\/∃ xs,SqT X.K H p xs/\n=xs.length:=e
  rcases e' with ⟨xs,hx,e'⟩ | ⟨xs,hx,e'⟩
  ·subst e'
   obtain ⟨its,r',pl,hz⟩:=I.list hx
   have hlen:=r'.length
   exact Calls.call_len_list pl.isList (by simp only [zd];lia) ⟨.int xs.length,H,I.tok _,⟨_,by simp only [zd];rw [hlen]⟩,q⟩
  ·subst e'
   obtain ⟨its,r',pl,hz⟩:=I.tuple hx
   have hlen:=r'.length
   exact len_tuple pl (by simp only [zd];lia) ⟨.int xs.length,H,I.tok _,⟨_,by simp only [zd];rw [hlen]⟩,q⟩
 | _=>exact (show False from e).elim
end
structure ObjM (h:Heap) (x dx C:Addr) (mA:Zh):Prop where
 obj:h.get? x=some (PySem.W.instObj C dx)
 ns:h.Ns1 dx mA
 ne:dx ≠ x
theorem mV {h:Heap} {dx:Addr} {mA:Zh} (n:h.Ns1 dx mA):∃ od,h.get? dx=some od/\∀ name,PySem.W.lookIn name od=some (mA name):=by
 obtain ⟨o,es,ep,ho,hd,hk,_,hm⟩:=n
 refine ⟨o,ho,fun name=>?_⟩
 have e:=hm name
 unfold nsFind findBy at e
 rw [← Array.find?_toList] at e
 unfold PySem.W.lookIn
 rw [hd]
 dsimp only
 split
 ·rename_i y q
  rw [q] at e
  exact congrArg some e
 ·rename_i q
  rw [q] at e
  have a:es.toList.any (·.refKey)=false:=by
   rw [List.any_eq_false]
   intro y hy
   obtain ⟨z,t,hkey⟩:=hk y (Array.mem_toList_iff.mp hy)
   simp [DictEntry.refKey,hkey]
  have a':¬ es.toList.any (·.refKey)=true:=by rw [a];exact zh
  rw [if_neg a']
  exact congrArg some e
theorem ObjM.look {h:Heap} {x dx C:Addr} {mA:Zh} (I:ObjM h x dx C mA):∃ od,PySem.W.InstAt h x (PySem.W.instObj C dx) C (some od)/\∀ name,PySem.W.lookIn name od=some (mA name) :=
 let ⟨od,ho,hl⟩:=mV I.ns
 ⟨od,⟨I.obj,rfl,rfl,ho⟩,hl⟩
section
variable {P:Program} {w:World} {H H':Hp} {h h':Heap} {a C dx:Addr} {fs fs':List (Str×V)}
theorem rD (hok:HOk P w H h) (e:H a=some (.ins C dx fs)):∃ mA,ObjM h a dx C mA/\(∀ f,sy (fs.lookup f) (mA f))/\PySem.Within mA (fs.map (·.1))/\fs.length<=1000/\H dx=some (.own a):=by
 obtain ⟨d,z,ne,ob,mA,n,r,q⟩:=(show bN P w H h a (.ins C dx fs) from hok a _ e)
 exact ⟨mA,⟨ob,n,ne⟩,r,q,z,d⟩
end
structure Cls (K:Zi) (C:Addr):Prop where
 pg:PySem.W.plainGet K C Str.empty=true
 hd:PySem.W.hasDictIn K C=true
 po:PySem.W.plainOver K C=true
 sa:PySem.W.findIn K (.ref C) "__setattr__" = some (some (.builtin "object.__setattr__"))
theorem Cls.get {K:Zi} {C:Addr} (c:Cls K C) (f:Str):PySem.W.plainGet K C f=true:=c.pg
section
variable {X:Cx} {o e value:Expr} {f:Str} {pos pos' tpos:Pos} {ta tv:TE}
noncomputable def sZ:V->V->Hp->VK->Prop:=fun x y H Q=>∃ i j,x=.int i/\y=.int j/\Q (.int (i+j)) H
end
section
variable {X:Cx} {pins:Zk} {σ:St} {H:Hp} {s:Shared} {A:Around} {E:Zt} {Q:Zt} {c:Value} {b:Bool}
inductive TyOf (K:Zi) (H:Hp):V->Value->Prop where
 | non:TyOf K H .non (.type "NoneType")
 | bl (x:Bool):TyOf K H (.bl x) (.type "bool")
 | int (i:Int):TyOf K H (.int i) (.type "int")
 | str (x:Str):TyOf K H (.str x) (.type "str")
 | flt (x:UInt64):TyOf K H (.flt x) (.type "float")
 | lst {a:Addr} {xs:List V} (e:H a=some (.lst xs)):TyOf K H (.ref a) (.type "list")
 | frz {a:Addr} {o:Obj} {xs:List V} (e:H a=some (.frz o (.lst xs))):TyOf K H (.ref a) (.type "list")
 | tup {a:Addr} {xs:List V} (e:H a=some (.tup xs)):TyOf K H (.ref a) (.type "tuple")
 | dK {a:Addr} {kvs:List (Key×V)} (e:H a=some (.dK kvs)):TyOf K H (.ref a) (.type "dict")
 | dT {a:Addr} {kvs:List (List Key×V)} (e:H a=some (.dT kvs)):TyOf K H (.ref a) (.type "dict")
 | ins {a C dx:Addr} {fs:List (Str×V)} (e:H a=some (.ins C dx fs)) (cl:Cls K C) (ha:PySem.W.findIn K (.ref C) "__class__" = some (some (.builtin "object.__class__")))
   (hn:PySem.W.specialIn K (.builtin "object.__class__") "__get__" = some (some (.builtin "getset_descriptor.__get__"))) (htk:PySem.W.takesIn K (.builtin "object.__class__")=some true)
   (hm:PySem.W.mroIn K C (.type "object")=some true):TyOf K H (.ref a) (.ref C)
theorem mh {x:V} {u t:Value} (I:Inv X pins σ H s) (rx:RelV x u) (ty:TyOf X.K H x t) (e:PySem.W.kitOne X.K t c=some b) (h:∀ tk,Q (.bool b) { s with toks:=tk }) :
  wpAny (model X.prog X.w) A (call (.builtin "isinstance") [u,c]) Q E s:=by
 cases ty with
 | non=>cases (show u=Value.none from rx);exact zJ PySem.W.kitx_none I.kIn True.intro e (fun z=>nomatch z) h
 | bl y=>cases (show u=Value.bool y from rx);exact zJ PySem.W.kitx_bool I.kIn True.intro e (fun z=>nomatch z) h
 | int i=>obtain ⟨t,q⟩:=(show ∃ t,u=Value.int i t from rx);cases q;exact zJ PySem.W.kitx_int I.kIn True.intro e (fun z=>nomatch z) h
 | str y=>obtain ⟨t,q⟩:=(show ∃ t,u=Value.str y t from rx);cases q;exact zJ PySem.W.kitx_str I.kIn True.intro e (fun z=>nomatch z) h
 | flt y=>obtain ⟨t,q⟩:=(show ∃ t,u=Value.float y t from rx);cases q;exact zJ PySem.W.kitx_float I.kIn True.intro e (fun z=>nomatch z) h
 | @lst a xs ea =>
  cases (show u=Value.ref a from rx)
  obtain ⟨_,_,n,_,h1⟩:=(show bN X.prog X.w H s.heap a (.lst xs) from I.hok a _ ea)
  exact zJ PySem.W.kitx_list I.kIn ⟨_,h1,rfl⟩ e (fun z=>nomatch z) h
 | @frz a ob xs ea =>
  cases (show u=Value.ref a from rx)
  obtain ⟨_,_,_,n,_,h1⟩:=(show bN X.prog X.w H s.heap a (.frz ob (.lst xs)) from I.hok a _ ea)
  exact zJ PySem.W.kitx_list I.kIn ⟨_,h1,rfl⟩ e (fun z=>nomatch z) h
 | @tup a xs ea =>
  cases (show u=Value.ref a from rx)
  obtain ⟨_,_,_,_,p⟩:=(show bN X.prog X.w H s.heap a (.tup xs) from I.hok a _ ea)
  obtain ⟨o,h1,h2,_⟩:=p
  exact zJ PySem.W.kitx_tuple I.kIn ⟨o,h1,h2⟩ e (fun z=>nomatch z) h
 | @dK a kvs ea =>
  cases (show u=Value.ref a from rx)
  obtain ⟨_,_,vs,_,p⟩:=(show bN X.prog X.w H s.heap a (.dK kvs) from I.hok a _ ea)
  obtain ⟨o,es,ep,h1,h2,_⟩:=p
  exact zJ PySem.W.kitx_dict I.kIn ⟨o,h1,h2.1⟩ e (fun z=>nomatch z) h
 | @dT a kvs ea =>
  cases (show u=Value.ref a from rx)
  obtain ⟨_,_,xs,_,o,es,ep,h1,h2,_⟩:=(show bN X.prog X.w H s.heap a (.dT kvs) from I.hok a _ ea)
  exact zJ PySem.W.kitx_dict I.kIn ⟨o,h1,h2.1⟩ e (fun z=>nomatch z) h
 | @ins a C dx fs ea cl ha hn htk hm =>
  cases (show u=Value.ref a from rx)
  obtain ⟨mA,O,_⟩:=rD I.hok ea
  obtain ⟨od,J,_⟩:=O.look
  exact zJ (PySem.W.kitx_own (cl.get _) cl.hd ha hn htk hm) I.kIn J e (fun z=>nomatch z) h
end
structure Room (k:Nat) (A:Around):Prop where
 hd:A.handled=none
 dp:A.depth+3 * k+5 < recursionLimit
 un:A.units+16 * k+200 < cLine
theorem Room.mono {j k:Nat} {A:Around} (r:Room k A) (h:j<=k):Room j A:=⟨r.hd,by have:=r.dp;lia,by have:=r.un;lia⟩
theorem Room.deeper {k:Nat} {A:Around} (r:Room (k+1) A) (env:Env):Room k (A.deeper env) :=
 ⟨r.hd,by have:=r.dp;show A.depth+1+3 * k+5 < _;lia,by have:=r.un;show A.units+3+16 * k+200 < _;lia⟩
theorem Room.depth {k:Nat} {A:Around} (r:Room k A):A.depth < recursionLimit:=by have:=r.dp;lia
theorem Room.units {k:Nat} {A:Around} (r:Room k A):A.units+64 < cLine:=by have:=r.un;lia
noncomputable def wY:TA:=fun _ H Q=>Q [] H
noncomputable def wA (ta:TE) (tr:TA):TA:=fun σ H Q=>ta σ H fun x H1=>tr σ H1 fun xs H2=>Q (x :: xs) H2
section
variable {X:Cx} {e:Expr} {es:List Expr} {te:TE} {t:TA} {pos:Pos}
theorem gj:PA X [] wY:=fun _ _ _ _ H Q I h=>Calls.spliced_nil ⟨[],H,I,.nil,h⟩
theorem di (ha:PE X e te) (hr:PA X es t) (hs:starEach (e :: es) X.env=(false,eval e X.env) :: starEach es X.env:=by rfl):PA X (e :: es) (wA te t):=by
 intro pos pins s σ H Q I h
 rw [hs]
 show wpAny _ _ (spliced ((false,eval e X.env) :: backTo pos (starEach es X.env))) _ _ s
 refine yX (thn (ha pins s σ H _ I h) fun u s1 ⟨x,H1,I1,r1,q1⟩=>?_)
 exact thn (hr pos pins s1 σ H1 _ I1 q1) fun us s2 ⟨xs,H2,I2,r2,q2⟩=>⟨x :: xs,H2,I2,.cons r1 r2,q2⟩
noncomputable def xA (t:TA):TE:=fun σ H Q=>t σ H fun xs H1=>xs.length<=sizeLine/\∀ p,H1 p=none->Q (.ref p) (upd H1 p (.tup xs))
noncomputable def xj (t:TA):TE:=fun σ H Q=>t σ H fun xs H1=>xs.length<=sizeLine/\∀ p,H1 p=none->Q (.ref p) (upd H1 p (.lst xs))
theorem oq {x1} (h:PA X es t):PE X (.Tuple es x1 pos) (xA t):=by
 intro pins s σ H Q I hq
 refine wpAny_Tuple_spliced (thn (h pos pins s σ H _ I hq) fun us s1 ⟨xs,H1,I1,r,z,q⟩=>⟨by rw [← r.length];exact z,?_⟩)
 have hf:H1 s1.heap.objs.size=none:=I1.hok.fresh (zm _)
 refine ⟨.ref s1.heap.objs.size,upd H1 s1.heap.objs.size (.tup xs),I1.laid (t':=s1.toks) (fun b u e=>zr _ e) (zm _) ?_,rfl,q _ hf⟩
 exact ⟨z,us,r,NoD.of (za _ rfl) rfl,⟨_,za _ rfl,rfl,_,rfl⟩⟩
theorem uI (h:PA X es t):PE X (.List es pos) (xj t):=by
 intro pins s σ H Q I hq
 refine wpAny_List_spliced (thn (h pos pins s σ H _ I hq) fun us s1 ⟨xs,H1,I1,r,z,q⟩=>⟨by rw [← r.length];exact z,?_⟩)
 have hf:H1 s1.heap.objs.size=none:=I1.hok.fresh (zm _)
 refine ⟨.ref s1.heap.objs.size,upd H1 s1.heap.objs.size (.lst xs),I1.laid (t':=s1.toks) (fun b u e=>zr _ e) (zm _) ?_,rfl,q _ hf⟩
 exact ⟨z,us,0,r,za _ rfl⟩
end
noncomputable abbrev Sp:=List V->Hp->VK->XK->Prop
noncomputable abbrev CXT:=List Env->Hp->Shared->XK->Zt
structure Env0 (P:Program) (w:World) (K:Zi) (mg:Zh) (base:Heap) (A:Around) (outer:List Env) (s:Shared) (H:Hp):Prop where
 frames:A.frames=some outer
 mod:Mod K mg base
 bs:∀ b o,base.get? b=some o->s.heap.get? b=some o/\H b=none
 bsz:base.objs.size<=s.heap.objs.size
 funs:s.heap.FunFrames base outer
 frf:∀ b∈frs outer,H b=none
 hok:HOk P w H s.heap
 bare:AllBare s.gens
noncomputable def CE (outer:List Env) (P:Program) (w:World) (H:Hp) (s:Shared) (Q:VK) (u:Value) (s':Shared):Prop :=
 ∃ v H',s'.os=s.os/\AllBare s'.gens/\Un (frs outer) [] H H' s.heap s'.heap/\HOk P w H' s'.heap/\RelV v u/\Q v H'
noncomputable def CR (CX:CXT) (outer:List Env) (P:Program) (w:World) (H:Hp) (s:Shared) (Q:VK) (E:XK) (r:Result) (s':Shared):Prop :=
 match r with
 | .ok (.ret u)=>CE outer P w H s Q u s'
 | .ok _=>False
 | .error e=>CX outer H s E e s'
structure FnOk (P:Program) (w:World) (K:Zi) (mg:Zh) (base:Heap) (CX:CXT) (k:Nat) (f:Addr) (fd:FuncData) (ps:List Str) (sp:Sp):Prop where
 len:∀ vs H Q E,sp vs H Q E->vs.length=ps.length
 run:∀ (A:Around) (outer:List Env) (s:Shared) (H:Hp) (args:Args) (us:Zf) (vs:List V) (Q:VK) (E:XK),Room k A->Env0 P w K mg base A outer s H->BindsTo s fd args (ps.zip us)->aW vs us->sp vs H Q E →
  codeAny (model P w) A (.call (.ref f) args) (CR CX outer P w H s Q E) s
theorem FnOk.imp {P:Program} {w:World} {K:Zi} {mg:Zh} {base:Heap} {CX:CXT} {k:Nat} {f:Addr} {fd:FuncData} {ps:List Str} {sp sp':Sp} (F:FnOk P w K mg base CX k f fd ps sp)
  (h:∀ vs H Q E,sp' vs H Q E->sp vs H Q E):FnOk P w K mg base CX k f fd ps sp' :=
 ⟨fun vs H Q E q=>F.len vs H Q E (h _ _ _ _ q),fun A outer s H args us vs Q E hr he hb hv hs=>F.run A outer s H args us vs Q E hr he hb hv (h _ _ _ _ hs)⟩
section
variable {X:Cx} {pins:Zk} {σ:St} {H:Hp} {s s':Shared}
theorem Inv.env0 (I:Inv X pins σ H s):Env0 X.prog X.w X.K X.mg X.base X.A X.stack s H :=
 ⟨I.ok.frames,I.ok.mod,I.bs,zk I.ok.bsz I.sz,I.stack,I.stkFree,I.hok,I.bare⟩
theorem Inv.after {Q:VK} {u:Value} (I:Inv X pins σ H s) (h:CE X.stack X.prog X.w H s Q u s'):EP X pins σ Q u s':=by
 obtain ⟨v,H',os,bare,un,hok,r,q⟩:=h
 obtain ⟨hh,g,d,t,os'⟩:=s'
 obtain rfl:os'=s.os:=os
 exact ⟨v,H',I.call (h':=hh) (g':=g) (d':=d) (t':=t) (ch:=[]) un hok bare (fun b z=>absurd z (by simp)),r,q⟩
end
noncomputable def rO (sp:Sp) (dvs:List V) (E:XK) (t:TA):TE:=fun σ H Q=>t σ H fun vs H1=>sp (vs++dvs) H1 Q E
noncomputable def Binds (K:Zi) (fd:FuncData) (ps:List Str) (ds:Zf):Prop :=
 ∀ (s:Shared) (us:Zf),K.In s.heap->(us++ds).length=ps.length->BindsTo s fd ⟨us,[]⟩ (ps.zip (us++ds))
theorem Binds.all {K:Zi} {fd:FuncData} {ps:List Str} (h:∀ us:Zf,us.length=ps.length->bindArgs fd ⟨us,[]⟩=pure (ps.zip us)):Binds K fd ps []:=fun s us _ hl=>by
 rw [yz] at hl ⊢
 exact .of_eq (h us hl)
noncomputable def kF (CX:CXT) (X:Cx) (E:XK):Prop:=∀ (pins:Zk) (σ:St) (H:Hp) (s:Shared) (e:Value) (s':Shared),Inv X pins σ H s->CX X.stack H s E e s'->X.xe e s'
section
variable {X:Cx} {CX:CXT} {k:Nat} {f C:Addr} {fd:FuncData} {ps:List Str} {sp:Sp} {dvs:List V} {ds:Zf} {E:XK} {x m:Str} {p pos apos:Pos} {e o:Expr} {es:List Expr} {ta:TE} {t:TA}
theorem ud {pins:Zk} {σ:St} {H:Hp} {s:Shared} {Q:VK} {us:Zf} {vs:List V} (F:FnOk X.prog X.w X.K X.mg X.base CX k f fd ps sp) (hr:Room k X.A) (hb:Binds X.K fd ps ds) (hd:aW dvs ds) (hx:kF CX X E)
  (I:Inv X pins σ H s) (r:aW vs us) (h:sp (vs++dvs) H Q E):wpAny (model X.prog X.w) X.A (call (.ref f) us) (EP X pins σ Q) X.xe s:=by
 have r2:aW (vs++dvs) (us++ds):=r.append hd
 have hl:(us++ds).length=ps.length:=by rw [← r2.length];exact F.len _ _ _ _ h
 refine wpAny_call (x5 (F.run X.A X.stack s H ⟨us,[]⟩ (us++ds) (vs++dvs) Q E hr I.env0 (hb s us I.kIn hl) r2 h) fun r s' hq=>?_)
 cases r with
 | error e=>exact hx pins σ H s e s' I hq
 | ok fl =>
  cases fl with
  | ret u=>exact I.after hq
  | next=>exact False.elim hq
  | brk=>exact False.elim hq
  | cont=>exact False.elim hq
theorem qb (F:FnOk X.prog X.w X.K X.mg X.base CX k f fd ps sp) (hr:Room k X.A) (hg:Gl X x) (hm:X.mg x=some (.ref f)) (hk:PySem.W.keepIn X.K (.ref f)=true) (hb:Binds X.K fd ps ds) (hd:aW dvs ds) (hx:kF CX X E)
  (ha:PA X (e :: es) t) (hdb:(x == ("__debug__" : Str))=false:=by decide) (he:starEach (e :: es) X.env=(false,eval e X.env) :: starEach es X.env:=by rfl) (hpl:(backTo pos (starEach es X.env)).any (·.1)=false:=by rfl) :
  PE X (.Call (.Name x p) (e :: es) [] pos) (rO sp dvs E t):=by
 intro pins s σ H Q I h
 refine yG (eV I hg hm ?_ hdb)
 refine PySem.W.callWith_K (h₀:=X.base) I.ok.mod.kin hk (thn (ha pos pins s σ H _ I h) fun us s1 ⟨vs,H1,I1,r,q⟩=>⟨I1.kIn,?_⟩) he hpl
 exact ud F hr hb hd hx I1 r q
end
structure FnScope (N P:List Str) (sc:Scope):Prop where
 kind:sc.kind=.function
 co:sc.isCoroutine=false
 gen:sc.isGenerator=false
 nd:N.Nodup
 pre:N.take P.length=P
 par:∀ x∈P,sc.names.lookup x=some .local\/sc.names.lookup x=some .cell
 nofree:∀ y∈sc.names,y.2 ≠ .free
theorem iJ {kindOf:Str->Option NameKind} {x:Str}:∀ {binds:List (Str×Value)} {m:Zh},(∀ v,(x,v) ∉ binds)->bindL kindOf binds m x=m x
 | [],_,_=>rfl
 | (n,v) :: r,m,h=>by
  unfold bindL
  rw [iJ fun w hw=>h w (zy _ hw)]
  split
  ·have:x ≠ n:=by rintro rfl;exact h v zx
   simp [this]
  ·rfl
theorem iH {kindOf:Str->Option NameKind} {x:Str}:∀ {binds:List (Str×Value)} {m:Zh},(∀ v,(x,v) ∉ binds)->bindC kindOf binds m x=m x
 | [],_,_=>rfl
 | (n,v) :: r,m,h=>by
  unfold bindC
  rw [iH fun w hw=>h w (zy _ hw)]
  split
  ·rfl
  ·have:x ≠ n:=by rintro rfl;exact h v zx
   simp [this]
theorem iS {kindOf:Str->Option NameKind} {x:Str} {v:Value}:∀ {P:List Str} {vs:Zf} {i:Nat} {m:Zh},P.Nodup->P[i]?=some x->vs[i]?=some v->kindOf x=some .local →
  bindL kindOf (P.zip vs) m x=some v
 | [],_,_,_,_,h,_,_=>by simp at h
 | _ :: _,[],_,_,_,_,h,_=>by simp at h
 | p :: P,w :: vs,0,m,nd,h1,h2,hk=>by
  simp at h1 h2;subst h1;subst h2
  show bindL kindOf ((p,w) :: P.zip vs) m p=_
  unfold bindL
  rw [iJ fun v hv=>(z0.mp nd).1 (List.of_mem_zip hv).1,zi hk]
  simp
 | p :: P,w :: vs,i+1,m,nd,h1,h2,hk=>by
  show bindL kindOf ((p,w) :: P.zip vs) m x=_
  unfold bindL
  exact iS (i:=i) (z0.mp nd).2 (by simpa using h1) (by simpa using h2) hk
theorem iM {kindOf:Str->Option NameKind} {x:Str} {v:Value}:∀ {P:List Str} {vs:Zf} {i:Nat} {m:Zh},P.Nodup->P[i]?=some x->vs[i]?=some v->kindOf x ≠ some .local →
  bindC kindOf (P.zip vs) m x=some v
 | [],_,_,_,_,h,_,_=>by simp at h
 | _ :: _,[],_,_,_,_,h,_=>by simp at h
 | p :: P,w :: vs,0,m,nd,h1,h2,hk=>by
  simp at h1 h2;subst h1;subst h2
  show bindC kindOf ((p,w) :: P.zip vs) m p=_
  unfold bindC
  rw [iH fun v hv=>(z0.mp nd).1 (List.of_mem_zip hv).1,if_neg hk]
  simp
 | p :: P,w :: vs,i+1,m,nd,h1,h2,hk=>by
  show bindC kindOf ((p,w) :: P.zip vs) m x=_
  unfold bindC
  exact iM (i:=i) (z0.mp nd).2 (by simpa using h1) (by simpa using h2) hk
noncomputable def start (N:List Str) (vs:List V):St:=vs.map some++List.replicate (N.length - vs.length) none
noncomputable def fm (CX:CXT) (P:Program) (w:World) (K:Zi) (mg:Zh) (base:Heap) (N:List Str) (qual:Str) (scope:Scope) (f:Addr) (cd:Value) (A:Around) (outer:List Env) (s:Shared) (H:Hp) (E:XK):Cx where
 prog:=P
 w:=w
 K:=K
 mg:=mg
 base:=base
 A:=A.deeper (envOfC qual scope s.heap.objs.size f cd)
 N:=N
 s₀:=s
 H₀:=H
 env:=envOfC qual scope s.heap.objs.size f cd
 outer:=outer
 stack:=envOfC qual scope s.heap.objs.size f cd :: outer
 ex:=[]
 calm:=true
 fn:=fun _=>true
 pn:=[]
 xe:=fun e s'=>wpAny (model P w) (A.deeper (envOfC qual scope s.heap.objs.size f cd)) (leaving (envOfC qual scope s.heap.objs.size f cd) e) (fun _ s''=>CX outer H s E e s'') (fun e' s''=>CX outer H s E e' s'') s'
theorem j0 {sc:Scope} {n:Nat} {x:Str} (h:sc.names.lookup x=some .cell):∃ c,(cellsFrom n sc.names []).lookup x=some c:=by
 have q:=PySem.W.cellsFrom_some sc.names n [] (.inl h)
 exact Option.isSome_iff_exists.mp q
theorem lP {CX:CXT} {P:Program} {w:World} {K:Zi} {mg:Zh} {base:Heap} {N ps:List Str} {qual:Str} {scope:Scope} {f:Addr} {cd:Value} {A:Around} {outer:List Env} {s s1:Shared} {H:Hp} {E:XK} {us:Zf} {vs:List V}
  (S:FnScope N ps scope) (hd:A.handled=none) (e0:Env0 P w K mg base A outer s H) (hl:vs.length=ps.length) (r:aW vs us)
  (x:InCallC s s.heap.objs.size (bindL (envOfC qual scope s.heap.objs.size f cd).kindOf (ps.zip us) fun _=>none) (cellsFrom (s.heap.objs.size+1) scope.names []) (bindC (envOfC qual scope s.heap.objs.size f cd).kindOf (ps.zip us) fun _=>none) s1) :
  Inv (fm CX P w K mg base N qual scope f cd A outer s H E) [] (start N vs) H s1:=by
 have hpl:ps.length<=N.length:=by have:=congrArg List.length S.pre;rw [yE] at this;lia
 obtain ⟨h1,tk,rfl,hk⟩:=x.done
 have noA:∀ b:Addr,b ∉ (fm CX P w K mg base N qual scope f cd A outer s H E).ex:=fun b z=>absurd (show b∈([]:Zg) from z) (by simp)
 refine ⟨⟨e0.mod,S.kind,rfl,rfl,zm _,fun y z c h1 h2=>?_,fun y hy=>?_,fun y c _ h=>?_,fun _=>hd,Around.frames_deeper e0.frames,.inr ⟨rfl,rfl⟩,fun b z=>absurd z (noA b),e0.bs,e0.bsz,fun b _ _=>noA b,fun b z=>absurd z (noA b),e0.funs,e0.frf⟩,
  rfl,e0.bare,Un.kept hk,⟨_,x.toInCall.ns,fun i y v h1 h2 h3=>?_⟩,fun y c h=>⟨_,x.cell y c h⟩,e0.hok.fresh (zm _),fun y c h=>?_,fun p hp=>absurd (show p∈([]:Zk) from hp) (by simp),e0.hok.kept hk,?_⟩
 ·exact name_of_addr x.apart (yi h1) (yi h2)
 ·have hy:scope.names.lookup y=some .cell\/scope.names.lookup y=some .free:=hy
  rcases hy with hy | hy
  ·exact j0 hy
  ·exact absurd rfl (S.nofree _ (yi hy))
 ·exact Nat.le_of_lt (x.above y c (yi h))
 ·have hi:i < vs.length:=by
   unfold start at h2
   by_cases hi:i < vs.length
   ·exact hi
   ·rw [zE (by simpa using hi)] at h2
    rw [yw] at h2
    split at h2 <;> cases h2
  have ha:vs[i]?=some v:=by
   unfold start at h2
   rw [zD (by simpa using hi),zS] at h2
   cases e:vs[i]? with
   | none=>rw [e] at h2;cases h2
   | some a=>rw [e] at h2;cases h2;rfl
  obtain ⟨u,hu,rv⟩:=r.get ha
  have hp:ps[i]?=some y:=by
   rw [← S.pre,List.getElem?_take_of_lt (by lia)];exact h1
  have ndP:ps.Nodup:=by rw [← S.pre];exact S.nd.sublist (List.take_sublist _ _)
  refine ⟨u,rv,?_⟩
  rcases S.par y (y9 hp) with k | k
  ·exact .inl ⟨k,iS ndP hp hu k⟩
  ·obtain ⟨c,e⟩:=j0 (n:=s.heap.objs.size+1) k
   refine .inr ⟨.inl k,c,e,?_⟩
   have q:=x.cell y c e
   rw [iM ndP hp hu (by show scope.names.lookup y ≠ _;rw [k];decide)] at q
   exact q
 ·exact e0.hok.fresh (Nat.le_of_lt (x.above y c (yi h)))
 ·unfold start
  show _=N.length
  rw [zp,zt,zK]
  lia
theorem rE {CX:CXT} {P:Program} {w:World} {K:Zi} {mg:Zh} {base:Heap} {k:Nat} {f:Addr} {name qual:Str} {params:Arguments} {body:List Stmt} {scope:Scope} {dV kV doc pm cdv ct oc:Value} {an od:Option Addr}
  {osl:Array (Ze)} {N ps:List Str} {sp:Sp} (lk:K.lookup f=some ⟨oc,od,.func (PySem.W.fnOf name qual params body scope dV kV doc pm an cdv ct),osl⟩) (hcd:PySem.W.codeIn K cdv qual=true) (S:FnScope N ps scope)
  (len:∀ vs H Q E,sp vs H Q E->vs.length=ps.length)
  (hbody:∀ (A:Around) (outer:List Env) (s:Shared) (H:Hp) (vs:List V) (Q:VK) (E:XK),Room k (A.deeper (envOfC qual scope s.heap.objs.size f cdv))->sp vs H Q E →
   ∃ t,PSs (fm CX P w K mg base N qual scope f cdv A outer s H E) body t/\t { nx:=fun _ H'=>Q .non H',rt:=Q } (start N vs) H) :
  FnOk P w K mg base CX (k+1) f (PySem.W.fnOf name qual params body scope dV kV doc pm an cdv ct) ps sp:=by
 refine ⟨len,fun A outer s H args us vs Q E hr e0 hb r hsp=>?_⟩
 have hl:=len _ _ _ _ hsp
 have KX:K.In s.heap:=e0.mod.kin.keeps fun b o e=>(e0.bs b o e).1
 have lim:s.heap.NoLimit:=e0.mod.nolimit.keeps fun b o e=>(e0.bs b o e).1
 have hkind:∀ y∈ps.zip us,scope.names.lookup y.1=some .local\/(scope.names.lookup y.1=some .cell/\((cellsFrom (s.heap.objs.size+1) scope.names []).lookup y.1).isSome=true):=fun ⟨n,v⟩ hy=>by
  rcases S.par n (List.of_mem_zip hy).1 with q | q
  ·exact .inl q
  ·exact .inr ⟨q,PySem.W.cellsFrom_some _ _ _ (.inl q)⟩
 refine codeAny_call_function hr.depth (KX _ _ lk) rfl S.co S.gen rfl (PySem.W.codeRec_of KX hcd) (hb _ _ _ _ ?_)
 refine wpAny_newFunctionEnv_cells S.kind hkind fun env he s1 x=>?_
 subst he
 refine ⟨lim.keeps x.toInCall.keep,codeAny_func ?_⟩
 obtain ⟨t,ht,hq⟩:=hbody A outer s H vs Q E (hr.deeper _) hsp
 have I:Inv (fm CX P w K mg base N qual scope f cdv A outer s H E) [] (start N vs) H s1:=lP S hr.hd e0 hl r x
 refine zI (ht [] s1 (start N vs) H _ I hq) (fun fl s' hs=>?_) fun e s' hs=>hs
 have fin:∀ {σ':St} {H':Hp} {v:V} {u:Value},Inv (fm CX P w K mg base N qual scope f cdv A outer s H E) [] σ' H' s'->RelV v u->Q v H'->CE outer P w H s Q u s' :=
  fun {σ' H' v u} J rv q=>⟨v,H',J.os,J.bare,J.base,J.hok,rv,q⟩
 cases fl with
 | ret u =>
  obtain ⟨v,σ',H',J,rv,q⟩:=hs
  exact fin J rv q
 | next =>
  obtain ⟨σ',H',J,q⟩:=hs
  exact fin (v:=V.non) (u:=Value.none) J rfl q
 | brk =>
  obtain ⟨_,_,_,q⟩:=hs
  exact False.elim q
 | cont =>
  obtain ⟨_,_,_,q⟩:=hs
  exact False.elim q
section
variable {X:Cx} {x:Str} {p pos:Pos} {e:Expr} {es:List Expr} {t:TA} {id T:String} {r:List V->Hp->VK->Prop}
noncomputable def tCB (r:List V->Hp->VK->Prop) (t:TA):TE:=fun σ H Q=>t σ H fun vs H1=>r vs H1 Q
theorem fz (hc:cG X (.builtin id) r) (hg:Gl X x) (hm:X.mg x=none) (hv:bootBuiltins x=some (.builtin id)) (ha:PA X (e :: es) t) (hn:x ≠ "__name__" := by decide) (hdb:(x == ("__debug__" : Str))=false:=by decide)
  (he:starEach (e :: es) X.env=(false,eval e X.env) :: starEach es X.env:=by rfl) (hpl:(backTo pos (starEach es X.env)).any (·.1)=false:=by rfl):PE X (.Call (.Name x p) (e :: es) [] pos) (tCB r t):=by
 intro pins s σ H Q I h
 refine yG (jq I hg hm hv ?_ hn hdb)
 exact PyProof.Rows.callWith_builtin1 (thn (ha pos pins s σ H _ I h) fun us s1 ⟨vs,H1,I1,r1,q1⟩=>hc pins s1 σ H1 vs us Q I1 r1 q1) he hpl
theorem lX (hc:cG X (.type T) r) (hg:Gl X x) (hm:X.mg x=none) (hv:bootBuiltins x=some (.type T)) (ha:PA X (e :: es) t) (hn:x ≠ "__name__" := by decide) (hdb:(x == ("__debug__" : Str))=false:=by decide)
  (he:starEach (e :: es) X.env=(false,eval e X.env) :: starEach es X.env:=by rfl) (hpl:(backTo pos (starEach es X.env)).any (·.1)=false:=by rfl):PE X (.Call (.Name x p) (e :: es) [] pos) (tCB r t):=by
 intro pins s σ H Q I h
 refine yG (jq I hg hm hv ?_ hn hdb)
 exact PyProof.Rows.callWith_type1 (thn (ha pos pins s σ H _ I h) fun us s1 ⟨vs,H1,I1,r1,q1⟩=>hc pins s1 σ H1 vs us Q I1 r1 q1) he hpl
end
end L2
namespace HT
open PySem PyProof.Rows
section
variable {prog:Program} {w:World} {A:Around} {E:Zt} {s:Shared}
noncomputable def sIx (n d:Nat):Option Int->Nat
 | none=>d
 | some v=>if v < 0 then (v+(n:Int)).toNat else min v.toNat n
end
end HT
namespace L2
open PySem PySem.Spec PyProof.Rows
noncomputable abbrev TO:=St->Hp->(Option Int->Hp->Prop)->Prop
noncomputable def PO (X:Cx) (e:Option Expr) (t:TO):Prop :=
 ∀ (pins:Zk) (s:Shared) (σ:St) (H:Hp) (Q:Option Int->Hp->Prop),Inv X pins σ H s->t σ H Q →
  wpAny (model X.prog X.w) X.A (evalPart e X.env) (fun u s'=>∃ o H',Inv X pins σ H' s'/\IsPart u o/\Q o H') X.xe s
noncomputable def qU:TO:=fun _ H Q=>Q none H
noncomputable def wc (t:TE):TO:=fun σ H Q=>t σ H fun x H1=>∃ i,x=.int i/\Q (some i) H1
section
variable {X:Cx} {e:Expr} {te:TE} {lo hi:Option Expr} {tl th:TO} {pos p2:Pos}
theorem pP:PO X none qU:=by
 intro pins s σ H Q I h
 rw [evalPart_none]
 exact zf ⟨none,H,I,.none,h⟩
theorem pB (h:PE X e te):PO X (some e) (wc te):=by
 intro pins s σ H Q I hw
 rw [evalPart_some]
 refine thn (h pins s σ H _ I hw) fun u s1 ⟨x,H1,I1,r1,q1⟩=>?_
 obtain ⟨i,rfl,q⟩:=q1
 obtain ⟨t,rfl⟩:=r1
 exact ⟨some i,H1,I1,.int i t,q⟩
noncomputable def SlR (X:Cx) (r:V->Option Int->Option Int->Hp->VK->Prop):Prop :=
 ∀ (pins:Zk) (s:Shared) (σ:St) (H:Hp) (x:V) (v vl vu:Value) (lo hi:Option Int) (sl:Addr) (Q:VK),Inv X pins σ H s->RelV x v->s.heap.IsSliceOf sl vl vu .none->IsPart vl lo->IsPart vu hi->r x lo hi H Q →
  ∃ T id,typeLookup (.type T) "__getitem__" = pure (some (.builtin id))/\s.TypeIs v T/\wpAny (model X.prog X.w) X.A (getItem v (.ref sl)) (EP X pins σ Q) X.xe s
theorem SlR.or {r r':V->Option Int->Option Int->Hp->VK->Prop} (h:SlR X r) (h':SlR X r'):SlR X (fun x lo hi H Q=>r x lo hi H Q\/r' x lo hi H Q):=by
 intro pins s σ H x v vl vu lo hi sl Q I rx hs pl pu q
 rcases q with q | q
 ·exact h pins s σ H x v vl vu lo hi sl Q I rx hs pl pu q
 ·exact h' pins s σ H x v vl vu lo hi sl Q I rx hs pl pu q
noncomputable def tSl (r:V->Option Int->Option Int->Hp->VK->Prop) (te:TE) (tl th:TO):TE:=fun σ H Q=>te σ H fun x H1=>tl σ H1 fun l H2=>th σ H2 fun u H3=>r x l u H3 Q
theorem oy {r:V->Option Int->Option Int->Hp->VK->Prop} (hr:SlR X r) (he:PE X e te) (hl:PO X lo tl) (hu:PO X hi th):PE X (.Subscript e (.Slice lo hi none p2) pos) (tSl r te tl th):=by
 intro pins s σ H Q I h
 refine Subscript_ (thn (he pins s σ H _ I h) fun v s1 ⟨x,H1,I1,r1,q1⟩=>?_)
 refine wpAny_Slice (thn (hl pins s1 σ H1 _ I1 q1) fun vl s2 ⟨l,H2,I2,pl,q2⟩=>thn (hu pins s2 σ H2 _ I2 q2) fun vu s3 ⟨u,H3,I3,pu,q3⟩=>?_)
 rw [evalPart_none]
 refine zf ?_
 have I4:Inv X pins σ H3 { s3 with heap:=s3.heap.push { cls:=.type "slice",data:=.fields #[vl,vu,.none] } }:=I3.kept (t':=s3.toks) fun b ob q=>zr _ q
 obtain ⟨T,id,hT,ht,hg⟩:=hr pins { s3 with heap:=s3.heap.push { cls:=.type "slice",data:=.fields #[vl,vu,.none] } } σ H3 x v vl vu l u s3.heap.objs.size Q I4 r1 (Heap.IsSliceOf.new ..) pl pu q3
 show wpAny (model X.prog X.w) X.A (subscriptTail e (.Slice lo hi none p2) v (.ref s3.heap.objs.size)) (EP X pins σ Q) X.xe { s3 with heap:=s3.heap.push { cls:=.type "slice",data:=.fields #[vl,vu,.none] } }
 exact tail_any (ops:=[.ref s3.heap.objs.size,v]) ht hT hg (by with_unfolding_all rfl)
noncomputable def mZ (xs:List V) (lo hi:Option Int):List V:=(xs.drop (HT.sIx xs.length 0 lo)).take (HT.sIx xs.length xs.length hi - HT.sIx xs.length 0 lo)
theorem jO (xs:List V) (lo hi:Option Int):(mZ xs lo hi).length<=xs.length:=by
 unfold mZ
 rw [yE,ym]
 lia
end
noncomputable def ixN (n:Nat) (i:Int):Option Nat:=if 0<=i then (if i < n then some i.toNat else none) else if -(n:Int)<=i then some (i+n).toNat else none
noncomputable def atI {α:Type} (xs:List α) (i:Int):Option α:=(ixN xs.length i).bind fun j=>xs[j]?
theorem qP {n:Nat} {i:Int} {j:Nat} (h:ixN n i=some j):seqIndex? i n=some j/\j < n/\-(n:Int)<=i/\i < n:=by
 unfold ixN at h
 by_cases h0:0<=i
 ·rw [zi h0] at h
  by_cases h1:i < n
  ·rw [zi h1] at h
   have e:i.toNat=j:=zU h
   exact ⟨by rw [seqIndex_of h0 h1,e],by lia,by lia,h1⟩
  ·rw [if_neg h1] at h;cases h
 ·rw [if_neg h0] at h
  by_cases h1:-(n:Int)<=i
  ·rw [zi h1] at h
   have e:(i+n).toNat=j:=zU h
   exact ⟨by rw [seqIndex_neg (by lia) h1,e],by lia,h1,by lia⟩
  ·rw [if_neg h1] at h;cases h
theorem js {α:Type} {xs:List α} {i:Int} {v:α} (h:atI xs i=some v):∃ j,seqIndex? i xs.length=some j/\xs[j]?=some v/\j < xs.length/\-(xs.length:Int)<=i/\i < xs.length:=by
 unfold atI at h
 cases e:ixN xs.length i with
 | none=>rw [e] at h;cases h
 | some j =>
  rw [e] at h
  obtain ⟨h1,h2,h3,h4⟩:=qP e
  exact ⟨j,h1,h,h2,h3,h4⟩
noncomputable def jo (b:Expr):Prop:=∀ o i,subscripted b false o i=operate [o,i] (getItem o i)
noncomputable def IxR (X:Cx) (r:R2):Prop :=
 ∀ (value slice:Expr) (pins:Zk) (s:Shared) (σ:St) (H:Hp) (x y:V) (v u:Value) (Q:VK),Inv X pins σ H s->RelV x v->RelV y u->r x y H Q →
  subscripted slice false v u=operate [v,u] (getItem v u)->wpAny (model X.prog X.w) X.A (subscriptTail value slice v u) (EP X pins σ Q) X.xe s
noncomputable def MtR (X:Cx) (id:String) (r:V->List V->Hp->VK->Prop):Prop :=
 ∀ (pins:Zk) (s:Shared) (σ:St) (H:Hp) (x:V) (xs:List V) (v:Value) (us:Zf) (Q:VK),Inv X pins σ H s->RelV x v->aW xs us->r x xs H Q →
  wpAny (model X.prog X.w) X.A (call (.builtin id) (v :: us)) (EP X pins σ Q) X.xe s
section
variable {X:Cx} {a b:Expr} {ta tb:TE} {pos:Pos}
theorem IxR.or {r r':R2} (h:IxR X r) (h':IxR X r'):IxR X (fun x y H Q=>r x y H Q\/r' x y H Q):=by
 intro value slice pins s σ H x y v u Q I rx ry q hs
 rcases q with q | q
 ·exact h value slice pins s σ H x y v u Q I rx ry q hs
 ·exact h' value slice pins s σ H x y v u Q I rx ry q hs
theorem vL {r:R2} (hr:IxR X r) (ha:PE X a ta) (hb:PE X b tb) (hs:jo b):PE X (.Subscript a b pos) (tOp r ta tb):=by
 intro pins s σ H Q I h
 exact Subscript_ (t2 ha hb I h fun v u s2 x y H2 I2 rx ry q=>hr a b pins s2 σ H2 x y v u Q I2 rx ry q (hs _ _))
noncomputable def vH (K:Zi):R2:=fun x y H Q=>∃ p xs i v,x=.ref p/\y=.int i/\SqL K H p xs/\atI xs i=some v/\Q v H
noncomputable def vn (K:Zi):R2:=fun x y H Q=>∃ p xs i v,x=.ref p/\y=.int i/\SqT K H p xs/\atI xs i=some v/\Q v H
noncomputable def vC:R2:=fun x y H Q=>∃ z i c,x=.str z/\y=.int i/\z.length<=sizeLine/\atI z.cps.toList i=some c/\Q (.str ⟨#[c]⟩) H
theorem qC:IxR X (vH X.K):=by
 intro value slice pins s σ H x y v u Q I rx ry h hs
 obtain ⟨p,xs,i,z,rfl,rfl,hq,he,q⟩:=h
 cases rx
 obtain ⟨t,rfl⟩:=ry
 obtain ⟨its,r,pl,hz⟩:=I.list hq
 obtain ⟨j,h1,h2,h3,h4,h5⟩:=js he
 obtain ⟨w,ew,rw'⟩:=r.get h2
 have hl:=r.length
 have hn:=ib
 have fin:EP X pins σ Q w s:=⟨z,H,I,rw',q⟩
 by_cases h0:0<=i
 ·have hj:i.toNat=j:=by
   rw [seqIndex_of h0 h5] at h1
   exact zU h1
  exact item_listR pl.isList h0 (by lia) (by rw [hj];simpa using ew) fin hs
 ·have hj:(i+(its.toArray.size:Int)).toNat=j:=by
   rw [seqIndex_neg (by lia) h4] at h1
   rw [zd,← hl]
   exact zU h1
  exact subscriptTail_builtinR (x:=w) pl.isList.typeIs slot_list_getitem.lookup
   (wpAny_getItem_list_neg (Q:=fun r s'=>r=w/\EP X pins σ Q r s') pl.isList (by lia) (by rw [zd] <;> lia) (by lia) (by rw [hj];simpa using ew) ⟨rfl,fin⟩) hs
theorem tR:IxR X (vn X.K):=by
 intro value slice pins s σ H x y v u Q I rx ry h hs
 obtain ⟨p,xs,i,z,rfl,rfl,hq,he,q⟩:=h
 cases rx
 obtain ⟨t,rfl⟩:=ry
 obtain ⟨its,r,pl,hz⟩:=I.tuple hq
 obtain ⟨j,h1,h2,h3,h4,h5⟩:=js he
 obtain ⟨w,ew,rw'⟩:=r.get h2
 have hl:=r.length
 have hn:=ib
 have fin:EP X pins σ Q w s:=⟨z,H,I,rw',q⟩
 exact subscriptTail_builtinR (x:=w) pl.typeIs slot_tuple_getitem.lookup
  (getItem_tuple (j:=j) (Q:=fun r s'=>r=w/\EP X pins σ Q r s') pl (by lia) (by lia) (by rw [zd,← hl];exact h1) (by simpa using ew) ⟨rfl,fin⟩) hs
theorem sD:IxR X vC:=by
 intro value slice pins s σ H x y v u Q I rx ry h hs
 obtain ⟨z,i,c,rfl,rfl,hz,he,q⟩:=h
 obtain ⟨t,rfl⟩:=rx
 obtain ⟨t',rfl⟩:=ry
 obtain ⟨j,h1,h2,h3,h4,h5⟩:=js he
 have hl:z.cps.toList.length=z.length:=by simp [Str.length]
 rw [hl] at h1 h4 h5
 have hn:=ib
 exact tail_any (yY s z t) slot_str_getitem.lookup (getItem_str (c:=c) (by
  have e1:decide (i < -(2 ^ 63:Int))=false:=decide_eq_false (by lia)
  have e2:decide (i ≥ 2 ^ 63)=false:=decide_eq_false (by lia)
  rw [e1,e2,Bool.or_false]) (by rw [h1];simpa using h2) ⟨.str ⟨#[c]⟩,H,I.tok _,⟨_,rfl⟩,q⟩) hs
noncomputable def rIx (K:Zi):R2:=fun x y H Q=>vH K x y H Q\/vn K x y H Q\/vC x y H Q
theorem sk:IxR X (rIx X.K):=qC.or (tR.or sD)
theorem iY (lo hi:Option Int) (n:Nat):(sliceBounds lo hi none n).1=((HT.sIx n 0 lo:Nat):Int)/\(sliceBounds lo hi none n).2.1=((HT.sIx n n hi:Nat):Int)/\(sliceBounds lo hi none n).2.2=1:=by
 refine ⟨?_,?_,rfl⟩
 ·cases lo with
  | none=>simp [sliceBounds,HT.sIx]
  | some i =>
   simp only [sliceBounds,HT.sIx,Zn,show (1:Int) > 0 by decide,if_true]
   by_cases h:i < 0
   ·simp only [h,if_true] <;> lia
   ·simp only [h,if_false] <;> lia
 ·cases hi with
  | none=>simp [sliceBounds,HT.sIx]
  | some i =>
   simp only [sliceBounds,HT.sIx,Zn,show (1:Int) > 0 by decide,if_true]
   by_cases h:i < 0
   ·simp only [h,if_true] <;> lia
   ·simp only [h,if_false] <;> lia
theorem ik (its:Zf) (lo hi:Option Int):slicePick its.toArray lo hi none=((its.drop (HT.sIx its.length 0 lo)).take (HT.sIx its.length its.length hi - HT.sIx its.length 0 lo)).toArray:=by
 obtain ⟨h1,h2,h3⟩:=iY lo hi its.toArray.size
 unfold slicePick
 rw [h1,h2,h3]
 simp only [sliceRange_one,pick_run,zd] <;> rfl
noncomputable def wD (K:Zi):V->Option Int->Option Int->Hp->VK->Prop:=fun x lo hi H Q=>∃ a xs,x=.ref a/\SqL K H a xs/\∀ p,H p=none->Q (.ref p) (upd H p (.lst (mZ xs lo hi)))
theorem p7:SlR X (wD X.K):=by
 intro pins s σ H x v vl vu lo hi sl Q I rx hs pl pu h
 obtain ⟨a,xs,rfl,hx,q⟩:=h
 cases rx
 obtain ⟨its,r,ht,hz⟩:=I.list hx
 have hlen:=r.length
 refine ⟨"list",_,slot_list_getitem.lookup,ht.isList.typeIs,?_⟩
 refine wpAny_getItem_list_slice ht.isList hs pl pu .none (by simp) ?_ (by rw [zd] <;> lia)
 rw [ik,← hlen]
 refine ⟨.ref s.heap.objs.size,_,I.laid (t':=s.toks) (o:=.lst (mZ xs lo hi)) (fun b ob q=>zr _ q) (zm _) ?_,rfl,q _ (I.hok.fresh (zm _))⟩
 exact ⟨zk (jO xs lo hi) hz,_,0,(r.drop (HT.sIx xs.length 0 lo)).take (HT.sIx xs.length xs.length hi - HT.sIx xs.length 0 lo),za _ rfl⟩
theorem cG.or {f:Value} {r r':List V->Hp->VK->Prop} (h:cG X f r) (h':cG X f r'):cG X f (fun xs H Q=>r xs H Q\/r' xs H Q):=by
 intro pins s σ H xs us Q I rs q
 rcases q with q | q
 ·exact h pins s σ H xs us Q I rs q
 ·exact h' pins s σ H xs us Q I rs q
noncomputable def tyV (K:Zi) (T:String) (x:V) (H:Hp):Prop:=match x with
 | .str _=>T = "str"
 | .int _=>T = "int"
 | .ref p=>(T = "list" ∧ ∃ xs,SqL K H p xs)\/(T = "tuple" ∧ ∃ o,K.lookup p=some o/\o.cls=.type "tuple" ∧ o.dict=none) ∨
   (T = "dict" ∧ ((∃ kvs,H p=some (.dK kvs))\/∃ kvs,H p=some (.dT kvs)))\/(T = "set" ∧ ∃ S n,H p=some (.set S n))
 | _=>False
theorem tN {pins:Zk} {σ:St} {H:Hp} {s:Shared} {T:String} {x:V} {v:Value} (I:Inv X pins σ H s) (r:RelV x v) (ty:tyV X.K T x H) :
  s.TypeIs v T/\∀ a,v=.ref a->∃ ob,s.heap.get? a=some ob/\ob.dict=none:=by
 cases x with
 | str z =>
  obtain ⟨t,rfl⟩:=r
  cases (show T = "str" from ty)
  exact ⟨yY s z t,fun _ e=>nomatch e⟩
 | int i =>
  obtain ⟨t,rfl⟩:=r
  cases (show T = "int" from ty)
  exact ⟨typeIs_int s i t,fun _ e=>nomatch e⟩
 | ref p =>
  cases r
  rcases ty with ⟨rfl,xs,hq⟩ | ⟨rfl,o,hk,hc,hd⟩ | ⟨rfl,hk⟩ | ⟨rfl,S,n,hk⟩
  ·obtain ⟨its,_,pl,_⟩:=I.list hq
   refine ⟨pl.isList.typeIs,fun a e=>?_⟩
   cases e
   obtain ⟨o,n,e,c,hd,_⟩:=pl
   exact ⟨o,e,hd⟩
  ·refine ⟨⟨o,I.kIn p o hk,hc⟩,fun a e=>?_⟩
   cases e
   exact ⟨o,I.kIn _ o hk,hd⟩
  ·have z:∃ o,s.heap.get? p=some o/\o.ExactDict:=by
    rcases hk with ⟨kvs,hk⟩ | ⟨kvs,hk⟩
    ·obtain ⟨_,_,_,_,o,_,_,e,ex,_⟩:=I.hok p _ hk
     exact ⟨o,e,ex⟩
    ·obtain ⟨_,_,_,_,o,_,_,e,ex,_⟩:=I.hok p _ hk
     exact ⟨o,e,ex⟩
   obtain ⟨o,e,ex⟩:=z
   refine ⟨⟨o,e,ex.1⟩,fun a e2=>?_⟩
   cases e2
   exact ⟨o,e,ex.2.1⟩
  ·obtain ⟨o,_,_,_,e,ex,_⟩:=I.hok p _ hk
   refine ⟨⟨o,e,ex.1⟩,fun a e2=>?_⟩
   cases e2
   exact ⟨o,e,ex.2.1⟩
 | _=>exact False.elim ty
noncomputable def tBM (K:Zi) (T:String) (r:V->List V->Hp->VK->Prop) (to:TE) (t:TA):TE:=fun σ H Q=>to σ H fun x H1=>tyV K T x H1/\t σ H1 fun xs H2=>r x xs H2 Q
variable {o e:Expr} {es:List Expr} {to:TE} {t:TA} {name:Str} {apos cpos:Pos} {T id:String} {r:V->List V->Hp->VK->Prop}
theorem rN (pa:PlainAttrs T) (slot:Slot T name id) (hty:typeOf (.builtin id)=pure (.type "method_descriptor")) (hm:MtR X id r) (ho:PE X o to) (ha:PA X (e :: es) t)
  (hbase:attributeBase o name X.env (eval o X.env)=eval o X.env:=by rfl)
  (hfew:((backTo cpos (starEach (e :: es) X.env)).all (fun x=>!x.1) && (backToKw cpos (keywordEach [] X.env)).all (fun x=>x.1.isSome)
   && decide ((e :: es).length+([]:List Keyword).length+(if ([]:List Keyword).isEmpty then 0 else 1) < 30))=true:=by rfl)
  (hline:(apos.endLine == cpos.line)=true:=by rfl) (hs:starEach (e :: es) X.env=(false,eval e X.env) :: starEach es X.env:=by rfl) (hplain:(backTo cpos (starEach es X.env)).any (·.1)=false:=by rfl) :
  PE X (.Call (.Attribute o name apos) (e :: es) [] cpos) (tBM X.K T r to t):=by
 intro pins s σ H Q I h
 refine wpAny_Call_method_late hbase hfew hline rfl (thn (ho pins s σ H _ I h) fun v s1 ⟨x,H1,I1,r1,ty,q1⟩=>?_)
 obtain ⟨h1,h2⟩:=tN I1 r1 ty
 refine ⟨T,id,pa,slot,hty,h1,h2,?_⟩
 have hA:=ha cpos pins s1 σ H1 _ I1 q1
 rw [hs] at hA ⊢
 refine Zz (by show (false || (backTo cpos (starEach es X.env)).any (·.1))=false;rw [hplain] <;> rfl) (Zp ?_)
 exact thn hA fun us s2 ⟨vs,H2,I2,r2,q2⟩=>hm pins s2 σ H2 x vs v us Q I2 r1 r2 q2
end
noncomputable def MtM (X:Cx) (id:String) (r:V->List V->Hp->VK->Prop):Prop :=
 ∀ (pins:Zk) (s:Shared) (σ:St) (H:Hp) (x:V) (xs:List V) (v:Value) (us:Zf) (Q:VK),Inv X pins σ H s->RelV x v->aW xs us->r x xs H Q →
  wpAny (model X.prog X.w) X.A (call (.builtin id) (v :: us)) (EP X pins σ Q) X.xe s
theorem aW.nil_inv {us:Zf} (h:aW [] us):us=[]:=by
 cases h
 rfl
theorem aW.cons_inv {x:V} {xs:List V} {us:Zf} (h:aW (x :: xs) us):∃ u vs,us=u :: vs/\RelV x u/\aW xs vs:=by
 cases h with
 | cons r t=>exact ⟨_,_,rfl,r,t⟩
theorem aW.one {x:V} {us:Zf} (h:aW [x] us):∃ u,us=[u]/\RelV x u:=by
 obtain ⟨u,vs,rfl,r,t⟩:=h.cons_inv
 rw [t.nil_inv]
 exact ⟨_,rfl,r⟩
theorem aW.rep {xs:List V} {us:Zf} (h:aW xs us):∀ k:Nat,aW (List.replicate k xs).flatten (List.replicate k us).flatten
 | 0=>.nil
 | k+1=>by
  rw [zH,zH,zc,zc]
  exact aW.append h (aW.rep h k)
theorem foldl_rep (its:Zf):∀ (k:Nat) (acc:Zf),
  List.foldl (fun x1 x2=>x1++x2) acc.toArray (List.replicate k its.toArray)=(acc++(List.replicate k its).flatten).toArray
 | 0,acc=>by simp
 | k+1,acc=>by
  have e:acc.toArray++its.toArray=(acc++its).toArray:=by simp
  have e2:(acc++its)++(List.replicate k its).flatten=acc++(List.replicate (k+1) its).flatten:=by
   rw [zH,zc,yH]
  rw [← e2,← foldl_rep its k (acc++its),← e,zH,yP]
section
variable {X:Cx} {pins:Zk} {σ:St} {H:Hp} {s:Shared} {l b:Addr} {xs ys zs:List V}
theorem Inv.lset {its its':Zf} {n:Nat} {f:Array Value->Array Value} {t':Nat} (I:Inv X pins σ H s) (hH:H l=some (.lst xs))
  (e:s.heap.get? l=some { cls:=.type "list",data:=.seq its.toArray n }) (hf:f its.toArray=its'.toArray) (hv:aW ys its') (hz:ys.length<=sizeLine) :
  Inv X pins σ (upd H l (.lst ys)) { s with heap:=s.heap.update l (Obj.mapSeq f),toks:=t' }:=by
 have q:=PySem.IsL.update e f
 rw [hf] at q
 refine I.write (x:=l) (e:=l) (by rw [hH];exact trivial) (.inl rfl) (fun b' u hb hu=>(zC s.heap (Obj.mapSeq f) (yR hb)).trans hu) ⟨_,q⟩ ?_
 exact ⟨hz,its',_,hv,q⟩
theorem Inv.lnew {its:Zf} {t':Nat} (I:Inv X pins σ H s) (hv:aW ys its) (hz:ys.length<=sizeLine) :
  Inv X pins σ (upd H s.heap.objs.size (.lst ys)) { s with heap:=s.heap.push { cls:=.type "list",data:=.seq its.toArray },toks:=t' } :=
 I.laid (fun _ _ q=>zr _ q) (zm _) ⟨hz,its,0,hv,za _ rfl⟩
theorem Inv.fresh (I:Inv X pins σ H s):H s.heap.objs.size=none:=I.hok.fresh (zm _)
theorem Inv.lstM (I:Inv X pins σ H s) (hH:H l=some (.lst xs)):xs.length<=sizeLine/\∃ (its:Zf) (n:Nat),aW xs its/\xs.length=its.length/\s.heap.get? l=some { cls:=.type "list",data:=.seq its.toArray n }:=by
 obtain ⟨z,its,n,r,e⟩:=I.hok l _ hH
 exact ⟨z,its,n,r,r.length,e⟩
theorem gQ {n:Nat} (h:n<=sizeLine):Builtin.List.listTooLong n=false:=by
 unfold Builtin.List.listTooLong
 exact decide_eq_false (by exact Nat.not_lt_of_le h)
end
section
variable {X:Cx}
noncomputable def lF:V->List V->Hp->VK->Prop:=fun x vs H Q=>∃ l xs y,x=.ref l/\vs=[y]/\H l=some (.lst xs)/\xs.length < sizeLine/\Q .non (upd H l (.lst (xs++[y])))
theorem iQ:MtM X "list.append" lF:=by
 intro pins s σ H x vs v us Q I rx rv h
 obtain ⟨l,xs,y,rfl,rfl,hH,hz,q⟩:=h
 cases rx
 obtain ⟨u,rfl,ru⟩:=rv.one
 obtain ⟨z,its,n,r,hl,e⟩:=I.lstM hH
 refine x6 F.slot_list_append ⟨_,e,rfl⟩ F.entry_list_append (F.args_list_append_2 _ _) (PySem.list_append l its.toArray n u (by rw [zd];lia)) ⟨e,?_⟩
 refine ⟨.non,_,I.lset (its':=its++[u]) hH e (by simp) (r.append (.cons ru .nil)) ?_,rfl,q⟩
 rw [zp,yq]
 exact Nat.succ_le_of_lt hz
noncomputable def wj:R2:=fun x y H Q=>∃ l b xs zs,x=.ref l/\y=.ref b/\H l=some (.lst xs)/\H b=some (.lst zs)/\xs.length+zs.length<=sizeLine/\∀ p,H p=none->Q (.ref p) (upd H p (.lst (xs++zs)))
theorem uO:OpR X (binaryOp .Add) wj:=by
 intro pins s σ H x y v u Q I rx ry h
 obtain ⟨l,b,xs,zs,rfl,rfl,hH,hB,hz,q⟩:=h
 cases rx
 cases ry
 obtain ⟨z,its,n,r,hl,e⟩:=I.lstM hH
 obtain ⟨z2,its2,n2,r2,hl2,e2⟩:=I.lstM hB
 refine PySem.P.add_list e e2 ?_ (by rw [zd,zd];lia)
 have ea:its.toArray++its2.toArray=(its++its2).toArray:=by simp
 rw [ea]
 exact ⟨.ref _,_,I.lnew (t':=s.toks) (r.append r2) (by rw [zp];omega),rfl,q _ I.fresh⟩
noncomputable def vv:R2:=fun x y H Q=>∃ l k xs,x=.ref l/\y=.int k/\H l=some (.lst xs)/\-(2 ^ 63)<=k/\k < 2 ^ 63/\xs.length * k.toNat<=sizeLine ∧
 ∀ p,H p=none->Q (.ref p) (upd H p (.lst (List.replicate k.toNat xs).flatten))
theorem len_rep {α:Type} (xs:List α) (k:Nat):(List.replicate k xs).flatten.length=k * xs.length:=by
 induction k with
 | zero=>simp
 | succ k ih=>rw [zH,zc,zp,ih,yD,Nat.add_comm]
theorem sW:OpR X (binaryOp .Mult) vv:=by
 intro pins s σ H x y v u Q I rx ry h
 obtain ⟨l,k,xs,rfl,rfl,hH,h1,h2,hz,q⟩:=h
 cases rx
 obtain ⟨t,rfl⟩:=ry
 obtain ⟨z,its,n,r,hl,e⟩:=I.lstM hH
 have hlen:its.toArray.size * k.toNat<=sizeLine:=by rw [zd,← hl];exact hz
 have hcap:¬ its.toArray.size * k.toNat > (2 ^ 63 - 1) / 8:=by
  have:(sizeLine:Nat)<=(2 ^ 63 - 1) / 8:=by decide
  lia
 have hfit:¬ (!Builtin.List.listFitsIndex k)=true:=by
  rw [fitsIndex_both h1 h2]
  exact zh
 have hlong:¬ Builtin.List.listTooLong (its.toArray.size * k.toNat)=true:=by
  rw [gQ hlen]
  exact zh
 have hnew:List.foldl (fun x1 x2=>x1++x2) #[] (List.replicate (if its.toArray.isEmpty=true then 0 else k.toNat) its.toArray)=(List.replicate k.toNat its).flatten.toArray:=by
  have f0:∀ m:Nat,List.foldl (fun x1 x2=>x1++x2) #[] (List.replicate m its.toArray)=(List.replicate m its).flatten.toArray:=fun m=>by
   have:=foldl_rep its m []
   rw [yh] at this
   exact this
  rw [f0]
  cases its with
  | nil=>simp
  | cons a r'=>rw [if_neg (by simp)]
 refine wpAny_binaryOp_repeat_ref (T := "list") (U := "int") (by decide) ⟨_,e,rfl⟩ (fun s'=>typeIs_int s' k t) noFill_list_mul F.fills_int_mul F.slot_int_rmul repeat_list F.slot_int_index.lookup
  (x6 F.slot_int_rmul (typeIs_int s k t) F.entry_int_rmul (F.args_int_rmul_2 _ _) (int___rmul___int_list k t l its.toArray n)
   ⟨e,rfl,⟨_,e,rfl⟩,x6 F.slot_list_mul ⟨_,e,rfl⟩ F.entry_list_mul (F.args_list_mul_2 _ _) (AutoListH.list___mul___list_int_3 l its.toArray n k t hfit hcap hlong) ⟨e,?_⟩⟩)
 rw [hnew]
 exact ⟨.ref _,_,I.lnew (t':=s.toks) (r.rep k.toNat) (by rw [len_rep,Nat.mul_comm];exact hz),rfl,q _ I.fresh⟩
end
section
variable {prog:Program} {w:World} {A:Around} {E:Zt} {s:Shared}
theorem kA {a c n:Nat} (hac:a<=c) (hc:c<=n):sliceBounds (some (a:Int)) (some (c:Int)) none n=((a:Int),(c:Int),1):=by
 simp only [sliceBounds,Zn]
 have h1:¬ ((a:Int) < 0):=by lia
 have h2:¬ ((c:Int) < 0):=by lia
 simp only [h1,h2,if_false,show (1:Int) > 0 by decide,if_true]
 congr 1
 ·lia
 ·congr 1;lia
set_option maxRecDepth 100000 in
theorem pv {l b sl:Addr} {items new:Array Value} {n n2:Nat} {vl vu:Value} {a c:Nat} {Q:Unit->Shared->Prop}
  (e:s.heap.get? l=some { cls:=.type "list",data:=.seq items n }) (e2:s.heap.get? b=some { cls:=.type "list",data:=.seq new n2 }) (hne:l ≠ b)
  (hs:s.heap.IsSliceOf sl vl vu .none) (pl:IsPart vl (some (a:Int))) (pu:IsPart vu (some (c:Int))) (hac:a<=c) (hc:c<=items.size)
  (hsz:items.size+new.size<=sizeLine) (h:Q () { s with heap:=s.heap.update l (Obj.mapSeq fun xs=>xs.extract 0 a++new++xs.extract c xs.size) }) :
  wpAny (model prog w) A (setItem (.ref l) (.ref sl) (.ref b)) Q E s:=by
 have hl:s.heap.IsList l items:=PySem.IsL.isList e
 have hb:s.heap.IsList b new:=PySem.IsL.isList e2
 obtain ⟨os,hos,hcs,hds⟩:=id hs
 have hTs:s.TypeIs (.ref sl) "slice" := ⟨os,hos,hcs⟩
 have hstep:¬ ((rawPart none == rawInt 0)=true):=zh
 have hsame:Builtin.List.listSameRef (.ref l) (.ref b)=false:=by
  unfold Builtin.List.listSameRef
  exact beq_eq_false_iff_ne.mpr hne
 have hmax:(max (a:Int) (c:Int)).toNat=c:=by lia
 have hz':((fun xs:Array Value=>xs.extract 0 a++new++xs.extract c xs.size) items).size<=sizeLine+1:=by
  simp only [Array.size_append,Array.size_extract]
  lia
 unfold setItem
 try with_reducible refine wpAny_holding ?_
 first | refine zu (zf ?_) | skip
 refine zu (wpAny_sequenceKey hl.typeIs (by decide) ?_)
 refine zu (wpAny_callSpecial?_slot (name:=Str.ofString "__setitem__") hl.typeIs slot_list_setitem
  (wpAny_call_entry slot_list_setitem hl.typeIs entry_list_setitem ?_ (args_list_setitem _ _ _)))
 show wpAny _ _ (Builtin.List.listSubscript? (.ref sl) >>= _) _ _ s
 refine zu ?_
 unfold Builtin.List.listSubscript?
 refine zu (wpAny_specialOf hTs slice_no_index ?_)
 simp only [Option.isNone_none,if_true]
 refine zf ?_
 show wpAny _ _ (typeOf (.ref sl) >>= _) _ _ s
 refine zu (wpAny_typeOf hTs ?_)
 first
  | rw [if_neg (by decide)]
  | refine Zx (by decide) ?_
 rw [listSliceParts_eq]
 refine zu (zu (yW hos hds (x:=.none) rfl (zu (wpAny_listPart .none ?_))))
 rw [if_neg hstep]
 refine zu (yW hos hds (x:=vl) rfl (zu (wpAny_listPart pl ?_)))
 refine zu (yW hos hds (x:=vu) rfl (zu (wpAny_listPart pu (zf ?_))))
 first
  | simp only [hsame,ye,if_false]
  | refine Zx hsame ?_
  | (dsimp only
     rw [if_neg (by rw [hsame];exact zh)])
 refine zu (m:=Builtin.List.listAllItems (.ref b) "must assign iterable to extended slice") ?_
 unfold Builtin.List.listAllItems
 refine zu (wpAny_typeOf hb.typeIs ?_)
 first
  | refine PySem.W.KFB.if_so (by decide) ?_
  | rw [zi (by decide)]
  | simp only [beq_self_eq_true,Bool.true_or,if_true]
 unfold Builtin.List.listItems
 refine zu (wpAny_seqItems e2 rfl (zf ?_))
 refine zu (zu (wpAny_seqItems e rfl (zf ?_)))
 refine zu (wpAny_of_eq ((sliceIndices_raw (some (a:Int)) (some (c:Int)) none items.size (by simp)).trans (congrArg (pure:Int×Int×Int->Sem (Int×Int×Int)) (kA hac hc))) ?_)
 show wpAny _ _ (if ((1:Int) == 1)=true then _ else _) _ _ s
 rw [zi (by decide)]
 refine zu (wpAny_rule ?_)
 first
  | simp only [gQ hsz,ye,if_false]
  | refine Zx (gQ hsz) ?_
 first | refine zu (zf ?_) | skip
 show wpAny _ _ (updateSeq l (fun xs=>xs.extract 0 ((a:Int)).toNat++new++xs.extract (max (a:Int) (c:Int)).toNat xs.size) >>= _) _ _ s
 rw [hmax,Int.toNat_natCast]
 refine zu (wpAny_updateSeq (hz:=zk (Nat.le_add_right _ _) hsz) (_hz':=hz') e rfl ?_)
 refine zu (wpAny_letGo ?_)
 first
  | exact zu (zf (zf ⟨.none,rfl,zf h⟩))
  | exact zf ⟨.none,rfl,zf h⟩
end
section
variable {κ:Type} [DecidableEq κ]
noncomputable def ny (kvs:List (κ×V)) (k:κ):Option V:=(kvs.find? fun kv=>decide (kv.1=k)).map (·.2)
noncomputable def putK (kvs:List (κ×V)) (k:κ) (v:V):List (κ×V) :=
 if (kvs.any fun kv=>decide (kv.1=k))=true then kvs.map (fun kv=>if kv.1=k then (kv.1,v) else kv) else kvs++[(k,v)]
noncomputable def xU (kvs:List (κ×V)) (k:κ):List (κ×V):=kvs.filter fun kv=>decide (kv.1 ≠ k)
theorem wt {p:κ×V} {r:List (κ×V)} {k:κ} (e:p.1=k):ny (p :: r) k=some p.2:=by simp [ny,List.find?_cons,e]
theorem v5 {p:κ×V} {r:List (κ×V)} {k:κ} (e:¬ p.1=k):ny (p :: r) k=ny r k:=by simp [ny,List.find?_cons,e]
theorem KV.length {kvs:List (κ×V)} {vs:List (κ×Value)} (r:KV kvs vs):kvs.length=vs.length:=Paired.length r
end
section
variable {P:Program} {w:World} {H:Hp} {h:Heap} {a:Addr}
theorem vP {u:HO} (ok:HOk P w H h) (e:Rd H a u):bN P w H h a u:=e.ok ok
theorem wz {kvs:List (Key×V)} (ok:HOk P w H h) (e:Rd H a (.dK kvs)):kvs.length<=sizeLine/\(a == sysModules)=false/\∃ vs,KV kvs vs/\h.DictOf (gG P w) a vs :=
 show bN P w H h a (.dK kvs) from vP ok e
end
section
variable {X:Cx} {pins:Zk} {σ:St} {H:Hp} {s:Shared} {a:Addr} {y v:V} {u r:Value} {o:Option V} {A:Around} {E:Zt}
theorem Inv.big (I:Inv X pins σ H s):sysModules < s.heap.objs.size:=by
 have h:mainGlobals < s.heap.objs.size:=(I.mod.glob.keeps I.bk).lt
 exact Nat.lt_trans (by decide) h
end
section
variable {X:Cx} {pins:Zk} {σ:St} {H:Hp} {s:Shared} {a:Addr} {kvs:List (Key×V)} {k:Key} {u:Value} {A:Around} {E:Zt}
theorem vQ {Q:Zt} (I:Inv X pins σ H s) (e:Rd H a (.dK kvs)) (h:∀ t s',Inv X pins σ H s'->Q (.int kvs.length t) s'):wpAny (model X.prog X.w) A (call (.builtin "len") [.ref a]) Q E s:=by
 obtain ⟨z,hd,vs,rel,dd⟩:=wz I.hok e
 refine call_len_dict hd dd (by rw [← rel.length];rw [yV] at z;lia) ?_
 rw [← rel.length]
 exact h _ _ (I.tok _)
end
theorem oj {P:Program} {w:World} {H:Hp} (h:Heap) (hb:sysModules < h.objs.size):bN P w H (h.push { cls:=.type "dict",data:=.dict #[] }) h.objs.size (.dK []) :=
 ⟨yd _,beq_eq_false_iff_ne.mpr (yR (zQ hb)),[],.nil,Heap.DictOf.new h⟩
noncomputable def uP:TE:=fun _ H Q=>∀ p,H p=none->Q (.ref p) (upd H p (.dK []))
section
variable {X:Cx} {pos:Pos}
theorem nM:PE X (.Dict [] [] pos) uP:=fun pins s σ H Q I h =>
 wpAny_Dict_empty ⟨.ref s.heap.objs.size,_,I.laid (a:=s.heap.objs.size) (o:=.dK []) (t':=s.toks) (fun _ _ q=>zr _ q) (zm _) (oj s.heap I.big),rfl,h _ (I.hok.fresh (zm _))⟩
end
end L2
namespace Att
open PySem PySem.W PySem.Calls PyProof.Rows
theorem gz {P:Params} {h:Heap}:∀ (ns:Zc) (vs:Zf),WellAll P h vs (ns.map WData.int)->IntsAre vs ns:=by
 intro ns
 induction ns with
 | nil =>
  intro vs w
  rw [List.map_nil] at w
  cases w
  exact .nil
 | cons n ns ih =>
  intro vs w
  rw [zR] at w
  cases w with
  | cons a b =>
   cases a
   exact .cons _ _ (ih _ b)
theorem lR {l:OpenLaw} {n:Nat} (hn:l.most=some n) {P:Params} {h:Heap} {args:List WData} {vals:Zf}
  (hpre:l.row.toRowW.claim.pre args=true) (hwl:WellAll P h vals args) :
  ∃ a vs ns,vals=[Value.ref a]/\args=[WData.list (ns.map WData.int)]/\h.get? a=some { cls:=.type "list",data:=.seq vs.toArray }/\IntsAre vs ns/\ns.length<=n:=by
 have hsh:WShape.hasAll [] args [.list .int]=true:=(pre_splitW hpre).1
 have hc:l.pre.holds [] { args:=args }=true:=(pre_splitW hpre).2
 obtain ⟨d,r,rfl,h1,h2⟩:=hasAllW_cons hsh
 obtain rfl:=hasAllW_nil h2
 obtain ⟨xs,rfl,h3⟩:=hasW_list h1
 obtain ⟨ns,rfl⟩:=items_int h3
 have hlen:ns.length<=n:=by
  unfold OpenLaw.pre at hc
  have h4:(WTm.not (.lt (.lit (.int (n:Int))) (.len (.arg 0)))).holds [] { args:=[.list (ns.map .int)] }=true:=by
   have h4:=(holds_andW hc).1
   rw [hn] at h4
   exact h4
  have h5:=condW_of h4 (w_not (w_lt w_lit (w_len_list (w_arg rfl))))
  rw [zt] at h5
  refine yn fun q=>?_
  have q':(n:Int) < ((ns.length:Nat):Int):=by omega
  first
   | (rw [decide_eq_true q'] at h5;exact absurd h5 (by decide))
   | (simp at h5;omega)
 cases hwl with
 | cons w1 w2 =>
  cases w2
  cases w1 with
  | list ho hall=>exact ⟨_,_,ns,rfl,rfl,ho,gz ns _ hall,hlen⟩
theorem mS (l:OpenLaw) (args:List WData):l.row.toRowW.claim.post args (.bool true) args=true :=
 postW_of (r:=l.row.toRowW) (X:=(true == true))
  (show WShape.has [] (.bool true) .bool=true by first | rfl | decide | simp [WShape.has,WShape.arms,WShape.armsAll])
  (show (WTm.eq .res (.lit (.bool true))).value [] { args:=args,res:=some (.bool true),after:=args }=some (.bool (true == true)) from w_eq_bool (w_res rfl) w_lit) rfl
theorem kb {l:OpenLaw} {n:Nat} {q:Program} {loose:List Str} {XP:(Zh)->Heap->Prop} {YP:World->Heap->Prop} {d:DefRec}
  (hn:l.most=some n) (hdf:d.params.defaults=[])
  (call:∀ (w:World) (s₀ s₁:Shared) (mg mb:Zh) (fa:Addr) (o:Obj) (pm cd doc:Value) (a:Addr) (vs:Zf) (ns:Zc),
   Ground q loose [] XP w s₀ mg mb s₁.heap->YP w s₁.heap →
   s₁.heap.get? fa=some o->o.data=.func (docDef d.name d.params d.body d.scope pm cd doc)->s₁.heap.CodeRec cd d.name->mg d.name=some (.ref fa) →
   s₁.heap.get? a=some { cls:=.type "list",data:=.seq vs.toArray }->IntsAre vs ns->ns.length<=n->s₁.gens=#[] →
   codeAny (model l.prog w) callerA (.call (.ref fa) ⟨[.ref a],[]⟩) (fun r s'=>r=.ok (.ret (.bool true))/\OldK s₁.heap s'.heap/\s'.os=s₁.os/\AllBare s'.gens) s₁) :
  WalkO q loose XP YP l.row.toRowW d [] (fun f vs=>PySem.call f vs):=by
 intro w s₀ s₁ mg mb G Y fa o pm cd doc dV kV ho hd hcd hD hmg hg args vals as hpre hlay hrd hwl hlo
 obtain rfl:dV=.none:=Dflts.none hD hdf
 obtain rfl:kV=.none:=Dflts.noKw hD
 obtain ⟨a,vs,ns,rfl,rfl,hobj,hints,hlen⟩:=lR hn hpre hwl
 refine enter_call (x5 (call w s₀ s₁ mg mb fa o pm cd doc a vs ns G Y ho (fd_plain hd) hcd hmg hobj hints hlen hg) fun r s' hq=>?_)
 obtain ⟨rfl,h2,h3,h4⟩:=hq
 exact ⟨.inl ⟨.bool true,.bool true,[],rfl,fun _=>rfl,.bool true,mS l _,fun _=>⟨List.Pairwise.nil,fun _ hm=>(nomatch hm)⟩⟩,h2,h3,h4⟩
end Att
namespace L2
open PySem PySem.Spec PyProof.Rows
theorem iF:∀ {vs:Zf} {ns:Zc},IntsAre vs ns->aW (ns.map V.int) vs
 | _,_,.nil=>.nil
 | _,_,.cons n t h=>.cons ⟨t,rfl⟩ (iF h)
noncomputable def n5 (H:Hp):Prop:=∀ b,H b=none\/∃ o xs,H b=some (.frz o (.lst xs))
theorem nr {P:Program} {w:World} {K:Zi} {mg mb:Zh} {CX:CXT} {k:Nat} {fa a:Addr} {fd:FuncData} {x:Str} {sp:Sp} {s₁:Shared} {vs:Zf} {ns:Zc}
  (KX:K.In s₁.heap) (hns:s₁.heap.Ns mainGlobals mg) (hb:s₁.heap.Ns builtinsNs mb) (hbb:∀ x:Str,x ≠ "__name__" → mb x=bootBuiltins x) (hlim:s₁.heap.NoLimit) (hg:s₁.gens=#[])
  (ha:s₁.heap.get? a=some { cls:=.type "list",data:=.seq vs.toArray }) (hi:IntsAre vs ns) (hl:ns.length<=sizeLine) (hr:Room k callerA)
  (F:∀ base:Heap,K.In base->base.Ns mainGlobals mg->FnOk P w K mg base CX k fa fd [x] sp) (hbind:∀ (s:Shared) (u:Value),BindsTo s fd ⟨[u],[]⟩ [(x,u)])
  (hsp:∀ H:Hp,n5 H->SqL K H a (ns.map V.int)->sp [.ref a] H (fun v _=>v=.bl true) fun _ _ _=>False)
  (hCX:∀ H e s',CX [] H s₁ (fun _ _ _=>False) e s'->False) :
  codeAny (model P w) callerA (.call (.ref fa) ⟨[.ref a],[]⟩) (fun r s'=>r=.ok (.ret (.bool true))/\OldK s₁.heap s'.heap/\s'.os=s₁.os/\AllBare s'.gens) s₁:=by
 have rv:=iF hi
 have lenV:=hi.length
 have core:∀ H:Hp,n5 H->SqL K H a (ns.map V.int)->HOk P w H s₁.heap->(∀ b,H b ≠ none->b=a)->(H a ≠ none->K.lookup a=none) →
   codeAny (model P w) callerA (.call (.ref fa) ⟨[.ref a],[]⟩) (fun r s'=>r=.ok (.ret (.bool true))/\OldK s₁.heap s'.heap/\s'.os=s₁.os/\AllBare s'.gens) s₁:=by
  intro H hO hS hok hA hK
  have base_of:∀ {b:Addr} {o:Obj},s₁.heap.get? b=some o->H b=none->(jv s₁.heap H).get? b=some o:=fun e n=>o9 e n
  have noA:∀ {b:Addr} {o:Obj} {es:Array DictEntry} {ep:Nat},s₁.heap.get? b=some o->o.data=.dict es ep->H b=none:=fun {b o es ep} e d=>by
   cases q:H b with
   | none=>rfl
   | some u =>
    have e':b=a:=hA b (by rw [q];simp)
    subst e'
    rw [ha] at e;cases e
    have d':Data.seq vs.toArray _=Data.dict es ep:=d
    cases d'
  have nsK:∀ {b:Addr} {m:Zh},s₁.heap.Ns b m->(jv s₁.heap H).Ns b m:=fun {b m} ⟨o,es,ep,e,d,r⟩=>⟨o,es,ep,base_of e (noA e d),d,r⟩
  have hKb:K.In (jv s₁.heap H):=fun b o e=>base_of (KX b o e) (by
   cases q:H b with
   | none=>rfl
   | some u =>
    have e':b=a:=hA b (by rw [q];simp)
    subst e'
    rw [hK (by rw [q];simp)] at e;cases e)
  have hM:Mod K mg (jv s₁.heap H):=⟨hKb,nsK hns,⟨mb,nsK hb,hbb⟩,let ⟨mc,h1,h2⟩:=hlim;⟨mc,nsK h1,h2⟩⟩
  have e0:Env0 P w K mg (jv s₁.heap H) callerA [] s₁ H:=⟨rfl,hM,fun b o e=>rk e,Nat.le_of_eq (mP _ _),trivial,fun b hb=>absurd (show b∈([]:Zg) from hb) (by simp),hok,.of_eq hg⟩
  refine x5 ((F _ hKb (nsK hns)).run callerA [] s₁ H ⟨[.ref a],[]⟩ [.ref a] [.ref a] _ _ hr e0 (hbind s₁ (.ref a)) (.cons rfl .nil) (hsp H hO hS)) fun r s' h=>?_
  cases r with
  | error e=>exact (hCX H e s' h).elim
  | ok fl =>
   cases fl with
   | next=>exact False.elim h
   | brk=>exact False.elim h
   | cont=>exact False.elim h
   | ret u =>
    obtain ⟨v,H',os,bare,un,hok',r',q⟩:=h
    have q':v=.bl true:=q
    subst q'
    obtain rfl:u=Value.bool true:=r'
    refine ⟨rfl,OldK.of_keep fun b o e=>?_,os,bare⟩
    cases q:H b with
    | none=>exact un.keep b o e q (by intro z;exact absurd (show b∈([]:Zg) from z) (by simp)) (by simp)
    | some u =>
     rcases hO b with z | ⟨ob,xs,z⟩
     ·rw [q] at z;cases z
     ·have z2:=un.frzs b ob _ z
      obtain ⟨e1,_⟩:=hok b _ z
      obtain ⟨e2,_⟩:=hok' b _ z2
      rw [e] at e1;cases e1
      exact e2
 cases hk:K.lookup a with
 | some o =>
  have e:=KX a o hk
  rw [ha] at e
  cases e
  refine core (fun _=>none) (fun _=>.inl rfl) (.inr ⟨_,vs.toArray,_,hk,rfl,rfl,rfl,by rw [zd,lenV];exact hl,by simpa using rv⟩) (fun b u z=>by have z':(none:Option HO)=some u:=z;cases z') (fun b z=>absurd rfl z) fun z=>absurd rfl z
 | none =>
  refine core (fun b=>if b=a then some (.frz { cls:=.type "list",data:=.seq vs.toArray } (.lst (ns.map V.int))) else none) (fun b=>?_) (.inl (.inr ⟨{ cls:=.type "list",data:=.seq vs.toArray },zi rfl⟩)) (fun b u z=>?_) (fun b z=>?_) fun _=>hk
  ·by_cases hb:b=a
   ·exact .inr ⟨_,_,zi hb⟩
   ·exact .inl (if_neg hb)
  ·by_cases hb:b=a
   ·have z':=(zi hb).symm.trans z
    cases z'
    subst hb
    exact ⟨ha,by rw [zt];exact hl,vs,_,rv,ha⟩
   ·have z':=(if_neg hb).symm.trans z
    cases z'
  ·by_cases hb:b=a
   ·exact hb
   ·exact absurd (if_neg hb) z
theorem qL {l:PySem.W.OpenLaw} {n k:Nat} {q:Program} {loose:List Str} {XP:(Zh)->Heap->Prop} {YP:World->Heap->Prop} {d:DefRec} {K:Params->Zi} {CX:World->CXT} {sp:World->Sp} {x:Str}
  (hn:l.most=some n) (hn2:n<=sizeLine) (hdf:d.params.defaults=[]) (hr:Room k callerA)
  (hY:∀ (w:World) (h:Heap),YP w h->(K w.params).In h)
  (F:∀ (w:World) (mg:Zh) (fa:Addr) (h:Heap),(K w.params).In h->h.Ns mainGlobals mg->mg d.name=some (.ref fa) →
   ∃ fd:FuncData,(∀ (s:Shared) (u:Value),BindsTo s fd ⟨[u],[]⟩ [(x,u)]) ∧
    ∀ base:Heap,(K w.params).In base->base.Ns mainGlobals mg->FnOk l.prog w (K w.params) mg base (CX w) k fa fd [x] (sp w))
  (hsp:∀ (w:World) (H:Hp) (a:Addr) (ns:Zc),ns.length<=n->n5 H->SqL (K w.params) H a (ns.map V.int)->sp w [.ref a] H (fun v _=>v=.bl true) fun _ _ _=>False)
  (hCX:∀ (w:World) (H:Hp) (s:Shared) (e:Value) (s':Shared),CX w [] H s (fun _ _ _=>False) e s'->False) :
  PySem.W.WalkO q loose XP YP l.row.toRowW d [] (fun f vs=>PySem.call f vs):=by
 refine Att.kb hn hdf fun w s₀ s₁ mg mb fa o pm cd doc a vs ns G Y ho hd hcd hmg hobj hints hlen hg=>?_
 have KX:=hY w _ Y
 obtain ⟨fd,hb,hF⟩:=F w mg fa _ KX G.T.g hmg
 exact nr KX G.T.g G.T.b G.T.builtins G.T.nolimit hg hobj hints (zk hlen hn2) hr hF hb (fun H hO hS=>hsp w H a ns hlen hO hS) fun H e s'=>hCX w H s₁ e s'
noncomputable def bb (s:Stmt):Arguments:=match s with
 | .FunctionDef _ a _ _ _ _ _ _ _ _=>a
 | _=>{ posonlyargs:=[],args:=[],vararg:=none,kwonlyargs:=[],kw_defaults:=[],kwarg:=none,defaults:=[] }
noncomputable def aO (s:Stmt):List Stmt:=match s with
 | .FunctionDef _ _ b _ _ _ _ _ _ _=>b
 | _=>[]
noncomputable def ai (s:Stmt):Scope:=match s with
 | .FunctionDef _ _ _ _ _ _ sc _ _ _=>sc
 | _=>{ kind:=.function,names:=[],isGenerator:=false,isCoroutine:=false }
noncomputable abbrev CX0:CXT:=fun _ _ _ _ _ _=>False
noncomputable abbrev E0:XK:=fun _ _ _=>False
theorem vY {X:Cx}:kF CX0 X E0:=fun _ _ _ _ _ _ _ h=>h.elim
structure Fun (K:Zi) (x qual:Str) (st:Stmt) (f:Addr) (fd:FuncData):Prop where
 ex:∃ (oc:Value) (od:Option Addr) (kV doc pm:Value) (an:Option Addr) (cdv ct:Value) (osl:Array (Ze)),
  fd=PySem.W.fnOf x qual (bb st) (aO st) (ai st) .none kV doc pm an cdv ct/\K.lookup f=some ⟨oc,od,.func fd,osl⟩/\PySem.W.codeIn K cdv qual=true
 kp:PySem.W.keepIn K (.ref f)=true
section
variable {P:Program} {w:World} {K:Zi} {mg:Zh} {base:Heap}
theorem Fun.ok {x qual:Str} {st:Stmt} {f:Addr} {fd:FuncData} {N ps:List Str} {k:Nat} {sp:Sp} (F:Fun K x qual st f fd) (S:FnScope N ps (ai st)) (len:∀ vs H Q E,sp vs H Q E->vs.length=ps.length)
  (hbody:∀ (cdv:Value) (A:Around) (outer:List Env) (s:Shared) (H:Hp) (vs:List V) (Q:VK) (E:XK),Room k (A.deeper (envOfC qual (ai st) s.heap.objs.size f cdv))->sp vs H Q E →
   ∃ t,PSs (fm CX0 P w K mg base N qual (ai st) f cdv A outer s H E).nox (aO st) t/\t { nx:=fun _ H'=>Q .non H',rt:=Q } (start N vs) H):FnOk P w K mg base CX0 (k+1) f fd ps sp:=by
 obtain ⟨oc,od,kV,doc,pm,an,cdv,ct,osl,rfl,lk,hcd⟩:=F.ex
 refine rE lk hcd S len fun A outer s H vs Q E hr hsp=>?_
 obtain ⟨t,h,q⟩:=hbody cdv A outer s H vs Q E hr hsp
 exact ⟨t,h.nox,q⟩
theorem Fun.binds {x qual:Str} {st:Stmt} {f:Addr} {fd:FuncData} {ps:List Str} (F:Fun K x qual st f fd)
  (h:∀ (kV doc pm:Value) (an:Option Addr) (cdv ct:Value) (us:Zf),us.length=ps.length->bindArgs (PySem.W.fnOf x qual (bb st) (aO st) (ai st) .none kV doc pm an cdv ct) ⟨us,[]⟩=pure (ps.zip us)):Binds K fd ps []:=by
 obtain ⟨oc,od,kV,doc,pm,an,cdv,ct,osl,rfl,lk,hcd⟩:=F.ex
 exact .all (h kV doc pm an cdv ct)
theorem bV {x qual:Str} {st:Stmt} {f:Addr} {oc:Value} {od an:Option Addr} {osl:Array (Ze)} {kV doc pm cdv ct:Value} (l:K.lookup f=some ⟨oc,od,.func (PySem.W.fnOf x qual (bb st) (aO st) (ai st) .none kV doc pm an cdv ct),osl⟩)
  (c:PySem.W.codeIn K cdv qual=true) (k:PySem.W.keepIn K (.ref f)=true):Fun K x qual st f (PySem.W.fnOf x qual (bb st) (aO st) (ai st) .none kV doc pm an cdv ct):=⟨⟨oc,od,kV,doc,pm,an,cdv,ct,osl,rfl,l,c⟩,k⟩
end
theorem ko {A B:Prop} (h:B):if false=true then A else B:=by
 rw [if_neg zh]
 exact h
theorem kD {A B:Prop} (h:A):if true=true then A else B:=by
 rw [zi rfl]
 exact h
noncomputable def bf (H H':Hp):Prop:=∀ b o,H b=some o->H' b=some o
theorem bf.refl (H:Hp):bf H H:=fun _ _ h=>h
theorem bf.trans {H H1 H2:Hp} (a:bf H H1) (b:bf H1 H2):bf H H2:=fun c o h=>b c o (a c o h)
theorem bf.free {H H':Hp} (e:bf H H') {l:Addr} (h:H' l=Option.none):H l=Option.none:=by
 cases q:H l with
 | none=>rfl
 | some o =>
  rw [e l o q] at h
  cases h
end L2
end
section
namespace NK
open PySem PySem.Spec PyProof.Rows
variable {prog:Program} {w:World} {K:Type} [DecidableEq K] {knd:KeyKind prog w K} {A:Around} {E:Zt} {s:Shared}
inductive Its (knd:KeyKind prog w K) (h:Heap):List (List K)->Zf->Prop
 | nil:Its knd h [] []
 | cons {k:List K} {b:Addr} {ks:List (List K)} {vs:Zf}:IsTupleKey knd h k b->Its knd h ks vs->Its knd h (k :: ks) (.ref b :: vs)
end NK
end
section
namespace L2
open PySem PySem.Spec PyProof.Rows
noncomputable abbrev gB:=List (Zc)
noncomputable def hN (k:gB):Int:=reduceHash (Builtin.Tuple.tupleHashOf (k.map fun x=>reduceHash (Builtin.Tuple.tupleHashOf (x.map hashInt))))
noncomputable def wX (x:gB×Addr×Value):DictEntry:=⟨hN x.1,.ref x.2.1,x.2.2⟩
noncomputable abbrev KN:List (gB×Addr×V)->List (gB×Addr×Value)->Prop:=Paired fun p q=>p.1=q.1/\p.2.1=q.2.1/\RelV p.2.2 q.2.2
noncomputable def DN (a:Addr) (kvs:List (gB×Addr×V)):HO:=.ext fun h=>kvs.length<=sizeLine/\(a == sysModules)=false/\∃ xs:List (gB×Addr×Value),KN kvs xs ∧
 ∃ o es ep,h.get? a=some o/\o.ExactDict/\o.data=.dict es ep/\es.toList=xs.map wX/\(xs.map (·.1)).Nodup
noncomputable def NAt (H:Hp) (k:gB) (b:Addr):Prop:=∃ cs:Zg,H b=some (.tup (cs.map V.ref))/\Paired (fun (x:Zc) (c:Addr)=>H c=some (.tup (x.map V.int))) k cs
theorem NAt.mono {H H':Hp} {k:gB} {b:Addr} (x:NAt H k b) (t:∀ a xs,H a=some (.tup xs)->H' a=some (.tup xs)):NAt H' k b:=by
 obtain ⟨cs,h,r⟩:=x
 exact ⟨cs,t _ _ h,Paired.mapP r fun _ _ z=>t _ _ z⟩
section
variable {P:Program} {w:World} {H:Hp} {h:Heap} {a b:Addr}
noncomputable def atN (kvs:List (gB×Addr×V)) (k:gB):Option V:=(kvs.find? fun x=>decide (x.1=k)).map (·.2.2)
end
end L2
end
section
namespace VS
open PySem PySem.Spec PyProof.Rows L2
noncomputable def sx (s:Tx):Str:=⟨s.toArray⟩
noncomputable def gA (s:Tx):Prop:=s.length<=dh/\∀ c∈s,c < 1114112
structure Gx where
 K:Zi
 ct:Nat->Addr×(Nat->Str)
noncomputable def vc:Key->T
 | .inl i=>.int i
 | .inr x=>.str x.cps.toList
noncomputable def nkT (k:gB):T:=.tup (k.map fun x=>T.tup (x.map T.int))
noncomputable def gw (K:Zi) (H:Hp) (a:Addr) (ns:Zc):Prop :=
 (∃ o,H a=some (.frz o (.lst (ns.map V.int)))) ∨
  ∃ (o:Obj) (its:Array Value) (n:Nat),K.lookup a=some o/\o.cls=.type "list" ∧ o.dict=none/\o.data=.seq its n/\its.size<=sizeLine/\aW (ns.map V.int) its.toList
mutual
inductive Rp (G:Gx) (H:Hp):V->T->Zg->Prop
 | non:Rp G H .non .non []
 | bl (b:Bool):Rp G H (.bl b) (.bl b) []
 | int (i:Int):Rp G H (.int i) (.int i) []
 | str (s:Tx):gA s->Rp G H (.str (sx s)) (.str s) []
 | scr {a:Addr} {ns:Zc}:gw G.K H a ns->Rp G H (.ref a) (.scr ns) []
 | tup {a:Addr} {vs:List V} {ts:Z2} {Fs:Zj}:H a=some (.tup vs)->RpL G H vs ts Fs->Rp G H (.ref a) (.tup ts) Fs.flatten
 | lst {a:Addr} {vs:List V} {ts:Z2} {Fs:Zj}:H a=some (.lst vs)->RpL G H vs ts Fs->Rp G H (.ref a) (.lst ts) (a :: Fs.flatten)
 | dct {a:Addr} {ks:List Key} {vs:List V} {ts:Z2} {Fs:Zj}:H a=some (.dK (ks.zip vs))->ks.length=vs.length->RpL G H vs ts Fs->Rp G H (.ref a) (.dct 0 ((ks.map vc).zip ts)) (a :: Fs.flatten)
 | dctT {a:Addr} {ks:List (List Key)} {vs:List V} {ts:Z2} {Fs:Zj}:H a=some (.dT (ks.zip vs))->ks.length=vs.length->RpL G H vs ts Fs->Rp G H (.ref a) (.dct 1 ((ks.map fun k=>T.tup (k.map vc)).zip ts)) (a :: Fs.flatten)
 | dctN {a:Addr} {ks:List (gB×Addr)} {vs:List V} {ts:Z2} {Fs:Zj}:H a=some (DN a ((ks.zip vs).map fun p=>(p.1.1,p.1.2,p.2)))->ks.length=vs.length->(∀ p∈ks,NAt H p.1 p.2)->RpL G H vs ts Fs->Rp G H (.ref a) (.dct 2 ((ks.map fun p=>nkT p.1).zip ts)) (a :: Fs.flatten)
 | exc {c:Nat} {a:Addr} {o:Obj}:H a=some (.frz o (.own a))->(o.cls=.ref (G.ct c).1/\o.dict=none/\∃ vs,o.data=.fields vs)->Rp G H (.ref a) (.obj c []) []
inductive RpL (G:Gx) (H:Hp):List V->Z2->Zj->Prop
 | nil:RpL G H [] [] []
 | cons {v:V} {t:T} {F:Zg} {vs:List V} {ts:Z2} {Fs:Zj}:Rp G H v t F->RpL G H vs ts Fs->RpL G H (v :: vs) (t :: ts) (F :: Fs)
end
structure Kept (H H':Hp):Prop where
 tup:∀ a xs,H a=some (.tup xs)->H' a=some (.tup xs)
 frz:∀ a o u,H a=some (.frz o u)->H' a=some (.frz o u)
theorem Kept.refl (H:Hp):Kept H H:=⟨fun _ _ h=>h,fun _ _ _ h=>h⟩
theorem Kept.trans {H H1 H2:Hp} (a:Kept H H1) (b:Kept H1 H2):Kept H H2:=⟨fun c x h=>b.tup c x (a.tup c x h),fun c o u h=>b.frz c o u (a.frz c o u h)⟩
theorem Kept.of {H H':Hp} (e:bf H H'):Kept H H':=⟨fun a _ h=>e a _ h,fun a _ _ h=>e a _ h⟩
theorem Kept.upd {H:Hp} {a:Addr} {o:HO} (mu:Mut (H a)\/H a=none):Kept H (upd H a o):=by
 have ne:∀ b u,H b=some u->¬ Mut (some u)->b ≠ a:=fun b u h nm e=>by
  subst e
  rcases mu with m | m
  ·rw [h] at m;exact nm m
  ·rw [h] at m;cases m
 exact ⟨fun b xs h=>by rw [aN (ne b _ h fun z=>z)];exact h,fun b o u h=>by rw [aN (ne b _ h fun z=>z)];exact h⟩
theorem gw.kept {K:Zi} {H H':Hp} {a:Addr} {ns:Zc} (h:gw K H a ns) (k:Kept H H'):gw K H' a ns:=by
 rcases h with ⟨o,e⟩ | h
 ·exact .inl ⟨o,k.frz _ _ _ e⟩
 ·exact .inr h
theorem gw.seq {K:Zi} {H:Hp} {a:Addr} {ns:Zc} (h:gw K H a ns):SqL K H a (ns.map V.int):=by
 rcases h with ⟨o,e⟩ | h
 ·exact .inl (.inr ⟨o,e⟩)
 ·exact .inr h
theorem lM {H H':Hp} {a:Addr} {F:Zg} (f:∀ b∈a :: F,∀ o,H b=some o->H' b=some o):∀ b∈F,∀ o,H b=some o->H' b=some o:=fun b m=>f b (zy _ m)
theorem kX {H H':Hp} {F:Zg} {Fs:Zj} (f:∀ b∈(F :: Fs).flatten,∀ o,H b=some o->H' b=some o):(∀ b∈F,∀ o,H b=some o->H' b=some o)/\∀ b∈Fs.flatten,∀ o,H b=some o->H' b=some o:=by
 rw [zc] at f
 exact ⟨fun b m=>f b (zB _ m),fun b m=>f b (zV _ m)⟩
theorem Rp.keep {G:Gx} {H H':Hp} (k:Kept H H') {v:V} {t:T} {F:Zg} (r:Rp G H v t F):(∀ a∈F,∀ o,H a=some o->H' a=some o)->Rp G H' v t F :=
 Rp.rec (motive_1:=fun v t F _=>(∀ a∈F,∀ o,H a=some o->H' a=some o)->Rp G H' v t F) (motive_2:=fun vs ts Fs _=>(∀ a∈Fs.flatten,∀ o,H a=some o->H' a=some o)->RpL G H' vs ts Fs)
  (fun _=>.non) (fun b _=>.bl b) (fun i _=>.int i) (fun s h _=>.str s h) (fun h _=>.scr (h.kept k)) (fun h _ ih f=>.tup (k.tup _ _ h) (ih f)) (fun h _ ih f=>.lst (f _ zx _ h) (ih (lM f))) (fun h l _ ih f=>.dct (f _ zx _ h) l (ih (lM f))) (fun h l _ ih f=>.dctT (f _ zx _ h) l (ih (lM f)))
  (fun h l n _ ih f=>.dctN (f _ zx _ h) l (fun p m=>(n p m).mono k.tup) (ih (lM f))) (fun h hc _=>.exc (k.frz _ _ _ h) hc) (fun _=>.nil) (fun _ _ i1 i2 f=>.cons (i1 (kX f).1) (i2 (kX f).2)) r
theorem RpL.keep {G:Gx} {H H':Hp} (k:Kept H H'):∀ {vs:List V} {ts:Z2} {Fs:Zj},RpL G H vs ts Fs->(∀ a∈Fs.flatten,∀ o,H a=some o->H' a=some o)->RpL G H' vs ts Fs
 | _,_,_,.nil,_=>.nil
 | _,_,_,.cons r q,f=>.cons (r.keep k (kX f).1) (RpL.keep k q (kX f).2)
theorem Rp.same {G:Gx} {H H':Hp} (e:bf H H') {v:V} {t:T} {F:Zg} (r:Rp G H v t F):Rp G H' v t F:=r.keep (Kept.of e) fun a _ o h=>e a o h
theorem RpL.same {G:Gx} {H H':Hp} (e:bf H H') {v:List V} {t:Z2} {F:Zj} (r:RpL G H v t F):RpL G H' v t F:=r.keep (Kept.of e) fun a _ o h=>e a o h
theorem pA {H:Hp} {a:Addr} {F:Zg} (h:Mut (H a)) (ih:∀ b∈F,Mut (H b)):∀ b∈a :: F,Mut (H b):=fun b m=>(zj.mp m).elim (fun e=>e ▸ h) (ih b)
theorem pJ {H:Hp} {a:Addr} {o:HO} (h:H a=some o) (m:Mut (some o)):Mut (H a):=by rw [h];exact m
theorem wI {H:Hp} {F:Zg} {Fs:Zj} (h1:∀ b∈F,Mut (H b)) (h2:∀ b∈Fs.flatten,Mut (H b)):∀ b∈(F :: Fs).flatten,Mut (H b):=fun b m=>by
 rw [zc] at m
 exact (zT.mp m).elim (h1 b) (h2 b)
theorem Rp.dom {G:Gx} {H:Hp} {v:V} {t:T} {F:Zg} (r:Rp G H v t F):∀ a∈F,Mut (H a) :=
 Rp.rec (motive_1:=fun v t F _=>∀ a∈F,Mut (H a)) (motive_2:=fun vs ts Fs _=>∀ a∈Fs.flatten,Mut (H a))
  (fun _ m=>nomatch m) (fun _ _ m=>nomatch m) (fun _ _ m=>nomatch m) (fun _ _ _ m=>nomatch m) (fun _ _ m=>nomatch m) (fun _ _ ih=>ih) (fun h _ ih=>pA (pJ h True.intro) ih) (fun h _ _ ih=>pA (pJ h True.intro) ih) (fun h _ _ ih=>pA (pJ h True.intro) ih)
  (fun h _ _ _ ih=>pA (pJ h True.intro) ih) (fun _ _ _ m=>nomatch m) (fun _ m=>nomatch m) (fun _ _ i1 i2=>wI i1 i2) r
theorem RpL.dom {G:Gx} {H:Hp}:∀ {vs:List V} {ts:Z2} {Fs:Zj},RpL G H vs ts Fs->∀ a∈Fs.flatten,Mut (H a)
 | _,_,_,.nil=>fun _ m=>nomatch m
 | _,_,_,.cons r q=>wI r.dom (RpL.dom q)
theorem Mut.ne_none {o:Option HO} (m:Mut o):o ≠ none:=fun e=>by subst e;exact m
theorem vz {F:Zg} {Fs:Zj} {t:T} {ts:Z2} (h1:VS.imm t=true->F=[]) (h2:VS.dI ts=true->Fs.flatten=[]) (i:VS.dI (t :: ts)=true):(F :: Fs).flatten=[]:=by
 simp only [VS.dI,zb] at i
 rw [zc,h1 i.1,h2 i.2]
 rfl
theorem Rp.imm {G:Gx} {H:Hp} {v:V} {t:T} {F:Zg} (r:Rp G H v t F):VS.imm t=true->F=[] :=
 Rp.rec (motive_1:=fun v t F _=>VS.imm t=true->F=[]) (motive_2:=fun vs ts Fs _=>VS.dI ts=true->Fs.flatten=[])
  (fun _=>rfl) (fun _ _=>rfl) (fun _ _=>rfl) (fun _ _ _=>rfl) (fun _ _=>rfl) (fun _ _ ih i=>ih (by simpa [VS.imm] using i)) (fun _ _ _ i=>absurd (show false=true from i) zh) (fun _ _ _ _ i=>absurd (show false=true from i) zh) (fun _ _ _ _ i=>absurd (show false=true from i) zh)
  (fun _ _ _ _ _ i=>absurd (show false=true from i) zh) (fun _ _ _=>rfl) (fun _=>rfl) (fun _ _ i1 i2 i=>vz i1 i2 i) r
theorem RpL.imm {G:Gx} {H:Hp}:∀ {vs:List V} {ts:Z2} {Fs:Zj},RpL G H vs ts Fs->VS.dI ts=true->Fs.flatten=[]
 | _,_,_,.nil,_=>rfl
 | _,_,_,.cons r q,i=>vz r.imm (RpL.imm q) i
theorem RpL.len {G:Gx} {H:Hp}:∀ {vs:List V} {ts:Z2} {Fs:Zj},RpL G H vs ts Fs->vs.length=ts.length/\Fs.length=ts.length
 | _,_,_,.nil=>⟨rfl,rfl⟩
 | _,_,_,.cons _ q=>by
  have:=RpL.len q
  simp only [zZ]
  lia
theorem RpL.get {G:Gx} {H:Hp}:∀ {vs:List V} {ts:Z2} {Fs:Zj} (i:Nat) {t:T},RpL G H vs ts Fs->ts[i]?=some t->∃ v F,vs[i]?=some v/\Fs[i]?=some F/\Rp G H v t F
 | _,_,_,_,_,.nil,e=>by simp at e
 | _,_,_,0,_,.cons r _,e=>by
  simp at e
  subst e
  exact ⟨_,_,rfl,rfl,r⟩
 | _,_,_,i+1,_,.cons _ q,e=>by
  obtain ⟨v,F,h1,h2,h3⟩:=RpL.get i q (by simpa using e)
  exact ⟨v,F,by simpa using h1,by simpa using h2,h3⟩
theorem RpL.append {G:Gx} {H:Hp}:∀ {vs:List V} {ts:Z2} {Fs:Zj} {us:List V} {rs:Z2} {Gs:Zj},RpL G H vs ts Fs->RpL G H us rs Gs->RpL G H (vs++us) (ts++rs) (Fs++Gs)
 | _,_,_,_,_,_,.nil,s=>s
 | _,_,_,_,_,_,.cons r q,s=>.cons r (RpL.append q s)
theorem RpL.take {G:Gx} {H:Hp}:∀ {vs:List V} {ts:Z2} {Fs:Zj} (n:Nat),RpL G H vs ts Fs->RpL G H (vs.take n) (ts.take n) (Fs.take n)
 | _,_,_,0,_=>by simpa using RpL.nil
 | _,_,_,n+1,.nil=>.nil
 | _,_,_,n+1,.cons r q=>.cons r (RpL.take n q)
theorem RpL.drop {G:Gx} {H:Hp}:∀ {vs:List V} {ts:Z2} {Fs:Zj} (n:Nat),RpL G H vs ts Fs->RpL G H (vs.drop n) (ts.drop n) (Fs.drop n)
 | _,_,_,0,q=>q
 | _,_,_,n+1,.nil=>.nil
 | _,_,_,n+1,.cons r q=>RpL.drop n q
noncomputable def fD:Cell->T
 | .pu t=>t
 | .ow t=>t
noncomputable abbrev Fps:=Nat->Zg
structure SR (G:Gx) (Φ:Fps) (η:VS.Env) (σ:L2.St) (H:Hp):Prop where
 len:η.length=σ.length
 rp:∀ i c,η[i]?=some (some c)->∃ v,σ[i]?=some (some v)/\Rp G H v (fD c) (Φ i)
 nd:∀ i t,η[i]?=some (some (.ow t))->(Φ i).Nodup
 sep:∀ i j t c,η[i]?=some (some (.ow t))->η[j]?=some (some c)->i ≠ j->∀ a∈Φ i,a ∉ Φ j
noncomputable def dg (Φ:Fps) (η:VS.Env) (a:Addr):Prop:=∃ j t,η[j]?=some (some (.pu t))/\a∈Φ j
noncomputable def cj (Φ:Fps) (η:VS.Env) (a:Addr):Prop:=∃ j t,η[j]?=some (some (.ow t))/\a∈Φ j
noncomputable def Fp (Φ:Fps) (η:VS.Env) (H:Hp):Md->Zg->Prop
 | .fr,F=>F.Nodup/\∀ a∈F,H a=none
 | .pu,F=>∀ a∈F,H a=none\/dg Φ η a
 | .bo,F=>∀ a∈F,H a=none\/dg Φ η a\/cj Φ η a
theorem SR.same {G:Gx} {Φ:Fps} {η:VS.Env} {σ:L2.St} {H H':Hp} (s:SR G Φ η σ H) (e:bf H H'):SR G Φ η σ H' :=
 ⟨s.len,fun i c h=>let ⟨v,h1,h2⟩:=s.rp i c h;⟨v,h1,h2.same e⟩,s.nd,s.sep⟩
theorem SR.pu_dom {G:Gx} {Φ:Fps} {η:VS.Env} {σ:L2.St} {H:Hp} {a:Addr} (s:SR G Φ η σ H) (h:dg Φ η a):Mut (H a):=by
 obtain ⟨j,t,h1,h2⟩:=h
 obtain ⟨v,_,r⟩:=s.rp j _ h1
 exact r.dom a h2
theorem SR.ow_dom {G:Gx} {Φ:Fps} {η:VS.Env} {σ:L2.St} {H:Hp} {a:Addr} (s:SR G Φ η σ H) (h:cj Φ η a):Mut (H a):=by
 obtain ⟨j,t,h1,h2⟩:=h
 obtain ⟨v,_,r⟩:=s.rp j _ h1
 exact r.dom a h2
theorem Fp.nil {Φ:Fps} {η:VS.Env} {H:Hp} {m:Md}:Fp Φ η H m []:=by
 cases m
 ·exact ⟨y8,fun a h=>by simp at h⟩
 ·exact fun a h=>by simp at h
 ·exact fun a h=>by simp at h
theorem Fp.bo {Φ:Fps} {η:VS.Env} {H:Hp} {F:Zg}:∀ {m:Md},Fp Φ η H m F->Fp Φ η H .bo F
 | .fr,h=>fun a m=>.inl (h.2 a m)
 | .pu,h=>fun a m=>(h a m).elim .inl fun z=>.inr (.inl z)
 | .bo,h=>h
theorem Fp.pu {Φ:Fps} {η:VS.Env} {H:Hp} {F:Zg}:∀ {m:Md},m ≠ .bo->Fp Φ η H m F->Fp Φ η H .pu F
 | .fr,_,h=>fun a m=>.inl (h.2 a m)
 | .pu,_,h=>h
 | .bo,n,_=>absurd rfl n
theorem Fp.back {Φ:Fps} {η:VS.Env} {H H':Hp} (e:bf H H') {F:Zg}:∀ {m:Md},Fp Φ η H' m F->Fp Φ η H m F
 | .fr,h=>⟨h.1,fun a m=>e.free (h.2 a m)⟩
 | .pu,h=>fun a m=>(h a m).imp e.free id
 | .bo,h=>fun a m=>(h a m).imp e.free id
theorem Fp.up {G:Gx} {Φ:Fps} {η:VS.Env} {H H':Hp} {m:Md} {v:V} {t:T} {F:Zg} (f:Fp Φ η H m F) (r:Rp G H' v t F):Fp Φ η H (VS.up m t).1 F:=by
 unfold VS.up
 by_cases h:VS.imm t=true
 ·rw [r.imm h]
  exact Fp.nil
 ·simp only [h,if_false,ye]
  exact f
noncomputable def tE (G:Gx) (c:Ex):TE:=fun σ H Q=>∃ Φ η m r,SR G Φ η σ H/\c η=some (m,r)/\∀ v H' F,bf H H'->Rp G H' v r F->Fp Φ η H m F->Q v H'
noncomputable def PV (G:Gx) (X:Cx) (e:Expr) (c:Ex):Prop:=PE X e (tE G c)
theorem PE.weak {X:Cx} {e:Expr} {t t':TE} (h:PE X e t) (w:∀ σ H Q,t' σ H Q->t σ H Q):PE X e t':=fun pins s σ H Q I q=>h pins s σ H Q I (w σ H Q q)
theorem PT.weak {X:Cx} {e:Expr} {t t':TT} (h:PT X e t) (w:∀ σ H Q,t' σ H Q->t σ H Q):PT X e t':=fun pins s σ H Q I q=>h pins s σ H Q I (w σ H Q q)
theorem PA.weak {X:Cx} {e:List Expr} {t t':TA} (h:PA X e t) (w:∀ σ H Q,t' σ H Q->t σ H Q):PA X e t':=fun pos pins s σ H Q I q=>h pos pins s σ H Q I (w σ H Q q)
noncomputable def tT (G:Gx) (c:Ex):TT:=fun σ H Q=>∃ Φ η m r b,SR G Φ η σ H/\c η=some (m,r)/\tru r=some b/\∀ H',bf H H'->Q b H'
noncomputable def PVT (G:Gx) (X:Cx) (e:Expr) (c:Ex):Prop:=PT X e (tT G c)
noncomputable def frs (l:Z0) (Fs:Zj):Zg:=match l,Fs with
 | v :: l,F :: Fs=>match v.1 with
  | .fr=>F++frs l Fs
  | _=>frs l Fs
 | _,_=>[]
structure FpL (Φ:Fps) (η:VS.Env) (H:Hp) (l:Z0) (Fs:Zj):Prop where
 each:∀ (i:Nat) v F,l[i]?=some v->Fs[i]?=some F->Fp Φ η H v.1 F
 nd:(frs l Fs).Nodup
noncomputable def tEs (G:Gx) (c:Exs):TA:=fun σ H Q=>∃ Φ η l,SR G Φ η σ H/\c η=some l/\∀ vs H' Fs,bf H H'->RpL G H' vs (trees l) Fs->FpL Φ η H l Fs->Q vs H'
noncomputable def PVs (G:Gx) (X:Cx) (es:List Expr) (c:Exs):Prop:=PA X es (tEs G c)
section
variable {G:Gx} {X:Cx} {a b c:Expr} {ca cb cc:Ex} {pos:Pos}
theorem uX {i j pos}:PV G X (.Constant (.int i) j pos) (eC (.int i)):=PE.weak uC fun σ H Q hq=>by
 obtain ⟨Φ,η,m,r,s,e,k⟩:=hq
 cases (show some (Md.fr,T.int i)=some (m,r) from e)
 exact k _ _ _ (bf.refl _) (.int i) Fp.nil
theorem vG {i j pos}:PV G X (.Constant (.bool i) j pos) (eC (.bl i)):=PE.weak v9 fun σ H Q hq=>by
 obtain ⟨Φ,η,m,r,s,e,k⟩:=hq
 cases (show some (Md.fr,T.bl i)=some (m,r) from e)
 exact k _ _ _ (bf.refl _) (.bl i) Fp.nil
theorem sA {j pos}:PV G X (.Constant .none j pos) (eC .non):=PE.weak uv fun σ H Q hq=>by
 obtain ⟨Φ,η,m,r,s,e,k⟩:=hq
 cases (show some (Md.fr,T.non)=some (m,r) from e)
 exact k _ _ _ (bf.refl _) .non Fp.nil
theorem uN {x:Str} {t:Tx} {j pos} (h:x=sx t:=by decide +kernel) (hl:gA t:=by decide):PV G X (.Constant (.str x) j pos) (eC (.str t)):=PE.weak sE fun σ H Q hq=>by
 obtain ⟨Φ,η,m,r,s,e,k⟩:=hq
 cases (show some (Md.fr,T.str t)=some (m,r) from e)
 subst h
 exact k _ _ _ (bf.refl _) (.str t hl) Fp.nil
theorem u7 (i:Nat) {x:Str} {pos:Pos} (hN:X.N[i]?=some x:=by rfl) (hv:Vis X.env.scope x:=by first | exact Or.inl rfl | exact Or.inr (Or.inl rfl) | exact Or.inr (Or.inr rfl)) (hd:(x == ("__debug__" : Str))=false:=by decide)
  (hcd:(x == ("__classdict__" : Str))=false:=by decide):PV G X (.Name x pos) (ah i):=PE.weak (kR hN hv hd hcd) fun σ H Q hq=>by
 obtain ⟨Φ,η,m,r,s,e,k⟩:=hq
 unfold ah at e
 split at e
 ·rename_i t h
  obtain ⟨v,h1,h2⟩:=s.rp _ _ h
  have e':VS.up .pu t=(m,r):=zU e
  have er:t=r:=congrArg Prod.snd e'
  have em:(VS.up .pu t).1=m:=congrArg Prod.fst e'
  rw [← er,← em] at k
  refine ⟨v,h1,k v H (Φ i) (bf.refl _) h2 ?_⟩
  have f:Fp Φ η H .pu (Φ i):=fun a ha=>.inr ⟨i,_,h,ha⟩
  exact f.up h2
 ·rename_i t h
  obtain ⟨v,h1,h2⟩:=s.rp _ _ h
  cases e
  exact ⟨v,h1,k v H (Φ i) (bf.refl _) h2 fun a ha=>.inr (.inr ⟨i,_,h,ha⟩)⟩
 ·cases e
theorem qi {x:Str} {u:Value} {v:V} {t:T} {pos:Pos} (hg:Gl X x) (hm:X.mg x=some u) (r:RelV v u) (hr:∀ H,Rp G H v t []) (hd:(x == ("__debug__" : Str))=false:=by decide):PV G X (.Name x pos) (eC t) :=
 PE.weak (i0 hg hm r hd) fun σ H Q hq=>by
  obtain ⟨Φ,η,m,t',s,e,k⟩:=hq
  cases (show some (Md.fr,t)=some (m,t') from e)
  exact k _ _ _ (bf.refl _) (hr H) Fp.nil
structure Two (G:Gx) (Φ:Fps) (η:VS.Env) (H0 H:Hp) (x y:Val) (u w:V) (F1 F2:Zg):Prop where
 same:bf H0 H
 r1:Rp G H u x.2 F1
 r2:Rp G H w y.2 F2
 f1:Fp Φ η H0 x.1 F1
 f2:Fp Φ η H0 y.1 F2
 nd:x.1=.fr->y.1=.fr->(F1++F2).Nodup
noncomputable def dZ (G:Gx) (r:R2) (f:Val->Val->Z1):Prop:=∀ (Φ:Fps) (η:VS.Env) (H0 H:Hp) (x y:Val) (u w:V) (F1 F2:Zg) (m:Md) (t:T) (Q:VK),Two G Φ η H0 H x y u w F1 F2->f x y=some (m,t) →
 (∀ v H' F,bf H H'->Rp G H' v t F->Fp Φ η H0 m F->Q v H')->r u w H Q
theorem pf {σ:L2.St} {H:Hp} {Q:V->V->Hp->Prop} {Φ:Fps} {η:VS.Env} {x y:Val} (s:SR G Φ η σ H) (ea:ca η=some x) (eb:cb η=some y)
  (k:∀ u w H2 F1 F2,Two G Φ η H H2 x y u w F1 F2->Q u w H2):tE G ca σ H fun u H1=>tE G cb σ H1 fun w H2=>Q u w H2:=by
 refine ⟨Φ,η,x.1,x.2,s,ea,fun u H1 F1 e1 r1 f1=>⟨Φ,η,y.1,y.2,s.same e1,eb,fun w H2 F2 e2 r2 f2=>k u w H2 F1 F2 ⟨e1.trans e2,r1.same e2,r2,f1,f2.back e1,fun hx hy=>?_⟩⟩⟩
 rw [hx] at f1
 rw [hy] at f2
 refine ya.mpr ⟨f1.1,f2.1,fun a ha b hb z=>?_⟩
 subst z
 exact Mut.ne_none (r1.dom a ha) (f2.2 a hb)
theorem ja {r:R2} {f:Val->Val->Z1} (ok:dZ G r f) {σ:L2.St} {H:Hp} {Q:VK} (h:tE G (e2 f ca cb) σ H Q):tOp r (tE G ca) (tE G cb) σ H Q:=by
 obtain ⟨Φ,η,m,t,s,e,k⟩:=h
 unfold e2 at e
 obtain ⟨x,ea,e⟩:=zz.mp e
 obtain ⟨y,eb,e⟩:=zz.mp e
 exact pf s ea eb fun u w H2 F1 F2 tw=>ok Φ η H H2 x y u w F1 F2 m t Q tw e fun v H' F e1 r1 f1=>k v H' F (tw.same.trans e1) r1 f1
theorem gT {op:Operator} {r:R2} {f:Val->Val->Z1} (ho:OpR X (binaryOp op) r) (ok:dZ G r f) (ha:PV G X a ca) (hb:PV G X b cb):PV G X (.BinOp a op b pos) (e2 f ca cb) :=
 PE.weak (vt ho ha hb) fun σ H Q h=>ja ok h
theorem kQ {op:CmpOp} {r:R2} {f:Val->Val->Z1} (ho:OpR X (compareOp op) r) (ok:dZ G r f) (ha:PV G X a ca) (hb:PV G X b cb) (hm:behindInMarks op b=false):PV G X (.Compare a [op] [b] pos) (e2 f ca cb) :=
 PE.weak (qr ho ha hb hm) fun σ H Q h=>ja ok h
noncomputable def Tells (f:Val->Val->Z1):Prop:=∀ x y m t,f x y=some (m,t)->∃ b,t=.bl b
theorem Rp.bl_inv {H:Hp} {v:V} {b:Bool} {F:Zg} (r:Rp G H v (.bl b) F):v=.bl b:=by cases r;rfl
theorem Rp.int_inv {H:Hp} {v:V} {b:Int} {F:Zg} (r:Rp G H v (.int b) F):v=.int b:=by cases r;rfl
theorem Rp.str_inv {H:Hp} {v:V} {b:Tx} {F:Zg} (r:Rp G H v (.str b) F):v=.str (sx b)/\gA b:=by cases r with | str _ h=>exact ⟨rfl,h⟩
theorem pj {c:Ex} {t:TE} {σ:L2.St} {H:Hp} {Q:Bool->Hp->Prop} (h:tT G c σ H Q) (ht:∀ η m r,c η=some (m,r)->∃ b,r=.bl b) (w:∀ Q,tE G c σ H Q->t σ H Q):rH t σ H Q:=by
 obtain ⟨Φ,η,m,r,b,s,e,eb,k⟩:=h
 refine w _ ⟨Φ,η,m,r,s,e,fun v H' F e1 r1 f1=>?_⟩
 obtain ⟨b',er⟩:=ht η m r e
 rw [er] at eb r1
 cases (show some b'=some b from eb)
 exact ⟨_,r1.bl_inv,k H' e1⟩
theorem fE {op:CmpOp} {r:R2} {f:Val->Val->Z1} (ho:OpR X (compareOp op) r) (ok:dZ G r f) (ht:Tells f) (ha:PV G X a ca) (hb:PV G X b cb) (hm:behindInMarks op b=false):PVT G X (.Compare a [op] [b] pos) (e2 f ca cb) :=
 PT.weak (pX ho ha hb hm) fun σ H Q h=>pj h (fun η m r e=>by
  unfold e2 at e
  obtain ⟨x,_,e⟩:=zz.mp e
  obtain ⟨y,_,e⟩:=zz.mp e
  exact ht x y m r e) fun Q h=>ja ok h
theorem bp {Φ:Fps} {η:VS.Env} {H0 H:Hp} {m:Md} {t:T} {v:V} {Q:VK} (k:∀ v H' F,bf H H'->Rp G H' v t F->Fp Φ η H0 m F->Q v H') (r:Rp G H v t []):Q v H:=k v H [] (bf.refl _) r Fp.nil
theorem dc {H:Hp} {p:Addr} {o:HO} (h:H p=none):bf H (upd H p o):=fun b o' e=>by rw [aN (cX e h)];exact e
theorem Fp.new {Φ:Fps} {η:VS.Env} {H0:Hp} {p:Addr} {F:Zg} (h0:H0 p=none) (hp:p ∉ F):∀ {m:Md},Fp Φ η H0 m F->Fp Φ η H0 m (p :: F)
 | .fr,f=>⟨z0.mpr ⟨hp,f.1⟩,fun a m=>(zj.mp m).elim (fun e=>by rw [e];exact h0) (f.2 a)⟩
 | .pu,f=>fun a m=>(zj.mp m).elim (fun e=>by rw [e];exact .inl h0) (f a)
 | .bo,f=>fun a m=>(zj.mp m).elim (fun e=>by rw [e];exact .inl h0) (f a)
theorem jc {mj m:Md} {l:Z2} {t:T} (e:mkL mj l=some (m,t)):t=.lst l/\l.length<=dh/\m=(if dI l then .fr else mj):=by
 unfold mkL at e
 split at e
 ·rename_i h
  cases e
  exact ⟨rfl,h,rfl⟩
 ·cases e
theorem iT {Φ:Fps} {η:VS.Env} {H0 H:Hp} {mj m:Md} {l:Z2} {t:T} {vs:List V} {Fs:Zj} {Q:VK} (same:bf H0 H) (e:mkL mj l=some (m,t)) (r:RpL G H vs l Fs) (f:Fp Φ η H0 mj Fs.flatten)
  (k:∀ v H' F,bf H H'->Rp G H' v t F->Fp Φ η H0 m F->Q v H'):∀ p,H p=none->Q (.ref p) (upd H p (.lst vs)):=by
 intro p hp
 obtain ⟨rfl,hl,rfl⟩:=jc e
 refine k _ _ _ (dc hp) (.lst bB (r.same (dc hp))) ?_
 have np:p ∉ Fs.flatten:=fun m=>Mut.ne_none (r.dom p m) hp
 by_cases hi:dI l=true
 ·rw [hi,zi rfl]
  rw [r.imm hi] at np ⊢
  exact Fp.nil.new (same.free hp) np
 ·rw [if_neg hi]
  exact f.new (same.free hp) np
theorem Two.join {Φ:Fps} {η:VS.Env} {H0 H:Hp} {x y:Val} {u w:V} {F1 F2:Zg} (tw:Two G Φ η H0 H x y u w F1 F2) {F:Zg} (hF:F.Sublist (F1++F2)):Fp Φ η H0 (x.1.join y.1) F:=by
 obtain ⟨same,r1,r2,f1,f2,nd⟩:=tw
 have split:∀ a∈F,a∈F1\/a∈F2:=fun a ha=>zT.mp (hF.subset ha)
 obtain ⟨m1,x⟩:=x
 obtain ⟨m2,y⟩:=y
 have both:∀ {P:Addr->Prop},(∀ a∈F1,P a)->(∀ a∈F2,P a)->∀ a∈F,P a:=fun h1 h2 a ha=>(split a ha).elim (h1 a) (h2 a)
 cases m1 <;> cases m2
 ·exact ⟨(nd rfl rfl).sublist hF,both f1.2 f2.2⟩
 ·exact both (fun a ha=>.inl (f1.2 a ha)) f2
 ·exact both (fun a ha=>.inl (f1.2 a ha)) f2
 ·exact both f1 (fun a ha=>.inl (f2.2 a ha))
 ·exact both f1 f2
 ·exact both (f1.bo) f2
 ·exact both f1 (fun a ha=>.inl (f2.2 a ha))
 ·exact both f1 (f2.bo)
 ·exact both f1 f2
theorem dN:dh=sizeLine:=rfl
theorem cK (s:Tx):(sx s).length=s.length:=rfl
theorem tM (s t:Tx):sx s++sx t=sx (s++t):=by
 show Str.append (sx s) (sx t)=_
 simp [sx,Str.append]
theorem Rp.lst_inv {H:Hp} {v:V} {l:Z2} {F:Zg} (r:Rp G H v (.lst l) F):∃ a vs Fs,v=.ref a/\F=a :: Fs.flatten/\H a=some (.lst vs)/\RpL G H vs l Fs:=by
 cases r with
 | lst h q=>exact ⟨_,_,_,rfl,rfl,h,q⟩
theorem Rp.tup_inv {H:Hp} {v:V} {l:Z2} {F:Zg} (r:Rp G H v (.tup l) F):∃ a vs Fs,v=.ref a/\F=Fs.flatten/\H a=some (.tup vs)/\RpL G H vs l Fs:=by
 cases r with
 | tup h q=>exact ⟨_,_,_,rfl,rfl,h,q⟩
theorem Rp.scr_inv {H:Hp} {v:V} {l:Zc} {F:Zg} (r:Rp G H v (.scr l) F):∃ a,v=.ref a/\F=[]/\gw G.K H a l:=by
 cases r with
 | scr h=>exact ⟨_,rfl,rfl,h⟩
end
section
variable {G:Gx} {X:Cx}
noncomputable def sZ:R2:=fun x y H Q=>rI0 (fun i j=>.int (i+j)) x y H Q\/(∃ i j,x=.str i/\y=.str j/\i.length+j.length<=sizeLine/\Q (.str (i++j)) H)\/wj x y H Q
theorem q0:OpR X (binaryOp .Add) sZ:=t5.or (ki.or uO)
theorem t6:dZ G sZ aY:=by
 intro Φ η H0 H x y u w F1 F2 m t Q tw e k
 have jn:=fun {F:Zg} (h:List.Sublist F (F1++F2))=>tw.join h
 obtain ⟨m1,x⟩:=x
 obtain ⟨m2,y⟩:=y
 obtain ⟨same,r1,r2,f1,f2,nd⟩:=tw
 unfold aY at e
 split at e
 ·rename_i i _ j e1 e2
  cases e1
  cases e2
  cases e
  exact .inl ⟨_,_,r1.int_inv,r2.int_inv,bp k (.int _)⟩
 ·rename_i s _ s' e1 e2
  cases e1
  cases e2
  split at e
  ·rename_i hl
   cases e
   refine .inr (.inl ⟨_,_,r1.str_inv.1,r2.str_inv.1,by rw [cK,cK,← dN];exact hl,?_⟩)
   rw [tM]
   exact bp k (.str _ ⟨by rw [zp];exact hl,fun c hc=>(zT.mp hc).elim (r1.str_inv.2.2 c) (r2.str_inv.2.2 c)⟩)
  ·cases e
 ·rename_i s _ s' e1 e2
  cases e1
  cases e2
  obtain ⟨a,vs,Fs,rfl,rfl,ha,ra⟩:=r1.lst_inv
  obtain ⟨b,us,Gs,rfl,rfl,hb,rb⟩:=r2.lst_inv
  obtain ⟨_,hl,_⟩:=jc e
  refine .inr (.inr ⟨a,b,vs,us,rfl,rfl,ha,hb,?_,iT same e (ra.append rb) (jn ?_) k⟩)
  ·rw [zp] at hl
   rw [ra.len.1,rb.len.1,← dN]
   exact hl
  ·rw [z6]
   exact (yb _ _).append (yb _ _)
 ·cases e
theorem tH:dZ G (rI0 fun i j=>.int (i - j)) fq:=by
 intro Φ η H0 H x y u w F1 F2 m t Q tw e k
 obtain ⟨m1,x⟩:=x
 obtain ⟨m2,y⟩:=y
 obtain ⟨same,r1,r2,f1,f2,nd⟩:=tw
 unfold fq at e
 split at e
 ·rename_i e1 e2
  cases e1
  cases e2
  cases e
  exact ⟨_,_,r1.int_inv,r2.int_inv,bp k (.int _)⟩
 ·cases e
theorem qK:dZ G (rI wm fun i j=>.int (i / j)) dC:=by
 intro Φ η H0 H x y u w F1 F2 m t Q tw e k
 obtain ⟨m1,x⟩:=x
 obtain ⟨m2,y⟩:=y
 obtain ⟨same,r1,r2,f1,f2,nd⟩:=tw
 unfold dC at e
 split at e
 ·rename_i e1 e2
  cases e1
  cases e2
  split at e
  ·rename_i h
   cases e
   exact ⟨_,_,r1.int_inv,r2.int_inv,h,bp k (.int _)⟩
  ·cases e
 ·cases e
theorem uL:dZ G (rI (fun _ j=>0 < j) fun i j=>.int (i % j)) oMod:=by
 intro Φ η H0 H x y u w F1 F2 m t Q tw e k
 obtain ⟨m1,x⟩:=x
 obtain ⟨m2,y⟩:=y
 obtain ⟨same,r1,r2,f1,f2,nd⟩:=tw
 unfold oMod at e
 split at e
 ·rename_i e1 e2
  cases e1
  cases e2
  split at e
  ·rename_i h
   cases e
   exact ⟨_,_,r1.int_inv,r2.int_inv,h,bp k (.int _)⟩
  ·cases e
 ·cases e
theorem jd:∀ (s t:Tx),ltx s t=decide (s < t)
 | [],[]=>by simp [ltx]
 | [],_ :: _=>by simp [ltx]
 | _ :: _,[]=>by simp [ltx]
 | a :: s,b :: t=>by
  unfold ltx
  rw [jd s t]
  by_cases h1:a < b
  ·simp [h1,y0]
  ·by_cases h2:b < a
   ·have:¬ a=b:=by exact Zs h2
    simp [h1,h2,y0,this]
   ·have:a=b:=by lia
    subst this
    simp [y0]
noncomputable def rLt:R2:=fun x y H Q=>rI0 (fun i j=>.bl (decide (i < j))) x y H Q\/(∃ i j,x=.str i/\y=.str j/\Q (.bl (decide (i.cps.toList < j.cps.toList))) H)
theorem tQ:OpR X (compareOp .Lt) rLt:=vW.or mM
theorem vx:dZ G rLt oLt:=by
 intro Φ η H0 H x y u w F1 F2 m t Q tw e k
 obtain ⟨m1,x⟩:=x
 obtain ⟨m2,y⟩:=y
 obtain ⟨same,r1,r2,f1,f2,nd⟩:=tw
 unfold oLt at e
 split at e
 ·rename_i e1 e2
  cases e1
  cases e2
  cases e
  exact .inl ⟨_,_,r1.int_inv,r2.int_inv,bp k (.bl _)⟩
 ·rename_i s _ s' e1 e2
  cases e1
  cases e2
  cases e
  refine .inr ⟨_,_,r1.str_inv.1,r2.str_inv.1,?_⟩
  have:decide ((sx s).cps.toList < (sx s').cps.toList)=ltx s s':=by rw [jd];exact decide_eq_decide.mpr (by simp [sx])
  rw [this]
  exact bp k (.bl _)
 ·cases e
theorem jJ:Tells oLt:=by
 intro x y m t e
 unfold oLt at e
 split at e <;> first | (cases e;exact ⟨_,rfl⟩) | cases e
theorem ua:B64=2 ^ 64:=rfl
theorem uc:dZ G (rI pH fun i j=>.int (i * j)) gL:=by
 intro Φ η H0 H x y u w F1 F2 m t Q tw e k
 obtain ⟨m1,x⟩:=x
 obtain ⟨m2,y⟩:=y
 obtain ⟨same,r1,r2,f1,f2,nd⟩:=tw
 unfold gL at e
 split at e
 ·rename_i e1 e2
  cases e1
  cases e2
  split at e
  ·rename_i h
   cases e
   refine ⟨_,_,r1.int_inv,r2.int_inv,?_,bp k (.int _)⟩
   rw [ua] at h
   exact h
  ·cases e
 ·cases e
theorem mO:OpR X (compareOp .LtE) (fun x y H Q=>∃ i j,x=.str i/\y=.str j/\Q (.bl (!decide (j.cps.toList < i.cps.toList))) H):=by
 intro pins s σ H x y v u Q I rx ry h
 obtain ⟨i,j,rfl,rfl,q⟩:=h
 obtain ⟨t,rfl⟩:=rx
 obtain ⟨t',rfl⟩:=ry
 exact PySem.P.le_str ⟨.bl _,H,I,rfl,q⟩
noncomputable def rLe:R2:=fun x y H Q=>rI0 (fun i j=>.bl (decide (i<=j))) x y H Q\/(∃ i j,x=.str i/\y=.str j/\Q (.bl (!decide (j.cps.toList < i.cps.toList))) H)
theorem kI:OpR X (compareOp .LtE) rLe:=wH.or mO
theorem oZ:dZ G rLe oLe:=by
 intro Φ η H0 H x y u w F1 F2 m t Q tw e k
 obtain ⟨m1,x⟩:=x
 obtain ⟨m2,y⟩:=y
 obtain ⟨same,r1,r2,f1,f2,nd⟩:=tw
 unfold oLe at e
 split at e
 ·rename_i e1 e2
  cases e1
  cases e2
  cases e
  exact .inl ⟨_,_,r1.int_inv,r2.int_inv,bp k (.bl _)⟩
 ·rename_i s _ s' e1 e2
  cases e1
  cases e2
  cases e
  refine .inr ⟨_,_,r1.str_inv.1,r2.str_inv.1,?_⟩
  have:decide ((sx s').cps.toList < (sx s).cps.toList)=ltx s' s:=by rw [jd];exact decide_eq_decide.mpr (by simp [sx])
  rw [this]
  exact bp k (.bl _)
 ·cases e
theorem sj {n:Nat} {i:Int}:ixP n i=ixN n i:=by
 unfold ixP ixN
 by_cases h:0<=i
 ·rw [zi h,zi h]
 ·rw [if_neg h,if_neg h]
  by_cases h2:0<=i+n
  ·rw [zi h2,zi (by lia)]
  ·rw [if_neg h2,if_neg (by lia)]
theorem ji {α:Type} {l:List α} {i:Int} {k:Nat} {x:α} (h1:ixP l.length i=some k) (h2:l[k]?=some x):atI l i=some x:=by
 unfold atI
 rw [← sj,h1]
 exact h2
theorem ic {Fs:Zj} {F:Zg} {i:Nat} (h:Fs[i]?=some F):F.Sublist Fs.flatten:=by
 obtain ⟨hi,rfl⟩:=zq.mp h
 exact List.sublist_flatten_of_mem (yS hi)
theorem Fp.sub {Φ:Fps} {η:VS.Env} {H:Hp} {F F':Zg} (h:F.Sublist F'):∀ {m:Md},Fp Φ η H m F'->Fp Φ η H m F
 | .fr,f=>⟨f.1.sublist h,fun a ha=>f.2 a (h.subset ha)⟩
 | .pu,f=>fun a ha=>f a (h.subset ha)
 | .bo,f=>fun a ha=>f a (h.subset ha)
theorem uw:dZ G (rIx G.K) bG:=by
 intro Φ η H0 H x y u w F1 F2 m t Q tw e k
 obtain ⟨m1,x⟩:=x
 obtain ⟨m2,y⟩:=y
 obtain ⟨same,r1,r2,f1,f2,nd⟩:=tw
 unfold bG at e
 split at e
 ·rename_i m3 l m4 i e1 e2
  cases e1
  cases e2
  obtain ⟨j,h1,e⟩:=zz.mp e
  obtain ⟨x,h2,e⟩:=zv.mp e
  obtain ⟨a,vs,Fs,rfl,rfl,ha,ra⟩:=r1.lst_inv
  obtain ⟨v,F,g1,g2,g3⟩:=ra.get j h2
  refine .inl ⟨a,vs,i,v,rfl,r2.int_inv,SqL.of ha,ji (by rw [ra.len.1];exact h1) g1,?_⟩
  have f:=((f1.sub (yb _ _)).sub (ic g2)).up g3
  unfold VS.sub at e
  rw [e] at f
  have et:x=t:=congrArg Prod.snd e
  rw [et] at g3
  exact k v H F (bf.refl _) g3 f
 ·rename_i m3 l m4 i e1 e2
  cases e1
  cases e2
  obtain ⟨j,h1,e⟩:=zz.mp e
  obtain ⟨x,h2,e⟩:=zv.mp e
  obtain ⟨a,vs,Fs,rfl,rfl,ha,ra⟩:=r1.tup_inv
  obtain ⟨v,F,g1,g2,g3⟩:=ra.get j h2
  refine .inr (.inl ⟨a,vs,i,v,rfl,r2.int_inv,SqT.of ha,ji (by rw [ra.len.1];exact h1) g1,?_⟩)
  have f:=(f1.sub (ic g2)).up g3
  unfold VS.sub at e
  rw [e] at f
  have et:x=t:=congrArg Prod.snd e
  rw [et] at g3
  exact k v H F (bf.refl _) g3 f
 ·rename_i m3 l m4 i e1 e2
  cases e1
  cases e2
  obtain ⟨j,h1,e⟩:=zz.mp e
  obtain ⟨x,h2,e⟩:=zv.mp e
  cases e
  obtain ⟨a,rfl,rfl,sa⟩:=r1.scr_inv
  refine .inl ⟨a,l.map V.int,i,.int x,rfl,r2.int_inv,sa.seq,ji (by rw [zt];exact h1) (by rw [zS,h2];rfl),bp k (.int _)⟩
 ·rename_i m3 l m4 i e1 e2
  cases e1
  cases e2
  obtain ⟨j,h1,e⟩:=zz.mp e
  obtain ⟨x,h2,e⟩:=zv.mp e
  cases e
  obtain ⟨rfl,hl⟩:=r1.str_inv
  refine .inr (.inr ⟨sx l,i,x,rfl,r2.int_inv,by rw [cK,← dN];exact hl.1,ji (k:=j) (by simpa [sx] using h1) (by simpa [sx] using h2),?_⟩)
  exact bp k (.str [x] ⟨by show 1<=dh;decide,fun c hc=>by rw [zO.mp hc];exact hl.2 x (y9 h2)⟩)
 ·cases e
end
section
variable {G:Gx} {X:Cx} {a b c e:Expr} {es:List Expr} {ca cb cc:Ex} {cs:Exs} {pos p:Pos}
theorem lE {x:Addr}:∀ {l:Z0} {Fs:Zj},x∈frs l Fs->∃ (i:Nat) (v:Val) (F:Zg),l[i]?=some v/\v.1=.fr/\Fs[i]?=some F/\x∈F
 | [],_,h=>by simp [frs] at h
 | _ :: _,[],h=>by simp [frs] at h
 | v :: l,F :: Fs,h=>by
  have go:x∈frs l Fs->∃ (i:Nat) (u:Val) (F':Zg),(v :: l)[i]?=some u/\u.1=.fr/\(F :: Fs)[i]?=some F'/\x∈F':=fun m=>by
   obtain ⟨i,u,F',h1,h2,h3,h4⟩:=lE m
   exact ⟨i+1,u,F',by simpa using h1,h2,by simpa using h3,h4⟩
  unfold frs at h
  split at h
  ·rename_i hv
   rcases zT.mp h with h | h
   ·exact ⟨0,v,F,rfl,hv,rfl,h⟩
   ·exact go h
  ·exact go h
theorem pI:PVs G X [] ao:=PA.weak gj fun σ H Q hq=>by
 obtain ⟨Φ,η,l,s,e,k⟩:=hq
 cases (show some ([]:Z0)=some l from e)
 exact k [] H [] (bf.refl _) .nil ⟨fun i v F h=>by simp at h,by simp [frs]⟩
theorem ot (ha:PV G X e ca) (hr:PVs G X es cs) (hs:starEach (e :: es) X.env=(false,eval e X.env) :: starEach es X.env:=by rfl):PVs G X (e :: es) (af ca cs):=PA.weak (di ha hr hs) fun σ H Q hq=>by
 obtain ⟨Φ,η,l,s,e,k⟩:=hq
 unfold af at e
 obtain ⟨x,ea,e⟩:=zz.mp e
 obtain ⟨xs,er,e⟩:=zz.mp e
 cases e
 refine ⟨Φ,η,x.1,x.2,s,ea,fun v H1 F e1 r1 f1=>⟨Φ,η,xs,s.same e1,er,fun vs H2 Fs e2 r2 f2=>k (v :: vs) H2 (F :: Fs) (e1.trans e2) (.cons (r1.same e2) r2) ⟨fun i u F' h1 h2=>?_,?_⟩⟩⟩
 ·cases i with
  | zero =>
   cases (show some x=some u from h1)
   cases (show some F=some F' from h2)
   exact f1
  | succ i=>exact (f2.each i u F' (by simpa using h1) (by simpa using h2)).back e1
 ·unfold frs
  split
  ·rename_i hx
   rw [hx] at f1
   refine ya.mpr ⟨f1.1,f2.nd,fun y hy z hz q=>?_⟩
   subst q
   obtain ⟨i,u,F',h1,h2,h3,h4⟩:=lE hz
   have f:=f2.each i u F' h1 h3
   rw [h2] at f
   exact Mut.ne_none (r1.dom y hy) (f.2 y h4)
  ·exact f2.nd
theorem fC:∀ {l:Z0},bL l=.fr->∀ v∈l,v.1=.fr
 | [],_,v,h=>by simp at h
 | (m,t) :: r,e,v,h=>by
  have e':m.join (bL r)=.fr:=e
  have h1:m=.fr:=by
   revert e'
   cases m <;> cases bL r <;> simp [Md.join]
  have h2:bL r=.fr:=by
   revert e'
   cases m <;> cases bL r <;> simp [Md.join]
  rcases zj.mp h with rfl | h
  ·exact h1
  ·exact fC h2 v h
theorem fL:∀ {l:Z0},bL l ≠ .bo->∀ v∈l,v.1 ≠ .bo
 | [],_,v,h=>by simp at h
 | (m,t) :: r,e,v,h=>by
  have e':m.join (bL r) ≠ .bo:=e
  have h1:m ≠ .bo:=by
   revert e'
   cases m <;> cases bL r <;> simp [Md.join]
  have h2:bL r ≠ .bo:=by
   revert e'
   cases m <;> cases bL r <;> simp [Md.join]
  rcases zj.mp h with rfl | h
  ·exact h1
  ·exact fL h2 v h
theorem kU:∀ {l:Z0} {Fs:Zj},l.length=Fs.length->(∀ v∈l,v.1=.fr)->frs l Fs=Fs.flatten
 | [],[],_,_=>rfl
 | [],_ :: _,h,_=>by simp at h
 | _ :: _,[],h,_=>by simp at h
 | v :: l,F :: Fs,h,q=>by
  unfold frs
  rw [q v zx,kU (by simpa using h) fun u hu=>q u (zy _ hu)]
  rfl
theorem g4 {x:Addr} {Fs:Zj} (h:x∈Fs.flatten):∃ (i:Nat) (F:Zg),Fs[i]?=some F/\x∈F:=by
 obtain ⟨F,hF,hx⟩:=List.mem_flatten.mp h
 obtain ⟨i,hi⟩:=List.mem_iff_getElem?.mp hF
 exact ⟨i,F,hi,hx⟩
theorem FpL.join {Φ:Fps} {η:VS.Env} {H:Hp} {l:Z0} {Fs:Zj} (f:FpL Φ η H l Fs) (hl:l.length=Fs.length):Fp Φ η H (bL l) Fs.flatten:=by
 have at':∀ x∈Fs.flatten,∃ v F,v∈l/\x∈F/\Fp Φ η H v.1 F:=fun x hx=>by
  obtain ⟨i,F,hi,hxF⟩:=g4 hx
  have:i < l.length:=by
   have:=(zq.mp hi).1
   lia
  exact ⟨l[i],F,yS this,hxF,f.each i _ F (zX this) hi⟩
 cases e:bL l with
 | fr =>
  have al:=fC e
  refine ⟨by rw [← kU hl al];exact f.nd,fun x hx=>?_⟩
  obtain ⟨v,F,hv,hxF,q⟩:=at' x hx
  rw [al v hv] at q
  exact q.2 x hxF
 | pu =>
  have al:=fL (l:=l) (by rw [e];decide)
  intro x hx
  obtain ⟨v,F,hv,hxF,q⟩:=at' x hx
  exact Fp.pu (al v hv) q x hxF
 | bo =>
  intro x hx
  obtain ⟨v,F,hv,hxF,q⟩:=at' x hx
  exact q.bo x hxF
structure Args (G:Gx) (Φ:Fps) (η:VS.Env) (H0 H:Hp) (l:Z0) (vs:List V) (Fs:Zj):Prop where
 same:bf H0 H
 rp:RpL G H vs (trees l) Fs
 fp:FpL Φ η H0 l Fs
theorem Args.len {Φ:Fps} {η:VS.Env} {H0 H:Hp} {l:Z0} {vs:List V} {Fs:Zj} (A:Args G Φ η H0 H l vs Fs):l.length=Fs.length:=by
 have:=A.rp.len.2
 simp [trees] at this
 exact Eq.symm this
noncomputable def eD (G:Gx) (r:List V->Hp->VK->Prop) (f:Z0->Z1):Prop:=∀ (Φ:Fps) (η:VS.Env) (H0 H:Hp) (l:Z0) (vs:List V) (Fs:Zj) (m:Md) (t:T) (Q:VK),Args G Φ η H0 H l vs Fs->f l=some (m,t) →
 (∀ v H' F,bf H H'->Rp G H' v t F->Fp Φ η H0 m F->Q v H')->r vs H Q
theorem r6 {r:List V->Hp->VK->Prop} {f:Z0->Z1} (ok:eD G r f) {σ:L2.St} {H:Hp} {Q:VK} {η:VS.Env} {Φ:Fps} {l:Z0} {m:Md} {t:T} (s:SR G Φ η σ H) (el:cs η=some l) (e:f l=some (m,t))
  (k:∀ v H' F,bf H H'->Rp G H' v t F->Fp Φ η H m F->Q v H'):tEs G cs σ H fun vs H1=>r vs H1 Q :=
 ⟨Φ,η,l,s,el,fun vs H' Fs e1 r1 f1=>ok Φ η H H' l vs Fs m t Q ⟨e1,r1,f1⟩ e fun v H2 F e2 r2 f2=>k v H2 F (e1.trans e2) r2 f2⟩
theorem eF {r:List V->Hp->VK->Prop} {f:Z0->Z1} {id:String} {x:Str} (hc:cG X (.builtin id) r) (ok:eD G r f) (hg:Gl X x) (hm:X.mg x=none) (hv:bootBuiltins x=some (.builtin id)) (ha:PVs G X (e :: es) cs)
  (hn:x ≠ "__name__" := by decide) (hdb:(x == ("__debug__" : Str))=false:=by decide)
  (he:starEach (e :: es) X.env=(false,eval e X.env) :: starEach es X.env:=by rfl) (hpl:(backTo pos (starEach es X.env)).any (·.1)=false:=by rfl):PV G X (.Call (.Name x p) (e :: es) [] pos) (eN f cs) :=
 PE.weak (fz hc hg hm hv ha hn hdb he hpl) fun σ H Q hq=>by
  obtain ⟨Φ,η,m,t,s,e,k⟩:=hq
  unfold eN at e
  obtain ⟨l,el,e⟩:=zz.mp e
  exact r6 ok s el e k
theorem lV {r:List V->Hp->VK->Prop} {f:Z0->Z1} {Ty:String} {x:Str} (hc:cG X (.type Ty) r) (ok:eD G r f) (hg:Gl X x) (hm:X.mg x=none) (hv:bootBuiltins x=some (.type Ty)) (ha:PVs G X (e :: es) cs)
  (hn:x ≠ "__name__" := by decide) (hdb:(x == ("__debug__" : Str))=false:=by decide)
  (he:starEach (e :: es) X.env=(false,eval e X.env) :: starEach es X.env:=by rfl) (hpl:(backTo pos (starEach es X.env)).any (·.1)=false:=by rfl):PV G X (.Call (.Name x p) (e :: es) [] pos) (eN f cs) :=
 PE.weak (lX hc hg hm hv ha hn hdb he hpl) fun σ H Q hq=>by
  obtain ⟨Φ,η,m,t,s,e,k⟩:=hq
  unfold eN at e
  obtain ⟨l,el,e⟩:=zz.mp e
  exact r6 ok s el e k
theorem ux (h:PVs G X es cs):PV G X (.List es pos) (bC cs):=PE.weak (uI h) fun σ H Q hq=>by
 obtain ⟨Φ,η,m,t,s,e,k⟩:=hq
 unfold bC at e
 obtain ⟨l,el,e⟩:=zz.mp e
 refine ⟨Φ,η,l,s,el,fun vs H' Fs e1 r1 f1=>?_⟩
 have A:Args G Φ η H H' l vs Fs:=⟨e1,r1,f1⟩
 obtain ⟨_,hl,_⟩:=jc e
 refine ⟨by rw [r1.len.1,← dN];exact hl,iT e1 e r1 (f1.join A.len) fun v H2 F e2 r2 f2=>k v H2 F (e1.trans e2) r2 f2⟩
theorem uV {x1} (h:PVs G X es cs):PV G X (.Tuple es x1 pos) (nc cs):=PE.weak (oq h) fun σ H Q hq=>by
 obtain ⟨Φ,η,m,t,s,e,k⟩:=hq
 unfold nc at e
 obtain ⟨l,el,e⟩:=zz.mp e
 refine ⟨Φ,η,l,s,el,fun vs H' Fs e1 r1 f1=>?_⟩
 have A:Args G Φ η H H' l vs Fs:=⟨e1,r1,f1⟩
 unfold rJ at e
 split at e
 ·rename_i hl
  cases e
  refine ⟨by rw [r1.len.1,← dN,trees,zt];exact hl,fun q hq=>?_⟩
  have r2:Rp G (upd H' q (.tup vs)) (.ref q) (.tup (trees l)) Fs.flatten:=.tup bB (r1.same (dc hq))
  exact k _ _ _ (e1.trans (dc hq)) r2 (Fp.up (f1.join A.len) r2)
 ·cases e
theorem qw {H:Hp} {v:V} {t:T} {F:Zg} {k:Bool} (r:Rp G H v t F) (h:tru t=some k):sU G.K v H k:=by
 cases r with
 | non=>cases h;rfl
 | bl b=>cases h;rfl
 | int i=>cases h;rfl
 | str s hl =>
  cases h
  refine ⟨by rw [cK,← dN];exact hl.1,?_⟩
  rw [cK]
  cases s with
  | nil=>rfl
  | cons a r =>
   have:((List.length (a :: r):Int) != 0)=true:=by simp;lia
   rw [this]
   rfl
 | scr h'=>cases h
 | tup h' q =>
  cases h
  refine .inr (.inl ⟨_,SqT.of h',?_⟩)
  have:=q.len.1
  rename_i vs ts _
  cases vs <;> cases ts <;> simp_all
 | lst h' q =>
  cases h
  refine .inl ⟨_,SqL.of h',?_⟩
  have:=q.len.1
  rename_i vs ts _
  cases vs <;> cases ts <;> simp_all
 | dct h' hl q =>
  cases h
  refine .inr (.inr ⟨_,h',?_⟩)
  have:=q.len.1
  rename_i ks vs ts _
  cases ks <;> cases vs <;> cases ts <;> simp_all
 | dctT h' hl q=>cases h
 | dctN h' hl n q=>cases h
 | exc _ _=>cases h
theorem rq (h:PV G X a ca) (hK:X.K=G.K:=by rfl) (he:∀ whole,isTrue a X.env whole=(do let v ← whole;standAt a.pos;holding [v] (truthy v)):=by intro _;rfl):PVT G X a ca :=
 PT.weak (oH h he) fun σ H Q ⟨Φ,η,m,r,b,s,e,eb,k⟩=>⟨Φ,η,m,r,s,e,fun v H' F e1 r1 f1=>⟨b,by rw [hK];exact qw r1 eb,k H' e1⟩⟩
noncomputable def PVW (G:Gx) (X:Cx) (e:Expr) (c:Ex):Prop:=PW X e (tT G c)
theorem PW.weak {X:Cx} {e:Expr} {t t':TT} (h:PW X e t) (w:∀ σ H Q,t' σ H Q->t σ H Q):PW X e t':=fun wh pins s σ H Q I q=>h wh pins s σ H Q I (w σ H Q q)
theorem PVW.pvt (h:PVW G X e ca):PVT G X e ca:=PW.pt h
variable {rest:List Expr}
theorem o5 (ha:PVT G X a ca):PVW G X (.BoolOp .And [a] pos) ca:=qD ha
theorem pK (ha:PVT G X a ca):PVW G X (.BoolOp .Or [a] pos) ca:=ur ha
theorem jM {η:VS.Env} {m:Md} {r:T} (e:fQ ca cb η=some (m,r)):(∃ n,ca η=some (n,.bl true)/\cb η=some (m,r))\/(∃ n,ca η=some (n,.bl false)/\m=.fr/\r=.bl false):=by
 unfold fQ at e
 obtain ⟨⟨n,x⟩,ea,e⟩:=zz.mp e
 split at e
 ·rename_i h
  cases (show x=.bl true from h)
  exact .inl ⟨n,ea,e⟩
 ·rename_i h
  cases (show x=.bl false from h)
  cases e
  exact .inr ⟨n,ea,rfl,rfl⟩
 ·cases e
theorem lg {η:VS.Env} {m:Md} {r:T} (e:eOr ca cb η=some (m,r)):(∃ n,ca η=some (n,.bl false)/\cb η=some (m,r))\/(∃ n,ca η=some (n,.bl true)/\m=.fr/\r=.bl true):=by
 unfold eOr at e
 obtain ⟨⟨n,x⟩,ea,e⟩:=zz.mp e
 split at e
 ·rename_i h
  cases (show x=.bl true from h)
  cases e
  exact .inr ⟨n,ea,rfl,rfl⟩
 ·rename_i h
  cases (show x=.bl false from h)
  exact .inl ⟨n,ea,e⟩
 ·cases e
theorem qO (ha:PVT G X a ca) (hb:PVW G X (.BoolOp .And (b :: rest) pos) cb):PVW G X (.BoolOp .And (a :: b :: rest) pos) (fQ ca cb) :=
 PW.weak (sC ha hb) fun σ H Q hq=>by
  obtain ⟨Φ,η,m,r,k,s,e,eb,q⟩:=hq
  rcases jM e with ⟨n,ea,e2⟩ | ⟨n,ea,rfl,rfl⟩
  ·refine ⟨Φ,η,n,_,true,s,ea,rfl,fun H' e1=>?_⟩
   refine kD ?_
   exact ⟨Φ,η,m,r,k,s.same e1,e2,eb,fun H2 e2=>q H2 (e1.trans e2)⟩
  ·refine ⟨Φ,η,n,_,false,s,ea,rfl,fun H' e1=>?_⟩
   refine ko ?_
   cases eb
   exact q H' e1
theorem vd (ha:PVT G X a ca) (hb:PVW G X (.BoolOp .Or (b :: rest) pos) cb):PVW G X (.BoolOp .Or (a :: b :: rest) pos) (eOr ca cb) :=
 PW.weak (vo ha hb) fun σ H Q hq=>by
  obtain ⟨Φ,η,m,r,k,s,e,eb,q⟩:=hq
  rcases lg e with ⟨n,ea,e2⟩ | ⟨n,ea,rfl,rfl⟩
  ·refine ⟨Φ,η,n,_,false,s,ea,rfl,fun H' e1=>?_⟩
   refine ko ?_
   exact ⟨Φ,η,m,r,k,s.same e1,e2,eb,fun H2 e2=>q H2 (e1.trans e2)⟩
  ·refine ⟨Φ,η,n,_,true,s,ea,rfl,fun H' e1=>?_⟩
   refine kD ?_
   cases eb
   exact q H' e1
theorem nS {η:VS.Env} {m:Md} {r:T} (e:gI ca η=some (m,r)):∃ n b,ca η=some (n,.bl b)/\m=.fr/\r=.bl (!b):=by
 unfold gI at e
 obtain ⟨⟨n,x⟩,ea,e⟩:=zz.mp e
 split at e
 ·rename_i b h
  cases (show x=.bl b from h)
  cases e
  exact ⟨n,b,ea,rfl,rfl⟩
 ·cases e
theorem rm (ha:PVT G X a ca):PVT G X (.UnaryOp .Not a pos) (gI ca):=PT.weak (uq ha) fun σ H Q hq=>by
 obtain ⟨Φ,η,m,r,k,s,e,eb,q⟩:=hq
 obtain ⟨n,b,ea,rfl,rfl⟩:=nS e
 cases eb
 exact ⟨Φ,η,n,_,b,s,ea,rfl,fun H' e1=>q H' e1⟩
theorem vb {op} (h:PV G X a ca):PV G X (.BoolOp op [a] pos) ca:=um h
theorem sV (ha:PV G X a ca) (hb:PV G X (.BoolOp .And (b :: rest) pos) cb):PV G X (.BoolOp .And (a :: b :: rest) pos) (fQ ca cb) :=
 PE.weak (uE ha hb) fun σ H Q hq=>by
  obtain ⟨Φ,η,m,r,s,e,q⟩:=hq
  rcases jM e with ⟨n,ea,e2⟩ | ⟨n,ea,rfl,rfl⟩
  ·refine ⟨Φ,η,n,_,s,ea,fun v H' F e1 r1 f1=>⟨true,r1.bl_inv,?_⟩⟩
   refine kD ?_
   exact ⟨Φ,η,m,r,s.same e1,e2,fun v H2 F e2 r2 f2=>q v H2 F (e1.trans e2) r2 (f2.back e1)⟩
  ·refine ⟨Φ,η,n,_,s,ea,fun v H' F e1 r1 f1=>⟨false,r1.bl_inv,?_⟩⟩
   refine ko ?_
   exact q _ H' _ e1 (.bl _) Fp.nil
theorem wx (ha:PV G X a ca) (hb:PV G X (.BoolOp .Or (b :: rest) pos) cb):PV G X (.BoolOp .Or (a :: b :: rest) pos) (eOr ca cb) :=
 PE.weak (v8 ha hb) fun σ H Q hq=>by
  obtain ⟨Φ,η,m,r,s,e,q⟩:=hq
  rcases lg e with ⟨n,ea,e2⟩ | ⟨n,ea,rfl,rfl⟩
  ·refine ⟨Φ,η,n,_,s,ea,fun v H' F e1 r1 f1=>⟨false,r1.bl_inv,?_⟩⟩
   refine ko ?_
   exact ⟨Φ,η,m,r,s.same e1,e2,fun v H2 F e2 r2 f2=>q v H2 F (e1.trans e2) r2 (f2.back e1)⟩
  ·refine ⟨Φ,η,n,_,s,ea,fun v H' F e1 r1 f1=>⟨true,r1.bl_inv,?_⟩⟩
   refine kD ?_
   exact q _ H' _ e1 (.bl _) Fp.nil
theorem vM (hc:PVT G X c cc) (ha:PV G X a ca) (hb:PV G X b cb):PV G X (.IfExp c a b pos) (eIf cc ca cb) :=
 PE.weak (ov hc ha hb) fun σ H Q hq=>by
  obtain ⟨Φ,η,m,r,s,e,q⟩:=hq
  unfold eIf at e
  obtain ⟨⟨n,x⟩,ec,e⟩:=zz.mp e
  obtain ⟨k,ek,e⟩:=zz.mp e
  refine ⟨Φ,η,n,x,k,s,ec,ek,fun H' e1=>?_⟩
  cases k with
  | true =>
   rw [zi rfl] at e
   refine kD ?_
   exact ⟨Φ,η,m,r,s.same e1,e,fun v H2 F e2 r2 f2=>q v H2 F (e1.trans e2) r2 (f2.back e1)⟩
  | false =>
   rw [if_neg zh] at e
   refine ko ?_
   exact ⟨Φ,η,m,r,s.same e1,e,fun v H2 F e2 r2 f2=>q v H2 F (e1.trans e2) r2 (f2.back e1)⟩
theorem lu {H:Hp} {v:V} {t:T} {F:Zg} (r:Rp G H v t F):decide (v=.non)=isN t:=by
 cases r <;> simp [isN]
theorem rW {t:TE} {c:Ex} {σ:L2.St} {H:Hp} {Q:Bool->Hp->Prop} (h:tT G c σ H Q) (ht:∀ η m r,c η=some (m,r)->∃ b,r=.bl b) (w:∀ Q,tE G c σ H Q->t σ H Q):tB t σ H Q:=by
 obtain ⟨Φ,η,m,r,b,s,e,eb,k⟩:=h
 refine w _ ⟨Φ,η,m,r,s,e,fun v H' F e1 r1 f1=>?_⟩
 obtain ⟨b',er⟩:=ht η m r e
 rw [er] at eb r1
 cases (show some b'=some b from eb)
 exact ⟨_,r1.bl_inv,k H' e1⟩
end
section
variable {G:Gx} {X:Cx} {a b c e:Expr} {es:List Expr} {ca cb cc:Ex} {cs:Exs} {pos p:Pos}
theorem RpL.one {H:Hp} {vs:List V} {t:T} {Fs:Zj} (r:RpL G H vs [t] Fs):∃ v F,vs=[v]/\Fs=[F]/\Rp G H v t F:=by
 cases r with
 | cons r q=>cases q;exact ⟨_,_,rfl,rfl,r⟩
theorem RpL.two {H:Hp} {vs:List V} {t t':T} {Fs:Zj} (r:RpL G H vs [t,t'] Fs):∃ v v' F F',vs=[v,v']/\Fs=[F,F']/\Rp G H v t F/\Rp G H v' t' F':=by
 cases r with
 | cons r q =>
  obtain ⟨v',F',rfl,rfl,r'⟩:=q.one
  exact ⟨_,_,_,_,rfl,rfl,r,r'⟩
noncomputable def vJ (K:Zi):List V->Hp->VK->Prop:=fun xs H Q=>(∃ x n,xs=[x]/\vI K x H n/\Q (.int n) H)\/(∃ a kvs,xs=[V.ref a]/\H a=some (.dK kvs)/\Q (.int kvs.length) H)
theorem kl:cG X (.builtin "len") (fun xs H Q=>∃ a kvs,xs=[V.ref a]/\H a=some (.dK kvs)/\Q (.int kvs.length) H):=by
 intro pins s σ H xs us Q I r h
 obtain ⟨a,kvs,rfl,ha,q⟩:=h
 obtain ⟨u,rfl,ru⟩:=vals1 r
 cases ru
 exact vQ I (.inl ha) fun t s' I'=>⟨.int kvs.length,H,I',⟨t,rfl⟩,q⟩
theorem mI:cG X (.builtin "len") (vJ X.K):=oD.or kl
theorem tL:eD G (vJ G.K) cp:=by
 intro Φ η H0 H l vs Fs m t Q A e k
 refine L2.iz fun P_ k_=>?_
 unfold cp at e
 split at e
 ·rename_i x
  obtain ⟨mx,x⟩:=x
  obtain ⟨n,en,e⟩:=zv.mp e
  cases e
  obtain ⟨v,F,rfl,rfl,r⟩:=(show RpL G H vs [x] Fs from A.rp).one
  have fin:Q (.int (n:Int)) H:=bp k (.int _)
  cases r with
  | non=>cases en
  | bl b=>cases en
  | int i=>cases en
  | str s hl =>
   cases en
   refine k_ ?_
   exact .inl ⟨_,_,rfl,⟨by rw [cK,← dN];exact hl.1,rfl⟩,by rw [cK];exact fin⟩
  | scr h =>
   cases en
   refine k_ ?_
   refine .inl ⟨_,_,rfl,.inl ⟨_,h.seq,rfl⟩,?_⟩
   rw [zt]
   exact fin
  | tup h q =>
   cases en
   refine k_ ?_
   refine .inl ⟨_,_,rfl,.inr ⟨_,SqT.of h,rfl⟩,?_⟩
   rw [q.len.1]
   exact fin
  | lst h q =>
   cases en
   refine k_ ?_
   refine .inl ⟨_,_,rfl,.inl ⟨_,SqL.of h,rfl⟩,?_⟩
   rw [q.len.1]
   exact fin
  | dct h hl q =>
   cases en
   refine k_ ?_
   refine .inr ⟨_,_,rfl,h,?_⟩
   rename_i ks ws ts _
   have e1:=q.len.1
   rw [List.length_zip,zt] at fin
   rw [List.length_zip,e1]
   exact fin
  | dctT h hl q=>cases en
  | dctN h hl n q=>cases en
  | exc _ _=>cases en
 ·cases e
theorem qv:eD G (fun xs H Q=>∃ i j,xs=[.int i,.int j]/\Q (.int (if j > i then j else i)) H) j5:=by
 intro Φ η H0 H l vs Fs m t Q A e k
 unfold j5 at e
 split at e
 ·rename_i _ i _ j
  cases e
  obtain ⟨v,v',F,F',rfl,rfl,r,r'⟩:=(show RpL G H vs [.int i,.int j] Fs from A.rp).two
  exact ⟨i,j,by rw [r.int_inv,r'.int_inv],bp k (.int _)⟩
 ·cases e
theorem qk:eD G (fun xs H Q=>∃ i j,xs=[.int i,.int j]/\Q (.int (if j < i then j else i)) H) jQ:=by
 intro Φ η H0 H l vs Fs m t Q A e k
 unfold jQ at e
 split at e
 ·rename_i _ i _ j
  cases e
  obtain ⟨v,v',F,F',rfl,rfl,r,r'⟩:=(show RpL G H vs [.int i,.int j] Fs from A.rp).two
  exact ⟨i,j,by rw [r.int_inv,r'.int_inv],bp k (.int _)⟩
 ·cases e
noncomputable def tO (G:Gx) (c:Option Ex):TO:=fun σ H Q=>∃ Φ η o,SR G Φ η σ H/\jH c η=some o/\∀ H',bf H H'->Q o H'
noncomputable def PVO (G:Gx) (X:Cx) (e:Option Expr) (c:Option Ex):Prop:=PO X e (tO G c)
theorem PO.weak {X:Cx} {e:Option Expr} {t t':TO} (h:PO X e t) (w:∀ σ H Q,t' σ H Q->t σ H Q):PO X e t':=fun pins s σ H Q I q=>h pins s σ H Q I (w σ H Q q)
theorem pq:PVO G X none none:=PO.weak pP fun σ H Q hq=>by
 obtain ⟨Φ,η,o,s,e,k⟩:=hq
 cases (show some (none:Option Int)=some o from e)
 exact k H (bf.refl _)
theorem oV (h:PV G X a ca):PVO G X (some a) (some ca):=PO.weak (pB h) fun σ H Q hq=>by
 obtain ⟨Φ,η,o,s,e,k⟩:=hq
 obtain ⟨⟨m,y⟩,ea,e⟩:=zz.mp (show (ca η).bind (fun y=>(int? y.2).map some)=some o from e)
 obtain ⟨i,ei,e⟩:=zv.mp e
 cases e
 refine ⟨Φ,η,m,y,s,ea,fun v H' F e1 r1 f1=>?_⟩
 cases y with
 | int j =>
  cases ei
  exact ⟨_,r1.int_inv,k H' e1⟩
 | _=>cases ei
theorem gm {α:Type} (l:List α) (lo hi:Option Int):cut l lo hi=(l.drop (HT.sIx l.length 0 lo)).take (HT.sIx l.length l.length hi - HT.sIx l.length 0 lo):=by
 unfold cut
 cases lo <;> cases hi <;> rfl
theorem o6 (lo hi:Option Int) (n:Nat):Builtin.Str.strSliceIndices lo hi 1 n=Builtin.Str.strSliceIndices (some ((min (HT.sIx n 0 lo) n:Nat):Int)) (some ((min (HT.sIx n n hi) n:Nat):Int)) 1 n:=by
 have e1:∀ k:Nat,¬ ((k:Int) < 0):=fun k=>by lia
 unfold Builtin.Str.strSliceIndices
 simp only [show (1:Int) > 0 by decide,if_true,e1,if_false]
 congr 1
 ·cases lo with
  | none=>simp only [HT.sIx];lia
  | some i =>
   simp only [HT.sIx]
   by_cases h:i < 0
   ·simp only [h,if_true];lia
   ·simp only [h,if_false];lia
 ·cases hi with
  | none=>simp only [HT.sIx];lia
  | some i =>
   simp only [HT.sIx]
   by_cases h:i < 0
   ·simp only [h,if_true];lia
   ·simp only [h,if_false];lia
theorem iw (s:Tx) (lo hi:Option Int):PySem.StrLaws.sliceText (sx s) lo hi=sx (cut s lo hi):=by
 have key:PySem.StrLaws.sliceText (sx s) lo hi=PySem.StrLaws.sliceText (sx s) (some ((min (HT.sIx s.length 0 lo) s.length:Nat):Int)) (some ((min (HT.sIx s.length s.length hi) s.length:Nat):Int)):=by
  unfold PySem.StrLaws.sliceText
  rw [cK,o6]
 rw [key]
 have hd:∀ a:Nat,s.drop (min a s.length)=s.drop a:=fun a=>by
  by_cases h:a<=s.length
  ·rw [Nat.min_eq_left h]
  ·rw [Nat.min_eq_right (by exact yF h),yu (zm _),yu (by exact yF h)]
 by_cases h:min (HT.sIx s.length 0 lo) s.length<=min (HT.sIx s.length s.length hi) s.length
 ·rw [PySem.StrLaws.sliceText_nat (sx s) h (by rw [cK];exact Nat.min_le_right _ _),gm]
  show (⟨_⟩:Str)=⟨_⟩
  congr 2
  show ((sx s).cps.toList.drop _).take _=_
  have:(sx s).cps.toList=s:=rfl
  rw [this,hd]
  by_cases h2:HT.sIx s.length 0 lo<=s.length
  ·rw [Nat.min_eq_left h2]
   by_cases h3:HT.sIx s.length s.length hi<=s.length
   ·rw [Nat.min_eq_left h3]
   ·rw [Nat.min_eq_right (by exact yF h3),List.take_of_length_le (by rw [ym];exact zm _),List.take_of_length_le (by rw [ym];lia)]
  ·rw [yu (by exact yF h2)]
   simp
 ·have e0:cut s lo hi=[]:=by
   rw [gm]
   have:HT.sIx s.length s.length hi - HT.sIx s.length 0 lo=0:=by omega
   rw [this,List.take_zero]
  rw [e0]
  unfold PySem.StrLaws.sliceText
  have e2:Builtin.Str.strSliceIndices (some ((min (HT.sIx s.length 0 lo) s.length:Nat):Int)) (some ((min (HT.sIx s.length s.length hi) s.length:Nat):Int)) 1 (sx s).length=[]:=by
   have e1:∀ k:Nat,¬ ((k:Int) < 0):=fun k=>by lia
   unfold Builtin.Str.strSliceIndices sliceRange
   simp only [show (1:Int) > 0 by decide,if_true,e1,if_false,cK]
   rw [if_neg (by omega)]
   rfl
  rw [e2]
  have:¬ ((1:Int) == 1 && ([]:Zd).length == (sx s).length)=true:=by
   rw [cK]
   simp
   lia
  rw [if_neg this]
  rfl
noncomputable def vi:V->Option Int->Option Int->Hp->VK->Prop:=fun x lo hi H Q=>∃ z,x=.str z/\z.length<=sizeLine/\Q (.str (PySem.StrLaws.sliceText z lo hi)) H
theorem part_of {v:Value} {o:Option Int} (h:IsPart v o):∃ q:Option (Int×Tok),v=partValue q/\o=q.map (·.1):=by
 cases h with
 | none=>exact ⟨none,rfl,rfl⟩
 | int i t=>exact ⟨some (i,t),rfl,rfl⟩
theorem jm {α β:Type} (f:α->Option β) (l:List α):(l.filterMap f).length<=l.length:=List.length_filterMap_le f l
theorem rA (lo hi:Option Int) (n:Nat):(Builtin.Str.strSliceIndices lo hi 1 n).length<=n:=by
 rw [o6]
 by_cases h:min (HT.sIx n 0 lo) n<=min (HT.sIx n n hi) n
 ·rw [PySem.StrLaws.strSliceIndices_plain h (by exact Nat.min_le_right _ _),zt,yo]
  lia
 ·have e1:∀ k:Nat,¬ ((k:Int) < 0):=fun k=>by lia
  unfold Builtin.Str.strSliceIndices sliceRange
  simp only [show (1:Int) > 0 by decide,if_true,e1,if_false]
  rw [if_neg (by omega)]
  simp
theorem uz:SlR X vi:=by
 intro pins s σ H x v vl vu lo hi sl Q I rx hs pl pu h
 obtain ⟨z,rfl,hz,q⟩:=h
 obtain ⟨t,rfl⟩:=rx
 obtain ⟨l,rfl,rfl⟩:=part_of pl
 obtain ⟨u,rfl,rfl⟩:=part_of pu
 refine ⟨"str",_,F.slot_str_getitem.lookup,yY s z t,wpAny_getItem_str_slice (l:=l) (u:=u) (st:=none) hs rfl ?_⟩
 unfold sliceMade
 split
 ·rename_i hc
  refine ⟨.str z,H,I,⟨t,rfl⟩,?_⟩
  have e:PySem.StrLaws.sliceText z (l.map (·.1)) (u.map (·.1))=z:=by
   unfold PySem.StrLaws.sliceText
   exact zi hc
  rw [e] at q
  exact q
 ·rename_i hc
  refine ⟨zk ?_ hz,.str _,H,I.tok _,⟨_,rfl⟩,?_⟩
  ·show (List.filterMap _ _).toArray.size<=_
   rw [zd]
   exact zk (jm _ _) (rA _ _ _)
  ·have e:PySem.StrLaws.sliceText z (l.map (·.1)) (u.map (·.1))=⟨((slicePicked z l u none).filterMap (z.cps[·]?)).toArray⟩:=by
    unfold PySem.StrLaws.sliceText
    exact if_neg hc
   rw [e] at q
   exact q
noncomputable def rSl (K:Zi):V->Option Int->Option Int->Hp->VK->Prop:=fun x lo hi H Q=>vi x lo hi H Q\/wD K x lo hi H Q
theorem w5:SlR X (rSl X.K):=uz.or p7
theorem qu {α:Type} (l:List α) (lo hi:Option Int):(cut l lo hi).length<=l.length:=by
 rw [gm,yE,ym]
 lia
theorem RpL.cut {H:Hp} {vs:List V} {ts:Z2} {Fs:Zj} (r:RpL G H vs ts Fs) (lo hi:Option Int):RpL G H (mZ vs lo hi) (VS.cut ts lo hi) (VS.cut Fs lo hi):=by
 have h:=r.len
 rw [gm,gm,h.2]
 unfold mZ
 rw [h.1]
 exact (r.drop _).take _
theorem lr {α:Type} (l:List α) (lo hi:Option Int):(VS.cut l lo hi).Sublist l:=by
 rw [gm]
 exact (List.take_sublist _ _).trans (List.drop_sublist _ _)
theorem nY {F G:Zj} (h:F.Sublist G):F.flatten.Sublist G.flatten:=by
 induction h with
 | slnil=>exact List.Sublist.refl _
 | cons a _ ih=>rw [zc];exact ih.trans (List.sublist_append_right _ _)
 | cons_cons a _ ih=>rw [zc,zc];exact (List.Sublist.refl _).append ih
theorem ni {lo hi:Option Expr} {cl ch:Option Ex} {p2:Pos} (ha:PV G X a ca) (hl:PVO G X lo cl) (hh:PVO G X hi ch) (hK:X.K=G.K:=by rfl):PV G X (.Subscript a (.Slice lo hi none p2) pos) (eSl ca cl ch) :=
 PE.weak (oy w5 ha hl hh) fun σ H Q hq=>by
  obtain ⟨Φ,η,m,t,s,e,k⟩:=hq
  unfold eSl at e
  obtain ⟨⟨mx,x⟩,ea,e'⟩:=zz.mp e
  obtain ⟨l,el,e''⟩:=zz.mp e'
  obtain ⟨h,eh,e4⟩:=zz.mp e''
  clear e e' e''
  refine ⟨Φ,η,mx,x,s,ea,fun v H1 F e1 r1 f1=>⟨Φ,η,l,s.same e1,el,fun H2 e2=>⟨Φ,η,h,(s.same e1).same e2,eh,fun H3 e3=>?_⟩⟩⟩
  have e03:bf H H3:=(e1.trans e2).trans e3
  have r3:=(r1.same e2).same e3
  unfold oSl at e4
  split at e4
  ·rename_i m' z q
   cases q
   cases e4
   obtain ⟨rfl,hl⟩:=r3.str_inv
   refine .inl ⟨_,rfl,by rw [cK,← dN];exact hl.1,?_⟩
   rw [iw]
   exact k _ H3 _ e03 (.str _ ⟨zk (qu _ _ _) hl.1,fun c hc=>hl.2 c ((lr _ _ _).subset hc)⟩) Fp.nil
  ·rename_i m' z q
   cases q
   obtain ⟨a',vs,Fs,rfl,rfl,ha',ra⟩:=r3.lst_inv
   refine .inr ⟨a',vs,rfl,by rw [hK];exact SqL.of ha',iT e03 e4 (ra.cut l h) ((f1.sub (yb _ _)).sub (nY (lr _ _ _))) fun v H4 F e5 r4 f4=>k v H4 F (e03.trans e5) r4 f4⟩
  ·cases e4
noncomputable def tyS:Ty->String
 | .int => "int"
 | .str => "str"
 | .bool => "bool"
 | .list => "list"
 | .tuple => "tuple"
 | .dict => "dict"
noncomputable def rIs (K:Zi):List V->Hp->VK->Prop:=fun vs H Q=>∃ x c t b,vs=[x,.ty c]/\TyOf K H x t/\PySem.W.kitOne K t (.type c)=some b/\Q (.bl b) H
theorem qA:cG X (.builtin "isinstance") (rIs X.K):=by
 intro pins s σ H xs us Q I r h
 obtain ⟨x,c,t,b,rfl,ty,e,q⟩:=h
 obtain ⟨u,w',rfl,r1,r2⟩:=vals2 r
 cases r2
 exact mh I r1 ty e fun tk=>⟨.bl b,H,I.tok _,rfl,q⟩
theorem p5 (K:Zi) (ty:Ty):(PySem.W.kitOne K (.type "NoneType") (.type (tyS ty))=some false)/\(PySem.W.kitOne K (.type "bool") (.type (tyS ty))=some (kf ty (.bl true)))/\(PySem.W.kitOne K (.type "int") (.type (tyS ty))=some (kf ty (.int 0))) ∧
  (PySem.W.kitOne K (.type "str") (.type (tyS ty))=some (kf ty (.str [])))/\(PySem.W.kitOne K (.type "list") (.type (tyS ty))=some (kf ty (.lst [])))/\(PySem.W.kitOne K (.type "tuple") (.type (tyS ty))=some (kf ty (.tup [])))/\(PySem.W.kitOne K (.type "dict") (.type (tyS ty))=some (kf ty (.dct 0 []))):=by
 cases ty <;> refine ⟨?_,?_,?_,?_,?_,?_,?_⟩ <;> kernel_rfl
theorem vZ {H:Hp} {v:V} {t:T} {F:Zg} (ty:Ty) (r:Rp G H v t F) (h:iW t=true):∃ t',TyOf G.K H v t'/\PySem.W.kitOne G.K t' (.type (tyS ty))=some (kf ty t):=by
 obtain ⟨k1,k2,k3,k4,k5,k6,k7⟩:=p5 G.K ty
 cases r with
 | non=>exact ⟨_,.non,by rw [k1];cases ty <;> rfl⟩
 | bl b=>exact ⟨_,.bl b,by rw [k2];cases ty <;> rfl⟩
 | int i=>exact ⟨_,.int i,by rw [k3];cases ty <;> rfl⟩
 | str s _=>exact ⟨_,.str _,by rw [k4];cases ty <;> rfl⟩
 | scr _=>cases h
 | tup h' q=>exact ⟨_,.tup h',by rw [k6];cases ty <;> rfl⟩
 | lst h' q=>exact ⟨_,.lst h',by rw [k5];cases ty <;> rfl⟩
 | dct h' l q=>exact ⟨_,.dK h',by rw [k7];cases ty <;> rfl⟩
 | dctT h' l q=>exact ⟨_,.dT h',by rw [k7];cases ty <;> rfl⟩
 | dctN h' l n q=>simp at h
 | exc _ _=>cases h
theorem vR (ty:Ty) {x:Str} {p1 p2:Pos} (ha:PV G X a ca) (hg:Gl X "isinstance") (hm:X.mg "isinstance" = none) (hg2:Gl X x) (hm2:X.mg x=none) (hv:bootBuiltins x=some (.type (tyS ty))) (hK:X.K=G.K:=by rfl)
  (hn:x ≠ "__name__" := by decide) (hdb:(x == ("__debug__" : Str))=false:=by decide) (hs:starEach [a,.Name x p2] X.env=(false,eval a X.env) :: starEach [.Name x p2] X.env:=by rfl)
  (hs2:starEach [.Name x p2] X.env=(false,eval (.Name x p2) X.env) :: starEach [] X.env:=by rfl) (hpl:(backTo pos (starEach [Expr.Name x p2] X.env)).any (·.1)=false:=by rfl) :
  PV G X (.Call (.Name "isinstance" p1) [a,.Name x p2] [] pos) (eIs ty ca) :=
 PE.weak (fz qA hg hm boot_isinstance (di ha (di (lb (v:=.ty (tyS ty)) hg2 hm2 hv rfl hn hdb) gj hs2) hs) (by decide) rfl hs hpl) fun σ H Q hq=>by
  obtain ⟨Φ,η,m,t,s,e,k⟩:=hq
  unfold eIs at e
  obtain ⟨⟨mx,y⟩,ea,e'⟩:=zz.mp e
  split at e'
  ·rename_i hk
   cases e'
   refine ⟨Φ,η,mx,y,s,ea,fun v H' F e1 r1 f1=>?_⟩
   obtain ⟨t',h1,h2⟩:=vZ ty r1 hk
   exact ⟨v,tyS ty,t',_,rfl,by rw [hK];exact h1,by rw [hK];exact h2,k _ H' _ e1 (.bl _) Fp.nil⟩
  ·cases e'
end
section
variable {G:Gx} {X:Cx} {a b c e:Expr} {es:List Expr} {ca cb cc:Ex} {cs:Exs} {pos p:Pos}
noncomputable def ui (G:Gx) (r:V->List V->Hp->VK->Prop) (f:Val->Z0->Z1):Prop:=∀ (Φ:Fps) (η:VS.Env) (H0 H1 H:Hp) (x:Val) (v:V) (F:Zg) (l:Z0) (vs:List V) (Fs:Zj) (m:Md) (t:T) (Q:VK),
 bf H0 H1->Rp G H v x.2 F->Fp Φ η H0 x.1 F->Args G Φ η H1 H l vs Fs->f x l=some (m,t)->(∀ v H' F,bf H H'->Rp G H' v t F->Fp Φ η H0 m F->Q v H')->r v vs H Q
theorem rY {T' id:String} {name:Str} {r:V->List V->Hp->VK->Prop} {f:Val->Z0->Z1} {apos cpos:Pos} (pa:PlainAttrs T') (slot:Slot T' name id) (hty:typeOf (.builtin id)=pure (.type "method_descriptor")) (hm:MtR X id r) (ok:ui G r f)
  (hT:∀ H v (x:Val) F l z,Rp G H v x.2 F->f x l=some z->tyV G.K T' v H) (ho:PV G X a ca) (ha:PVs G X (e :: es) cs) (hK:X.K=G.K:=by rfl)
  (hbase:attributeBase a name X.env (eval a X.env)=eval a X.env:=by rfl)
  (hfew:((backTo cpos (starEach (e :: es) X.env)).all (fun x=>!x.1) && (backToKw cpos (keywordEach [] X.env)).all (fun x=>x.1.isSome)
   && decide ((e :: es).length+([]:List Keyword).length+(if ([]:List Keyword).isEmpty then 0 else 1) < 30))=true:=by rfl)
  (hline:(apos.endLine == cpos.line)=true:=by rfl) (hs:starEach (e :: es) X.env=(false,eval e X.env) :: starEach es X.env:=by rfl) (hplain:(backTo cpos (starEach es X.env)).any (·.1)=false:=by rfl) :
  PV G X (.Call (.Attribute a name apos) (e :: es) [] cpos) (eM f ca cs) :=
 PE.weak (rN pa slot hty hm ho ha hbase hfew hline hs hplain) fun σ H Q hq=>by
  obtain ⟨Φ,η,m,t,s,e,k⟩:=hq
  unfold eM at e
  obtain ⟨x,ea,e'⟩:=zz.mp e
  obtain ⟨l,el,e''⟩:=zz.mp e'
  refine ⟨Φ,η,x.1,x.2,s,ea,fun v H1 F e1 r1 f1=>⟨by rw [hK];exact hT H1 v x F l _ r1 e'',Φ,η,l,s.same e1,el,fun vs H2 Fs e2 r2 f2=>?_⟩⟩
  exact ok Φ η H H1 H2 x v F l vs Fs m t Q e1 (r1.same e2) f1 ⟨e2,r2,f2⟩ e'' fun v' H3 F' e3 r3 f3=>k v' H3 F' ((e1.trans e2).trans e3) r3 f3
theorem kZ:∀ (sep:Tx) (ss:List Tx),Txt.join (sx sep) (ss.map sx)=sx (az sep ss):=by
 intro sep ss
 have fold:∀ (l:List Tx) (acc:Tx),(l.map sx).foldl (fun acc p=>acc++(sx sep).cps++p.cps) acc.toArray=(l.foldl (fun acc p=>acc++sep++p) acc).toArray:=by
  intro l
  induction l with
  | nil=>intro acc;rfl
  | cons x r ih =>
   intro acc
   rw [zR,yP,yP,← ih]
   congr 1
   simp [sx]
 have jf:∀ (r:List Tx) (acc:Tx),r.foldl (fun acc p=>acc++sep++p) acc=az sep (acc :: r):=by
  intro r
  induction r with
  | nil=>intro acc;rfl
  | cons x r ih =>
   intro acc
   rw [yP,ih]
   cases r with
   | nil=>rfl
   | cons y r=>simp [az]
 cases ss with
 | nil=>rfl
 | cons x r =>
  show (⟨_⟩:Str)=⟨_⟩
  congr 1
  show ((r.map sx).foldl _ x.toArray)=_
  rw [fold,jf]
theorem lj {H:Hp}:∀ {vs:List V} {l:Z2} {Fs:Zj} {ss:List Tx},RpL G H vs l Fs->strs? l=some ss->vs=ss.map fun s=>V.str (sx s)
 | _,_,_,_,.nil,e=>by cases e;rfl
 | _,_,_,_,.cons (t:=t) r q,e=>by
  cases t with
  | str s =>
   simp only [strs?] at e
   obtain ⟨ss',e1,e2⟩:=zv.mp e
   subst e2
   rw [lj q e1,r.str_inv.1]
   rfl
  | _=>cases e
theorem g5:∀ {ss:List Tx} {us:Zf},aW (ss.map fun s=>V.str (sx s)) us->StrsAre us (ss.map sx)
 | [],_,h=>by cases h;exact .nil
 | s :: ss,_,h=>by
  cases h with
  | cons r q =>
   obtain ⟨t,rfl⟩:=r
   exact .cons _ _ (g5 q)
noncomputable def rJoin (K:Zi):V->List V->Hp->VK->Prop:=fun x vs H Q=>∃ sep p ss,x=.str (sx sep)/\vs=[.ref p]/\SqL K H p (ss.map fun s=>V.str (sx s))/\total ss+ss.length * sep.length<=16777216/\Q (.str (sx (az sep ss))) H
theorem lz:∀ ss:List Tx,((ss.map sx).map (·.length)).sum=total ss
 | []=>rfl
 | s :: r=>by
  rw [zR,zR,List.sum_cons,lz r,cK]
  rfl
theorem pU:MtR X "str.join" (rJoin X.K):=by
 intro pins s σ H x xs v us Q I rx rxs h
 obtain ⟨sep,p,ss,rfl,rfl,hq,hl,q⟩:=h
 obtain ⟨t,rfl⟩:=rx
 obtain ⟨u,rfl,ru⟩:=vals1 rxs
 cases ru
 obtain ⟨its,r,pl,hz⟩:=I.list hq
 refine join_list pl.isList (ys:=ss.map sx) (by simpa using g5 r) ?_ fun t' k=>⟨.str _,H,I.tok _,⟨_,by rw [kZ]⟩,q⟩
 rw [lz,zt,cK]
 exact hl
theorem h7 (sep:Tx):∀ ss:List Tx,(az sep ss).length<=total ss+ss.length * sep.length
 | []=>by simp [az,total]
 | [x]=>by simp [az,total]
 | x :: y :: r=>by
  have:=h7 sep (y :: r)
  simp only [az,total,zp,zZ] at this ⊢
  have e:(r.length+1+1) * sep.length=(r.length+1) * sep.length+sep.length:=yD _ _
  lia
theorem hU (sep:Tx):∀ (ss:List Tx) (c:Nat),c∈az sep ss->c∈sep\/∃ s∈ss,c∈s
 | [],c,h=>by simp [az] at h
 | [x],c,h=>.inr ⟨x,zx,h⟩
 | x :: y :: r,c,h=>by
  simp only [az,zT] at h
  rcases h with (h | h) | h
  ·exact .inr ⟨x,zx,h⟩
  ·exact .inl h
  ·exact (hU sep (y :: r) c h).imp id fun ⟨s,hs,hc⟩=>⟨s,zy _ hs,hc⟩
theorem h9 {H:Hp}:∀ {vs:List V} {l:Z2} {Fs:Zj} {ss:List Tx},RpL G H vs l Fs->strs? l=some ss->∀ s∈ss,∀ c∈s,c < 1114112
 | _,_,_,_,.nil,e,s,hs=>by cases e;simp at hs
 | _,_,_,_,.cons (t:=t) r q,e,s,hs=>by
  cases t with
  | str x =>
   simp only [strs?] at e
   obtain ⟨ss',e1,e2⟩:=zv.mp e
   subst e2
   rcases zj.mp hs with rfl | hs
   ·exact r.str_inv.2.2
   ·exact h9 q e1 s hs
  | _=>cases e
theorem qj:ui G (rJoin G.K) bJ:=by
 intro Φ η H0 H1 H x v F l vs Fs m t Q s01 r f A e k
 unfold bJ at e
 split at e
 ·rename_i mx sep ml l'
  obtain ⟨ss,es',e'⟩:=zz.mp e
  split at e'
  ·rename_i hl
   cases e'
   obtain ⟨w',F',rfl,rfl,rl⟩:=(show RpL G H vs [.lst l'] Fs from A.rp).one
   obtain ⟨a',ws,Gs,rfl,rfl,ha,ra⟩:=rl.lst_inv
   rw [lj ra es'] at ha
   refine ⟨sep,a',ss,r.str_inv.1,rfl,SqL.of ha,hl,bp k (.str _ ⟨zk (h7 sep ss) hl,fun c hc=>(hU sep ss c hc).elim (r.str_inv.2.2 c) fun ⟨s',hs',hc'⟩=>h9 ra es' s' hs' c hc'⟩)⟩
  ·cases e'
 ·cases e
theorem jx {H:Hp} {v:V} {t:T} {F:Zg} (r:Rp G H v t F) (h:∃ s,t=.str s):tyV G.K "str" v H:=by
 obtain ⟨s,rfl⟩:=h
 rw [r.str_inv.1]
 rfl
theorem q8 {apos cpos:Pos} (ho:PV G X a ca) (ha:PVs G X [e] cs) (hK:X.K=G.K:=by rfl)
  (hbase:attributeBase a "join" X.env (eval a X.env)=eval a X.env:=by rfl)
  (hfew:((backTo cpos (starEach [e] X.env)).all (fun x=>!x.1) && (backToKw cpos (keywordEach [] X.env)).all (fun x=>x.1.isSome)
   && decide ([e].length+([]:List Keyword).length+(if ([]:List Keyword).isEmpty then 0 else 1) < 30))=true:=by rfl)
  (hline:(apos.endLine == cpos.line)=true:=by rfl) (hs:starEach [e] X.env=(false,eval e X.env) :: starEach [] X.env:=by rfl) (hplain:(backTo cpos (starEach [] X.env)).any (·.1)=false:=by rfl) :
  PV G X (.Call (.Attribute a "join" apos) [e] [] cpos) (eM bJ ca cs) :=
 rY yc PySem.F.slot_str_join PySem.F.type_str_join (hK ▸ pU) qj (fun H v x F l z r e=>jx r (by
  unfold bJ at e
  split at e
  ·exact ⟨_,rfl⟩
  ·cases e)) ho ha hK hbase hfew hline hs hplain
end
end VS
end
section
namespace VS
@[simp] noncomputable def oIx (x y:Val):Z1:=match x.2 with
 | .dct 0 l=>if mT y.2 then (q9 l y.2).map (sub x.1) else none
 | _=>bG x y
@[simp] noncomputable def flat:T->Bool
 | .non=>true
 | .bl _=>true
 | .int _=>true
 | .str _=>true
 | _=>false
@[simp] noncomputable def xn (x y:Val):Z1:=match y.2 with
 | .dct 0 l=>if mT x.2 then some (.fr,.bl (q9 l x.2).isSome) else none
 | .lst l=>if flat x.2 && l.all flat then some (.fr,.bl (l.any fun y=>eqT y x.2)) else none
 | .tup l=>if flat x.2 && l.all flat then some (.fr,.bl (l.any fun y=>eqT y x.2)) else none
 | _=>none
@[simp] noncomputable def wO (x y:Val):Z1:=match xn x y with
 | some (_,.bl b)=>some (.fr,.bl (!b))
 | _=>none
noncomputable def pm {α:Type} (f:T->Option (T×α)):List Ky->T->Option (T×α)
 | [],t=>f t
 | .fld k :: r,.obj c fs=>(fs.findIdx? fun p=>p.1 == k).bind fun i=>(fs[i]?).bind fun p=>(pm f r p.2).map fun z=>(.obj c (fs.set i (p.1,z.1)),z.2)
 | .at (.int i) :: r,.lst l=>(ixP l.length i).bind fun j=>(l[j]?).bind fun x=>(pm f r x).map fun z=>(.lst (l.set j z.1),z.2)
 | .at k :: r,.dct 0 l=>if mT k then (l.findIdx? fun p=>eqT p.1 k).bind fun i=>(l[i]?).bind fun p=>(pm f r p.2).map fun z=>(.dct 0 (l.set i (p.1,z.1)),z.2) else none
 | _,_=>none
end VS
end
section
namespace VS
open PySem PySem.Spec PyProof.Rows L2
section
variable {G:Gx} {X:Cx} {a b c e:Expr} {es:List Expr} {ca cb cc:Ex} {cs:Exs} {pos p:Pos}
mutual
noncomputable def toP:T->PyData
 | .non=>.none
 | .bl b=>.bool b
 | .int i=>.int i
 | .str s=>.str (sx s)
 | .tup l=>.tuple (gU l)
 | .lst l=>.list (gU l)
 | _=>.none
noncomputable def gU:Z2->List PyData
 | []=>[]
 | t :: r=>toP t :: gU r
end
theorem wo {s:Tx} (h:gA s):PyData.strOk (sx s)=true:=by
 unfold PyData.strOk sx
 simp only [Array.all_eq_true,decide_eq_true_eq]
 intro i hi
 have:s.toArray[i]∈s:=by simp
 have:=h.2 _ this
 simpa using this
theorem sM {s t:Tx}:(sx s == sx t)=(s == t):=by
 rw [Bool.eq_iff_iff,beq_iff_eq,beq_iff_eq]
 constructor
 ·intro h
  have:(sx s).cps=(sx t).cps:=by rw [h]
  simpa [sx] using this
 ·intro h
  rw [h]
mutual
theorem jr:∀ (n k:Nat) (t u:T),eqD n t=true->eqD k u=true->PyData.eqv (toP t) (toP u)=eqT t u
 | n,k,t,u,h1,h2=>by
  cases t with
  | scr _=>cases n <;> simp at h1
  | dct _ _=>cases n <;> simp at h1
  | obj _ _=>cases n <;> simp at h1
  | tup l =>
   cases n with
   | zero=>simp at h1
   | succ n =>
    cases u with
    | tup r =>
     cases k with
     | zero=>simp at h2
     | succ k =>
      simp only [toP,PyData.eqv,eqT]
      exact hV n k l r (by simpa using h1) (by simpa using h2)
    | scr _=>cases k <;> simp at h2
    | dct _ _=>cases k <;> simp at h2
    | obj _ _=>cases k <;> simp at h2
    | _=>simp [toP,PyData.eqv,eqT]
  | lst l =>
   cases n with
   | zero=>simp at h1
   | succ n =>
    cases u with
    | lst r =>
     cases k with
     | zero=>simp at h2
     | succ k =>
      simp only [toP,PyData.eqv,eqT]
      exact hV n k l r (by simpa using h1) (by simpa using h2)
    | scr _=>cases k <;> simp at h2
    | dct _ _=>cases k <;> simp at h2
    | obj _ _=>cases k <;> simp at h2
    | _=>simp [toP,PyData.eqv,eqT]
  | str s =>
   cases u with
   | str r=>simp only [toP,PyData.eqv,eqT];exact sM
   | scr _=>cases k <;> simp at h2
   | dct _ _=>cases k <;> simp at h2
   | obj _ _=>cases k <;> simp at h2
   | _=>simp [toP,PyData.eqv,eqT]
  | _ =>
   cases u with
   | scr _=>cases k <;> simp at h2
   | dct _ _=>cases k <;> simp at h2
   | obj _ _=>cases k <;> simp at h2
   | _=>simp [toP,PyData.eqv,eqT]
theorem hV:∀ (n k:Nat) (l r:Z2),(∀ t∈l,eqD n t=true)->(∀ t∈r,eqD k t=true)->PyData.eqvAll (gU l) (gU r)=kh l r
 | _,_,[],[],_,_=>rfl
 | _,_,[],_ :: _,_,_=>rfl
 | _,_,_ :: _,[],_,_=>rfl
 | n,k,t :: l,u :: r,h1,h2=>by
  simp only [gU,PyData.eqvAll,kh]
  rw [jr n k t u (h1 t zx) (h2 u zx),hV n k l r (fun x hx=>h1 x (zy _ hx)) fun x hx=>h2 x (zy _ hx)]
end
theorem Rp.tup_inv5 {H:Hp} {v:V} {ts:Z2} {F:Zg} (r:Rp G H v (.tup ts) F):∃ b vs Fs,v=.ref b/\H b=some (.tup vs)/\RpL G H vs ts Fs:=by
 cases r with
 | tup h q=>exact ⟨_,_,_,rfl,h,q⟩
theorem Rp.lst_inv5 {H:Hp} {v:V} {ts:Z2} {F:Zg} (r:Rp G H v (.lst ts) F):∃ b vs Fs,v=.ref b/\H b=some (.lst vs)/\RpL G H vs ts Fs:=by
 cases r with
 | lst h q=>exact ⟨_,_,_,rfl,h,q⟩
theorem gh {H:Hp} {s:Shared} {n:Nat} (rd:∀ {v:V} {t:T} {F:Zg} {u:Value},Rp G H v t F->RelV v u->eqD n t=true->∃ as,Reads s.heap u (toP t) as/\(toP t).canLay0=true/\(toP t).depth<=n):∀ {vs:List V} {ts:Z2} {Fs:Zj} {us:Zf},RpL G H vs ts Fs->aW vs us->(∀ t∈ts,eqD n t=true) →
  ∃ as,ReadsAll s.heap us (gU ts) as/\PyData.canLayAll0 (gU ts)=true/\PyData.depthAll (gU ts)<=n
 | _,_,_,_,.nil,r,_=>by cases r;exact ⟨_,.nil,rfl,yd _⟩
 | _,_,_,_,.cons p q,r,h=>by
  cases r with
  | cons r1 r2 =>
   obtain ⟨as,h1,h2,h3⟩:=rd p r1 (h _ zx)
   obtain ⟨bs,g1,g2,g3⟩:=gh rd q r2 fun t ht=>h t (zy _ ht)
   exact ⟨_,.cons h1 g1,by simp only [gU,PyData.canLayAll0,h2,g2,Bool.and_self],by simp only [gU,PyData.depthAll];lia⟩
theorem gJ {h:Heap} {H:Hp} {v:V} {t:T} {F:Zg} {u:Value} {n:Nat} (r:Rp G H v t F) (ru:RelV v u) (hf:flat t=true):∃ as,Reads h u (toP t) as/\(toP t).canLay0=true/\(toP t).depth<=n:=by
 cases r with
 | non=>cases ru;exact ⟨_,.none,rfl,yd _⟩
 | bl b=>cases ru;exact ⟨_,.bool b,rfl,yd _⟩
 | int i=>obtain ⟨t,rfl⟩:=ru;exact ⟨_,.int i t,rfl,yd _⟩
 | str s h=>obtain ⟨t,rfl⟩:=ru;exact ⟨_,.str _ t,wo h,yd _⟩
 | _=>cases hf
theorem fS {H:Hp} {pins:Zk} {σ:L2.St} {s:Shared} (I:Inv X pins σ H s) (n:Nat):∀ {v:V} {t:T} {F:Zg} {u:Value},Rp G H v t F->RelV v u->eqD n t=true->∃ as,Reads s.heap u (toP t) as/\(toP t).canLay0=true/\(toP t).depth<=n:=by
 induction n with
 | zero =>
  intro v t F u r ru h
  refine gJ r ru ?_
  cases t <;> first | rfl | exact h
 | succ n ih =>
  intro v t F u r ru h
  cases t with
  | tup l =>
   obtain ⟨b,vs,Fs,rfl,e,q⟩:=Rp.tup_inv5 r
   cases ru
   obtain ⟨its,rv,tp,hz⟩:=I.tuple (SqT.of e)
   obtain ⟨as,h1,h2,h3⟩:=gh ih q rv (by simpa using h)
   obtain ⟨o,ho,hc,n',hd⟩:=tp
   exact ⟨_,.tuple ho hc hd (by simpa using h1),h2,by simp only [toP,PyData.depth];exact Zm h3⟩
  | lst l =>
   obtain ⟨b,vs,Fs,rfl,e,q⟩:=Rp.lst_inv5 r
   cases ru
   obtain ⟨its,rv,pl,hz⟩:=I.list (SqL.of e)
   obtain ⟨as,h1,h2,h3⟩:=gh ih q rv (by simpa using h)
   obtain ⟨o,ho,hc,n',hd⟩:=pl.isList
   exact ⟨_,.list ho hc hd (by simpa using h1),h2,by simp only [toP,PyData.depth];exact Zm h3⟩
  | scr _=>simp at h
  | dct _ _=>simp at h
  | obj _ _=>simp at h
  | _=>exact gJ r ru rfl
noncomputable def qG (G:Gx) (neg:Bool):R2:=fun x y H Q=>∃ t u F F',Rp G H x t F/\Rp G H y u F'/\eqD 60 t=true/\eqD 60 u=true/\Q (.bl (if neg then !eqT t u else eqT t u)) H
theorem eK {d:PyData} (h:d.canLay0=true) (h2:d.depth<=60):SeqAt.shaped d=true:=by
 unfold SeqAt.shaped
 rw [h,yQ]
 exact decide_eq_true (by lia)
theorem m7 (hu:X.A.units+64 < cLine):OpR X (compareOp .Eq) (qG G false):=by
 intro pins s σ H x y v u Q I rx ry h
 obtain ⟨t,w,F,F',r1,r2,h1,h2,q⟩:=h
 obtain ⟨as,a1,a2,a3⟩:=fS I 60 r1 rx h1
 obtain ⟨bs,b1,b2,b3⟩:=fS I 60 r2 ry h2
 refine eq_dataH a1 b1 (eK a2 a3) (eK b2 b3) hu ⟨.bl _,H,I,rfl,?_⟩
 rw [jr 60 60 t w h1 h2]
 exact q
theorem nR (hu:X.A.units+64 < cLine):OpR X (compareOp .NotEq) (qG G true):=by
 intro pins s σ H x y v u Q I rx ry h
 obtain ⟨t,w,F,F',r1,r2,h1,h2,q⟩:=h
 obtain ⟨as,a1,a2,a3⟩:=fS I 60 r1 rx h1
 obtain ⟨bs,b1,b2,b3⟩:=fS I 60 r2 ry h2
 refine ne_dataH a1 b1 (eK a2 a3) (eK b2 b3) hu ⟨.bl _,H,I,rfl,?_⟩
 rw [jr 60 60 t w h1 h2]
 exact q
theorem rG:dZ G (qG G false) oEq:=by
 intro Φ η H0 H x y u w F1 F2 m t Q tw e k
 unfold oEq at e
 split at e
 ·rename_i h
  cases e
  exact ⟨_,_,_,_,tw.r1,tw.r2,h.1,h.2,bp k (.bl _)⟩
 ·cases e
theorem rX:dZ G (qG G true) oNe:=by
 intro Φ η H0 H x y u w F1 F2 m t Q tw e k
 unfold oNe at e
 split at e
 ·rename_i h
  cases e
  exact ⟨_,_,_,_,tw.r1,tw.r2,h.1,h.2,bp k (.bl _)⟩
 ·cases e
theorem tells_eq:Tells oEq:=by
 intro x y m t e
 unfold oEq at e
 split at e <;> first | (cases e;exact ⟨_,rfl⟩) | cases e
theorem nH:Tells oNe:=by
 intro x y m t e
 unfold oNe at e
 split at e <;> first | (cases e;exact ⟨_,rfl⟩) | cases e
end
structure Frm (Φ:Fps) (η:VS.Env) (H:Hp) (Φ':Fps) (η':VS.Env) (H':Hp):Prop where
 keep:∀ a o,H a=some o->¬ cj Φ η a->H' a=some o/\¬ cj Φ' η' a
 dom:∀ a,H a ≠ none->H' a ≠ none
 ow:∀ a,cj Φ' η' a->cj Φ η a\/H a=none
 pu:∀ a,dg Φ' η' a->dg Φ η a\/cj Φ η a\/H a=none
 kept:Kept H H'
theorem Frm.refl (Φ:Fps) (η:VS.Env) (H:Hp):Frm Φ η H Φ η H:=⟨fun a o h n=>⟨h,n⟩,fun _ h=>h,fun _ h=>.inl h,fun _ h=>.inl h,Kept.refl H⟩
theorem Frm.none {Φ Φ':Fps} {η η':VS.Env} {H H':Hp} (f:Frm Φ η H Φ' η' H') {a:Addr} (h:H' a=none):H a=none:=by
 cases e:H a with
 | none=>rfl
 | some o=>exact absurd h (f.dom a (by rw [e];exact fun z=>nomatch z))
theorem Frm.trans {Φ Φ1 Φ2:Fps} {η η1 η2:VS.Env} {H H1 H2:Hp} (f:Frm Φ η H Φ1 η1 H1) (g:Frm Φ1 η1 H1 Φ2 η2 H2):Frm Φ η H Φ2 η2 H2 where
 keep:=fun a o h n=>let ⟨h1,n1⟩:=f.keep a o h n;g.keep a o h1 n1
 dom:=fun a h=>g.dom a (f.dom a h)
 ow:=fun a h=>by
  rcases g.ow a h with h | h
  ·exact f.ow a h
  ·exact .inr (f.none h)
 pu:=fun a h=>by
  rcases g.pu a h with h | h | h
  ·exact f.pu a h
  ·rcases f.ow a h with h | h
   ·exact .inr (.inl h)
   ·exact .inr (.inr h)
  ·exact .inr (.inr (f.none h))
 kept:=f.kept.trans g.kept
theorem Frm.same {Φ:Fps} {η:VS.Env} {H H':Hp} (e:bf H H'):Frm Φ η H Φ η H' :=
 ⟨fun a o h n=>⟨e a o h,n⟩,fun a h z=>h (e.free z),fun _ h=>.inl h,fun _ h=>.inl h,Kept.of e⟩
noncomputable def jy (Φ:Fps) (η:VS.Env) (H:Hp):Md->Zg->Prop
 | .fr,F=>F.Nodup/\∀ a∈F,H a=none\/cj Φ η a
 | _,F=>∀ a∈F,H a=none\/dg Φ η a\/cj Φ η a
theorem jy.back {Φ Φ1:Fps} {η η1:VS.Env} {H H1:Hp} (f:Frm Φ η H Φ1 η1 H1) {F:Zg}:∀ {m:Md},jy Φ1 η1 H1 m F->jy Φ η H m F
 | .fr,h=>⟨h.1,fun a ha=>(h.2 a ha).elim (fun z=>.inl (f.none z)) fun z=>(f.ow a z).elim .inr .inl⟩
 | .pu,h=>fun a ha=>by
  rcases h a ha with z | z | z
  ·exact .inl (f.none z)
  ·rcases f.pu a z with z | z | z
   ·exact .inr (.inl z)
   ·exact .inr (.inr z)
   ·exact .inl z
  ·exact (f.ow a z).elim (fun z=>.inr (.inr z)) .inl
 | .bo,h=>fun a ha=>by
  rcases h a ha with z | z | z
  ·exact .inl (f.none z)
  ·rcases f.pu a z with z | z | z
   ·exact .inr (.inl z)
   ·exact .inr (.inr z)
   ·exact .inl z
  ·exact (f.ow a z).elim (fun z=>.inr (.inr z)) .inl
noncomputable def Nx (G:Gx) (Φ:Fps) (η:VS.Env) (H:Hp) (η':VS.Env) (k:L2.St->Hp->Prop):Prop:=∀ Φ' σ' H',SR G Φ' η' σ' H'->Frm Φ η H Φ' η' H'->k σ' H'
noncomputable def iy (G:Gx) (Φ:Fps) (η:VS.Env) (H:Hp) (D:Ends):Out->Prop
 | .nx η'=>Nx G Φ η H η' D.nx
 | .bk η'=>Nx G Φ η H η' D.bk
 | .ct η'=>Nx G Φ η H η' D.ct
 | .rt v η'=>∀ u H' F Φ' σ',SR G Φ' η' σ' H'->Frm Φ η H Φ' η' H'->Rp G H' u v.2 F->jy Φ η H v.1 F->D.rt u H'
noncomputable def tS (G:Gx) (c:Sx):TS:=fun D σ H=>∃ Φ η o,SR G Φ η σ H/\c η=some o/\iy G Φ η H D o
noncomputable def PSV (G:Gx) (X:Cx) (st:Stmt) (c:Sx):Prop:=PS X st (tS G c)
noncomputable def cB (G:Gx) (X:Cx) (st:List Stmt) (c:Sx):Prop:=PSs X st (tS G c)
theorem PS.weak {X:Cx} {e:Stmt} {t t':TS} (h:PS X e t) (w:∀ D σ H,t' D σ H->t D σ H):PS X e t':=fun pins s σ H D I q=>h pins s σ H D I (w D σ H q)
theorem PSs.weak {X:Cx} {e:List Stmt} {t t':TS} (h:PSs X e t) (w:∀ D σ H,t' D σ H->t D σ H):PSs X e t':=fun pins s σ H D I q=>h pins s σ H D I (w D σ H q)
theorem iy.back {G:Gx} {Φ Φ1:Fps} {η η1:VS.Env} {H H1:Hp} {D:Ends} (f:Frm Φ η H Φ1 η1 H1):∀ {o:Out},iy G Φ η H D o->iy G Φ1 η1 H1 D o
 | .nx η',h=>fun Φ' σ' H' s g=>h Φ' σ' H' s (f.trans g)
 | .bk η',h=>fun Φ' σ' H' s g=>h Φ' σ' H' s (f.trans g)
 | .ct η',h=>fun Φ' σ' H' s g=>h Φ' σ' H' s (f.trans g)
 | .rt v η',h=>fun u H' F Φ' σ' s g r q=>h u H' F Φ' σ' s (f.trans g) r (q.back f)
section
variable {G:Gx} {X:Cx} {st:Stmt} {sts:List Stmt} {c c1 c2:Sx} {pos:Pos} {e:Expr} {ce:Ex}
theorem pO:cB G X [] dJ:=PSs.weak qx fun D σ H hq=>by
 obtain ⟨Φ,η,o,s,e,k⟩:=hq
 cases (show some (Out.nx η)=some o from e)
 exact k Φ σ H s (Frm.refl _ _ _)
theorem m5 (h1:PSV G X st c1) (h2:cB G X sts c2):cB G X (st :: sts) (aA c1 c2):=PSs.weak (jK h1 h2) fun D σ H hq=>by
 obtain ⟨Φ,η,o,s,e,k⟩:=hq
 unfold aA at e
 obtain ⟨o1,e1,e2⟩:=zz.mp e
 refine ⟨Φ,η,o1,s,e1,?_⟩
 cases o1 with
 | nx η1=>exact fun Φ' σ' H' s' f=>⟨Φ',η1,o,s',e2,k.back f⟩
 | rt v η1=>cases e2;exact k
 | bk η1=>cases e2;exact k
 | ct η1=>cases e2;exact k
theorem p6 (h1:PSV G X st c1):cB G X [st] c1:=la h1
theorem tq {t:Expr} {ct:Ex} {a b:List Stmt} (hc:PVT G X t ct) (ha:cB G X a c1) (hb:cB G X b c2):PSV G X (.If t a b pos) (sIf ct c1 c2):=PS.weak (sd hc ha hb) fun D σ H hq=>by
 obtain ⟨Φ,η,o,s,e,k⟩:=hq
 unfold sIf at e
 obtain ⟨⟨m,x⟩,ec,e1⟩:=zz.mp e
 obtain ⟨b',eb,e2⟩:=zz.mp e1
 refine ⟨Φ,η,m,x,b',s,ec,eb,fun H' e3=>?_⟩
 cases b' with
 | true =>
  rw [zi rfl] at e2
  exact kD ⟨Φ,η,o,s.same e3,e2,k.back (Frm.same e3)⟩
 | false =>
  rw [if_neg zh] at e2
  exact ko ⟨Φ,η,o,s.same e3,e2,k.back (Frm.same e3)⟩
theorem Fp.ret {Φ:Fps} {η:VS.Env} {H:Hp} {F:Zg}:∀ {m:Md},Fp Φ η H m F->jy Φ η H (match m with | .bo=>.pu | m=>m) F
 | .fr,f=>⟨f.1,fun a ha=>.inl (f.2 a ha)⟩
 | .pu,f=>fun a ha=>(f a ha).elim .inl fun z=>.inr (.inl z)
 | .bo,f=>f
theorem pD (he:PV G X e ce):PSV G X (.Return (some e) pos) (cA ce):=PS.weak (oY he) fun D σ H hq=>by
 obtain ⟨Φ,η,o,s,e,k⟩:=hq
 unfold cA at e
 obtain ⟨⟨m,x⟩,ec,e1⟩:=zz.mp e
 cases e1
 exact ⟨Φ,η,m,x,s,ec,fun v H' F e1 r1 f1=>k v H' F Φ σ (s.same e1) (Frm.same e1) r1 f1.ret⟩
theorem dw {η:VS.Env} {i j:Nat} {c:Cell} (h:(η.set i none)[j]?=some (some c)):j ≠ i/\η[j]?=some (some c):=by
 rw [List.getElem?_set] at h
 split at h
 ·split at h <;> cases h
 ·rename_i n
  exact ⟨fun z=>n z.symm,h⟩
theorem SR.drop {Φ:Fps} {η:VS.Env} {σ:L2.St} {H:Hp} (s:SR G Φ η σ H) (i:Nat):SR G Φ (η.set i none) σ H :=
 ⟨by rw [yg];exact s.len,fun j c h=>s.rp j c (dw h).2,fun j t h=>s.nd j t (dw h).2,fun j k t c h1 h2 n=>s.sep j k t c (dw h1).2 (dw h2).2 n⟩
theorem Frm.drop {Φ:Fps} {η:VS.Env} {H:Hp} (i:Nat):Frm Φ η H Φ (η.set i Option.none) H :=
 ⟨fun a o h n=>⟨h,fun ⟨j,t,h1,h2⟩=>n ⟨j,t,(dw h1).2,h2⟩⟩,fun _ h=>h,fun a ⟨j,t,h1,h2⟩=>.inl ⟨j,t,(dw h1).2,h2⟩,fun a ⟨j,t,h1,h2⟩=>.inl ⟨j,t,(dw h1).2,h2⟩,Kept.refl H⟩
theorem nA (i:Nat) {x:Str} {p:Pos} (hN:X.N[i]?=some x:=by rfl) (hv:Vis X.env.scope x:=by first | exact Or.inl rfl | exact Or.inr (Or.inl rfl) | exact Or.inr (Or.inr rfl)) (hd:(x == ("__debug__" : Str))=false:=by decide)
  (hcd:(x == ("__classdict__" : Str))=false:=by decide):PSV G X (.Return (some (.Name x p)) pos) (iL i):=PS.weak (oY (kR hN hv hd hcd)) fun D σ H hq=>by
 obtain ⟨Φ,η,o,s,e,k⟩:=hq
 unfold iL at e
 split at e
 ·rename_i t h
  obtain ⟨v,h1,h2⟩:=s.rp _ _ h
  cases e
  exact ⟨v,h1,k v H (Φ i) Φ σ (s.drop i) (Frm.drop i) h2 ⟨s.nd i t h,fun a ha=>.inr ⟨i,t,h,ha⟩⟩⟩
 ·rename_i t h
  obtain ⟨v,h1,h2⟩:=s.rp _ _ h
  cases e
  refine ⟨v,h1,k v H (Φ i) Φ σ s (Frm.refl _ _ _) h2 ?_⟩
  have f:Fp Φ η H .pu (Φ i):=fun a ha=>.inr ⟨i,t,h,ha⟩
  have f2:=(f.up h2).ret
  have:(match (VS.up .pu (fD (.pu t))).1 with | .bo=>Md.pu | m=>m)=(VS.up .pu t).1:=by
   show (match (VS.up .pu t).1 with | .bo=>Md.pu | m=>m)=_
   unfold VS.up
   split <;> (rename_i q;revert q;split <;> simp)
  rw [this] at f2
  exact f2
 ·cases e
noncomputable def gC (Φ:Fps) (i:Nat) (F:Zg):Fps:=fun j=>if j=i then F else Φ j
theorem eO {Φ:Fps} {i:Nat} {F:Zg}:gC Φ i F i=F:=zi rfl
theorem dQ {Φ:Fps} {i j:Nat} {F:Zg} (h:j ≠ i):gC Φ i F j=Φ j:=if_neg h
theorem eg {η:VS.Env} {i j:Nat} {c c':Cell} (h:(η.set i (some c))[j]?=some (some c')):(j=i/\c'=c)\/(j ≠ i/\η[j]?=some (some c')):=by
 rw [List.getElem?_set] at h
 split at h
 ·rename_i e
  split at h
  ·exact .inl ⟨e.symm,(zU (zU h)).symm⟩
  ·cases h
 ·rename_i n
  exact .inr ⟨fun z=>n z.symm,h⟩
theorem SR.put {Φ:Fps} {η:VS.Env} {σ:L2.St} {H H':Hp} {i:Nat} {v:V} {c:Cell} {F:Zg} (s:SR G Φ η σ H) (hi:i < η.length) (r:Rp G H' v (fD c) F)
  (hk:∀ j c',j ≠ i->η[j]?=some (some c')->∀ w,Rp G H w (fD c') (Φ j)->Rp G H' w (fD c') (Φ j))
  (hnd:∀ t,c=.ow t->F.Nodup) (hown:∀ t,c=.ow t->∀ j c',j ≠ i->η[j]?=some (some c')->∀ a∈F,a ∉ Φ j) (hpu:∀ j t,j ≠ i->η[j]?=some (some (.ow t))->∀ a∈Φ j,a ∉ F) :
  SR G (gC Φ i F) (η.set i (some c)) (σ.set i (some v)) H' where
 len:=by rw [yg,yg];exact s.len
 rp:=fun j c' h=>by
  rcases eg h with ⟨rfl,rfl⟩ | ⟨n,h⟩
  ·exact ⟨v,by rw [z7 (by rw [← s.len];exact hi)],by rw [eO];exact r⟩
  ·obtain ⟨w,h1,h2⟩:=s.rp j c' h
   exact ⟨w,by rw [zA (yR n)];exact h1,by rw [dQ n];exact hk j c' n h w h2⟩
 nd:=fun j t h=>by
  rcases eg h with ⟨rfl,e⟩ | ⟨n,h⟩
  ·rw [eO];exact hnd t e.symm
  ·rw [dQ n];exact s.nd j t h
 sep:=fun j k t c' h1 h2 n=>by
  rcases eg h1 with ⟨rfl,e⟩ | ⟨n1,g1⟩
  ·rcases eg h2 with ⟨rfl,e2⟩ | ⟨n2,g2⟩
   ·exact absurd rfl n
   ·rw [eO,dQ n2]
    exact hown t e.symm k c' n2 g2
  ·rcases eg h2 with ⟨rfl,e2⟩ | ⟨n2,g2⟩
   ·rw [eO,dQ n1]
    exact hpu j t n1 g1
   ·rw [dQ n1,dQ n2]
    exact s.sep j k t c' g1 g2 n
theorem ff {Φ:Fps} {η:VS.Env} {i:Nat} {c:Cell} {F:Zg} {a:Addr} (h:cj (gC Φ i F) (η.set i (some c)) a):(∃ t,c=.ow t/\a∈F)\/cj Φ η a:=by
 obtain ⟨j,t,h1,h2⟩:=h
 rcases eg h1 with ⟨rfl,e⟩ | ⟨n,h1⟩
 ·rw [eO] at h2;exact .inl ⟨t,e.symm,h2⟩
 ·rw [dQ n] at h2;exact .inr ⟨j,t,h1,h2⟩
theorem iV {Φ:Fps} {η:VS.Env} {i:Nat} {c:Cell} {F:Zg} {a:Addr} (h:dg (gC Φ i F) (η.set i (some c)) a):(∃ t,c=.pu t/\a∈F)\/dg Φ η a:=by
 obtain ⟨j,t,h1,h2⟩:=h
 rcases eg h1 with ⟨rfl,e⟩ | ⟨n,h1⟩
 ·rw [eO] at h2;exact .inl ⟨t,e.symm,h2⟩
 ·rw [dQ n] at h2;exact .inr ⟨j,t,h1,h2⟩
theorem SR.ow_pu {Φ:Fps} {η:VS.Env} {σ:L2.St} {H:Hp} (s:SR G Φ η σ H) {a:Addr} (h:cj Φ η a) (h':dg Φ η a):False:=by
 obtain ⟨j,t,h1,h2⟩:=h
 obtain ⟨k,u,g1,g2⟩:=h'
 have n:j ≠ k:=fun e=>by subst e;rw [h1] at g1;cases g1
 exact s.sep j k t _ h1 g1 n a h2 g2
theorem SR.val {Φ:Fps} {η:VS.Env} {σ:L2.St} {H H':Hp} {i:Nat} {v:V} {t:T} {m:Md} {F:Zg} {c:Cell} (s:SR G Φ η σ H) (hi:i < η.length) (e:bf H H') (r:Rp G H' v t F) (f:Fp Φ η H m F)
  (hc:(c=.pu t/\m ≠ .bo)\/(c=.ow t/\m=.fr)):SR G (gC Φ i F) (η.set i (some c)) (σ.set i (some v)) H'/\Frm Φ η H (gC Φ i F) (η.set i (some c)) H':=by
 have dom:∀ {a},H a=none->∀ j c',η[j]?=some (some c')->a ∉ Φ j:=fun {a} h j c' hj ha=>by
  obtain ⟨w,_,q⟩:=s.rp j c' hj
  exact Mut.ne_none (q.dom a ha) h
 have ct:fD c=t:=by rcases hc with ⟨rfl,_⟩ | ⟨rfl,_⟩ <;> rfl
 have fpu:∀ a∈F,H a=none\/dg Φ η a:=fun a ha=>by
  rcases hc with ⟨_,n⟩ | ⟨_,n⟩
  ·exact f.pu n a ha
  ·rw [n] at f;exact .inl (f.2 a ha)
 constructor
 ·refine s.put hi (by rw [ct];exact r) (fun j c' n hj w q=>q.same e) (fun u hu=>?_) (fun u hu j c' n hj a ha=>?_) fun j u n hj a ha hF=>?_
  ·rcases hc with ⟨h,_⟩ | ⟨_,h⟩
   ·rw [h] at hu;cases hu
   ·rw [h] at f;exact f.1
  ·rcases hc with ⟨h,_⟩ | ⟨_,h⟩
   ·rw [h] at hu;cases hu
   ·rw [h] at f;exact dom (f.2 a ha) j c' hj
  ·rcases fpu a hF with z | z
   ·exact dom z j _ hj ha
   ·exact s.ow_pu ⟨j,u,hj,ha⟩ z
 ·refine ⟨fun a o h n=>⟨e a o h,fun z=>?_⟩,fun a h z=>h (e.free z),fun a h=>?_,fun a h=>?_,Kept.of e⟩
  ·rcases ff z with ⟨u,hu,ha⟩ | z
   ·rcases hc with ⟨h',_⟩ | ⟨_,h'⟩
    ·rw [h'] at hu;cases hu
    ·rw [h'] at f
     rw [f.2 a ha] at h;cases h
   ·exact n z
  ·rcases ff h with ⟨u,hu,ha⟩ | z
   ·rcases hc with ⟨h',_⟩ | ⟨_,h'⟩
    ·rw [h'] at hu;cases hu
    ·rw [h'] at f
     exact .inr (f.2 a ha)
   ·exact .inl z
  ·rcases iV h with ⟨u,hu,ha⟩ | z
   ·exact (fpu a ha).elim (fun z=>.inr (.inr z)) .inl
   ·exact .inl z
theorem qF {i:Nat} {x:Str} {pos':Pos} (he:PV G X e ce) (hN:X.N.Nodup) (hi:X.N[i]?=some x:=by rfl) (hx:Loc X.env.scope x:=by first | exact Or.inl rfl | exact Or.inr rfl)
  (hs:swapsWith e (some (.Name x pos')) pos.line X.env=pure false:=by rfl) (hf:X.fn x=true\/X.env.scope.names.lookup x=some .local:=by first | exact .inl rfl | exact .inr rfl) :
  PSV G X (.Assign [.Name x pos'] e pos) (fI i ce):=PS.weak (kM hN hi hx he hs hf) fun D σ H hq=>by
 obtain ⟨Φ,η,o,s,e,k⟩:=hq
 unfold fI at e
 obtain ⟨⟨m,t⟩,ec,e1⟩:=zz.mp e
 obtain ⟨c,eC,e2⟩:=zz.mp e1
 split at e2
 ·rename_i hl
  cases e2
  refine ⟨Φ,η,m,t,s,ec,fun v H' F e3 r3 f3=>?_⟩
  obtain ⟨q1,q2⟩:=s.val (c:=c) hl e3 r3 f3 (by
   unfold cellOf at eC
   cases m with
   | fr =>
    simp only [Option.some.injEq] at eC
    split at eC
    ·exact .inr ⟨eC.symm,rfl⟩
    ·exact .inl ⟨eC.symm,by decide⟩
   | pu=>cases eC;exact .inl ⟨rfl,by decide⟩
   | bo=>cases eC)
  exact k _ _ H' q1 q2
 ·cases e2
theorem jA {i:Nat} {x:Str} {pos':Pos} (he:PV G X e ce) (hN:X.N.Nodup) (hi:X.N[i]?=some x:=by rfl) (hx:Loc X.env.scope x:=by first | exact Or.inl rfl | exact Or.inr rfl)
  (hs:swapsWith e (some (.Name x pos')) pos.line X.env=pure false:=by rfl) (hf:X.fn x=true\/X.env.scope.names.lookup x=some .local:=by first | exact .inl rfl | exact .inr rfl) :
  PSV G X (.Assign [.Name x pos'] e pos) (bh i ce):=PS.weak (kM hN hi hx he hs hf) fun D σ H hq=>by
 obtain ⟨Φ,η,o,s,e,k⟩:=hq
 unfold bh at e
 obtain ⟨⟨m,t⟩,ec,e1⟩:=zz.mp e
 split at e1
 ·cases e1
 ·rename_i hm
  split at e1
  ·rename_i hl
   cases e1
   refine ⟨Φ,η,m,t,s,ec,fun v H' F e3 r3 f3=>?_⟩
   obtain ⟨q1,q2⟩:=s.val (c:=.pu t) hl e3 r3 f3 (.inl ⟨rfl,hm⟩)
   exact k _ _ H' q1 q2
  ·cases e1
theorem SR.frz {Φ:Fps} {η:VS.Env} {σ:L2.St} {H:Hp} {i:Nat} {t:T} (s:SR G Φ η σ H) (h:η[i]?=some (some (.ow t))):SR G Φ (η.set i (some (.pu t))) σ H/\Frm Φ η H Φ (η.set i (some (.pu t))) H:=by
 have back:∀ {j c},(η.set i (some (.pu t)))[j]?=some (some c)->∃ c',η[j]?=some (some c')/\fD c'=fD c/\∀ u,c=.ow u->c'=.ow u:=fun {j c} hj=>by
  rcases eg hj with ⟨rfl,rfl⟩ | ⟨n,hj⟩
  ·exact ⟨.ow t,h,rfl,fun u hu=>nomatch hu⟩
  ·exact ⟨c,hj,rfl,fun u hu=>hu⟩
 refine ⟨⟨by rw [yg];exact s.len,fun j c hj=>?_,fun j u hj=>?_,fun j k u c h1 h2 n=>?_⟩,⟨fun a o ha n=>⟨ha,fun ⟨j,u,h1,h2⟩=>?_⟩,fun _ h=>h,fun a ⟨j,u,h1,h2⟩=>?_,fun a ⟨j,u,h1,h2⟩=>?_,Kept.refl H⟩⟩
 ·obtain ⟨c',h1,h2,_⟩:=back hj
  obtain ⟨v,g1,g2⟩:=s.rp j c' h1
  exact ⟨v,g1,by rw [← h2];exact g2⟩
 ·obtain ⟨c',h1,_,h3⟩:=back hj
  rw [h3 u rfl] at h1
  exact s.nd j u h1
 ·obtain ⟨c1,g1,_,g3⟩:=back h1
  obtain ⟨c2,k1,_,_⟩:=back h2
  rw [g3 u rfl] at g1
  exact s.sep j k u c2 g1 k1 n
 ·obtain ⟨c1,g1,_,g3⟩:=back h1
  rw [g3 u rfl] at g1
  exact n ⟨j,u,g1,h2⟩
 ·obtain ⟨c1,g1,_,g3⟩:=back h1
  rw [g3 u rfl] at g1
  exact .inl ⟨j,u,g1,h2⟩
 ·rcases eg h1 with ⟨rfl,_⟩ | ⟨n,h1⟩
  ·exact .inr (.inl ⟨j,t,h,h2⟩)
  ·exact .inl ⟨j,u,h1,h2⟩
theorem qS (i:Nat) (h:cB G X sts c):cB G X sts (aA (lY i) c):=PSs.weak h fun D σ H hq=>by
 obtain ⟨Φ,η,o,s,e,k⟩:=hq
 unfold aA at e
 obtain ⟨o1,e1,e2⟩:=zz.mp e
 unfold lY at e1
 split at e1
 ·rename_i t ht
  cases e1
  obtain ⟨q1,q2⟩:=s.frz ht
  exact ⟨Φ,_,o,q1,e2,k.back q2⟩
 ·cases e1
  exact ⟨Φ,η,o,s,e2,k⟩
 ·cases e1
end
section
variable {G:Gx} {X:Cx} {st:Stmt} {sts:List Stmt} {c c1 c2:Sx} {pos:Pos} {e:Expr} {es:List Expr} {ce:Ex} {cs:Exs}
structure Chg (G:Gx) (H:Hp) (v:V) (F:Zg) (t':T) (H2:Hp) (F':Zg):Prop where
 kept:Kept H H2
 keep:∀ b o,b ∉ F->H b=some o->H2 b=some o
 dom:∀ b,H b ≠ none->H2 b ≠ none
 rp:Rp G H2 v t' F'
 nd:F'.Nodup
 sub:∀ a∈F',a∈F\/H a=none
theorem SR.mut {Φ:Fps} {η:VS.Env} {σ:L2.St} {H H2:Hp} {i:Nat} {v:V} {t t':T} {F':Zg} (s:SR G Φ η σ H) (hi:η[i]?=some (some (.ow t))) (hv:σ[i]?=some (some v)) (g:Chg G H v (Φ i) t' H2 F') :
  SR G (gC Φ i F') (η.set i (some (.ow t'))) σ H2/\Frm Φ η H (gC Φ i F') (η.set i (some (.ow t'))) H2:=by
 have hl:i < η.length:=(zq.mp hi).1
 have off:∀ j c',j ≠ i->η[j]?=some (some c')->∀ a∈Φ j,a ∉ Φ i:=fun j c' n hj a ha ha'=>s.sep i j t c' hi hj (yR n) a ha' ha
 have es:σ.set i (some v)=σ:=by
  obtain ⟨h,e⟩:=zq.mp hv
  rw [← e]
  exact List.set_getElem_self h
 have new:∀ a∈F',∀ j c',j ≠ i->η[j]?=some (some c')->a ∉ Φ j:=fun a ha j c' n hj ha'=>by
  rcases g.sub a ha with z | z
  ·exact off j c' n hj a ha' z
  ·obtain ⟨w,_,q⟩:=s.rp j c' hj
   exact Mut.ne_none (q.dom a ha') z
 constructor
 ·have:=s.put (c:=.ow t') (F:=F') (H':=H2) (v:=v) hl g.rp (fun j c' n hj w q=>q.keep g.kept fun a ha o ho=>g.keep a o (off j c' n hj a ha) ho) (fun _ _=>g.nd) (fun u hu j c' n hj a ha=>new a ha j c' n hj) fun j u n hj a ha ha'=>new a ha' j _ n hj ha
  rw [es] at this
  exact this
 ·refine ⟨fun a o h n=>⟨g.keep a o (fun z=>n ⟨i,t,hi,z⟩) h,fun z=>?_⟩,g.dom,fun a h=>?_,fun a h=>?_,g.kept⟩
  ·rcases ff z with ⟨u,_,ha⟩ | z
   ·rcases g.sub a ha with z | z
    ·exact n ⟨i,t,hi,z⟩
    ·rw [z] at h;cases h
   ·exact n z
  ·rcases ff h with ⟨u,_,ha⟩ | z
   ·rcases g.sub a ha with z | z
    ·exact .inl ⟨i,t,hi,z⟩
    ·exact .inr z
   ·exact .inl z
  ·rcases iV h with ⟨u,hu,ha⟩ | z
   ·cases hu
   ·exact .inl z
noncomputable def rK (G:Gx) (r:V->List V->Hp->VK->Prop) (f:T->Z0->Option (T×Val)):Prop:=∀ (Φ:Fps) (η:VS.Env) (H H1:Hp) (v:V) (t t':T) (F:Zg) (l:Z0) (vs:List V) (Fs:Zj) (x:Val) (Q:VK),
 Rp G H v t F->F.Nodup->Args G Φ η H H1 l vs Fs->f t l=some (t',x)->(∀ u H2 F',Chg G H v F t' H2 F'->Q u H2)->r v vs H1 Q
theorem nV {T' id:String} {name x:Str} {r:V->List V->Hp->VK->Prop} {f:T->Z0->Option (T×Val)} {apos cpos p1:Pos} (i:Nat) (pa:PlainAttrs T') (slot:Slot T' name id) (hty:typeOf (.builtin id)=pure (.type "method_descriptor")) (hm:MtR X id r) (ok:rK G r f)
  (hT:∀ H v t F l z,Rp G H v t F->f t l=some z->tyV G.K T' v H) (ha:PVs G X (e :: es) cs) (hK:X.K=G.K:=by rfl)
  (hN:X.N[i]?=some x:=by rfl) (hv:Vis X.env.scope x:=by first | exact Or.inl rfl | exact Or.inr (Or.inl rfl) | exact Or.inr (Or.inr rfl)) (hd:(x == ("__debug__" : Str))=false:=by decide)
  (hcd:(x == ("__classdict__" : Str))=false:=by decide)
  (hbase:attributeBase (.Name x p1) name X.env (eval (.Name x p1) X.env)=eval (.Name x p1) X.env:=by rfl)
  (hfew:((backTo cpos (starEach (e :: es) X.env)).all (fun x=>!x.1) && (backToKw cpos (keywordEach [] X.env)).all (fun x=>x.1.isSome)
   && decide ((e :: es).length+([]:List Keyword).length+(if ([]:List Keyword).isEmpty then 0 else 1) < 30))=true:=by rfl)
  (hline:(apos.endLine == cpos.line)=true:=by rfl) (hs:starEach (e :: es) X.env=(false,eval e X.env) :: starEach es X.env:=by rfl) (hplain:(backTo cpos (starEach es X.env)).any (·.1)=false:=by rfl)
  (hsw:swapsWith (.Call (.Attribute (.Name x p1) name apos) (e :: es) [] cpos) none pos.line X.env=pure false:=by rfl) :
  PSV G X (.Expr (.Call (.Attribute (.Name x p1) name apos) (e :: es) [] cpos) pos) (sX (gM i [] f cs)) :=
 PS.weak (je (rN pa slot hty hm (kR hN hv hd hcd) ha hbase hfew hline hs hplain) hsw) fun D σ H hq=>by
  obtain ⟨Φ,η,o,s,e,k⟩:=hq
  unfold sX gM at e
  obtain ⟨⟨x',η'⟩,e1,e2⟩:=zv.mp e
  split at e1
  ·rename_i t ht
   obtain ⟨ks,ek,e3⟩:=zz.mp e1
   cases (show some ([]:List Ky)=some ks from ek)
   obtain ⟨l,el,e4⟩:=zz.mp e3
   obtain ⟨⟨t',x2⟩,e5,e6⟩:=zv.mp e4
   cases e6
   cases e2
   obtain ⟨v,h1,h2⟩:=s.rp _ _ ht
   have e7:f t l=some (t',x'):=e5
   refine ⟨v,h1,by rw [hK];exact hT H v t _ l _ h2 e7,Φ,η,l,s,el,fun vs H' Fs q1 q2 q3=>?_⟩
   refine ok Φ η H H' v t t' (Φ i) l vs Fs x' _ h2 (s.nd i t ht) ⟨q1,q2,q3⟩ e7 fun u H2 F' g=>?_
   obtain ⟨w1,w2⟩:=s.mut ht h1 g
   exact k _ σ H2 w1 w2
  ·cases e1
theorem Chg.upd {H H1:Hp} {v:V} {F:Zg} {a:Addr} {o:HO} {t':T} {F':Zg} (e:bf H H1) (ha:a∈F) (hm:Mut (H1 a)) (r:Rp G (upd H1 a o) v t' F') (nd:F'.Nodup) (sub:∀ a∈F',a∈F\/H a=none):Chg G H v F t' (upd H1 a o) F' :=
 ⟨(Kept.of e).trans (Kept.upd (.inl hm)),fun b o' hb h=>by rw [aN (fun z=>hb (by rw [z];exact ha))];exact e b o' h,
  fun b h z=>by
   by_cases q:b=a
   ·subst q;rw [bB] at z;cases z
   ·rw [aN q] at z;exact h (e.free z),r,nd,sub⟩
theorem RpL.off {H:Hp} {vs:List V} {ts:Z2} {Fs:Zj} {a:Addr} {o:HO} (r:RpL G H vs ts Fs) (hm:Mut (H a)) (h:a ∉ Fs.flatten):RpL G (upd H a o) vs ts Fs :=
 r.keep (Kept.upd (.inl hm)) fun b hb o' ho=>by rw [aN (fun z=>h (by rw [← z];exact hb))];exact ho
theorem pz {v:Val} {t:T} (h:fit v=some t):v=(.fr,t):=by
 obtain ⟨m,x⟩:=v
 unfold fit at h
 cases m <;> first | (cases h;rfl) | cases h
theorem mQ:rK G lF bH:=by
 intro Φ η H H1 v t t' F l vs Fs x Q r nd A e k
 unfold bH at e
 split at e
 ·rename_i ts y
  obtain ⟨z,ez,e1⟩:=zz.mp e
  have ey:=pz ez
  subst ey
  split at e1
  ·rename_i hl
   cases e1
   obtain ⟨a,us,Gs,rfl,rfl,ha,ra⟩:=r.lst_inv
   obtain ⟨w,Fw,rfl,rfl,rw'⟩:=(show RpL G H1 vs [z] Fs from A.rp).one
   have fw:Fp Φ η H .fr Fw:=A.fp.each 0 _ _ rfl rfl
   have ha1:H1 a=some (.lst us):=A.same a _ ha
   have m1:Mut (H1 a):=by rw [ha1];exact True.intro
   have na:a ∉ Gs.flatten:=(z0.mp nd).1
   have nw:a ∉ Fw:=fun z=>by rw [fw.2 a z] at ha;cases ha
   refine ⟨a,us,w,rfl,rfl,ha1,by rw [ra.len.1];exact hl,k _ _ (a :: (Gs++[Fw]).flatten) ?_⟩
   have off:∀ b∈Gs.flatten,b ∉ Fw:=fun b hb hw=>Mut.ne_none (ra.dom b hb) (fw.2 b hw)
   refine Chg.upd A.same zx m1 (.lst bB (((ra.same A.same).off m1 na).append (.cons (rw'.keep (Kept.upd (.inl m1)) fun b hb o ho=>by rw [aN (fun z=>nw (by rw [← z];exact hb))];exact ho) .nil))) ?_ ?_
   ·rw [z6]
    refine z0.mpr ⟨fun m=>?_,ya.mpr ⟨(z0.mp nd).2,by simpa using fw.1,fun b hb c hc z=>?_⟩⟩
    ·rcases zT.mp m with m | m
     ·exact na m
     ·exact nw (by simpa using m)
    ·subst z;exact off b hb (by simpa using hc)
   ·intro b hb
    rcases zj.mp hb with rfl | hb
    ·exact .inl zx
    ·rw [z6] at hb
     rcases zT.mp hb with hb | hb
     ·exact .inl (zy _ hb)
     ·exact .inr (fw.2 b (by simpa using hb))
  ·cases e1
 ·cases e
theorem nB {H:Hp} {v:V} {ts:Z2} {F:Zg} (r:Rp G H v (.lst ts) F):tyV G.K "list" v H:=by
 obtain ⟨a,us,Gs,rfl,rfl,ha,ra⟩:=r.lst_inv
 exact .inl ⟨rfl,_,SqL.of ha⟩
theorem jT {H:Hp} {v:V} {t:T} {F:Zg} {l:Z0} {z:T×Val} (r:Rp G H v t F) (h:bH t l=some z):tyV G.K "list" v H:=by
 unfold bH at h
 split at h
 ·exact nB r
 ·cases h
end
structure ItOk (G:Gx) (J:It) (l:Z2) (C:Zg) (H:Hp):Prop where
 run:∀ H2,Kept H H2->(∀ a∈C,∀ o,H a=some o->H2 a=some o) →
  (∀ (i:Nat) (t:T),l[i]?=some t->J.go i H2/\∀ x H3,J.yld i H2 x H3->bf H2 H3/\∃ F,Rp G H3 x t F/\∀ a∈F,a∈C\/H2 a=none)/\∀ (i:Nat),l.length<=i->J.stop i H2
 dom:∀ a∈C,H a ≠ none
noncomputable def FpC (Φ:Fps) (η:VS.Env) (H:Hp) (m:Md) (C:Zg):Prop:=∀ a∈C,H a=none\/dg Φ η a\/(m=.bo/\cj Φ η a)
theorem Fp.c {Φ:Fps} {η:VS.Env} {H:Hp} {F:Zg}:∀ {m:Md},Fp Φ η H m F->FpC Φ η H m F
 | .fr,f=>fun a ha=>.inl (f.2 a ha)
 | .pu,f=>fun a ha=>(f a ha).imp id .inl
 | .bo,f=>fun a ha=>(f a ha).imp id fun z=>z.imp id fun z=>⟨rfl,z⟩
noncomputable def tI (G:Gx) (c:Its):TI:=fun σ H R=>∃ Φ η m l,SR G Φ η σ H/\c η=some (m,l)/\∀ J H' C,bf H H'->ItOk G J l C H'->FpC Φ η H m C->R J H'
noncomputable def PVI (G:Gx) (X:Cx) (tg iter:Expr) (c:Its):Prop:=PI X tg iter (tI G c)
theorem PI.weak {X:Cx} {tg e:Expr} {t t':TI} (h:PI X tg e t) (w:∀ σ H Q,t' σ H Q->t σ H Q):PI X tg e t':=fun pins s σ H Q I q=>h pins s σ H Q I (w σ H Q q)
section
variable {G:Gx} {X:Cx} {tg e a b:Expr} {es:List Expr} {ca cb:Ex} {cs:Exs} {pos p:Pos}
theorem oS (H:Hp) (lo:Int) (n:Nat):ItOk G (Itr lo n) (rng lo n) [] H:=by
 refine ⟨fun H2 _ _=>⟨fun i t h=>?_,fun i h=>(by simpa [rng] using h:n<=i)⟩,fun a h=>by simp at h⟩
 unfold rng at h
 rw [zS] at h
 obtain ⟨k,hk,e⟩:=zv.mp h
 obtain ⟨hlt,e2⟩:=zq.mp hk
 rw [yo] at hlt
 have ek:i=k:=by simpa using e2
 subst ek
 refine ⟨hlt,fun x H3 ⟨e3,e4⟩=>?_⟩
 subst e3
 subst e4
 rw [← e]
 exact ⟨bf.refl _,[],.int _,fun a h=>by simp at h⟩
theorem ku (ha:PV G X a ca) (hg:Gl X "range") (hm:X.mg "range" = none) (hs:starEach [a] X.env=(false,eval a X.env) :: starEach [] X.env:=by rfl) (hs':starEach [a] X.env=[(false,eval a X.env)]:=by rfl):PVI G X tg (.Call (.Name "range" p) [a] [] pos) (cL ca) :=
 PI.weak (mf hg hm (di ha gj hs) hs') fun σ H R hq=>by
  obtain ⟨Φ,η,m,l,s,e,k⟩:=hq
  unfold cL at e
  obtain ⟨⟨mx,x⟩,ea,e1⟩:=zz.mp e
  obtain ⟨j,ej,e2⟩:=zz.mp e1
  split at e2
  ·rename_i hj
   cases e2
   refine ⟨Φ,η,mx,x,s,ea,fun v H' F e3 r3 f3=>?_⟩
   cases x with
   | int j' =>
    cases ej
    refine ⟨j,by rw [r3.int_inv],?_,?_,k _ H' [] e3 (oS H' 0 j.toNat) fun a h=>by simp at h⟩
    ·have:=hj.1;unfold B62 at this;lia
    ·have:=hj.2;unfold B62 at this;lia
   | _=>cases ej
  ·cases e2
theorem km {Fs:Zj} {i:Nat} {F:Zg} (h:Fs[i]?=some F) {a:Addr} (ha:a∈F):a∈Fs.flatten:=(ic h).subset ha
theorem qI {H:Hp} {a:Addr} {vs:List V} {ts:Z2} {Fs:Zj} (K:Zi) (ha:H a=some (.lst vs)) (r:RpL G H vs ts Fs):ItOk G (Itl K a) ts (a :: Fs.flatten) H:=by
 refine ⟨fun H2 k c=>?_,fun b hb=>?_⟩
 ·have ha2:H2 a=some (.lst vs):=c a zx _ ha
  have r2:RpL G H2 vs ts Fs:=r.keep k fun b hb o ho=>c b (zy _ hb) o ho
  refine ⟨fun i t h=>?_,fun i h=>⟨vs,SqL.of ha2,by rw [r.len.1];exact h⟩⟩
  obtain ⟨v,F,h1,h2,h3⟩:=r2.get i h
  refine ⟨⟨vs,v,SqL.of ha2,h1⟩,fun x H3 ⟨e1,e2⟩=>?_⟩
  subst e1
  have ex:=e2 vs (SqL.of ha2)
  rw [h1] at ex
  cases ex
  exact ⟨bf.refl _,F,h3,fun b hb=>.inl (zy _ (km h2 hb))⟩
 ·rcases zj.mp hb with rfl | hb
  ·rw [ha];exact fun z=>nomatch z
  ·exact Mut.ne_none (r.dom b hb)
theorem tD {H:Hp} {a:Addr} {vs:List V} {ts:Z2} {Fs:Zj} (K:Zi) (ha:H a=some (.tup vs)) (r:RpL G H vs ts Fs):ItOk G (Itt K a) ts Fs.flatten H:=by
 refine ⟨fun H2 k c=>?_,fun b hb=>Mut.ne_none (r.dom b hb)⟩
 have ha2:H2 a=some (.tup vs):=k.tup a _ ha
 have r2:RpL G H2 vs ts Fs:=r.keep k fun b hb o ho=>c b hb o ho
 refine ⟨fun i t h=>?_,fun i h=>⟨vs,SqT.of ha2,by rw [r.len.1];exact h⟩⟩
 obtain ⟨v,F,h1,h2,h3⟩:=r2.get i h
 refine ⟨⟨vs,v,SqT.of ha2,h1⟩,fun x H3 ⟨e1,e2⟩=>?_⟩
 subst e1
 have ex:=e2 vs (SqT.of ha2)
 rw [h1] at ex
 cases ex
 exact ⟨bf.refl _,F,h3,fun b hb=>.inl (km h2 hb)⟩
noncomputable def tG (G:Gx) (g:Tg):TG:=fun v σ H Q=>∃ Φ η t F η',SR G Φ η σ H/\Rp G H v t F/\(∀ a∈F,¬ cj Φ η a)/\g t η=some η' ∧
 ∀ Φ' σ',SR G Φ' η' σ' H->(∀ a,cj Φ' η' a->cj Φ η a)->(∀ a,dg Φ' η' a->dg Φ η a\/a∈F)->Q σ' H
noncomputable def PVG (G:Gx) (X:Cx) (e:Expr) (g:Tg):Prop:=PG X e (tG G g)
theorem PG.weak {X:Cx} {e:Expr} {t t':TG} (h:PG X e t) (w:∀ v σ H Q,t' v σ H Q->t v σ H Q):PG X e t':=fun pins s σ H v u Q I r q=>h pins s σ H v u Q I r (w v σ H Q q)
theorem n4 (i:Nat) {x:Str} (hN:X.N.Nodup) (hi:X.N[i]?=some x:=by rfl) (hx:Loc X.env.scope x:=by first | exact Or.inl rfl | exact Or.inr rfl)
  (hf:X.fn x=true\/X.env.scope.names.lookup x=some .local:=by first | exact .inl rfl | exact .inr rfl):PVG G X (.Name x pos) (cn i):=PG.weak (pT hN hi hx hf) fun v σ H Q hq=>by
 obtain ⟨Φ,η,t,F,η',s,r,no,e,k⟩:=hq
 unfold cn at e
 split at e
 ·rename_i hl
  cases e
  refine k (gC Φ i F) (σ.set i (some v)) (s.put (c:=.pu t) hl r (fun j c' n hj w q=>q) (fun u hu=>nomatch hu) (fun u hu=>nomatch hu) fun j u n hj a ha ha'=>no a ha' ⟨j,u,hj,ha⟩) (fun a h=>?_) fun a h=>?_
  ·rcases ff h with ⟨u,hu,_⟩ | z
   ·cases hu
   ·exact z
  ·rcases iV h with ⟨u,hu,ha⟩ | z
   ·exact .inr ha
   ·exact .inl z
 ·cases e
theorem iR {tgt:Tg} {body:Sx} {l:Z2} {η:VS.Env} {i:Nat} {t:T} (h:l[i]?=some t):l.drop i=t :: l.drop (i+1):=by
 obtain ⟨hi,e⟩:=zq.mp h
 rw [← e]
 exact yI hi
theorem pN {iter:Expr} {body:List Stmt} {ci:Its} {g:Tg} {cb:Sx} (hp:PassesOwn (model X.prog X.w) X.A X.env X.xe) (hc:X.calm=true) (hi:PVI G X tg iter ci) (hg:PVG G X tg g) (hb:cB G X body cb)
  (hs:∀ x,foldedSetIterable iter X.env x=pure x:=by intro _;rfl):PSV G X (.For tg iter body [] pos) (iu g ci cb):=PS.weak (t8 hp hc hi hg hb hs) fun D σ H hq=>by
 obtain ⟨Φ,η,o,s,e,k⟩:=hq
 unfold iu at e
 obtain ⟨⟨m,l⟩,el,e1⟩:=zz.mp e
 dsimp only at e1
 split at e1
 ·rename_i hm
  have hm':m ≠ .bo:=fun z=>by rw [z] at hm;cases hm
  refine ⟨Φ,η,m,l,s,el,fun J H' C e2 ok fc=>?_⟩
  have cno:∀ a∈C,¬ cj Φ η a:=fun a ha z=>by
   rcases fc a ha with q | q | q
   ·exact Mut.ne_none (s.ow_dom z) q
   ·exact s.ow_pu z q
   ·exact hm' q.1
  refine ⟨fun i n σ2 H2=>n=l.length - i/\∃ Φ2 η2,SR G Φ2 η2 σ2 H2/\Frm Φ η H Φ2 η2 H2/\Kept H' H2/\(∀ a∈C,∀ o,H' a=some o->H2 a=some o/\¬ cj Φ2 η2 a)/\forL g cb (l.drop i) η2=some o,
   ⟨l.length - 0,rfl,Φ,η,s.same e2,Frm.same e2,Kept.refl _,fun a ha o' ho=>⟨ho,cno a ha⟩,by rw [xZ];exact e1⟩,?_⟩
  rintro i n σ2 H2 ⟨rfl,Φ2,η2,s2,f2,kp,con,e3⟩
  obtain ⟨go,stop⟩:=ok.run H2 kp fun a ha o' ho=>(con a ha o' ho).1
  cases hit:l[i]? with
  | none =>
   have hl:l.length<=i:=yj.mp hit
   left
   rw [yu hl] at e3
   cases (show some (Out.nx η2)=some o from e3)
   exact ⟨stop i hl,k Φ2 σ2 H2 s2 f2⟩
  | some t =>
   have hl:i < l.length:=(zq.mp hit).1
   right
   obtain ⟨g1,y1⟩:=go i t hit
   rw [iR (tgt:=g) (body:=cb) (η:=η2) hit] at e3
   obtain ⟨η3,e4,e5⟩:=zz.mp (show (g t η2).bind (fun η1=>(cb η1).bind fun o=>match o with
    | .nx η2=>forL g cb (l.drop (i+1)) η2
    | .ct η2=>forL g cb (l.drop (i+1)) η2
    | .bk η2=>some (.nx η2)
    | .rt v η2=>some (.rt v η2))=some o from e3)
   obtain ⟨o',e6,e7⟩:=zz.mp e5
   refine ⟨g1,fun σ4 H4=>∃ Φ4 η4,SR G Φ4 η4 σ4 H4/\Frm Φ η H Φ4 η4 H4/\Kept H' H4/\(∀ a∈C,∀ o,H' a=some o->H4 a=some o/\¬ cj Φ4 η4 a)/\forL g cb (l.drop (i+1)) η4=some o,fun σ4 H4 ⟨Φ4,η4,q⟩=>⟨l.length - (i+1),by omega,rfl,Φ4,η4,q⟩,fun x H3 yl=>?_⟩
   obtain ⟨e8,F,rF,hF⟩:=y1 x H3 yl
   have s3:=s2.same e8
   have noF:∀ a∈F,¬ cj Φ2 η2 a:=fun a ha z=>by
    rcases hF a ha with q | q
    ·have hne:=ok.dom a q
     cases ho:H' a with
     | none=>exact hne ho
     | some o''=>exact (con a q o'' ho).2 z
    ·exact Mut.ne_none (s2.ow_dom z) q
   refine ⟨Φ2,η2,t,F,η3,s3,rF,noF,e4,fun Φ3 σ3 s4 o3 p3=>?_⟩
   have f3:Frm Φ η H Φ3 η3 H3:=⟨fun a o' h n=>let ⟨h1,n1⟩:=f2.keep a o' h n;⟨e8 a o' h1,fun z=>n1 (o3 a z)⟩,fun a h z=>f2.dom a h (e8.free z),fun a h=>f2.ow a (o3 a h),fun a h=>by
    rcases p3 a h with h | h
    ·exact f2.pu a h
    ·rcases hF a h with q | q
     ·rcases fc a q with q | q | q
      ·exact .inr (.inr q)
      ·exact .inl q
      ·exact .inr (.inl q.2)
     ·exact .inr (.inr (f2.none q)),f2.kept.trans (Kept.of e8)⟩
   have next:∀ {Φ4 η4 H4},Frm Φ3 η3 H3 Φ4 η4 H4->Kept H' H4/\∀ a∈C,∀ o,H' a=some o->H4 a=some o/\¬ cj Φ4 η4 a:=fun fb =>
    ⟨(kp.trans (Kept.of e8)).trans fb.kept,fun a ha o' ho=>by
     obtain ⟨h1,n1⟩:=con a ha o' ho
     exact fb.keep a o' (e8 a o' h1) fun z=>n1 (o3 a z)⟩
   refine ⟨Φ3,η3,o',s4,e6,?_⟩
   cases o' with
   | nx η4=>exact fun Φ4 σ4 H4 s5 fb=>⟨Φ4,η4,s5,f3.trans fb,(next fb).1,(next fb).2,e7⟩
   | ct η4=>exact fun Φ4 σ4 H4 s5 fb=>⟨Φ4,η4,s5,f3.trans fb,(next fb).1,(next fb).2,e7⟩
   | bk η4 =>
    cases (show some (Out.nx η4)=some o from e7)
    exact fun Φ4 σ4 H4 s5 fb=>k Φ4 σ4 H4 s5 (f3.trans fb)
   | rt v η4 =>
    cases (show some (Out.rt v η4)=some o from e7)
    exact fun u H4 F4 Φ4 σ4 s5 fb r5 q5=>k u H4 F4 Φ4 σ4 s5 (f3.trans fb) r5 (q5.back f3)
 ·cases e1
end
noncomputable def vF (H:Hp) (Fs:Zj):Md->Zg->Prop
 | .fr,F=>F.Nodup/\∀ a∈F,H a=none
 | _,F=>∀ a∈F,H a=none\/a∈Fs.flatten
noncomputable def spF (G:Gx) (g:Fn):Sp:=fun vs H Q _=>∃ ts Fs m r,RpL G H vs ts Fs/\g ts=some (m,r)/\∀ v H' F,bf H H'->Rp G H' v r F->vF H Fs m F->Q v H'
section
variable {G:Gx} {X:Cx} {k:Nat} {f:Addr} {fd:FuncData} {ps:List Str} {x:Str} {p pos:Pos} {e:Expr} {es:List Expr} {cs:Exs} {g:Fn}
theorem call_of {σ:L2.St} {H:Hp} {Q:VK} {E:XK} (h:tE G (aS g cs) σ H Q):rO (spF G g) [] E (tEs G cs) σ H Q:=by
 obtain ⟨Φ,η,m,t,s,e,kk⟩:=h
 unfold aS at e
 obtain ⟨l,el,e1⟩:=zz.mp e
 obtain ⟨⟨n,r⟩,er,e2⟩:=zz.mp e1
 refine ⟨Φ,η,l,s,el,fun vs H1 Fs q1 q2 q3=>?_⟩
 have A:Args G Φ η H H1 l vs Fs:=⟨q1,q2,q3⟩
 have jn:=q3.join A.len
 show spF G g (vs++[]) H1 Q E
 rw [yz]
 refine ⟨trees l,Fs,n,r,q2,er,fun v H' F q4 q5 q6=>?_⟩
 have wide:(∀ a∈F,H1 a=none\/a∈Fs.flatten)->Fp Φ η H ((Md.pu).join (bL l)) F:=fun h=>by
  cases ej:bL l with
  | fr =>
   rw [ej] at jn
   exact fun a ha=>.inl ((h a ha).elim q1.free (jn.2 a))
  | pu =>
   rw [ej] at jn
   exact fun a ha=>(h a ha).elim (fun z=>.inl (q1.free z)) (jn a)
  | bo =>
   rw [ej] at jn
   exact fun a ha=>(h a ha).elim (fun z=>.inl (q1.free z)) (jn a)
 cases n with
 | fr =>
  cases e2
  exact kk v H' F (q1.trans q4) q5 ⟨q6.1,fun a ha=>q1.free (q6.2 a ha)⟩
 | pu =>
  cases e2
  exact kk v H' F (q1.trans q4) q5 (wide q6)
 | bo =>
  cases e2
  exact kk v H' F (q1.trans q4) q5 (wide q6)
theorem qM (F:FnOk X.prog X.w X.K X.mg X.base CX0 k f fd ps (spF G g)) (hr:Room k X.A) (hg:Gl X x) (hm:X.mg x=some (.ref f)) (hk:PySem.W.keepIn X.K (.ref f)=true) (hb:Binds X.K fd ps [])
  (ha:PVs G X (e :: es) cs) (hdb:(x == ("__debug__" : Str))=false:=by decide) (he:starEach (e :: es) X.env=(false,eval e X.env) :: starEach es X.env:=by rfl) (hpl:(backTo pos (starEach es X.env)).any (·.1)=false:=by rfl) :
  PV G X (.Call (.Name x p) (e :: es) [] pos) (aS g cs) :=
 PE.weak (qb F hr hg hm hk hb .nil vY ha hdb he hpl) fun σ H Q h=>call_of h
theorem kc {H:Hp} {vs:List V} {ts:Z2} {Fs:Zj} (r:RpL G H vs ts Fs) (n nv:Nat) (hv:nv=vs.length):SR G (fun i=>Fs.getD i []) (ts.map (fun t=>some (.pu t))++List.replicate (n - ts.length) none) (vs.map some++List.replicate (n - nv) none) H:=by
 subst hv
 have hl:=r.len
 have back:∀ {i:Nat} {c:Cell},(ts.map (fun t=>some (Cell.pu t))++List.replicate (n - ts.length) none)[i]?=some (some c)->∃ t,ts[i]?=some t/\c=.pu t:=fun {i c} h=>by
  by_cases hi:i < ts.length
  ·rw [zD (by rw [zt];exact hi),zS] at h
   obtain ⟨t,h1,h2⟩:=zv.mp h
   exact ⟨t,h1,(zU h2).symm⟩
  ·rw [zE (by rw [zt];exact yn hi),yw] at h
   split at h <;> cases h
 refine ⟨by simp;lia,fun i c h=>?_,fun i t h=>?_,fun i j t c h=>?_⟩
 ·obtain ⟨t,h1,rfl⟩:=back h
  obtain ⟨v,F,g1,g2,g3⟩:=r.get i h1
  refine ⟨v,?_,?_⟩
  ·have:i < vs.length:=(zq.mp g1).1
   rw [zD (by rw [zt];exact this),zS,g1]
   rfl
  ·show Rp G H v t (Fs.getD i [])
   rw [zW,g2]
   exact g3
 ·obtain ⟨t',_,h2⟩:=back h
  cases h2
 ·obtain ⟨t',_,h2⟩:=back h
  cases h2
theorem b9 {ts:Z2} {n:Nat} {Φ:Fps} {a:Addr}:¬ cj Φ (ts.map (fun t=>some (Cell.pu t))++List.replicate n none) a:=by
 rintro ⟨i,t,h,_⟩
 by_cases hi:i < ts.length
 ·rw [zD (by rw [zt];exact hi),zS] at h
  obtain ⟨t',_,h2⟩:=zv.mp h
  cases h2
 ·rw [zE (by rw [zt];exact yn hi),yw] at h
  split at h <;> cases h
theorem fA {H:Hp} {vs:List V} {ts:Z2} {Fs:Zj} {n:Nat} {a:Addr} (h:dg (fun i=>Fs.getD i []) (ts.map (fun t=>some (Cell.pu t))++List.replicate n none) a):a∈Fs.flatten:=by
 obtain ⟨i,t,_,h2⟩:=h
 simp only [zW] at h2
 cases e:Fs[i]? with
 | none=>rw [e] at h2;simp at h2
 | some F=>rw [e] at h2;exact km e h2
end
section
variable {G:Gx} {P:Program} {w:World} {K:Zi} {mg:Zh} {base:Heap}
theorem fnV {x qual:Str} {st:Stmt} {f:Addr} {fd:FuncData} {N ps:List Str} {k np nn:Nat} {c:Sx} (F:Fun K x qual st f fd) (S:FnScope N ps (ai st)) (hp:ps.length=np) (hn:N.length=nn)
  (hb:∀ (cdv:Value) (A:Around) (outer:List PySem.Env) (s:Shared) (H:Hp) (E:XK),Room k (A.deeper (envOfC qual (ai st) s.heap.objs.size f cdv))->cB G (fm CX0 P w K mg base N qual (ai st) f cdv A outer s H E).nox (aO st) c) :
  FnOk P w K mg base CX0 (k+1) f fd ps (spF G (fn np nn c)):=by
 refine F.ok S (fun vs H Q E h=>?_) fun cdv A outer s H vs Q E hr h=>⟨_,hb cdv A outer s H E hr,?_⟩
 ·obtain ⟨ts,Fs,m,r,h1,h2,_⟩:=h
  unfold fn at h2
  split at h2
  ·rename_i hl
   rw [h1.len.1,hl,hp]
  ·cases h2
 ·obtain ⟨ts,Fs,m,r,h1,h2,q⟩:=h
  unfold fn at h2
  split at h2
  ·rename_i hl
   obtain ⟨o,e1,e2⟩:=zz.mp h2
   have s0:=kc h1 nn vs.length rfl
   rw [hl] at s0
   have e3:L2.start N vs=vs.map some++List.replicate (nn - vs.length) none:=by
    unfold L2.start
    rw [hn]
   rw [e3]
   refine ⟨_,_,o,s0,e1,?_⟩
   cases o with
   | nx η' =>
    cases e2
    intro Φ' σ' H' s' fr
    exact q .non H' [] (fun a o h=>(fr.keep a o h b9).1) .non ⟨y8,fun a h=>by simp at h⟩
   | rt v η' =>
    cases e2
    intro u H' F' Φ' σ' s' fr r' rf
    refine q u H' F' (fun a o h=>(fr.keep a o h b9).1) r' ?_
    cases m with
    | fr=>exact ⟨rf.1,fun a ha=>(rf.2 a ha).elim id fun z=>absurd z b9⟩
    | pu=>exact fun a ha=>(rf a ha).elim .inl fun z=>z.elim (fun z=>.inr (fA (H:=H) (vs:=vs) z)) fun z=>absurd z b9
    | bo=>exact fun a ha=>(rf a ha).elim .inl fun z=>z.elim (fun z=>.inr (fA (H:=H) (vs:=vs) z)) fun z=>absurd z b9
   | bk η'=>cases e2
   | ct η'=>cases e2
  ·cases h2
end
end VS
end
section
namespace L2
open PySem PySem.Spec PyProof.Rows
theorem gc (env:Env):∀ (l:List (Str×NameKind)) (acc:List (Str×Addr)),(∀ y∈l,y.2=.free->∃ c,env.cells.lookup y.1=some c)->(∀ x c,acc.lookup x=some c->env.cells.lookup x=some c) →
  ∃ cl,(forIn l acc (fun x r=>if (x.snd == NameKind.free)=true then (do let a ← cellOf env x.fst;pure (ForInStep.yield ((x.fst,a) :: r))) else pure (ForInStep.yield r)):Sem (List (Str×Addr)))=pure cl ∧
   (∀ x c,cl.lookup x=some c->env.cells.lookup x=some c)/\(∀ x c,acc.lookup x=some c->∃ c',cl.lookup x=some c')/\∀ y∈l,y.2=.free->∃ c,cl.lookup y.1=some c
 | [],acc,_,ha=>⟨acc,rfl,ha,fun x c h=>⟨c,h⟩,fun y hy=>nomatch hy⟩
 | (n,k) :: l,acc,hf,ha=>by
  by_cases hk:k=.free
  ·subst hk
   obtain ⟨c,hc⟩:=hf (n,.free) zx rfl
   have ec:cellOf env n=pure c:=by unfold cellOf;dsimp only at hc;rw [hc]
   have ha':∀ x c',((n,c) :: acc).lookup x=some c'->env.cells.lookup x=some c':=fun x c' h=>by
    rw [z9] at h
    split at h
    ·rename_i hx
     have:x=n:=by simpa using hx
     rw [this,← h];exact hc
    ·exact ha x c' h
   obtain ⟨cl,h1,h2,h3,h4⟩:=gc env l ((n,c) :: acc) (fun y hy=>hf y (zy _ hy)) ha'
   refine ⟨cl,?_,h2,fun x c' h=>?_,fun y hy hyf=>?_⟩
   ·rw [List.forIn_cons]
    dsimp only
    rw [zi (show (NameKind.free == NameKind.free)=true from rfl),ec,pure_bind,pure_bind]
    exact h1
   ·by_cases hx:x=n
    ·exact h3 x c (by rw [z9,hx];simp)
    ·refine h3 x c' ?_
     rw [z9]
     have:(x == n)=false:=by simpa using hx
     rw [this];exact h
   ·rcases zj.mp hy with rfl | hy
    ·exact h3 n c (by rw [z9];simp)
    ·exact h4 y hy hyf
  ·obtain ⟨cl,h1,h2,h3,h4⟩:=gc env l acc (fun y hy=>hf y (zy _ hy)) ha
   refine ⟨cl,?_,h2,h3,fun y hy hyf=>?_⟩
   ·rw [List.forIn_cons]
    dsimp only
    rw [if_neg (by simpa using hk),pure_bind]
    exact h1
   ·rcases zj.mp hy with rfl | hy
    ·exact absurd hyf hk
    ·exact h4 y hy hyf
theorem qY {sc:Scope} {env:Env} (hf:∀ y∈sc.names,y.2=.free->∃ c,env.cells.lookup y.1=some c) :
  ∃ cl,closureFor sc env=pure cl/\(∀ x c,cl.lookup x=some c->env.cells.lookup x=some c)/\∀ y∈sc.names,y.2=.free->∃ c,cl.lookup y.1=some c:=by
 obtain ⟨cl,h1,h2,_,h4⟩:=gc env sc.names [] hf (fun x c h=>nomatch h)
 refine ⟨cl,?_,h2,h4⟩
 simp only [closureFor]
 rw [h1]
 rfl
theorem dO {l:List (Str×NameKind)} {x:Str} {k:NameKind} (h:l.lookup x=some k):(x,k)∈l:=by
 induction l with
 | nil=>cases h
 | cons p l ih =>
  rw [z9] at h
  split at h
  ·rename_i hx
   have e:x=p.1:=by simpa using hx
   cases h
   rw [e];exact zx
  ·exact zy _ (ih h)
theorem cm {env:Env} {x:Str} {k:NameKind}:∀ {l:List (Str×NameKind)},(l.map fun (n,k)=>if (k == NameKind.free && env.scope.kind == .function && env.kindOf n == some .cell) then (n,NameKind.cell) else (n,k)).lookup x=some k →
  ∃ k0,l.lookup x=some k0/\(k=k0\/(k0=.free/\k=.cell))
 | [],h=>nomatch h
 | (n,k1) :: l,h=>by
  rw [zR,z9] at h
  by_cases hc:(k1 == NameKind.free && env.scope.kind == .function && env.kindOf n == some .cell)=true
  ·simp only [hc,if_true] at h
   rw [z9]
   cases hx:x == n with
   | true =>
    rw [hx] at h
    have:k1=.free:=by
     have:=(Bool.and_eq_true_iff.mp (Bool.and_eq_true_iff.mp hc).1).1
     simpa using this
    exact ⟨k1,rfl,.inr ⟨this,(zU h).symm⟩⟩
   | false=>rw [hx] at h;exact cm h
  ·simp only [hc,if_false,ye] at h
   rw [z9]
   cases hx:x == n with
   | true=>rw [hx] at h;exact ⟨k1,rfl,.inl (zU h).symm⟩
   | false=>rw [hx] at h;exact cm h
noncomputable def bP (X:Cx) (N:List Str) (sc:Scope) (cl:List (Str×Addr)) (C:Addr) (s:Shared) (H:Hp) (fp:Zg):Cx :=
 { X with N:=N,s₀:=s,H₀:=H,env:=compEnvC sc cl C X.env,outer:=X.stack,ex:=fp,fn:=fun _=>false,pn:=[],xe:=fun _ _=>False }
noncomputable def iv (env:Env) (sc:Scope):Bool:=sc.kind == .function && sc.names.all fun y=>match y.2 with
 | .cell=>false
 | .local=>sc.names.lookup y.1 == some .local
 | .free=>env.kindOf y.1 == some .cell || env.kindOf y.1 == some .free
 | _=>true
noncomputable def gk (sc:Scope):List Str->List Str->Bool
 | [],[]=>true
 | a :: as,b :: bs=>((a == b && sc.names.lookup a == some .free) || sc.names.lookup a == none || sc.names.lookup a == some .globalImplicit) && gk sc as bs
 | _,_=>false
theorem ly {sc:Scope}:∀ {as bs:List Str},gk sc as bs=true->as.length=bs.length/\∀ (i:Nat) (x:Str),as[i]?=some x->(bs[i]?=some x/\sc.names.lookup x=some .free)\/sc.names.lookup x=none\/sc.names.lookup x=some .globalImplicit
 | [],[],_=>⟨rfl,fun i x h=>by simp at h⟩
 | a :: as,b :: bs,h=>by
  simp only [gk,zb] at h
  obtain ⟨h1,h2⟩:=h
  obtain ⟨l,r⟩:=ly h2
  refine ⟨by simp [l],fun i x e=>?_⟩
  cases i with
  | zero =>
   have:a=x:=by simpa using e
   subst this
   simp only [yO,zb] at h1
   rcases h1 with (⟨z1,z2⟩ | z) | z
   ·exact .inl ⟨by simpa using (by simpa using z1:a=b).symm,by simpa using z2⟩
   ·exact .inr (.inl (by simpa using z))
   ·exact .inr (.inr (by simpa using z))
  | succ i=>simpa using r i x (by simpa using e)
 | [],_ :: _,h=>by simp [gk] at h
 | _ :: _,[],h=>by simp [gk] at h
section
variable {X:Cx} {pins:Zk} {σ:St} {H:Hp} {s:Shared}
theorem Inv.block {N:List Str} {sc:Scope} {cl:List (Str×Addr)} {C D:Addr} {fp:Zg} {k:Nat} {h1:Heap} {t:Nat} {m:Zh} (I:Inv X pins σ H s) (hsc:iv X.env sc=true) (hnm:gk sc (N.drop k) X.N=true) (hNl:k<=N.length)
  (hc1:∀ x c,cl.lookup x=some c->X.env.cells.lookup x=some c) (hc2:∀ y∈sc.names,y.2=.free->∃ c,cl.lookup y.1=some c) (hfp:∀ b∈fp,ip X pins H b) (hD:s.heap.objs.size<=D) (hC:s.heap.objs.size<=C) (hDC:D ≠ C) (hfC:C ∉ fp)
  (keep:∀ b u,s.heap.get? b=some u->h1.get? b=some u) (hns:h1.Ns C m) (hDo:h1.get? D=some { cls:=.type "list",data:=.seq ([]:Zf).toArray 0 }) :
  Inv (bP X N sc cl C s H fp) [] (List.replicate k none++σ) (upd H D (.lst [])) { s with heap:=h1,toks:=t }:=by
 unfold iv at hsc
 rw [zb,zF] at hsc
 obtain ⟨hk,hall⟩:=hsc
 have hkind:sc.kind=.function:=by simpa using hk
 obtain ⟨hlen,hat⟩:=ly hnm
 have hcell:∀ y∈sc.names,y.2 ≠ .cell:=fun y hy e=>by have:=hall y hy;rw [e] at this;cases this
 have frees:∀ x k',(relabel sc X.env).names.lookup x=some k'->k'=.cell\/k'=.free->sc.names.lookup x=some .free:=fun x k' h hk'=>by
  obtain ⟨k0,h0,hk0⟩:=cm h
  rcases hk0 with e | ⟨e,_⟩
  ·subst e
   rcases hk' with e | e
   ·subst e;exact absurd rfl (hcell _ (dO h0))
   ·subst e;exact h0
  ·subst e;exact h0
 have hHD:H D=none:=I.hok.fresh hD
 have hHC:H C=none:=I.hok.fresh hC
 refine ⟨⟨I.mod,hkind,I.ok.glob,I.ok.blt,hC,fun x y c e1 e2=>I.ok.inj x y c (hc1 x c e1) (hc1 y c e2),fun x hx=>?_,fun x c e=>(nomatch e),I.ok.hd,I.ok.frames,.inl rfl,fun b hb=>⟨fun (e:b=C)=>hfC (e ▸ hb),fun x c e=>(hfp b hb).2.2.2.2.1 x c (hc1 x c e)⟩,
  I.bs,zk I.ok.bsz I.sz,fun b o e hb=>?_,fun b hb hb'=>?_,I.stack,I.stkFree⟩,rfl,I.bare,Un.laid keep hD hHD,⟨m,hns,fun i x v e1 e2 e3=>?_⟩,fun x c e=>?_,?_,fun x c e=>?_,fun p hp=>(nomatch hp),I.hok.laid keep hD ?_,?_⟩
 ·have h:∃ k',(relabel sc X.env).names.lookup x=some k'/\(k'=.cell\/k'=.free):=by
   rcases hx with e | e
   ·exact ⟨_,e,.inl rfl⟩
   ·exact ⟨_,e,.inr rfl⟩
  obtain ⟨k',h1',h2'⟩:=h
  exact hc2 _ (dO (frees x k' h1' h2')) rfl
 ·have hb':b∈fp:=hb
  rcases (hfp b hb').2.2.2.1 with z | z
  ·exact I.ok.noex b o e z
  ·exact absurd (zg (zo e) (zk I.ok.bsz z)) (yr _)
 ·have hb0:b∈frs X.stack:=hb'
  rcases zj.mp (I.stkSub b hb0) with z | z
  ·exact (hfp b hb).2.1 z
  ·exact (hfp b hb).2.2.1 z
 ·
  have hik:k<=i:=by
   rcases Nat.lt_or_ge i k with z | z
   ·rw [zD (by simpa using z),yw] at e2
    split at e2 <;> cases e2
   ·exact z
  rw [zE (by simpa using hik),zK] at e2
  have e1':(N.drop k)[i - k]?=some x:=by
   rw [List.getElem?_drop,show k+(i - k)=i by exact Zr hik];exact e1
  have vis:sc.names.lookup x=some .free->∃ k',(relabel sc X.env).names.lookup x=some k'/\(k'=.cell\/k'=.free):=fun h0=>by
   have e3':Vis (relabel sc X.env) x:=e3
   rcases e3' with z | z | z
   ·obtain ⟨k0,h1',h2'⟩:=cm z
    rw [h0] at h1';cases h1'
    rcases h2' with q | ⟨_,q⟩ <;> cases q
   ·exact ⟨_,z,.inl rfl⟩
   ·exact ⟨_,z,.inr rfl⟩
  have no:∀ k0,sc.names.lookup x=some k0->∃ k',(relabel sc X.env).names.lookup x=some k'->True:=fun _ _=>⟨.local,fun _=>trivial⟩
  rcases hat _ x e1' with ⟨hX,h0⟩ | h0 | h0
  ·obtain ⟨k',hk1,hk2⟩:=vis h0
   have hf:=hall _ (dO h0)
   have hf':X.env.kindOf x=some .cell\/X.env.kindOf x=some .free:=by
    simpa using hf
   obtain ⟨mX,hnX,hlX⟩:=I.loc
   have visX:Vis X.env.scope x:=hf'.elim (fun z=>.inr (.inl z)) fun z=>.inr (.inr z)
   obtain ⟨u,r,l⟩:=hlX _ x v hX e2 visX
   refine ⟨u,r,.inr ⟨?_,?_⟩⟩
   ·rcases hk2 with z | z
    ·subst z;exact .inl hk1
    ·subst z;exact .inr hk1
   ·obtain ⟨c,hc⟩:=hc2 _ (dO h0) rfl
    refine ⟨c,hc,?_⟩
    rcases l with ⟨z,_⟩ | ⟨_,c',hc',hcell'⟩
    ·rcases hf' with q | q <;> (rw [z] at q;cases q)
    ·have:=hc1 x c hc
     rw [hc'] at this;cases this
     exact hcell'.keeps keep
  ·have e3':Vis (relabel sc X.env) x:=e3
   rcases e3' with z | z | z <;> (obtain ⟨k0,z1,_⟩:=cm z;rw [h0] at z1;cases z1)
  ·have e3':Vis (relabel sc X.env) x:=e3
   rcases e3' with z | z | z <;> (obtain ⟨k0,z1,z2⟩:=cm z;rw [h0] at z1;cases z1;rcases z2 with q | ⟨q,_⟩ <;> cases q)
 ·obtain ⟨v,z⟩:=I.cell x c (hc1 x c e)
  exact ⟨v,z.keeps keep⟩
 ·show upd H D (.lst []) C=none
  rw [aN (yR hDC)];exact hHC
 ·obtain ⟨v,z⟩:=I.cell x c (hc1 x c e)
  rw [aN (zQ (zg z.lt hD))]
  exact I.freeC x c (hc1 x c e)
 ·exact ⟨yd _,[],0,.nil,hDo⟩
 ·show (List.replicate k none++σ).length=N.length
  rw [zp,zK,I.len,← hlen,ym]
  exact Zr hNl
noncomputable def qV (X:Cx) (ifs:List Expr) (t:TT):Prop :=
 ∀ (pins:Zk) (s:Shared) (σ:St) (H:Hp) (Q:Bool->Hp->Prop),Inv X pins σ H s->t σ H Q →
  wpAny (model X.prog X.w) X.A (forIn ifs true fun c r=>if r=true then (do let ok ← isTrue c X.env (eval c X.env);pure (ForInStep.yield ok)) else pure (ForInStep.yield r)) (TP X pins σ Q) X.xe s
theorem jN:qV X [] (fun σ H Q=>Q true H):=fun pins s σ H Q I q=>zf ⟨H,I,q⟩
section
variable {prog:Program} {w:World} {A:Around} {R:Result->Shared->Prop}
theorem jP {elt target iter:Expr} {ifs:List Expr} {scope:Scope} {pos:Pos} {it acc:Value} {env:Env} {s:Shared} (I:Nat->Shared->Prop)
  (turn:∀ n s,I n s->wpAny (model prog w) A (pyNext it) (fun r s₁=>match r with
   | none=>R (.ok .next) s₁
   | some v=>wpAny (model prog w) A (letOwnedTupleGo target it v) (fun _ s₀=>wpAny (model prog w) A (assign target env v) (fun _ s₂ =>
     wpAny (model prog w) A (forIn ifs true fun c r=>if r=true then (do let ok ← isTrue c env (eval c env);pure (ForInStep.yield ok)) else pure (ForInStep.yield r)) (fun ok s₃ =>
      if ok=true then wpAny (model prog w) A (eval elt env) (fun x s₄ =>
       wpAny (model prog w) A (call (.builtin "list.append") [acc,x]) (fun _ s₅=>∃ m,m < n/\I m s₅) (fun _ _=>False) s₄) (fun _ _=>False) s₃
      else ∃ m,m < n/\I m s₃) (fun _ _=>False) s₂) (fun _ _=>False) s₀) (fun _ _=>False) s₁) (fun _ _=>False) s)
  (n:Nat) (h:I n s) :
  codeAny (model prog w) A (.compLoop (.ListComp elt [⟨target,iter,ifs,0⟩] scope pos) 0 it acc env) R s:=by
 refine codeAny_loop rfl I (fun n s hI=>?_) n h
 show wpAny _ A ((compTurn (.ListComp elt [⟨target,iter,ifs,0⟩] scope pos) 0 it acc env).onRaise (fun x=>do noteFrame x env;theTreesLotGoes x)) _ _ s
 refine wpAny_noted ?_
 rw [compTurn_list]
 refine zu (wpAny_standAt (zu (zI (turn n s hI) (fun r s₁ h₁=>?_) fun _ _ h'=>h'.elim)))
 cases r with
 | none=>exact zf h₁
 | some v =>
  refine zu (zI h₁ (fun _ s₀ h₀=>?_) fun _ _ h'=>h'.elim)
  refine zu (zI h₀ (fun _ s₂ h₂=>zu (zI h₂ (fun ok s₃ h₃=>?_) fun _ _ h'=>h'.elim)) fun _ _ h'=>h'.elim)
  cases ok with
  | false=>exact zf ⟨rfl,h₃⟩
  | true =>
   rw [zi rfl] at h₃
   exact zu (zu (zI h₃ (fun x s₄ h₄=>zu (zI h₄ (fun _ s₅ h₅=>zf (zf ⟨rfl,h₅⟩)) fun _ _ h'=>h'.elim)) fun _ _ h'=>h'.elim))
end
noncomputable def lG (k:Nat) (wi:TI) (g:TG) (tc:TT) (te:TE) (σ:St) (H:Hp) (Q:VK):Prop:=wi σ H fun J H1=>∀ D,H1 D=none->∃ W:Nat->Nat->St->Hp->Prop,
 (∃ m,W 0 m (List.replicate k none++σ) (upd H1 D (.lst [])))/\∀ i m σ' H',W i m σ' H'->(J.stop i H'/\Q (.ref D) H')\/(J.go i H'/\∀ x H2,J.yld i H' x H2->g x σ' H2 fun σ3 H3=>tc σ3 H3 fun b H4 =>
  if b=true then te σ3 H4 fun y H5=>∃ ys,H5 D=some (.lst ys)/\ys.length < sizeLine/\∃ m',m' < m/\W (i+1) m' σ3 (upd H5 D (.lst (ys++[y]))) else ∃ m',m' < m/\W (i+1) m' σ3 H4)
theorem iD {elt tg iter:Expr} {ifs:List Expr} {sc:Scope} {pos pos':Pos} {N:List Str} {k:Nat} {wi:TI} {g:TG} {tc:TT} {te:TE} {use:Option (Value->Sem Unit)} {QQ:Zt} {Q:VK} (hcalm:X.calm=true) (hi:PI X tg iter wi) (hsc:iv X.env sc=true)
  (hnm:gk sc (N.drop k) X.N=true) (hNl:k<=N.length) (hin:∀ cl C s H fp,PG (bP X N sc cl C s H fp) tg g/\qV (bP X N sc cl C s H fp) ifs tc/\PE (bP X N sc cl C s H fp) elt te)
  (hs:∀ x,foldedSetIterable iter X.env x=pure x) (I:Inv X pins σ H s) (h:lG k wi g tc te σ H Q)
  (hq:∀ s' H' D C m,Inv X pins σ H' s'->Q (.ref D) H'->s'.heap.Ns C m->ip X pins H' C->compPost (model X.prog X.w) X.A X.xe use QQ (.ref D) C (.ok .next) s') :
  wpAny (model X.prog X.w) X.A (comprehension (.ListComp elt [⟨tg,iter,ifs,0⟩] sc pos) sc X.env pos' (newList []) false (eval iter X.env) use) QQ X.xe s:=by
 have hsc':=hsc
 unfold iv at hsc'
 rw [zb,zF] at hsc'
 obtain ⟨hk,hall⟩:=hsc'
 have hkind:sc.kind=.function:=by simpa using hk
 have hcell:∀ y∈sc.names,y.2 ≠ .cell:=fun y hy e=>by have:=hall y hy;rw [e] at this;cases this
 have hnames:∀ y∈sc.names,y.2=.local->sc.names.lookup y.1=some .local:=fun y hy e=>by
  have:=hall y hy
  rw [e] at this
  simpa using this
 obtain ⟨cl,hcl,hc1,hc2⟩:=qY (sc:=sc) (env:=X.env) fun y hy e=>I.ok.has y.1 (by
  have:=hall y hy
  rw [e] at this
  simpa using this)
 refine wpAny_comprehension_free (use:=use) rfl hs hcl hkind hnames (thn (hi pins s σ H _ I h) fun v s1 h1=>thn h1 fun itv s2 h2=>?_)
 obtain ⟨it,fp,tn,J,H2,e,I2,T,st2,f2,hW⟩:=h2
 subst e
 refine wpAny_newObj_type (wpAny_newFunctionEnv hcell (by intro y hy;simp at hy) (fun h₁ hns₁ hsb₁=>?_) hkind)
 dsimp only at hns₁ hsb₁ ⊢
 generalize hP:s2.heap.push { cls:=.type "list",dict:=none,data:=.seq ([]:Zf).toArray }=P at hns₁ hsb₁ ⊢
 have hCs:P.objs.size=s2.heap.objs.size+1:=by rw [← hP,Heap.size_push]
 have old:∀ b o,s2.heap.get? b=some o->h₁.get? b=some o:=fun b o e =>
  hsb₁.extBut b o (by rw [hCs];exact zQ (Nat.lt_succ_of_lt (zo e))) (zr _ (hP ▸ zr _ e))
 have hDC:s2.heap.objs.size ≠ P.objs.size:=by rw [hCs];exact zQ (Nat.lt_succ_self _)
 have hDo:h₁.get? s2.heap.objs.size=some { cls:=.type "list",data:=.seq ([]:Zf).toArray 0 }:=hsb₁.extBut _ _ hDC (zr _ (hP ▸ za _ rfl))
 have hCle:s2.heap.objs.size<=P.objs.size:=by rw [hCs];exact Nat.le_succ _
 have lt_fp:∀ b∈fp,b < s2.heap.objs.size:=fun b hb=>let ⟨o,ho,_⟩:=T.obj 0 _ st2 b hb;zo ho
 have hfC:P.objs.size ∉ fp:=fun hb=>absurd (zg (lt_fp _ hb) hCle) (yr _)
 have IY:=I2.block (N:=N) (sc:=sc) (cl:=cl) (C:=P.objs.size) (D:=s2.heap.objs.size) (fp:=fp) (k:=k) (t:=s2.toks+([]:List (Str×Value)).length) hsc hnm hNl hc1 hc2 f2 (zm _) hCle hDC hfC old hns₁ hDo
 obtain ⟨hG,hT,hE⟩:=hin cl P.objs.size s2 H2 fp
 generalize hY:bP X N sc cl P.objs.size s2 H2 fp=Y at IY hG hT hE
 have hYm:Y.prog=X.prog/\Y.w=X.w/\Y.K=X.K/\Y.A=X.A/\Y.env=compEnvC sc cl P.objs.size X.env/\Y.calm=X.calm/\(Y.xe=fun _ _=>False):=by rw [← hY];exact ⟨rfl,rfl,rfl,rfl,rfl,rfl,rfl⟩
 obtain ⟨y1,y2,y3,y4,y5,y6,y7⟩:=hYm
 have stat:∀ {H':Hp},(∀ b∈fp,H' b=none)->∀ b∈fp,ip Y [] H' b:=fun {H'} hn b hb=>by
  rw [← hY]
  refine ⟨hn b hb,fun (e:b=P.objs.size)=>hfC (e ▸ hb),fun hb'=>?_,.inl hb,fun x c e=>(f2 b hb).2.2.2.2.1 x c (hc1 x c e),fun p hp=>(nomatch hp)⟩
  rcases zj.mp (I2.stkSub b hb') with z | z
  ·exact (f2 b hb).2.1 z
  ·exact (f2 b hb).2.2.1 z
 obtain ⟨W,⟨m0,w0⟩,turn⟩:=hW s2.heap.objs.size (I2.hok.fresh (zm _))
 have hfp0:∀ b∈fp,upd H2 s2.heap.objs.size (.lst []) b=none:=fun b hb=>by rw [aN (zQ (lt_fp b hb))];exact (f2 b hb).1
 have st3:tn 0 h₁:=T.keep _ _ _ st2 fun b _ o e=>old b o e
 have loop:codeAny (model X.prog X.w) X.A (.compLoop (.ListComp elt [⟨tg,iter,ifs,0⟩] sc pos) 0 (.ref it) (.ref s2.heap.objs.size) (compEnvC sc cl P.objs.size X.env)) (compPost (model X.prog X.w) X.A X.xe use QQ (.ref s2.heap.objs.size) P.objs.size)
   { s2 with heap:=h₁,toks:=s2.toks+([]:List (Str×Value)).length }:=by
  refine jP (fun n s'=>∃ i σ' H',Inv Y [] σ' H' s'/\tn i s'.heap/\(∀ b∈fp,H' b=none)/\W i n σ' H') ?_ m0 ⟨0,_,_,IY,st3,hfp0,w0⟩
  rintro n s3 ⟨i,σ3,H3,I3,st3,fr3,w3⟩
  rcases turn i n σ3 H3 w3 with ⟨stop,qn⟩ | ⟨go,step⟩
  ·have q:=T.done Y y1 y2 y3 (y6.trans hcalm) i [] s3 σ3 H3 (fun _ _=>False) I3 (stat fr3) st3 stop
   rw [y4] at q
   refine thn q fun r s4 ⟨hr,I4⟩=>?_
   subst hr
   have IX:Inv X pins σ H3 s4:=by
    have b4:=I4.base
    have o4:=I4.os
    have k4:=I4.hok
    rw [← hY] at b4 o4 k4
    refine I2.call' (ch:=fp) o4 b4 k4 I4.bare fun b hb=>?_
    exact ⟨(f2 b hb).2.2.2.1,(f2 b hb).2.1,(f2 b hb).2.2.2.2.1,(f2 b hb).2.2.2.2.2⟩
   obtain ⟨mC,hmC,_⟩:=I4.loc
   have f4:=I4.free
   rw [y5] at hmC f4
   exact hq s4 H3 _ P.objs.size mC IX qn hmC (I2.fpOk hCle f4)
  ·have q:=T.item Y y1 y2 y3 (y6.trans hcalm) i [] s3 σ3 H3 (fun _ _=>False) I3 (stat fr3) st3 go
   rw [y4] at q
   refine thn q fun r s4 ⟨u,hr,h4⟩=>?_
   subst hr
   refine thn h4 fun _ s5 ⟨x,H5,I5,r5,yl5,st5,fr5⟩=>?_
   have I5':=I5.pinned (stat fr5) (T.obj _ _ st5)
   have again:∀ {σ7:St} {H7:Hp} {s7:Shared} {m:Nat},Inv Y ([]++gX fp s5.heap) σ7 H7 s7->W (i+1) m σ7 H7->∃ i σ' H',Inv Y [] σ' H' s7/\tn i s7.heap/\(∀ b∈fp,H' b=none)/\W i m σ' H':=fun {σ7 H7 s7 m} I7 w7=>by
    refine ⟨i+1,σ7,H7,I7.unpinned,T.keep _ _ _ st5 fun b hb o e=>(I7.pin (b,o) (zV _ (zV _ (eB hb e)))).1,fun b hb=>?_,w7⟩
    obtain ⟨o,e,d⟩:=T.obj _ _ st5 b hb
    exact (I7.pin (b,o) (zV _ (zV _ (eB hb e)))).2.1
   have qa:=hG _ s5 σ3 H5 x u _ I5' r5 (step x H5 yl5)
   rw [y1,y2,y4,y5,y7] at qa
   refine thn qa fun _ s6 ⟨σ6,H6,I6,q6⟩=>?_
   have qt:=hT _ s6 σ6 H6 _ I6 q6
   rw [y1,y2,y4,y5,y7] at qt
   refine thn qt fun b s7 ⟨H7,I7,q7⟩=>?_
   cases b with
   | false =>
    rw [if_neg zh] at q7 ⊢
    obtain ⟨m',hm,w7⟩:=q7
    exact ⟨m',hm,again I7 w7⟩
   | true =>
    rw [zi rfl] at q7 ⊢
    have qe:=hE _ s7 σ6 H7 _ I7 q7
    rw [y1,y2,y4,y5,y7] at qe
    refine thn qe fun yv s8 ⟨y,H8,I8,r8,ys,hD8,hl8,m',hm,w8⟩=>?_
    have qp:=iQ (X:=Y) _ s8 σ6 H8 (.ref s2.heap.objs.size) [y] (.ref s2.heap.objs.size) [yv] (fun _ H9=>W (i+1) m' σ6 H9) I8 rfl (.cons r8 .nil) ⟨_,ys,y,rfl,rfl,hD8,hl8,w8⟩
    rw [y1,y2,y4,y7] at qp
    refine thn qp fun _ s9 ⟨_,H9,I9,_,w9⟩=>?_
    exact ⟨m',hm,again I9 w9⟩
 exact codeAny_compStart_list loop (T.self _ 0 _ _ _ st3 loop)
theorem pL {elt tg iter:Expr} {ifs:List Expr} {sc:Scope} {pos:Pos} {N:List Str} {k:Nat} {wi:TI} {g:TG} {tc:TT} {te:TE} (hcalm:X.calm=true) (hi:PI X tg iter wi) (hsc:iv X.env sc=true)
  (hnm:gk sc (N.drop k) X.N=true) (hNl:k<=N.length) (hin:∀ cl C s H fp,PG (bP X N sc cl C s H fp) tg g/\qV (bP X N sc cl C s H fp) ifs tc/\PE (bP X N sc cl C s H fp) elt te)
  (hs:∀ x,foldedSetIterable iter X.env x=pure x:=by intro _;rfl):PE X (.ListComp elt [⟨tg,iter,ifs,0⟩] sc pos) (lG k wi g tc te):=by
 intro pins s σ H Q I h
 rw [eval_ListComp]
 refine iD (use:=none) hcalm hi hsc hnm hNl hin hs I h fun s' H' D C m I' q hn f=>⟨m,hn,fun h' hs'=>?_⟩
 exact ⟨.ref D,H',I'.turned (it:=C) (t':=s'.toks) (fun b o hb e=>hs'.extBut b o hb e) f.1 f.2.1 f.2.2.2.1 f.2.2.2.2.1 f.2.2.2.2.2,rfl,q⟩
theorem kH {elt tg iter:Expr} {ifs:List Expr} {sc:Scope} {pos pos' spos:Pos} {N:List Str} {k i:Nat} {x:Str} {wi:TI} {g:TG} {tc:TT} {te:TE} (hN:X.N.Nodup) (hiN:X.N[i]?=some x) (hx:Loc X.env.scope x) (hcalm:X.calm=true) (hi:PI X tg iter wi) (hsc:iv X.env sc=true)
  (hnm:gk sc (N.drop k) X.N=true) (hNl:k<=N.length) (hin:∀ cl C s H fp,PG (bP X N sc cl C s H fp) tg g/\qV (bP X N sc cl C s H fp) ifs tc/\PE (bP X N sc cl C s H fp) elt te)
  (hsw:swapsWith (.ListComp elt [⟨tg,iter,ifs,0⟩] sc pos) (some (.Name x pos')) spos.line X.env=pure true)
  (hf:X.fn x=true\/X.env.scope.names.lookup x=some .local) (hs:∀ x,foldedSetIterable iter X.env x=pure x:=by intro _;rfl) :
  PS X (.Assign [.Name x pos'] (.ListComp elt [⟨tg,iter,ifs,0⟩] sc pos) spos) (fun D σ H=>lG k wi g tc te σ H fun v H1=>D.nx (σ.set i (some v)) H1):=by
 intro pins s σ H D I h
 rw [exec_Assign_Name_used _ _ _ _ hsw]
 refine zu (wpAny_standAt (zu ?_))
 show wpAny _ X.A (do let _ ← comprehension (.ListComp elt [⟨tg,iter,ifs,0⟩] sc pos) sc X.env _ (newList []) false (eval iter X.env) (some (assign (.Name x pos') X.env))) _ _ s
 refine zu (zI (iD (use:=some (assign (.Name x pos') X.env)) (QQ:=fun _ s'=>SP X pins D .next s') hcalm hi hsc hnm hNl hin hs I h fun s' H' D' C m I' q hn f=>?_) (fun _ s' hq=>zf (zf hq)) fun _ _ e=>e)
 show wpAny _ X.A (assign (.Name x pos') X.env (.ref D')) _ _ _
 refine wpAny_assign_Name (iA I' hN hiN hx (v:=.ref D') rfl (fun s2 I2 ⟨a,hsb,ha⟩=>?_) hf)
 have hCa:C ≠ a:=fun e=>by
  rcases ha with z | z
  ·exact f.2.1 (e.trans z)
  ·exact f.2.2.2.2.1 x a z e.symm
 refine ⟨m,hn.sameBut hsb hCa,fun h' hs'=>⟨_,H',?_,q⟩⟩
 exact I2.turned (it:=C) (t':=s2.toks) (fun b o hb e=>hs'.extBut b o hb e) f.1 f.2.1 f.2.2.2.1 f.2.2.2.2.1 f.2.2.2.2.2
end
end L2
end
section
namespace VS
open PySem PySem.Spec PyProof.Rows L2
noncomputable def lZ (k:Nat) (g:Tg):Prop:=∀ t η η',g t η=some η'->η'.length=η.length/\∀ i,k<=i->η'[i]?=η[i]?
theorem d6 {k i:Nat} (h:i < k):lZ k (cn i):=fun t η η' e=>by
 unfold cn at e
 split at e
 ·cases e
  exact ⟨by simp,fun j hj=>by rw [zA (by lia)]⟩
 ·cases e
theorem lI:∀ (l:Z2) {i:Nat} {t:T},dI l=true->l[i]?=some t->imm t=true
 | [],_,_,_,h=>by simp at h
 | x :: l,0,t,h,e=>by
  simp only [dI,zb] at h
  simp at e;rw [← e];exact h.1
 | x :: l,i+1,t,h,e=>by
  simp only [dI,zb] at h
  exact lI l h.2 (by simpa using e)
noncomputable def tC (G:Gx):Option Ex->TT
 | none=>fun σ H Q=>Q true H
 | some c=>tT G c
section
variable {G:Gx} {Φ:Fps} {η:VS.Env} {σ:L2.St} {H:Hp} {k:Nat}
theorem fN {i:Nat} {c:Cell}:(List.replicate k none++η)[i]?=some (some c) ↔ k<=i/\η[i - k]?=some (some c):=by
 rcases Nat.lt_or_ge i k with h | h
 ·rw [zD (by simpa using h),yw]
  constructor
  ·intro e;split at e <;> cases e
  ·intro ⟨e,_⟩;lia
 ·rw [zE (by simpa using h),zK]
  exact ⟨fun e=>⟨h,e⟩,fun e=>e.2⟩
theorem nt {a:Addr}:cj (fun i=>Φ (i - k)) (List.replicate k none++η) a ↔ cj Φ η a:=by
 constructor
 ·rintro ⟨j,t,h1,h2⟩
  exact ⟨j - k,t,(fN.mp h1).2,h2⟩
 ·rintro ⟨j,t,h1,h2⟩
  refine ⟨j+k,t,fN.mpr ⟨Nat.le_add_left _ _,by rw [yL];exact h1⟩,?_⟩
  show a∈Φ (j+k - k)
  rw [yL];exact h2
theorem oB {a:Addr}:dg (fun i=>Φ (i - k)) (List.replicate k none++η) a ↔ dg Φ η a:=by
 constructor
 ·rintro ⟨j,t,h1,h2⟩
  exact ⟨j - k,t,(fN.mp h1).2,h2⟩
 ·rintro ⟨j,t,h1,h2⟩
  refine ⟨j+k,t,fN.mpr ⟨Nat.le_add_left _ _,by rw [yL];exact h1⟩,?_⟩
  show a∈Φ (j+k - k)
  rw [yL];exact h2
theorem SR.sh (s:SR G Φ η σ H):SR G (fun i=>Φ (i - k)) (List.replicate k none++η) (List.replicate k none++σ) H:=by
 refine ⟨by simp [s.len],fun i c h=>?_,fun i t h=>?_,fun i j t c h1 h2 n=>?_⟩
 ·obtain ⟨h1,h2⟩:=fN.mp h
  obtain ⟨v,g1,g2⟩:=s.rp _ c h2
  refine ⟨v,?_,g2⟩
  rw [zE (by simpa using h1),zK]
  exact g1
 ·exact s.nd _ t (fN.mp h).2
 ·obtain ⟨a1,a2⟩:=fN.mp h1
  obtain ⟨b1,b2⟩:=fN.mp h2
  exact s.sep _ _ t c a2 b2 (by lia)
theorem SR.less {η':VS.Env} (s:SR G Φ η' σ H) (hl:η.length=η'.length) (h:∀ (i:Nat) c,η[i]?=some (some c)->η'[i]?=some (some c)):SR G Φ η σ H :=
 ⟨hl.trans s.len,fun i c e=>s.rp i c (h i c e),fun i t e=>s.nd i t (h i _ e),fun i j t c e1 e2 n=>s.sep i j t c (h i _ e1) (h j _ e2) n⟩
theorem SR.off {D:Addr} {o:HO} (s:SR G Φ η σ H) (m:Mut (H D)\/H D=none) (n1:¬ dg Φ η D) (n2:¬ cj Φ η D):SR G Φ η σ (upd H D o):=by
 refine ⟨s.len,fun i c e=>?_,s.nd,s.sep⟩
 obtain ⟨v,g1,g2⟩:=s.rp i c e
 refine ⟨v,g1,g2.keep (Kept.upd m) fun b hb o' ho=>?_⟩
 rw [aN fun z=>?_]
 ·exact ho
 ·subst z
  cases c with
  | pu t=>exact n1 ⟨i,t,e,hb⟩
  | ow t=>exact n2 ⟨i,t,e,hb⟩
theorem gZ:∀ (l:Z0) (v:Val),bL (l++[v])=(bL l).join v.1
 | [],(m,t)=>by cases m <;> rfl
 | (m,t) :: l,v=>by
  show m.join (bL (l++[v]))=(m.join (bL l)).join v.1
  rw [gZ l v]
  generalize bL l=q
  generalize v.1=r
  cases m <;> cases q <;> cases r <;> rfl
theorem Fp.join2 {m n:Md} {F F':Zg} (f:Fp Φ η H m F) (g:Fp Φ η H n F') (d:n=.fr->∀ a∈F,a ∉ F'):Fp Φ η H (m.join n) (F++F'):=by
 have both:∀ {P:Addr->Prop},(∀ a∈F,P a)->(∀ a∈F',P a)->∀ a∈F++F',P a:=fun p q a h=>(zT.mp h).elim (p a) (q a)
 cases m <;> cases n
 ·exact ⟨ya.mpr ⟨f.1,g.1,fun a ha b hb e=>d rfl a ha (e ▸ hb)⟩,both f.2 g.2⟩
 ·exact both (fun a ha=>.inl (f.2 a ha)) g
 ·exact both (fun a ha=>.inl (f.2 a ha)) g
 ·exact both f fun a ha=>.inl (g.2 a ha)
 ·exact both f g
 ·exact both (fun a ha=>(f a ha).imp id .inl) g
 ·exact both f fun a ha=>.inl (g.2 a ha)
 ·exact both f fun a ha=>(g a ha).imp id .inl
 ·exact both f g
theorem Fp.cons1 {m:Md} {F:Zg} {D:Addr} (f:Fp Φ η H m F) (h:H D=none) (d:D ∉ F):Fp Φ η H m (D :: F):=by
 have all:∀ {P:Addr->Prop},P D->(∀ a∈F,P a)->∀ a∈D :: F,P a:=fun p q a ha=>(zj.mp ha).elim (fun e=>e ▸ p) (q a)
 cases m
 ·exact ⟨z0.mpr ⟨d,f.1⟩,all h f.2⟩
 ·exact all (.inl h) f
 ·exact all (.inl h) f
end
section
variable {G:Gx} {k:Nat} {tg:Tg} {ci:Its} {cond:Option Ex} {ce:Ex}
noncomputable def CI (G:Gx) (Φ:Fps) (η η0:VS.Env) (H H1:Hp) (D:Addr) (l:Z2) (all:Z0) (tg:Tg) (cond:Option Ex) (ce:Ex) (i n:Nat) (σ':L2.St) (H':Hp):Prop:=n=l.length - i/\∃ Φ1 vs Fs xs rest,SR G Φ1 η0 σ' H'/\(∀ a,cj Φ1 η0 a->cj Φ η a)/\(∀ a,dg Φ1 η0 a->H a=none\/dg Φ η a)/\¬ dg Φ1 η0 D/\¬ cj Φ1 η0 D/\Kept H1 H' ∧
     (∀ a o,a ≠ D->H1 a=some o->H' a=some o)/\H' D=some (.lst xs)/\RpL G H' xs (trees vs) Fs/\D ∉ Fs.flatten/\Fp Φ η H (bL vs) Fs.flatten/\ig tg cond ce η0 (l.drop i)=some rest/\vs++rest=all
theorem lL {σ:L2.St} {H:Hp} {Q:VK} (hin:lZ k tg) (h:tE G (cM k tg ci cond ce) σ H Q):lG k (tI G ci) (tG G tg) (tC G cond) (tE G ce) σ H Q:=by
 refine L2.iz fun P_ k_=>?_
 obtain ⟨Φ,η,m,r,s,e,kq⟩:=h
 unfold cM at e
 obtain ⟨⟨mi,l⟩,el,e1⟩:=zz.mp e
 dsimp only at e1
 split at e1
 ·rename_i hok
  obtain ⟨all,ea,e2⟩:=zz.mp e1
  unfold mkL at e2
  split at e2
  ·rename_i hlen
   cases e2
   refine k_ ?_
   refine ⟨Φ,η,mi,l,s,el,fun J H1 C e3 ok fc D hD=>?_⟩
   have hHD:H D=none:=e3.free hD
   let η0:VS.Env:=List.replicate k none++η
   have good:∀ {t:T} {i:Nat} {H' H2:Hp} {v:V} {F:Zg},l[i]?=some t->Rp G H2 v t F->(∀ a,H1 a ≠ none->H' a ≠ none)->(∀ a∈F,a∈C\/H' a=none)->∀ a∈F,(H a=none\/dg Φ η a)/\¬ cj Φ η a:=fun {t i H' H2 v F} hi rF keep hF a ha=>by
    have dom:∀ {b},H b ≠ none->H' b ≠ none:=fun {b} hb=>keep b fun z=>hb (e3.free z)
    rcases hF a ha with z | z
    ·rcases fc a z with q | q | ⟨q,w⟩
     ·exact ⟨.inl q,fun w=>Mut.ne_none (s.ow_dom w) q⟩
     ·exact ⟨.inr q,fun w=>s.ow_pu w q⟩
     ·subst q
      have:imm t=true:=by
       exact lI l hok hi
      rw [rF.imm this] at ha
      simp at ha
    ·have hz:H a=none:=Classical.byContradiction fun q=>dom q z
     exact ⟨.inl hz,fun w=>Mut.ne_none (s.ow_dom w) hz⟩
   refine ⟨CI G Φ η η0 H H1 D l all tg cond ce,?_,?_⟩
   ·refine ⟨l.length - 0,rfl,fun i=>Φ (i - k),[],[],[],all,?_,fun a h=>nt.mp h,fun a h=>.inr (oB.mp h),fun h=>?_,fun h=>?_,Kept.upd (.inr hD),fun a o n h=>by rw [aN n];exact h,bB,.nil,by simp,Fp.nil,by rw [xZ];exact ea,rfl⟩
    ·exact ((s.same e3).sh).off (.inr hD) (fun h=>Mut.ne_none (s.pu_dom (oB.mp h)) hHD) fun h=>Mut.ne_none (s.ow_dom (nt.mp h)) hHD
    ·exact Mut.ne_none (s.pu_dom (oB.mp h)) hHD
    ·exact Mut.ne_none (s.ow_dom (nt.mp h)) hHD
   ·intro i n σ' H' hh_
    refine L2.iz fun P_ k_=>?_
    obtain ⟨rfl,Φ1,vs,Fs,xs,rest,s1,ow1,pu1,np1,no1,kp,old,hD',rp,nD,fp,er,ev⟩:=hh_
    refine k_ ?_
    have keepdom:∀ a,H1 a ≠ none->H' a ≠ none:=fun a ha z=>by
     by_cases q:a=D
     ·subst q;rw [hD'] at z;cases z
     ·cases e:H1 a with
      | none=>exact ha e
      | some o=>rw [old a o q e] at z;cases z
    refine L2.iz fun P_ k_=>?_
    obtain ⟨go,stop⟩:=ok.run H' kp fun a ha o ho=>old a o (fun z=>ok.dom a ha (z ▸ hD)) ho
    cases hit:l[i]? with
    | none =>
     have hl:l.length<=i:=yj.mp hit
     refine k_ ?_
     left
     refine ⟨stop i hl,?_⟩
     rw [yu hl] at er
     cases (show some ([]:Z0)=some rest from er)
     rw [yz] at ev
     subst ev
     refine kq (.ref D) H' (D :: Fs.flatten) (fun a o h=>old a o (fun z=>by rw [z,hHD] at h;cases h) (e3 a o h)) (.lst hD' rp) ?_
     by_cases hi:dI (trees vs)=true
     ·rw [zi hi,rp.imm hi]
      exact ⟨by simp,fun a ha=>by rw [zO.mp ha];exact hHD⟩
     ·rw [if_neg hi]
      exact fp.cons1 hHD nD
    | some t =>
     have hl:i < l.length:=(zq.mp hit).1
     obtain ⟨g1,y1⟩:=go i t hit
     refine k_ ?_
     right
     refine ⟨g1,fun x H2 yl=>?_⟩
     refine L2.iz fun P_ k_=>?_
     obtain ⟨e8,F,rF,hF⟩:=y1 x H2 yl
     rw [iR (tgt:=tg) (body:=dJ) (η:=η) hit] at er
     rw [ig] at er
     obtain ⟨η3,e4,e5⟩:=zz.mp er
     obtain ⟨b,eb,e6⟩:=zz.mp e5
     have gd:=good hit rF keepdom hF
     have s2:=s1.same e8
     have DF:D ∉ F:=fun h=>by
      rcases hF D h with z | z
      ·exact ok.dom D z hD
      ·rw [hD'] at z;cases z
     refine k_ ?_
     refine ⟨Φ1,η0,t,F,η3,s2,rF,fun a ha z=>(gd a ha).2 (ow1 a z),e4,fun Φ3 σ3 s3 o3 p3=>?_⟩
     obtain ⟨tl,tsame⟩:=hin t η0 η3 e4
     have low:∀ j c,η0[j]?=some (some c)->η3[j]?=some (some c):=fun j c h=>by rw [tsame j (fN.mp h).1];exact h
     have pu3:∀ a,dg Φ3 η3 a->H a=none\/dg Φ η a:=fun a h=>(p3 a h).elim (pu1 a) fun h=>(gd a h).1
     have ow3:∀ a,cj Φ3 η3 a->cj Φ η a:=fun a h=>ow1 a (o3 a h)
     have np3:¬ dg Φ3 η3 D:=fun h=>(p3 D h).elim np1 DF
     have no3:¬ cj Φ3 η3 D:=fun h=>no1 (o3 D h)
     have pul:∀ a,dg Φ3 η0 a->dg Φ3 η3 a:=fun a ⟨j,u,h1,h2⟩=>⟨j,u,low j _ h1,h2⟩
     have owl:∀ a,cj Φ3 η0 a->cj Φ3 η3 a:=fun a ⟨j,u,h1,h2⟩=>⟨j,u,low j _ h1,h2⟩
     have rest':∀ H4,bf H2 H4->(if b=true then tE G ce σ3 H4 fun y H5=>∃ ys,H5 D=some (.lst ys)/\ys.length < sizeLine/\∃ m',m' < l.length - i/\CI G Φ η η0 H H1 D l all tg cond ce (i+1) m' σ3 (upd H5 D (.lst (ys++[y]))) else ∃ m',m' < l.length - i/\CI G Φ η η0 H H1 D l all tg cond ce (i+1) m' σ3 H4):=fun H4 e9=>by
      have eo:∀ {H5},bf H4 H5->∀ a o,H' a=some o->H5 a=some o:=fun {H5} e10 a o h=>e10 a o (e9 a o (e8 a o h))
      cases b with
      | false =>
       rw [if_neg zh] at e6 ⊢
       have same:=eo (bf.refl H4)
       exact ⟨_,by lia,rfl,Φ3,vs,Fs,xs,rest,(s3.same e9).less (by rw [tl]) low,fun a h=>ow3 a (owl a h),fun a h=>pu3 a (pul a h),fun h=>np3 (pul D h),fun h=>no3 (owl D h),kp.trans ((Kept.of e8).trans (Kept.of e9)),fun a o n h=>same a o (old a o n h),same D _ hD',rp.same (bf.trans e8 e9),nD,fp,e6,ev⟩
      | true =>
       rw [zi rfl] at e6 ⊢
       obtain ⟨⟨mv,tv⟩,ece,e7⟩:=zz.mp e6
       obtain ⟨rest1,er1,e7'⟩:=zv.mp e7
       refine ⟨Φ3,η3,mv,tv,s3.same e9,ece,fun y H5 Fy e10 ry fy=>?_⟩
       have same:=eo e10
       have hD5:=same D _ hD'
       have mD5:Mut (H5 D):=by rw [hD5];exact True.intro
       have hD4:H4 D=some (.lst xs):=e9 D _ (e8 D _ hD')
       have none4:∀ a,H4 a=none->H a=none:=fun a h=>Classical.byContradiction fun q=>keepdom a (fun z=>q (e3.free z)) (e8.free (e9.free h))
       have fyo:Fp Φ η H mv Fy:=by
        cases mv with
        | fr=>exact ⟨fy.1,fun a ha=>none4 a (fy.2 a ha)⟩
        | pu=>exact fun a ha=>(fy a ha).elim (fun z=>.inl (none4 a z)) (pu3 a)
        | bo=>exact fun a ha=>(fy a ha).elim (fun z=>.inl (none4 a z)) fun z=>z.elim (fun z=>(pu3 a z).imp id .inl) fun z=>.inr (.inr (ow3 a z))
       have DFy:D ∉ Fy:=fun h=>by
        cases mv with
        | fr=>have:=fy.2 D h;rw [hD4] at this;cases this
        | pu=>exact (fy D h).elim (fun z=>by rw [hD4] at z;cases z) np3
        | bo=>exact (fy D h).elim (fun z=>by rw [hD4] at z;cases z) fun z=>z.elim np3 no3
       have rp5:RpL G H5 xs (trees vs) Fs:=rp.same ((e8.trans e9).trans e10)
       have lenx:xs.length=vs.length:=by rw [rp.len.1];simp
       have lenv:vs.length < all.length:=by rw [← ev,← e7'];simp
       refine ⟨xs,hD5,?_,_,by lia,rfl,Φ3,vs++[(mv,tv)],Fs++[Fy],xs++[y],rest1,(((s3.same e9).same e10).off (.inl mD5) np3 no3).less (by rw [tl]) low,fun a h=>ow3 a (owl a h),fun a h=>pu3 a (pul a h),fun h=>np3 (pul D h),fun h=>no3 (owl D h),?_,fun a o n h=>?_,bB,?_,?_,?_,er1,?_⟩
       ·have hlen':all.length<=dh:=by simpa using hlen
        have:sizeLine=dh:=rfl
        lia
       ·exact (kp.trans ((Kept.of e8).trans ((Kept.of e9).trans (Kept.of e10)))).trans (Kept.upd (.inl mD5))
       ·rw [aN n];exact same a o (old a o n h)
       ·have:trees (vs++[(mv,tv)])=trees vs++[tv]:=by simp
        rw [this]
        exact (rp5.off mD5 nD).append (.cons (ry.keep (Kept.upd (.inl mD5)) fun b hb o ho=>by rw [aN (fun z=>DFy (by rw [← z];exact hb))];exact ho) .nil)
       ·rw [z6]
        intro h
        rcases zT.mp h with z | z
        ·exact nD z
        ·exact DFy (by simpa using z)
       ·rw [z6,gZ]
        have:([Fy]:Zj).flatten=Fy:=by simp
        rw [this]
        refine fp.join2 fyo fun hm a ha hb=>?_
        subst hm
        have h4:=fy.2 a hb
        have:Mut (H4 a):=(rp.same (e8.trans e9)).dom a ha
        rw [h4] at this;exact this
       ·rw [yH,← ev,← e7'];rfl
     cases cond with
     | none =>
      cases (show some true=some b from eb)
      exact rest' H2 (bf.refl H2)
     | some c =>
      obtain ⟨⟨mc,xc⟩,ec1,ec2⟩:=zz.mp eb
      exact ⟨Φ3,η3,mc,xc,b,s3,ec1,ec2,fun H4 e9=>rest' H4 e9⟩
  ·cases e2
 ·cases e1
end
section
variable {G:Gx} {X:Cx} {elt tg iter c:Expr} {sc:Scope} {pos pos' spos:Pos} {N:List Str} {k i:Nat} {x:Str} {ci:Its} {g:Tg} {cc ce:Ex}
theorem qd (k:Nat) (N:List Str) (hcalm:X.calm=true) (hi:PVI G X tg iter ci) (hin:lZ k g) (hg:∀ cl C s H fp,PVG G (bP X N sc cl C s H fp) tg g) (he:∀ cl C s H fp,PV G (bP X N sc cl C s H fp) elt ce)
  (hsc:iv X.env sc=true:=by rfl) (hnm:gk sc (N.drop k) X.N=true:=by rfl) (hNl:k<=N.length:=by decide) (hs:∀ x,foldedSetIterable iter X.env x=pure x:=by intro _;rfl) :
  PV G X (.ListComp elt [⟨tg,iter,[],0⟩] sc pos) (cM k g ci none ce) :=
 PE.weak (pL hcalm hi hsc hnm hNl (fun cl C s H fp=>⟨hg cl C s H fp,jN,he cl C s H fp⟩) hs) fun σ H Q h=>lL (cond:=none) hin h
theorem sY {D:Ends} {σ:L2.St} {H:Hp} {ce:Ex} (h:tS G (fI i ce) D σ H):tE G ce σ H fun v H1=>D.nx (σ.set i (some v)) H1:=by
 refine L2.iz fun P_ k_=>?_
 obtain ⟨Φ,η,o,s,e,k⟩:=h
 unfold fI at e
 obtain ⟨⟨m,t⟩,ec,e1⟩:=zz.mp e
 obtain ⟨c,eC,e2⟩:=zz.mp e1
 refine k_ ?_
 split at e2
 ·rename_i hl
  cases e2
  refine ⟨Φ,η,m,t,s,ec,fun v H' F e3 r3 f3=>?_⟩
  obtain ⟨q1,q2⟩:=s.val (c:=c) hl e3 r3 f3 (by
   unfold cellOf at eC
   cases m with
   | fr =>
    simp only [Option.some.injEq] at eC
    split at eC
    ·exact .inr ⟨eC.symm,rfl⟩
    ·exact .inl ⟨eC.symm,by decide⟩
   | pu=>cases eC;exact .inl ⟨rfl,by decide⟩
   | bo=>cases eC)
  exact k _ _ H' q1 q2
 ·cases e2
theorem oo (k:Nat) (N:List Str) {cS:Sx} (hS:∀ D σ H,tS G cS D σ H->tE G (cM k g ci none ce) σ H fun v H1=>D.nx (σ.set i (some v)) H1) (hcalm:X.calm=true) (hi:PVI G X tg iter ci) (hin:lZ k g) (hg:∀ cl C s H fp,PVG G (bP X N sc cl C s H fp) tg g)
  (he:∀ cl C s H fp,PV G (bP X N sc cl C s H fp) elt ce) (hN:X.N.Nodup) (hiN:X.N[i]?=some x:=by rfl) (hx:Loc X.env.scope x:=by first | exact Or.inl rfl | exact Or.inr rfl)
  (hsc:iv X.env sc=true:=by rfl) (hnm:gk sc (N.drop k) X.N=true:=by rfl) (hNl:k<=N.length:=by decide) (hsw:swapsWith (.ListComp elt [⟨tg,iter,[],0⟩] sc pos) (some (.Name x pos')) spos.line X.env=pure true:=by rfl)
  (hf:X.fn x=true\/X.env.scope.names.lookup x=some .local:=by first | exact .inl rfl | exact .inr rfl) (hs:∀ x,foldedSetIterable iter X.env x=pure x:=by intro _;rfl) :
  PSV G X (.Assign [.Name x pos'] (.ListComp elt [⟨tg,iter,[],0⟩] sc pos) spos) cS :=
 PS.weak (kH hN hiN hx hcalm hi hsc hnm hNl (fun cl C s H fp=>⟨hg cl C s H fp,jN,he cl C s H fp⟩) hsw hf hs) fun D σ H h=>lL (cond:=none) hin (hS D σ H h)
end
end VS
end
section
namespace L2
open PySem PySem.Spec PyProof.Rows
end L2
namespace VS
open PySem PySem.Spec PyProof.Rows L2
noncomputable instance {s:Tx}:Decidable (gA s):=inferInstanceAs (Decidable (_/\_))
section
variable {G:Gx} {X:Cx} {a b c e:Expr} {es:List Expr} {ca cb cc:Ex} {cs:Exs} {pos p p1 p2 apos cpos:Pos} {k k':Nat}
theorem w_add (ha:PV G X a ca) (hb:PV G X b cb):PV G X (.BinOp a .Add b pos) (e2 aY ca cb):=gT q0 t6 ha hb
theorem w_sub (ha:PV G X a ca) (hb:PV G X b cb):PV G X (.BinOp a .Sub b pos) (e2 fq ca cb):=gT sP tH ha hb
theorem w_mul (ha:PV G X a ca) (hb:PV G X b cb):PV G X (.BinOp a .Mult b pos) (e2 gL ca cb):=gT so uc ha hb
theorem sS (ha:PV G X a ca) (hb:PV G X b cb):PV G X (.BinOp a .FloorDiv b pos) (e2 dC ca cb):=gT qN qK ha hb
theorem w_mod (ha:PV G X a ca) (hb:PV G X b cb):PV G X (.BinOp a .Mod b pos) (e2 oMod ca cb):=gT uG uL ha hb
theorem wF (ha:PV G X a ca) (hb:PV G X b cb):PVT G X (.Compare a [.Lt] [b] pos) (e2 oLt ca cb):=fE tQ vx jJ ha hb (fk _)
theorem xw (ha:PV G X a ca) (hb:PV G X b cb):PV G X (.Compare a [.LtE] [b] pos) (e2 oLe ca cb):=kQ kI oZ ha hb (fk _)
theorem w_eq (hr:Room k X.A) (ha:PV G X a ca) (hb:PV G X b cb):PV G X (.Compare a [.Eq] [b] pos) (e2 oEq ca cb):=kQ (m7 hr.units) rG ha hb (fk _)
theorem vg (hr:Room k X.A) (ha:PV G X a ca) (hb:PV G X b cb):PVT G X (.Compare a [.Eq] [b] pos) (e2 oEq ca cb):=fE (m7 hr.units) rG tells_eq ha hb (fk _)
theorem wU (hr:Room k X.A) (ha:PV G X a ca) (hb:PV G X b cb):PV G X (.Compare a [.NotEq] [b] pos) (e2 oNe ca cb):=kQ (nR hr.units) rX ha hb (fk _)
theorem vV (hr:Room k X.A) (ha:PV G X a ca) (hb:PV G X b cb):PVT G X (.Compare a [.NotEq] [b] pos) (e2 oNe ca cb):=fE (nR hr.units) rX nH ha hb (fk _)
theorem vm (ha:PV G X a ca) (hb:PV G X b cb) (hs:jo b:=by intro _ _;rfl) (hK:X.K=G.K:=by rfl):PV G X (.Subscript a b pos) (e2 bG ca cb) :=
 PE.weak (vL sk ha hb hs) fun σ H Q h=>by rw [hK];exact ja uw h
theorem vN (hm:X.mg "len" = none) (ha:PVs G X [e] cs) (hg:Gl X "len" := by rfl) (hK:X.K=G.K:=by rfl) (he:starEach [e] X.env=(false,eval e X.env) :: starEach [] X.env:=by rfl):PV G X (.Call (.Name "len" p) [e] [] pos) (eN cp cs) :=
 eF (hK ▸ mI) tL hg hm PySem.boot_len ha (he:=he) (hpl:=rfl)
theorem sH:bootBuiltins ("max" : Str)=some (.builtin "max"):=by decide +kernel
theorem u9:bootBuiltins ("min" : Str)=some (.builtin "min"):=by decide +kernel
theorem sq (hm:X.mg "max" = none) (ha:PVs G X [a,b] cs) (hc:X.calm=true:=by rfl) (hg:Gl X "max" := by rfl) (he:starEach [a,b] X.env=(false,eval a X.env) :: starEach [b] X.env:=by rfl) (hpl:(backTo pos (starEach [b] X.env)).any (·.1)=false:=by rfl):PV G X (.Call (.Name "max" p) [a,b] [] pos) (eN j5 cs) :=
 eF (mY hc) qv hg hm sH ha (he:=he) (hpl:=hpl)
theorem t4 (hm:X.mg "min" = none) (ha:PVs G X [a,b] cs) (hc:X.calm=true:=by rfl) (hg:Gl X "min" := by rfl) (he:starEach [a,b] X.env=(false,eval a X.env) :: starEach [b] X.env:=by rfl) (hpl:(backTo pos (starEach [b] X.env)).any (·.1)=false:=by rfl):PV G X (.Call (.Name "min" p) [a,b] [] pos) (eN jQ cs) :=
 eF (mL hc) qk hg hm u9 ha (he:=he) (hpl:=hpl)
noncomputable def tyN:Ty->Str
 | .int => "int" | .str => "str" | .bool => "bool" | .list => "list" | .tuple => "tuple" | .dict => "dict"
theorem wJ (t:Ty):bootBuiltins (tyN t)=some (.type (tyS t)):=by cases t <;> decide +kernel
theorem w_is (t:Ty) (hm:X.mg "isinstance" = none) (hm2:X.mg (tyN t)=none) (ha:PV G X a ca) (hg:Gl X "isinstance" := by rfl) (hg2:Gl X (tyN t):=by rfl) (hK:X.K=G.K:=by rfl)
  (hs:starEach [a,.Name (tyN t) p2] X.env=(false,eval a X.env) :: starEach [.Name (tyN t) p2] X.env:=by rfl):PV G X (.Call (.Name "isinstance" p1) [a,.Name (tyN t) p2] [] pos) (eIs t ca) :=
 vR t ha hg hm hg2 hm2 (wJ t) hK (by cases t <;> decide) (by cases t <;> decide) hs rfl rfl
theorem oA (i:Nat) {x:Str} (ha:PVs G X [e] cs) (hK:X.K=G.K:=by rfl)
  (hN:X.N[i]?=some x:=by rfl) (hv:Vis X.env.scope x:=by first | exact Or.inl rfl | exact Or.inr (Or.inl rfl) | exact Or.inr (Or.inr rfl)) (hd:(x == ("__debug__" : Str))=false:=by decide)
  (hcd:(x == ("__classdict__" : Str))=false:=by decide) (hfew:((backTo cpos (starEach [e] X.env)).all (fun x=>!x.1) && (backToKw cpos (keywordEach [] X.env)).all (fun x=>x.1.isSome)
   && decide ([e].length+([]:List Keyword).length+(if ([]:List Keyword).isEmpty then 0 else 1) < 30))=true:=by rfl)
  (hline:(apos.endLine == cpos.line)=true:=by rfl) (hs:starEach [e] X.env=(false,eval e X.env) :: starEach [] X.env:=by rfl) :
  PSV G X (.Expr (.Call (.Attribute (.Name x p1) "append" apos) [e] [] cpos) pos) (sX (gM i [] bH cs)) :=
 nV i PySem.F.plainAttrs_list PySem.F.slot_list_append PySem.F.type_list_append iQ mQ (fun H v t F l z r h=>jT r h) ha hK hN hv hd hcd rfl hfew hline hs rfl rfl
end
structure FnAt (P:Program) (w:World) (K:Zi) (mg:Zh) (base:Heap) (k:Nat) (x:Str) (ps:List Str) (G:Gx) (g:Fn):Prop where
 ex:∃ f fd,FnOk P w K mg base CX0 k f fd ps (spF G g)/\mg x=some (.ref f)/\PySem.W.keepIn K (.ref f)=true/\Binds K fd ps []
section
variable {G:Gx} {X:Cx} {e:Expr} {es:List Expr} {cs:Exs} {pos p:Pos} {k k':Nat} {x:Str} {ps:List Str} {g:Fn}
theorem tV (F:FnAt X.prog X.w X.K X.mg X.base k x ps G g) (hr:Room k' X.A) (ha:PVs G X (e :: es) cs) (hk:k<=k':=by decide) (hg:Gl X x:=by rfl) (hdb:(x == ("__debug__" : Str))=false:=by decide)
  (he:starEach (e :: es) X.env=(false,eval e X.env) :: starEach es X.env:=by rfl) (hpl:(backTo pos (starEach es X.env)).any (·.1)=false:=by rfl) :
  PV G X (.Call (.Name x p) (e :: es) [] pos) (aS g cs):=by
 obtain ⟨f,fd,h1,h2,h3,h4⟩:=F.ex
 exact qM h1 (hr.mono hk) hg h2 h3 h4 ha hdb he hpl
end
section
variable {G:Gx} {P:Program} {w:World} {K:Zi} {mg:Zh} {base:Heap}
theorem vk {x:Str} {st:Stmt} {f:Addr} {fd:FuncData} {N ps:List Str} {k np nn:Nat} {c:Sx} (F:Fun K x x st f fd) (hm:mg x=some (.ref f)) (S:FnScope N ps (ai st)) (hp:ps.length=np) (hn:N.length=nn)
  (hbd:∀ (kV doc pm:Value) (an:Option Addr) (cdv ct:Value) (us:Zf),us.length=ps.length->bindArgs (PySem.W.fnOf x x (bb st) (aO st) (ai st) .none kV doc pm an cdv ct) ⟨us,[]⟩=pure (ps.zip us))
  (hb:∀ (cdv:Value) (A:Around) (outer:List PySem.Env) (s:Shared) (H:Hp) (E:XK),Room k (A.deeper (envOfC x (ai st) s.heap.objs.size f cdv))->cB G (fm CX0 P w K mg base N x (ai st) f cdv A outer s H E).nox (aO st) c) :
  FnAt P w K mg base (k+1) x ps G (fn np nn c) :=
 ⟨f,fd,fnV F S hp hn hb,hm,F.kp,F.binds hbd⟩
end
end VS
end
section
namespace L2
open PySem PySem.Spec PyProof.Rows
noncomputable def Its (x:Str):It:=⟨fun i _=>i < x.cps.size,fun i H v H'=>H'=H/\∃ c,x.cps[i]?=some c/\v=.str ⟨#[c]⟩,fun i _=>x.cps.size<=i⟩
theorem iN {P:Program} {w:World} {K:Zi} {tg:Expr} (x:Str) (t:Tok) (it:Addr) (ty:String) (hn:["enumerate", "zip", "dict_itemiterator", "dict_reverseitemiterator", "odict_iterator", "itertools.zip_longest", "itertools.pairwise"].contains ty=false)
  (W:∀ A:Around,A.handled=none->Walks P w A it [it] [it] x.cps.size (fun i v=>∃ c u,x.cps[i]?=some c/\v=.str ⟨#[c]⟩ u) (fun i h=>h.IsStrIter it ty x t i)) (hend:∀ (A:Around),A.handled=none->∀ (i:Nat) (s:Shared) (Q:Ze->Shared->Prop) (E:Zt),s.heap.IsStrIter it ty x t i->x.cps[i]?=none->(∀ h',Heap.ExtBut it s.heap h'->Q none { s with heap:=h' })->wpAny (model P w) A (pyNext (.ref it)) Q E s)
  (hself:∀ (A:Around) (i:Nat) (s:Shared) (Q:Zt) (E:Zt),s.heap.IsStrIter it ty x t i->Q (.ref it) s->wpAny (model P w) A (pyIter (.ref it)) Q E s) :
  Turn P w K tg (Its x) [it] it (fun i h=>h.IsStrIter it ty x t i) where
 mem:=by simp
 obj:=fun i h st b hb=>by
  rw [zO.mp hb]
  obtain ⟨o,e,c,d⟩:=st
  exact ⟨o,e,fun v z=>by rw [d] at z;cases z⟩
 keep:=fun i h h' st k=>let ⟨o,e,r⟩:=st;⟨o,k it (by simp) o e,r⟩
 item:=by
  intro X hP hw hK hc i pins s σ H E I hf st hg
  subst hP hw hK
  obtain ⟨f0,f1,f2,f3,f4,f5⟩:=hf it (by simp)
  refine (W X.A (I.ok.hd hc)).item i s _ _ hg st fun v h' tk hv st' kk=>?_
  obtain ⟨c,u,hc',rfl⟩:=hv
  have I1:Inv X pins σ H { s with heap:=h',toks:=tk }:=I.turned (fun b o hb e=>kk b o (by simpa using hb) e) f0 f1 f3 f4 f5
  obtain ⟨o,e,c1,d⟩:=id st'
  exact ⟨_,rfl,lD (s:={ s with heap:=h',toks:=tk }) e c1 d hn ⟨.str ⟨#[c]⟩,H,I1,⟨u,rfl⟩,⟨rfl,c,hc',rfl⟩,st',fun b hb=>(hf b hb).1⟩⟩
 done:=by
  intro X hP hw hK hc i pins s σ H E I hf st hg
  subst hP hw hK
  obtain ⟨f0,f1,f2,f3,f4,f5⟩:=hf it (by simp)
  have hx:x.cps.size<=i:=hg
  exact hend X.A (I.ok.hd hc) i s _ _ st (by simp [hx]) fun h' eb=>⟨rfl,I.turned (t':=s.toks) (fun b o hb e=>eb b o hb e) f0 f1 f3 f4 f5⟩
 self:=fun A i s Q E st h=>hself A i s Q E st h
theorem nG {P:Program} {w:World} {K:Zi} {tg:Expr} (x:Str) (t:Tok) (it:Addr):Turn P w K tg (Its x) [it] it (fun i h=>h.IsStrIter it (strIterType x) x t i):=by
 cases ha:x.cps.all (· < 128)
 ·have e:strIterType x = "str_iterator" := by simp [strIterType,ha]
  rw [e]
  exact iN x t it "str_iterator" rfl (fun A hA=>Walks.strWide hA it x t) (fun A hA i s Q E st hx q=>wpAny_pyNext_wide_end hA st hx q) fun A i s Q E st q=>wpAny_pyIter_striter_wide st q
 ·have e:strIterType x = "str_ascii_iterator" := by simp [strIterType,ha]
  rw [e]
  exact iN x t it "str_ascii_iterator" rfl (fun A hA=>Walks.strAscii hA it x t) (fun A hA i s Q E st hx q=>wpAny_pyNext_ascii_end hA st hx q) fun A i s Q E st q=>wpAny_pyIter_striter_ascii st q
section
variable {X:Cx} {tg l a b c:Expr} {tl ta tb tc:TE} {pos:Pos}
noncomputable def wM (K:Zi) (tl:TE):TI:=fun σ H R=>tl σ H fun x H1=>(∃ a,x=.ref a/\(∃ xs,SqL K H1 a xs)/\R (Itl K a) H1)\/(∃ a,x=.ref a/\(∃ xs,SqT K H1 a xs)/\R (Itt K a) H1)\/∃ z,x=.str z/\R (Its z) H1
theorem pE (hl:PE X l tl):PI X tg l (wM X.K tl):=by
 intro pins s σ H R I h
 refine thn (hl pins s σ H _ I h) fun v s1 ⟨x,H1,I1,r1,q1⟩=>?_
 have fp1:∀ b∈[s1.heap.objs.size],ip X pins H1 b:=fun b hb=>by
  rw [zO.mp hb]
  exact I1.fpOk (zm _) (I1.hok.fresh (zm _))
 rcases q1 with ⟨a,e,⟨xs,hq⟩,q⟩ | ⟨a,e,⟨xs,hq⟩,q⟩ | ⟨z,e,q⟩
 ·subst e
  cases r1
  obtain ⟨its,rv,p,hz⟩:=I1.list hq
  exact yB p.isList ⟨s1.heap.objs.size,[s1.heap.objs.size],_,_,H1,rfl,I1.kept (t':=s1.toks) fun b o e=>zr _ e,md a _,⟨_,za _ rfl,rfl,rfl⟩,fp1,q⟩
 ·subst e
  cases r1
  obtain ⟨its,rv,p,hz⟩:=I1.tuple hq
  exact wpAny_pyIter_tuple (show s1.heap.IsTuple a its.toArray from p) ⟨s1.heap.objs.size,[s1.heap.objs.size],_,_,H1,rfl,I1.kept (t':=s1.toks) fun b o e=>zr _ e,kj a _,⟨_,za _ rfl,rfl,rfl⟩,fp1,q⟩
 ·subst e
  obtain ⟨t,rfl⟩:=r1
  exact wpAny_pyIter_strU ⟨s1.heap.objs.size,[s1.heap.objs.size],_,_,H1,rfl,I1.kept (t':=s1.toks) fun b o e=>zr _ e,nG z t _,⟨_,za _ rfl,rfl,rfl⟩,fp1,q⟩
theorem i9 {s:Shared} {h':Heap} {o:Obj} (hk:∀ b x,b ∉ [s.heap.objs.size]->(s.heap.push o).get? b=some x->h'.get? b=some x) (b:Addr) (x:Obj) (e:s.heap.get? b=some x):h'.get? b=some x :=
 hk b x (fun hm=>yr _ (by have:=zo e;rw [zO.mp hm] at this;exact this)) (zr _ e)
theorem nC (hc:X.calm=true):cG X (.builtin "sum") (fun xs H Q=>∃ p,∃ ns:Zc,xs=[.ref p]/\SqL X.K H p (ns.map V.int)/\Q (.int ns.sum) H):=by
 intro pins s σ H xs us Q I rx h
 obtain ⟨p,ns,rfl,hq,q⟩:=h
 obtain ⟨u,rfl,ru⟩:=rx.one
 cases ru
 obtain ⟨its,rv,pl,hz⟩:=I.list hq
 have hl:p < s.heap.objs.size:=by obtain ⟨_,e,_⟩:=pl.isList;exact zo e
 refine call_sum_walkG (yB pl.isList ⟨s.heap.objs.size,[s.heap.objs.size,p],[s.heap.objs.size],its.toArray.size,_,_,fun i=>(ns[i]?).getD 0,rfl,Walks.list (A:=X.A.in1) (I.ok.hd hc) _ p (zQ hl) its.toArray,
  ⟨⟨_,za _ rfl,rfl,rfl⟩,pl.isList.push _⟩,fun b hb=>?_,fun i v hP=>?_,fun h' tk t' hk=>⟨.int ns.sum,H,I.kept (i9 hk),⟨t',?_⟩,q⟩⟩)
 ·rw [Heap.size_push]
  rcases zj.mp hb with rfl | hb
  ·exact Nat.lt_succ_self _
  ·rw [zO.mp hb];exact Nat.lt_succ_of_lt hl
 ·have hv:its[i]?=some v:=by simpa using hP
  cases e:ns[i]? with
  | none =>
   have:=rv.none_of (i:=i) (by rw [zS,e];rfl)
   rw [this] at hv;cases hv
  | some n =>
   obtain ⟨u,hu,ru⟩:=rv.get (i:=i) (x:=.int n) (by rw [zS,e];rfl)
   rw [hu] at hv;cases hv
   obtain ⟨t,rfl⟩:=ru
   exact ⟨t,by simp [e]⟩
 ·have hlen:its.toArray.size=ns.length:=by have:=rv.length;simp at this ⊢;exact Eq.symm this
  have:∀ k,k<=ns.length->preSum (fun i=>(ns[i]?).getD 0) k=(ns.take k).sum:=fun k=>by
   induction k with
   | zero=>intro _;simp [preSum]
   | succ k ih =>
    intro hk
    rw [List.take_succ,List.sum_append,preSum,ih (by exact Nat.le_of_succ_le hk)]
    cases e:ns[k]? <;> simp
  rw [hlen,this _ (zm _),List.take_length]
theorem nq (hc:X.calm=true):cG X (.builtin "all") (fun xs H Q=>∃ p,∃ bs:List Bool,xs=[.ref p]/\SqL X.K H p (bs.map V.bl)/\Q (.bl (bs.all id)) H):=by
 intro pins s σ H xs us Q I rx h
 obtain ⟨p,bs,rfl,hq,q⟩:=h
 obtain ⟨u,rfl,ru⟩:=rx.one
 cases ru
 obtain ⟨its,rv,pl,hz⟩:=I.list hq
 have hl:p < s.heap.objs.size:=by obtain ⟨_,e,_⟩:=pl.isList;exact zo e
 refine call_all_walk (yB pl.isList ⟨s.heap.objs.size,[s.heap.objs.size,p],[s.heap.objs.size],its.toArray.size,_,_,fun i=>(bs[i]?).getD true,rfl,Walks.list (A:=X.A.in1) (I.ok.hd hc) _ p (zQ hl) its.toArray,
  ⟨⟨_,za _ rfl,rfl,rfl⟩,pl.isList.push _⟩,fun i v s' Q' E' hP hQ=>?_,fun h' tk hk=>⟨.bl (bs.all id),H,I.kept (i9 hk),?_,q⟩⟩)
 ·have hv:its[i]?=some v:=by simpa using hP
  cases e:bs[i]? with
  | none =>
   have:=rv.none_of (i:=i) (by rw [zS,e];rfl)
   rw [this] at hv;cases hv
  | some n =>
   obtain ⟨u,hu,ru⟩:=rv.get (i:=i) (x:=.bl n) (by rw [zS,e];rfl)
   rw [hu] at hv;cases hv
   cases ru
   simp only [e,Zo] at hQ
   exact z8 hQ
 ·have hlen:its.toArray.size=bs.length:=by have:=rv.length;simp at this ⊢;exact Eq.symm this
  rw [hlen,LSm.range_all]
  rfl
theorem gK (hc:X.calm=true):cG X (.builtin "any") (fun xs H Q=>∃ p,∃ bs:List Bool,xs=[.ref p]/\SqL X.K H p (bs.map V.bl)/\Q (.bl (bs.any id)) H):=by
 intro pins s σ H xs us Q I rx h
 obtain ⟨p,bs,rfl,hq,q⟩:=h
 obtain ⟨u,rfl,ru⟩:=rx.one
 cases ru
 obtain ⟨its,rv,pl,hz⟩:=I.list hq
 have hl:p < s.heap.objs.size:=by obtain ⟨_,e,_⟩:=pl.isList;exact zo e
 refine call_any_walk (yB pl.isList ⟨s.heap.objs.size,[s.heap.objs.size,p],[s.heap.objs.size],its.toArray.size,_,_,fun i=>(bs[i]?).getD false,rfl,Walks.list (A:=X.A.in1) (I.ok.hd hc) _ p (zQ hl) its.toArray,
  ⟨⟨_,za _ rfl,rfl,rfl⟩,pl.isList.push _⟩,fun i v s' Q' E' hP hQ=>?_,fun h' tk hk=>⟨.bl (bs.any id),H,I.kept (i9 hk),?_,q⟩⟩)
 ·have hv:its[i]?=some v:=by simpa using hP
  cases e:bs[i]? with
  | none =>
   have:=rv.none_of (i:=i) (by rw [zS,e];rfl)
   rw [this] at hv;cases hv
  | some n =>
   obtain ⟨u,hu,ru⟩:=rv.get (i:=i) (x:=.bl n) (by rw [zS,e];rfl)
   rw [hu] at hv;cases hv
   cases ru
   simp only [e,Zo] at hQ
   exact z8 hQ
 ·have hlen:its.toArray.size=bs.length:=by have:=rv.length;simp at this ⊢;exact Eq.symm this
  rw [hlen,LSm.range_any]
  rfl
theorem mB:OpR X (compareOp .Gt) (fun x y H Q=>∃ i j,x=.str i/\y=.str j/\Q (.bl (decide (j.cps.toList < i.cps.toList))) H):=by
 intro pins s σ H x y v u Q I rx ry h
 obtain ⟨i,j,rfl,rfl,q⟩:=h
 obtain ⟨t,rfl⟩:=rx
 obtain ⟨t',rfl⟩:=ry
 exact PySem.P.gt_str ⟨.bl _,H,I,rfl,q⟩
end
end L2
end
section
namespace VS
open PySem PySem.Spec PyProof.Rows L2
section
variable {G:Gx} {X:Cx} {a b c e tg:Expr} {es:List Expr} {ca cb cc:Ex} {cs:Exs} {pos p p1 p2 apos cpos:Pos} {k k':Nat}
theorem sO (H:Hp) (s:Tx) (ok:gA s):ItOk G (L2.Its (sx s)) (s.map fun c=>T.str [c]) [] H:=by
 have sz:(sx s).cps.size=s.length:=rfl
 refine ⟨fun H2 _ _=>⟨fun i t h=>?_,fun i h=>(by rw [zt] at h;show (sx s).cps.size<=i;lia)⟩,fun a h=>by simp at h⟩
 rw [zS] at h
 obtain ⟨c,hc,rfl⟩:=zv.mp h
 refine ⟨(by show i < (sx s).cps.size;have:=(zq.mp hc).1;lia),fun x H3 ⟨e1,c',hc',e2⟩=>?_⟩
 subst e1
 have:c'=c:=by
  have h1:(sx s).cps[i]?=some c:=by simp [sx,hc]
  rw [h1] at hc';exact (zU hc').symm
 subst this
 rw [e2]
 exact ⟨bf.refl _,[],.str [c'] ⟨(by show 1<=dh;decide),fun d hd=>by rw [zO.mp hd];exact ok.2 c' (y9 hc)⟩,fun a h=>by simp at h⟩
theorem pF (ha:PV G X a ca) (hK:X.K=G.K:=by rfl):PVI G X tg a (dM ca) :=
 PI.weak (pE ha) fun σ H R hq=>by
  obtain ⟨Φ,η,m,l,s,e,k⟩:=hq
  unfold dM at e
  obtain ⟨⟨mx,x⟩,ea,e1⟩:=zz.mp e
  refine ⟨Φ,η,mx,x,s,ea,fun v H' F e3 r3 f3=>?_⟩
  cases x with
  | lst ts =>
   cases e1
   obtain ⟨a',vs,Fs,rfl,rfl,ha',ra⟩:=r3.lst_inv
   exact .inl ⟨a',rfl,⟨vs,SqL.of ha'⟩,k _ H' _ e3 (qI X.K ha' ra) f3.c⟩
  | tup ts =>
   cases e1
   obtain ⟨a',vs,Fs,rfl,rfl,ha',ra⟩:=r3.tup_inv
   exact .inr (.inl ⟨a',rfl,⟨vs,SqT.of ha'⟩,k _ H' _ e3 (tD X.K ha' ra) f3.c⟩)
  | str z =>
   cases e1
   obtain ⟨rfl,ok⟩:=r3.str_inv
   exact .inr (.inr ⟨_,rfl,k _ H' [] e3 (sO H' z ok) fun a h=>by simp at h⟩)
  | _=>cases e1
theorem lC {H:Hp}:∀ {vs:List V} {l:Z2} {Fs:Zj} {ss:Zc},RpL G H vs l Fs->iG l=some ss->vs=ss.map V.int
 | _,_,_,_,.nil,e=>by cases e;rfl
 | _,_,_,_,.cons (t:=t) r q,e=>by
  cases t with
  | int s =>
   simp only [iG] at e
   obtain ⟨ss',e1,e2⟩:=zv.mp e
   subst e2
   rw [lC q e1,r.int_inv]
   rfl
  | _=>cases e
theorem jR {H:Hp}:∀ {vs:List V} {l:Z2} {Fs:Zj} {ss:List Bool},RpL G H vs l Fs->fY l=some ss->vs=ss.map V.bl
 | _,_,_,_,.nil,e=>by cases e;rfl
 | _,_,_,_,.cons (t:=t) r q,e=>by
  cases t with
  | bl s =>
   simp only [fY] at e
   obtain ⟨ss',e1,e2⟩:=zv.mp e
   subst e2
   rw [jR q e1,r.bl_inv]
   rfl
  | _=>cases e
theorem uU:eD G (fun xs H Q=>∃ p,∃ ns:Zc,xs=[.ref p]/\SqL G.K H p (ns.map V.int)/\Q (.int ns.sum) H) kK:=by
 intro Φ η H0 H l vs Fs m t Q A e k
 unfold kK at e
 split at e
 ·rename_i mx x
  obtain ⟨is,e1,e2⟩:=zz.mp e
  cases e2
  obtain ⟨v,F,rfl,rfl,rx⟩:=(show RpL G H vs [.lst x] Fs from A.rp).one
  obtain ⟨a,ys,Gs,rfl,rfl,ha,ra⟩:=rx.lst_inv
  exact ⟨a,is,rfl,by rw [← lC ra e1];exact SqL.of ha,bp k (.int _)⟩
 ·cases e
theorem sI:eD G (fun xs H Q=>∃ p,∃ bs:List Bool,xs=[.ref p]/\SqL G.K H p (bs.map V.bl)/\Q (.bl (bs.all id)) H) fZ:=by
 intro Φ η H0 H l vs Fs m t Q A e k
 unfold fZ at e
 split at e
 ·rename_i mx x
  obtain ⟨is,e1,e2⟩:=zz.mp e
  cases e2
  obtain ⟨v,F,rfl,rfl,rx⟩:=(show RpL G H vs [.lst x] Fs from A.rp).one
  obtain ⟨a,ys,Gs,rfl,rfl,ha,ra⟩:=rx.lst_inv
  exact ⟨a,is,rfl,by rw [← jR ra e1];exact SqL.of ha,bp k (.bl _)⟩
 ·cases e
theorem t9:bootBuiltins ("sum" : Str)=some (.builtin "sum"):=by decide +kernel
theorem tU:bootBuiltins ("all" : Str)=some (.builtin "all"):=by decide +kernel
theorem w_sum (hm:X.mg "sum" = none) (ha:PVs G X [e] cs) (hg:Gl X "sum" := by rfl) (hK:X.K=G.K:=by rfl) (hc:X.calm=true:=by rfl) (he:starEach [e] X.env=(false,eval e X.env) :: starEach [] X.env:=by rfl):PV G X (.Call (.Name "sum" p) [e] [] pos) (eN kK cs) :=
 eF (nC hc) (hK ▸ uU) hg hm t9 ha (he:=he) (hpl:=rfl)
theorem w_all (hm:X.mg "all" = none) (ha:PVs G X [e] cs) (hg:Gl X "all" := by rfl) (hK:X.K=G.K:=by rfl) (hc:X.calm=true:=by rfl) (he:starEach [e] X.env=(false,eval e X.env) :: starEach [] X.env:=by rfl):PV G X (.Call (.Name "all" p) [e] [] pos) (eN fZ cs) :=
 eF (nq hc) (hK ▸ sI) hg hm tU ha (he:=he) (hpl:=rfl)
noncomputable def rGt:R2:=fun x y H Q=>rI0 (fun i j=>.bl (decide (j < i))) x y H Q\/(∃ i j,x=.str i/\y=.str j/\Q (.bl (decide (j.cps.toList < i.cps.toList))) H)
theorem ti (s t:Tx):decide ((sx s).cps.toList < (sx t).cps.toList)=ltx s t:=by rw [jd];exact decide_eq_decide.mpr (by simp [sx])
theorem wy:dZ G rGt oGt:=by
 intro Φ η H0 H x y u w F1 F2 m t Q tw e k
 obtain ⟨m1,x⟩:=x
 obtain ⟨m2,y⟩:=y
 obtain ⟨same,r1,r2,f1,f2,nd⟩:=tw
 unfold oGt oLt at e
 split at e
 ·rename_i e1 e2
  cases e1
  cases e2
  cases e
  exact .inl ⟨_,_,r1.int_inv,r2.int_inv,bp k (.bl _)⟩
 ·rename_i s _ s' e1 e2
  cases e1
  cases e2
  cases e
  refine .inr ⟨_,_,r1.str_inv.1,r2.str_inv.1,?_⟩
  rw [ti]
  exact bp k (.bl _)
 ·cases e
theorem m8:Tells oGt:=fun x y m t e=>jJ y x m t e
theorem vU (ha:PV G X a ca) (hb:PV G X b cb):PVT G X (.Compare a [.Gt] [b] pos) (e2 oGt ca cb):=fE (r:=rGt) (vw.or mB) wy m8 ha hb (fk _)
theorem oX {r r':R2} {f g:Val->Val->Z1} (ok:dZ G r f) (ok':dZ G r' g) {σ:L2.St} {H:Hp} {Q:VK} (h:tE G (gg f g ca cb cc) σ H Q):nQ r r' (tE G ca) (tE G cb) (tE G cc) σ H Q:=by
 obtain ⟨Φ,η,m,t,s,e,k⟩:=h
 unfold gg at e
 obtain ⟨x,ea,e⟩:=zz.mp e
 obtain ⟨y,eb,e⟩:=zz.mp e
 obtain ⟨⟨mz,z⟩,ez,e⟩:=zz.mp e
 refine pf s ea eb fun u w H2 F1 F2 tw=>ok Φ η H H2 x y u w F1 F2 mz z _ tw ez fun v H3 F e1 r1 f1=>?_
 cases z with
 | bl q =>
  refine ⟨q,r1.bl_inv,?_⟩
  cases q with
  | false =>
   cases e
   rw [if_neg zh]
   exact k _ H3 [] (tw.same.trans e1) (.bl false) Fp.nil
  | true =>
   rw [zi rfl]
   obtain ⟨z2,ec,e⟩:=zz.mp (show (cc η).bind (fun z=>g y z)=some (m,t) from e)
   have sm:=tw.same.trans e1
   refine ⟨Φ,η,z2.1,z2.2,s.same sm,ec,fun w2 H4 F4 e4 r4 f4=>?_⟩
   refine ok' Φ η H H4 y z2 w w2 F2 F4 m t Q ⟨sm.trans e4,(tw.r2.same e1).same e4,r4,tw.f2,f4.back sm,fun hx hy=>?_⟩ e fun v' H5 F5 e5 r5 f5=>k v' H5 F5 ((sm.trans e4).trans e5) r5 f5
   have f2:=tw.f2
   rw [hx] at f2
   rw [hy] at f4
   refine ya.mpr ⟨f2.1,f4.1,fun a ha b hb z=>?_⟩
   subst z
   exact Mut.ne_none ((tw.r2.same e1).dom a ha) (f4.2 a hb)
 | _=>cases e
theorem il (ha:PV G X a ca) (hb:PV G X b cb) (hc:PV G X c cc) (hm:lastMarks [.LtE,.LtE] [b,c]=false:=by with_unfolding_all rfl):PV G X (.Compare a [.LtE,.LtE] [b,c] pos) (gg oLe oLe ca cb cc) :=
 PE.weak (nZ kI kI ha hb hc hm) fun σ H Q h=>oX oZ oZ h
theorem rh {x:Str} {i:Int} (h:∃ t,X.mg x=some (.int i t)) (hg:Gl X x:=by rfl) (hd:(x == ("__debug__" : Str))=false:=by decide):PV G X (.Name x pos) (eC (.int i)):=by
 obtain ⟨t,ht⟩:=h
 exact qi (v:=.int i) hg ht ⟨t,rfl⟩ (fun H=>.int i) hd
theorem RpL.rep {H:Hp} {vs:List V} {ts:Z2} {Fs:Zj} (r:RpL G H vs ts Fs) (hF:Fs.flatten=[]):∀ n:Nat,∃ Gs,RpL G H (List.replicate n vs).flatten (List.replicate n ts).flatten Gs/\Gs.flatten=[]
 | 0=>⟨[],.nil,rfl⟩
 | n+1=>by
  obtain ⟨Gs,h1,h2⟩:=RpL.rep r hF n
  exact ⟨Fs++Gs,by simpa [zH] using r.append h1,by rw [z6,hF,h2];rfl⟩
theorem qX:dZ G vv fO:=by
 intro Φ η H0 H x y u w F1 F2 m t Q tw e k
 obtain ⟨m1,x⟩:=x
 obtain ⟨m2,y⟩:=y
 obtain ⟨same,r1,r2,f1,f2,nd⟩:=tw
 unfold fO at e
 split at e
 ·rename_i ts j e1 e2
  cases e1
  cases e2
  split at e
  ·rename_i hc
   cases e
   obtain ⟨a,vs,Fs,rfl,rfl,ha,ra⟩:=r1.lst_inv
   obtain ⟨Gs,h1,h2⟩:=ra.rep (ra.imm hc.1) j.toNat
   have b1:=hc.2.2.1
   have b2:=hc.2.2.2
   unfold B62 at b1 b2
   refine ⟨a,j,vs,rfl,r2.int_inv,ha,by lia,by lia,by rw [ra.len.1];exact hc.2.1,fun q hq=>?_⟩
   refine k _ _ (q :: Gs.flatten) (dc hq) (.lst bB (h1.same (dc hq))) ?_
   rw [h2]
   exact ⟨by simp,fun b hb=>by rw [zO.mp hb];exact same.free hq⟩
  ·cases e
 ·cases e
theorem uZ (ha:PV G X a ca) (hb:PV G X b cb):PV G X (.BinOp a .Mult b pos) (e2 fO ca cb):=gT sW qX ha hb
end
end VS
end
section
namespace L2
open PySem PySem.Spec PyProof.Rows
section
variable {X:Cx}
theorem mq {α:Type} (l:List α) (n:Nat):∀ acc:List α,List.foldl (fun x1 x2=>x1++x2) acc.toArray (List.replicate n l.toArray)=(acc++(List.replicate n l).flatten).toArray:=by
 induction n with
 | zero=>intro acc;simp
 | succ n ih =>
  intro acc
  rw [zH,yP]
  have e:acc.toArray++l.toArray=(acc++l).toArray:=by simp
  rw [e,ih (acc++l),zH,zc,yH]
theorem qc:OpR X (binaryOp .Mult) (fun x y H Q=>∃ (l:Zd) (k:Int),x=.str ⟨l.toArray⟩/\y=.int k/\-(2 ^ 62)<=k/\k < 2 ^ 62/\l.length * k.toNat<=sizeLine/\Q (.str ⟨(List.replicate k.toNat l).flatten.toArray⟩) H):=by
 intro pins s σ H x y v u Q I rx ry h
 obtain ⟨l,k,rfl,rfl,h1,h2,hz,q⟩:=h
 obtain ⟨t,rfl⟩:=rx
 obtain ⟨t',rfl⟩:=ry
 have hlen:(⟨l.toArray⟩:Str).length=l.length:=rfl
 refine PySem.P.mul_str ?_ ?_ ?_ ?_
 ·rw [Bool.or_eq_false_iff]
  exact ⟨decide_eq_false (by lia),decide_eq_false (by lia)⟩
 ·intro h3 _ hh
  rw [hlen] at hh
  have hk:0 < k:=by lia
  have:(l.length:Int) * k<=16777216:=by
   have hz':l.length * k.toNat<=16777216:=hz
   have:((l.length * k.toNat:Nat):Int)<=16777216:=by lia
   rw [Int.natCast_mul] at this
   rwa [Int.toNat_of_nonneg (by lia)] at this
  have h5:(l.length:Int) * k<=2 ^ 63 - 1:=by lia
  have:=(Int.le_ediv_iff_mul_le hk).mpr h5
  lia
 ·intro _ _
  rw [hlen]
  exact decide_eq_false (by show ¬ _ > _;exact Zv.mpr hz)
 ·by_cases h3:k < 1
  ·rw [zi h3]
   have e:k.toNat=0:=by lia
   rw [e] at q
   exact ⟨by decide,⟨.str ⟨#[]⟩,H,I.tok _,⟨_,rfl⟩,q⟩⟩
  ·rw [if_neg h3]
   split
   ·rename_i hc
    have e:(List.replicate k.toNat l).flatten=l:=by
     rw [yO] at hc
     rcases hc with hc | hc
     ·have:k=1:=by simpa using hc
      subst this
      show (List.replicate 1 l).flatten=l
      simp
     ·have:l=[]:=by
       rw [hlen] at hc
       exact List.eq_nil_of_length_eq_zero (by simpa using hc)
      subst this
      simp
    rw [e] at q
    exact ⟨.str ⟨l.toArray⟩,H,I,⟨t,rfl⟩,q⟩
   ·have e:=mq l k.toNat []
    rw [yh] at e
    rw [show (⟨l.toArray⟩:Str).cps=l.toArray from rfl,e]
    refine ⟨?_,⟨.str ⟨(List.replicate k.toNat l).flatten.toArray⟩,H,I.tok _,⟨s.toks,rfl⟩,q⟩⟩
    have hl:=len_rep l k.toNat
    show (⟨(List.replicate k.toNat l).flatten.toArray⟩:Str).length<=sizeLine
    show ((List.replicate k.toNat l).flatten.toArray).size<=sizeLine
    rw [zd,hl,Nat.mul_comm]
    exact hz
end
end L2
namespace VS
open PySem PySem.Spec PyProof.Rows L2
section
variable {G:Gx} {X:Cx} {a b c e tg:Expr} {es:List Expr} {ca cb cc:Ex} {cs:Exs} {pos p p1 p2 apos cpos:Pos} {k k':Nat}
theorem pC:dZ G (fun x y H Q=>∃ (l:Zd) (k:Int),x=.str ⟨l.toArray⟩/\y=.int k/\-(2 ^ 62)<=k/\k < 2 ^ 62/\l.length * k.toNat<=sizeLine/\Q (.str ⟨(List.replicate k.toNat l).flatten.toArray⟩) H) eE:=by
 intro Φ η H0 H x y u w F1 F2 m t Q tw e k
 obtain ⟨m1,x⟩:=x
 obtain ⟨m2,y⟩:=y
 obtain ⟨same,r1,r2,f1,f2,nd⟩:=tw
 unfold eE at e
 split at e
 ·rename_i _ ts _ j e1 e2
  cases e1
  cases e2
  split at e
  ·rename_i hc
   cases e
   have b1:=hc.2.1
   have b2:=hc.2.2
   unfold B62 at b1 b2
   refine ⟨ts,j,r1.str_inv.1,r2.int_inv,by lia,by lia,hc.1,bp k (.str _ ⟨?_,fun c hc'=>?_⟩)⟩
   ·rw [len_rep,Nat.mul_comm];exact hc.1
   ·obtain ⟨x,hx,hcx⟩:=List.mem_flatten.mp hc'
    rw [(yf.mp hx).2] at hcx
    exact r1.str_inv.2.2 c hcx
  ·cases e
 ·cases e
theorem uT (ha:PV G X a ca) (hb:PV G X b cb):PV G X (.BinOp a .Mult b pos) (e2 eE ca cb):=gT qc pC ha hb
theorem tf:PV G X (.Dict [] [] pos) (px 0 []):=PE.weak nM fun σ H Q hq=>by
 obtain ⟨Φ,η,m,t,s,e,k⟩:=hq
 cases (show some (Md.fr,T.dct 0 [])=some (m,t) from e)
 intro q hq
 have:Rp G (upd H q (.dK [])) (.ref q) (.dct 0 ((([]:List Key).map vc).zip [])) (q :: ([]:Zj).flatten):=.dct bB rfl .nil
 exact k _ _ [q] (dc hq) this ⟨by simp,fun b hb=>by rw [zO.mp hb];exact hq⟩
end
end VS
end
section
open PySem PyProof.Rows
namespace TS
variable {prog:Program} {w:World} {A:Around} {E:Zt} {s:Shared}
variable {κ:SortKind} {G:Keyed->Prop} {r:Keyed->Keyed->Bool}
end TS
end
section
open PySem PyProof.Rows
namespace TS
variable {prog:Program} {w:World} {A:Around} {E:Zt} {s:Shared} {κ:SortKind} {G:Keyed->Prop} {r:Keyed->Keyed->Bool}
end TS
end
section
open PySem PyProof.Rows
namespace TS
variable {prog:Program} {w:World} {A:Around} {E:Zt} {s:Shared} {κ:SortKind} {G:Keyed->Prop} {r:Keyed->Keyed->Bool}
end TS
end
section
open PySem PyProof.Rows
namespace TS
variable {prog:Program} {w:World} {A:Around} {E:Zt} {s:Shared} {κ:SortKind} {G:Keyed->Prop} {r:Keyed->Keyed->Bool}
end TS
end
section
open PySem PyProof.Rows
namespace TS
variable {prog:Program} {w:World} {A:Around} {E:Zt} {s:Shared} {κ:SortKind} {G:Keyed->Prop} {r:Keyed->Keyed->Bool}
end TS
end
section
open PySem PyProof.Rows
namespace TS
variable {prog:Program} {w:World} {A:Around} {E:Zt} {s:Shared} {κ:SortKind} {G:Keyed->Prop} {r:Keyed->Keyed->Bool}
end TS
end
section
open PySem PyProof.Rows
namespace TS
variable {prog:Program} {w:World} {A:Around} {E:Zt} {s:Shared} {κ:SortKind} {G:Keyed->Prop} {r:Keyed->Keyed->Bool}
end TS
end
section
open PySem PyProof.Rows
namespace TS
variable {prog:Program} {w:World} {A:Around} {E:Zt} {s:Shared} {κ:SortKind} {G:Keyed->Prop} {r:Keyed->Keyed->Bool}
end TS
end
section
open PySem PyProof.Rows
namespace TS
variable {prog:Program} {w:World} {A:Around} {E:Zt} {s:Shared} {κ:SortKind} {G:Keyed->Prop} {r:Keyed->Keyed->Bool}
end TS
end
section
open PySem PyProof.Rows
namespace TS
variable {prog:Program} {w:World} {A:Around} {E:Zt} {s:Shared} {G:Keyed->Prop} {r:Keyed->Keyed->Bool}
end TS
end
section
namespace L2
open PySem PySem.Spec PyProof.Rows TS
end L2
end
section
namespace VS
theorem kW {tg:Tg} {body:Sx} (P:Nat->Env->Prop):∀ (l:Z2) (k:Nat) (η:Env),(∀ i t η,l[i]?=some t->P (k+i) η->∃ η1 η2,tg t η=some η1/\(body η1=some (.nx η2)\/body η1=some (.ct η2))/\P (k+i+1) η2)->P k η →
  ∃ η',forL tg body l η=some (.nx η')/\P (k+l.length) η'
 | [],k,η,_,h=>⟨η,rfl,h⟩
 | t :: r,k,η,st,h=>by
  obtain ⟨η1,η2,h1,h2,h3⟩:=st 0 t η rfl h
  obtain ⟨η',e,q⟩:=kW P r (k+1) η2 (fun i t η hi hp=>by
   have:=st (i+1) t η (by simpa using hi) (by rw [show k+(i+1)=k+1+i by lia];exact hp)
   rw [show k+(i+1)=k+1+i by lia] at this
   exact this) h3
  refine ⟨η',?_,by rw [zZ,show k+(r.length+1)=k+1+r.length by lia];exact q⟩
  rcases h2 with h2 | h2 <;> simp [forL,h1,h2,e]
theorem iE {α:Type} {tg:Tg} {body:Sx} (g:α->T) (p:α->Bool) (v:Val) (I:Env->Prop):∀ (l:List α),(∀ a∈l,∀ η,I η->∃ η1 η2,tg (g a) η=some η1/\I η2/\body η1=some (if p a then .rt v η2 else .nx η2))->∀ η,I η →
  ∃ η',I η'/\forL tg body (l.map g) η=some (if l.any p then .rt v η' else .nx η')
 | [],_,η,h=>⟨η,h,rfl⟩
 | a :: l,st,η,h=>by
  obtain ⟨η1,η2,h1,h2,h3⟩:=st a zx η h
  cases hp:p a with
  | true =>
   rw [hp] at h3
   exact ⟨η2,h2,by simp [forL,h1,h3,hp]⟩
  | false =>
   rw [hp] at h3
   obtain ⟨η',q1,q2⟩:=iE g p v I l (fun b hb=>st b (zy _ hb)) η2 h2
   exact ⟨η',q1,by simp [forL,h1,h3,hp,q2]⟩
theorem ri (lo:Int) (n i:Nat):(rng lo n)[i]?=if i < n then some (T.int (lo+i)) else none:=by
 unfold rng
 by_cases h:i < n
 ·simp [h]
 ·simp [h]
mutual
theorem gW:∀ (n:Nat) (t:T),eqD n t=true->eqT t t=true
 | n,.non,_=>by simp
 | n,.bl _,_=>by simp
 | n,.int _,_=>by simp
 | n,.str _,_=>by simp
 | n+1,.tup l,h=>by
  simp only [eqD,zF] at h
  simp only [eqT]
  exact gq n l h
 | n+1,.lst l,h=>by
  simp only [eqD,zF] at h
  simp only [eqT]
  exact gq n l h
 | 0,.tup _,h=>by simp at h
 | 0,.lst _,h=>by simp at h
 | _,.scr _,h=>by simp at h
 | _,.dct _ _,h=>by simp at h
 | _,.obj _ _,h=>by simp at h
theorem gq:∀ (n:Nat) (l:Z2),(∀ t∈l,eqD n t=true)->kh l l=true
 | _,[],_=>rfl
 | n,t :: r,h=>by
  simp only [kh,zb]
  exact ⟨gW n t (h t zx),gq n r fun u hu=>h u (zy _ hu)⟩
end
theorem oK {m n:Md} {t:T} (h:eqD 60 t=true):oEq (m,t) (n,t)=some (.fr,.bl true):=by
 show (if eqD 60 t/\eqD 60 t then some (Md.fr,T.bl (eqT t t)) else none)=_
 rw [zi ⟨h,h⟩,gW 60 t h]
theorem oz {m n:Md} {t:T} (h:eqD 60 t=true):oNe (m,t) (n,t)=some (.fr,.bl false):=by
 show (if eqD 60 t/\eqD 60 t then some (Md.fr,T.bl (!eqT t t)) else none)=_
 rw [zi ⟨h,h⟩,gW 60 t h]
 rfl
theorem uu {α:Type} (l:List α) (a b:Option Int):(cut l a b).length<=l.length:=by
 unfold cut
 simp only [yE,ym]
 omega
theorem qs {α:Type} (l:List α) (a b:Option Int) {x:α} (h:x∈cut l a b):x∈l:=by
 unfold cut at h
 exact List.mem_of_mem_drop (List.mem_of_mem_take h)
theorem i8 {tg:Tg} {it:Its} {body:Sx} {η:Env} {m:Md} {l:Z2} (e:it η=some (m,l)) (h:okF m=true):iu tg it body η=forL tg body l η:=by
 unfold iu
 rw [e]
 exact zi h
theorem bq {g:Fn} {as:Exs} {η:Env} {xs:Z0} {t:T} (h:as η=some xs) (h2:g (trees xs)=some (.fr,t)):aS g as η=some (.fr,t):=by
 simp only [aS,h,zw,h2]
theorem bQ {i:Nat} {e:Ex} {η:Env} {m:Md} {t:T} (h:e η=some (m,t)) (hm:m ≠ .bo) (hi:i < η.length):bh i e η=some (.nx (η.set i (some (.pu t)))):=by
 simp only [bh,h,zw]
 cases m with
 | bo=>exact absurd rfl hm
 | _=>simp [hi]
theorem pW {i:Nat} {e:Ex} {η:Env} {t:T} (h:e η=some (.fr,t)) (hm:rV t=true) (hi:i < η.length):fI i e η=some (.nx (η.set i (some (.ow t)))):=by
 simp only [fI,h,zw,cellOf,hm,if_true,zi hi]
theorem nN {m n:Md} {s t:Z2}:aY (m,.lst s) (n,.lst t)=mkL (m.join n) (s++t):=rfl
theorem nX {a b:Sx} {η η':Env} (h:a η=some (.nx η')):aA a b η=b η':=by simp only [aA,h,zw]
theorem dv {a b:Sx} {η η':Env} {v:Val} (h:a η=some (.rt v η')):aA a b η=some (.rt v η'):=by simp only [aA,h,zw]
theorem oM {tg:Tg} {it:Its} {body:Sx} {η:Env} {m:Md} {l:Z2} {o:Out} (e:it η=some (m,l)) (h:okF m=true) (h2:forL tg body l η=some o):iu tg it body η=some o:=(i8 e h).trans h2
theorem jZ {np nn:Nat} {body:Sx} {ts:Z2} {v:Val} (η:Env) {η':Env} (hl:ts.length=np) (he:ts.map (fun t=>some (Cell.pu t))++List.replicate (nn - np) none=η) (h:body η=some (.rt v η')):fn np nn body ts=some v:=by
 unfold fn
 rw [zi hl,he,h]
 rfl
end VS
end
section
namespace VS
open PySem PySem.Spec PyProof.Rows L2
noncomputable def txB (s:Tx):Bool:=decide (s.length<=dh) && s.all (fun c=>decide (c < 1114112))
theorem ju {s:Tx} (h:txB s=true):gA s:=by
 unfold txB at h
 simp at h
 exact h
section
variable {G:Gx} {X:Cx} {e:Expr} {cs:Exs} {p pos:Pos}
theorem nI {H:Hp}:∀ {ss:List Tx},(∀ s∈ss,gA s)->RpL G H (ss.map fun s=>V.str (sx s)) (ss.map T.str) (ss.map fun _=>[])
 | [],_=>.nil
 | s :: ss,h=>.cons (.str s (h s (zx ..))) (nI fun x hx=>h x (zy _ hx))
theorem m6 {α β:Type}:∀ (l:List α),(l.map fun _=>([]:List β)).flatten=[]
 | []=>rfl
 | _ :: l=>by simp
end
end VS
end
section
namespace VS
open PySem PySem.Builtin.Str PySem.StrLaws
noncomputable def au (c:Nat):Tx->List Tx
 | []=>[[]]
 | a :: r=>if a=c then [] :: au c r else match au c r with
  | []=>[[a]]
  | h :: t=>(a :: h) :: t
theorem bZ (c:Nat):∀ s:Tx,∃ h t,au c s=h :: t
 | []=>⟨[],[],rfl⟩
 | a :: r=>by
  unfold au
  split
  ·exact ⟨_,_,rfl⟩
  ·obtain ⟨h,t,e⟩:=bZ c r
   rw [e]
   exact ⟨_,_,rfl⟩
theorem subAt_one (s:Tx) (c i:Nat):subAt ⟨s.toArray⟩ ⟨#[c]⟩ i=decide (s[i]?=some c):=by
 unfold subAt
 show ((s.toArray.extract i (i+1)) == #[c])=_
 rw [List.extract_toArray,List.extract_eq_drop_take]
 have e:i+1 - i=1:=by exact Nat.add_sub_cancel_left _ _
 rw [e]
 by_cases h:i < s.length
 ·rw [yI h,zX h]
  simp [List.take]
  rfl
 ·rw [List.drop_eq_nil_of_le (by exact yn h),yU (by exact yn h)]
  simp
theorem g7 (s:Tx) (c:Nat):∀ (m a:Nat) (found:Array Nat) (free:Nat),free<=a->found.size<=a->a+m<=s.length+1 →
  (forIn (List.range' a m) (found,free) (occBody ⟨s.toArray⟩ ⟨#[c]⟩ s.length (s.length+1))).run.fst.toList=found.toList++(List.range' a m).filter fun i=>decide (s[i]?=some c)
 | 0,a,found,free,_,_,_=>by simp
 | m+1,a,found,free,h1,h2,h3=>by
  rw [List.range'_succ,List.forIn_cons]
  unfold occBody
  by_cases hc:s[a]?=some c
  ·have ha:a < s.length:=by
    rcases Nat.lt_or_ge a s.length with h | h
    ·exact h
    ·rw [yU h] at hc;cases hc
   rw [zi ⟨⟨⟨by show found.size < s.length+1;lia,h1⟩,by show a+1<=s.length;exact Nat.succ_le_of_lt ha⟩,by rw [subAt_one];exact decide_eq_true hc⟩]
   have:=g7 s c m (a+1) (found.push a) (a+1) (zm _) (by rw [Array.size_push];exact Zm h2) (by lia)
   rw [Zl,zi (by simpa using hc)]
   refine Eq.trans this ?_
   simp
  ·rw [if_neg (fun h=>hc (by have:=h.2;rw [subAt_one] at this;exact of_decide_eq_true this))]
   have:=g7 s c m (a+1) found free (by exact yC h1) (by exact yC h2) (by lia)
   rw [Zl,if_neg (by simpa using hc)]
   exact this
theorem lH (s:Tx) (c:Nat):occurrences ⟨s.toArray⟩ ⟨#[c]⟩ 0 s.length (s.length+1)=(List.range' 0 (s.length+1)).filter fun i=>decide (s[i]?=some c):=by
 rw [occ_eq]
 have:=g7 s c (s.length+1) 0 #[] 0 (zm _) (zm _) (by lia)
 simpa using this
theorem eY (s:Tx) (c:Nat):∀ (m a st:Nat),a+m=s.length->st<=a →
  (((st :: ((List.range' a (m+1)).filter fun i=>decide (s[i]?=some c)).map (·+1)).zip (((List.range' a (m+1)).filter fun i=>decide (s[i]?=some c))++[s.length])).map fun (i,j)=>(s.drop i).take (j - i)) =
   (match au c (s.drop a) with | []=>[] | h :: t=>(((s.drop st).take (a - st))++h) :: t)
 | 0,a,st,h1,h2=>by
  have ha:s[a]?=none:=yU (by lia)
  have hd:s.drop a=[]:=List.drop_eq_nil_of_le (by lia)
  have hn:s.length=a:=by lia
  rw [hd]
  simp [au,ha,hn]
 | m+1,a,st,h1,h2=>by
  have ha:a < s.length:=by lia
  have ih:=eY s c m (a+1)
  rw [List.range'_succ,Zl,yI ha]
  by_cases hc:s[a]=c
  ·rw [zi (by simpa [zX ha] using hc)]
   have i1:=ih (a+1) (by lia) (zm _)
   obtain ⟨h,t,e⟩:=bZ c (s.drop (a+1))
   rw [e] at i1
   simp only [au,hc,if_true,e,zR,List.cons_append,List.zip_cons_cons,yz]
   rw [i1]
   simp
  ·rw [if_neg (by simpa [zX ha] using hc)]
   have i1:=ih st (by lia) (by exact yC h2)
   obtain ⟨h,t,e⟩:=bZ c (s.drop (a+1))
   rw [e] at i1
   simp only [au,hc,if_false,e]
   rw [i1]
   have:(s.drop st).take (a+1 - st)=(s.drop st).take (a - st)++[s[a]]:=by
    have e2:a+1 - st=(a - st)+1:=by lia
    rw [e2,List.take_succ,List.getElem?_drop]
    have e3:st+(a - st)=a:=by exact Zr h2
    rw [e3,zX ha]
    rfl
   rw [this]
   simp
theorem oh (s:Tx) (c:Nat) (hc:c < 256):Txt.split (sx s) (sx [c])=(au c s).map sx:=by
 have k1:Builtin.Str.strKind (sx [c])=1:=by unfold Builtin.Str.strKind sx;simp [hc]
 have k2:1<=Builtin.Str.strKind (sx s):=by
  unfold Builtin.Str.strKind
  split
  ·exact zm _
  ·split <;> exact Nat.le_add_left _ _
 have key:partsBetween (sx s) (occurrences (sx s) (sx [c]) 0 (sx s).length ((sx s).length+1)) (sx [c]).length=(au c s).map sx:=by
  have e1:(sx s).length=s.length:=rfl
  have e2:(sx [c]).length=1:=rfl
  have e3:occurrences (sx s) (sx [c]) 0 s.length (s.length+1)=_:=lH s c
  rw [e1,e2,e3]
  unfold partsBetween
  rw [e1]
  have p:=eY s c s.length 0 0 (by exact Nat.zero_add _) (zm _)
  obtain ⟨h,t,e⟩:=bZ c s
  rw [xZ,e] at p
  simp only [List.take_zero,Nat.sub_self,yh] at p
  rw [e,← p,yy]
  apply x9
  rintro ⟨i,j⟩ _
  show strSub (sx s) i j=sx ((s.drop i).take (j - i))
  unfold strSub sx
  simp [List.extract_eq_drop_take]
 unfold Txt.split
 by_cases h1:(decide ((sx s).length < (sx [c]).length) || decide (Builtin.Str.strKind (sx s) < Builtin.Str.strKind (sx [c])))=true
 ·rw [zi h1]
  have h2:(sx s).length < (sx [c]).length:=by
   rw [k1] at h1
   simp at h1
   rcases h1 with h | h
   ·exact h
   ·lia
  have h3:s=[]:=by
   have e1:(sx s).length=s.length:=rfl
   have e2:(sx [c]).length=1:=rfl
   exact List.eq_nil_of_length_eq_zero (by lia)
  subst h3
  rfl
 ·rw [if_neg h1]
  by_cases h2:(occurrences (sx s) (sx [c]) 0 (sx s).length ((sx s).length+1)).isEmpty=true
  ·rw [zi h2]
   rw [List.isEmpty_iff.mp h2] at key
   rw [← key]
   simp [partsBetween,strSub,sx,Str.length]
  ·rw [if_neg h2]
   exact key
end VS
end
section
namespace VS
open PySem PySem.Spec PyProof.Rows L2
theorem cC (c:Nat):∀ s:Tx,(au c s).length<=s.length+1
 | []=>by simp [au]
 | a :: r=>by
  have ih:=cC c r
  obtain ⟨h,t,e⟩:=bZ c r
  unfold au
  rw [e] at ih ⊢
  split <;> simp at ih ⊢ <;> omega
theorem bY (c:Nat):∀ (s:Tx),∀ p∈au c s,p.length<=s.length/\∀ x∈p,x∈s
 | [],p,h=>by simp [au] at h;subst h;simp
 | a :: r,p,h=>by
  have ih:=bY c r
  obtain ⟨h',t,e⟩:=bZ c r
  unfold au at h
  rw [e] at h ih
  split at h
  ·rcases zj.mp h with rfl | h
   ·simp
   ·obtain ⟨i1,i2⟩:=ih p h
    exact ⟨by rw [zZ];lia,fun x hx=>zy _ (i2 x hx)⟩
  ·rcases zj.mp h with rfl | h
   ·obtain ⟨i1,i2⟩:=ih h' (zx ..)
    refine ⟨by rw [zZ,zZ];lia,fun x hx=>?_⟩
    rcases zj.mp hx with rfl | hx
    ·exact zx ..
    ·exact zy _ (i2 x hx)
   ·obtain ⟨i1,i2⟩:=ih p (zy _ h)
    exact ⟨by rw [zZ];lia,fun x hx=>zy _ (i2 x hx)⟩
section
variable {G:Gx} {X:Cx} {a e:Expr} {ca:Ex} {cs:Exs}
noncomputable def nO:V->List V->Hp->VK->Prop:=fun x vs H Q=>∃ s c,x=.str (sx s)/\vs=[.str (sx [c])]/\c < 256/\s.length < dh/\∀ l,H l=none->Q (.ref l) (upd H l (.lst (((au c s).map sx).map V.str)))
theorem jG:∀ (l:List (Str×Tok)),aW ((l.map (·.1)).map V.str) (strValues l)
 | []=>.nil
 | p :: l=>.cons ⟨p.2,rfl⟩ (jG l)
theorem oN:MtR X "str.split" nO:=by
 intro pins s σ H x xs v us Q I rx rxs h
 obtain ⟨z,c,rfl,rfl,hc,hl,q⟩:=h
 obtain ⟨t,rfl⟩:=rx
 obtain ⟨u,rfl,ru⟩:=vals1 rxs
 obtain ⟨t',rfl⟩:=ru
 have e1:(sx z).length=z.length:=rfl
 have e2:((sx [c]).length == 0)=false:=rfl
 have hL:sizeLine=16777216:=yV
 have hL':dh=16777216:=rfl
 have sp:=oh z c hc
 have fin:∀ (l:List (Str×Tok)) (tk:Nat),l.map (·.1)=Txt.split (sx z) (sx [c])->EP X pins σ Q (.ref s.heap.objs.size) { s with heap:=s.heap.push { cls:=.type "list",data:=.seq (strValues l).toArray },toks:=tk }:=fun l tk hlm=>by
  refine ⟨.ref s.heap.objs.size,_,I.laid (t':=tk) (fun b o e=>zr _ e) (zm _) (show bN X.prog X.w _ _ _ (.lst (((au c z).map sx).map V.str)) from ⟨?_,strValues l,0,?_,za _ rfl⟩),rfl,q _ (I.hok.fresh (zm _))⟩
  ·have:=cC c z
   rw [zt,zt]
   lia
  ·rw [← sp,← hlm]
   exact jG l
 cases h1:(decide ((sx z).length < (sx [c]).length) || decide (Builtin.Str.strKind (sx z) < Builtin.Str.strKind (sx [c])))
 ·cases hf:(Builtin.Str.occurrences (sx z) (sx [c]) 0 (sx z).length ((sx z).length+1)).isEmpty
  ·have e4:Txt.split (sx z) (sx [c])=Builtin.Str.partsBetween (sx z) (Builtin.Str.occurrences (sx z) (sx [c]) 0 (sx z).length ((sx z).length+1)) (sx [c]).length:=by
    unfold Txt.split
    rw [h1,hf]
    simp
   have hn:(Builtin.Str.partsBetween (sx z) (Builtin.Str.occurrences (sx z) (sx [c]) 0 (sx z).length ((sx z).length+1)) (sx [c]).length).length<=sizeLine:=by
    rw [← e4,sp,zt]
    have:=cC c z
    lia
   refine x6 F.slot_str_split (yY _ _ _) F.entry_str_split (F.args_str_split_2 _ _) (meets_str_split_sep _ _ t t' h1 e2 hf (by lia) hn) ?_
   have:=fin (numbered s.toks (Builtin.Str.partsBetween (sx z) (Builtin.Str.occurrences (sx z) (sx [c]) 0 (sx z).length ((sx z).length+1)) (sx [c]).length)) (s.toks+(Builtin.Str.partsBetween (sx z) (Builtin.Str.occurrences (sx z) (sx [c]) 0 (sx z).length ((sx z).length+1)) (sx [c]).length).length) (by rw [numbered_texts,e4])
   rw [← strsFrom_eq] at this
   exact this
  ·exact x6 F.slot_str_split (yY _ _ _) F.entry_str_split (F.args_str_split_2 _ _) (meets_str_split_not_found _ _ t t' h1 e2 hf) (fin [(sx z,t)] s.toks (by
    unfold Txt.split
    rw [h1,hf]
    simp))
 ·exact x6 F.slot_str_split (yY _ _ _) F.entry_str_split (F.args_str_split_2 _ _) (meets_str_split_cannot_occur _ _ t t' h1) (fin [(sx z,t)] s.toks (by
   unfold Txt.split
   rw [h1]
   simp))
noncomputable def cz:Val->Z0->Z1
 | (_,.str s),[(_,.str [c])]=>if c < 256/\s.length < dh then some (.fr,.lst ((au c s).map .str)) else none
 | _,_=>none
theorem nK:ui G nO cz:=by
 intro Φ η H0 H1 H x v F l vs Fs m t Q s01 r f A e k
 unfold cz at e
 split at e
 ·rename_i mx s my c
  split at e
  ·rename_i hc
   cases e
   obtain ⟨w',F',rfl,rfl,rl⟩:=(show RpL G H vs [.str [c]] Fs from A.rp).one
   have ts:=r.str_inv.2
   refine ⟨s,c,r.str_inv.1,by rw [rl.str_inv.1],hc.1,hc.2,fun q hq=>?_⟩
   have sm:bf H (upd H q (.lst (((au c s).map sx).map V.str))):=dc hq
   have tk:∀ p∈au c s,gA p:=fun p hp=>⟨zk (bY c s p hp).1 ts.1,fun x hx=>ts.2 x ((bY c s p hp).2 x hx)⟩
   have r0:=nI (G:=G) (H:=upd H q (.lst (((au c s).map sx).map V.str))) tk
   have r:Rp G (upd H q (.lst (((au c s).map sx).map V.str))) (.ref q) (.lst ((au c s).map T.str)) (q :: ((au c s).map fun _=>[]).flatten):=.lst (by rw [bB,yy];rfl) r0
   rw [m6] at r
   exact k _ _ _ sm r (Fp.new (s01.free (A.same.free hq)) (by simp) Fp.nil)
  ·cases e
 ·cases e
theorem nP {apos cpos:Pos} (ho:PV G X a ca) (ha:PVs G X [e] cs) (hK:X.K=G.K:=by rfl)
  (hbase:attributeBase a "split" X.env (eval a X.env)=eval a X.env:=by rfl)
  (hfew:((backTo cpos (starEach [e] X.env)).all (fun x=>!x.1) && (backToKw cpos (keywordEach [] X.env)).all (fun x=>x.1.isSome)
   && decide ([e].length+([]:List Keyword).length+(if ([]:List Keyword).isEmpty then 0 else 1) < 30))=true:=by rfl)
  (hline:(apos.endLine == cpos.line)=true:=by rfl) (hs:starEach [e] X.env=(false,eval e X.env) :: starEach [] X.env:=by rfl) (hplain:(backTo cpos (starEach [] X.env)).any (·.1)=false:=by rfl) :
  PV G X (.Call (.Attribute a "split" apos) [e] [] cpos) (eM cz ca cs) :=
 rY yc PySem.F.slot_str_split PySem.F.type_str_split oN nK (fun H v x F l z r e=>jx r (by
  unfold cz at e
  split at e
  ·exact ⟨_,rfl⟩
  ·cases e)) ho ha hK hbase hfew hline hs hplain
end
end VS
end
section
namespace ST
open PySem PySem.Spec PyProof.Rows
variable {prog:Program} {w:World} {A:Around} {E:Zt} {s:Shared}
end ST
end
section
namespace ST
open PySem PySem.Spec PyProof.Rows
variable {prog:Program} {w:World} {A:Around} {E:Zt} {s:Shared}
end ST
end
section
namespace ST
open PySem PySem.Spec PyProof.Rows
variable {prog:Program} {w:World} {A:Around} {E:Zt} {s:Shared}
end ST
end
section
namespace L2
open PySem PySem.Spec PyProof.Rows TS
end L2
namespace VS
open PySem PySem.Spec PyProof.Rows L2
section
variable {G:Gx}
variable {X:Cx} {e:Expr} {es:List Expr} {i:Nat} {way:List Stp} {pos pos' p1 apos cpos:Pos} {c:Ex} {cs:Exs} {b:Expr} {k:Nat}
@[simp] noncomputable def xQ (i:Nat) (way:List Stp) (f:T->Z0->Option (T×Val)) (as:Exs) (η:VS.Env):Option (Val×VS.Env):=match η[i]? with
 | some (some (.ow t))=>(keys way η).bind fun ks=>(as η).bind fun xs=>(pm (fun x=>f x xs) ks t).map fun z=>(z.2,η.set i (some (.ow z.1)))
 | _=>none
end
theorem uR {K:Zi} {H:Hp} {a:Addr} {ns:Zc} (hO:n5 H) (hS:SqL K H a (ns.map V.int)):gw K H a ns:=by
 rcases hS with h | h
 ·rcases h with h | h
  ·rcases hO a with z | ⟨o,xs,z⟩
   ·rw [z] at h;cases h
   ·rw [z] at h;cases h
  ·exact .inl h
 ·exact .inr h
theorem t7 {G:Gx} {g:Fn} {H:Hp} {a:Addr} {ns:Zc} {E:XK} (hg:g [.scr ns]=some (.fr,.bl true)) (hO:n5 H) (hS:SqL G.K H a (ns.map V.int)):spF G g [.ref a] H (fun v _=>v=.bl true) E :=
 ⟨[.scr ns],[[]],.fr,.bl true,.cons (.scr (uR hO hS)) .nil,hg,fun v H' F _ r _=>r.bl_inv⟩
noncomputable def gx0 (K:Zi):Gx:=⟨K,fun _=>(0,fun k=>⟨#[k]⟩)⟩
theorem oW {l:PySem.W.OpenLaw} {q:Program} {loose:List Str} {XP:(Zh)->Heap->Prop} {d:DefRec} {K:Params->Zi} {g:Fn} {x:Str} {k:Nat} (hn:l.most=some 63) (hdf:d.params.defaults=[]) (hr:Room k callerA)
  (hg:∀ ns:Zc,g [.scr ns]=some (.fr,.bl true))
  (F:∀ (w:World) (mg:Zh) (fa:Addr) (h:Heap),(K w.params).In h->h.Ns mainGlobals mg->mg d.name=some (.ref fa) →
   ∃ fd:FuncData,(∀ (s:Shared) (u:Value),BindsTo s fd ⟨[u],[]⟩ [(x,u)])/\∀ base:Heap,(K w.params).In base->base.Ns mainGlobals mg->FnOk l.prog w (K w.params) mg base CX0 k fa fd [x] (spF (gx0 (K w.params)) g)) :
  PySem.W.WalkO q loose XP (fun w h=>(K w.params).In h) l.row.toRowW d [] (fun f vs=>PySem.call f vs) :=
 L2.qL (n:=63) (k:=k) (x:=x) (CX:=fun _=>CX0) (sp:=fun w=>spF (gx0 (K w.params)) g) hn (by decide) hdf hr (fun _ _ h=>h) F (fun w H a ns _ hO hS=>t7 (G:=gx0 (K w.params)) (hg ns) hO hS) fun _ _ _ _ _ z=>z
end VS
end
section
namespace L2
open PySem PySem.Spec PyProof.Rows
end L2
namespace VS
open PySem PySem.Spec PyProof.Rows L2
section
variable {G:Gx} {X:Cx} {a b c e tg:Expr} {es:List Expr} {ca cb cc ce ck:Ex} {cs:Exs} {pos p p1 p2 apos cpos pos':Pos} {k k' kr:Nat}
@[simp] noncomputable def w4:Z0->Z1
 | [(m,.lst l)]=>mkL m l
 | [(m,.tup l)]=>mkL m l
 | [(_,.str s)]=>mkL .fr (s.map fun c=>.str [c])
 | _=>none
end
end VS
end
section
open PySem PyProof.Rows
namespace TS
variable {prog:Program} {w:World} {A:Around} {E:Zt} {s:Shared}
end TS
end
section
namespace ST
open PySem PySem.Spec PyProof.Rows
variable {prog:Program} {w:World} {A:Around} {E:Zt} {s:Shared}
end ST
end
section
namespace L2
open PySem PySem.Spec PyProof.Rows TS
end L2
end
section
namespace VS
open PySem PySem.Spec PyProof.Rows L2 TS
section
variable {G:Gx} {X:Cx} {a b c e tg:Expr} {es:List Expr} {ca cb cc ce ck:Ex} {cs:Exs} {pos p p1 p2 apos cpos pos':Pos} {k k' kr:Nat}
noncomputable def ub:T->Bool
 | .tup l=>l.all mT
 | _=>false
@[simp] noncomputable def xy (x y:Val):Z1:=match y.2 with
 | .dct 1 l=>if ub x.2 then some (.fr,.bl (q9 l x.2).isSome) else none
 | .lst l=>if ub x.2 && l.all ub then some (.fr,.bl (l.any fun z=>eqT z x.2)) else none
 | _=>none
@[simp] noncomputable def wQ (x y:Val):Z1:=match xy x y with
 | some (_,.bl b)=>some (.fr,.bl (!b))
 | _=>none
end
end VS
namespace VS
open PySem PySem.Spec PyProof.Rows L2
end VS
end
section
namespace L2
open PySem PySem.Spec PyProof.Rows
end L2
namespace VS
open PySem PySem.Spec PyProof.Rows L2
end VS
end
section
namespace L2
open PySem PySem.Spec PyProof.Rows
noncomputable def tyN (x:V) (H:Hp):Prop:=∃ p kvs,x=.ref p/\H p=some (DN p kvs)
end L2
namespace VS
open PySem PySem.Spec PyProof.Rows L2
end VS
end
section
namespace L2
open PySem PySem.Spec PyProof.Rows
end L2
namespace VS
open PySem PySem.Spec PyProof.Rows L2
end VS
end
section
open PySem PyProof.Rows
namespace TS
variable {prog:Program} {w:World} {A:Around} {E:Zt} {s:Shared} {G:Keyed->Prop} {r:Keyed->Keyed->Bool}
end TS
end
section
open PySem PyProof.Rows
namespace TS
variable {prog:Program} {w:World} {A:Around} {E:Zt} {s:Shared}
end TS
end
section
namespace L2
open PySem PySem.Spec PyProof.Rows TS
end L2
end
section
namespace VS
open PySem PySem.Spec PyProof.Rows L2 TS
end VS
end
section
namespace L2
open PySem PySem.Spec PyProof.Rows
end L2
namespace VS
open PySem PySem.Spec PyProof.Rows L2
section
variable {G:Gx} {X:Cx} {e b:Expr} {cs:Exs} {cb:Ex} {pos p p1 p2 kp apos cpos:Pos} {k k' kr:Nat} {x:Str} {ps:List Str} {g:Fn}
theorem uY {ce:Ex} (h:PV G X e ce) (hsw:swapsWith e none pos.line X.env=pure false):PSV G X (.Expr e pos) (sX (xP ce)) :=
 PS.weak (je h hsw) fun D σ H hq=>by
  obtain ⟨Φ,η,out,s,e,k⟩:=hq
  unfold sX xP at e
  obtain ⟨⟨v,η'⟩,e1,e2⟩:=zv.mp e
  obtain ⟨⟨m,t⟩,e3,e4⟩:=zv.mp e1
  cases e4
  cases e2
  exact ⟨Φ,η,m,t,s,e3,fun v H' F e1 r1 f1=>k Φ σ H' (s.same e1) (Frm.same e1)⟩
@[simp] noncomputable def xO (i:Nat) (c:Ex) (as:Exs) (η:VS.Env):Option (Val×VS.Env):=match η[i]? with
 | some (some (.ow (.lst l)))=>(c η).bind fun kv=>(int? kv.2).bind fun n=>(ixP l.length n).bind fun j=>(l[j]?).bind fun x=>(as η).bind fun xs=>(bH x xs).map fun z=>(z.2,η.set i (some (.ow (.lst (l.set j z.1)))))
 | _=>none
end
section
variable {G:Gx} {X:Cx} {a b e:Expr} {ca ck ce:Ex} {pos pos' p1:Pos} {kr:Nat}
theorem tY {j pos'} (ha:PV G X a ca):PVT G X (.Compare a [.Is] [.Constant .none j pos'] pos) (nj ca) :=
 PT.weak (nk (uF ha)) fun σ H Q h=>rW h (fun η m r e=>by
  unfold nj at e
  obtain ⟨x,_,e⟩:=zz.mp e
  cases e
  exact ⟨_,rfl⟩) fun Q hq=>by
   obtain ⟨Φ,η,m,r,s,e,q⟩:=hq
   unfold nj at e
   obtain ⟨⟨n,x⟩,ea,e⟩:=zz.mp e
   cases e
   refine ⟨Φ,η,n,x,s,ea,fun v H' F e1 r1 f1=>?_⟩
   show Q (.bl (decide (v=.non))) H'
   rw [lu r1]
   exact q _ H' _ e1 (.bl _) Fp.nil
theorem qT {j pos'} (ha:PV G X a ca):PVT G X (.Compare a [.IsNot] [.Constant .none j pos'] pos) (jB ca) :=
 PT.weak (nk (qJ ha)) fun σ H Q h=>rW h (fun η m r e=>by
  unfold jB at e
  obtain ⟨x,_,e⟩:=zz.mp e
  cases e
  exact ⟨_,rfl⟩) fun Q hq=>by
   obtain ⟨Φ,η,m,r,s,e,q⟩:=hq
   unfold jB at e
   obtain ⟨⟨n,x⟩,ea,e⟩:=zz.mp e
   cases e
   refine ⟨Φ,η,n,x,s,ea,fun v H' F e1 r1 f1=>?_⟩
   show Q (.bl (!decide (v=.non))) H'
   rw [lu r1]
   exact q _ H' _ e1 (.bl _) Fp.nil
end
end VS
end
section
namespace DP
open PySem PySem.Spec PyProof.Rows
variable {prog:Program} {w:World} {A:Around} {E:Zt}
end DP
end
section
namespace DP
open PySem PySem.Spec PyProof.Rows L2
variable {prog:Program} {w:World} {A:Around} {E:Zt}
end DP
end
section
namespace DP
open PySem PySem.Spec PyProof.Rows L2
variable {prog:Program} {w:World} {A:Around} {E:Zt} {s:Shared}
end DP
end
section
namespace L2
open PySem PySem.Spec PyProof.Rows
end L2
end
section
namespace VS
open PySem PySem.Spec PyProof.Rows L2
section
variable {G:Gx} {X:Cx} {e:Expr} {cs:Exs} {p pos:Pos}
@[simp] noncomputable def fP:Z0->Z1
 | [(_,.int i)]=>some (.fr,.int i)
 | [(_,.bl b)]=>some (.fr,.int (if b then 1 else 0))
 | _=>none
theorem ql:eD G (fun xs H Q=>(∃ i,xs=[.int i]/\Q (.int i) H)\/∃ k,xs=[.bl k]/\Q (.int (if k then 1 else 0)) H) fP:=by
 intro Φ η H0 H l vs Fs m t Q A e k
 unfold fP at e
 split at e
 ·rename_i mx i
  cases e
  obtain ⟨v,F,rfl,rfl,r⟩:=(show RpL G H vs [.int i] Fs from A.rp).one
  exact .inl ⟨i,by rw [r.int_inv],bp k (.int _)⟩
 ·rename_i mx b
  cases e
  obtain ⟨v,F,rfl,rfl,r⟩:=(show RpL G H vs [.bl b] Fs from A.rp).one
  cases r
  exact .inr ⟨b,rfl,bp k (.int _)⟩
 ·cases e
theorem uh:bootBuiltins ("int" : Str)=some (.type "int"):=by decide +kernel
theorem uk (hm:X.mg "int" = none) (ha:PVs G X [e] cs) (hg:Gl X "int" := by rfl) (hc:X.calm=true:=by rfl) (he:starEach [e] X.env=(false,eval e X.env) :: starEach [] X.env:=by rfl):PV G X (.Call (.Name "int" p) [e] [] pos) (eN fP cs) :=
 lV mE ql hg hm uh ha (he:=he) (hpl:=rfl)
end
end VS
end
section
namespace L2
open PySem PySem.Spec PyProof.Rows
end L2
namespace VS
open PySem PySem.Spec PyProof.Rows L2
noncomputable def sca:T->Bool
 | .non=>true
 | .bl _=>true
 | .int _=>true
 | .str _=>true
 | _=>false
end VS
end
section
namespace L2
open PySem PySem.Spec PyProof.Rows
noncomputable def pick {α:Type} (l:List α) (is:Zd):List α:=is.filterMap (l[·]?)
noncomputable def wZ {α:Type} (l:List α) (lo hi st:Option Int):List α:=pick l (sliceRange (sliceBounds lo hi st l.length).1 (sliceBounds lo hi st l.length).2.1 (sliceBounds lo hi st l.length).2.2)
end L2
namespace VS
open PySem PySem.Spec PyProof.Rows L2
section
variable {G:Gx} {X:Cx} {a:Expr} {ca:Ex} {pos:Pos}
noncomputable def sl3 (x:Val) (l h c:Option Int):Z1:=match x with
 | (_,.lst ts)=>if ts.all sca/\c ≠ some 0 then some (.fr,.lst (wZ ts l h c)) else none
 | _=>none
end
end VS
end
section
namespace L2
open PySem PySem.Spec PyProof.Rows
end L2
namespace VS
open PySem PySem.Spec PyProof.Rows L2
end VS
end
section
namespace ST
open PySem PySem.Spec PyProof.Rows
variable {prog:Program} {w:World} {A:Around} {E:Zt} {s:Shared}
end ST
namespace L2
open PySem PySem.Spec PyProof.Rows TS
end L2
namespace VS
open PySem PySem.Spec PyProof.Rows L2
end VS
end
section
namespace L2
theorem ka {α:Type} {n:Nat} {us:List α} (hl:us.length=n+1):∃ a t,us=a :: t/\t.length=n:=by
 obtain ⟨a,t,e⟩:=List.exists_cons_of_length_eq_add_one hl
 subst e
 exact ⟨a,t,rfl,Nat.succ.inj hl⟩
theorem fV {α:Type} {us:List α} (hl:us.length=1):∃ a,us=[a]:=List.length_eq_one_iff.mp hl
theorem rn {α:Type} {us:List α} (hl:us.length=2):∃ a b,us=[a,b]:=by
 obtain ⟨a,t,rfl,ht⟩:=ka hl
 obtain ⟨b,rfl⟩:=fV ht
 exact ⟨a,b,rfl⟩
theorem xH {α:Type} {us:List α} (hl:us.length=3):∃ a b c,us=[a,b,c]:=by
 obtain ⟨a,t,rfl,ht⟩:=ka hl
 obtain ⟨b,c,rfl⟩:=rn ht
 exact ⟨a,b,c,rfl⟩
theorem wV {α:Type} {us:List α} (hl:us.length=4):∃ a b c d,us=[a,b,c,d]:=by
 obtain ⟨a,t,rfl,ht⟩:=ka hl
 obtain ⟨b,c,d,rfl⟩:=xH ht
 exact ⟨a,b,c,d,rfl⟩
end L2
end
section
namespace ST
open PySem PySem.Spec PyProof.Rows
variable {prog:Program} {w:World} {A:Around} {E:Zt} {s:Shared}
end ST
namespace VS
end VS
namespace VS
open PySem PySem.Spec PyProof.Rows L2
theorem SR.any {G:Gx} {Φ:Fps} {η:VS.Env} {σ:L2.St} {H:Hp} {j:Nat} (s:SR G Φ η σ H) (hj:η[j]?=some none) (v:Option V):SR G Φ η (σ.set j v) H :=
 ⟨by rw [yg];exact s.len,fun i c h=>by
  obtain ⟨u,h1,h2⟩:=s.rp i c h
  have n:j ≠ i:=fun z=>by
   rw [z,h] at hj
   cases hj
  exact ⟨u,by rw [zA n];exact h1,h2⟩,s.nd,s.sep⟩
end VS
end
section
namespace XN
open PySem PySem.Spec PyProof.Rows L2
noncomputable def Fl (fl:Value) (g:Heap) (H:Hp) (e:Addr) (cls:Value) (dd:Option Addr) (h:Heap):Prop :=
 g.get? e=none/\H e=none/\∃ oe vs,h.get? e=some oe/\(oe.cls=cls/\oe.dict=dd)/\oe.data=.fields vs/\1 < vs.size ∧
  (vs[1]?=some .none\/∃ T oT ts,vs[1]?=some (.ref T)/\g.get? T=none/\H T=none/\T ≠ e/\h.get? T=some oT/\oT.data=.fields ts/\ts[3]?=some fl)
structure Mv (g:Heap) (H:Hp) (fs:Zg) (h h':Heap):Prop where
 keep:∀ b o,h.get? b=some o->g.get? b ≠ none\/H b ≠ none->b ∉ fs->h'.get? b=some o
 slot:∀ b o,h.get? b=some o->(∀ vs,o.data ≠ .fields vs)->∃ sl,h'.get? b=some { o with slots:=sl }
 there:∀ b o,h.get? b=some o->∃ o',h'.get? b=some o'
 sz:h.objs.size<=h'.objs.size
theorem Mv.refl {g:Heap} {H:Hp} {fs:Zg} {h:Heap}:Mv g H fs h h:=⟨fun _ _ e _ _=>e,fun _ o e _=>⟨o.slots,e⟩,fun _ o e=>⟨o,e⟩,zm _⟩
theorem Mv.trans {g:Heap} {H:Hp} {fs:Zg} {h h1 h2:Heap} (a:Mv g H fs h h1) (b:Mv g H fs h1 h2):Mv g H fs h h2 :=
 ⟨fun c o e k f=>b.keep c o (a.keep c o e k f) k f,fun c o e f=>by
  obtain ⟨sl,q⟩:=a.slot c o e f
  obtain ⟨sl2,q2⟩:=b.slot c _ q f
  exact ⟨sl2,q2⟩,fun c o e=>by
  obtain ⟨o1,q⟩:=a.there c o e
  exact b.there c o1 q,zk a.sz b.sz⟩
theorem Mv.frames {g:Heap} {H:Hp} {fs:Zg} {h h' base:Heap} {l:List Env} (m:Mv g H fs h h') (f:h.FunFrames base l):h'.FunFrames base l :=
 f.of_keeps fun b o e k=>by
  obtain ⟨sl,q⟩:=m.slot b o e k
  exact ⟨_,q,rfl⟩
theorem Mv.put {g:Heap} {H:Hp} {fs:Zg} {h:Heap} {a:Addr} {o:Obj} {vs:Array Value} (f:Array Value->Array Value) (ho:h.get? a=some o) (hd:o.data=.fields vs) (hn:g.get? a=none) (hH:H a=none):Mv g H fs h (h.update a (Obj.mapFields f)):=by
 have self:=Zu (Obj.mapFields f) ho (Zw (Obj.data_mapFields hd f))
 refine ⟨fun b o' e k _=>?_,fun b o' e k=>?_,fun b o' e=>?_,by rw [Heap.size_update];exact zm _⟩
 ·rw [zC _ _ fun z=>by
   subst z
   rcases k with k | k
   ·exact k hn
   ·exact k hH]
  exact e
 ·have ne:a ≠ b:=fun z=>by
   subst z
   rw [ho] at e
   cases e
   exact k vs hd
  exact ⟨o'.slots,by rw [zC _ _ ne];exact e⟩
 ·by_cases z:a=b
  ·subst z
   exact ⟨_,self⟩
  ·exact ⟨o',by rw [zC _ _ z];exact e⟩
theorem Mv.push {g:Heap} {H:Hp} {fs:Zg} {h:Heap} (o:Obj):Mv g H fs h (h.push o) :=
 ⟨fun b o' e _ _=>zr _ e,fun b o' e _=>⟨o'.slots,zr _ e⟩,fun b o' e=>⟨o',zr _ e⟩,by rw [Heap.size_push];exact Nat.le_succ _⟩
theorem Mv.slots {g:Heap} {H:Hp} {fs:Zg} {h h':Heap} (x:Heap.SlotsOnly fs h h'):Mv g H fs h h' :=
 ⟨fun b o e _ f=>(x.2.1 b f).trans e,fun b o e _=>x.2.2 b o e,fun b o e=>by
  obtain ⟨sl,q⟩:=x.2.2 b o e
  exact ⟨_,q⟩,by rw [x.1];exact zm _⟩
section
variable {M:Model} {A:Around} {E:Zt} {s:Shared} {base:Heap} {env:Env} {outer:List Env} {L e:Addr} {g:Heap} {H:Hp} {cls:Value} {dd:Option Addr}
noncomputable abbrev fso (l:List Env):Zg:=l.filterMap (·.frame)
theorem jD {head:Value} {hadNext:Bool} {Q:Unit->Shared->Prop} {oe:Obj} {vs:Array Value} (hfr:A.frames=some (env :: outer)) (hl:s.heap.FunFrames base (env :: outer)) (hf:env.frame=some L)
  (he:s.heap.get? e=some oe) (hc:oe.cls=cls/\oe.dict=dd) (hd:oe.data=.fields vs) (hsz:1 < vs.size) (hn:g.get? e=none) (hH:H e=none) (hsn:∀ b,s.heap.objs.size<=b->g.get? b=none) (hHn:∀ b,s.heap.objs.size<=b->H b=none)
  (h:∀ h',Mv g H (fso (env :: outer)) s.heap h'->Fl (rawInt L) g H e cls dd h'->Q () { s with heap:=h' }) :
  wpAny M A (do let a ← frameOf env;let pl ← entryPlaceOf L hadNext;let b ← EntryCells.newEntry head a .none (rawInt L) .none pl;setField (.ref e) 1 b) Q E s:=by
 refine zu (wpAny_frameOf_fun hfr hl hf fun h₁ hs=>zu (wpAny_entryPlaceOf fun pl hq=>?_))
 unfold EntryCells.newEntry newFields
 refine zu (wpAny_newObj_type ?_ (hq.sizeOk5 ..))
 have hne:e ∉ fso (env :: outer):=fun hm=>by
  obtain ⟨_,o,ho,hnf⟩:=hl.mem hm
  rw [he] at ho
  cases ho
  exact hnf vs hd
 have e1:h₁.get? e=some oe:=(hs.2.1 e hne).trans he
 have sz:h₁.objs.size=s.heap.objs.size:=hs.1
 generalize hT:({ cls:=.type "traceback",dict:=none,data:=.fields ([head,.ref L,.none,rawInt L,.none]++(if pl.isEmpty then List.replicate 6 Value.none else pl)).toArray }:Obj)=oT
 have e2:(h₁.push oT).get? e=some oe:=zr oT e1
 refine wpAny_setField e2 hd hsz (h _ ?_ ?_)
 ·exact ((Mv.slots hs).trans (Mv.push oT)).trans (Mv.put _ e2 hd hn hH)
 ·have hd3:=Obj.data_mapFields hd (·.setIfInBounds 1 (Value.ref h₁.objs.size))
  have ne:h₁.objs.size ≠ e:=Zs (zo e1)
  refine ⟨hn,hH,_,_,Zu _ e2 (Zw hd3),⟨(Obj.cls_mapFields _ _).trans hc.1,?_⟩,hd3,by simp [hsz],.inr ⟨h₁.objs.size,oT,([head,.ref L,.none,rawInt L,.none]++(if pl.isEmpty then List.replicate 6 Value.none else pl)).toArray,?_,hsn _ (by rw [sz];exact zm _),hHn _ (by rw [sz];exact zm _),ne,?_,by rw [← hT],?_⟩⟩
  ·rw [← hc.2]
   unfold Obj.mapFields
   split <;> rfl
  ·simp [hsz]
  ·rw [zC _ _ (yR ne)]
   exact za _ (by rw [← hT];rfl)
  ·simp
theorem iU {fl:Value} {Q:Unit->Shared->Prop} (hfr:A.frames=some (env :: outer)) (hl:s.heap.FunFrames base (env :: outer)) (hf:env.frame=some L) (hfl:fl=.none\/fl=rawInt L) (hsn:∀ b,s.heap.objs.size<=b->g.get? b=none) (hHn:∀ b,s.heap.objs.size<=b->H b=none)
  (F:Fl fl g H e cls dd s.heap) (h:∀ h',Mv g H (fso (env :: outer)) s.heap h'->Fl (rawInt L) g H e cls dd h'->Q () { s with heap:=h' }):wpAny M A (noteFrame (.ref e) env) Q E s:=by
 obtain ⟨hn,hH,oe,vs,he,hc,hd,hsz,ht⟩:=F
 unfold noteFrame
 simp only [hf]
 rcases ht with h1 | ⟨T,oT,ts,h1,hnT,hHT,hTe,hT,hdT,h3⟩
 ·refine zu (yW he hd h1 ?_)
  rw [if_neg (by decide)]
  exact jD hfr hl hf he hc hd hsz hn hH hsn hHn h
 ·refine zu (yW he hd h1 ?_)
  rw [zi (show (Value.ref T != Value.none)=true from by simp)]
  refine zu (yW hT hdT h3 ?_)
  rcases hfl with rfl | rfl
  ·rw [if_neg (show ¬ ((Value.none == rawInt L)=true) from by simp [rawInt])]
   refine zu (wpAny_setField hT hdT (Array.getElem?_eq_some_iff.mp h3).1 ?_)
   have m1:Mv g H (fso (env :: outer)) s.heap (s.heap.update T (Obj.mapFields (·.setIfInBounds 3 Value.none))):=Mv.put _ hT hdT hnT hHT
   have he':(s.heap.update T (Obj.mapFields (·.setIfInBounds 3 Value.none))).get? e=some oe:=by rw [zC _ _ hTe];exact he
   refine jD (s:={ s with heap:=s.heap.update T (Obj.mapFields (·.setIfInBounds 3 Value.none)) }) hfr (m1.frames hl) hf he' hc hd hsz hn hH ?_ ?_ fun h' m2 f2=>h h' (m1.trans m2) f2
   ·intro b hb;rw [Heap.size_update] at hb;exact hsn b hb
   ·intro b hb;rw [Heap.size_update] at hb;exact hHn b hb
  ·rw [zi (show (rawInt L == rawInt L)=true from by simp [rawInt])]
   exact zf (h s.heap Mv.refl ⟨hn,hH,oe,vs,he,hc,hd,hsz,.inr ⟨T,oT,ts,h1,hnT,hHT,hTe,hT,hdT,h3⟩⟩)
theorem d0 {fl:Value} {fs:Zg} {Q:Unit->Shared->Prop} (F:Fl fl g H e cls dd s.heap) (h:∀ h',Mv g H fs s.heap h'->Fl .none g H e cls dd h'->Q () { s with heap:=h' }):wpAny M A (setFlight (.ref e) none) Q E s:=by
 obtain ⟨hn,hH,oe,vs,he,hc,hd,hsz,ht⟩:=F
 unfold setFlight
 rcases ht with h1 | ⟨T,oT,ts,h1,hnT,hHT,hTe,hT,hdT,h3⟩
 ·refine zu (yW he hd h1 ?_)
  rw [if_neg (by decide)]
  exact zf (h s.heap Mv.refl ⟨hn,hH,oe,vs,he,hc,hd,hsz,.inl h1⟩)
 ·refine zu (yW he hd h1 ?_)
  rw [zi (show (Value.ref T != Value.none)=true from by simp)]
  have hd3:=Obj.data_mapFields hdT (·.setIfInBounds 3 (Option.elim none Value.none fun f=>rawInt f))
  have i3:=(Array.getElem?_eq_some_iff.mp h3).1
  refine wpAny_setField hT hdT i3 (h _ (Mv.put _ hT hdT hnT hHT) ⟨hn,hH,oe,vs,by rw [zC _ _ hTe];exact he,hc,hd,hsz,.inr ⟨T,_,_,h1,hnT,hHT,hTe,Zu _ hT (Zw hd3),hd3,by simp [i3]⟩⟩)
theorem m9 {Q:Unit->Shared->Prop} (hfr:A.frames=some (env :: outer)) (hl:s.heap.FunFrames base (env :: outer)) (hf:env.frame=some L) (hsn:∀ b,s.heap.objs.size<=b->g.get? b=none) (hHn:∀ b,s.heap.objs.size<=b->H b=none)
  (F:Fl .none g H e cls dd s.heap) (h:∀ h',Mv g H (fso (env :: outer)) s.heap h'->Fl .none g H e cls dd h'->Q () { s with heap:=h' }):wpAny M A (leaving env (.ref e)) Q E s:=by
 unfold leaving
 refine zu (iU hfr hl hf (.inl rfl) hsn hHn F fun h1 m1 f1=>d0 (s:={ s with heap:=h1 }) f1 fun h2 m2 f2=>h h2 (m1.trans m2) f2)
end
theorem Fl.mono {fl:Value} {g g':Heap} {H:Hp} {e:Addr} {cls:Value} {dd:Option Addr} {h:Heap} (F:Fl fl g H e cls dd h) (hm:∀ b o,g'.get? b=some o->∃ o',g.get? b=some o'):Fl fl g' H e cls dd h:=by
 have no:∀ b,g.get? b=none->g'.get? b=none:=fun b q=>by
  cases z:g'.get? b with
  | none=>rfl
  | some o =>
   obtain ⟨o',q'⟩:=hm b o z
   rw [q] at q'
   cases q'
 obtain ⟨hn,hH,oe,vs,he,hc,hd,hsz,ht⟩:=F
 refine ⟨no _ hn,hH,oe,vs,he,hc,hd,hsz,ht.imp id ?_⟩
 rintro ⟨T,oT,ts,h1,hnT,r⟩
 exact ⟨T,oT,ts,h1,no _ hnT,r⟩
theorem oP {P:Program} {w:World} {g:Heap} {H:Hp} {fs:Zg} {h h':Heap} (x:HOk P w H h) (m:Mv g H fs h h') (hf:∀ b∈fs,H b=none):HOk P w H h':=fun a o e =>
 (x a o e).stay (fun b u k q=>m.keep b u q (.inr (by
   rcases k with rfl | k
   ·rw [e];exact fun z=>nomatch z
   ·rw [k];exact fun z=>nomatch z)) fun z=>by
    have:=hf b z
    rcases k with rfl | k
    ·rw [this] at e;cases e
    ·rw [this] at k;cases k) (fun _ q=>q) fun _ _ q=>q
theorem vf {fs fs' ex:Zg} {H0 H:Hp} {g h0 h h' base:Heap} {outer:List Env} (u:Un fs ex H0 H h0 h) (m:Mv g H fs' h h') (hg:∀ b o,h0.get? b=some o->g.get? b ≠ none) (hsub:∀ b∈fs',b∈fs\/h0.objs.size<=b) (hfs:fs=fso outer) (fr:h.FunFrames base outer):Un fs ex H0 H h0 h' where
 keep:=fun b o e n f x=>m.keep b o (u.keep b o e n f x) (.inl (hg b o e)) fun z=>(hsub b z).elim f fun q=>absurd (zo e) (Zv.mpr q)
 slot:=fun b o e n f x=>by
  obtain ⟨sl,q⟩:=u.slot b o e n f x
  rw [hfs] at f
  obtain ⟨_,o2,q2,nf⟩:=fr.mem f
  rw [q] at q2
  cases q2
  obtain ⟨sl2,q3⟩:=m.slot b _ q nf
  exact ⟨sl2,q3⟩
 free:=u.free
 there:=fun b o e x=>by
  obtain ⟨o',q⟩:=u.there b o e x
  exact m.there b o' q
 tups:=u.tups
 frzs:=u.frzs
 tbls:=u.tbls
noncomputable def CXE (P:Program) (w:World) (base:Heap):CXT:=fun outer H s E e s'=>∃ a cls dd H',e=.ref a/\s'.os=s.os/\AllBare s'.gens/\Un (frs outer) [] H H' s.heap s'.heap/\HOk P w H' s'.heap/\s'.heap.FunFrames base outer/\Fl .none s.heap H' a cls dd s'.heap/\E cls dd H'
structure Dom (X:Cx) (pins:Zk) (g h:Heap):Prop where
 old:∀ b o,X.s₀.heap.get? b=some o->g.get? b ≠ none
 pin:∀ p∈X.pn++pins,g.get? p.1 ≠ none
 new:∀ b,h.objs.size<=b->g.get? b=none
noncomputable def XR (X:Cx) (σ:L2.St) (cls:Value) (dd:Option Addr) (H:Hp):Prop:=∀ pins s a g,Inv X pins σ H s->Dom X pins g s.heap->Fl .none g H a cls dd s.heap->X.xe (.ref a) s
theorem Dom.here {X:Cx} {pins:Zk} {σ:L2.St} {H:Hp} {s:Shared} {h':Heap} (I:Inv X pins σ H s) (hex:X.ex=[]) (ht:∀ b o,s.heap.get? b=some o->∃ o',h'.get? b=some o'):Dom X pins s.heap h':=by
 refine ⟨fun b o e z=>?_,fun p hp z=>?_,fun b hb=>?_⟩
 ·obtain ⟨o',q⟩:=I.base.there b o e (by rw [hex];exact fun z=>nomatch z)
  rw [z] at q
  cases q
 ·rw [(I.pin p hp).1] at z
  cases z
 ·cases z:s.heap.get? b with
  | none=>rfl
  | some o =>
   obtain ⟨o',q⟩:=ht b o z
   exact absurd (zo q) (Zv.mpr hb)
section
variable {P:Program} {w:World} {K:Zi} {mg:Zh} {base:Heap} {N:List Str} {qual:Str} {scope:Scope} {f:Addr} {cd:Value} {A:Around} {outer:List Env} {s0:Shared} {H0:Hp} {E:XK}
theorem vE {cls:Value} {dd:Option Addr} {H:Hp} {σ:L2.St} (hE:E cls dd H):XR (fm (CXE P w base) P w K mg base N qual scope f cd A outer s0 H0 E) σ cls dd H:=by
 intro pins s a g I dm F
 have stk:=I.stack
 have fr:=I.ok.frames
 have hok:=I.hok
 refine m9 (base:=base) (outer:=outer) (L:=s0.heap.objs.size) (g:=g) (H:=H) fr stk rfl dm.new (fun b hb=>hok.fresh hb) F fun h' m f2=>?_
 have un:Un (frs outer) [] H0 H s0.heap h':=vf (outer:=outer) (base:=base) I.base m dm.old (fun b hb=>by
  rw [fso,yM] at hb
  rcases zj.mp (show b∈s0.heap.objs.size :: frs outer from hb) with rfl | hb
  ·exact .inr (zm _)
  ·exact .inl hb) rfl I.funs
 exact ⟨a,cls,dd,H,rfl,I.os,I.bare,un,oP hok m I.stkFree,m.frames I.funs,f2.mono (fun b o q=>Option.ne_none_iff_exists'.mp (dm.old b o q)),hE⟩
theorem XR.of_call {X:Cx} {pins:Zk} {σ:L2.St} {H:Hp} {s s':Shared} {E:XK} {e:Value} (I:Inv X pins σ H s) (h:CXE X.prog X.w X.base X.stack H s E e s') (hex:X.ex=[]) (k:∀ cls dd H',E cls dd H'->XR X σ cls dd H'):X.xe e s':=by
 obtain ⟨a,cls,dd,H',rfl,ho,hb,hu,hok,hf,hfl,hE⟩:=h
 exact k cls dd H' hE pins s' a s.heap (I.call' ho hu hok hb fun b hb=>nomatch hb) (Dom.here I hex fun b o e=>hu.there b o e fun z=>nomatch z) hfl
noncomputable def uS (X:Cx) (sp:Sp) (t:TA):TE:=fun σ H Q=>t σ H fun vs H1=>sp vs H1 Q (XR X σ)
theorem oF {X:Cx} {k:Nat} {f:Addr} {fd:FuncData} {ps:List Str} {sp:Sp} {x:Str} {p pos:Pos} {e:Expr} {es:List Expr} {t:TA} (F:FnOk X.prog X.w X.K X.mg X.base (CXE X.prog X.w X.base) k f fd ps sp) (hr:Room k X.A) (hg:Gl X x) (hm:X.mg x=some (.ref f)) (hk:PySem.W.keepIn X.K (.ref f)=true) (hb:Binds X.K fd ps [])
  (ha:PA X (e :: es) t) (hdb:(x == ("__debug__" : Str))=false) (he:starEach (e :: es) X.env=(false,eval e X.env) :: starEach es X.env) (hpl:(backTo pos (starEach es X.env)).any (·.1)=false) (hex:X.ex=[]) :
  PE X (.Call (.Name x p) (e :: es) [] pos) (uS X sp t):=by
 intro pins s σ H Q I h
 refine yG (eV I hg hm ?_ hdb)
 refine PySem.W.callWith_K (h₀:=X.base) I.ok.mod.kin hk (thn (ha pos pins s σ H _ I h) fun us s1 hu=>?_) he hpl
 obtain ⟨vs,H1,I1,r,q⟩:=hu
 refine ⟨I1.kIn,?_⟩
 have hl:us.length=ps.length:=by rw [← r.length];exact F.len _ _ _ _ q
 have hb2:=hb s1 us I1.kIn (by rw [yz];exact hl)
 rw [yz] at hb2
 refine wpAny_call (x5 (F.run X.A X.stack s1 H1 ⟨us,[]⟩ us vs Q _ hr I1.env0 hb2 r q) fun rr s' hq=>?_)
 cases rr with
 | error e=>exact XR.of_call I1 hq hex fun _ _ _ z=>z
 | ok f =>
  cases f with
  | ret u=>exact I1.after hq
  | _=>exact hq.elim
end
end XN
end
section
namespace VS
open PySem PySem.Spec PyProof.Rows L2 XN
inductive Res where | ok (v:Val) | ex (x:Str)
inductive OutX where | ok (o:Out) | ex (x:Str) (η:VS.Env)
noncomputable abbrev ExX:=VS.Env->Option Res
noncomputable abbrev SxX:=VS.Env->Option OutX
noncomputable abbrev FnX:=Z2->Option Res
noncomputable def XRs (X:Cx) (σ:L2.St) (x:Str) (H:Hp):Prop:=∀ cls,X.mg x=some cls->XR X σ cls none H
noncomputable def EOk (G:Gx) (X:Cx) (Φ:Fps) (η:VS.Env) (σ:L2.St) (H:Hp) (Q:VK):Res->Prop
 | .ok v=>∀ u H' F,bf H H'->Rp G H' u v.2 F->Fp Φ η H v.1 F->Q u H'
 | .ex x=>∀ H',bf H H'->XRs X σ x H'
noncomputable def tEX (G:Gx) (X:Cx) (c:ExX):TE:=fun σ H Q=>∃ Φ η r,SR G Φ η σ H/\c η=some r/\EOk G X Φ η σ H Q r
noncomputable def OkX (G:Gx) (X:Cx) (Φ:Fps) (η:VS.Env) (H:Hp) (D:Ends):OutX->Prop
 | .ok o=>iy G Φ η H D o
 | .ex x η'=>∀ Φ' σ' H',SR G Φ' η' σ' H'->Frm Φ η H Φ' η' H'->XRs X σ' x H'
noncomputable def tSX (G:Gx) (X:Cx) (c:SxX):TS:=fun D σ H=>∃ Φ η o,SR G Φ η σ H/\c η=some o/\OkX G X Φ η H D o
noncomputable def PVX (G:Gx) (X:Cx) (e:Expr) (c:ExX):Prop:=PE X e (tEX G X c)
noncomputable def PSX (G:Gx) (X:Cx) (st:Stmt) (c:SxX):Prop:=PS X st (tSX G X c)
noncomputable def da (G:Gx) (X:Cx) (st:List Stmt) (c:SxX):Prop:=PSs X st (tSX G X c)
noncomputable def sL (c:Sx):SxX:=fun η=>(c η).map .ok
noncomputable def eH (a b:SxX):SxX:=fun η=>(a η).bind fun o=>match o with
 | .ok (.nx η')=>b η'
 | o=>some o
noncomputable def xIf (t:Ex) (a b:SxX):SxX:=fun η=>(t η).bind fun x=>(tru x.2).bind fun r=>if r then a η else b η
noncomputable def okE (c:ExX):Ex:=fun η=>match c η with
 | some (.ok v)=>some v
 | _=>none
noncomputable def xOf (S:Ex->Sx) (c:ExX):SxX:=fun η=>(c η).bind fun r=>match r with
 | .ok _=>(S (okE c) η).map .ok
 | .ex x=>some (.ex x η)
noncomputable def plF (g:FnX):Fn:=fun ts=>match g ts with
 | some (.ok v)=>some v
 | _=>none
noncomputable def dR (g:FnX) (cs:Exs):ExX:=fun η=>(cs η).bind fun l=>(g (trees l)).bind fun r=>match r with
 | .ok _=>(aS (plF g) cs η).map .ok
 | .ex x=>some (.ex x)
noncomputable def fnx (np nn:Nat) (body:SxX):FnX:=fun ts=>if ts.length=np then
 (body (ts.map (fun t=>some (.pu t))++List.replicate (nn - np) none)).bind fun o=>match o with
  | .ok (.rt v _)=>some (.ok v)
  | .ok (.nx _)=>some (.ok (.fr,.non))
  | .ex x _=>some (.ex x)
  | _=>none else none
noncomputable def spX (G:Gx) (mg:Zh) (g:FnX):Sp:=fun vs H Q E=>∃ ts Fs r,RpL G H vs ts Fs/\g ts=some r/\(match r with
 | .ok v=>∀ u H' F,bf H H'->Rp G H' u v.2 F->vF H Fs v.1 F->Q u H'
 | .ex x=>∀ cls H',mg x=some cls->bf H H'->E cls none H')
section
variable {G:Gx} {X:Cx} {st:Stmt} {sts:List Stmt} {c:Sx} {a b:SxX} {pos p:Pos} {e:Expr} {es:List Expr} {ce:ExX}
theorem OkX.back {Φ Φ1:Fps} {η η1:VS.Env} {H H1:Hp} {D:Ends} (f:Frm Φ η H Φ1 η1 H1):∀ {o:OutX},OkX G X Φ η H D o->OkX G X Φ1 η1 H1 D o
 | .ok _,h=>iy.back f h
 | .ex _ _,h=>fun Φ' σ' H' s g=>h Φ' σ' H' s (f.trans g)
theorem va (h:PSV G X.nox st c):PSX G X st (sL c):=fun pins s σ H D I hq=>by
 obtain ⟨Φ,η,o,s',e,k⟩:=hq
 obtain ⟨o1,e1,rfl⟩:=zv.mp e
 exact zI (h pins s σ H D (I.wish _) ⟨Φ,η,o1,s',e1,k⟩) (fun _ _ q=>q.unwish) fun _ _ z=>False.elim z
theorem ro (h:cB G X.nox sts c):da G X sts (sL c):=fun pins s σ H D I hq=>by
 obtain ⟨Φ,η,o,s',e,k⟩:=hq
 obtain ⟨o1,e1,rfl⟩:=zv.mp e
 exact zI (h pins s σ H D (I.wish _) ⟨Φ,η,o1,s',e1,k⟩) (fun _ _ q=>q.unwish) fun _ _ z=>False.elim z
theorem wL (h:PSX G X st a):da G X [st] a:=la h
theorem sJ (h1:PSX G X st a) (h2:da G X sts b):da G X (st :: sts) (eH a b):=PSs.weak (jK h1 h2) fun D σ H hq=>by
 obtain ⟨Φ,η,o,s,e,k⟩:=hq
 unfold eH at e
 obtain ⟨o1,e1,e2⟩:=zz.mp e
 refine ⟨Φ,η,o1,s,e1,?_⟩
 cases o1 with
 | ex x η1=>cases e2;exact k
 | ok o1 =>
  cases o1 with
  | nx η1=>exact fun Φ' σ' H' s' f=>⟨Φ',η1,o,s',e2,k.back f⟩
  | rt v η1=>cases e2;exact k
  | bk η1=>cases e2;exact k
  | ct η1=>cases e2;exact k
theorem xG {t:Expr} {ct:Ex} {A B:List Stmt} (hc:PVT G X.nox t ct) (ha:da G X A a) (hb:da G X B b):PSX G X (.If t A B pos) (xIf ct a b):=PS.weak (sd (PT.nox hc) ha hb) fun D σ H hq=>by
 obtain ⟨Φ,η,o,s,e,k⟩:=hq
 unfold xIf at e
 obtain ⟨⟨m,x⟩,ec,e1⟩:=zz.mp e
 obtain ⟨b',eb,e2⟩:=zz.mp e1
 refine ⟨Φ,η,m,x,b',s,ec,eb,fun H' e3=>?_⟩
 cases b' with
 | true =>
  rw [zi rfl] at e2
  exact kD ⟨Φ,η,o,s.same e3,e2,k.back (Frm.same e3)⟩
 | false =>
  rw [if_neg zh] at e2
  exact ko ⟨Φ,η,o,s.same e3,e2,k.back (Frm.same e3)⟩
theorem uA (h:PVX G X e ce):PV G X e (okE ce):=PE.weak h fun σ H Q hq=>by
 obtain ⟨Φ,η,m,r,s,e,k⟩:=hq
 unfold okE at e
 split at e
 ·rename_i v hv
  cases e
  exact ⟨Φ,η,.ok (m,r),s,hv,k⟩
 ·cases e
theorem wa {S:Ex->Sx} {W:TE->TS} {R:Ends->L2.St->VK} (h:PVX G X e ce) (hS:∀ {c:Ex},PV G X e c->PSV G X st (S c)) (hW:∀ {t:TE},PE X e t->PS X st (W t)) (hR:∀ t D σ H,t σ H (R D σ)->W t D σ H):PSX G X st (xOf S ce):=fun pins s σ H D I hq=>by
 obtain ⟨Φ,η,o,s',e,k⟩:=hq
 unfold xOf at e
 obtain ⟨r,e1,e2⟩:=zz.mp e
 cases r with
 | ok v =>
  obtain ⟨o1,e3,rfl⟩:=zv.mp e2
  exact hS (uA h) pins s σ H D I ⟨Φ,η,o1,s',e3,k⟩
 | ex x =>
  cases e2
  exact hW h pins s σ H D I (hR _ D σ H ⟨Φ,η,.ex x,s',e1,fun H' sm=>k Φ σ H' (s'.same sm) (Frm.same sm)⟩)
theorem sG (h:PVX G X e ce) (hsw:swapsWith e none pos.line X.env=pure false):PSX G X (.Expr e pos) (xOf (fun c=>sX (xP c)) ce) :=
 wa (W:=rU) (R:=fun D σ=>fun _ H'=>D.nx σ H') h (fun q=>uY q hsw) (fun q=>je q hsw) fun _ _ _ _ q=>q
theorem ug {i:Nat} {x:Str} {pos':Pos} (h:PVX G X e ce) (hN:X.N.Nodup) (hi:X.N[i]?=some x) (hx:Loc X.env.scope x) (hs:swapsWith e (some (.Name x pos')) pos.line X.env=pure false)
  (hf:X.fn x=true\/X.env.scope.names.lookup x=some .local):PSX G X (.Assign [.Name x pos'] e pos) (xOf (bh i) ce) :=
 wa (W:=fun t=>vS t (oG i)) (R:=fun D σ=>fun v H'=>D.nx (σ.set i (some v)) H') h (fun q=>jA q hN hi hx hs hf) (fun q=>kM hN hi hx q hs hf) fun _ _ _ _ q=>q
theorem x_call {k:Nat} {f:Addr} {fd:FuncData} {ps:List Str} {x:Str} {cs:Exs} {g:FnX} (F:FnOk X.prog X.w X.K X.mg X.base (CXE X.prog X.w X.base) k f fd ps (spX G X.mg g)) (hr:Room k X.A) (hg:Gl X x) (hm:X.mg x=some (.ref f)) (hk:PySem.W.keepIn X.K (.ref f)=true) (hb:Binds X.K fd ps [])
  (ha:PVs G X.nox (e :: es) cs) (hdb:(x == ("__debug__" : Str))=false) (he:starEach (e :: es) X.env=(false,eval e X.env) :: starEach es X.env) (hpl:(backTo pos (starEach es X.env)).any (·.1)=false) (hex:X.ex=[]) :
  PVX G X (.Call (.Name x p) (e :: es) [] pos) (dR g cs):=by
 have ha':PVs G X (e :: es) cs:=fun pos pins s σ H Q I hw=>zI (ha pos pins s σ H Q (I.wish _) hw) (fun _ _ ⟨vs,H',I',r,q⟩=>⟨vs,H',I'.unwish,r,q⟩) fun _ _ z=>False.elim z
 refine PE.weak (oF F hr hg hm hk hb ha' hdb he hpl hex) fun σ H Q hq=>?_
 obtain ⟨Φ,η,r,s,e,k⟩:=hq
 unfold dR at e
 obtain ⟨l,el,e1⟩:=zz.mp e
 obtain ⟨r0,er,e2⟩:=zz.mp e1
 cases r0 with
 | ok v =>
  obtain ⟨v1,ev,rfl⟩:=zv.mp e2
  have t1:tE G (aS (plF g) cs) σ H Q:=⟨Φ,η,v1.1,v1.2,s,ev,k⟩
  obtain ⟨Φ2,η2,l2,s2,el2,k2⟩:=call_of (E:=XR X σ) t1
  refine ⟨Φ2,η2,l2,s2,el2,fun vs H1 Fs q1 q2 q3=>?_⟩
  have k3:spF G (plF g) (vs++[]) H1 Q (XR X σ):=k2 vs H1 Fs q1 q2 q3
  rw [yz] at k3
  obtain ⟨ts,Fs',m,r,h1,h2,h3⟩:=k3
  unfold plF at h2
  split at h2
  ·rename_i v' hv
   cases h2
   exact ⟨ts,Fs',.ok (m,r),h1,hv,h3⟩
  ·cases h2
 | ex y =>
  cases e2
  refine ⟨Φ,η,l,s,el,fun vs H1 Fs q1 q2 q3=>⟨trees l,Fs,.ex y,q2,er,fun cls H' hm' sm=>k H' (q1.trans sm) cls hm'⟩⟩
end
section
variable {G:Gx} {P:Program} {w:World} {K:Zi} {mg:Zh} {base:Heap}
theorem fnX {x qual:Str} {st:Stmt} {f:Addr} {fd:FuncData} {N ps:List Str} {k np nn:Nat} {c:SxX} (F:Fun K x qual st f fd) (S:FnScope N ps (ai st)) (hp:ps.length=np) (hn:N.length=nn)
  (hb:∀ (cdv:Value) (A:Around) (outer:List PySem.Env) (s:Shared) (H:Hp) (E:XK),Room k (A.deeper (envOfC qual (ai st) s.heap.objs.size f cdv))->da G (fm (CXE P w base) P w K mg base N qual (ai st) f cdv A outer s H E) (aO st) c) :
  FnOk P w K mg base (CXE P w base) (k+1) f fd ps (spX G mg (fnx np nn c)):=by
 obtain ⟨oc,od,kV,doc,pm,an,cdv,ct,osl,rfl,lk,hcd⟩:=F.ex
 refine rE lk hcd S (fun vs H Q E h=>?_) fun A outer s H vs Q E hr h=>⟨_,hb cdv A outer s H E hr,?_⟩
 ·obtain ⟨ts,Fs,r,h1,h2,_⟩:=h
  unfold fnx at h2
  split at h2
  ·rename_i hl
   rw [h1.len.1,hl,hp]
  ·cases h2
 ·obtain ⟨ts,Fs,r,h1,h2,q⟩:=h
  unfold fnx at h2
  split at h2
  ·rename_i hl
   obtain ⟨o,e1,e2⟩:=zz.mp h2
   have s0:=kc h1 nn vs.length rfl
   rw [hl] at s0
   have e3:L2.start N vs=vs.map some++List.replicate (nn - vs.length) none:=by
    unfold L2.start
    rw [hn]
   rw [e3]
   refine ⟨_,_,o,s0,e1,?_⟩
   cases o with
   | ex y η' =>
    cases e2
    exact fun Φ' σ' H' _ fr cls hm=>vE (q cls H' hm fun a o h=>(fr.keep a o h b9).1)
   | ok o =>
    cases o with
    | nx η' =>
     cases e2
     intro Φ' σ' H' s' fr
     exact q .non H' [] (fun a o h=>(fr.keep a o h b9).1) .non ⟨y8,fun a h=>nomatch h⟩
    | rt v η' =>
     cases e2
     intro u H' F' Φ' σ' s' fr r' rf
     refine q u H' F' (fun a o h=>(fr.keep a o h b9).1) r' ?_
     obtain ⟨m,t⟩:=v
     cases m with
     | fr=>exact ⟨rf.1,fun a ha=>(rf.2 a ha).elim id fun z=>absurd z b9⟩
     | pu=>exact fun a ha=>(rf a ha).elim .inl fun z=>z.elim (fun z=>.inr (fA (H:=H) (vs:=vs) z)) fun z=>absurd z b9
     | bo=>exact fun a ha=>(rf a ha).elim .inl fun z=>z.elim (fun z=>.inr (fA (H:=H) (vs:=vs) z)) fun z=>absurd z b9
    | bk η'=>cases e2
    | ct η'=>cases e2
  ·cases h2
theorem mJ {f:Addr} {fd:FuncData} {ps:List Str} {k:Nat} {g:FnX} (F:FnOk P w K mg base (CXE P w base) k f fd ps (spX G mg g)):FnOk P w K mg base CX0 k f fd ps (spF G (plF g)) where
 len:=fun vs H Q E h=>by
  obtain ⟨ts,Fs,m,r,h1,h2,q⟩:=h
  unfold plF at h2
  split at h2
  ·rename_i v hv
   cases h2
   exact F.len vs H Q (fun _ _ _=>False) ⟨ts,Fs,.ok (m,r),h1,hv,q⟩
  ·cases h2
 run:=fun A outer s H args us vs Q E hr e0 hb r h=>by
  obtain ⟨ts,Fs,m,t,h1,h2,q⟩:=h
  unfold plF at h2
  split at h2
  ·rename_i v hv
   cases h2
   refine x5 (F.run A outer s H args us vs Q (fun _ _ _=>False) hr e0 hb r ⟨ts,Fs,.ok (m,t),h1,hv,q⟩) fun rr s' hq=>?_
   cases rr with
   | error e =>
    obtain ⟨_,_,_,_,_,_,_,_,_,_,_,z⟩:=hq
    exact z
   | ok f=>cases f <;> exact hq
  ·cases h2
structure FnXt (P:Program) (w:World) (K:Zi) (mg:Zh) (base:Heap) (k:Nat) (x:Str) (ps:List Str) (G:Gx) (g:FnX):Prop where
 ex:∃ f fd,FnOk P w K mg base (CXE P w base) k f fd ps (spX G mg g)/\mg x=some (.ref f)/\PySem.W.keepIn K (.ref f)=true/\Binds K fd ps []
theorem FnXt.plain {k:Nat} {x:Str} {ps:List Str} {g:FnX} (F:FnXt P w K mg base k x ps G g):FnAt P w K mg base k x ps G (plF g):=by
 obtain ⟨f,fd,h1,h2,h3,h4⟩:=F.ex
 exact ⟨f,fd,mJ h1,h2,h3,h4⟩
end
end VS
end
section
namespace XN
open PySem PySem.Spec PyProof.Rows L2
theorem tX {K:Zi} {h:Heap} {C:Addr} {bmB:Zf} {newId:String} (X:K.In h) (e:PySem.W.excIn K C bmB newId=true):∃ bm N nm q bs hdct sn sub ab col dd k0 k1 k2 k3 k5 mN,
  h.get? C=some (excClassObj nm q C N bs bm hdct sn sub ab col dd k0 k1 k2 k3 k5 newId)/\h.Ns N mN/\mN "__init__" = none/\OwnTail h bmB bm:=by
 unfold PySem.W.excIn at e
 split at e
 ·rename_i dct c slots at_
  split at e
  ·rename_i C2 tl a0 a1 a2 a3 nid a5 em es
   rw [zb,zb,zb,zb,zb] at e
   obtain ⟨⟨⟨⟨⟨i1,i2⟩,i3⟩,i4⟩,i5⟩,i6⟩:=e
   have j1:=eq_of_beq i1
   have j2:=eq_of_beq i2
   have j6:=eq_of_beq i6
   subst j1
   subst j2
   obtain ⟨f1,f2,f3,f4,f5,f6,f7,f8,f9,f10,f11⟩:=c
   have j3:f11=false:=by
    cases f11 with
    | false=>rfl
    | true=>cases i3
   have j7:slots=#[a0,a1,a2,a3,some (.builtin nid),a5]:=by
    cases slots
    exact congrArg Array.mk es
   have j8:f3=.ref C2 :: tl:=em
   subst j3
   subst j7
   subst j8
   exact ⟨tl,f4,f1,f5,f2,f6,f7,f8,f9,f10,dct,a0,a1,a2,a3,a5,h.nsMap f4,X _ _ at_,.of_isNs (PySem.W.isNs_of_in X i5),PySem.W.nsMap_none_of_in X i5 j6,PySem.W.tail_of_in X i4⟩
  ·cases e
 ·cases e
theorem iK {P:Program} {w:World} {H:Hp} {h:Heap} {a:Addr} {o:HO} (x:bN P w H h a o):∃ u,h.get? a=some u:=by
 cases o with
 | lst xs=>obtain ⟨_,_,_,_,e⟩:=x;exact ⟨_,e⟩
 | tup xs=>obtain ⟨_,_,_,_,p⟩:=x;obtain ⟨_,e,_⟩:=p;exact ⟨_,e⟩
 | dK kvs=>obtain ⟨_,_,_,_,o,_,_,e,_⟩:=x;exact ⟨_,e⟩
 | dT kvs=>obtain ⟨_,_,_,_,o,_,_,e,_⟩:=x;exact ⟨_,e⟩
 | set S n=>obtain ⟨o,_,_,_,e,_⟩:=x;exact ⟨_,e⟩
 | ins C dx fs=>obtain ⟨_,_,_,e,_⟩:=x;exact ⟨_,e⟩
 | own y=>exact x
 | xd fs=>obtain ⟨_,⟨_,_,_,e,_⟩,_⟩:=x;exact ⟨_,e⟩
 | rng lo hi=>obtain ⟨_,_,_,e⟩:=x;exact ⟨_,e⟩
 | frz o u=>exact ⟨_,x.1⟩
 | tbl ps=>exact ⟨_,x⟩
 | met f y=>exact ⟨_,x⟩
 | ext φ=>obtain ⟨_,⟨_,e⟩,_⟩:=x;exact ⟨_,e⟩
end XN
namespace VS
open PySem PySem.Spec PyProof.Rows L2 XN
section
variable {G:Gx} {X:Cx} {e:Expr} {cs:Exs} {pos np cpos:Pos} {x:Str} {C:Addr} {B newId initId:String} {bmB:Zf}
theorem x_raise (F:ExcBaseFacts B newId initId bmB) (hbb:bmB.contains (.type "BaseException")=true) (hq:PySem.W.excIn X.K C bmB newId=true) (hm:X.mg x=some (.ref C)) (hg:Gl X x) (hc:X.calm=true) (ha:PVs G X.nox [e] cs)
  (hdb:(x == ("__debug__" : Str))=false) (hs:starEach [e] X.env=(false,eval e X.env) :: starEach [] X.env) (hpl:(backTo cpos (starEach [] X.env)).any (·.1)=false) (hex:X.ex=[]) :
  PSX G X (.Raise (some (.Call (.Name x np) [e] [] cpos)) none pos) (fun η=>(cs η).bind fun l=>if l.length<=1000 then some (.ex x η) else none):=fun pins s σ H D I hw=>by
 obtain ⟨Φ,η,o,sr,eo,k⟩:=hw
 obtain ⟨l,el,e2⟩:=zz.mp eo
 split at e2
 rotate_left
 ·cases e2
 rename_i hl
 cases e2
 obtain ⟨bm,N,nm,q,bs,hdct,sn,sub,ab,col,dd,k0,k1,k2,k3,k5,mN,hC,hN,hni,hT⟩:=tX I.ok.mod.kin hq
 have hp2:(backTo cpos (starEach [e] X.env)).any (·.1)=false:=by
  rw [hs]
  exact hpl
 refine wpAny_Raise_call_subT (C:=C) (nm:=nm) (q:=q) (N:=N) (bs:=bs) (bm:=bm) (hdct:=hdct) (sn:=sn) (sub:=sub) (ab:=ab) (col:=col) (dd:=dd) (k0:=k0) (k1:=k1) (k2:=k2) (k3:=k3) (k5:=k5) (mN:=mN) F (hT.hasType hbb) (I.ok.hd hc) hp2 hni (eV I hg hm ⟨rfl,?_⟩ hdb)
 rw [hs]
 refine Zp ?_
 have hw:=ha cpos pins s σ H (fun vs H1=>∃ Fs,bf H H1/\RpL G H1 vs (trees l) Fs) (I.wish _) ⟨Φ,η,l,sr,el,fun vs H1 Fs q1 q2 q3=>⟨Fs,q1,q2⟩⟩
 ·rw [hs] at hw
  refine zI hw (fun us s2 hu=>?_) fun _ _ z=>False.elim z
  obtain ⟨vs,H1,I1,rv,Fs,sm,rp⟩:=hu
  have I2:Inv X pins σ H1 s2:=I1.unwish
  have bk:=I2.bk
  refine ⟨rfl,?_,bk _ _ hC,hN.keeps bk,hT.keeps bk,fun h' a mk=>?_⟩
  ·show us.length<=sizeLine
   rw [← rv.length,rp.len.1,trees,zt]
   exact zk hl (by decide)
  ·have I3:Inv X pins σ H1 { s2 with heap:=h' }:=I2.kept (t':=s2.toks) mk.keeps
   refine k Φ σ H1 (sr.same sm) (Frm.same sm) _ hm pins _ a s2.heap I3 (Dom.here I2 hex fun b o e=>⟨o,mk.keeps b o e⟩) ⟨mk.new,?_,?_⟩
   ·cases z:H1 a with
    | none=>rfl
    | some o =>
     obtain ⟨o',q'⟩:=iK (I2.hok a o z)
     rw [mk.new] at q'
     cases q'
   ·obtain ⟨t,h1,_,_⟩:=mk.there
    exact ⟨_,_,h1,⟨rfl,rfl⟩,rfl,(by decide:1 < 6),.inl rfl⟩
end
end VS
end
section
namespace XN
open PySem PySem.Spec PyProof.Rows L2
section
variable {X:Cx} {pins:Zk} {σ:L2.St} {H:Hp} {s:Shared} {g h':Heap} {fs:Zg} {a:Addr}
theorem gf (I:Inv X pins σ H s) (m:Mv g H fs s.heap h') (d:Dom X pins g s.heap) (hfs:∀ b∈fs,b∈frs X.stack):Inv X pins σ H { s with heap:=h' }:=by
 have sub:∀ b∈fs,b=X.env.locals\/b∈X.fs:=fun b hb=>zj.mp (I.stkSub b (hfs b hb))
 have neL:∀ b o,X.s₀.heap.get? b=some o->b ≠ X.env.locals:=fun b o e=>zQ (zg (zo e) I.ok.above)
 have cellK:∀ c v,s.heap.IsCell c v->h'.IsCell c v:=fun c v hq=>by
  obtain ⟨o,ho,hd⟩:=hq
  obtain ⟨sl,q⟩:=m.slot c o ho fun vs z=>by rw [hd] at z;cases z
  exact ⟨_,q,hd⟩
 refine ⟨I.ok,I.os,I.bare,⟨fun b o e n hb hx=>?_,fun b o e n hb hx=>?_,I.base.free,fun b o e hx=>?_,I.base.tups,I.base.frzs,I.base.tbls⟩,?_,fun x c e=>?_,I.free,I.freeC,fun p hp=>?_,oP I.hok m fun b hb=>I.stkFree b (hfs b hb),I.len⟩
 ·exact m.keep b o (I.base.keep b o e n hb hx) (.inl (d.old b o e)) fun z=>(sub b z).elim (neL b o e) hb
 ·obtain ⟨sl,e1⟩:=I.base.slot b o e n hb hx
  obtain ⟨_,o2,q2,nf⟩:=I.funs.mem hb
  rw [e1] at q2
  cases q2
  obtain ⟨sl2,q3⟩:=m.slot b _ e1 nf
  exact ⟨sl2,q3⟩
 ·obtain ⟨o',e1⟩:=I.base.there b o e hx
  exact m.there b o' e1
 ·obtain ⟨mm,hn,hl⟩:=I.loc
  refine ⟨mm,Heap.UpToSlots.ns m.slot hn,fun i x v e1 e2 e3=>?_⟩
  obtain ⟨u,r,l⟩:=hl i x v e1 e2 e3
  refine ⟨u,r,?_⟩
  rcases l with l | ⟨k,c,e,z⟩
  ·exact .inl l
  ·exact .inr ⟨k,c,e,cellK c _ z⟩
 ·obtain ⟨v,z⟩:=I.cell x c e
  exact ⟨v,cellK c v z⟩
 ·obtain ⟨e,n,ne,nf,dd⟩:=I.pin p hp
  exact ⟨m.keep p.1 p.2 e (.inl (d.pin p hp)) fun z=>(sub _ z).elim ne nf,n,ne,nf,dd⟩
theorem lT {oe:Obj} {vs:Array Value} (I:Inv X pins σ H s) (d:Dom X pins g s.heap) (hg:g.get? a=none) (hH:H a=none) (he:s.heap.get? a=some oe) (hd:oe.data=.fields vs):Inv X pins σ (upd H a (.frz oe (.own a))) s:=by
 have ne:∀ b o,H b=some o->b ≠ a:=fun b o e z=>by rw [z,hH] at e;cases e
 have nL:X.env.locals ≠ a:=fun z=>by
  obtain ⟨m,⟨o,es,ep,ho,hdd,_⟩,_⟩:=I.loc
  rw [z,he] at ho
  cases ho
  rw [hd] at hdd
  cases hdd
 refine ⟨I.ok,I.os,I.bare,⟨I.base.keep,I.base.slot,fun b o e n hx=>?_,I.base.there,fun b xs e=>?_,fun b o u e=>?_,fun b ps e=>?_⟩,I.loc,I.cell,?_,fun x c e=>?_,fun p hp=>?_,fun b o e=>?_,I.len⟩
 ·rw [aN fun z=>d.old b o e (by rw [z];exact hg)]
  exact I.base.free b o e n hx
 ·have:=I.base.tups b xs e
  rw [aN (ne b _ this)]
  exact this
 ·have:=I.base.frzs b o u e
  rw [aN (ne b _ this)]
  exact this
 ·obtain ⟨more,this⟩:=I.base.tbls b ps e
  exact ⟨more,by rw [aN (ne b _ this)];exact this⟩
 ·rw [aN nL]
  exact I.free
 ·rw [aN fun z=>by
   obtain ⟨v,o,ho,hdd⟩:=I.cell x c e
   rw [z,he] at ho
   cases ho
   rw [hd] at hdd
   cases hdd]
  exact I.freeC x c e
 ·obtain ⟨e,n,r⟩:=I.pin p hp
  exact ⟨e,by rw [aN fun z=>d.pin p hp (by rw [z];exact hg)];exact n,r⟩
 ·by_cases hb:b=a
  ·subst hb
   rw [bB] at e
   cases e
   exact ⟨he,⟨oe,he⟩⟩
  ·rw [aN hb] at e
   refine (I.hok b o e).stay (fun _ _ _ q=>q) (fun c q=>?_) fun c xs q=>?_
   ·rw [aN (ne c _ q)];exact q
   ·rw [aN (ne c _ q)];exact q
theorem name_goes {A:Around} {E:Zt} {Q:Unit->Shared->Prop} {j:Nat} {n:Str} {pos:Pos} (I:Inv X pins σ H s) (hN:X.N.Nodup) (hj:X.N[j]?=some n) (hl:X.env.scope.names.lookup n=some .local) (h:∀ s',Inv X pins (σ.set j none) H s'->Q () s') :
  wpAny (model X.prog X.w) A (do bindName X.env n .none;unbindBehindTheSuite X.env n pos) Q E s:=by
 have hk:X.env.kindOf n=some .local:=hl
 have hcls:(X.env.scope.kind == .class || (X.env.scope.kind == .module && X.env.locals != X.env.globals))=false:=by rw [I.ok.kind];rfl
 refine zu (wpAny_bindName (fM I hN hj (.inl hl) (v:=V.non) rfl (fun s1 I1=>?_) (.inr hl)))
 unfold unbindBehindTheSuite
 refine wpAny_onRaise ?_
 unfold unbindName
 refine zu (wpAny_point (zu ?_))
 unfold deleteName
 simp only [hk,hcls]
 rw [if_neg (by decide)]
 obtain ⟨m,hn,hlk⟩:=id I1.loc
 have hjs:j < σ.length:=by rw [I.len];exact (zq.mp hj).1
 have mn:(m n).isSome=true:=by
  obtain ⟨u,r,l⟩:=hlk j n .non hj (by rw [z7 hjs]) (.inl hl)
  rcases l with ⟨_,l⟩ | ⟨k,_⟩
  ·rw [l];rfl
  ·rw [hk] at k
   rcases k with k | k <;> cases k
 refine zu (wpAny_nsDel_keeps hn fun h2 v hn2 hs2=>?_)
 rw [mn]
 simp only [if_true,Bool.not_true,ye,if_false]
 refine zf (wpAny_point (h _ ?_))
 have oth:∀ b,b ≠ X.env.locals->h2.get? b=s1.heap.get? b:=fun b hb=>hs2.2 b hb
 have th:∀ b o,s1.heap.get? b=some o->∃ o',h2.get? b=some o':=fun b o e=>by
  by_cases z:b=X.env.locals
  ·subst z
   obtain ⟨o',_,_,q,_⟩:=hn2
   exact ⟨o',q⟩
  ·exact ⟨o,(oth b z).trans e⟩
 have neL:∀ b o,X.s₀.heap.get? b=some o->b ≠ X.env.locals:=fun b o e=>zQ (zg (zo e) I.ok.above)
 have cellK:∀ x c,X.env.cells.lookup x=some c->∀ v,s1.heap.IsCell c v->h2.IsCell c v:=fun x c e v hq=>by
  obtain ⟨o,ho,hd⟩:=hq
  exact ⟨o,(oth c (I.cne x c e)).trans ho,hd⟩
 have hokL:HOk X.prog X.w H h2:=fun b o e=>(I1.hok b o e).stay (fun c u k q=>(oth c fun z=>by
  have f:=I1.free
  rw [← z] at f
  rcases k with k | k
  ·rw [k,e] at f;cases f
  ·rw [k] at f;cases f).trans q) (fun _ q=>q) fun _ _ q=>q
 refine ⟨I1.ok,I1.os,I1.bare,⟨fun b o e n hb hx=>(oth b (neL b o e)).trans (I1.base.keep b o e n hb hx),fun b o e n hb hx=>?_,I1.base.free,fun b o e hx=>?_,I1.base.tups,I1.base.frzs,I1.base.tbls⟩,⟨_,hn2,fun i x w e1 e2 e3=>?_⟩,fun x c e=>?_,I1.free,I1.freeC,fun p hp=>?_,hokL,by rw [yg];exact I.len⟩
 ·obtain ⟨sl,q⟩:=I1.base.slot b o e n hb hx
  exact ⟨sl,(oth b (neL b o e)).trans q⟩
 ·obtain ⟨o',q⟩:=I1.base.there b o e hx
  exact th b o' q
 ·have ij:i ≠ j:=fun z=>by
   subst z
   rw [z7 hjs] at e2
   cases e2
  rw [zA (yR ij)] at e2
  obtain ⟨u,r,l⟩:=hlk i x w e1 (by rw [zA (yR ij)];exact e2) e3
  refine ⟨u,r,?_⟩
  rcases l with ⟨k,l⟩ | ⟨k,c,e,z⟩
  ·refine .inl ⟨k,?_⟩
   have nx:x ≠ n:=fun z=>by
    subst z
    exact ij ((List.getElem?_inj (zq.mp e1).1 hN).mp (e1.trans hj.symm))
   show (if x=n then v else m x)=some u
   rw [if_neg nx]
   exact l
  ·exact .inr ⟨k,c,e,cellK x c e _ z⟩
 ·obtain ⟨v,z⟩:=I1.cell x c e
  exact ⟨v,cellK x c e v z⟩
 ·obtain ⟨e,n,ne,r⟩:=I1.pin p hp
  exact ⟨(oth _ ne).trans e,n,ne,r⟩
end
noncomputable abbrev Cx.hand (X:Cx) (a:Addr):Cx:={ X with A:=X.A.mark (some (.ref a)),calm:=false,xe:=fun _ _=>False }
theorem fB {X:Cx} {pins:Zk} {σ:L2.St} {H:Hp} {s:Shared} (I:Inv X pins σ H s) (a:Addr):Inv (Cx.hand X a) pins σ H s :=
 have ok:=I.ok
 ⟨⟨ok.mod,ok.kind,ok.glob,ok.blt,ok.above,ok.inj,ok.has,ok.cab,(fun z=>nomatch z),ok.frames,ok.stk,ok.exf,ok.bs,ok.bsz,ok.noex,ok.exfs,ok.funs,ok.frf⟩,I.os,I.bare,I.base,I.loc,I.cell,I.free,I.freeC,I.pin,I.hok,I.len⟩
theorem b7 {X:Cx} {pins:Zk} {σ:L2.St} {H:Hp} {s:Shared} {a:Addr} (k:X.Ok) (I:Inv (Cx.hand X a) pins σ H s):Inv X pins σ H s :=
 ⟨k,I.os,I.bare,I.base,I.loc,I.cell,I.free,I.freeC,I.pin,I.hok,I.len⟩
end XN
namespace VS
open PySem PySem.Spec PyProof.Rows L2 XN
noncomputable def xE (j:Nat):Out->Out
 | .nx η=>.nx (η.set j none)
 | .rt v η=>.rt v (η.set j none)
 | .bk η=>.bk (η.set j none)
 | .ct η=>.ct (η.set j none)
noncomputable def kL (b:SxX) (j:Nat) (mt:Str->Option Nat) (hd:Sx):Sx:=fun η=>(b η).bind fun o=>match o with
 | .ok o=>some o
 | .ex x η'=>(mt x).bind fun c=>if j < η'.length then (hd (η'.set j (some (.pu (.obj c []))))).map (xE j) else none
section
variable {G:Gx} {X:Cx} {body suite:List Stmt} {b₀:Stmt} {cb:SxX} {ch:Sx} {j:Nat} {mt:Str->Option Nat} {y n:Str} {C:Value} {np pos hpos:Pos}
theorem vT (hst:X.stack=X.env :: X.outer) (hfr:X.env.frame=some X.env.locals) (hb:∀ (W:Zt) (pn:Zk),da G { X with xe:=W,pn:=pn } body cb)
  (hh:∀ a,cB G (Cx.hand X a) (b₀ :: suite) ch) (hN:X.N.Nodup) (hj:X.N[j]?=some n) (hl:X.env.scope.names.lookup n=some .local) (hm:X.mg y=some C) (hg:Gl X y) (hdb:(y == ("__debug__" : Str))=false)
  (hmt:∀ x c,mt x=some c->X.mg x=some (.ref (G.ct c).1)/\PySem.W.exmOne X.K (.ref (G.ct c).1) C=some true) :
  PSV G X (.Try body [.ExceptHandler (some (.Name y np)) (some n) (b₀ :: suite) hpos] [] [] pos) (kL cb j mt ch):=fun pins s σ H D I hq=>by
 obtain ⟨Φ,η,o,sr,e,k⟩:=hq
 refine wpAny_Try_except ?_
 unfold kL at e
 obtain ⟨ox,e1,e2⟩:=zz.mp e
 generalize hW:(fun (e:Value) (s₁:Shared)=>wpAny (model X.prog X.w) X.A (noteFrame e X.env) (fun _ s₂=>wpAny (model X.prog X.w) X.A (setFlight e none) (fun _ s₃=>wpAny (model X.prog X.w) X.A (handleBy e X.env [.ExceptHandler (some (.Name y np)) (some n) (b₀ :: suite) hpos]) (SP X pins D) X.xe s₃) X.xe s₂) X.xe s₁)=W
 have I':Inv { X with xe:=W,pn:=X.pn++pins } [] σ H s:=⟨⟨I.ok.mod,I.ok.kind,I.ok.glob,I.ok.blt,I.ok.above,I.ok.inj,I.ok.has,I.ok.cab,I.ok.hd,I.ok.frames,I.ok.stk,I.ok.exf,I.ok.bs,I.ok.bsz,I.ok.noex,I.ok.exfs,I.ok.funs,I.ok.frf⟩,I.os,I.bare,I.base,I.loc,I.cell,I.free,I.freeC,fun p hp=>I.pin p (by simpa using hp),I.hok,I.len⟩
 have back:∀ {pins':Zk} {σ':L2.St} {H':Hp} {s':Shared},Inv { X with xe:=W,pn:=X.pn++pins } pins' σ' H' s'->Inv X pins σ' H' s':=fun J=>⟨I.ok,J.os,J.bare,J.base,J.loc,J.cell,J.free,J.freeC,fun p hp=>J.pin p (zB _ hp),J.hok,J.len⟩
 refine zI (hb W (X.pn++pins) [] s σ H D I' ⟨Φ,η,ox,sr,e1,?_⟩) (fun f s1 hf=>?_) fun _ _ z=>z
 ·cases ox with
  | ok o1 =>
   cases e2
   exact k
  | ex x η1 =>
   obtain ⟨c,ec,e3⟩:=zz.mp e2
   split at e3
   rotate_left
   ·cases e3
   rename_i hjl
   obtain ⟨o2,e4,rfl⟩:=zv.mp e3
   obtain ⟨mx,me⟩:=hmt x c ec
   intro Φ' σ' H' sr' fr cls hcls pins' s1 a g J dm F
   cases (show some (Value.ref (G.ct c).1)=some cls from mx.symm.trans hcls)
   have J1:=back J
   have dm1:Dom X pins g s1.heap:=⟨dm.old,fun p hp=>dm.pin p (zB _ hp),dm.new⟩
   have sb:∀ b∈fso (X.env :: X.outer),b∈L2.frs X.stack:=fun b hb=>by rw [hst];exact hb
   have stk:=J1.stack
   have frm:=J1.ok.frames
   rw [hst] at stk frm
   show W (.ref a) s1
   rw [← hW]
   refine iU (base:=X.base) (outer:=X.outer) (L:=X.env.locals) (g:=g) (H:=H') frm stk hfr (.inl rfl) dm1.new (fun b hb=>J1.hok.fresh hb) F fun h1 m1 f1=>?_
   have J2:=gf J1 m1 dm1 sb
   have dm2:Dom X pins g h1:=⟨dm1.old,dm1.pin,fun b hb=>dm1.new b (zk m1.sz hb)⟩
   refine d0 (s:={ s1 with heap:=h1 }) (fs:=L2.frs X.stack) f1 fun h2 m2 f2=>?_
   have J3:Inv X pins σ' H' { s1 with heap:=h2 }:=gf (s:={ s1 with heap:=h1 }) J2 m2 dm2 fun b hb=>hb
   have dm3:Dom X pins g h2:=⟨dm1.old,dm1.pin,fun b hb=>dm2.new b (zk m2.sz hb)⟩
   obtain ⟨ga,Ha,oe,vs,he,⟨hc,hdd⟩,hd,_,_⟩:=id f2
   have ty:PySem.W.Looks (model X.prog X.w) h2 (typeOf (.ref a)) (.ref (G.ct c).1):=hc ▸ (PySem.W.Looks.ld he).andThen .now
   refine wpAny_handleBy_cons (codeAny_handlers_test (eV (X:=Cx.hand X a) (fB J3 a) hg hm ?_ hdb)) (fun z=>nomatch z)
   refine (PySem.W.exm_one J3.kIn ty me) _ _ _ _ (fun _ _ q=>q) ?_
   refine codeAny_handlers_suite_as ?_
   refine d0 (s:={ s1 with heap:=h2 }) (fs:=L2.frs X.stack) f2 fun h3 m3 f3=>?_
   have J4:Inv X pins σ' H' { s1 with heap:=h3 }:=gf (s:={ s1 with heap:=h2 }) J3 m3 dm3 fun b hb=>hb
   have dm4:Dom X pins g h3:=⟨dm1.old,dm1.pin,fun b hb=>dm3.new b (zk m3.sz hb)⟩
   obtain ⟨ga,Ha,oe,vs,he,⟨hc,hdd⟩,hd,_,_⟩:=f3
   have J5:=lT (s:={ s1 with heap:=h3 }) J4 dm4 ga Ha he hd
   refine fM J5 hN hj (.inl hl) (v:=V.ref a) rfl (fun s4 J6=>?_) (.inr hl)
   have sm:bf H' (upd H' a (.frz oe (.own a))):=fun b o q=>by
    rw [aN fun z=>by rw [z,Ha] at q;cases q]
    exact q
   have s5:SR G (gC Φ' j []) (η1.set j (some (.pu (.obj c [])))) (σ'.set j (some (.ref a))) (upd H' a (.frz oe (.own a))) :=
    (sr'.same sm).put (c:=.pu (.obj c [])) hjl (.exc (bB ..) ⟨hc,hdd,vs,hd⟩) (fun _ _ _ _ _ q=>q) (fun _ z=>nomatch z) (fun _ z=>nomatch z) fun _ _ _ _ _ _ z=>nomatch z
   have f5:Frm Φ η H (gC Φ' j []) (η1.set j (some (.pu (.obj c [])))) (upd H' a (.frz oe (.own a))):=fr.trans ⟨fun b o q nw=>⟨sm b o q,fun z=>by
     rcases ff z with ⟨_,z,_⟩ | z
     ·cases z
     ·exact nw z⟩,fun b q z=>q ((sm.free z)),fun b z=>by
     rcases ff z with ⟨_,z,_⟩ | z
     ·cases z
     ·exact .inl z,fun b z=>by
     rcases iV z with ⟨_,_,z⟩ | z
     ·cases z
     ·exact .inl z,Kept.of sm⟩
   have off:∀ {η2:VS.Env} {Φ2:Fps} {σ2:L2.St} {H2:Hp},SR G Φ2 η2 σ2 H2->j < η2.length->SR G Φ2 (η2.set j none) (σ2.set j none) H2:=fun q hlt=>(q.drop j).any (by rw [z7 hlt]) none
   have jlt:∀ {η2:VS.Env} {Φ2:Fps} {σ2:L2.St} {H2:Hp} {s2:Shared},SR G Φ2 η2 σ2 H2->Inv (Cx.hand X a) pins σ2 H2 s2->j < η2.length:=fun q J=>by
    rw [q.len,J.len]
    exact (zq.mp hj).1
   have jl2:∀ {η2:VS.Env} {Φ2:Fps} {σ2:L2.St} {H2:Hp},SR G Φ2 η2 σ2 H2->σ2.length=X.N.length->SR G Φ2 (η2.set j none) (σ2.set j none) H2:=fun q hlen=>off q (by rw [q.len,hlen];exact (zq.mp hj).1)
   refine zI (hh a pins s4 _ _ { nx:=fun σ2 H2=>σ2.length=X.N.length->D.nx (σ2.set j none) H2,rt:=fun v H2=>D.rt v H2,bk:=fun σ2 H2=>σ2.length=X.N.length->D.bk (σ2.set j none) H2,ct:=fun σ2 H2=>σ2.length=X.N.length->D.ct (σ2.set j none) H2 } (fB J6 a) ⟨_,_,o2,s5,e4,?_⟩) (fun f s6 hf=>?_) fun _ _ z=>False.elim z
   ·cases o2 with
    | nx η2=>exact fun Φ2 σ2 H2 q fr2 hlen=>k Φ2 _ H2 (jl2 q hlen) ((f5.trans fr2).trans (Frm.drop j))
    | bk η2=>exact fun Φ2 σ2 H2 q fr2 hlen=>k Φ2 _ H2 (jl2 q hlen) ((f5.trans fr2).trans (Frm.drop j))
    | ct η2=>exact fun Φ2 σ2 H2 q fr2 hlen=>k Φ2 _ H2 (jl2 q hlen) ((f5.trans fr2).trans (Frm.drop j))
    | rt v η2=>exact fun u H2 F2 Φ2 σ2 q fr2 r rf=>k u H2 F2 Φ2 _ (q.drop j) ((f5.trans fr2).trans (Frm.drop j)) r (rf.back f5)
   ·cases f with
    | next =>
     obtain ⟨σ2,H2,J,q⟩:=hf
     exact name_goes (b7 I.ok J) hN hj hl fun s' J'=>⟨_,H2,J',q J.len⟩
    | brk =>
     obtain ⟨σ2,H2,J,q⟩:=hf
     exact name_goes (b7 I.ok J) hN hj hl fun s' J'=>⟨_,H2,J',q J.len⟩
    | cont =>
     obtain ⟨σ2,H2,J,q⟩:=hf
     exact name_goes (b7 I.ok J) hN hj hl fun s' J'=>⟨_,H2,J',q J.len⟩
    | ret u =>
     obtain ⟨v,σ2,H2,J,r,q⟩:=hf
     exact name_goes (b7 I.ok J) hN hj hl fun s' J'=>⟨v,_,H2,J',r,q⟩
 ·cases f with
  | next =>
   obtain ⟨σ',H',J,q⟩:=hf
   exact yJ ⟨σ',H',back J,q⟩
  | brk=>obtain ⟨σ',H',J,q⟩:=hf;exact ⟨σ',H',back J,q⟩
  | cont=>obtain ⟨σ',H',J,q⟩:=hf;exact ⟨σ',H',back J,q⟩
  | ret u=>obtain ⟨v,σ',H',J,r,q⟩:=hf;exact ⟨v,σ',H',back J,r,q⟩
end
end VS
end
section
namespace XN
open PySem PySem.Spec PyProof.Rows L2 PySem.W
section
variable {prog:Program} {w:World} {A:Around} {E:Zt} {s:Shared} {K:Frag} {a D:Addr} {oe:Obj}
structure XCl (K:Frag) (D:Addr):Prop where
 ga:findIn K (.ref D) "__getattribute__" = some (some (.builtin "BaseException.__getattribute__"))
 gn:findIn K (.ref D) "__getattr__" = some none
 cl:findObj K D none "__class__" = some (.bind (.builtin "getset_descriptor.__get__") (.builtin "object.__class__"))
 mo:mroIn K D (.type "object")=some true
 mb:mroIn K D (.type "BaseException")=some true
theorem oU {M:Model} {nm:Value} {Q:Unit->Shared->Prop} {h:Heap} {g:Array GenState} {d:Drawn} {t:Nat} {os:OsState} (L4:Looks M h (isInstance (.ref a) (.type "BaseException")) true) (hq:Q () ⟨h,g,d,t,os⟩):wpAny M A (checkBuiltinCall "BaseException.__getattribute__" ⟨[.ref a,nm],[]⟩) Q E ⟨h,g,d,t,os⟩:=by
 have hk:builtinKind "BaseException.__getattribute__" = some .slot:=by decide +kernel
 have hsp:splitId "BaseException.__getattribute__" = some ("BaseException", "__getattribute__"):=by decide +kernel
 have hag:=F.args_bexc_ga (.ref a) nm
 simp only [checkBuiltinCall,hk,hsp]
 refine zu (L4.at ?_)
 rw [if_neg (by decide)]
 unfold argsOk at hag
 cases hs:Manifest.signature? "BaseException.__getattribute__" with
 | none=>exact zf hq
 | some sig =>
  rw [hs] at hag
  exact (show wpAny M A (Bind.checkArgs "BaseException.__getattribute__" sig ⟨[.ref a,nm],[]⟩) Q E ⟨h,g,d,t,os⟩ from (congrArg (fun z=>wpAny M A z Q E ⟨h,g,d,t,os⟩) hag).mpr (zf hq))
theorem mK (C:XCl K D) (X:K.In s.heap) (I:InstAt s.heap a oe D none) {Q:Ze->Shared->Prop} (h:Q (some (.ref D)) { s with toks:=s.toks+1 }):wpAny (model prog w) A (getAttr? (.ref a) "__class__") Q E s:=by
 obtain ⟨hh,g,d,t,os⟩:=s
 have L0:=I.type (M:=model prog w)
 have L1:=looks_findIn (M:=model prog w) X C.ga
 have L2:=looks_findIn (M:=model prog w) X C.gn
 have L3:=looks_find (M:=model prog w) X I C.cl
 have L4:Looks (model prog w) hh (isInstance (.ref a) (.type "BaseException")) true:=L0.andThen (looks_mroIn (M:=model prog w) X C.mb)
 have hx2:(Value.builtin "BaseException.__getattribute__" == Value.builtin "object.__getattribute__")=false:=by decide +kernel
 unfold getAttr? getAttrBy? getAttrBy
 refine zu (wpAny_mkText (zu (wpAny_attempt (wpAny_holding (zu (L0.at (zu (L1.at ?_))))))))
 dsimp only
 rw [hx2,Bool.and_false,if_neg zh]
 unfold getAttrByItsOwn hookBefore callGetattribute
 rw [zi (show onTheHeap (Value.ref D)=true from rfl)]
 refine zu (L2.at (zu (wpAny_attempt (wpAny_holding ?_))))
 rw [x3,if_neg zh]
 unfold boundAndCalled
 have f3:=(PySem.F.attr_Exception).ga.bind (.ref a)
 rw [f3]
 refine zu (zf ?_)
 dsimp only
 refine wpAny_call (codeAny_call_builtin (PySem.F.attr_Exception).ga.plain F.entry_bexc_ga (oU L4 ?_))
 unfold Builtin.«object.__getattribute__»
 refine zu (zf (a:=(Value.ref a,[Value.str (Str.ofString "__class__") t])) ?_)
 refine zu (zf (a:=Str.ofString "__class__") (zu (L0.at (zu (L3.at ?_)))))
 show wpAny _ _ (holding [_] (call (Value.builtin "getset_descriptor.__get__") [Value.builtin "object.__class__",Value.ref a,Value.ref D]) >>= ret) _ _ _
 refine zu (wpAny_holding (wpAny_call (class_get X I C.mo (zf ?_))))
 exact handed_on rfl (zf h)
theorem jS (C:XCl K D):KitX K (.ref a) (.ref D) (fun h=>InstAt h a oe D none):=by
 obtain ⟨cd,hcd,_⟩:=zz.mp C.mo
 have at_:∃ c' d' sl',K.lookup D=some ⟨c',d',.cls cd,sl'⟩:=by
  unfold clsIn at hcd
  split at hcd
  ·rename_i c' d' cd' sl' ho
   cases hcd
   exact ⟨c',d',sl',ho⟩
  ·cases hcd
 obtain ⟨c',d',sl',ho⟩:=at_
 refine ⟨fun _ _ _ I=>I.type,fun _ _ X _ A' Q' E' s' k q=>?_,fun h tp dd its n sl X htp=>?_,fun X I k=>mK C X I k⟩
 ·unfold isType loadHead
  exact zu (wpAny_loadPart (k _ _ (X _ _ ho)) (zf q))
 ·refine Bool.eq_false_iff.mpr fun q=>?_
  cases Value.ref.inj (beq_iff_eq.mp q)
  rw [X _ _ ho] at htp
  cases htp
end
end XN
namespace VS
open PySem PySem.Spec PyProof.Rows L2 XN
noncomputable def fe (tb:Nat->Option Bool) (ca:Ex):Ex:=fun η=>(ca η).bind fun v=>match v.2 with
 | .obj c []=>(tb c).map fun b=>(.fr,.bl b)
 | _=>none
noncomputable def xC (K:Zi) (u:V) (c:Value):List V->Hp->VK->Prop:=fun vs H Q=>∃ a o D b,vs=[.ref a,u]/\H a=some (.frz o (.own a))/\(o.cls=.ref D/\o.dict=none/\∃ vs,o.data=.fields vs)/\XCl K D/\PySem.W.kitOne K (.ref D) c=some b/\Q (.bl b) H
section
variable {G:Gx} {X:Cx} {a:Expr} {ca:Ex} {pos p1 p2:Pos} {x:Str} {u:V} {c:Value} {tb:Nat->Option Bool}
theorem pb (hu:∀ z,RelV u z->z=c):cG X (.builtin "isinstance") (xC X.K u c):=by
 intro pins s σ H xs us Q I r h
 obtain ⟨a,o,D,b,rfl,ha,⟨h1,h2,vs,h3⟩,C,e,q⟩:=h
 obtain ⟨u1,w',rfl,r1,r2⟩:=vals2 r
 cases (show u1=Value.ref a from r1)
 cases hu _ r2
 obtain ⟨hg,_⟩:=(show bN X.prog X.w H s.heap a (.frz o (.own a)) from I.hok a _ ha)
 exact zJ (jS C) I.kIn ⟨hg,h1,by unfold PySem.W.notCls;rw [h3],by rw [h2];trivial⟩ e (fun z=>nomatch z) fun tk=>⟨.bl b,H,I.tok _,rfl,q⟩
theorem oi (ha:PV G X a ca) (hn:PE X (.Name x p2) (L2.tC u)) (hu:∀ z,RelV u z->z=c) (hK:X.K=G.K) (hg:Gl X "isinstance") (hm:X.mg "isinstance" = none) (htb:∀ k b,tb k=some b->XCl X.K (G.ct k).1/\PySem.W.kitOne X.K (.ref (G.ct k).1) c=some b)
  (hs:starEach [a,.Name x p2] X.env=(false,eval a X.env) :: starEach [.Name x p2] X.env) (hs2:starEach [.Name x p2] X.env=(false,eval (.Name x p2) X.env) :: starEach [] X.env) (hpl:(backTo pos (starEach [Expr.Name x p2] X.env)).any (·.1)=false) :
  PV G X (.Call (.Name "isinstance" p1) [a,.Name x p2] [] pos) (fe tb ca) :=
 PE.weak (fz (pb hu) hg hm boot_isinstance (di ha (di hn gj hs2) hs) (by decide) rfl hs hpl) fun σ H Q hq=>by
  obtain ⟨Φ,η,m,t,s,e,k⟩:=hq
  unfold fe at e
  obtain ⟨⟨mx,y⟩,ea,e'⟩:=zz.mp e
  split at e'
  ·rename_i n hy
   obtain ⟨b,eb,e2⟩:=zv.mp e'
   cases e2
   obtain ⟨h1,h2⟩:=htb _ _ eb
   refine ⟨Φ,η,mx,y,s,ea,fun v H' F e1 r1 f1=>?_⟩
   dsimp only at hy
   subst hy
   generalize hz:T.obj n []=z at r1
   cases r1 with
   | exc q1 q2 =>
    cases hz
    exact ⟨_,_,_,b,rfl,q1,q2,h1,h2,k _ H' _ e1 (.bl _) Fp.nil⟩
   | _=>cases hz
  ·cases e'
theorem wG {D:Addr} (ha:PV G X a ca) (hg2:Gl X x) (hm2:X.mg x=some (.ref D)) (hdb:(x == ("__debug__" : Str))=false) (hK:X.K=G.K) (hg:Gl X "isinstance") (hm:X.mg "isinstance" = none) (htb:∀ k b,tb k=some b->XCl X.K (G.ct k).1/\PySem.W.kitOne X.K (.ref (G.ct k).1) (.ref D)=some b)
  (hs:starEach [a,.Name x p2] X.env=(false,eval a X.env) :: starEach [.Name x p2] X.env) (hs2:starEach [.Name x p2] X.env=(false,eval (.Name x p2) X.env) :: starEach [] X.env) (hpl:(backTo pos (starEach [Expr.Name x p2] X.env)).any (·.1)=false) :
  PV G X (.Call (.Name "isinstance" p1) [a,.Name x p2] [] pos) (fe tb ca):=oi (u:=.ref D) (c:=.ref D) ha (i0 (v:=.ref D) hg2 hm2 rfl hdb) (fun _ h=>h) hK hg hm htb hs hs2 hpl
theorem ve {n:String} (ha:PV G X a ca) (hg2:Gl X x) (hm2:X.mg x=none) (hv:bootBuiltins x=some (.type n)) (hne:x ≠ "__name__") (hdb:(x == ("__debug__" : Str))=false) (hK:X.K=G.K) (hg:Gl X "isinstance") (hm:X.mg "isinstance" = none) (htb:∀ k b,tb k=some b->XCl X.K (G.ct k).1/\PySem.W.kitOne X.K (.ref (G.ct k).1) (.type n)=some b)
  (hs:starEach [a,.Name x p2] X.env=(false,eval a X.env) :: starEach [.Name x p2] X.env) (hs2:starEach [.Name x p2] X.env=(false,eval (.Name x p2) X.env) :: starEach [] X.env) (hpl:(backTo pos (starEach [Expr.Name x p2] X.env)).any (·.1)=false) :
  PV G X (.Call (.Name "isinstance" p1) [a,.Name x p2] [] pos) (fe tb ca):=oi (u:=.ty n) (c:=.type n) ha (lb (v:=.ty n) hg2 hm2 hv rfl hne hdb) (fun _ h=>h) hK hg hm htb hs hs2 hpl
end
end VS
end
section
namespace VS
open PySem PySem.Spec PyProof.Rows L2 XN PySem.F
noncomputable def ie (x:Str) (cs:Exs):SxX:=fun η=>(cs η).bind fun l=>if l.length<=1000 then some (.ex x η) else none
noncomputable def mt1 (n:Str):Str->Option Nat:=fun x=>if x=n then some 0 else none
noncomputable def gxE (K:Zi) (C:Addr):Gx:=⟨K,fun _=>(C,fun k=>⟨#[k]⟩)⟩
section
variable {G:Gx} {X:Cx} {e:Expr} {es:List Expr} {st:Stmt} {sts:List Stmt} {pos p:Pos} {k k':Nat} {x:Str} {ps:List Str} {cs:Exs}
theorem qR {xc:Sx} (h:PSV G X.nox st xc):PSX G X st (sL xc):=va h
theorem ng {xc:Sx} (h:cB G X.nox sts xc):da G X sts (sL xc):=ro h
theorem si {xa:SxX} (h:PSX G X st xa):da G X [st] xa:=wL h
theorem qE {xa xb:SxX} (h1:PSX G X st xa) (h2:da G X sts xb):da G X (st :: sts) (eH xa xb):=sJ h1 h2
theorem vp {t:Expr} {xt:Ex} {A B:List Stmt} {xa xb:SxX} (hc:PVT G X.nox t xt) (ha:da G X A xa) (hb:da G X B xb):PSX G X (.If t A B pos) (xIf xt xa xb):=xG hc ha hb
theorem rB {xe:ExX} (h:PVX G X e xe) (hsw:swapsWith e none pos.line X.env=pure false):PSX G X (.Expr e pos) (xOf (fun c=>sX (xP c)) xe):=sG h hsw
theorem u5 {xe:ExX} (i:Nat) {pos':Pos} (h:PVX G X e xe) (hN:X.N.Nodup) (hi:X.N[i]?=some x) (hx:Loc X.env.scope x) (hs:swapsWith e (some (.Name x pos')) pos.line X.env=pure false) (hf:X.fn x=true\/X.env.scope.names.lookup x=some .local):PSX G X (.Assign [.Name x pos'] e pos) (xOf (bh i) xe):=ug h hN hi hx hs hf
theorem rz {xg:FnX} (F:FnXt X.prog X.w X.K X.mg X.base k x ps G xg) (hr:Room k' X.A) (ha:PVs G X.nox (e :: es) cs) (hk:k<=k') (hg:Gl X x) (hdb:(x == ("__debug__" : Str))=false)
  (he:starEach (e :: es) X.env=(false,eval e X.env) :: starEach es X.env) (hpl:(backTo pos (starEach es X.env)).any (·.1)=false) (hex:X.ex=[]):PVX G X (.Call (.Name x p) (e :: es) [] pos) (dR xg cs):=by
 obtain ⟨f,fd,h1,h2,h3,h4⟩:=F.ex
 exact x_call h1 (hr.mono hk) hg h2 h3 h4 ha hdb he hpl hex
theorem oI {C:Addr} {np cpos:Pos} (hq:PySem.W.excIn X.K C [.type "ValueError",.type "Exception",.type "BaseException",.type "object"] "ValueError.__new__" = true) (hm:X.mg x=some (.ref C)) (hg:Gl X x) (hc:X.calm=true) (ha:PVs G X.nox [e] cs)
  (hdb:(x == ("__debug__" : Str))=false) (hs:starEach [e] X.env=(false,eval e X.env) :: starEach [] X.env) (hpl:(backTo cpos (starEach [] X.env)).any (·.1)=false) (hex:X.ex=[]) :
  PSX G X (.Raise (some (.Call (.Name x np) [e] [] cpos)) none pos) (ie x cs):=x_raise excBase_ValueError (by decide +kernel) hq hm hg hc ha hdb hs hpl hex
theorem sR {z:Str} {body suite:List Stmt} {b₀:Stmt} {xb:SxX} {xh:Sx} (j:Nat) {y n:Str} {C:Value} {np hpos:Pos} (hst:X.stack=X.env :: X.outer) (hfr:X.env.frame=some X.env.locals) (hb:∀ W pn,da G { X with xe:=W,pn:=pn } body xb)
  (hh:∀ a,cB G (Cx.hand X a) (b₀ :: suite) xh) (hN:X.N.Nodup) (hj:X.N[j]?=some n) (hl:X.env.scope.names.lookup n=some .local) (hm:X.mg y=some C) (hg:Gl X y) (hdb:(y == ("__debug__" : Str))=false)
  (hz:X.mg z=some (.ref (G.ct 0).1)) (he:PySem.W.exmOne X.K (.ref (G.ct 0).1) C=some true) :
  PSV G X (.Try body [.ExceptHandler (some (.Name y np)) (some n) (b₀ :: suite) hpos] [] [] pos) (kL xb j (mt1 z) xh):=vT hst hfr hb hh hN hj hl hm hg hdb fun x c h=>by
 unfold mt1 at h
 split at h
 ·rename_i hx
  cases h
  rw [hx]
  exact ⟨hz,he⟩
 ·cases h
theorem v7 {a:Expr} {ca:Ex} {p1 p2:Pos} {D:Addr} (b:Bool) (ha:PV G X a ca) (hg2:Gl X x) (hm2:X.mg x=some (.ref D)) (hdb:(x == ("__debug__" : Str))=false) (hK:X.K=G.K) (hg:Gl X "isinstance") (hm:X.mg "isinstance" = none) (hx:∀ k,XCl X.K (G.ct k).1/\PySem.W.kitOne X.K (.ref (G.ct k).1) (.ref D)=some b)
  (hs:starEach [a,.Name x p2] X.env=(false,eval a X.env) :: starEach [.Name x p2] X.env) (hs2:starEach [.Name x p2] X.env=(false,eval (.Name x p2) X.env) :: starEach [] X.env) (hpl:(backTo pos (starEach [Expr.Name x p2] X.env)).any (·.1)=false) :
  PV G X (.Call (.Name "isinstance" p1) [a,.Name x p2] [] pos) (fe (fun _=>some b) ca):=wG ha hg2 hm2 hdb hK hg hm (fun k _ h=>by cases h;exact hx k) hs hs2 hpl
theorem wg {a:Expr} {ca:Ex} {p1 p2:Pos} {n:String} (b:Bool) (ha:PV G X a ca) (hg2:Gl X x) (hm2:X.mg x=none) (hv:bootBuiltins x=some (.type n)) (hne:x ≠ "__name__") (hdb:(x == ("__debug__" : Str))=false) (hK:X.K=G.K) (hg:Gl X "isinstance") (hm:X.mg "isinstance" = none) (hx:∀ k,XCl X.K (G.ct k).1/\PySem.W.kitOne X.K (.ref (G.ct k).1) (.type n)=some b)
  (hs:starEach [a,.Name x p2] X.env=(false,eval a X.env) :: starEach [.Name x p2] X.env) (hs2:starEach [.Name x p2] X.env=(false,eval (.Name x p2) X.env) :: starEach [] X.env) (hpl:(backTo pos (starEach [Expr.Name x p2] X.env)).any (·.1)=false) :
  PV G X (.Call (.Name "isinstance" p1) [a,.Name x p2] [] pos) (fe (fun _=>some b) ca):=ve ha hg2 hm2 hv hne hdb hK hg hm (fun k _ h=>by cases h;exact hx k) hs hs2 hpl
end
section
variable {P:Program} {w:World} {K:Zi} {mg:Zh} {base:Heap}
noncomputable def pY:Fn:=fun ts=>match ts with
 | [.scr _]=>some (.fr,.bl true)
 | _=>none
theorem tF {k:Nat} {f C:Addr} {fd:FuncData} {y:Str} {g:Fn} (F:FnOk P w K mg base CX0 k f fd [y] (spF (gxE K C) g)) (hg:∀ ns:Zc,g [.scr ns]=some (.fr,.bl true)) :
  FnOk P w K mg base CX0 k f fd [y] (spF (gx0 K) pY):=F.imp fun vs H Q E h=>by
 obtain ⟨ts,Fs,m,r,h1,h2,q⟩:=h
 unfold pY at h2
 split at h2
 ·rename_i ns
  cases h2
  cases h1 with
  | cons r1 r2 =>
   cases r2
   cases r1 with
   | scr hs=>exact ⟨[.scr ns],[[]],.fr,.bl true,.cons (.scr hs) .nil,hg ns,fun v H' F e1 r f1=>q v H' F e1 (by cases r;exact .bl _) f1⟩
 ·cases h2
end
end VS
end
section
namespace VS
open PySem PySem.Spec PyProof.Rows L2 XN
noncomputable def iB (b:SxX) (mt:Str->Option Nat) (hd:Sx):Sx:=fun η=>(b η).bind fun o=>match o with
 | .ok o=>some o
 | .ex x η'=>(mt x).bind fun _=>hd η'
section
variable {G:Gx} {X:Cx} {body suite:List Stmt} {b₀:Stmt} {cb:SxX} {ch:Sx} {mt:Str->Option Nat} {y:Str} {C:Value} {np pos hpos:Pos}
theorem uB (hst:X.stack=X.env :: X.outer) (hfr:X.env.frame=some X.env.locals) (hb:∀ (W:Zt) (pn:Zk),da G { X with xe:=W,pn:=pn } body cb)
  (hh:∀ a,cB G (Cx.hand X a) (b₀ :: suite) ch) (hm:X.mg y=some C) (hg:Gl X y) (hdb:(y == ("__debug__" : Str))=false)
  (hmt:∀ x c,mt x=some c->X.mg x=some (.ref (G.ct c).1)/\PySem.W.exmOne X.K (.ref (G.ct c).1) C=some true) :
  PSV G X (.Try body [.ExceptHandler (some (.Name y np)) none (b₀ :: suite) hpos] [] [] pos) (iB cb mt ch):=fun pins s σ H D I hq=>by
 obtain ⟨Φ,η,o,sr,e,k⟩:=hq
 refine wpAny_Try_except ?_
 unfold iB at e
 obtain ⟨ox,e1,e2⟩:=zz.mp e
 generalize hW:(fun (e:Value) (s₁:Shared)=>wpAny (model X.prog X.w) X.A (noteFrame e X.env) (fun _ s₂=>wpAny (model X.prog X.w) X.A (setFlight e none) (fun _ s₃=>wpAny (model X.prog X.w) X.A (handleBy e X.env [.ExceptHandler (some (.Name y np)) none (b₀ :: suite) hpos]) (SP X pins D) X.xe s₃) X.xe s₂) X.xe s₁)=W
 have I':Inv { X with xe:=W,pn:=X.pn++pins } [] σ H s:=⟨⟨I.ok.mod,I.ok.kind,I.ok.glob,I.ok.blt,I.ok.above,I.ok.inj,I.ok.has,I.ok.cab,I.ok.hd,I.ok.frames,I.ok.stk,I.ok.exf,I.ok.bs,I.ok.bsz,I.ok.noex,I.ok.exfs,I.ok.funs,I.ok.frf⟩,I.os,I.bare,I.base,I.loc,I.cell,I.free,I.freeC,fun p hp=>I.pin p (by simpa using hp),I.hok,I.len⟩
 have back:∀ {pins':Zk} {σ':L2.St} {H':Hp} {s':Shared},Inv { X with xe:=W,pn:=X.pn++pins } pins' σ' H' s'->Inv X pins σ' H' s':=fun J=>⟨I.ok,J.os,J.bare,J.base,J.loc,J.cell,J.free,J.freeC,fun p hp=>J.pin p (zB _ hp),J.hok,J.len⟩
 refine zI (hb W (X.pn++pins) [] s σ H D I' ⟨Φ,η,ox,sr,e1,?_⟩) (fun f s1 hf=>?_) fun _ _ z=>z
 ·cases ox with
  | ok o1 =>
   cases e2
   exact k
  | ex x η1 =>
   obtain ⟨c,ec,e3⟩:=zz.mp e2
   obtain ⟨mx,me⟩:=hmt x c ec
   intro Φ' σ' H' sr' fr cls hcls pins' s1 a g J dm F
   cases (show some (Value.ref (G.ct c).1)=some cls from mx.symm.trans hcls)
   have J1:=back J
   have dm1:Dom X pins g s1.heap:=⟨dm.old,fun p hp=>dm.pin p (zB _ hp),dm.new⟩
   have sb:∀ b∈fso (X.env :: X.outer),b∈L2.frs X.stack:=fun b hb=>by rw [hst];exact hb
   have stk:=J1.stack
   have frm:=J1.ok.frames
   rw [hst] at stk frm
   show W (.ref a) s1
   rw [← hW]
   refine iU (base:=X.base) (outer:=X.outer) (L:=X.env.locals) (g:=g) (H:=H') frm stk hfr (.inl rfl) dm1.new (fun b hb=>J1.hok.fresh hb) F fun h1 m1 f1=>?_
   have J2:=gf J1 m1 dm1 sb
   have dm2:Dom X pins g h1:=⟨dm1.old,dm1.pin,fun b hb=>dm1.new b (zk m1.sz hb)⟩
   refine d0 (s:={ s1 with heap:=h1 }) (fs:=L2.frs X.stack) f1 fun h2 m2 f2=>?_
   have J3:Inv X pins σ' H' { s1 with heap:=h2 }:=gf (s:={ s1 with heap:=h1 }) J2 m2 dm2 fun b hb=>hb
   have dm3:Dom X pins g h2:=⟨dm1.old,dm1.pin,fun b hb=>dm2.new b (zk m2.sz hb)⟩
   obtain ⟨ga,Ha,oe,vs,he,⟨hc,hdd⟩,hd,_,_⟩:=id f2
   have ty:PySem.W.Looks (model X.prog X.w) h2 (typeOf (.ref a)) (.ref (G.ct c).1):=hc ▸ (PySem.W.Looks.ld he).andThen .now
   refine wpAny_handleBy_cons (codeAny_handlers_test (eV (X:=Cx.hand X a) (fB J3 a) hg hm ?_ hdb)) (fun z=>nomatch z)
   refine (PySem.W.exm_one J3.kIn ty me) _ _ _ _ (fun _ _ q=>q) ?_
   refine codeAny_handlers_suite ?_
   refine d0 (s:={ s1 with heap:=h2 }) (fs:=L2.frs X.stack) f2 fun h3 m3 f3=>?_
   have J4:Inv X pins σ' H' { s1 with heap:=h3 }:=gf (s:={ s1 with heap:=h2 }) J3 m3 dm3 fun b hb=>hb
   refine zI (hh a pins _ _ _ D (fB J4 a) ⟨_,_,o,sr',e3,k.back fr⟩) (fun f s6 hf=>?_) fun _ _ z=>False.elim z
   cases f with
   | next=>obtain ⟨σ2,H2,J,q⟩:=hf;exact ⟨σ2,H2,b7 I.ok J,q⟩
   | brk=>obtain ⟨σ2,H2,J,q⟩:=hf;exact ⟨σ2,H2,b7 I.ok J,q⟩
   | cont=>obtain ⟨σ2,H2,J,q⟩:=hf;exact ⟨σ2,H2,b7 I.ok J,q⟩
   | ret u=>obtain ⟨v,σ2,H2,J,r,q⟩:=hf;exact ⟨v,σ2,H2,b7 I.ok J,r,q⟩
 ·cases f with
  | next =>
   obtain ⟨σ',H',J,q⟩:=hf
   exact yJ ⟨σ',H',back J,q⟩
  | brk=>obtain ⟨σ',H',J,q⟩:=hf;exact ⟨σ',H',back J,q⟩
  | cont=>obtain ⟨σ',H',J,q⟩:=hf;exact ⟨σ',H',back J,q⟩
  | ret u=>obtain ⟨v,σ',H',J,r,q⟩:=hf;exact ⟨v,σ',H',back J,r,q⟩
theorem qq {z:Str} {body suite:List Stmt} {b₀:Stmt} {xb:SxX} {xh:Sx} {y:Str} {C:Value} {np hpos:Pos} (hst:X.stack=X.env :: X.outer) (hfr:X.env.frame=some X.env.locals) (hb:∀ W pn,da G { X with xe:=W,pn:=pn } body xb)
  (hh:∀ a,cB G (Cx.hand X a) (b₀ :: suite) xh) (hm:X.mg y=some C) (hg:Gl X y) (hdb:(y == ("__debug__" : Str))=false)
  (hz:X.mg z=some (.ref (G.ct 0).1)) (he:PySem.W.exmOne X.K (.ref (G.ct 0).1) C=some true) :
  PSV G X (.Try body [.ExceptHandler (some (.Name y np)) none (b₀ :: suite) hpos] [] [] pos) (iB xb (mt1 z) xh):=uB hst hfr hb hh hm hg hdb fun x c h=>by
 unfold mt1 at h
 split at h
 ·rename_i hx
  cases h
  rw [hx]
  exact ⟨hz,he⟩
 ·cases h
noncomputable def xF (K:Zi) (us:List V):List V->Hp->VK->Prop:=fun vs H Q=>∃ a o D tp b,vs=[.ref a,.ref tp]/\H a=some (.frz o (.own a))/\(o.cls=.ref D/\o.dict=none/\∃ vs,o.data=.fields vs)/\XCl K D/\H tp=some (.tup us)/\(∀ its,aW us its->PySem.W.kitAny K (.ref D) its=some b)/\Q (.bl b) H
theorem nu (us:List V):cG X (.builtin "isinstance") (xF X.K us):=by
 intro pins s σ H xs zs Q I r h
 obtain ⟨a,o,D,tp,b,rfl,ha,⟨h1,h2,vs,h3⟩,C,ht,e,q⟩:=h
 obtain ⟨u1,w',rfl,r1,r2⟩:=vals2 r
 cases (show u1=Value.ref a from r1)
 cases (show w'=Value.ref tp from r2)
 obtain ⟨hg,_⟩:=(show bN X.prog X.w H s.heap a (.frz o (.own a)) from I.hok a _ ha)
 obtain ⟨_,its,rv,_,ob,g1,g2,n,g3⟩:=(show bN X.prog X.w H s.heap tp (.tup us) from I.hok tp _ ht)
 obtain ⟨oc,od,odt,osl⟩:=ob
 dsimp only at g2 g3
 subst g2
 subst g3
 exact PySem.W.kia_tup (jS C) I.kIn ⟨hg,h1,by unfold PySem.W.notCls;rw [h3],by rw [h2];trivial⟩ g1 (e its rv) (fun z=>nomatch z) fun tk=>⟨.bl b,H,I.tok _,rfl,q⟩
theorem wd {a:Expr} {ca:Ex} {p1 p2:Pos} {es:List Expr} {us:List V} {x1:Nat} {t:TA} (b:Bool) (ha:PV G X a ca) (hes:PA X es t) (ht:∀ σ H Q,Q us H->t σ H Q) (hul:us.length<=1000) (hg:Gl X "isinstance") (hm:X.mg "isinstance" = none)
  (hx:∀ k,XCl X.K (G.ct k).1/\∀ its,aW us its->PySem.W.kitAny X.K (.ref (G.ct k).1) its=some b)
  (hs:starEach [a,.Tuple es x1 p2] X.env=(false,eval a X.env) :: starEach [.Tuple es x1 p2] X.env) (hs2:starEach [.Tuple es x1 p2] X.env=(false,eval (.Tuple es x1 p2) X.env) :: starEach [] X.env) (hpl:(backTo pos (starEach [Expr.Tuple es x1 p2] X.env)).any (·.1)=false) :
  PV G X (.Call (.Name "isinstance" p1) [a,.Tuple es x1 p2] [] pos) (fe (fun _=>some b) ca) :=
 PE.weak (fz (nu us) hg hm boot_isinstance (di ha (di (oq hes) gj hs2) hs) (by decide) rfl hs hpl) fun σ H Q hq=>by
  obtain ⟨Φ,η,m,r,s,e,k⟩:=hq
  unfold fe at e
  obtain ⟨⟨mx,y⟩,ea,e'⟩:=zz.mp e
  split at e'
  ·rename_i n hy
   obtain ⟨b',eb,e2⟩:=zv.mp e'
   cases e2
   cases eb
   obtain ⟨h1,h2⟩:=hx n
   refine ⟨Φ,η,mx,y,s,ea,fun v H' F e1 r1 f1=>ht σ H' _ ⟨zk hul (by decide),fun p hp=>?_⟩⟩
   dsimp only at hy
   subst hy
   generalize hz:T.obj n []=z at r1
   cases r1 with
   | exc q1 q2 =>
    cases hz
    rename_i a1 o1
    have ne:a1 ≠ p:=fun z=>by rw [z,hp] at q1;cases q1
    have sm:bf H' (upd H' p (.tup us)):=fun c o q=>by rw [aN fun z=>by rw [z,hp] at q;cases q];exact q
    exact ⟨_,_,_,p,b,rfl,by rw [aN ne];exact q1,q2,h1,bB ..,h2,k _ _ _ (e1.trans sm) (.bl _) Fp.nil⟩
   | _=>cases hz
  ·cases e'
end
end VS
end
section
namespace VS
open PySem PySem.Spec PyProof.Rows L2
section
variable {G:Gx} {X:Cx} {a b:Expr} {ca cb:Ex} {pos apos cpos:Pos}
noncomputable def fG:Val->Val->Z1
 | (_,.str x),(_,.str y)=>some (.fr,.bl (!Txt.contains (sx y) (sx x)))
 | _,_=>none
noncomputable def wk (n:Bool):V->V->Hp->VK->Prop:=fun x y H Q=>∃ u w,x=.str u/\y=.str w/\Q (.bl (n != Txt.contains w u)) H
theorem qg:OpR X (compareOp .NotIn) (wk true):=by
 intro pins s σ H x y v u Q I rx ry h
 obtain ⟨z,w',rfl,rfl,q⟩:=h
 obtain ⟨t,rfl⟩:=rx
 obtain ⟨t',rfl⟩:=ry
 exact SB.notContains (show EP X pins σ Q _ s from ⟨.bl _,H,I,rfl,by simpa using q⟩)
theorem qo:dZ G (wk true) fG:=by
 intro Φ η H0 H x y u w F1 F2 m t Q tw e k
 obtain ⟨m1,x⟩:=x
 obtain ⟨m2,y⟩:=y
 obtain ⟨same,r1,r2,f1,f2,nd⟩:=tw
 unfold fG at e
 split at e
 ·rename_i e1 e2
  cases e1
  cases e2
  cases e
  exact ⟨_,_,r1.str_inv.1,r2.str_inv.1,by rw [Bool.true_bne];exact bp k (.bl _)⟩
 ·cases e
theorem kx:Tells fG:=by
 intro x y m t e
 unfold fG at e
 split at e
 ·cases e;exact ⟨_,rfl⟩
 ·cases e
theorem pZ (ha:PV G X a ca) (hb:PV G X b cb) (hm:behindInMarks .NotIn b=false):PVT G X (.Compare a [.NotIn] [b] pos) (e2 fG ca cb):=fE qg qo kx ha hb hm
end
end VS
end
section
namespace VS
open PySem PySem.Spec PyProof.Rows L2 PySem.Builtin.Str PySem.StrLaws
noncomputable def upT (s:Tx):Tx:=(Txt.upper (sx s)).cps.toList
theorem se (s:Tx):sx (upT s)=Txt.upper (sx s):=by
 show (⟨(Txt.upper (sx s)).cps.toList.toArray⟩:Str)=_
 rw [Array.toArray_toList]
noncomputable def hZ (c:Nat) (d s:Tx):Tx:=az d (au c s)
theorem nz (s:Tx) (c:Nat):partsBetween (sx s) (occurrences (sx s) (sx [c]) 0 (sx s).length ((sx s).length+1)) (sx [c]).length=(au c s).map sx:=by
 have e1:(sx s).length=s.length:=rfl
 have e2:(sx [c]).length=1:=rfl
 have e3:occurrences (sx s) (sx [c]) 0 s.length (s.length+1)=_:=lH s c
 rw [e1,e2,e3]
 unfold partsBetween
 rw [e1]
 have p:=eY s c s.length 0 0 (by exact Nat.zero_add _) (zm _)
 obtain ⟨h,t,e⟩:=bZ c s
 rw [xZ,e] at p
 simp only [List.take_zero,Nat.sub_self,yh] at p
 rw [e,← p,yy]
 apply x9
 rintro ⟨i,j⟩ _
 show strSub (sx s) i j=sx ((s.drop i).take (j - i))
 unfold strSub sx
 simp [List.extract_eq_drop_take]
theorem lq (s:Tx) (c:Nat) (d:Tx):glued (sx d) (partsBetween (sx s) (occurrences (sx s) (sx [c]) 0 (sx s).length ((sx s).length+1)) (sx [c]).length)=sx (hZ c d s):=by
 rw [nz]
 exact kZ d _
theorem om (s:Tx) (c:Nat) (d:Tx) (h:occurrences (sx s) (sx [c]) 0 (sx s).length ((sx s).length+1)=[]):sx s=sx (hZ c d s):=by
 rw [← lq,h]
 show sx s=glued (sx d) [strSub (sx s) 0 (sx s).length]
 unfold glued strSub sx
 simp [Str.length]
section
variable {G:Gx} {X:Cx} {a b:Expr} {ca cb:Ex} {pos apos cpos:Pos}
theorem tu {pins:Zk} {s:Shared} {σ:L2.St} {H:Hp} {v:V} {R:Zt} {i:Nat} {x:Str} {pos:Pos} (hN:X.N[i]?=some x) (hv:Vis X.env.scope x) (hd:(x == ("__debug__" : Str))=false) (hcd:(x == ("__classdict__" : Str))=false)
  (I:Inv X pins σ H s) (e:σ[i]?=some (some v)) (h:∀ u,RelV v u->R u s):wpAny (model X.prog X.w) X.A (eval (.Name x pos) X.env) R X.xe s:=by
 obtain ⟨m,hn,hl⟩:=I.loc
 obtain ⟨u,r,l⟩:=hl i x v hN e hv
 have fin:=h u r
 rcases l with ⟨hk,hm⟩ | ⟨hk,c,hc,hcell⟩
 ·exact x4 (wpAny_loadName_local I.ok.kind hk hn hm fin) hd
 ·rcases hk with hk | hk
  ·exact x4 (wpAny_loadName_cell I.ok.kind hk hc hcell fin) hd
  ·exact x4 (wpAny_loadName_free I.ok.kind hk hc hcell fin hcd) hd
noncomputable def tUp (to:TE):TE:=fun σ H Q=>to σ H fun x H1=>∃ z,x=.str (sx z)/\gA (upT z)/\Q (.str (sx (upT z))) H1
noncomputable def PEk (X:Cx) (e:Expr) (t:TE):Prop :=
 ∀ (pins:Zk) (s:Shared) (σ:L2.St) (H:Hp) (Q:VK),Inv X pins σ H s->t σ H Q->wpAny (model X.prog X.w) X.A (eval e X.env) (fun u s'=>EP X pins σ Q u s'/\0 < s'.toks) X.xe s
noncomputable def PEz (X:Cx) (e:Expr) (t:TE):Prop :=
 ∀ (pins:Zk) (s:Shared) (σ:L2.St) (H:Hp) (Q:VK),Inv X pins σ H s->0 < s.toks->t σ H Q->wpAny (model X.prog X.w) X.A (eval e X.env) (EP X pins σ Q) X.xe s
theorem ma {to:TE} (ho:PE X a to) (hbase:attributeBase a "upper" X.env (eval a X.env)=eval a X.env) (hline:(apos.endLine == cpos.line)=true):PEk X (.Call (.Attribute a "upper" apos) [] [] cpos) (tUp to):=by
 intro pins s σ H Q I h
 refine wpAny_Call_method0_late hbase hline (thn (ho pins s σ H _ I h) fun v s1 ⟨x,H1,I1,r1,z,ex,tk,q1⟩=>?_)
 subst ex
 obtain ⟨t,rfl⟩:=r1
 have ft:tooLong (Txt.upper (sx z)).length=false:=by
  have hL:sizeLine=16777216:=yV
  have e1:(Txt.upper (sx z)).length=(upT z).length:=by rw [← se];rfl
  have e2:(upT z).length<=16777216:=tk.1
  unfold tooLong
  rw [e1,hL]
  exact decide_eq_false (Zv.mpr e2)
 rw [se] at q1
 exact ⟨"str", "str.upper",yc,F.slot_str_upper,F.type_str_upper,yY _ _ _,(fun _ e=>nomatch e),Zz rfl (PySem.evalArgs_none (SC.upper ft ⟨⟨.str _,H1,I1.tok _,⟨_,rfl⟩,q1⟩,Nat.succ_pos _⟩))⟩
noncomputable def vK (i:Nat) (c:Nat) (d:Tx):TE:=fun σ H Q=>∃ z,σ[i]?=some (some (.str (sx z)))/\z.length+(z.length+1) * d.length<=dh/\gA (hZ c d z)/\Q (.str (sx (hZ c d z))) H
theorem qh {i:Nat} {x x1 x2:Str} {c:Nat} {d:Tx} {p0 p1 p2:Pos} {j1 j2:Nat} (hN:X.N[i]?=some x) (hv:Vis X.env.scope x) (hd:(x == ("__debug__" : Str))=false) (hcd:(x == ("__classdict__" : Str))=false)
  (h1:x1=sx [c]) (h2:x2=sx d) (hne:(x1 == x2)=false)
  (hbase:attributeBase (.Name x p0) "replace" X.env (eval (.Name x p0) X.env)=eval (.Name x p0) X.env) (hline:(apos.endLine == cpos.line)=true) :
  PEz X (.Call (.Attribute (.Name x p0) "replace" apos) [.Constant (.str x1) j1 p1,.Constant (.str x2) j2 p2] [] cpos) (vK i c d):=by
 intro pins s σ H Q I h0 h
 obtain ⟨z,ez,hl,tk,q⟩:=h
 refine wpAny_Call_method2_late hbase hline rfl (tu hN hv hd hcd I ez fun u r=>?_)
 obtain ⟨t,rfl⟩:=r
 refine ⟨"str", "str.replace",yc,F.slot_str_replace,F.type_str_replace,yY _ _ _,(fun _ e=>nomatch e),Zz rfl (Zp (yX (Calls.Constant_str (yX (Calls.Constant_str (Calls.spliced_nil ?_))))))⟩
 subst h1 h2
 refine call_gives F.slot_str_replace (yY _ _ _) F.entry_str_replace (F.args_str_replace_3 _ _ _) (gives_str_replace _ _ _ t _ _ fun _=>⟨?_,?_,hne,?_⟩) ?_
 ·have:s.toks ≠ 0:=Zs h0
  simp [this]
 ·simp
 ·have hL:sizeLine=16777216:=yV
  have hL':dh=16777216:=rfl
  have ol:=occ_length_le_len (sx z) (sx [c]) 0 (sx z).length ((sx z).length+1)
  have e1:(sx z).length=z.length:=rfl
  have e2:(sx d).length=d.length:=rfl
  unfold tooLong
  rw [hL]
  refine decide_eq_false (Zv.mpr ?_)
  have m:=Nat.mul_le_mul_right d.length ol
  rw [e1] at m ⊢
  rw [e2]
  lia
 ·have e3:((sx [c]).length == 0)=false:=rfl
  cases hc:((occurrences (sx z) (sx [c]) 0 (sx z).length ((sx z).length+1)).isEmpty || ((sx [c]).length == 0 && (sx d).length == 0))
  ·rw [if_neg zh,lq]
   refine ⟨?_,⟨.str _,H,(I.tok _),⟨_,rfl⟩,q⟩⟩
   have hL:sizeLine=16777216:=yV
   rw [hL]
   exact tk.1
  ·rw [zi rfl]
   rw [e3,x3,Bool.or_false] at hc
   have:=om z c d (List.isEmpty_iff.mp hc)
   exact ⟨.str _,H,I.tok _,⟨_,rfl⟩,by rw [this];exact q⟩
noncomputable def eUp (ca:Ex):Ex:=fun η=>(ca η).bind fun x=>match x.2 with
 | .str z=>if txB (upT z)=true then some (.fr,.str (upT z)) else none
 | _=>none
noncomputable def mw (i c:Nat) (d:Tx):Ex:=fun η=>(ah i η).bind fun x=>match x.2 with
 | .str z=>if z.length+(z.length+1) * d.length<=dh/\txB (hZ c d z)=true then some (.fr,.str (hZ c d z)) else none
 | _=>none
theorem pS {Φ:Fps} {η:VS.Env} {σ:L2.St} {H:Hp} {i:Nat} {x:Val} {z:Tx} (s:SR G Φ η σ H) (e:ah i η=some x) (ez:x.2=.str z):σ[i]?=some (some (.str (sx z))):=by
 have key:∀ c,η[i]?=some (some c)->fD c=.str z->σ[i]?=some (some (.str (sx z))):=fun c h ec=>by
  obtain ⟨v,h1,h2⟩:=s.rp i c h
  rw [ec] at h2
  rw [h1,h2.str_inv.1]
 unfold ah at e
 split at e
 ·rename_i t h
  have e':VS.up .pu t=x:=zU e
  have er:t=x.2:=congrArg Prod.snd e'
  exact key _ h (er.trans ez)
 ·rename_i t h
  cases e
  exact key _ h ez
 ·cases e
theorem pR {i c:Nat} {d:Tx} {x x1 x2:Str} {p0 p1 p2 apos' cpos':Pos} {j1 j2:Nat} (ha:PV G X a ca) (hN:X.N[i]?=some x) (hv:Vis X.env.scope x) (h1:x1=sx [c]) (h2:x2=sx d) (hne:(x1 == x2)=false)
  (hbase:attributeBase a "upper" X.env (eval a X.env)=eval a X.env) (hline:(apos.endLine == cpos.line)=true)
  (hd:(x == ("__debug__" : Str))=false) (hcd:(x == ("__classdict__" : Str))=false)
  (hbase':attributeBase (.Name x p0) "replace" X.env (eval (.Name x p0) X.env)=eval (.Name x p0) X.env) (hline':(apos'.endLine == cpos'.line)=true) :
  PVs G X [.Call (.Attribute a "upper" apos) [] [] cpos,.Call (.Attribute (.Name x p0) "replace" apos') [.Constant (.str x1) j1 p1,.Constant (.str x2) j2 p2] [] cpos'] (af (eUp ca) (af (mw i c d) ao)):=by
 intro pos pins s σ H Q I h
 refine yX (thn (ma ha hbase hline pins s σ H (fun y H1=>vK i c d σ H1 fun y2 H2=>Q [y,y2] H2) I ?_) fun u s1 z1=>?_)
 ·obtain ⟨Φ,η,l,sr,e,k⟩:=h
  unfold af at e
  obtain ⟨v1,e1,e⟩:=zz.mp e
  obtain ⟨vs,w2,e⟩:=zz.mp e
  cases e
  obtain ⟨v2,e2,e3⟩:=zz.mp w2
  clear w2
  obtain ⟨v3,e4,e3⟩:=zz.mp e3
  cases e3
  cases e4
  unfold eUp at e1
  obtain ⟨y1,f1,e1⟩:=zz.mp e1
  obtain ⟨m1,y1⟩:=y1
  split at e1
  ·rename_i z hz
   cases hz
   split at e1
   ·rename_i ht
    cases e1
    unfold mw at e2
    obtain ⟨y2,f2,e2⟩:=zz.mp e2
    split at e2
    ·rename_i z' hz'
     split at e2
     ·rename_i hc
      cases e2
      refine ⟨Φ,η,m1,_,sr,f1,fun v H1 F sm r f=>⟨z,r.str_inv.1,ju ht,z',pS (sr.same sm) f2 hz',hc.1,ju hc.2,?_⟩⟩
      exact k _ H1 [[],[]] sm (.cons (.str _ (ju ht)) (.cons (.str _ (ju hc.2)) .nil)) ⟨fun j v' F' q1 q2=>(by
       match j with
       | 0=>cases q2;exact Fp.nil
       | 1=>cases q2;exact Fp.nil
       | j+2=>cases q2),y8⟩
     ·cases e2
    ·cases e2
   ·cases e1
  ·cases e1
 ·obtain ⟨⟨x',H1,I1,r1,q1⟩,h0⟩:=z1
  exact yX (thn (qh hN hv hd hcd h1 h2 hne hbase' hline' pins s1 σ H1 _ I1 h0 q1) fun u2 s2 z2=>(by
   obtain ⟨y,H2,I2,r2,q2⟩:=z2
   exact Calls.spliced_nil ⟨[x',y],H2,I2,.cons r1 (.cons r2 .nil),q2⟩))
end
end VS
end
section
namespace VS
open PySem PySem.Spec PyProof.Rows L2 XN
section
variable {G:Gx} {X:Cx} {pos:Pos}
structure Kls (X:Cx) (C:Addr) (es:List Expr) (us:List V):Prop where
 pa:PA X es fun _ H Q=>Q us H
 no:∀ its,aW us its->PySem.W.kitAny X.K (.ref C) its=some false
theorem tj {C:Addr}:Kls X C [] []:=⟨fun pos pins s σ H Q I h=>gj pos pins s σ H Q I h,fun its h=>by cases h;rfl⟩
theorem ee {C D:Addr} {x:Str} {p:Pos} {es:List Expr} {us:List V} (hg:Gl X x) (hm:X.mg x=some (.ref D)) (hk:PySem.W.kitOne X.K (.ref C) (.ref D)=some false) (hd:(x == ("__debug__" : Str))=false)
  (hs:starEach (.Name x p :: es) X.env=(false,eval (.Name x p) X.env) :: starEach es X.env) (r:Kls X C es us):Kls X C (.Name x p :: es) (.ref D :: us) :=
 ⟨fun pos pins s σ H Q I h=>di (i0 (v:=.ref D) hg hm rfl hd) r.pa hs pos pins s σ H Q I h,fun its h=>by
  cases h with
  | cons ru rr =>
  rename_i u its'
  cases (show u=Value.ref D from ru)
  show (match PySem.W.kitOne X.K (.ref C) (.ref D) with | some true=>some true | some false=>PySem.W.kitAny X.K (.ref C) its' | none=>none)=_
  rw [hk]
  exact r.no its' rr⟩
theorem tZ {a:Expr} {ca:Ex} {p1 p2:Pos} {es:List Expr} {us:List V} {x1:Nat} (ha:PV G X a ca) (hul:us.length<=1000) (hg:Gl X "isinstance") (hm:X.mg "isinstance" = none) (hx:∀ k,XCl X.K (G.ct k).1/\Kls X (G.ct k).1 es us)
  (hs:starEach [a,.Tuple es x1 p2] X.env=(false,eval a X.env) :: starEach [.Tuple es x1 p2] X.env) (hs2:starEach [.Tuple es x1 p2] X.env=(false,eval (.Tuple es x1 p2) X.env) :: starEach [] X.env) (hpl:(backTo pos (starEach [Expr.Tuple es x1 p2] X.env)).any (·.1)=false) :
  PV G X (.Call (.Name "isinstance" p1) [a,.Tuple es x1 p2] [] pos) (fe (fun _=>some false) ca) :=
 wd false ha (hx 0).2.pa (fun _ _ _ q=>q) hul hg hm (fun k=>⟨(hx k).1,(hx k).2.no⟩) hs hs2 hpl
end
structure Q (p:Prop):Prop where h:p
section
variable {G:Gx} {X:Cx} {a b c e tg iter elt:Expr} {es rest:List Expr} {ca cb cc ce:Ex} {cs:Exs} {pos pos' spos p p1 p2 apos cpos tpos:Pos} {k k' n i:Nat} {x:Str} {st:Stmt} {sts:List Stmt} {c1 c2:Sx} {sc:Scope} {N:List Str} {ci:Its} {g:Tg} {elts:List Expr} {ps:List Str}
theorem aj {i j pos}:Q (PV G X (.Constant (.int i) j pos) (eC (.int i))):=⟨uX⟩
theorem dj {i j pos}:Q (PV G X (.Constant (.bool i) j pos) (eC (.bl i))):=⟨vG⟩
theorem dB {j pos}:Q (PV G X (.Constant .none j pos) (eC .non)):=⟨sA⟩
theorem aq {x:Str} {t:Tx} {j pos} (h:x=sx t) (hl:gA t):Q (PV G X (.Constant (.str x) j pos) (eC (.str t))):=⟨uN h hl⟩
theorem ae (i:Nat) {x:Str} {pos:Pos} (hN:X.N[i]?=some x) (hv:Vis X.env.scope x) (hd:(x == ("__debug__" : Str))=false) (hcd:(x == ("__classdict__" : Str))=false):Q (PV G X (.Name x pos) (ah i)):=⟨u7 i hN hv hd hcd⟩
theorem ag  : Q (PVs G X [] ao):=⟨pI⟩
theorem aa (ha:Q (PV G X e ca)) (hr:Q (PVs G X es cs)) (hs:starEach (e :: es) X.env=(false,eval e X.env) :: starEach es X.env):Q (PVs G X (e :: es) (af ca cs)):=⟨ot ha.h hr.h hs⟩
theorem aZ (h:Q (PVs G X es cs)):Q (PV G X (.List es pos) (bC cs)):=⟨ux h.h⟩
theorem o7 {x1} (h:Q (PVs G X es cs)):Q (PV G X (.Tuple es x1 pos) (nc cs)):=⟨uV h.h⟩
theorem eP (h:Q (PV G X a ca)) (hK:X.K=G.K) (he:∀ whole,isTrue a X.env whole=(do let v ← whole;standAt a.pos;holding [v] (truthy v))):Q (PVT G X a ca):=⟨rq h.h hK he⟩
theorem eJ (h:Q (PVW G X e ca)):Q (PVT G X e ca):=⟨PVW.pvt h.h⟩
theorem kE (ha:Q (PVT G X a ca)):Q (PVW G X (.BoolOp .And [a] pos) ca):=⟨o5 ha.h⟩
theorem gb (ha:Q (PVT G X a ca)):Q (PVW G X (.BoolOp .Or [a] pos) ca):=⟨pK ha.h⟩
theorem mG (ha:Q (PVT G X a ca)) (hb:Q (PVW G X (.BoolOp .And (b :: rest) pos) cb)):Q (PVW G X (.BoolOp .And (a :: b :: rest) pos) (fQ ca cb)):=⟨qO ha.h hb.h⟩
theorem g6 (ha:Q (PVT G X a ca)) (hb:Q (PVW G X (.BoolOp .Or (b :: rest) pos) cb)):Q (PVW G X (.BoolOp .Or (a :: b :: rest) pos) (eOr ca cb)):=⟨vd ha.h hb.h⟩
theorem eS (ha:Q (PVT G X a ca)):Q (PVT G X (.UnaryOp .Not a pos) (gI ca)):=⟨rm ha.h⟩
theorem dU {op} (h:Q (PV G X a ca)):Q (PV G X (.BoolOp op [a] pos) ca):=⟨vb h.h⟩
theorem eI (ha:Q (PV G X a ca)) (hb:Q (PV G X (.BoolOp .And (b :: rest) pos) cb)):Q (PV G X (.BoolOp .And (a :: b :: rest) pos) (fQ ca cb)):=⟨sV ha.h hb.h⟩
theorem pV (ha:Q (PV G X a ca)) (hb:Q (PV G X (.BoolOp .Or (b :: rest) pos) cb)):Q (PV G X (.BoolOp .Or (a :: b :: rest) pos) (eOr ca cb)):=⟨wx ha.h hb.h⟩
theorem pM (hc:Q (PVT G X c cc)) (ha:Q (PV G X a ca)) (hb:Q (PV G X b cb)):Q (PV G X (.IfExp c a b pos) (eIf cc ca cb)):=⟨vM hc.h ha.h hb.h⟩
theorem bX  : Q (PVO G X none none):=⟨pq⟩
theorem cf (h:Q (PV G X a ca)):Q (PVO G X (some a) (some ca)):=⟨oV h.h⟩
theorem b6 {lo hi:Option Expr} {cl ch:Option Ex} {p2:Pos} (ha:Q (PV G X a ca)) (hl:Q (PVO G X lo cl)) (hh:Q (PVO G X hi ch)) (hK:X.K=G.K):Q (PV G X (.Subscript a (.Slice lo hi none p2) pos) (eSl ca cl ch)):=⟨ni ha.h hl.h hh.h hK⟩
theorem dq {apos cpos:Pos} (ho:Q (PV G X a ca)) (ha:Q (PVs G X [e] cs)) (hK:X.K=G.K) (hbase:attributeBase a "join" X.env (eval a X.env)=eval a X.env) (hfew:((backTo cpos (starEach [e] X.env)).all (fun x=>!x.1) && (backToKw cpos (keywordEach [] X.env)).all (fun x=>x.1.isSome)
   && decide ([e].length+([]:List Keyword).length+(if ([]:List Keyword).isEmpty then 0 else 1) < 30))=true) (hline:(apos.endLine == cpos.line)=true) (hs:starEach [e] X.env=(false,eval e X.env) :: starEach [] X.env) (hplain:(backTo cpos (starEach [] X.env)).any (·.1)=false):Q (PV G X (.Call (.Attribute a "join" apos) [e] [] cpos) (eM bJ ca cs)):=⟨q8 ho.h ha.h hK hbase hfew hline hs hplain⟩
theorem bj  : Q (cB G X [] dJ):=⟨pO⟩
theorem ak (h1:Q (PSV G X st c1)) (h2:Q (cB G X sts c2)):Q (cB G X (st :: sts) (aA c1 c2)):=⟨m5 h1.h h2.h⟩
theorem ar (h1:Q (PSV G X st c1)):Q (cB G X [st] c1):=⟨p6 h1.h⟩
theorem bw {t:Expr} {ct:Ex} {a b:List Stmt} (hc:Q (PVT G X t ct)) (ha:Q (cB G X a c1)) (hb:Q (cB G X b c2)):Q (PSV G X (.If t a b pos) (sIf ct c1 c2)):=⟨tq hc.h ha.h hb.h⟩
theorem aB (he:Q (PV G X e ce)):Q (PSV G X (.Return (some e) pos) (cA ce)):=⟨pD he.h⟩
theorem fj (i:Nat) {x:Str} {p:Pos} (hN:X.N[i]?=some x) (hv:Vis X.env.scope x) (hd:(x == ("__debug__" : Str))=false) (hcd:(x == ("__classdict__" : Str))=false):Q (PSV G X (.Return (some (.Name x p)) pos) (iL i)):=⟨nA i hN hv hd hcd⟩
theorem eQ {i:Nat} {x:Str} {pos':Pos} (he:Q (PV G X e ce)) (hN:X.N.Nodup) (hi:X.N[i]?=some x) (hx:Loc X.env.scope x) (hs:swapsWith e (some (.Name x pos')) pos.line X.env=pure false) (hf:X.fn x=true\/X.env.scope.names.lookup x=some .local):Q (PSV G X (.Assign [.Name x pos'] e pos) (fI i ce)):=⟨qF he.h hN hi hx hs hf⟩
theorem ax {i:Nat} {x:Str} {pos':Pos} (he:Q (PV G X e ce)) (hN:X.N.Nodup) (hi:X.N[i]?=some x) (hx:Loc X.env.scope x) (hs:swapsWith e (some (.Name x pos')) pos.line X.env=pure false) (hf:X.fn x=true\/X.env.scope.names.lookup x=some .local):Q (PSV G X (.Assign [.Name x pos'] e pos) (bh i ce)):=⟨jA he.h hN hi hx hs hf⟩
theorem gu {c:Sx} (i:Nat) (h:Q (cB G X sts c)):Q (cB G X sts (aA (lY i) c)):=⟨qS i h.h⟩
theorem d8 (ha:Q (PV G X a ca)) (hg:Gl X "range") (hm:X.mg "range" = none) (hs:starEach [a] X.env=(false,eval a X.env) :: starEach [] X.env) (hs':starEach [a] X.env=[(false,eval a X.env)]):Q (PVI G X tg (.Call (.Name "range" p) [a] [] pos) (cL ca)):=⟨ku ha.h hg hm hs hs'⟩
theorem bu (i:Nat) {x:Str} (hN:X.N.Nodup) (hi:X.N[i]?=some x) (hx:Loc X.env.scope x) (hf:X.fn x=true\/X.env.scope.names.lookup x=some .local):Q (PVG G X (.Name x pos) (cn i)):=⟨n4 i hN hi hx hf⟩
theorem eR {iter:Expr} {body:List Stmt} {ci:Its} {g:Tg} {cb:Sx} (hp:PassesOwn (model X.prog X.w) X.A X.env X.xe) (hc:X.calm=true) (hi:Q (PVI G X tg iter ci)) (hg:Q (PVG G X tg g)) (hb:Q (cB G X body cb)) (hs:∀ x,foldedSetIterable iter X.env x=pure x):Q (PSV G X (.For tg iter body [] pos) (iu g ci cb)):=⟨pN hp hc hi.h hg.h hb.h hs⟩
theorem du (k:Nat) (N:List Str) (hcalm:X.calm=true) (hi:Q (PVI G X tg iter ci)) (hin:lZ k g) (hg:∀ cl C s H fp,Q (PVG G (bP X N sc cl C s H fp) tg g)) (he:∀ cl C s H fp,Q (PV G (bP X N sc cl C s H fp) elt ce)) (hsc:iv X.env sc=true) (hnm:gk sc (N.drop k) X.N=true) (hNl:k<=N.length) (hs:∀ x,foldedSetIterable iter X.env x=pure x):Q (PV G X (.ListComp elt [⟨tg,iter,[],0⟩] sc pos) (cM k g ci none ce)):=⟨qd k N hcalm hi.h hin (fun cl C s H fp=>(hg cl C s H fp).h) (fun cl C s H fp=>(he cl C s H fp).h) hsc hnm hNl hs⟩
theorem kB (k:Nat) (N:List Str) {cS:Sx} (hS:∀ D σ H,tS G cS D σ H->tE G (cM k g ci none ce) σ H fun v H1=>D.nx (σ.set i (some v)) H1) (hcalm:X.calm=true) (hi:Q (PVI G X tg iter ci)) (hin:lZ k g) (hg:∀ cl C s H fp,Q (PVG G (bP X N sc cl C s H fp) tg g)) (he:∀ cl C s H fp,Q (PV G (bP X N sc cl C s H fp) elt ce)) (hN:X.N.Nodup) (hiN:X.N[i]?=some x) (hx:Loc X.env.scope x) (hsc:iv X.env sc=true) (hnm:gk sc (N.drop k) X.N=true) (hNl:k<=N.length) (hsw:swapsWith (.ListComp elt [⟨tg,iter,[],0⟩] sc pos) (some (.Name x pos')) spos.line X.env=pure true) (hf:X.fn x=true\/X.env.scope.names.lookup x=some .local) (hs:∀ x,foldedSetIterable iter X.env x=pure x):Q (PSV G X (.Assign [.Name x pos'] (.ListComp elt [⟨tg,iter,[],0⟩] sc pos) spos) cS):=⟨oo k N hS hcalm hi.h hin (fun cl C s H fp=>(hg cl C s H fp).h) (fun cl C s H fp=>(he cl C s H fp).h) hN hiN hx hsc hnm hNl hsw hf hs⟩
theorem aM (ha:Q (PV G X a ca)) (hb:Q (PV G X b cb)):Q (PV G X (.BinOp a .Add b pos) (e2 aY ca cb)):=⟨w_add ha.h hb.h⟩
theorem gH (ha:Q (PV G X a ca)) (hb:Q (PV G X b cb)):Q (PV G X (.BinOp a .Sub b pos) (e2 fq ca cb)):=⟨w_sub ha.h hb.h⟩
theorem eT (ha:Q (PV G X a ca)) (hb:Q (PV G X b cb)):Q (PV G X (.BinOp a .Mult b pos) (e2 gL ca cb)):=⟨w_mul ha.h hb.h⟩
theorem cq (ha:Q (PV G X a ca)) (hb:Q (PV G X b cb)):Q (PV G X (.BinOp a .FloorDiv b pos) (e2 dC ca cb)):=⟨sS ha.h hb.h⟩
theorem bI (ha:Q (PV G X a ca)) (hb:Q (PV G X b cb)):Q (PV G X (.BinOp a .Mod b pos) (e2 oMod ca cb)):=⟨w_mod ha.h hb.h⟩
theorem p8 (ha:Q (PV G X a ca)) (hb:Q (PV G X b cb)):Q (PVT G X (.Compare a [.Lt] [b] pos) (e2 oLt ca cb)):=⟨wF ha.h hb.h⟩
theorem o8 (ha:Q (PV G X a ca)) (hb:Q (PV G X b cb)):Q (PV G X (.Compare a [.LtE] [b] pos) (e2 oLe ca cb)):=⟨xw ha.h hb.h⟩
theorem kz (hr:Room k X.A) (ha:Q (PV G X a ca)) (hb:Q (PV G X b cb)):Q (PV G X (.Compare a [.Eq] [b] pos) (e2 oEq ca cb)):=⟨w_eq hr ha.h hb.h⟩
theorem d7 (hr:Room k X.A) (ha:Q (PV G X a ca)) (hb:Q (PV G X b cb)):Q (PVT G X (.Compare a [.Eq] [b] pos) (e2 oEq ca cb)):=⟨vg hr ha.h hb.h⟩
theorem kN (hr:Room k X.A) (ha:Q (PV G X a ca)) (hb:Q (PV G X b cb)):Q (PV G X (.Compare a [.NotEq] [b] pos) (e2 oNe ca cb)):=⟨wU hr ha.h hb.h⟩
theorem gE (hr:Room k X.A) (ha:Q (PV G X a ca)) (hb:Q (PV G X b cb)):Q (PVT G X (.Compare a [.NotEq] [b] pos) (e2 oNe ca cb)):=⟨vV hr ha.h hb.h⟩
theorem cu (ha:Q (PV G X a ca)) (hb:Q (PV G X b cb)) (hs:jo b) (hK:X.K=G.K):Q (PV G X (.Subscript a b pos) (e2 bG ca cb)):=⟨vm ha.h hb.h hs hK⟩
theorem bU (hm:X.mg "len" = none) (ha:Q (PVs G X [e] cs)) (hg:Gl X "len") (hK:X.K=G.K) (he:starEach [e] X.env=(false,eval e X.env) :: starEach [] X.env):Q (PV G X (.Call (.Name "len" p) [e] [] pos) (eN cp cs)):=⟨vN hm ha.h hg hK he⟩
theorem nh (hm:X.mg "max" = none) (ha:Q (PVs G X [a,b] cs)) (hc:X.calm=true) (hg:Gl X "max") (he:starEach [a,b] X.env=(false,eval a X.env) :: starEach [b] X.env) (hpl:(backTo pos (starEach [b] X.env)).any (·.1)=false):Q (PV G X (.Call (.Name "max" p) [a,b] [] pos) (eN j5 cs)):=⟨sq hm ha.h hc hg he hpl⟩
theorem nW (hm:X.mg "min" = none) (ha:Q (PVs G X [a,b] cs)) (hc:X.calm=true) (hg:Gl X "min") (he:starEach [a,b] X.env=(false,eval a X.env) :: starEach [b] X.env) (hpl:(backTo pos (starEach [b] X.env)).any (·.1)=false):Q (PV G X (.Call (.Name "min" p) [a,b] [] pos) (eN jQ cs)):=⟨t4 hm ha.h hc hg he hpl⟩
theorem ky (t:Ty) (hm:X.mg "isinstance" = none) (hm2:X.mg (tyN t)=none) (ha:Q (PV G X a ca)) (hg:Gl X "isinstance") (hg2:Gl X (tyN t)) (hK:X.K=G.K) (hs:starEach [a,.Name (tyN t) p2] X.env=(false,eval a X.env) :: starEach [.Name (tyN t) p2] X.env):Q (PV G X (.Call (.Name "isinstance" p1) [a,.Name (tyN t) p2] [] pos) (eIs t ca)):=⟨w_is t hm hm2 ha.h hg hg2 hK hs⟩
theorem ef (i:Nat) {x:Str} (ha:Q (PVs G X [e] cs)) (hK:X.K=G.K) (hN:X.N[i]?=some x) (hv:Vis X.env.scope x) (hd:(x == ("__debug__" : Str))=false) (hcd:(x == ("__classdict__" : Str))=false) (hfew:((backTo cpos (starEach [e] X.env)).all (fun x=>!x.1) && (backToKw cpos (keywordEach [] X.env)).all (fun x=>x.1.isSome)
   && decide ([e].length+([]:List Keyword).length+(if ([]:List Keyword).isEmpty then 0 else 1) < 30))=true) (hline:(apos.endLine == cpos.line)=true) (hs:starEach [e] X.env=(false,eval e X.env) :: starEach [] X.env):Q (PSV G X (.Expr (.Call (.Attribute (.Name x p1) "append" apos) [e] [] cpos) pos) (sX (gM i [] bH cs))):=⟨oA i ha.h hK hN hv hd hcd hfew hline hs⟩
theorem aV {g:Fn} (F:FnAt X.prog X.w X.K X.mg X.base k x ps G g) (hr:Room k' X.A) (ha:Q (PVs G X (e :: es) cs)) (hk:k<=k') (hg:Gl X x) (hdb:(x == ("__debug__" : Str))=false) (he:starEach (e :: es) X.env=(false,eval e X.env) :: starEach es X.env) (hpl:(backTo pos (starEach es X.env)).any (·.1)=false):Q (PV G X (.Call (.Name x p) (e :: es) [] pos) (aS g cs)):=⟨tV F hr ha.h hk hg hdb he hpl⟩
theorem cF (ha:Q (PV G X a ca)) (hK:X.K=G.K):Q (PVI G X tg a (dM ca)):=⟨pF ha.h hK⟩
theorem qZ (hm:X.mg "sum" = none) (ha:Q (PVs G X [e] cs)) (hg:Gl X "sum") (hK:X.K=G.K) (hc:X.calm=true) (he:starEach [e] X.env=(false,eval e X.env) :: starEach [] X.env):Q (PV G X (.Call (.Name "sum" p) [e] [] pos) (eN kK cs)):=⟨w_sum hm ha.h hg hK hc he⟩
theorem jh (hm:X.mg "all" = none) (ha:Q (PVs G X [e] cs)) (hg:Gl X "all") (hK:X.K=G.K) (hc:X.calm=true) (he:starEach [e] X.env=(false,eval e X.env) :: starEach [] X.env):Q (PV G X (.Call (.Name "all" p) [e] [] pos) (eN fZ cs)):=⟨w_all hm ha.h hg hK hc he⟩
theorem jt (ha:Q (PV G X a ca)) (hb:Q (PV G X b cb)):Q (PVT G X (.Compare a [.Gt] [b] pos) (e2 oGt ca cb)):=⟨vU ha.h hb.h⟩
theorem gD (ha:Q (PV G X a ca)) (hb:Q (PV G X b cb)) (hc:Q (PV G X c cc)) (hm:lastMarks [.LtE,.LtE] [b,c]=false):Q (PV G X (.Compare a [.LtE,.LtE] [b,c] pos) (gg oLe oLe ca cb cc)):=⟨il ha.h hb.h hc.h hm⟩
theorem gi {x:Str} {i:Int} (h:∃ t,X.mg x=some (.int i t)) (hg:Gl X x) (hd:(x == ("__debug__" : Str))=false):Q (PV G X (.Name x pos) (eC (.int i))):=⟨rh h hg hd⟩
theorem pd (ha:Q (PV G X a ca)) (hb:Q (PV G X b cb)):Q (PV G X (.BinOp a .Mult b pos) (e2 fO ca cb)):=⟨uZ ha.h hb.h⟩
theorem jC (ha:Q (PV G X a ca)) (hb:Q (PV G X b cb)):Q (PV G X (.BinOp a .Mult b pos) (e2 eE ca cb)):=⟨uT ha.h hb.h⟩
theorem oR  : Q (PV G X (.Dict [] [] pos) (px 0 [])):=⟨tf⟩
theorem h6 {apos cpos:Pos} (ho:Q (PV G X a ca)) (ha:Q (PVs G X [e] cs)) (hK:X.K=G.K) (hbase:attributeBase a "split" X.env (eval a X.env)=eval a X.env) (hfew:((backTo cpos (starEach [e] X.env)).all (fun x=>!x.1) && (backToKw cpos (keywordEach [] X.env)).all (fun x=>x.1.isSome)
   && decide ([e].length+([]:List Keyword).length+(if ([]:List Keyword).isEmpty then 0 else 1) < 30))=true) (hline:(apos.endLine == cpos.line)=true) (hs:starEach [e] X.env=(false,eval e X.env) :: starEach [] X.env) (hplain:(backTo cpos (starEach [] X.env)).any (·.1)=false):Q (PV G X (.Call (.Attribute a "split" apos) [e] [] cpos) (eM cz ca cs)):=⟨nP ho.h ha.h hK hbase hfew hline hs hplain⟩
theorem n6 {j pos'} (ha:Q (PV G X a ca)):Q (PVT G X (.Compare a [.Is] [.Constant .none j pos'] pos) (nj ca)):=⟨tY ha.h⟩
theorem mU {j pos'} (ha:Q (PV G X a ca)):Q (PVT G X (.Compare a [.IsNot] [.Constant .none j pos'] pos) (jB ca)):=⟨qT ha.h⟩
theorem hJ (hm:X.mg "int" = none) (ha:Q (PVs G X [e] cs)) (hg:Gl X "int") (hc:X.calm=true) (he:starEach [e] X.env=(false,eval e X.env) :: starEach [] X.env):Q (PV G X (.Call (.Name "int" p) [e] [] pos) (eN fP cs)):=⟨uk hm ha.h hg hc he⟩
theorem fX {xc:Sx} (h:Q (PSV G X.nox st xc)):Q (PSX G X st (sL xc)):=⟨qR h.h⟩
theorem fv {xc:Sx} (h:Q (cB G X.nox sts xc)):Q (da G X sts (sL xc)):=⟨ng h.h⟩
theorem fR {xa:SxX} (h:Q (PSX G X st xa)):Q (da G X [st] xa):=⟨si h.h⟩
theorem d5 {xa xb:SxX} (h1:Q (PSX G X st xa)) (h2:Q (da G X sts xb)):Q (da G X (st :: sts) (eH xa xb)):=⟨qE h1.h h2.h⟩
theorem lA {t:Expr} {xt:Ex} {A B:List Stmt} {xa xb:SxX} (hc:Q (PVT G X.nox t xt)) (ha:Q (da G X A xa)) (hb:Q (da G X B xb)):Q (PSX G X (.If t A B pos) (xIf xt xa xb)):=⟨vp hc.h ha.h hb.h⟩
theorem mD {xe:ExX} (h:Q (PVX G X e xe)) (hsw:swapsWith e none pos.line X.env=pure false):Q (PSX G X (.Expr e pos) (xOf (fun c=>sX (xP c)) xe)):=⟨rB h.h hsw⟩
theorem ou {xe:ExX} (i:Nat) {pos':Pos} (h:Q (PVX G X e xe)) (hN:X.N.Nodup) (hi:X.N[i]?=some x) (hx:Loc X.env.scope x) (hs:swapsWith e (some (.Name x pos')) pos.line X.env=pure false) (hf:X.fn x=true\/X.env.scope.names.lookup x=some .local):Q (PSX G X (.Assign [.Name x pos'] e pos) (xOf (bh i) xe)):=⟨u5 i h.h hN hi hx hs hf⟩
theorem iC {xg:FnX} (F:FnXt X.prog X.w X.K X.mg X.base k x ps G xg) (hr:Room k' X.A) (ha:Q (PVs G X.nox (e :: es) cs)) (hk:k<=k') (hg:Gl X x) (hdb:(x == ("__debug__" : Str))=false) (he:starEach (e :: es) X.env=(false,eval e X.env) :: starEach es X.env) (hpl:(backTo pos (starEach es X.env)).any (·.1)=false) (hex:X.ex=[]):Q (PVX G X (.Call (.Name x p) (e :: es) [] pos) (dR xg cs)):=⟨rz F hr ha.h hk hg hdb he hpl hex⟩
theorem gO {C:Addr} {np cpos:Pos} (hq:PySem.W.excIn X.K C [.type "ValueError",.type "Exception",.type "BaseException",.type "object"] "ValueError.__new__" = true) (hm:X.mg x=some (.ref C)) (hg:Gl X x) (hc:X.calm=true) (ha:Q (PVs G X.nox [e] cs)) (hdb:(x == ("__debug__" : Str))=false) (hs:starEach [e] X.env=(false,eval e X.env) :: starEach [] X.env) (hpl:(backTo cpos (starEach [] X.env)).any (·.1)=false) (hex:X.ex=[]):Q (PSX G X (.Raise (some (.Call (.Name x np) [e] [] cpos)) none pos) (ie x cs)):=⟨oI hq hm hg hc ha.h hdb hs hpl hex⟩
theorem ph {z:Str} {body suite:List Stmt} {b₀:Stmt} {xb:SxX} {xh:Sx} (j:Nat) {y n:Str} {C:Value} {np hpos:Pos} (hst:X.stack=X.env :: X.outer) (hfr:X.env.frame=some X.env.locals) (hb:∀ W pn,Q (da G { X with xe:=W,pn:=pn } body xb)) (hh:∀ a,Q (cB G (Cx.hand X a) (b₀ :: suite) xh)) (hN:X.N.Nodup) (hj:X.N[j]?=some n) (hl:X.env.scope.names.lookup n=some .local) (hm:X.mg y=some C) (hg:Gl X y) (hdb:(y == ("__debug__" : Str))=false) (hz:X.mg z=some (.ref (G.ct 0).1)) (he:PySem.W.exmOne X.K (.ref (G.ct 0).1) C=some true):Q (PSV G X (.Try body [.ExceptHandler (some (.Name y np)) (some n) (b₀ :: suite) hpos] [] [] pos) (kL xb j (mt1 z) xh)):=⟨sR j hst hfr (fun W pn=>(hb W pn).h) (fun a=>(hh a).h) hN hj hl hm hg hdb hz he⟩
theorem qH {a:Expr} {ca:Ex} {p1 p2:Pos} {D:Addr} (b:Bool) (ha:Q (PV G X a ca)) (hg2:Gl X x) (hm2:X.mg x=some (.ref D)) (hdb:(x == ("__debug__" : Str))=false) (hK:X.K=G.K) (hg:Gl X "isinstance") (hm:X.mg "isinstance" = none) (hx:∀ k,XCl X.K (G.ct k).1/\PySem.W.kitOne X.K (.ref (G.ct k).1) (.ref D)=some b) (hs:starEach [a,.Name x p2] X.env=(false,eval a X.env) :: starEach [.Name x p2] X.env) (hs2:starEach [.Name x p2] X.env=(false,eval (.Name x p2) X.env) :: starEach [] X.env) (hpl:(backTo pos (starEach [Expr.Name x p2] X.env)).any (·.1)=false):Q (PV G X (.Call (.Name "isinstance" p1) [a,.Name x p2] [] pos) (fe (fun _=>some b) ca)):=⟨v7 b ha.h hg2 hm2 hdb hK hg hm hx hs hs2 hpl⟩
theorem qm {a:Expr} {ca:Ex} {p1 p2:Pos} {n:String} (b:Bool) (ha:Q (PV G X a ca)) (hg2:Gl X x) (hm2:X.mg x=none) (hv:bootBuiltins x=some (.type n)) (hne:x ≠ "__name__") (hdb:(x == ("__debug__" : Str))=false) (hK:X.K=G.K) (hg:Gl X "isinstance") (hm:X.mg "isinstance" = none) (hx:∀ k,XCl X.K (G.ct k).1/\PySem.W.kitOne X.K (.ref (G.ct k).1) (.type n)=some b) (hs:starEach [a,.Name x p2] X.env=(false,eval a X.env) :: starEach [.Name x p2] X.env) (hs2:starEach [.Name x p2] X.env=(false,eval (.Name x p2) X.env) :: starEach [] X.env) (hpl:(backTo pos (starEach [Expr.Name x p2] X.env)).any (·.1)=false):Q (PV G X (.Call (.Name "isinstance" p1) [a,.Name x p2] [] pos) (fe (fun _=>some b) ca)):=⟨wg b ha.h hg2 hm2 hv hne hdb hK hg hm hx hs hs2 hpl⟩
theorem mW {z:Str} {body suite:List Stmt} {b₀:Stmt} {xb:SxX} {xh:Sx} {y:Str} {C:Value} {np hpos:Pos} (hst:X.stack=X.env :: X.outer) (hfr:X.env.frame=some X.env.locals) (hb:∀ W pn,Q (da G { X with xe:=W,pn:=pn } body xb)) (hh:∀ a,Q (cB G (Cx.hand X a) (b₀ :: suite) xh)) (hm:X.mg y=some C) (hg:Gl X y) (hdb:(y == ("__debug__" : Str))=false) (hz:X.mg z=some (.ref (G.ct 0).1)) (he:PySem.W.exmOne X.K (.ref (G.ct 0).1) C=some true):Q (PSV G X (.Try body [.ExceptHandler (some (.Name y np)) none (b₀ :: suite) hpos] [] [] pos) (iB xb (mt1 z) xh)):=⟨qq hst hfr (fun W pn=>(hb W pn).h) (fun a=>(hh a).h) hm hg hdb hz he⟩
theorem lU (ha:Q (PV G X a ca)) (hb:Q (PV G X b cb)) (hm:behindInMarks .NotIn b=false):Q (PVT G X (.Compare a [.NotIn] [b] pos) (e2 fG ca cb)):=⟨pZ ha.h hb.h hm⟩
theorem mH {i c:Nat} {d:Tx} {x x1 x2:Str} {p0 p1 p2 apos' cpos':Pos} {j1 j2:Nat} (ha:Q (PV G X a ca)) (hN:X.N[i]?=some x) (hv:Vis X.env.scope x) (h1:x1=sx [c]) (h2:x2=sx d) (hne:(x1 == x2)=false) (hbase:attributeBase a "upper" X.env (eval a X.env)=eval a X.env) (hline:(apos.endLine == cpos.line)=true) (hd:(x == ("__debug__" : Str))=false) (hcd:(x == ("__classdict__" : Str))=false) (hbase':attributeBase (.Name x p0) "replace" X.env (eval (.Name x p0) X.env)=eval (.Name x p0) X.env) (hline':(apos'.endLine == cpos'.line)=true):Q (PVs G X [.Call (.Attribute a "upper" apos) [] [] cpos,.Call (.Attribute (.Name x p0) "replace" apos') [.Constant (.str x1) j1 p1,.Constant (.str x2) j2 p2] [] cpos'] (af (eUp ca) (af (mw i c d) ao))):=⟨pR ha.h hN hv h1 h2 hne hbase hline hd hcd hbase' hline'⟩
theorem oQ {a:Expr} {ca:Ex} {p1 p2:Pos} {es:List Expr} {us:List V} {x1:Nat} (ha:Q (PV G X a ca)) (hul:us.length<=1000) (hg:Gl X "isinstance") (hm:X.mg "isinstance" = none) (hx:∀ k,XCl X.K (G.ct k).1/\Kls X (G.ct k).1 es us) (hs:starEach [a,.Tuple es x1 p2] X.env=(false,eval a X.env) :: starEach [.Tuple es x1 p2] X.env) (hs2:starEach [.Tuple es x1 p2] X.env=(false,eval (.Tuple es x1 p2) X.env) :: starEach [] X.env) (hpl:(backTo pos (starEach [Expr.Tuple es x1 p2] X.env)).any (·.1)=false):Q (PV G X (.Call (.Name "isinstance" p1) [a,.Tuple es x1 p2] [] pos) (fe (fun _=>some false) ca)):=⟨tZ ha.h hul hg hm hx hs hs2 hpl⟩
end
section
variable {G:Gx} {P:Program} {w:World} {K:Zi} {mg:Zh} {base:Heap}
theorem dD {x:Str} {st:Stmt} {f:Addr} {fd:FuncData} {N ps:List Str} {k np nn:Nat} {c:Sx} (F:Fun K x x st f fd) (hm:mg x=some (.ref f)) (S:FnScope N ps (ai st)) (hp:ps.length=np) (hn:N.length=nn)
  (hbd:∀ (kV doc pm:Value) (an:Option Addr) (cdv ct:Value) (us:Zf),us.length=ps.length->bindArgs (PySem.W.fnOf x x (bb st) (aO st) (ai st) .none kV doc pm an cdv ct) ⟨us,[]⟩=pure (ps.zip us))
  (hb:∀ (cdv:Value) (A:Around) (outer:List PySem.Env) (s:Shared) (H:Hp) (E:XK),Room k (A.deeper (envOfC x (ai st) s.heap.objs.size f cdv))->Q (cB G (fm CX0 P w K mg base N x (ai st) f cdv A outer s H E).nox (aO st) c)) :
  FnAt P w K mg base (k+1) x ps G (fn np nn c):=vk F hm S hp hn hbd fun cdv A outer s H E hr=>(hb cdv A outer s H E hr).h
theorem xI {x qual:Str} {st:Stmt} {f:Addr} {fd:FuncData} {N ps:List Str} {k np nn:Nat} {c:Sx} (F:Fun K x qual st f fd) (S:FnScope N ps (ai st)) (hp:ps.length=np) (hn:N.length=nn)
  (hb:∀ (cdv:Value) (A:Around) (outer:List PySem.Env) (s:Shared) (H:Hp) (E:XK),Room k (A.deeper (envOfC qual (ai st) s.heap.objs.size f cdv))->Q (cB G (fm CX0 P w K mg base N qual (ai st) f cdv A outer s H E).nox (aO st) c)) :
  FnOk P w K mg base CX0 (k+1) f fd ps (spF G (fn np nn c)):=fnV F S hp hn fun cdv A outer s H E hr=>(hb cdv A outer s H E hr).h
theorem u4 {x:Str} {st:Stmt} {f:Addr} {fd:FuncData} {N ps:List Str} {k np nn:Nat} {c:SxX} (F:Fun K x x st f fd) (hm:mg x=some (.ref f)) (S:FnScope N ps (ai st)) (hp:ps.length=np) (hn:N.length=nn)
  (hbd:∀ (kV doc pm:Value) (an:Option Addr) (cdv ct:Value) (us:Zf),us.length=ps.length->bindArgs (PySem.W.fnOf x x (bb st) (aO st) (ai st) .none kV doc pm an cdv ct) ⟨us,[]⟩=pure (ps.zip us))
  (hb:∀ (cdv:Value) (A:Around) (outer:List PySem.Env) (s:Shared) (H:Hp) (E:XK),Room k (A.deeper (envOfC x (ai st) s.heap.objs.size f cdv))->Q (da G (fm (XN.CXE P w base) P w K mg base N x (ai st) f cdv A outer s H E) (aO st) c)) :
  FnXt P w K mg base (k+1) x ps G (fnx np nn c):=⟨f,fd,fnX F S hp hn fun cdv A outer s H E hr=>(hb cdv A outer s H E hr).h,hm,F.kp,F.binds hbd⟩
end
end VS
end
section
namespace T50
open VS
noncomputable def aQ:Fn:=fn 1 1
  (cA (fQ (eIs .str (ah 0)) (eN fZ (af (cM 1 (cn 0) (dM (ah 0)) none (gg oLe oLe (eC (.str [97])) (ah 0) (eC (.str [122])))) ao))))
noncomputable def dX:Fn:=fn 1 1
  (cA (fQ (aS aQ (af (ah 0) ao)) (e2 oLe (eN cp (af (ah 0) ao)) (eC (.int 200)))))
noncomputable def cV:Fn:=fn 1 1
  (cA (eN kK (af (cM 1 (cn 0) (dM (ah 0)) none (eN cp (af (ah 0) ao))) ao)))
noncomputable def cR:Fn:=fn 1 1
  (aA (sIf (eOr (gI (eIs .list (ah 0))) (e2 oGt (eN cp (af (ah 0) ao)) (eC (.int 8)))) (cA (eC (.bl false))) dJ)
  (cA (fQ (eN fZ (af (cM 1 (cn 0) (dM (ah 0)) none (aS aQ (af (ah 0) ao))) ao)) (e2 oLe (aS cV (af (ah 0) ao)) (eC (.int 120))))))
noncomputable def bx:Fn:=fn 1 1
  (cA (eOr (e2 oEq (ah 0) (eC (.str [45]))) (fQ (e2 oNe (ah 0) (eC (.str []))) (aS dX (af (ah 0) ao)))))
noncomputable def b8:Fn:=fn 1 1
  (cA (eIf (e2 oNe (ah 0) (eC (.str [45]))) (ah 0) (eC (.str []))))
noncomputable def aR:FnX:=fnx 1 3
  (eH (xIf (gI (eIs .str (ah 0))) (ie ("NoBook" : PySem.Str) (af (eC (.str [97,32,98,111,111,107,32,105,115,32,114,101,97,100,32,102,114,111,109,32,97,32,116,101,120,116,32,97,108,111,110,101])) ao)) (sL dJ))
  (eH (sL (sIf (e2 oEq (ah 0) (eC (.str [46]))) (cA (bC ao)) dJ))
  (eH (sL (bh 1 (eM cz (ah 0) (af (eC (.str [32])) ao))))
  (eH (sL (fI 2 (cM 1 (cn 0) (dM (ah 1)) none (aS b8 (af (ah 0) ao)))))
  (eH (xIf (eOr (gI (eN fZ (af (cM 1 (cn 0) (dM (ah 1)) none (aS bx (af (ah 0) ao))) ao))) (gI (aS cR (af (ah 2) ao)))) (ie ("NoBook" : PySem.Str) (af (eC (.str [116,104,105,115,32,105,115,32,116,104,101,32,116,101,120,116,32,111,102,32,110,111,32,98,111,111,107])) ao)) (sL dJ))
  (sL (iL 2)))))))
noncomputable def gy:Fn:=plF aR
noncomputable def aX:Fn:=fn 2 2
  (aA (sIf (e2 oLt (ah 1) (eN cp (af (ah 0) ao))) (cA (e2 bG (ah 0) (ah 1))) dJ)
  (cA (eC (.int 0))))
noncomputable def df:Fn:=fn 2 3
  (aA (bh 2 (e2 oMod (e2 aY (e2 aY (e2 oMod (ah 0) (eC (.int 2147483629))) (e2 gL (eC (.int 48271)) (ah 1))) (eC (.int 11))) (eC (.int 2147483629))))
  (aA (bh 2 (e2 aY (e2 oMod (e2 gL (ah 2) (ah 2)) (eC (.int 2147483629))) (e2 gL (eC (.int 7919)) (ah 1))))
  (cA (e2 oMod (e2 gL (ah 2) (ah 2)) (eC (.int 2147483587))))))
noncomputable def cY:Sx :=
  (sIf (e2 oEq (e2 oMod (aS aX (af (ah 0) (af (eC (.int 0)) ao))) (eC (.int 2))) (eC (.int 0))) (aA (sX (gM 6 [] bH (af (e2 bG (ah 1) (e2 oMod (ah 4) (eN cp (af (ah 1) ao)))) ao)))
  (bh 4 (e2 dC (ah 4) (eN cp (af (ah 1) ao))))) (sX (gM 6 [] bH (af (e2 bG (ah 1) (e2 oMod (e2 dC (aS df (af (ah 4) (af (e2 aY (e2 gL (eC (.int 30)) (ah 3)) (ah 7)) ao))) (eC (.int 7))) (eN cp (af (ah 1) ao)))) ao))))
noncomputable def cy:Fn:=fn 4 8
  (aA (bh 4 (aS aX (af (ah 0) (af (e2 aY (eC (.int 1)) (ah 3)) ao))))
  (aA (bh 5 (e2 oMod (ah 4) (e2 aY (ah 2) (eC (.int 1)))))
  (aA (bh 4 (e2 dC (ah 4) (e2 aY (ah 2) (eC (.int 1)))))
  (aA (fI 6 (bC ao))
  (aA (iu (cn 7) (cL (ah 5)) cY)
  (aA (lY 6)
  (cA (eM bJ (eC (.str [])) (af (ah 6) ao)))))))))
noncomputable def ay:Fn:=fn 1 5
  (aA (bh 1 (aS aX (af (ah 0) (af (eC (.int 0)) ao))))
  (aA (bh 2 (e2 bG (bC (af (eC (.str [97,98])) (af (eC (.str [97,98,99])) (af (eC (.str [97,98,99,100])) (af (eC (.str [97,122])) (af (eC (.str [97])) (af (eC (.str [97,98,99,100,101,102,103,104,105,106,107,108,109,110,111,112,113,114,115,116,117,118,119,120,121,122])) ao))))))) (e2 oMod (e2 dC (ah 1) (eC (.int 2))) (eC (.int 6)))))
  (aA (bh 3 (e2 bG (bC (af (eC (.int 1)) (af (eC (.int 2)) (af (eC (.int 3)) (af (eC (.int 4)) (af (eC (.int 2)) (af (eC (.int 1)) (af (eC (.int 0)) (af (eC (.int 8)) ao))))))))) (e2 oMod (e2 dC (ah 1) (eC (.int 12))) (eC (.int 8)))))
  (aA (bh 4 (e2 bG (bC (af (eC (.int 24)) (af (eC (.int 12)) (af (eC (.int 8)) (af (eC (.int 6)) ao))))) (e2 fq (eN jQ (af (ah 3) (af (eC (.int 4)) ao))) (eC (.int 1)))))
  (aA (sIf (e2 oEq (e2 oMod (e2 dC (ah 1) (eC (.int 96))) (eC (.int 8))) (eC (.int 5))) (bh 4 (e2 dC (eC (.int 60)) (eN j5 (af (eC (.int 1)) (af (ah 3) ao))))) dJ)
  (aA (sIf (fQ (e2 oEq (ah 3) (eC (.int 8))) (e2 oNe (e2 oMod (e2 dC (ah 1) (eC (.int 96))) (eC (.int 8))) (eC (.int 5)))) (bh 4 (eC (.int 3))) dJ)
  (cA (cM 1 (cn 0) (cL (ah 3)) none (aS cy (af (ah 1) (af (ah 3) (af (ah 5) (af (ah 0) ao)))))))))))))
noncomputable def bF:Fn:=fn 1 1
  (aA (sIf (e2 oEq (ah 0) (bC ao)) (cA (eC (.str [46]))) dJ)
  (cA (eM bJ (eC (.str [32])) (af (cM 1 (cn 0) (dM (ah 0)) none (e2 bG (bC (af (eC (.str [45])) (af (ah 0) ao))) (eN fP (af (e2 oNe (ah 0) (eC (.str []))) ao)))) ao))))
noncomputable def dy:Fn:=fn 1 2
  (aA (bh 1 (eC (.str [32,33,34,35,36,38,39,40,41,42,43,44,45,46,47,48,49,50,51,52,53,54,55,56,57,58,59,60,61,62,63,64,65,66,67,88,89,90,91,93,94,95,96,97,98,99,100,101,102,103,104,105,106,107,108,109,110,111,112,113,114,115,116,117,118,119,120,121,122,123,124,125,126,10])))
  (cA (e2 bG (ah 1) (e2 oMod (ah 0) (eN cp (af (ah 1) ao))))))
noncomputable def dz:Fn:=fn 2 6
  (aA (bh 2 (aS bF (af (ah 0) ao)))
  (aA (bh 3 (e2 oMod (e2 dC (ah 1) (eC (.int 32))) (e2 aY (eN cp (af (ah 2) ao)) (eC (.int 1)))))
  (aA (bh 4 (aS dy (af (e2 dC (ah 1) (eC (.int 7))) ao)))
  (aA (bh 5 (bC (af (e2 aY (e2 aY (eSl (ah 2) none (some (ah 3))) (ah 4)) (eSl (ah 2) (some (ah 3)) none)) (af (e2 aY (e2 aY (eSl (ah 2) none (some (ah 3))) (ah 4)) (eSl (ah 2) (some (e2 aY (ah 3) (eC (.int 1)))) none)) (af (e2 aY (eSl (ah 2) none (some (ah 3))) (eSl (ah 2) (some (e2 aY (ah 3) (eC (.int 1)))) none)) (af (e2 aY (ah 2) (eC (.str [32]))) ao))))))
  (aA (bh 5 (e2 aY (ah 5) (bC (af (e2 aY (eC (.str [32])) (ah 2)) (af (e2 aY (e2 aY (eSl (ah 2) none (some (ah 3))) (eC (.str [32]))) (eSl (ah 2) (some (ah 3)) none)) (af (e2 aY (ah 2) (eC (.str [32,46]))) (af (e2 aY (eC (.str [46,32])) (ah 2)) (af (e2 aY (ah 2) (eC (.str [32,45]))) (af (e2 aY (eC (.str [45])) (ah 2)) (af (eC (.str [])) ao))))))))))
  (aA (bh 5 (e2 aY (ah 5) (bC (af (eM bJ (eC (.str [32])) (af (e2 aY (bC (af (ah 2) ao)) (e2 fO (bC (af (eC (.str [97])) ao)) (e2 fq (eC (.int 9)) (eN cp (af (ah 0) ao))))) ao)) (af (e2 aY (e2 aY (ah 2) (eC (.str [32]))) (e2 eE (eC (.str [122])) (e2 fq (eC (.int 121)) (eN cp (af (eM bJ (eC (.str [])) (af (ah 0) ao)) ao))))) ao)))))
  (aA (bh 5 (e2 aY (ah 5) (bC (af (e2 aY (e2 aY (ah 2) (eC (.str [32]))) (e2 eE (eC (.str [122])) (e2 fq (eC (.int 120)) (eN cp (af (eM bJ (eC (.str [])) (af (ah 0) ao)) ao))))) (af (eUp (ah 2)) (af (mw 2 32 [32,32]) ao))))))
  (cA (e2 bG (ah 5) (e2 oMod (ah 1) (eC (.int 16))))))))))))
noncomputable def dk:Sx :=
  (sIf (e2 fG (ah 3) (eC (.str [97,98,99,100,101,102,103,104,105,106,107,108,109,110,111,112,113,114,115,116,117,118,119,120,121,122]))) (cA (eC .non)) dJ)
noncomputable def cJ:Sx :=
  (aA (sIf (e2 oNe (ah 2) (eC (.str [45]))) (iu (cn 3) (dM (ah 2)) dk) dJ)
  (aA (sIf (e2 oEq (ah 2) (eC (.str []))) (cA (eC .non)) dJ)
  (sX (gM 1 [] bH (af (e2 bG (bC (af (ah 2) (af (eC (.str [])) ao))) (eN fP (af (e2 oEq (ah 2) (eC (.str [45]))) ao))) ao)))))
noncomputable def d4:Fn:=fn 1 4
  (aA (sIf (e2 oEq (ah 0) (eC (.str [46]))) (cA (bC ao)) dJ)
  (aA (fI 1 (bC ao))
  (aA (iu (cn 2) (dM (eM cz (ah 0) (af (eC (.str [32])) ao))) cJ)
  (aA (lY 1)
  (aA (sIf (eOr (e2 oGt (eN cp (af (ah 1) ao)) (eC (.int 8))) (e2 oGt (eN cp (af (eM bJ (eC (.str [])) (af (ah 1) ao)) ao)) (eC (.int 120)))) (cA (eC .non)) dJ)
  (iL 1))))))
noncomputable def bO:Fn:=fn 1 4
  (aA (fI 1 (eC .non))
  (aA (bh 2 (eC .non))
  (aA (kL (xOf (bh 2) (dR aR (af (ah 0) ao))) 3 (mt1 ("NoBook" : PySem.Str)) (aA (fI 1 (bC (af (fe (fun _=>some true) (ah 3)) (af (fe (fun _=>some true) (ah 3)) ao))))
  (sX (gM 1 [] bH (af (fe (fun _=>some false) (ah 3)) ao)))))
  (aA (lY 1)
  (aA (sIf (nj (ah 1)) (iL 2) dJ)
  (cA (e2 bG (bC (af (eC .non) (af (eC (.str [111,116,104,101,114])) ao))) (eN fP (af (e2 oNe (ah 1) (bC (af (eC (.bl true)) (af (eC (.bl true)) (af (eC (.bl false)) ao))))) ao)))))))))
noncomputable def fK:Sx :=
  (aA (bh 3 (e2 aY (aS aX (af (ah 0) (af (e2 aY (eC (.int 12)) (ah 2)) ao))) (e2 gL (eC (.int 7368787)) (ah 2))))
  (aA (bh 4 (aS dz (af (ah 1) (af (ah 3) ao))))
  (aA (sIf (e2 oNe (aS bO (af (ah 4) ao)) (aS d4 (af (ah 4) ao))) (cA (eC (.bl false))) dJ)
  (sIf (jB (aS bO (af (e2 bG (bC (af (eC .non) (af (eC (.int 5)) (af (eC (.bl true)) (af (bC (af (ah 4) ao)) (af (nc (af (ah 4) ao)) (af (px 0 []) (af (eC (.int 0)) ao)))))))) (e2 oMod (ah 3) (eC (.int 7)))) ao))) (cA (eC (.bl false))) dJ))))
noncomputable def lB:Fn:=fn 1 6
  (aA (bh 1 (aS ay (af (ah 0) ao)))
  (aA (iu (cn 2) (cL (eC (.int 16))) fK)
  (aA (bh 5 (eC (.bl false)))
  (aA (iB (xOf (fun c=>sX (xP c)) (dR aR (af (eC (.str [97,32,32,98])) ao))) (mt1 ("NoBook" : PySem.Str)) (bh 5 (eC (.bl true))))
  (cA (fQ (ah 5) (e2 oEq (aS gy (af (aS bF (af (ah 1) ao)) ao)) (ah 1))))))))
noncomputable def cellAt (ns:Zc) (k:Nat):Int:=(ns[k]?).getD 0
theorem eL (ns:Zc) (k:Nat):aX [.scr ns,.int k]=some (.fr,.int (cellAt ns k)):=by
 by_cases h:k < ns.length
 ·have h2:(k:Int) < (ns.length:Int):=by omega
  simp [aX,h,h2,ixP,cellAt]
 ·have h2:¬ (k:Int) < (ns.length:Int):=by omega
  simp [aX,h2,cellAt,yU (yn h)]
noncomputable def mixed (c k:Int):Int :=
 let n:=(c % 2147483629+48271 * k+11) % 2147483629
 let n:=n * n % 2147483629+7919 * k
 n * n % 2147483587
theorem p9 (c k:Int) (h0:0<=k) (h1:k < 1000000):df [.int c,.int k]=some (.fr,.int (mixed c k)):=by
 have e0:=zG (c % 2147483629+48271 * k+11) (b:=2147483629) (by decide)
 have e1:=zN (c % 2147483629+48271 * k+11) (b:=2147483629) (by decide)
 have e2:=zG ((c % 2147483629+48271 * k+11) % 2147483629 * ((c % 2147483629+48271 * k+11) % 2147483629)) (b:=2147483629) (by decide)
 have e3:=zN ((c % 2147483629+48271 * k+11) % 2147483629 * ((c % 2147483629+48271 * k+11) % 2147483629)) (b:=2147483629) (by decide)
 simp [df,mixed,aw,gv (i:=48271) (by decide),gv (i:=7919) (by decide)]
 rw [gv (by omega)]
 simp [aw]
 rw [gv (by omega)]
 simp [aw]
noncomputable def txt (ns:Zc) (letters:Tx) (j:Nat):Int->Zd->Tx
 | _,[]=>[]
 | c,k :: r=>if cellAt ns 0 % 2=0 then letters.getD (c % letters.length).toNat 0 :: txt ns letters j (c / letters.length) r
  else letters.getD (mixed c (30 * j+k) / 7 % letters.length).toNat 0 :: txt ns letters j c r
theorem jk (ns:Zc) (letters:Tx) (j:Nat):∀ (l:Zd) (c:Int),(txt ns letters j c l).length=l.length
 | [],_=>rfl
 | k :: r,c=>by
  unfold txt
  split <;> simp [jk ns letters j r]
theorem jg (ns:Zc) (letters:Tx) (j:Nat) (h:0 < letters.length):∀ (l:Zd) (c:Int),∀ x∈txt ns letters j c l,x∈letters
 | [],_=>fun x hx=>by simp [txt] at hx
 | k :: r,c=>fun x hx=>by
  have g:∀ y:Int,letters.getD (y % letters.length).toNat 0∈letters:=fun y=>by
   have b0:=zG y (b:=(letters.length:Int)) (by omega)
   have b1:=zN y (b:=(letters.length:Int)) (by omega)
   have:(y % letters.length).toNat < letters.length:=by omega
   rw [zW,zX this]
   exact yS this
  unfold txt at hx
  split at hx
  ·rcases zj.mp hx with e | e
   ·rw [e];exact g c
   ·exact jg ns letters j h r _ x e
  ·rcases zj.mp hx with e | e
   ·rw [e];exact g _
   ·exact jg ns letters j h r _ x e
theorem ia {m n:Md} (letters:Tx) (h:0 < letters.length) (y:Int):bG (m,.str letters) (n,.int (y % letters.length))=some (.fr,.str [letters.getD (y % letters.length).toNat 0]):=by
 have b0:=zG y (b:=(letters.length:Int)) (by omega)
 have b1:=zN y (b:=(letters.length:Int)) (by omega)
 have b2:(y % letters.length).toNat < letters.length:=by omega
 simp [ixP,b0,b1,zW,b2]
theorem gP (ns:Zc) (letters:Tx) (most j size:Int) (jn:Nat) (hj:j=jn) (hjn:jn<=1000) (hl:0 < letters.length) (hl2:letters.length < 1000):∀ (ks:Zd) (c:Int) (signs:Z2) (z:Za),(∀ k∈ks,k < 1000)->signs.length+ks.length<=1000 →
  ∃ c' z',forL (cn 7) cY (ks.map fun (k:Nat)=>T.int (k:Int)) [some (.pu (.scr ns)),some (.pu (.str letters)),some (.pu (.int most)),some (.pu (.int j)),some (.pu (.int c)),some (.pu (.int size)),some (.ow (.lst signs)),z] =
   some (.nx [some (.pu (.scr ns)),some (.pu (.str letters)),some (.pu (.int most)),some (.pu (.int j)),some (.pu (.int c')),some (.pu (.int size)),some (.ow (.lst (signs++(txt ns letters jn c ks).map fun x=>.str [x]))),z'])
 | [],c,signs,z,_,_=>⟨c,z,by simp [forL,txt]⟩
 | k :: ks,c,signs,z,hk,hs=>by
  have h1:k < 1000:=hk k zx
  have hs':signs.length+ks.length < 1000:=by simp only [zZ] at hs;omega
  have ll:(0:Int) < letters.length:=by omega
  have l0:=eL ns 0
  simp only [Int.natCast_zero] at l0
  subst hj
  have mx:=p9 c (30 * (jn:Int)+k) (by omega) (by omega)
  by_cases p:cellAt ns 0 % 2=0
  ·obtain ⟨c',z',e⟩:=gP ns letters most jn size jn rfl hjn hl hl2 ks (c / letters.length) (signs++[.str [letters.getD (c % letters.length).toNat 0]]) (some (.pu (.int k))) (fun k hk'=>hk k (zy _ hk')) (by simp only [zp,yq];omega)
   refine ⟨c',z',?_⟩
   rw [zR,iZ (η1:=[some (.pu (.scr ns)),some (.pu (.str letters)),some (.pu (.int most)),some (.pu (.int jn)),some (.pu (.int c)),some (.pu (.int size)),some (.ow (.lst signs)),some (.pu (.int k))]) (by simp)
    (η2:=[some (.pu (.scr ns)),some (.pu (.str letters)),some (.pu (.int most)),some (.pu (.int jn)),some (.pu (.int (c / letters.length))),some (.pu (.int size)),some (.ow (.lst (signs++[.str [letters.getD (c % letters.length).toNat 0]]))),some (.pu (.int k))]) (by
     simp [-bG,-zW,cY,l0,aw (j:=2) (by decide),aw ll,p,ia letters hl,fo (show signs.length < 16777216 by omega),av (show (0:Int) < letters.length/\(letters.length:Int) < 1073741824 by omega)]),e]
   simp [txt,p]
  ·obtain ⟨c',z',e⟩:=gP ns letters most jn size jn rfl hjn hl hl2 ks c (signs++[.str [letters.getD (mixed c (30 * jn+k) / 7 % letters.length).toNat 0]]) (some (.pu (.int k))) (fun k hk'=>hk k (zy _ hk')) (by simp only [zp,yq];omega)
   refine ⟨c',z',?_⟩
   rw [zR,iZ (η1:=[some (.pu (.scr ns)),some (.pu (.str letters)),some (.pu (.int most)),some (.pu (.int jn)),some (.pu (.int c)),some (.pu (.int size)),some (.ow (.lst signs)),some (.pu (.int k))]) (by simp)
    (η2:=[some (.pu (.scr ns)),some (.pu (.str letters)),some (.pu (.int most)),some (.pu (.int jn)),some (.pu (.int c)),some (.pu (.int size)),some (.ow (.lst (signs++[.str [letters.getD (mixed c (30 * jn+k) / 7 % letters.length).toNat 0]]))),some (.pu (.int k))]) (by
     simp [-bG,-zW,cY,l0,aw (j:=2) (by decide),aw ll,p,mx,gv (i:=30) (by decide),ia letters hl,fo (show signs.length < 16777216 by omega),av (j:=7) (by decide)]),e]
   simp [txt,p]
noncomputable def textOf (ns:Zc) (letters:Tx) (most:Int) (j:Nat):Tx:=txt ns letters j (cellAt ns (1+j) / (most+1)) (List.range (cellAt ns (1+j) % (most+1)).toNat)
theorem sf (ns:Zc) (letters:Tx) (most:Int) (j:Nat) (hj:j<=1000) (hl:0 < letters.length) (hl2:letters.length < 1000) (h0:0<=most) (h1:most < 1000) :
  cy [.scr ns,.str letters,.int most,.int j]=some (.fr,.str (textOf ns letters most j)):=by
 have c:=eL ns (1+j)
 have e1:((1+j:Nat):Int)=1+(j:Int):=by omega
 rw [e1] at c
 have b0:=zG (cellAt ns (1+j)) (b:=most+1) (by omega)
 have b1:=zN (cellAt ns (1+j)) (b:=most+1) (by omega)
 obtain ⟨c',z',e⟩:=gP ns letters most j (cellAt ns (1+j) % (most+1)) j rfl hj hl hl2 (List.range (cellAt ns (1+j) % (most+1)).toNat) (cellAt ns (1+j) / (most+1)) [] none (fun k hk=>by have:=List.mem_range.mp hk;omega) (by rw [yo];simp;omega)
 have rg:∀ (a:Ex) (η:Env) (m:Md),a η=some (m,.int (cellAt ns (1+j) % (most+1)))->cL a η=some (.fr,rng 0 (cellAt ns (1+j) % (most+1)).toNat):=fun a η m e=>fu e (by omega)
 have jn:∀ m n,bJ (m,.str []) [(n,.lst ((txt ns letters j (cellAt ns (1+j) / (most+1)) (List.range (cellAt ns (1+j) % (most+1)).toNat)).map fun x=>.str [x]))]=some (.fr,.str (textOf ns letters most j)):=fun m n=>by
  rw [fT (strs_map (fun x=>[x]) _) (by rw [fH,jk,yo];omega),fH]
  rfl
 simp [cy,c,aw (show (0:Int) < most+1 by omega),av (show (0:Int) < most+1/\most+1 < 1073741824 by omega),bK]
 rw [rg _ _ .fr (by simp)]
 simp [ke]
 rw [e]
 simp [eG,jn]
theorem kS (ns:Zc) (letters:Tx) (most:Int) (j:Nat) (h0:0<=most):(textOf ns letters most j).length<=most.toNat:=by
 unfold textOf
 rw [jk,yo]
 have b0:=zG (cellAt ns (1+j)) (b:=most+1) (by omega)
 have b1:=zN (cellAt ns (1+j)) (b:=most+1) (by omega)
 omega
theorem kO (ns:Zc) (letters:Tx) (most:Int) (j:Nat) (h:0 < letters.length):∀ x∈textOf ns letters most j,x∈letters:=jg ns letters j h _ _
noncomputable def bE:List Tx:=[[97,98],[97,98,99],[97,98,99,100],[97,122],[97],[97,98,99,100,101,102,103,104,105,106,107,108,109,110,111,112,113,114,115,116,117,118,119,120,121,122]]
theorem iq (i:Int) (h0:0<=i) (h1:i < 6):0 < (bE.getD i.toNat []).length/\(bE.getD i.toNat []).length < 1000/\∀ c∈bE.getD i.toNat [],97<=c/\c<=122:=by
 have:∀ k,k < 6->0 < (bE.getD k []).length/\(bE.getD k []).length < 1000/\∀ c∈bE.getD k [],97<=c/\c<=122:=by decide
 exact this i.toNat (by omega)
noncomputable def fJ (ns:Zc) (letters:Tx) (most:Int) (count:Nat):List Tx:=(List.range count).map fun j=>textOf ns letters most j
theorem oE (ns:Zc) (letters:Tx) (most:Int) (count:Nat) (h0:0<=most):(fJ ns letters most count).length=count/\(fJ ns letters most count).flatten.length<=count * most.toNat/\(0 < letters.length->∀ t∈fJ ns letters most count,∀ c∈t,c∈letters):=by
 refine ⟨by simp [fJ],?_,fun hl t ht c hc=>?_⟩
 ·induction count with
  | zero=>simp [fJ]
  | succ n ih =>
   have:=kS ns letters most n h0
   simp only [fJ,List.range_succ,List.map_append,z6,zp,zR,List.map_nil,zc,List.flatten_nil,yz] at ih ⊢
   rw [yD]
   omega
 ·obtain ⟨j,_,rfl⟩:=yZ.mp ht
  exact kO ns letters most j hl c hc
theorem lS (ns:Zc) (letters:Tx) (most count:Int) (cell:T) (h0:0<=most) (h1:most < 1000) (c0:0<=count) (c1:count<=8) (hl:0 < letters.length) (hl2:letters.length < 1000) :
  cM 1 (cn 0) (cL (ah 3)) none (aS cy (af (ah 1) (af (ah 3) (af (ah 5) (af (ah 0) ao))))) [some (.pu (.scr ns)),some (.pu cell),some (.pu (.str letters)),some (.pu (.int count)),some (.pu (.int most))] =
   some (.fr,.lst ((fJ ns letters most count.toNat).map .str)):=by
 have:=cP (k:=1) (tg:=cn 0) (it:=cL (ah 3)) (elt:=aS cy (af (ah 1) (af (ah 3) (af (ah 5) (af (ah 0) ao)))))
  (η:=[some (.pu (.scr ns)),some (.pu cell),some (.pu (.str letters)),some (.pu (.int count)),some (.pu (.int most))]) (m:=.fr) (fun (j:Nat)=>T.int (j:Int)) (fun j=>T.str (textOf ns letters most j)) (List.range count.toNat)
  (by rw [fu (m:=.fr) (j:=count) (by simp) (by omega),ke]) rfl (by rw [yo];omega) (fun j hj=>⟨_,by simp;rfl,by
   have:=List.mem_range.mp hj
   simp [sf ns letters most j (by omega) hl hl2 h0 h1]⟩)
 rw [this]
 simp [fJ]
set_option maxHeartbeats 8000000 in
theorem uH (ns:Zc):∃ bk:List Tx,ay [.scr ns]=some (.fr,.lst (bk.map .str))/\bk.length<=8/\bk.flatten.length<=60/\∀ t∈bk,∀ c∈t,97<=c/\c<=122:=by
 have l0:=eL ns 0
 simp only [Int.natCast_zero] at l0
 generalize cellAt ns 0=cell at l0
 have a0:=zG (cell / 2) (b:=6) (by decide)
 have a1:=zN (cell / 2) (b:=6) (by decide)
 have li:=oO (m:=.fr) (n:=.fr) T.str bE (cell / 2 % 6) [] a0 (by simpa [bE] using a1) rfl
 simp only [bE,zR,List.map_nil] at li
 obtain ⟨k1,k2,k3⟩:=iq (cell / 2 % 6) a0 a1
 simp only [bE] at k1 k2 k3
 generalize hL:(List.getD [[97,98],[97,98,99],[97,98,99,100],[97,122],[97],[97,98,99,100,101,102,103,104,105,106,107,108,109,110,111,112,113,114,115,116,117,118,119,120,121,122]] (cell / 2 % 6).toNat [])=L at li k1 k2 k3
 have main:∀ (count most:Int),0<=most->most < 1000->0<=count->count<=8->count.toNat * most.toNat<=60 →
   ay [.scr ns]=some (.fr,.lst ((fJ ns L most count.toNat).map .str))->∃ bk:List Tx,ay [.scr ns]=some (.fr,.lst (bk.map .str))/\bk.length<=8/\bk.flatten.length<=60/\∀ t∈bk,∀ c∈t,97<=c/\c<=122:=fun count most h0 h1 h2 h3 h4 e=>by
  obtain ⟨b1,b2,b3⟩:=oE ns L most count.toNat h0
  exact ⟨_,e,by omega,by omega,fun t ht c hc=>k3 c (b3 k1 t ht c hc)⟩
 have b0:=zG (cell / 12) (b:=8) (by decide)
 have b1:=zN (cell / 12) (b:=8) (by decide)
 have bc:=fun most count h0 h1 c0 c1=>lS ns L most count (.int cell) h0 h1 c0 c1 k1 k2
 have e8:cell / 12 % 8=0\/cell / 12 % 8=1\/cell / 12 % 8=2\/cell / 12 % 8=3\/cell / 12 % 8=4\/cell / 12 % 8=5\/cell / 12 % 8=6\/cell / 12 % 8=7:=by omega
 by_cases five:cell / 96 % 8=5
 ·rcases e8 with h | h | h | h | h | h | h | h
  ·refine main 1 60 (by omega) (by omega) (by omega) (by omega) (by decide) ?_
   simp [-bG,ay,l0,aw,av,bK,li]
   simp [h,five,ixP,bc,aw,av]
  ·refine main 2 30 (by omega) (by omega) (by omega) (by omega) (by decide) ?_
   simp [-bG,ay,l0,aw,av,bK,li]
   simp [h,five,ixP,bc,aw,av]
  ·refine main 3 20 (by omega) (by omega) (by omega) (by omega) (by decide) ?_
   simp [-bG,ay,l0,aw,av,bK,li]
   simp [h,five,ixP,bc,aw,av]
  ·refine main 4 15 (by omega) (by omega) (by omega) (by omega) (by decide) ?_
   simp [-bG,ay,l0,aw,av,bK,li]
   simp [h,five,ixP,bc,aw,av]
  ·refine main 2 30 (by omega) (by omega) (by omega) (by omega) (by decide) ?_
   simp [-bG,ay,l0,aw,av,bK,li]
   simp [h,five,ixP,bc,aw,av]
  ·refine main 1 60 (by omega) (by omega) (by omega) (by omega) (by decide) ?_
   simp [-bG,ay,l0,aw,av,bK,li]
   simp [h,five,ixP,bc,aw,av]
  ·refine main 0 60 (by omega) (by omega) (by omega) (by omega) (by decide) ?_
   simp [-bG,ay,l0,aw,av,bK,li]
   simp [h,five,ixP,bc,aw,av]
  ·refine main 8 7 (by omega) (by omega) (by omega) (by omega) (by decide) ?_
   simp [-bG,ay,l0,aw,av,bK,li]
   simp [h,five,ixP,bc,aw,av]
 ·rcases e8 with h | h | h | h | h | h | h | h
  ·refine main 1 24 (by omega) (by omega) (by omega) (by omega) (by decide) ?_
   simp [-bG,ay,l0,aw,av,bK,li]
   simp [h,five,ixP,bc,aw,av]
  ·refine main 2 12 (by omega) (by omega) (by omega) (by omega) (by decide) ?_
   simp [-bG,ay,l0,aw,av,bK,li]
   simp [h,five,ixP,bc,aw,av]
  ·refine main 3 8 (by omega) (by omega) (by omega) (by omega) (by decide) ?_
   simp [-bG,ay,l0,aw,av,bK,li]
   simp [h,five,ixP,bc,aw,av]
  ·refine main 4 6 (by omega) (by omega) (by omega) (by omega) (by decide) ?_
   simp [-bG,ay,l0,aw,av,bK,li]
   simp [h,five,ixP,bc,aw,av]
  ·refine main 2 12 (by omega) (by omega) (by omega) (by omega) (by decide) ?_
   simp [-bG,ay,l0,aw,av,bK,li]
   simp [h,five,ixP,bc,aw,av]
  ·refine main 1 24 (by omega) (by omega) (by omega) (by omega) (by decide) ?_
   simp [-bG,ay,l0,aw,av,bK,li]
   simp [h,five,ixP,bc,aw,av]
  ·refine main 0 6 (by omega) (by omega) (by omega) (by omega) (by decide) ?_
   simp [-bG,ay,l0,aw,av,bK,li]
   simp [h,five,ixP,bc,aw,av]
  ·refine main 8 3 (by omega) (by omega) (by omega) (by omega) (by decide) ?_
   simp [-bG,ay,l0,aw,av,bK,li]
   simp [h,five,ixP,bc,aw,av]
noncomputable def okC (c:Nat):Bool:=decide (97<=c) && decide (c<=122)
noncomputable def d9:T->Bool
 | .str s=>s.all okC
 | _=>false
theorem le1 {m n:Md} (a b:Nat):oLe (m,.str [a]) (n,.str [b])=some (.fr,.bl (decide (a<=b))):=by
 have:(!ltx [b] [a])=decide (a<=b):=by
  simp only [ltx]
  by_cases h:b < a
  ·simp [h]
  ·by_cases h2:a < b
   ·simp [h,h2];omega
   ·simp [h,h2];omega
 show some (Md.fr,T.bl (!ltx [b] [a]))=_
 rw [this]
theorem qz (s:Tx):(s.map okC).all id=s.all okC:=by rw [yk];rfl
noncomputable def okT (t:T):Prop:=iW t=true/\∀ s,t=.str s->s.length<=16777216
theorem rQ (t:T) (h:okT t):aQ [t]=some (.fr,.bl (d9 t)):=by
 unfold aQ
 refine jZ [some (.pu t)] (η':=[some (.pu t)]) rfl rfl ?_
 cases t with
 | str s =>
  have hl:=h.2 s rfl
  have c:=cP (k:=1) (tg:=cn 0) (it:=dM (ah 0)) (elt:=gg oLe oLe (eC (.str [97])) (ah 0) (eC (.str [122]))) (η:=[some (.pu (.str s))]) (m:=.fr) (fun (c:Nat)=>T.str [c]) (fun c=>T.bl (okC c)) s
   (by simp) rfl hl (fun c _=>⟨[some (.pu (.str [c])),some (.pu (.str s))],by simp,by
    by_cases h1:97<=c
    ·simp [-oLe,le1,h1,okC]
    ·simp [-oLe,le1,h1,okC]⟩)
  have ba:fZ [(.fr,.lst (s.map fun c=>T.bl (okC c)))]=some (.fr,.bl (s.all okC)):=by
   simp only [fZ,eU okC s,zw,qz]
  simp [c,ba,d9]
 | obj c fs=>simp [okT] at h
 | scr ns=>simp [okT] at h
 | dct k l =>
  simp [okT] at h
  simp [d9,h]
 | _=>simp [d9]
noncomputable def oC:T->Bool
 | .str s=>decide (s.length<=200)
 | _=>false
theorem lW (t:T) (h:okT t):dX [t]=some (.fr,.bl (d9 t && oC t)):=by
 have e:=rQ t h
 unfold dX
 have hc:aS aQ (af (ah 0) ao) [some (.pu t)]=some (.fr,.bl (d9 t)):=bq rfl e
 refine jZ [some (.pu t)] (η':=[some (.pu t)]) rfl rfl ?_
 cases hh:d9 t with
 | false=>simp [-aS,hc,hh]
 | true =>
  cases t with
  | str s =>
   have:(decide ((s.length:Int)<=200))=decide (s.length<=200):=decide_eq_decide.mpr (by omega)
   simp [-aS,hc,hh,this,oC]
  | _=>simp [d9] at hh
noncomputable def ka:T->Nat
 | .str s=>s.length
 | _=>0
theorem jI:∀ l:Zd,(l.map fun (n:Nat)=>(n:Int)).sum=((l.sum:Nat):Int)
 | []=>rfl
 | a :: l=>by rw [zR,List.sum_cons,jI l,List.sum_cons];omega
theorem qQ (bk:List Tx) (h:bk.length<=16777216):cV [.lst (bk.map .str)]=some (.fr,.int (bk.flatten.length:Int)):=by
 have c:=cP (k:=1) (tg:=cn 0) (it:=dM (ah 0)) (elt:=eN cp (af (ah 0) ao)) (η:=[some (.pu (.lst (bk.map .str)))]) (m:=.pu) T.str (fun t=>T.int (t.length:Int)) bk
  (by simp) rfl h (fun t _=>⟨[some (.pu (.str t)),some (.pu (.lst (bk.map .str)))],by simp,by simp⟩)
 have bs:kK [(.fr,.lst (bk.map fun t=>T.int (t.length:Int)))]=some (.fr,.int (bk.flatten.length:Int)):=by
  simp only [kK,ints_map (fun (t:Tx)=>(t.length:Int)) bk,zw]
  have:bk.map (fun (t:Tx)=>(t.length:Int))=(bk.map List.length).map fun (n:Nat)=>(n:Int):=by rw [yy];rfl
  rw [this,jI,yN]
 unfold cV
 refine jZ [some (.pu (.lst (bk.map .str)))] (η':=[some (.pu (.lst (bk.map .str)))]) rfl rfl ?_
 simp [c,bs]
noncomputable def isB:T->Bool
 | .lst l=>decide (l.length<=8) && l.all d9 && decide ((l.map ka).sum<=120)
 | _=>false
theorem lO:∀ l:Z2,l.all d9=true->∃ ss:List Tx,l=ss.map .str
 | [],_=>⟨[],rfl⟩
 | t :: l,h=>by
  rw [List.all_cons,zb] at h
  obtain ⟨ss,rfl⟩:=lO l h.2
  cases t with
  | str s=>exact ⟨s :: ss,rfl⟩
  | _=>simp [d9] at h
theorem mr (t:T) (h:okT t) (hl:∀ l,t=.lst l->∀ x∈l,okT x):cR [t]=some (.fr,.bl (isB t)):=by
 unfold cR
 refine jZ [some (.pu t)] (η':=[some (.pu t)]) rfl rfl ?_
 cases t with
 | obj c fs=>simp [okT] at h
 | scr ns=>simp [okT] at h
 | lst l =>
  by_cases h8:l.length<=8
  ·have g8:¬ (8:Int) < (l.length:Int):=by omega
   rw [nX (η':=[some (.pu (.lst l))]) (by simp [g8])]
   have c:cM 1 (cn 0) (dM (ah 0)) none (aS aQ (af (ah 0) ao)) [some (.pu (.lst l))]=some (.fr,.lst (l.map fun t=>T.bl (d9 t))):=by
    have:=cP (k:=1) (tg:=cn 0) (it:=dM (ah 0)) (elt:=aS aQ (af (ah 0) ao)) (η:=[some (.pu (.lst l))]) (m:=.pu) (fun t:T=>t) (fun t=>T.bl (d9 t)) l
     (by simp) rfl (by omega) (fun t ht=>⟨[some (.pu t),some (.pu (.lst l))],by simp,bq rfl (rQ t (hl l rfl t ht))⟩)
    exact this
   have ba:fZ [(.fr,.lst (l.map fun t=>T.bl (d9 t)))]=some (.fr,.bl (l.all d9)):=by
    simp only [fZ,eU d9 l,zw]
    rw [yk];rfl
   cases hh:l.all d9 with
   | false=>simp [-aS,c,ba,hh,isB]
   | true =>
    obtain ⟨ss,rfl⟩:=lO l hh
    have hs:aS cV (af (ah 0) ao) [some (.pu (.lst (ss.map .str)))]=some (.fr,.int (ss.flatten.length:Int)):=bq rfl (qQ ss (by simp at h8;omega))
    have e1:((ss.map T.str).map ka).sum=ss.flatten.length:=by rw [yy,yN];rfl
    have e2:decide ((ss.flatten.length:Int)<=120)=decide (ss.flatten.length<=120):=decide_eq_decide.mpr (by omega)
    simp only [isB,hh,e1]
    have h8':decide ((ss.map T.str).length<=8)=true:=decide_eq_true h8
    rw [h8',yQ,yQ,← e2]
    simp [-aS,c,ba,hh,hs,-yy,-yN,-yk]
  ·have g8:(8:Int) < (l.length:Int):=by omega
   rw [dv (v:=(.fr,.bl false)) (η':=[some (.pu (.lst l))]) (by simp [g8])]
   simp [isB,h8]
 | non=>rw [dv (v:=(.fr,.bl false)) (η':=[some (.pu (.non))]) (by simp)];simp [isB]
 | bl b=>rw [dv (v:=(.fr,.bl false)) (η':=[some (.pu (.bl b))]) (by simp)];simp [isB]
 | int i=>rw [dv (v:=(.fr,.bl false)) (η':=[some (.pu (.int i))]) (by simp)];simp [isB]
 | str s=>rw [dv (v:=(.fr,.bl false)) (η':=[some (.pu (.str s))]) (by simp)];simp [isB]
 | tup l=>rw [dv (v:=(.fr,.bl false)) (η':=[some (.pu (.tup l))]) (by simp)];simp [isB]
 | dct k l =>
  simp [okT] at h
  rw [dv (v:=(.fr,.bl false)) (η':=[some (.pu (.dct k l))]) (by simp [h])];simp [isB]
end T50
end
section
namespace VS
theorem e2v {f:Val->Val->Z1} {a b:Ex} {η:Env} {x y z:Val} (h1:a η=some x) (h2:b η=some y) (h3:f x y=some z):e2 f a b η=some z:=by
 show (a η).bind _=_
 rw [h1,zw,h2]
 exact h3
theorem xv {a:Ex} {r:Exs} {η:Env} {x:Val} {xs:Z0} (h1:a η=some x) (h2:r η=some xs):af a r η=some (x :: xs):=by
 show (a η).bind _=_
 rw [h1,zw,h2]
 rfl
theorem og {c:Ex} {a b:Sx} {η:Env} {m:Md} (h:c η=some (m,.bl true)):sIf c a b η=a η:=by
 show (c η).bind _=_
 rw [h]
 rfl
theorem ir {c:Ex} {a b:Sx} {η:Env} {m:Md} (h:c η=some (m,.bl false)):sIf c a b η=b η:=by
 show (c η).bind _=_
 rw [h]
 rfl
theorem jz {f:Z0->Z1} {as:Exs} {η:Env} {xs:Z0} {v:Val} (h:as η=some xs) (h2:f xs=some v):eN f as η=some v:=by
 show (as η).bind f=_
 rw [h,zw,h2]
theorem g9 {e:Ex} {η:Env} {t:T} (h:e η=some (.fr,t)):cA e η=some (.rt (.fr,t) η):=by
 show (e η).bind _=_
 rw [h]
 rfl
theorem gF {a b:Sx} {η η1:Env} {v:Val} (h:a η=some (.rt v η1)):aA a b η=some (.rt v η1):=by
 show (a η).bind _=_
 rw [h]
 rfl
theorem aK {a b:Sx} {η η1:Env} (h:a η=some (.nx η1)):aA a b η=b η1:=by
 show (a η).bind _=_
 rw [h]
 rfl
theorem eW {np nn:Nat} {b:Sx} {ts:Z2} {v:Val} {η:Env} (hl:ts.length=np) (h:b (ts.map (fun t=>some (.pu t))++List.replicate (nn - np) none)=some (.rt v η)):fn np nn b ts=some v:=by
 unfold fn
 rw [zi hl,h]
 rfl
theorem u6 {a b:Ex} {η:Env} {m:Md} {x:Bool} {v:Val} (h1:a η=some (m,.bl x)) (h2:x=true->b η=some v) (h3:x=false->v=(.fr,.bl false)):fQ a b η=some v:=by
 show (a η).bind _=_
 rw [h1,zw]
 cases x with
 | true=>exact h2 rfl
 | false=>exact congrArg some (h3 rfl).symm
theorem vX {a b:Ex} {η:Env} {m:Md} {x:Bool} {v:Val} (h1:a η=some (m,.bl x)) (h2:x=false->b η=some v) (h3:x=true->v=(.fr,.bl true)):eOr a b η=some v:=by
 show (a η).bind _=_
 rw [h1,zw]
 cases x with
 | false=>exact h2 rfl
 | true=>exact congrArg some (h3 rfl).symm
theorem wq {a b:Ex} {η:Env} {m n:Md} {x y:Bool} (h1:a η=some (m,.bl x)) (h2:b η=some (.fr,.bl y)):fQ a b η=some (.fr,.bl (x && y)):=u6 h1 (fun e=>by rw [e];exact h2) (fun e=>by rw [e];rfl)
theorem or2 {a b:Ex} {η:Env} {m n:Md} {x y:Bool} (h1:a η=some (m,.bl x)) (h2:b η=some (.fr,.bl y)):eOr a b η=some (.fr,.bl (x || y)):=vX h1 (fun e=>by rw [e];exact h2) (fun e=>by rw [e];rfl)
theorem nE {a:Ex} {η:Env} {m:Md} {b:Bool} (h:a η=some (m,.bl b)):gI a η=some (.fr,.bl (!b)):=by
 show (a η).bind _=_
 rw [h]
 rfl
theorem rR {n:Nat} {i:Int} (h0:0<=i) (h1:i < n):ixP n i=some i.toNat:=by rw [ixP,zi h0,zi h1]
theorem sT {m n:Md} (t:Tx) (i:Int) (h0:0<=i) (h1:i < t.length):bG (m,.str t) (n,.int i)=some (.fr,.str [t.getD i.toNat 0]):=by
 have b2:i.toNat < t.length:=by lia
 show (ixP t.length i).bind _=_
 rw [rR h0 h1,zw,zW,zX b2]
 rfl
theorem iI {m n:Md} {a b:T} {r:Bool} (ha:eqD 60 a=true) (hb:eqD 60 b=true) (h:eqT a b=r):oEq (m,a) (n,b)=some (.fr,.bl r):=by
 show (if eqD 60 a/\eqD 60 b then some (Md.fr,T.bl (eqT a b)) else none)=_
 rw [zi ⟨ha,hb⟩,h]
theorem nF {m n:Md} {a b:T} {r:Bool} (ha:eqD 60 a=true) (hb:eqD 60 b=true) (h:eqT a b=r):oNe (m,a) (n,b)=some (.fr,.bl (!r)):=by
 show (if eqD 60 a/\eqD 60 b then some (Md.fr,T.bl (!eqT a b)) else none)=_
 rw [zi ⟨ha,hb⟩,h]
theorem sN {i:Nat} {e:Ex} {η:Env} {l:Z2} {v:T} (h0:η[i]?=some (some (.ow (.lst l)))) (h1:e η=some (.fr,v)) (h2:l.length < 16777216):sX (gM i [] bH (af e ao)) η=some (.nx (η.set i (some (.ow (.lst (l++[v])))))):=by
 have h3:af e ao η=some [(.fr,v)]:=xv h1 rfl
 unfold sX gM
 rw [h0]
 show ((some ([]:List Ky)).bind _ |>.map _)=_
 rw [zw,h3,zw]
 show ((bH (.lst l) [(.fr,v)]).map _ |>.map _)=_
 rw [fo h2]
 rfl
theorem tJ {a b:Ex} {η:Env} {m n:Md} {x y:Tx} (h1:a η=some (m,.str x)) (h2:b η=some (n,.str y)) (h:x.length+y.length<=16777216):e2 aY a b η=some (.fr,.str (x++y)):=e2v h1 h2 (n3 h)
theorem eZ {as:Exs} {η:Env} (l:List Tx) (h:as η=some (l.map fun x=>(Md.fr,T.str x))) (hl:l.length<=16777216):bC as η=some (.fr,.lst (l.map .str)):=by
 unfold bC
 rw [h,zw]
 have e:trees (l.map fun x=>(Md.fr,T.str x))=l.map T.str:=by unfold trees;rw [yy];rfl
 rw [e,bK (by rw [zt];exact hl),show dI (l.map T.str)=true from eG _ (fun _=>rfl) l]
 rfl
theorem iX {a b:Ex} {η:Env} {m n:Md} {x y:List Tx} (h1:a η=some (m,.lst (x.map .str))) (h2:b η=some (n,.lst (y.map .str))) (h:x.length+y.length<=16777216):e2 aY a b η=some (.fr,.lst ((x++y).map .str)):=by
 refine e2v h1 h2 ?_
 rw [nN,← List.map_append,bK (by rw [zt,zp];exact h),show dI ((x++y).map T.str)=true from eG _ (fun _=>rfl) _]
 rfl
theorem lJ {c:Sx} {η:Env} {o:Out} (h:c η=some o):sL c η=some (.ok o):=by
 unfold sL
 rw [h]
 rfl
theorem jL {a b:SxX} {η η1:Env} (h:a η=some (.ok (.nx η1))):eH a b η=b η1:=by
 unfold eH
 rw [h]
 rfl
theorem vj {a b:SxX} {η η1:Env} {x:PySem.Str} (h:a η=some (.ex x η1)):eH a b η=some (.ex x η1):=by
 unfold eH
 rw [h]
 rfl
theorem nT {g:FnX} {cs:Exs} {η:Env} {xs:Z0} {t:T} (h:cs η=some xs) (h2:g (trees xs)=some (.ok (.fr,t))):dR g cs η=some (.ok (.fr,t)):=by
 have p:plF g (trees xs)=some (.fr,t):=by
  unfold plF
  rw [h2]
 unfold dR
 rw [h,zw,h2,zw]
 show (aS (plF g) cs η).map _=_
 rw [bq h p]
 rfl
theorem jV {g:FnX} {cs:Exs} {η:Env} {xs:Z0} {x:PySem.Str} (h:cs η=some xs) (h2:g (trees xs)=some (.ex x)):dR g cs η=some (.ex x):=by
 unfold dR
 rw [h,zw,h2]
 rfl
theorem rS {S:Ex->Sx} {ce:ExX} {η:Env} {x:PySem.Str} (h:ce η=some (.ex x)):xOf S ce η=some (.ex x η):=by
 unfold xOf
 rw [h]
 rfl
theorem vy {ce:ExX} {η:Env} {v:Val} (h:ce η=some (.ok v)):okE ce η=some v:=by
 unfold okE
 rw [h]
theorem wN {S:Ex->Sx} {ce:ExX} {η:Env} {v:Val} {o:Out} (h:ce η=some (.ok v)) (h2:S (okE ce) η=some o):xOf S ce η=some (.ok o):=by
 unfold xOf
 rw [h,zw]
 show (S (okE ce) η).map _=_
 rw [h2]
 rfl
theorem uo {np nn:Nat} {b:SxX} {ts:Z2} {v:Val} {η:Env} (hl:ts.length=np) (h:b (ts.map (fun t=>some (.pu t))++List.replicate (nn - np) none)=some (.ok (.rt v η))):fnx np nn b ts=some (.ok v):=by
 unfold fnx
 rw [zi hl,h]
 rfl
theorem sF {np nn:Nat} {b:SxX} {ts:Z2} {x:PySem.Str} {η:Env} (hl:ts.length=np) (h:b (ts.map (fun t=>some (.pu t))++List.replicate (nn - np) none)=some (.ex x η)):fnx np nn b ts=some (.ex x):=by
 unfold fnx
 rw [zi hl,h]
 rfl
theorem uK {g:FnX} {ts:Z2} {v:Val} (h:g ts=some (.ok v)):plF g ts=some v:=by
 unfold plF
 rw [h]
theorem vq {c:Ex} {a b:SxX} {η:Env} {m:Md} (h:c η=some (m,.bl true)):xIf c a b η=a η:=by
 show (c η).bind _=_
 rw [h]
 rfl
theorem rT {c:Ex} {a b:SxX} {η:Env} {m:Md} (h:c η=some (m,.bl false)):xIf c a b η=b η:=by
 show (c η).bind _=_
 rw [h]
 rfl
end VS
end
section
namespace T50
open VS
structure Bk (bk:List Tx):Prop where
 n8:bk.length<=8
 n60:bk.flatten.length<=60
 ch:∀ t∈bk,∀ c∈t,97<=c/\c<=122
theorem jX {bk:List Tx} {t:Tx} (h:t∈bk):t.length<=bk.flatten.length:=by
 induction bk with
 | nil=>simp at h
 | cons a l ih =>
  rw [zc,zp]
  rcases zj.mp h with e | e
  ·subst e;omega
  ·have:=ih e;omega
noncomputable def sw (t:Tx):Tx:=if t=[] then [45] else t
theorem uf (t:Tx):(sw t).length<=t.length+1:=by
 unfold sw
 split
 ·rename_i h;simp [h]
 ·omega
theorem kJ:∀ l:List Tx,total (l.map sw)<=l.flatten.length+l.length
 | []=>by simp [total]
 | t :: l=>by
  have:=kJ l
  have:=uf t
  simp only [zR,total,zc,zp,zZ]
  omega
theorem jw:∀ l:List Tx,(az [32] l).length<=total l+l.length
 | []=>by simp [az]
 | [x]=>by simp [az,total]
 | x :: y :: r=>by
  have:=jw (y :: r)
  simp only [az,zp,total,zZ,yA] at this ⊢
  omega
theorem gS:∀ (l:List Tx) (p:Nat->Prop),p 32->(∀ t∈l,∀ c∈t,p c)->∀ c∈az [32] l,p c
 | [],p,_,_,c,h=>by simp [az] at h
 | [x],p,_,hx,c,h=>by simp [az] at h;exact hx x zx c h
 | x :: y :: r,p,h0,hx,c,h=>by
  simp only [az,zT] at h
  rcases h with (h | h) | h
  ·exact hx x zx c h
  ·simp at h;rw [h];exact h0
  ·exact gS (y :: r) p h0 (fun t ht=>hx t (zy _ ht)) c h
noncomputable def dY (bk:List Tx):Tx:=if bk=[] then [46] else az [32] (bk.map sw)
theorem fg:∀ (w:Tx) (l:List Tx),(∀ x∈w :: l,32 ∉ x)->au 32 (az [32] (w :: l))=w :: l
 | [],[],_=>rfl
 | [],y :: r,h=>by
  have ih:=fg y r (fun x hx=>h x (zy _ hx))
  simp only [az,yh,List.cons_append,au,zi,ih]
 | a :: w,l,h=>by
  have ha:a ≠ 32:=fun e=>h (a :: w) zx (by simp [e])
  have ih:=fg w l (fun x hx=>by
   rcases zj.mp hx with e | e
   ·subst e
    exact fun hm=>h (a :: x) zx (zy _ hm)
   ·exact h x (zy _ e))
  have:az [32] ((a :: w) :: l)=a :: az [32] (w :: l):=by cases l <;> simp [az]
  rw [this]
  simp only [au,if_neg ha,ih]
noncomputable def rw' (t:Tx):Tx:=if t=[45] then [] else t
theorem j4 (t:Tx):b8 [.str t]=some (.fr,.str (rw' t)):=by
 unfold b8
 refine jZ [some (.pu (.str t))] (η':=[some (.pu (.str t))]) rfl rfl ?_
 by_cases h:t=[45]
 ·subst h;simp [rw']
 ·simp [rw',h]
noncomputable def shown (f:Tx):Bool:=f == [45] || (!(f == []) && (f.all okC && decide (f.length<=200)))
noncomputable def okW (f:Tx):Bool:=f == [45] || (!(f == []) && f.all okC)
theorem dP (a b:Tx):eqT (.str a) (.str b)=(a == b):=by simp only [eqT]
theorem rC (t:Tx) (hl:t.length<=1000):bx [.str t]=some (.fr,.bl (shown t)):=by
 have hw:=lW (.str t) ⟨rfl,fun s e=>by cases e;omega⟩
 unfold bx
 refine eW rfl (g9 (η:=[some (.pu (.str t))]) (or2 (m:=.fr) (n:=.fr) (e2v (x:=(.fr,.str t)) rfl rfl (iI rfl rfl (dP t [45]))) (wq (m:=.fr) (n:=.fr) (e2v (x:=(.fr,.str t)) rfl rfl (nF rfl rfl (dP t []))) (bq (xs:=[(.fr,.str t)]) rfl hw))))
noncomputable def rd (t:Tx):Option (List Tx):=if t=[46] then some [] else if (au 32 t).all okW && (decide ((au 32 t).length<=8) && decide (((au 32 t).map rw').flatten.length<=120)) then some ((au 32 t).map rw') else none
theorem rw_len (t:Tx):(rw' t).length<=t.length:=by
 unfold rw'
 split
 ·exact yd _
 ·exact zm _
theorem rj (fs:List Tx):(fs.all shown && isB (.lst ((fs.map rw').map .str)))=(fs.all okW && (decide (fs.length<=8) && decide ((fs.map rw').flatten.length<=120))):=by
 have e1:(((fs.map rw').map T.str).map ka).sum=(fs.map rw').flatten.length:=by rw [yy,yN];rfl
 have e2:((fs.map rw').map T.str).length=fs.length:=by rw [zt,zt]
 have e3:((fs.map rw').map T.str).all d9=fs.all fun f=>(rw' f).all okC:=by
  rw [yk,yk];rfl
 show (fs.all shown && (decide (((fs.map rw').map T.str).length<=8) && ((fs.map rw').map T.str).all d9 && decide ((((fs.map rw').map T.str).map ka).sum<=120)))=_
 rw [e1,e2,e3,Bool.eq_iff_iff]
 simp only [zb,decide_eq_true_eq,zF]
 constructor
 ·rintro ⟨h1,⟨h2,h3⟩,h4⟩
  refine ⟨fun f hf=>?_,h2,h4⟩
  have:=h1 f hf
  unfold shown at this
  unfold okW
  simp only [yO,zb] at this ⊢
  exact this.imp id fun z=>⟨z.1,z.2.1⟩
 ·rintro ⟨h1,h2,h4⟩
  have hr:∀ f∈fs,(rw' f).length<=120:=fun f hf=>zk (jX (List.mem_map_of_mem hf)) h4
  refine ⟨fun f hf=>?_,⟨h2,fun f hf=>?_⟩,h4⟩
  ·have a:=h1 f hf
   have b:=hr f hf
   unfold okW at a
   unfold shown
   by_cases q:f=[45]
   ·simp [q]
   ·rw [rw',if_neg q] at b
    simp only [yO,zb,decide_eq_true_eq] at a ⊢
    exact a.imp id fun z=>⟨z.1,z.2,by omega⟩
  ·have a:=h1 f hf
   unfold okW at a
   unfold rw'
   split
   ·intro x hx;simp at hx
   ·rename_i q
    simp only [yO,zb] at a
    have:=(a.resolve_left (by simpa using q)).2
    exact zF.mp this
noncomputable abbrev NB:PySem.Str := "NoBook"
noncomputable def tell:Option (List Tx)->Res
 | some b=>.ok (.fr,.lst (b.map .str))
 | none=>.ex NB
theorem fU (c:Nat):∀ t:Tx,(au c t).flatten.length<=t.length
 | []=>by simp [au]
 | a :: r=>by
  have ih:=fU c r
  obtain ⟨h,s,e⟩:=bZ c r
  unfold au
  rw [e] at ih ⊢
  split <;> simp only [zc,zp,zZ,yA] at ih ⊢ <;> omega
theorem wb (l:List Tx) (h:∀ t∈l,t.length<=1000):cR [.lst (l.map .str)]=some (.fr,.bl (isB (.lst (l.map .str)))) :=
 mr (.lst (l.map .str)) ⟨rfl,fun s e=>by cases e⟩ (fun l' e x hx=>by
  cases e
  obtain ⟨t,ht,rfl⟩:=yZ.mp hx
  have:=h t ht
  exact ⟨rfl,fun s e=>by cases e;omega⟩)
theorem kP (t:Tx) (hl:t.length<=1000):aR [.str t]=some (tell (rd t)):=by
 unfold aR
 have h0:gI (eIs .str (ah 0)) [some (.pu (.str t)),none,none]=some (.fr,.bl false):=rfl
 have c46:e2 oEq (ah 0) (eC (.str [46])) [some (.pu (.str t)),none,none]=some (.fr,.bl (t == [46])):=e2v (x:=(.fr,.str t)) rfl rfl (iI rfl rfl (dP t [46]))
 by_cases h46:t=[46]
 ·subst h46
  rfl
 have hf:(t == [46])=false:=by simpa using h46
 rw [hf] at c46
 have hrd:rd t=if (au 32 t).all okW && (decide ((au 32 t).length<=8) && decide (((au 32 t).map rw').flatten.length<=120)) then some ((au 32 t).map rw') else none:=by
  unfold rd
  rw [if_neg h46]
 rw [hrd,← rj]
 have sl:=cC 32 t
 have sm:=bY 32 t
 have ms:cz (.fr,.str t) [(.fr,.str [32])]=some (.fr,.lst ((au 32 t).map .str)):=by
  simp only [cz]
  rw [zi ⟨by decide,show _ < 16777216 by omega⟩]
 generalize au 32 t=fs at sl sm ms ⊢
 have fl:∀ f∈fs,f.length<=1000:=fun f hf=>zk (sm f hf).1 hl
 have fi:dI (fs.map T.str)=true:=eG _ (fun _=>rfl) fs
 have ev1:∀ z,dM (ah 1) [some (.pu (.str t)),some (.pu (.lst (fs.map .str))),z]=some (.pu,fs.map .str):=fun z=>rfl
 have c1:=cP (k:=1) (tg:=cn 0) (it:=dM (ah 1)) (elt:=aS b8 (af (ah 0) ao)) (η:=[some (.pu (.str t)),some (.pu (.lst (fs.map .str))),none]) (m:=.pu) T.str (fun t=>T.str (rw' t)) fs
  (ev1 _) rfl (by omega) (fun f _=>⟨[some (.pu (.str f)),some (.pu (.str t)),some (.pu (.lst (fs.map .str))),none],rfl,bq (xs:=[(.fr,.str f)]) rfl (j4 f)⟩)
 have eb:fs.map (fun t=>T.str (rw' t))=(fs.map rw').map .str:=by rw [yy];rfl
 rw [eb] at c1
 have c2:=cP (k:=1) (tg:=cn 0) (it:=dM (ah 1)) (elt:=aS bx (af (ah 0) ao)) (η:=[some (.pu (.str t)),some (.pu (.lst (fs.map .str))),some (.ow (.lst ((fs.map rw').map .str)))]) (m:=.pu) T.str (fun t=>T.bl (shown t)) fs
  (ev1 _) rfl (by omega) (fun f hf=>⟨[some (.pu (.str f)),some (.pu (.str t)),some (.pu (.lst (fs.map .str))),some (.ow (.lst ((fs.map rw').map .str)))],rfl,bq (xs:=[(.fr,.str f)]) rfl (rC f (fl f hf))⟩)
 have ba:fZ [(.fr,.lst (fs.map fun t=>T.bl (shown t)))]=some (.fr,.bl (fs.all shown)):=by
  simp only [fZ,eU shown fs,zw]
  rw [yk];rfl
 have cb:aS cR (af (ah 2) ao) [some (.pu (.str t)),some (.pu (.lst (fs.map .str))),some (.ow (.lst ((fs.map rw').map .str)))]=some (.fr,.bl (isB (.lst ((fs.map rw').map .str)))) :=
  bq (xs:=[(.bo,.lst ((fs.map rw').map .str))]) rfl (wb (fs.map rw') fun x hx=>by
   obtain ⟨f,hf,rfl⟩:=yZ.mp hx
   exact zk (rw_len f) (fl f hf))
 have tst:=or2 (m:=.fr) (n:=.fr) (nE (m:=.fr) (jz (xv (r:=ao) c2 rfl) ba)) (nE (m:=.fr) cb)
 rw [← Bool.not_and] at tst
 have s1:sL (bh 1 (eM cz (ah 0) (af (eC (.str [32])) ao))) [some (.pu (.str t)),none,none]=some (.ok (.nx [some (.pu (.str t)),some (.pu (.lst (fs.map .str))),none])) :=
  lJ (bQ (m:=.fr) (t:=.lst (fs.map .str)) (by
   show Option.bind (some (Md.fr,T.str t)) _=_
   exact ms) (by decide) (by decide:1 < 3))
 have s2:=lJ (pW (i:=2) c1 rfl (by decide:2 < 3))
 have st:∀ b:SxX,eH (xIf (gI (eIs .str (ah 0))) (ie NB (af (eC (.str [97,32,98,111,111,107,32,105,115,32,114,101,97,100,32,102,114,111,109,32,97,32,116,101,120,116,32,97,108,111,110,101])) ao)) (sL dJ))
  (eH (sL (sIf (e2 oEq (ah 0) (eC (.str [46]))) (cA (bC ao)) dJ))
  (eH (sL (bh 1 (eM cz (ah 0) (af (eC (.str [32])) ao))))
  (eH (sL (fI 2 (cM 1 (cn 0) (dM (ah 1)) none (aS b8 (af (ah 0) ao))))) b))) [some (.pu (.str t)),none,none]=b [some (.pu (.str t)),some (.pu (.lst (fs.map .str))),some (.ow (.lst ((fs.map rw').map .str)))]:=fun b =>
  (jL ((rT h0).trans rfl)).trans ((jL (lJ ((ir c46).trans rfl))).trans ((jL s1).trans (jL s2)))
 cases hb:(fs.all shown && isB (.lst ((fs.map rw').map .str))) with
 | true =>
  rw [hb] at tst
  exact uo rfl ((st _).trans ((jL ((rT tst).trans rfl)).trans (lJ rfl)))
 | false =>
  rw [hb] at tst
  exact sF rfl ((st _).trans (vj ((vq tst).trans rfl)))
noncomputable abbrev abc:Tx:=[97,98,99,100,101,102,103,104,105,106,107,108,109,110,111,112,113,114,115,116,117,118,119,120,121,122]
theorem uQ:∀ c,c < 128->PySem.Txt.contains (VS.sx abc) (VS.sx [c])=okC c:=by decide +kernel
theorem ue {m n:Md} (c:Nat) (h:c < 128):fG (m,.str [c]) (n,.str abc)=some (.fr,.bl (!okC c)):=by
 show some (Md.fr,T.bl (!PySem.Txt.contains (VS.sx abc) (VS.sx [c])))=_
 rw [uQ c h]
structure Asc (t:Tx):Prop where
 len:t.length<=1000
 ch:∀ c∈t,c < 128
noncomputable abbrev ED (t:Tx) (b:List Tx) (z2 z3:Za):Env:=[some (.pu (.str t)),some (.ow (.lst (b.map .str))),z2,z3]
theorem xB (t:Tx) (b:List Tx) (f:Tx) (z3:Za) (hb:b.length<=2000) (A:Asc f):∃ z3',cJ (ED t b (some (.pu (.str f))) z3)=some (if okW f then .nx (ED t (b++[rw' f]) (some (.pu (.str f))) z3') else .rt (.fr,.non) (ED t b (some (.pu (.str f))) z3')):=by
 have c1:∀ z3,e2 oNe (ah 2) (eC (.str [45])) (ED t b (some (.pu (.str f))) z3)=some (.fr,.bl (!(f == [45]))):=fun z3=>e2v (x:=(.fr,.str f)) rfl rfl (nF rfl rfl (dP f [45]))
 have c2:∀ z3,e2 oEq (ah 2) (eC (.str [])) (ED t b (some (.pu (.str f))) z3)=some (.fr,.bl (f == [])):=fun z3=>e2v (x:=(.fr,.str f)) rfl rfl (iI rfl rfl (dP f []))
 have c3:∀ z3,e2 oEq (ah 2) (eC (.str [45])) (ED t b (some (.pu (.str f))) z3)=some (.fr,.bl (f == [45])):=fun z3=>e2v (x:=(.fr,.str f)) rfl rfl (iI rfl rfl (dP f [45]))
 have ap:∀ z3,sX (gM 1 [] bH (af (e2 bG (bC (af (ah 2) (af (eC (.str [])) ao))) (eN fP (af (e2 oEq (ah 2) (eC (.str [45]))) ao))) ao)) (ED t b (some (.pu (.str f))) z3)=some (.nx (ED t (b++[rw' f]) (some (.pu (.str f))) z3)):=fun z3=>by
  have h:ED t (b++[rw' f]) (some (.pu (.str f))) z3=(ED t b (some (.pu (.str f))) z3).set 1 (some (.ow (.lst (b.map .str++[.str (rw' f)])))):=by rw [ED,List.map_append];rfl
  rw [h]
  refine sN rfl ?_ (by rw [zt];omega)
  ·refine e2v (eZ [f,[]] rfl (zL rfl)) (jz (xv (c3 z3) rfl) rfl) ?_
   unfold rw'
   by_cases q:f=[45]
   ·subst q;rfl
   ·rw [if_neg q,show (f == [45])=false from by simpa using q];rfl
 unfold cJ
 by_cases q:f=[45]
 ·subst q
  exact ⟨z3,(aK ((ir (m:=.fr) (c1 z3)).trans rfl)).trans ((aK ((ir (m:=.fr) (c2 z3)).trans rfl)).trans (ap z3))⟩
 ·have qf:(f == [45])=false:=by simpa using q
  have okf:okW f=(!(f == []) && f.all okC):=by unfold okW;rw [qf,Bool.false_or]
  obtain ⟨η',⟨z3',rfl⟩,e⟩:=iE (tg:=cn 3) (body:=dk) (fun c=>T.str [c]) (fun c=>!okC c) (.fr,.non) (fun η=>∃ z,η=ED t b (some (.pu (.str f))) z) f (fun c hc η hη=>by
   obtain ⟨z,rfl⟩:=hη
   refine ⟨ED t b (some (.pu (.str f))) (some (.pu (.str [c]))),ED t b (some (.pu (.str f))) (some (.pu (.str [c]))),rfl,⟨_,rfl⟩,?_⟩
   have cc:e2 fG (ah 3) (eC (.str abc)) (ED t b (some (.pu (.str f))) (some (.pu (.str [c]))))=some (.fr,.bl (!okC c)):=e2v (x:=(.fr,.str [c])) rfl rfl (ue c (A.ch c hc))
   unfold dk
   cases hk:okC c with
   | true=>rw [hk] at cc;exact ir cc
   | false=>rw [hk] at cc;exact og cc) (ED t b (some (.pu (.str f))) z3) ⟨z3,rfl⟩
  have lp:=(i8 (tg:=cn 3) (it:=dM (ah 2)) (body:=dk) (η:=ED t b (some (.pu (.str f))) z3) (m:=.fr) (l:=f.map fun c=>T.str [c]) rfl rfl).trans e
  have an:(f.any fun c=>!okC c)=!f.all okC:=by rw [List.all_eq_not_any_not,Bool.not_not]
  rw [an] at lp
  have f1:=c1 z3
  rw [qf] at f1
  refine ⟨z3',?_⟩
  rw [okf]
  cases ha:f.all okC with
  | false =>
   rw [ha] at lp
   rw [Bool.and_false]
   exact gF ((og f1).trans lp)
  | true =>
   rw [ha] at lp
   rw [Bool.and_true]
   refine (aK ((og f1).trans lp)).trans ?_
   have f2:=c2 z3'
   cases h0:f == [] with
   | true=>rw [h0] at f2;exact gF ((og f2).trans rfl)
   | false=>rw [h0] at f2;exact (aK ((ir f2).trans rfl)).trans (ap z3')
theorem xf (t:Tx) (fs:List Tx):∀ (b:List Tx) (z2 z3:Za),b.length+fs.length<=2000->(∀ f∈fs,Asc f)->∃ b' z2' z3',forL (cn 2) cJ (fs.map .str) (ED t b z2 z3)=some (if fs.all okW then .nx (ED t (b++fs.map rw') z2' z3') else .rt (.fr,.non) (ED t b' z2' z3')):=by
 induction fs with
 | nil=>exact fun b z2 z3 _ _=>⟨b,z2,z3,by simp [forL]⟩
 | cons f fs ih =>
  intro b z2 z3 hl ha
  rw [zZ] at hl
  obtain ⟨z3',e⟩:=xB t b f z3 (by omega) (ha f zx)
  have tg:cn 2 (.str f) (ED t b z2 z3)=some (ED t b (some (.pu (.str f))) z3):=rfl
  cases hk:okW f with
  | true =>
   rw [hk] at e
   obtain ⟨b',y2,y3,e'⟩:=ih (b++[rw' f]) (some (.pu (.str f))) z3' (by rw [zp,yq];omega) fun x hx=>ha x (zy _ hx)
   refine ⟨b',y2,y3,?_⟩
   rw [zR,iZ tg e,e',List.all_cons,hk,yQ,zR,yH]
   rfl
  | false =>
   rw [hk] at e
   refine ⟨b,some (.pu (.str f)),z3',?_⟩
   rw [zR,pQ tg e,List.all_cons,hk,x3]
   rfl
noncomputable def uW:Option (List Tx)->T
 | some b=>.lst (b.map .str)
 | none=>.non
theorem mF {t:Tx} (A:Asc t):∀ f∈au 32 t,Asc f:=fun f hf=>⟨zk (bY 32 t f hf).1 A.len,fun c hc=>A.ch c ((bY 32 t f hf).2 c hc)⟩
theorem lh:∀ l:List Tx,(l.map rw').flatten.length<=l.flatten.length
 | []=>by simp
 | t :: l=>by
  have:=lh l
  have:=rw_len t
  simp only [zR,zc,zp]
  omega
theorem vO (t:Tx) (A:Asc t):∃ m,d4 [.str t]=some (m,uW (rd t)):=by
 have hl:=A.len
 unfold d4
 by_cases h46:t=[46]
 ·subst h46;exact ⟨.fr,rfl⟩
 have hf:(t == [46])=false:=by simpa using h46
 have c46:e2 oEq (ah 0) (eC (.str [46])) [some (.pu (.str t)),none,none,none]=some (.fr,.bl (t == [46])):=e2v (x:=(.fr,.str t)) rfl rfl (iI rfl rfl (dP t [46]))
 rw [hf] at c46
 have hrd:rd t=if (au 32 t).all okW && (decide ((au 32 t).length<=8) && decide (((au 32 t).map rw').flatten.length<=120)) then some ((au 32 t).map rw') else none:=by
  unfold rd
  rw [if_neg h46]
 rw [hrd]
 have sl:=cC 32 t
 have st:=fU 32 t
 have as:=mF A
 have ms:cz (.fr,.str t) [(.fr,.str [32])]=some (.fr,.lst ((au 32 t).map .str)):=by
  simp only [cz]
  rw [zi ⟨by decide,show _ < 16777216 by omega⟩]
 generalize au 32 t=fs at sl st ms as ⊢
 have fr:=lh fs
 obtain ⟨b',z2,z3,e⟩:=xf t fs [] none none (by simp;omega) as
 have it:dM (eM cz (ah 0) (af (eC (.str [32])) ao)) (ED t [] none none)=some (.fr,fs.map .str):=by
  show Option.bind (Option.bind (some (Md.fr,T.str t)) _) _=_
  show Option.bind (cz (.fr,.str t) [(.fr,.str [32])]) _=_
  rw [ms]
  rfl
 have lp:=(i8 (tg:=cn 2) (body:=cJ) it rfl).trans e
 have hd:∀ b:Sx,aA (sIf (e2 oEq (ah 0) (eC (.str [46]))) (cA (bC ao)) dJ) (aA (fI 1 (bC ao)) b) [some (.pu (.str t)),none,none,none]=b (ED t [] none none):=fun b=>(aK ((ir c46).trans rfl)).trans (aK rfl)
 cases ha:fs.all okW with
 | false =>
  rw [ha] at lp
  exact ⟨.fr,eW rfl ((hd _).trans (gF lp))⟩
 | true =>
  rw [ha,yh] at lp
  rw [yQ]
  have l1:eN cp (af (ah 1) ao) [some (.pu (.str t)),some (.pu (.lst ((fs.map rw').map .str))),z2,z3]=some (.fr,.int (fs.length:Nat)):=jz (xs:=[(.pu,.lst ((fs.map rw').map .str))]) rfl (by
   show some (Md.fr,T.int ((((fs.map rw').map T.str).length:Nat):Int))=_
   rw [zt,zt])
  have jn:bJ (.fr,.str []) [(.pu,.lst ((fs.map rw').map .str))]=some (.fr,.str ((fs.map rw').flatten)):=fT (by
   have:=strs_map (fun x:Tx=>x) (fs.map rw')
   rw [this,Zq]) (by omega)
  have l2:eN cp (af (eM bJ (eC (.str [])) (af (ah 1) ao)) ao) [some (.pu (.str t)),some (.pu (.lst ((fs.map rw').map .str))),z2,z3]=some (.fr,.int (((fs.map rw').flatten.length:Nat))):=jz (xs:=[(.fr,.str ((fs.map rw').flatten))]) (xv (r:=ao) (by
   show Option.bind (some (Md.fr,T.str [])) _=_
   exact jn) rfl) rfl
  have g1:e2 oGt (eN cp (af (ah 1) ao)) (eC (.int 8)) [some (.pu (.str t)),some (.pu (.lst ((fs.map rw').map .str))),z2,z3]=some (.fr,.bl (!decide (fs.length<=8))):=e2v l1 rfl (by
   show some (Md.fr,T.bl (decide ((8:Int) < ((fs.length:Nat):Int))))=_
   by_cases q:fs.length<=8
   ·rw [decide_eq_true q,decide_eq_false (by omega)];rfl
   ·rw [decide_eq_false q,decide_eq_true (by omega)];rfl)
  have g2:e2 oGt (eN cp (af (eM bJ (eC (.str [])) (af (ah 1) ao)) ao)) (eC (.int 120)) [some (.pu (.str t)),some (.pu (.lst ((fs.map rw').map .str))),z2,z3]=some (.fr,.bl (!decide ((fs.map rw').flatten.length<=120))):=e2v l2 rfl (by
   show some (Md.fr,T.bl (decide ((120:Int) < (((fs.map rw').flatten.length:Nat):Int))))=_
   by_cases q:(fs.map rw').flatten.length<=120
   ·rw [decide_eq_true q,decide_eq_false (by omega)];rfl
   ·rw [decide_eq_false q,decide_eq_true (by omega)];rfl)
  have tst:=or2 (m:=.fr) (n:=.fr) g1 g2
  rw [← Bool.not_and] at tst
  cases hb:(decide (fs.length<=8) && decide ((fs.map rw').flatten.length<=120)) with
  | true =>
   rw [hb] at tst
   exact ⟨_,eW rfl ((hd _).trans ((aK lp).trans ((aK rfl).trans ((aK ((ir tst).trans rfl)).trans rfl))))⟩
  | false =>
   rw [hb] at tst
   exact ⟨.fr,eW rfl ((hd _).trans ((aK lp).trans ((aK rfl).trans (gF ((og tst).trans rfl)))))⟩
theorem pG (t:T) (b:List Tx) (h:aR [t]=some (.ok (.fr,.lst (b.map .str)))):bO [t]=some (up .pu (.lst (b.map .str))):=by
 have cx:=nT (g:=aR) (cs:=af (ah 0) ao) (η:=[some (.pu t),some (.pu .non),some (.pu .non),none]) (xs:=[up .pu t]) rfl h
 unfold bO
 refine eW rfl (η:=[some (.pu t),some (.pu .non),some (.pu (.lst (b.map .str))),none]) ((aK (η1:=[some (.pu t),some (.pu .non),none,none]) rfl).trans ((aK (η1:=[some (.pu t),some (.pu .non),some (.pu .non),none]) rfl).trans ((aK (η1:=[some (.pu t),some (.pu .non),some (.pu (.lst (b.map .str))),none]) ?_).trans rfl)))
 unfold kL
 rw [wN (S:=bh 2) cx (bQ (m:=.fr) (vy cx) (by decide) (by decide:2 < 4))]
 rfl
theorem lK (t:T) (h:aR [t]=some (.ex NB)):bO [t]=some (.fr,.non):=by
 have cx:=rS (S:=bh 2) (jV (g:=aR) (cs:=af (ah 0) ao) (η:=[some (.pu t),some (.pu .non),some (.pu .non),none]) (xs:=[up .pu t]) rfl h)
 unfold bO
 refine eW rfl (η:=[some (.pu t),some (.pu (.lst [.bl true,.bl true,.bl false])),some (.pu .non),none]) ((aK (η1:=[some (.pu t),some (.pu .non),none,none]) rfl).trans ((aK (η1:=[some (.pu t),some (.pu .non),some (.pu .non),none]) rfl).trans ((aK (η1:=[some (.pu t),some (.ow (.lst [.bl true,.bl true,.bl false])),some (.pu .non),none]) ?_).trans rfl)))
 unfold kL
 rw [cx,zw]
 show ((mt1 NB NB).bind _)=_
 rw [show mt1 NB NB=some 0 from zi rfl]
 rfl
theorem gK {g:Fn} {as:Exs} {η:Env} {xs:Z0} {m:Md} {t:T} (h:as η=some xs) (h2:g (trees xs)=some (m,t)):∃ m',aS g as η=some (m',t):=by
 unfold aS
 rw [h,zw,h2]
 cases m with
 | fr=>exact ⟨_,rfl⟩
 | pu=>exact ⟨_,rfl⟩
 | bo=>exact ⟨_,rfl⟩
theorem iP (bk:List Tx) (B:Bk bk):bF [.lst (bk.map .str)]=some (.fr,.str (dY bk)):=by
 have n8:=B.n8
 have n60:=B.n60
 unfold bF
 cases bk with
 | nil=>rfl
 | cons a r =>
 have c0:e2 oEq (ah 0) (bC ao) [some (.pu (.lst ((a :: r).map .str)))]=some (.fr,.bl false):=e2v (x:=(.pu,.lst ((a :: r).map .str))) (y:=(.fr,.lst [])) rfl rfl (iI (by simp) rfl rfl)
 generalize hb:a :: r=bk at *
 have hne:bk ≠ []:=by rw [← hb];simp
 have c:=cP (k:=1) (tg:=cn 0) (it:=dM (ah 0)) (elt:=e2 bG (bC (af (eC (.str [45])) (af (ah 0) ao))) (eN fP (af (e2 oNe (ah 0) (eC (.str []))) ao))) (η:=[some (.pu (.lst (bk.map .str)))]) (m:=.pu) T.str (fun t=>T.str (sw t)) bk
  rfl rfl (by omega) (fun t _=>⟨[some (.pu (.str t)),some (.pu (.lst (bk.map .str)))],rfl,by
   have c3:e2 oNe (ah 0) (eC (.str [])) [some (.pu (.str t)),some (.pu (.lst (bk.map .str)))]=some (.fr,.bl (!(t == []))):=e2v (x:=(.fr,.str t)) rfl rfl (nF rfl rfl (dP t []))
   refine e2v (eZ [[45],t] rfl (zL rfl)) (jz (xv (r:=ao) c3 rfl) rfl) ?_
   unfold sw
   by_cases q:t=[]
   ·subst q;rfl
   ·rw [if_neg q,show (t == [])=false from by simpa using q];rfl⟩)
 have j:bJ (.fr,.str [32]) [(.fr,.lst (bk.map fun t=>T.str (sw t)))]=some (.fr,.str (dY bk)):=by
  rw [dY,if_neg hne]
  simp only [bJ,strs_map sw bk,zw]
  refine zi ?_
  have:=kJ bk
  show _<=16777216
  simp
  omega
 refine eW rfl ((aK ((ir c0).trans rfl)).trans (g9 (η:=[some (.pu (.lst (bk.map .str)))]) ?_))
 show Option.bind (some (Md.fr,T.str [32])) _=_
 rw [zw,xv (r:=ao) c rfl]
 exact j
theorem nU {t:Tx} (h:∀ c∈t,97<=c/\c<=122):∀ c∈sw t,c < 128/\c ≠ 32/\c ≠ 46:=fun c hc=>by
 unfold sw at hc
 split at hc
 ·simp at hc;omega
 ·have:=h c hc;omega
theorem jF (bk:List Tx) (B:Bk bk):(dY bk).length<=100/\∀ c∈dY bk,c < 128:=by
 have n8:=B.n8
 have n60:=B.n60
 unfold dY
 split
 ·simp
 ·have l1:=jw (bk.map sw)
  have l2:=kJ bk
  rw [zt] at l1
  refine ⟨by omega,gS _ (fun c=>c < 128) (by decide) fun t ht c hc=>?_⟩
  obtain ⟨y,hy,rfl⟩:=yZ.mp ht
  exact (nU (B.ch y hy) c hc).1
theorem rw_sw (t:Tx) (h:∀ c∈t,97<=c/\c<=122):rw' (sw t)=t:=by
 unfold sw rw'
 by_cases e:t=[]
 ·simp [e]
 ·rw [if_neg e]
  by_cases e2:t=[45]
  ·subst e2
   have:=(h 45 (by simp)).1
   omega
  ·rw [if_neg e2]
theorem vh (t:Tx) (h:∀ c∈t,97<=c/\c<=122):okW (sw t)=true:=by
 unfold sw
 by_cases e:t=[]
 ·rw [zi e];rfl
 ·rw [if_neg e]
  unfold okW
  have:t.all okC=true:=by
   rw [zF]
   intro c hc
   have:=h c hc
   unfold okC
   rw [decide_eq_true this.1,decide_eq_true this.2];rfl
  rw [this,show (t == [])=false from by simpa using e]
  simp
theorem pw (bk:List Tx) (B:Bk bk):rd (dY bk)=some bk:=by
 have n8:=B.n8
 have n60:=B.n60
 unfold dY
 by_cases h0:bk=[]
 ·rw [zi h0,h0];rfl
 rw [if_neg h0]
 have sp:au 32 (az [32] (bk.map sw))=bk.map sw:=by
  cases bk with
  | nil=>exact absurd rfl h0
  | cons t r =>
   refine fg _ _ fun x hx hm=>?_
   obtain ⟨y,hy,rfl⟩:=yZ.mp (show x∈(t :: r).map sw from hx)
   exact (nU (B.ch y hy) 32 hm).2.1 rfl
 have hne:az [32] (bk.map sw) ≠ [46]:=fun e=>by
  have:=gS (bk.map sw) (fun c=>c ≠ 46) (by decide) (fun t ht c hc=>by
   obtain ⟨y,hy,rfl⟩:=yZ.mp ht
   exact (nU (B.ch y hy) c hc).2.2) 46 (by rw [e];exact zx)
  exact this rfl
 have em:(bk.map sw).map rw'=bk:=by
  rw [yy]
  conv=>rhs;rw [← Zq bk]
  exact x9 fun t ht=>rw_sw t (B.ch t ht)
 have al:(bk.map sw).all okW=true:=by
  rw [yk,zF]
  exact fun t ht=>vh t (B.ch t ht)
 unfold rd
 rw [if_neg hne,sp,em,al,zt,decide_eq_true n8,decide_eq_true (by omega:bk.flatten.length<=120)]
 rfl
noncomputable abbrev dS:Tx:=[32,33,34,35,36,38,39,40,41,42,43,44,45,46,47,48,49,50,51,52,53,54,55,56,57,58,59,60,61,62,63,64,65,66,67,88,89,90,91,93,94,95,96,97,98,99,100,101,102,103,104,105,106,107,108,109,110,111,112,113,114,115,116,117,118,119,120,121,122,123,124,125,126,10]
theorem tW (x:Int):∃ c,c < 128/\dy [.int x]=some (.fr,.str [c]):=by
 have hl:((dS.length:Nat):Int)=74:=by decide
 have a0:=zG x (b:=(dS.length:Int)) (by decide)
 have a1:=zN x (b:=(dS.length:Int)) (by decide)
 have pk:∀ i,i < 74->dS.getD i 0 < 128:=by decide
 refine ⟨dS.getD (x % (dS.length:Int)).toNat 0,pk _ (by omega),?_⟩
 unfold dy
 exact eW rfl ((aK (η1:=[some (.pu (.int x)),some (.pu (.str dS))]) rfl).trans (g9 (e2v (x:=(.fr,.str dS)) rfl (e2v (x:=(.fr,.int x)) rfl (jz (xs:=[(.fr,.str dS)]) rfl rfl) (aw (by decide))) (sT dS _ a0 a1))))
theorem uj {t:Tx} (h:∀ c∈t,c < 128):upT t=t.map PyProof.Rows.up1:=by
 unfold upT
 rw [PyProof.Rows.upper_ascii (x:=sx t) (by simpa [sx] using h)]
 simp [sx]
theorem cut_str {a:Ex} {η:Env} {m:Md} {t:Tx} {lo hi:Option Ex} {l h:Option Int} (h1:a η=some (m,.str t)) (h2:jH lo η=some l) (h3:jH hi η=some h):eSl a lo hi η=some (.fr,.str (cut t l h)):=by
 show (a η).bind _=_
 rw [h1,zw,h2,zw,h3]
 rfl
noncomputable def As (n:Nat) (t:Tx):Prop:=t.length<=n/\∀ c∈t,c < 128
theorem As.cut {n:Nat} {t:Tx} (h:As n t) (a b:Option Int):As n (cut t a b):=⟨zk (uu t a b) h.1,fun c hc=>h.2 c (qs t a b hc)⟩
theorem As.app {m n:Nat} {s t:Tx} (h1:As m s) (h2:As n t):As (m+n) (s++t):=⟨by rw [zp];exact Nat.add_le_add h1.1 h2.1,fun c hc=>(zT.mp hc).elim (h1.2 c) (h2.2 c)⟩
theorem As.asc {n:Nat} {t:Tx} (h:As n t) (hn:n<=1000):Asc t:=⟨zk h.1 hn,h.2⟩
theorem As.add {a b:Ex} {η:Env} {m n:Nat} {x y:Tx} (A:As m x) (B:As n y) (h1:a η=some (.fr,.str x)) (h2:b η=some (.fr,.str y)) (h:m+n<=1000):e2 aY a b η=some (.fr,.str (x++y)):=tJ h1 h2 (by have:=A.1;have:=B.1;omega)
theorem jU {α:Type} (n:Nat) (x:α):(List.replicate n [x]).flatten=List.replicate n x:=by
 induction n with
 | zero=>rfl
 | succ n ih=>rw [zH,zc,ih];rfl
theorem lx {e:Ex} {η:Env} {c:Nat} {j:Int} (h:e η=some (.fr,.int j)) (h0:0<=j) (h1:j<=200):e2 eE (eC (.str [c])) e η=some (.fr,.str (List.replicate j.toNat c)):=by
 refine e2v (x:=(.fr,.str [c])) rfl h ?_
 show (if ([c]:Tx).length * j.toNat<=dh/\-B62<=j/\j < B62 then some (Md.fr,T.str (List.replicate j.toNat [c]).flatten) else none)=_
 rw [zi ⟨by show 1 * j.toNat<=16777216;omega,by show (-4611686018427387904:Int)<=j;omega,by show j < (4611686018427387904:Int);omega⟩,jU]
theorem qB {e:Ex} {η:Env} {c:Tx} {j:Int} (h:e η=some (.fr,.int j)) (h0:0<=j) (h1:j<=200):e2 fO (bC (af (eC (.str c)) ao)) e η=some (.fr,.lst ((List.replicate j.toNat c).map .str)):=by
 refine e2v (x:=(.fr,.lst [.str c])) rfl h ?_
 show (if dI [T.str c]/\([T.str c]).length * j.toNat<=dh/\-B62<=j/\j < B62 then some (Md.fr,T.lst (List.replicate j.toNat [T.str c]).flatten) else none)=_
 rw [zi ⟨rfl,by show 1 * j.toNat<=16777216;omega,by show (-4611686018427387904:Int)<=j;omega,by show j < (4611686018427387904:Int);omega⟩,jU,List.map_replicate]
theorem i7 (n c:Nat) (h:c < 128):As n (List.replicate n c):=⟨by rw [zK];exact zm _,fun x hx=>by rw [(yf.mp hx).2];exact h⟩
theorem gp (d:Tx):∀ l:List Tx,(az d l).length<=total l+l.length * d.length
 | []=>by simp [az]
 | [x]=>by simp [az,total]
 | x :: y :: r=>by
  have:=gp d (y :: r)
  simp only [az,zp,total,zZ,yD] at this ⊢
  omega
theorem gr (d:Tx):∀ (l:List Tx) (p:Nat->Prop),(∀ c∈d,p c)->(∀ t∈l,∀ c∈t,p c)->∀ c∈az d l,p c
 | [],p,_,_,c,h=>by simp [az] at h
 | [x],p,_,hx,c,h=>by simp [az] at h;exact hx x zx c h
 | x :: y :: r,p,h0,hx,c,h=>by
  simp only [az,zT] at h
  rcases h with (h | h) | h
  ·exact hx x zx c h
  ·exact h0 c h
  ·exact gr d (y :: r) p h0 (fun t ht=>hx t (zy _ ht)) c h
theorem kn {n:Nat}:∀ l:List Tx,(∀ t∈l,t.length<=n)->total l<=l.length * n
 | [],_=>by simp [total]
 | t :: l,h=>by
  have:=kn l fun x hx=>h x (zy _ hx)
  have:=h t zx
  simp only [total,zZ,yD]
  omega
theorem rZ {n:Nat} {t:Tx} (A:As n t) (h:n<=1000):txB t=true:=by
 have:=A.1
 unfold txB
 rw [decide_eq_true (show t.length<=dh from zk this (zk h (zL rfl))),yQ,zF]
 intro c hc
 have:=A.2 c hc
 exact decide_eq_true (by omega)
theorem rP {n:Nat} {t:Tx} (A:As n t):As n (upT t):=by
 rw [uj A.2]
 refine ⟨by rw [zt];exact A.1,fun c hc=>?_⟩
 obtain ⟨x,hx,rfl⟩:=yZ.mp hc
 have:=A.2 x hx
 unfold PyProof.Rows.up1
 split <;> omega
theorem kY {n:Nat} {t:Tx} (A:As n t):As (3 * n+2) (hZ 32 [32,32] t):=by
 have h1:=A.1
 have h2:=gp [32,32] (au 32 t)
 have h3:=fU 32 t
 have h4:=cC 32 t
 rw [← fh] at h3
 refine ⟨?_,gr [32,32] _ (fun c=>c < 128) (by decide) fun f hf c hc=>A.2 c ((bY 32 t f hf).2 c hc)⟩
 show (az [32,32] (au 32 t)).length<=_
 have:([32,32]:Tx).length=2:=rfl
 rw [this] at h2
 omega
noncomputable abbrev EB (bk:List Tx) (cell:Int) (J:Tx) (at':Int) (c:Nat) (z:Za):Env:=[some (.pu (.lst (bk.map .str))),some (.pu (.int cell)),some (.pu (.str J)),some (.pu (.int at')),some (.pu (.str [c])),z]
theorem uJ (bk:List Tx) (B:Bk bk) (cell:Int):∃ t,Asc t/\dz [.lst (bk.map .str),.int cell]=some (.fr,.str t):=by
 have tx:=iP bk B
 have aJ:As 100 (dY bk):=jF bk B
 have n8:=B.n8
 have n60:=B.n60
 generalize dY bk=J at tx aJ
 obtain ⟨c,hc,sg⟩:=tW (cell / 7)
 have jl:=aJ.1
 obtain ⟨at',hat⟩:∃ a:Int,a=cell / 32 % ((J.length:Int)+1):=⟨_,rfl⟩
 have aC:As 1 [c]:=⟨zm _,fun x hx=>by rw [zO.mp hx];exact hc⟩
 have a32:As 1 ([32]:Tx):=⟨by decide,by decide⟩
 have aD:As 2 ([32,46]:Tx):=⟨by decide,by decide⟩
 have aE:As 2 ([46,32]:Tx):=⟨by decide,by decide⟩
 have aF:As 2 ([32,45]:Tx):=⟨by decide,by decide⟩
 have aG:As 1 ([45]:Tx):=⟨by decide,by decide⟩
 have v2:∀ z,ah 2 (EB bk cell J at' c z)=some (.fr,.str J):=fun _=>rfl
 have v4:∀ z,ah 4 (EB bk cell J at' c z)=some (.fr,.str [c]):=fun _=>rfl
 have lo:∀ z,eSl (ah 2) none (some (ah 3)) (EB bk cell J at' c z)=some (.fr,.str (cut J none (some at'))):=fun z=>cut_str rfl rfl rfl
 have hi:∀ z,eSl (ah 2) (some (ah 3)) none (EB bk cell J at' c z)=some (.fr,.str (cut J (some at') none)):=fun z=>cut_str rfl rfl rfl
 have hj:∀ z,eSl (ah 2) (some (e2 aY (ah 3) (eC (.int 1)))) none (EB bk cell J at' c z)=some (.fr,.str (cut J (some (at'+1)) none)):=fun z=>cut_str rfl rfl rfl
 have aL:=aJ.cut none (some at')
 have aH:=aJ.cut (some at') none
 have aI:=aJ.cut (some (at'+1)) none
 generalize cut J none (some at')=L at lo aL
 generalize cut J (some at') none=H at hi aH
 generalize cut J (some (at'+1)) none=I at hj aI
 have ln:∀ z,eN cp (af (ah 0) ao) (EB bk cell J at' c z)=some (.fr,.int (bk.length:Nat)):=fun z=>jz (xs:=[(.pu,.lst (bk.map .str))]) rfl (by
  show some (Md.fr,T.int (((bk.map T.str).length:Nat):Int))=_
  rw [zt])
 have jn:bJ (.fr,.str []) [(.pu,.lst (bk.map .str))]=some (.fr,.str bk.flatten):=fT (by
   have:=strs_map (fun x:Tx=>x) bk
   rw [this,Zq]) (by omega)
 have lf:∀ z,eN cp (af (eM bJ (eC (.str [])) (af (ah 0) ao)) ao) (EB bk cell J at' c z)=some (.fr,.int (bk.flatten.length:Nat)):=fun z=>jz (xs:=[(.fr,.str bk.flatten)]) (xv (r:=ao) (by
   show Option.bind (some (Md.fr,T.str [])) _=_
   exact jn) rfl) rfl
 have r9:∀ z,e2 fO (bC (af (eC (.str [97])) ao)) (e2 fq (eC (.int 9)) (eN cp (af (ah 0) ao))) (EB bk cell J at' c z)=some (.fr,.lst ((List.replicate (9 - (bk.length:Int)).toNat [97]).map .str)):=fun z=>qB (e2v (x:=(.fr,.int 9)) rfl (ln z) rfl) (by omega) (by omega)
 have r121:∀ z,e2 eE (eC (.str [122])) (e2 fq (eC (.int 121)) (eN cp (af (eM bJ (eC (.str [])) (af (ah 0) ao)) ao))) (EB bk cell J at' c z)=some (.fr,.str (List.replicate (121 - (bk.flatten.length:Int)).toNat 122)):=fun z=>lx (e2v (x:=(.fr,.int 121)) rfl (lf z) rfl) (by omega) (by omega)
 have r120:∀ z,e2 eE (eC (.str [122])) (e2 fq (eC (.int 120)) (eN cp (af (eM bJ (eC (.str [])) (af (ah 0) ao)) ao))) (EB bk cell J at' c z)=some (.fr,.str (List.replicate (120 - (bk.flatten.length:Int)).toNat 122)):=fun z=>lx (e2v (x:=(.fr,.int 120)) rfl (lf z) rfl) (by omega) (by omega)
 have k9:(9 - (bk.length:Int)).toNat<=9:=by omega
 have k1:(121 - (bk.flatten.length:Int)).toNat<=121:=by omega
 have k0:(120 - (bk.flatten.length:Int)).toNat<=121:=by omega
 generalize (9 - (bk.length:Int)).toNat=n9 at r9 k9
 generalize (121 - (bk.flatten.length:Int)).toNat=n1 at r121 k1
 generalize (120 - (bk.flatten.length:Int)).toNat=n0 at r120 k0
 have aR1:As 121 (List.replicate n1 122):=⟨zk (i7 n1 122 (by decide)).1 k1,(i7 n1 122 (by decide)).2⟩
 have aR0:As 121 (List.replicate n0 122):=⟨zk (i7 n0 122 (by decide)).1 k0,(i7 n0 122 (by decide)).2⟩
 have aJ9:As 300 (az [32] (J :: List.replicate n9 [97])):=by
  have h1:=gp [32] (J :: List.replicate n9 [97])
  have h2:total (List.replicate n9 [97])<=(List.replicate n9 ([97]:Tx)).length * 1:=kn _ fun t ht=>by rw [(yf.mp ht).2];decide
  refine ⟨?_,gr [32] _ (fun c=>c < 128) (by decide) fun t ht x hx=>?_⟩
  ·simp only [total,zZ,zK,yA] at h1 h2
   omega
  ·rcases zj.mp ht with rfl | ht
   ·exact aJ.2 x hx
   ·rw [(yf.mp ht).2,zO] at hx
    rw [hx];decide
 have j9:∀ z,eM bJ (eC (.str [32])) (af (e2 aY (bC (af (ah 2) ao)) (e2 fO (bC (af (eC (.str [97])) ao)) (e2 fq (eC (.int 9)) (eN cp (af (ah 0) ao))))) ao) (EB bk cell J at' c z)=some (.fr,.str (az [32] (J :: List.replicate n9 [97]))):=fun z=>by
  have:=iX (x:=[J]) (y:=List.replicate n9 [97]) (eZ (as:=af (ah 2) ao) [J] rfl (zL rfl)) (r9 z) (by rw [zK,yq];omega)
  show Option.bind (some (Md.fr,T.str [32])) _=_
  rw [zw,xv (r:=ao) this rfl,zw]
  have ss:=strs_map (fun x:Tx=>x) ([J]++List.replicate n9 [97])
  rw [Zq] at ss
  show (strs? (([J]++List.replicate n9 [97]).map T.str)).bind _=_
  rw [ss,zw]
  refine zi ?_
  have h2:total (List.replicate n9 [97])<=(List.replicate n9 ([97]:Tx)).length * 1:=kn _ fun t ht=>by rw [(yf.mp ht).2];decide
  show _<=16777216
  simp only [List.singleton_append,total,zZ,zK,yA] at h2 ⊢
  omega
 generalize az [32] (J :: List.replicate n9 [97])=J9 at aJ9 j9
 generalize List.replicate n1 122=R1 at aR1 r121
 generalize List.replicate n0 122=R0 at aR0 r120
 have up':∀ z,eUp (ah 2) (EB bk cell J at' c z)=some (.fr,.str (upT J)):=fun z=>by
  show (if txB (upT J)=true then some (Md.fr,T.str (upT J)) else none)=_
  rw [zi (rZ (rP aJ) (by decide))]
 have rp:∀ z,mw 2 32 [32,32] (EB bk cell J at' c z)=some (.fr,.str (hZ 32 [32,32] J)):=fun z=>by
  show (if J.length+(J.length+1) * 2<=dh/\txB (hZ 32 [32,32] J)=true then some (Md.fr,T.str (hZ 32 [32,32] J)) else none)=_
  rw [zi ⟨by show _<=16777216;omega,rZ (kY aJ) (by decide)⟩]
 have aU:=rP aJ
 have aP:=kY aJ
 generalize upT J=U at up' aU
 generalize hZ 32 [32,32] J=P at rp aP
 have L1:∀ z,bC (af (e2 aY (e2 aY (eSl (ah 2) none (some (ah 3))) (ah 4)) (eSl (ah 2) (some (ah 3)) none)) (af (e2 aY (e2 aY (eSl (ah 2) none (some (ah 3))) (ah 4)) (eSl (ah 2) (some (e2 aY (ah 3) (eC (.int 1)))) none)) (af (e2 aY (eSl (ah 2) none (some (ah 3))) (eSl (ah 2) (some (e2 aY (ah 3) (eC (.int 1)))) none)) (af (e2 aY (ah 2) (eC (.str [32]))) ao)))) (EB bk cell J at' c z)=some (.fr,.lst ([L++[c]++H,L++[c]++I,L++I,J++[32]].map .str)):=fun z =>
  eZ [L++[c]++H,L++[c]++I,L++I,J++[32]] (xv ((aL.app aC).add aH (aL.add aC (lo z) (v4 z) (by decide)) (hi z) (by decide)) (xv ((aL.app aC).add aI (aL.add aC (lo z) (v4 z) (by decide)) (hj z) (by decide)) (xv (aL.add aI (lo z) (hj z) (by decide)) (xv (aJ.add a32 (v2 z) rfl (by decide)) rfl)))) (zL rfl)
 have L2:∀ z,bC (af (e2 aY (eC (.str [32])) (ah 2)) (af (e2 aY (e2 aY (eSl (ah 2) none (some (ah 3))) (eC (.str [32]))) (eSl (ah 2) (some (ah 3)) none)) (af (e2 aY (ah 2) (eC (.str [32,46]))) (af (e2 aY (eC (.str [46,32])) (ah 2)) (af (e2 aY (ah 2) (eC (.str [32,45]))) (af (e2 aY (eC (.str [45])) (ah 2)) (af (eC (.str [])) ao))))))) (EB bk cell J at' c z)=some (.fr,.lst ([[32]++J,L++[32]++H,J++[32,46],[46,32]++J,J++[32,45],[45]++J,[]].map .str)):=fun z =>
  eZ [[32]++J,L++[32]++H,J++[32,46],[46,32]++J,J++[32,45],[45]++J,[]] (xv (a32.add aJ rfl (v2 z) (by decide)) (xv ((aL.app a32).add aH (aL.add a32 (lo z) rfl (by decide)) (hi z) (by decide)) (xv (aJ.add aD (v2 z) rfl (by decide)) (xv (aE.add aJ rfl (v2 z) (by decide)) (xv (aJ.add aF (v2 z) rfl (by decide)) (xv (aG.add aJ rfl (v2 z) (by decide)) (xv rfl rfl))))))) (zL rfl)
 have L3:∀ z,bC (af (eM bJ (eC (.str [32])) (af (e2 aY (bC (af (ah 2) ao)) (e2 fO (bC (af (eC (.str [97])) ao)) (e2 fq (eC (.int 9)) (eN cp (af (ah 0) ao))))) ao)) (af (e2 aY (e2 aY (ah 2) (eC (.str [32]))) (e2 eE (eC (.str [122])) (e2 fq (eC (.int 121)) (eN cp (af (eM bJ (eC (.str [])) (af (ah 0) ao)) ao))))) ao)) (EB bk cell J at' c z)=some (.fr,.lst ([J9,J++[32]++R1].map .str)):=fun z =>
  eZ [J9,J++[32]++R1] (xv (j9 z) (xv ((aJ.app a32).add aR1 (aJ.add a32 (v2 z) rfl (by decide)) (r121 z) (by decide)) rfl)) (zL rfl)
 have L4:∀ z,bC (af (e2 aY (e2 aY (ah 2) (eC (.str [32]))) (e2 eE (eC (.str [122])) (e2 fq (eC (.int 120)) (eN cp (af (eM bJ (eC (.str [])) (af (ah 0) ao)) ao))))) (af (eUp (ah 2)) (af (mw 2 32 [32,32]) ao))) (EB bk cell J at' c z)=some (.fr,.lst ([J++[32]++R0,U,P].map .str)):=fun z =>
  eZ [J++[32]++R0,U,P] (xv ((aJ.app a32).add aR0 (aJ.add a32 (v2 z) rfl (by decide)) (r120 z) (by decide)) (xv (up' z) (xv (rp z) rfl))) (zL rfl)
 have all:∀ t∈[L++[c]++H,L++[c]++I,L++I,J++[32]]++[[32]++J,L++[32]++H,J++[32,46],[46,32]++J,J++[32,45],[45]++J,[]]++[J9,J++[32]++R1]++[J++[32]++R0,U,P],Asc t:=by
  intro t ht
  simp only [zT,zj,List.not_mem_nil,or_false] at ht
  rcases ht with (((rfl | rfl | rfl | rfl) | rfl | rfl | rfl | rfl | rfl | rfl | rfl) | rfl | rfl) | rfl | rfl | rfl
  ·exact ((aL.app aC).app aH).asc (by decide)
  ·exact ((aL.app aC).app aI).asc (by decide)
  ·exact (aL.app aI).asc (by decide)
  ·exact (aJ.app a32).asc (by decide)
  ·exact (a32.app aJ).asc (by decide)
  ·exact ((aL.app a32).app aH).asc (by decide)
  ·exact (aJ.app aD).asc (by decide)
  ·exact (aE.app aJ).asc (by decide)
  ·exact (aJ.app aF).asc (by decide)
  ·exact (aG.app aJ).asc (by decide)
  ·exact ⟨by decide,by decide⟩
  ·exact aJ9.asc (by decide)
  ·exact ((aJ.app a32).app aR1).asc (by decide)
  ·exact ((aJ.app a32).app aR0).asc (by decide)
  ·exact aU.asc (by decide)
  ·exact aP.asc (by decide)
 have len16:([L++[c]++H,L++[c]++I,L++I,J++[32]]++[[32]++J,L++[32]++H,J++[32,46],[46,32]++J,J++[32,45],[45]++J,[]]++[J9,J++[32]++R1]++[J++[32]++R0,U,P]).length=16:=rfl
 have a1:([L++[c]++H,L++[c]++I,L++I,J++[32]]:List Tx).length=4:=rfl
 have a2:([[32]++J,L++[32]++H,J++[32,46],[46,32]++J,J++[32,45],[45]++J,[]]:List Tx).length=7:=rfl
 have a3:([J9,J++[32]++R1]:List Tx).length=2:=rfl
 have a4:([J++[32]++R0,U,P]:List Tx).length=3:=rfl
 generalize ([L++[c]++H,L++[c]++I,L++I,J++[32]]:List Tx)=X1 at L1 all len16 a1
 generalize ([[32]++J,L++[32]++H,J++[32,46],[46,32]++J,J++[32,45],[45]++J,[]]:List Tx)=X2 at L2 all len16 a2
 generalize ([J9,J++[32]++R1]:List Tx)=X3 at L3 all len16 a3
 generalize ([J++[32]++R0,U,P]:List Tx)=X4 at L4 all len16 a4
 have m0:=zG cell (b:=16) (by decide)
 have m1:=zN cell (b:=16) (by decide)
 refine ⟨(X1++X2++X3++X4).getD (cell % 16).toNat [],all _ ?_,?_⟩
 ·rw [zW,zX (by rw [len16];omega)]
  exact yS _
 unfold dz
 refine eW (η:=EB bk cell J at' c (some (.pu (.lst ((X1++X2++X3++X4).map .str))))) rfl ?_
 refine (aK (η1:=[some (.pu (.lst (bk.map .str))),some (.pu (.int cell)),some (.pu (.str J)),none,none,none]) (bQ (m:=.fr) (bq (xs:=[(.pu,.lst (bk.map .str))]) rfl tx) (by decide) (by decide:2 < 6))).trans ?_
 refine (aK (η1:=[some (.pu (.lst (bk.map .str))),some (.pu (.int cell)),some (.pu (.str J)),some (.pu (.int at')),none,none]) (bQ (m:=.fr) (e2v (x:=(.fr,.int (cell / 32))) (y:=(.fr,.int ((J.length:Int)+1))) (e2v (x:=(.fr,.int cell)) rfl rfl (av (by decide))) (e2v (x:=(.fr,.int (J.length:Int))) rfl rfl rfl) ((aw (by omega)).trans (by rw [hat]))) (by decide) (by decide:3 < 6))).trans ?_
 refine (aK (η1:=EB bk cell J at' c none) (bQ (m:=.fr) (bq (xs:=[(.fr,.int (cell / 7))]) (xv (r:=ao) (e2v (x:=(.fr,.int cell)) rfl rfl (av (by decide))) rfl) sg) (by decide) (by decide:4 < 6))).trans ?_
 refine (aK (η1:=EB bk cell J at' c (some (.pu (.lst (X1.map .str))))) (bQ (m:=.fr) (L1 none) (by decide) (by decide:5 < 6))).trans ?_
 refine (aK (η1:=EB bk cell J at' c (some (.pu (.lst ((X1++X2).map .str))))) (bQ (m:=.fr) (iX (m:=.pu) rfl (L2 _) (by omega)) (by decide) (by decide:5 < 6))).trans ?_
 refine (aK (η1:=EB bk cell J at' c (some (.pu (.lst ((X1++X2++X3).map .str))))) (bQ (m:=.fr) (iX (m:=.pu) rfl (L3 _) (by rw [zp];omega)) (by decide) (by decide:5 < 6))).trans ?_
 refine (aK (η1:=EB bk cell J at' c (some (.pu (.lst ((X1++X2++X3++X4).map .str))))) (bQ (m:=.fr) (iX (m:=.pu) rfl (L4 _) (by rw [zp,zp];omega)) (by decide) (by decide:5 < 6))).trans ?_
 refine g9 (e2v (x:=(.pu,.lst ((X1++X2++X3++X4).map .str))) rfl (e2v (x:=(.fr,.int cell)) rfl rfl (aw (by decide))) ?_)
 exact oO T.str (X1++X2++X3++X4) (cell % 16) [] m0 (by rw [len16];exact m1) rfl
theorem lN (r:Option (List Tx)):eqD 60 (uW r)=true:=by
 cases r with
 | none=>rfl
 | some b=>show (b.map T.str).all (eqD 59)=true;rw [yk,zF];exact fun _ _=>rfl
theorem u3 (t:Tx) (A:Asc t):∃ m,bO [.str t]=some (m,uW (rd t)):=by
 have r:=kP t A.len
 cases h:rd t with
 | none=>rw [h] at r;exact ⟨_,lK _ r⟩
 | some b=>rw [h] at r;exact ⟨_,pG _ b r⟩
noncomputable def odd (t:Tx):Z2:=[.non,.int 5,.bl true,.lst [.str t],.tup [.str t],.dct 0 [],.int 0]
theorem tP (t:Tx):∀ x∈odd t,aR [x]=some (.ex NB):=by
 intro x hx
 simp only [odd,zj,List.not_mem_nil,or_false] at hx
 rcases hx with rfl | rfl | rfl | rfl | rfl | rfl | rfl <;> rfl
theorem tK (t:Tx) (i:Int) (h0:0<=i) (h1:i < 7):∃ x∈odd t,bG (.fr,.lst (odd t)) (.fr,.int i)=some (.fr,x):=by
 have hl:i.toNat < (odd t).length:=by show _ < 7;omega
 refine ⟨(odd t)[i.toNat],yS hl,?_⟩
 show (ixP (odd t).length i).bind _=_
 rw [rR h0 (show i < (((odd t).length:Nat):Int) from h1),zw,zX hl]
 show some (up .fr _)=_
 unfold up
 split <;> rfl
noncomputable abbrev EL (ns:Zc) (bk:List Tx) (z2 z3 z4 z5:Za):Env:=[some (.pu (.scr ns)),some (.pu (.lst (bk.map .str))),z2,z3,z4,z5]
theorem lw1 (ns:Zc) (bk:List Tx) (B:Bk bk) (k:Nat) (hk:k < 16) (z3 z4 z5:Za):∃ z3' z4',fK (EL ns bk (some (.pu (.int k))) z3 z4 z5)=some (.nx (EL ns bk (some (.pu (.int k))) z3' z4' z5)):=by
 have hc:=eL ns (12+k)
 rw [show ((12+k:Nat):Int)=12+(k:Int) by omega] at hc
 obtain ⟨cell,hcell⟩:∃ x,x=cellAt ns (12+k)+7368787 * (k:Int):=⟨_,rfl⟩
 obtain ⟨t,A,hb⟩:=uJ bk B cell
 obtain ⟨m1,e1⟩:=u3 t A
 obtain ⟨m2,e2'⟩:=vO t A
 obtain ⟨n1,f1⟩:=gK (as:=af (ah 4) ao) (η:=EL ns bk (some (.pu (.int k))) (some (.pu (.int cell))) (some (.pu (.str t))) z5) (xs:=[(.fr,.str t)]) rfl e1
 obtain ⟨n2,f2⟩:=gK (as:=af (ah 4) ao) (η:=EL ns bk (some (.pu (.int k))) (some (.pu (.int cell))) (some (.pu (.str t))) z5) (xs:=[(.fr,.str t)]) rfl e2'
 obtain ⟨x,hx,hix⟩:=tK t (cell % 7) (zG _ (by decide)) (zN _ (by decide))
 have f3:=bq (as:=af (e2 bG (bC (af (eC .non) (af (eC (.int 5)) (af (eC (.bl true)) (af (bC (af (ah 4) ao)) (af (nc (af (ah 4) ao)) (af (px 0 []) (af (eC (.int 0)) ao)))))))) (e2 oMod (ah 3) (eC (.int 7)))) ao) (η:=EL ns bk (some (.pu (.int k))) (some (.pu (.int cell))) (some (.pu (.str t))) z5) (xs:=[(.fr,x)])
  (xv (r:=ao) (e2v (x:=(.fr,.lst (odd t))) (y:=(.fr,.int (cell % 7))) rfl (e2v (x:=(.fr,.int cell)) rfl rfl (aw (by decide))) hix) rfl) (lK x (tP t x hx))
 refine ⟨some (.pu (.int cell)),some (.pu (.str t)),?_⟩
 unfold fK
 refine (aK (η1:=EL ns bk (some (.pu (.int k))) (some (.pu (.int cell))) z4 z5) (bQ (m:=.fr) (e2v (x:=(.fr,.int (cellAt ns (12+k)))) (y:=(.fr,.int (7368787 * (k:Int)))) (bq (xs:=[(.fr,.scr ns),(.fr,.int (12+(k:Int)))]) rfl hc) (e2v (x:=(.fr,.int 7368787)) (y:=(.fr,.int (k:Int))) rfl rfl (gv (by decide))) (by rw [hcell];rfl)) (by decide) (by decide:3 < 6))).trans ?_
 refine (aK (η1:=EL ns bk (some (.pu (.int k))) (some (.pu (.int cell))) (some (.pu (.str t))) z5) (bQ (m:=.fr) (bq (xs:=[(.pu,.lst (bk.map .str)),(.fr,.int cell)]) rfl hb) (by decide) (by decide:4 < 6))).trans ?_
 refine (aK ((ir (m:=.fr) (e2v f1 f2 (oz (lN _)))).trans rfl)).trans ?_
 refine (ir (m:=.fr) ?_).trans rfl
 show (aS _ _ _).bind _=_
 rw [f3]
 rfl
theorem vB:aR [.str [97,32,32,98]]=some (.ex NB):=by
 rw [kP _ (by decide)]
 rfl
theorem oJ (ns:Zc):lB [.scr ns]=some (.fr,.bl true):=by
 obtain ⟨bk,hbk,h8,h60,hch⟩:=uH ns
 have B:Bk bk:=⟨h8,h60,hch⟩
 obtain ⟨η',e3,z2',z3',z4',rfl⟩:=kW (tg:=cn 2) (body:=fK) (fun _ η=>∃ z2 z3 z4,η=EL ns bk z2 z3 z4 none) (rng 0 16) 0
  (EL ns bk none none none none) (fun j t η hj hp=>by
   obtain ⟨z2,z3,z4,rfl⟩:=hp
   rw [ri] at hj
   by_cases hlt:j < 16
   ·rw [zi hlt,Int.zero_add] at hj
    cases hj
    obtain ⟨y3,y4,q⟩:=lw1 ns bk B j hlt z3 z4 none
    exact ⟨_,_,rfl,.inl q,⟨_,y3,y4,rfl⟩⟩
   ·rw [if_neg hlt] at hj;cases hj) ⟨none,none,none,rfl⟩
 have tx:=iP bk B
 have rr:=kP (dY bk) (zk (jF bk B).1 (by decide))
 rw [pw bk B] at rr
 have rb:gy [.str (dY bk)]=some (.fr,.lst (bk.map .str)):=uK (g:=aR) rr
 unfold lB
 refine eW (η:=EL ns bk z2' z3' z4' (some (.pu (.bl true)))) rfl ?_
 refine (aK (η1:=EL ns bk none none none none) (bQ (m:=.fr) (bq (xs:=[(.fr,.scr ns)]) rfl hbk) (by decide) (by decide:1 < 6))).trans ?_
 refine (aK (oM (m:=.fr) (l:=rng 0 16) (fu (m:=.fr) (j:=16) rfl (by decide)) rfl e3)).trans ?_
 refine (aK (η1:=EL ns bk z2' z3' z4' (some (.pu (.bl false)))) rfl).trans ?_
 have cx:=rS (S:=fun c=>sX (xP c)) (jV (g:=aR) (cs:=af (eC (.str [97,32,32,98])) ao) (η:=EL ns bk z2' z3' z4' (some (.pu (.bl false)))) (xs:=[(.fr,.str [97,32,32,98])]) rfl vB)
 refine (aK (η1:=EL ns bk z2' z3' z4' (some (.pu (.bl true)))) (by
  unfold iB
  rw [cx,zw]
  show ((mt1 NB NB).bind _)=_
  rw [show mt1 NB NB=some 0 from zi rfl]
  rfl)).trans ?_
 refine g9 (wq (m:=.fr) (n:=.fr) (x:=true) (y:=true) rfl (e2v (x:=(.fr,.lst (bk.map .str))) (y:=(.pu,.lst (bk.map .str))) (bq (xs:=[(.fr,.str (dY bk))]) (xv (r:=ao) (bq (xs:=[(.pu,.lst (bk.map .str))]) rfl tx) rfl) rb) rfl (oK (lN (some bk)))))
end T50
end
section
namespace T50
open PySem PySem.Spec PyProof.Rows L2 VS
noncomputable def top (i:Nat):Stmt:=PySem.Challenge.pw_allparts_k50_texts_of_no_book.main.body.getD i (.Pass ⟨0,0,0,0⟩)
structure Blt (mg:Zh):Prop where
 b_ValueError:mg "ValueError" = none
 b_all:mg "all" = none
 b_int:mg "int" = none
 b_isinstance:mg "isinstance" = none
 b_len:mg "len" = none
 b_list:mg "list" = none
 b_max:mg "max" = none
 b_min:mg "min" = none
 b_range:mg "range" = none
 b_str:mg "str" = none
 b_sum:mg "sum" = none
 c_MOST_SIGNS:∃ t,mg "MOST_SIGNS" = some (.int 120 t)
 c_MOST_TEXTS:∃ t,mg "MOST_TEXTS" = some (.int 8 t)
 c_MOST_WORD_SIGNS:∃ t,mg "MOST_WORD_SIGNS" = some (.int 200 t)
structure Xcl (K:Zi) (mg:Zh) (C:Addr):Prop where
 m:mg "NoBook" = some (.ref C)
 q:PySem.W.excIn K C [.type "ValueError",.type "Exception",.type "BaseException",.type "object"] "ValueError.__new__" = true
 x:XN.XCl K C
 p_NoBook:∃ D,mg "NoBook" = some (.ref D)/\PySem.W.exmOne K (.ref C) (.ref D)=some true
 p_PartError:∃ D,mg "PartError" = some (.ref D)/\PySem.W.exmOne K (.ref C) (.ref D)=some true
 k_NoBook:∃ D,mg "NoBook" = some (.ref D)/\PySem.W.kitOne K (.ref C) (.ref D)=some true
 k_NoNumber:∃ D,mg "NoNumber" = some (.ref D)/\PySem.W.kitOne K (.ref C) (.ref D)=some false
 k_NoRow:∃ D,mg "NoRow" = some (.ref D)/\PySem.W.kitOne K (.ref C) (.ref D)=some false
 k_NoStand:∃ D,mg "NoStand" = some (.ref D)/\PySem.W.kitOne K (.ref C) (.ref D)=some false
 k_NoTable:∃ D,mg "NoTable" = some (.ref D)/\PySem.W.kitOne K (.ref C) (.ref D)=some false
 k_NoText:∃ D,mg "NoText" = some (.ref D)/\PySem.W.kitOne K (.ref C) (.ref D)=some false
 k_NoWord:∃ D,mg "NoWord" = some (.ref D)/\PySem.W.kitOne K (.ref C) (.ref D)=some false
 k_TooMany:∃ D,mg "TooMany" = some (.ref D)/\PySem.W.kitOne K (.ref C) (.ref D)=some false
 k_ValueError:PySem.W.kitOne K (.ref C) (.type "ValueError")=some true
section
variable {P:Program} {w:World} {K:Zi} {mg:Zh} {base:Heap} {C:Addr}
noncomputable abbrev bt:Stmt:=top 14
theorem fF:FnScope ["thing"] ["thing"] (ai bt):=⟨rfl,rfl,rfl,by decide +kernel,rfl,by decide +kernel,by decide +kernel⟩
theorem bg {f:Addr} {fd:FuncData} (F:Fun K "has_only_signs" "has_only_signs" bt f fd) (hm:mg "has_only_signs" = some (.ref f)) (B:Blt mg) (Z:Xcl K mg C) :
  FnAt P w K mg base 1 "has_only_signs" ["thing"] (gxE K C) aQ:=dD F hm fF rfl rfl (fun _ _ _ _ _ _ us hl=>by obtain ⟨_,rfl⟩:=L2.fV hl;rfl) fun cdv A outer s H E hr =>
  (ar (aB (eI (ky .str B.b_isinstance B.b_str (ae 0 rfl (Or.inl rfl) rfl rfl) rfl rfl rfl rfl) (dU (jh B.b_all (aa (du 1 ["sign", "thing"] rfl (cF (ae 0 rfl (Or.inl rfl) rfl rfl) rfl) (d6 (by decide)) (fun _ _ _ _ _=>(bu 0 (show List.Nodup (["sign", "thing"]:List Str) from by decide +kernel) rfl (Or.inl rfl) (Or.inr rfl))) (fun _ _ _ _ _=>(gD (aq (by decide +kernel) (by decide)) (ae 0 rfl (Or.inl rfl) rfl rfl) (aq (by decide +kernel) (by decide)) (by with_unfolding_all rfl))) rfl rfl (by decide) (fun _=>rfl)) ag rfl) rfl rfl rfl rfl)))))
noncomputable abbrev dt:Stmt:=top 15
theorem kC:FnScope ["thing"] ["thing"] (ai dt):=⟨rfl,rfl,rfl,by decide +kernel,rfl,by decide +kernel,by decide +kernel⟩
theorem d2 {f:Addr} {fd:FuncData} (F:Fun K "is_word" "is_word" dt f fd) (hm:mg "is_word" = some (.ref f)) (B:Blt mg) (Z:Xcl K mg C) (bg:FnAt P w K mg base 1 "has_only_signs" ["thing"] (gxE K C) aQ) :
  FnAt P w K mg base 2 "is_word" ["thing"] (gxE K C) dX:=dD F hm kC rfl rfl (fun _ _ _ _ _ _ us hl=>by obtain ⟨_,rfl⟩:=L2.fV hl;rfl) fun cdv A outer s H E hr =>
  (ar (aB (eI (aV bg hr (aa (ae 0 rfl (Or.inl rfl) rfl rfl) ag rfl) (by decide) rfl rfl rfl rfl) (dU (o8 (bU B.b_len (aa (ae 0 rfl (Or.inl rfl) rfl rfl) ag rfl) rfl rfl rfl) (gi B.c_MOST_WORD_SIGNS rfl rfl))))))
noncomputable abbrev cT:Stmt:=top 17
theorem jE:FnScope ["book"] ["book"] (ai cT):=⟨rfl,rfl,rfl,by decide +kernel,rfl,by decide +kernel,by decide +kernel⟩
theorem dA {f:Addr} {fd:FuncData} (F:Fun K "signs_in" "signs_in" cT f fd) (hm:mg "signs_in" = some (.ref f)) (B:Blt mg) (Z:Xcl K mg C) :
  FnAt P w K mg base 1 "signs_in" ["book"] (gxE K C) cV:=dD F hm jE rfl rfl (fun _ _ _ _ _ _ us hl=>by obtain ⟨_,rfl⟩:=L2.fV hl;rfl) fun cdv A outer s H E hr =>
  (ar (aB (qZ B.b_sum (aa (du 1 ["text", "book"] rfl (cF (ae 0 rfl (Or.inl rfl) rfl rfl) rfl) (d6 (by decide)) (fun _ _ _ _ _=>(bu 0 (show List.Nodup (["text", "book"]:List Str) from by decide +kernel) rfl (Or.inl rfl) (Or.inr rfl))) (fun _ _ _ _ _=>(bU B.b_len (aa (ae 0 rfl (Or.inl rfl) rfl rfl) ag rfl) rfl rfl rfl)) rfl rfl (by decide) (fun _=>rfl)) ag rfl) rfl rfl rfl rfl)))
noncomputable abbrev dr:Stmt:=top 16
theorem kG:FnScope ["thing"] ["thing"] (ai dr):=⟨rfl,rfl,rfl,by decide +kernel,rfl,by decide +kernel,by decide +kernel⟩
theorem dW {f:Addr} {fd:FuncData} (F:Fun K "is_book" "is_book" dr f fd) (hm:mg "is_book" = some (.ref f)) (B:Blt mg) (Z:Xcl K mg C) (bg:FnAt P w K mg base 1 "has_only_signs" ["thing"] (gxE K C) aQ) (dA:FnAt P w K mg base 1 "signs_in" ["book"] (gxE K C) cV) :
  FnAt P w K mg base 2 "is_book" ["thing"] (gxE K C) cR:=dD F hm kG rfl rfl (fun _ _ _ _ _ _ us hl=>by obtain ⟨_,rfl⟩:=L2.fV hl;rfl) fun cdv A outer s H E hr =>
  (ak (bw (eJ (g6 (eS (eP (ky .list B.b_isinstance B.b_list (ae 0 rfl (Or.inl rfl) rfl rfl) rfl rfl rfl rfl) rfl (fun _=>rfl))) (gb (jt (bU B.b_len (aa (ae 0 rfl (Or.inl rfl) rfl rfl) ag rfl) rfl rfl rfl) (gi B.c_MOST_TEXTS rfl rfl))))) (ar (aB dj)) bj)
  (ar (aB (eI (jh B.b_all (aa (du 1 ["text", "thing"] rfl (cF (ae 0 rfl (Or.inl rfl) rfl rfl) rfl) (d6 (by decide)) (fun _ _ _ _ _=>(bu 0 (show List.Nodup (["text", "thing"]:List Str) from by decide +kernel) rfl (Or.inl rfl) (Or.inr rfl))) (fun _ _ _ _ _=>(aV bg hr (aa (ae 0 rfl (Or.inl rfl) rfl rfl) ag rfl) (by decide) rfl rfl rfl rfl)) rfl rfl (by decide) (fun _=>rfl)) ag rfl) rfl rfl rfl rfl) (dU (o8 (aV dA hr (aa (ae 0 rfl (Or.inl rfl) rfl rfl) ag rfl) (by decide) rfl rfl rfl rfl) (gi B.c_MOST_SIGNS rfl rfl)))))))
noncomputable abbrev bz:Stmt:=top 19
theorem fW:FnScope ["text"] ["text"] (ai bz):=⟨rfl,rfl,rfl,by decide +kernel,rfl,by decide +kernel,by decide +kernel⟩
theorem bR {f:Addr} {fd:FuncData} (F:Fun K "is_shown_word" "is_shown_word" bz f fd) (hm:mg "is_shown_word" = some (.ref f)) (B:Blt mg) (Z:Xcl K mg C) (d2:FnAt P w K mg base 2 "is_word" ["thing"] (gxE K C) dX) :
  FnAt P w K mg base 3 "is_shown_word" ["text"] (gxE K C) bx:=dD F hm fW rfl rfl (fun _ _ _ _ _ _ us hl=>by obtain ⟨_,rfl⟩:=L2.fV hl;rfl) fun cdv A outer s H E hr =>
  (ar (aB (pV (kz hr (ae 0 rfl (Or.inl rfl) rfl rfl) (aq (by decide +kernel) (by decide))) (dU (eI (kN hr (ae 0 rfl (Or.inl rfl) rfl rfl) (aq (by decide +kernel) (by decide))) (dU (aV d2 hr (aa (ae 0 rfl (Or.inl rfl) rfl rfl) ag rfl) (by decide) rfl rfl rfl rfl)))))))
noncomputable abbrev cD:Stmt:=top 20
theorem jb:FnScope ["text"] ["text"] (ai cD):=⟨rfl,rfl,rfl,by decide +kernel,rfl,by decide +kernel,by decide +kernel⟩
theorem cZ {f:Addr} {fd:FuncData} (F:Fun K "read_word" "read_word" cD f fd) (hm:mg "read_word" = some (.ref f)) (B:Blt mg) (Z:Xcl K mg C) :
  FnAt P w K mg base 1 "read_word" ["text"] (gxE K C) b8:=dD F hm jb rfl rfl (fun _ _ _ _ _ _ us hl=>by obtain ⟨_,rfl⟩:=L2.fV hl;rfl) fun cdv A outer s H E hr =>
  (ar (aB (pM (gE hr (ae 0 rfl (Or.inl rfl) rfl rfl) (aq (by decide +kernel) (by decide))) (ae 0 rfl (Or.inl rfl) rfl rfl) (aq (by decide +kernel) (by decide)))))
noncomputable abbrev cH:Stmt:=top 21
theorem eu:FnScope ["text", "fields", "book"] ["text"] (ai cH):=⟨rfl,rfl,rfl,by decide +kernel,rfl,by decide +kernel,by decide +kernel⟩
theorem bA {f:Addr} {fd:FuncData} (F:Fun K "read_book" "read_book" cH f fd) (hm:mg "read_book" = some (.ref f)) (B:Blt mg) (Z:Xcl K mg C) (dW:FnAt P w K mg base 2 "is_book" ["thing"] (gxE K C) cR) (bR:FnAt P w K mg base 3 "is_shown_word" ["text"] (gxE K C) bx) (cZ:FnAt P w K mg base 1 "read_word" ["text"] (gxE K C) b8) :
  FnXt P w K mg base 4 "read_book" ["text"] (gxE K C) aR:=u4 F hm eu rfl rfl (fun _ _ _ _ _ _ us hl=>by obtain ⟨_,rfl⟩:=L2.fV hl;rfl) fun cdv A outer s H E hr =>
  (d5 (lA (eS (eP (ky .str B.b_isinstance B.b_str (ae 0 rfl (Or.inl rfl) rfl rfl) rfl rfl rfl rfl) rfl (fun _=>rfl))) (fR (gO Z.q Z.m rfl rfl (aa (aq (by decide +kernel) (by decide)) ag rfl) rfl rfl rfl rfl)) (fv bj))
  (d5 (fX (bw (d7 hr (ae 0 rfl (Or.inl rfl) rfl rfl) (aq (by decide +kernel) (by decide))) (ar (aB (aZ ag))) bj))
  (d5 (fX (ax (h6 (ae 0 rfl (Or.inl rfl) rfl rfl) (aa (aq (by decide +kernel) (by decide)) ag rfl) rfl rfl rfl rfl rfl rfl) eu.nd rfl (Or.inl rfl) rfl (Or.inl rfl)))
  (d5 (fX (kB 1 ["field", "text", "fields", "book"] (fun _ _ _ h=>sY h) rfl (cF (ae 1 rfl (Or.inl rfl) rfl rfl) rfl) (d6 (by decide)) (fun _ _ _ _ _=>(bu 0 (show List.Nodup (["field", "text", "fields", "book"]:List Str) from by decide +kernel) rfl (Or.inl rfl) (Or.inr rfl))) (fun _ _ _ _ _=>(aV cZ hr (aa (ae 0 rfl (Or.inl rfl) rfl rfl) ag rfl) (by decide) rfl rfl rfl rfl)) eu.nd rfl (Or.inl rfl) rfl rfl (by decide) rfl (Or.inl rfl) (fun _=>rfl)))
  (d5 (lA (eJ (g6 (eS (eP (jh B.b_all (aa (du 1 ["field", "text", "fields", "book"] rfl (cF (ae 1 rfl (Or.inl rfl) rfl rfl) rfl) (d6 (by decide)) (fun _ _ _ _ _=>(bu 0 (show List.Nodup (["field", "text", "fields", "book"]:List Str) from by decide +kernel) rfl (Or.inl rfl) (Or.inr rfl))) (fun _ _ _ _ _=>(aV bR hr (aa (ae 0 rfl (Or.inl rfl) rfl rfl) ag rfl) (by decide) rfl rfl rfl rfl)) rfl rfl (by decide) (fun _=>rfl)) ag rfl) rfl rfl rfl rfl) rfl (fun _=>rfl))) (gb (eS (eP (aV dW hr (aa (ae 2 rfl (Or.inl rfl) rfl rfl) ag rfl) (by decide) rfl rfl rfl rfl) rfl (fun _=>rfl)))))) (fR (gO Z.q Z.m rfl rfl (aa (aq (by decide +kernel) (by decide)) ag rfl) rfl rfl rfl rfl)) (fv bj))
  (fv (ar (fj 2 rfl (Or.inl rfl) rfl rfl))))))))
noncomputable abbrev bS:Stmt:=top 23
theorem g0:FnScope ["_law_script", "_law_k"] ["_law_script", "_law_k"] (ai bS):=⟨rfl,rfl,rfl,by decide +kernel,rfl,by decide +kernel,by decide +kernel⟩
theorem aT {f:Addr} {fd:FuncData} (F:Fun K "_law_cell_at" "_law_cell_at" bS f fd) (hm:mg "_law_cell_at" = some (.ref f)) (B:Blt mg) (Z:Xcl K mg C) :
  FnAt P w K mg base 1 "_law_cell_at" ["_law_script", "_law_k"] (gxE K C) aX:=dD F hm g0 rfl rfl (fun _ _ _ _ _ _ us hl=>by obtain ⟨_,_,rfl⟩:=L2.rn hl;rfl) fun cdv A outer s H E hr =>
  (ak (bw (p8 (ae 1 rfl (Or.inl rfl) rfl rfl) (bU B.b_len (aa (ae 0 rfl (Or.inl rfl) rfl rfl) ag rfl) rfl rfl rfl)) (ar (aB (cu (ae 0 rfl (Or.inl rfl) rfl rfl) (ae 1 rfl (Or.inl rfl) rfl rfl) (fun _ _=>rfl) rfl))) bj)
  (ar (aB aj)))
noncomputable abbrev cI:Stmt:=top 24
theorem ed:FnScope ["_law_cell", "_law_k", "_law_number"] ["_law_cell", "_law_k"] (ai cI):=⟨rfl,rfl,rfl,by decide +kernel,rfl,by decide +kernel,by decide +kernel⟩
theorem de {f:Addr} {fd:FuncData} (F:Fun K "_law_mixed" "_law_mixed" cI f fd) (hm:mg "_law_mixed" = some (.ref f)) (B:Blt mg) (Z:Xcl K mg C) :
  FnAt P w K mg base 1 "_law_mixed" ["_law_cell", "_law_k"] (gxE K C) df:=dD F hm ed rfl rfl (fun _ _ _ _ _ _ us hl=>by obtain ⟨_,_,rfl⟩:=L2.rn hl;rfl) fun cdv A outer s H E hr =>
  (ak (ax (bI (aM (aM (bI (ae 0 rfl (Or.inl rfl) rfl rfl) aj) (eT aj (ae 1 rfl (Or.inl rfl) rfl rfl))) aj) aj) ed.nd rfl (Or.inl rfl) rfl (Or.inl rfl))
  (ak (ax (aM (bI (eT (ae 2 rfl (Or.inl rfl) rfl rfl) (ae 2 rfl (Or.inl rfl) rfl rfl)) aj) (eT aj (ae 1 rfl (Or.inl rfl) rfl rfl))) ed.nd rfl (Or.inl rfl) rfl (Or.inl rfl))
  (ar (aB (bI (eT (ae 2 rfl (Or.inl rfl) rfl rfl) (ae 2 rfl (Or.inl rfl) rfl rfl)) aj)))))
noncomputable abbrev cQ:Stmt:=top 25
theorem bW:FnScope ["_law_script", "_law_letters", "_law_most", "_law_j", "_law_cell", "_law_size", "_law_signs", "_law_k"] ["_law_script", "_law_letters", "_law_most", "_law_j"] (ai cQ):=⟨rfl,rfl,rfl,by decide +kernel,rfl,by decide +kernel,by decide +kernel⟩
theorem dH {f:Addr} {fd:FuncData} (F:Fun K "_law_text" "_law_text" cQ f fd) (hm:mg "_law_text" = some (.ref f)) (B:Blt mg) (Z:Xcl K mg C) (aT:FnAt P w K mg base 1 "_law_cell_at" ["_law_script", "_law_k"] (gxE K C) aX) (de:FnAt P w K mg base 1 "_law_mixed" ["_law_cell", "_law_k"] (gxE K C) df) :
  FnAt P w K mg base 2 "_law_text" ["_law_script", "_law_letters", "_law_most", "_law_j"] (gxE K C) cy:=dD F hm bW rfl rfl (fun _ _ _ _ _ _ us hl=>by obtain ⟨_,_,_,_,rfl⟩:=L2.wV hl;rfl) fun cdv A outer s H E hr =>
  (ak (ax (aV aT hr (aa (ae 0 rfl (Or.inl rfl) rfl rfl) (aa (aM aj (ae 3 rfl (Or.inl rfl) rfl rfl)) ag rfl) rfl) (by decide) rfl rfl rfl rfl) bW.nd rfl (Or.inl rfl) rfl (Or.inl rfl))
  (ak (ax (bI (ae 4 rfl (Or.inl rfl) rfl rfl) (aM (ae 2 rfl (Or.inl rfl) rfl rfl) aj)) bW.nd rfl (Or.inl rfl) rfl (Or.inl rfl))
  (ak (ax (cq (ae 4 rfl (Or.inl rfl) rfl rfl) (aM (ae 2 rfl (Or.inl rfl) rfl rfl) aj)) bW.nd rfl (Or.inl rfl) rfl (Or.inl rfl))
  (ak (eQ (aZ ag) bW.nd rfl (Or.inl rfl) rfl (Or.inl rfl))
  (ak (eR Zy rfl (d8 (ae 5 rfl (Or.inl rfl) rfl rfl) rfl B.b_range rfl rfl) (bu 7 bW.nd rfl (Or.inl rfl) (Or.inl rfl))
  (ar (bw (d7 hr (bI (aV aT hr (aa (ae 0 rfl (Or.inl rfl) rfl rfl) (aa aj ag rfl) rfl) (by decide) rfl rfl rfl rfl) aj) aj) (ak (ef 6 (aa (cu (ae 1 rfl (Or.inl rfl) rfl rfl) (bI (ae 4 rfl (Or.inl rfl) rfl rfl) (bU B.b_len (aa (ae 1 rfl (Or.inl rfl) rfl rfl) ag rfl) rfl rfl rfl)) (fun _ _=>rfl) rfl) ag rfl) rfl rfl (Or.inl rfl) rfl rfl rfl rfl rfl)
  (ar (ax (cq (ae 4 rfl (Or.inl rfl) rfl rfl) (bU B.b_len (aa (ae 1 rfl (Or.inl rfl) rfl rfl) ag rfl) rfl rfl rfl)) bW.nd rfl (Or.inl rfl) rfl (Or.inl rfl)))) (ar (ef 6 (aa (cu (ae 1 rfl (Or.inl rfl) rfl rfl) (bI (cq (aV de hr (aa (ae 4 rfl (Or.inl rfl) rfl rfl) (aa (aM (eT aj (ae 3 rfl (Or.inl rfl) rfl rfl)) (ae 7 rfl (Or.inl rfl) rfl rfl)) ag rfl) rfl) (by decide) rfl rfl rfl rfl) aj) (bU B.b_len (aa (ae 1 rfl (Or.inl rfl) rfl rfl) ag rfl) rfl rfl rfl)) (fun _ _=>rfl) rfl) ag rfl) rfl rfl (Or.inl rfl) rfl rfl rfl rfl rfl)))) (fun _=>rfl))
  (gu 6 (ar (aB (dq (aq (by decide +kernel) (by decide)) (aa (ae 6 rfl (Or.inl rfl) rfl rfl) ag rfl) rfl rfl rfl rfl rfl rfl)))))))))
noncomputable abbrev cW:Stmt:=top 26
theorem b5:FnScope ["_law_script", "_law_cell", "_law_letters", "_law_count", "_law_most"] ["_law_script"] (ai cW):=⟨rfl,rfl,rfl,by decide +kernel,rfl,by decide +kernel,by decide +kernel⟩
theorem dG {f:Addr} {fd:FuncData} (F:Fun K "_law_book" "_law_book" cW f fd) (hm:mg "_law_book" = some (.ref f)) (B:Blt mg) (Z:Xcl K mg C) (aT:FnAt P w K mg base 1 "_law_cell_at" ["_law_script", "_law_k"] (gxE K C) aX) (dH:FnAt P w K mg base 2 "_law_text" ["_law_script", "_law_letters", "_law_most", "_law_j"] (gxE K C) cy) :
  FnAt P w K mg base 3 "_law_book" ["_law_script"] (gxE K C) ay:=dD F hm b5 rfl rfl (fun _ _ _ _ _ _ us hl=>by obtain ⟨_,rfl⟩:=L2.fV hl;rfl) fun cdv A outer s H E hr =>
  (ak (ax (aV aT hr (aa (ae 0 rfl (Or.inr (Or.inl rfl)) rfl rfl) (aa aj ag rfl) rfl) (by decide) rfl rfl rfl rfl) b5.nd rfl (Or.inl rfl) rfl (Or.inl rfl))
  (ak (ax (cu (aZ (aa (aq (by decide +kernel) (by decide)) (aa (aq (by decide +kernel) (by decide)) (aa (aq (by decide +kernel) (by decide)) (aa (aq (by decide +kernel) (by decide)) (aa (aq (by decide +kernel) (by decide)) (aa (aq (by decide +kernel) (by decide)) ag rfl) rfl) rfl) rfl) rfl) rfl)) (bI (cq (ae 1 rfl (Or.inl rfl) rfl rfl) aj) aj) (fun _ _=>rfl) rfl) b5.nd rfl (Or.inr rfl) rfl (Or.inl rfl))
  (ak (ax (cu (aZ (aa aj (aa aj (aa aj (aa aj (aa aj (aa aj (aa aj (aa aj ag rfl) rfl) rfl) rfl) rfl) rfl) rfl) rfl)) (bI (cq (ae 1 rfl (Or.inl rfl) rfl rfl) aj) aj) (fun _ _=>rfl) rfl) b5.nd rfl (Or.inl rfl) rfl (Or.inl rfl))
  (ak (ax (cu (aZ (aa aj (aa aj (aa aj (aa aj ag rfl) rfl) rfl) rfl)) (gH (nW B.b_min (aa (ae 3 rfl (Or.inl rfl) rfl rfl) (aa aj ag rfl) rfl) rfl rfl rfl rfl) aj) (fun _ _=>rfl) rfl) b5.nd rfl (Or.inr rfl) rfl (Or.inl rfl))
  (ak (bw (d7 hr (bI (cq (ae 1 rfl (Or.inl rfl) rfl rfl) aj) aj) aj) (ar (ax (cq aj (nh B.b_max (aa aj (aa (ae 3 rfl (Or.inl rfl) rfl rfl) ag rfl) rfl) rfl rfl rfl rfl)) b5.nd rfl (Or.inr rfl) rfl (Or.inl rfl))) bj)
  (ak (bw (eJ (mG (d7 hr (ae 3 rfl (Or.inl rfl) rfl rfl) aj) (kE (gE hr (bI (cq (ae 1 rfl (Or.inl rfl) rfl rfl) aj) aj) aj)))) (ar (ax aj b5.nd rfl (Or.inr rfl) rfl (Or.inl rfl))) bj)
  (ar (aB (du 1 ["_law_j", "_law_script", "_law_cell", "_law_letters", "_law_count", "_law_most"] rfl (d8 (ae 3 rfl (Or.inl rfl) rfl rfl) rfl B.b_range rfl rfl) (d6 (by decide)) (fun _ _ _ _ _=>(bu 0 (show List.Nodup (["_law_j", "_law_script", "_law_cell", "_law_letters", "_law_count", "_law_most"]:List Str) from by decide +kernel) rfl (Or.inl rfl) (Or.inr rfl))) (fun _ _ _ _ _=>(aV dH hr (aa (ae 1 rfl (Or.inr (Or.inl rfl)) rfl rfl) (aa (ae 3 rfl (Or.inr (Or.inl rfl)) rfl rfl) (aa (ae 5 rfl (Or.inr (Or.inl rfl)) rfl rfl) (aa (ae 0 rfl (Or.inl rfl) rfl rfl) ag rfl) rfl) rfl) rfl) (by decide) rfl rfl rfl rfl)) rfl rfl (by decide) (fun _=>rfl))))))))))
noncomputable abbrev bT:Stmt:=top 27
theorem gY:FnScope ["_law_book_here"] ["_law_book_here"] (ai bT):=⟨rfl,rfl,rfl,by decide +kernel,rfl,by decide +kernel,by decide +kernel⟩
theorem br {f:Addr} {fd:FuncData} (F:Fun K "_law_text_of" "_law_text_of" bT f fd) (hm:mg "_law_text_of" = some (.ref f)) (B:Blt mg) (Z:Xcl K mg C) :
  FnAt P w K mg base 1 "_law_text_of" ["_law_book_here"] (gxE K C) bF:=dD F hm gY rfl rfl (fun _ _ _ _ _ _ us hl=>by obtain ⟨_,rfl⟩:=L2.fV hl;rfl) fun cdv A outer s H E hr =>
  (ak (bw (d7 hr (ae 0 rfl (Or.inl rfl) rfl rfl) (aZ ag)) (ar (aB (aq (by decide +kernel) (by decide)))) bj)
  (ar (aB (dq (aq (by decide +kernel) (by decide)) (aa (du 1 ["_law_text_here", "_law_book_here"] rfl (cF (ae 0 rfl (Or.inl rfl) rfl rfl) rfl) (d6 (by decide)) (fun _ _ _ _ _=>(bu 0 (show List.Nodup (["_law_text_here", "_law_book_here"]:List Str) from by decide +kernel) rfl (Or.inl rfl) (Or.inr rfl))) (fun _ _ _ _ _=>(cu (aZ (aa (aq (by decide +kernel) (by decide)) (aa (ae 0 rfl (Or.inl rfl) rfl rfl) ag rfl) rfl)) (hJ B.b_int (aa (kN hr (ae 0 rfl (Or.inl rfl) rfl rfl) (aq (by decide +kernel) (by decide))) ag rfl) rfl rfl rfl) (fun _ _=>rfl) rfl)) rfl rfl (by decide) (fun _=>rfl)) ag rfl) rfl rfl rfl rfl rfl rfl))))
noncomputable abbrev cO:Stmt:=top 28
theorem gx:FnScope ["_law_cell", "_law_signs"] ["_law_cell"] (ai cO):=⟨rfl,rfl,rfl,by decide +kernel,rfl,by decide +kernel,by decide +kernel⟩
theorem dE {f:Addr} {fd:FuncData} (F:Fun K "_law_sign" "_law_sign" cO f fd) (hm:mg "_law_sign" = some (.ref f)) (B:Blt mg) (Z:Xcl K mg C) :
  FnAt P w K mg base 1 "_law_sign" ["_law_cell"] (gxE K C) dy:=dD F hm gx rfl rfl (fun _ _ _ _ _ _ us hl=>by obtain ⟨_,rfl⟩:=L2.fV hl;rfl) fun cdv A outer s H E hr =>
  (ak (ax (aq (by decide +kernel) (by decide)) gx.nd rfl (Or.inl rfl) rfl (Or.inl rfl))
  (ar (aB (cu (ae 1 rfl (Or.inl rfl) rfl rfl) (bI (ae 0 rfl (Or.inl rfl) rfl rfl) (bU B.b_len (aa (ae 1 rfl (Or.inl rfl) rfl rfl) ag rfl) rfl rfl rfl)) (fun _ _=>rfl) rfl))))
noncomputable abbrev cU:Stmt:=top 29
theorem bM:FnScope ["_law_book_here", "_law_cell", "_law_text_here", "_law_at", "_law_sign_here", "_law_some"] ["_law_book_here", "_law_cell"] (ai cU):=⟨rfl,rfl,rfl,by decide +kernel,rfl,by decide +kernel,by decide +kernel⟩
theorem dF {f:Addr} {fd:FuncData} (F:Fun K "_law_bent" "_law_bent" cU f fd) (hm:mg "_law_bent" = some (.ref f)) (B:Blt mg) (Z:Xcl K mg C) (dE:FnAt P w K mg base 1 "_law_sign" ["_law_cell"] (gxE K C) dy) (br:FnAt P w K mg base 1 "_law_text_of" ["_law_book_here"] (gxE K C) bF) :
  FnAt P w K mg base 2 "_law_bent" ["_law_book_here", "_law_cell"] (gxE K C) dz:=dD F hm bM rfl rfl (fun _ _ _ _ _ _ us hl=>by obtain ⟨_,_,rfl⟩:=L2.rn hl;rfl) fun cdv A outer s H E hr =>
  (ak (ax (aV br hr (aa (ae 0 rfl (Or.inl rfl) rfl rfl) ag rfl) (by decide) rfl rfl rfl rfl) bM.nd rfl (Or.inl rfl) rfl (Or.inl rfl))
  (ak (ax (bI (cq (ae 1 rfl (Or.inl rfl) rfl rfl) aj) (aM (bU B.b_len (aa (ae 2 rfl (Or.inl rfl) rfl rfl) ag rfl) rfl rfl rfl) aj)) bM.nd rfl (Or.inl rfl) rfl (Or.inl rfl))
  (ak (ax (aV dE hr (aa (cq (ae 1 rfl (Or.inl rfl) rfl rfl) aj) ag rfl) (by decide) rfl rfl rfl rfl) bM.nd rfl (Or.inl rfl) rfl (Or.inl rfl))
  (ak (ax (aZ (aa (aM (aM (b6 (ae 2 rfl (Or.inl rfl) rfl rfl) bX (cf (ae 3 rfl (Or.inl rfl) rfl rfl)) rfl) (ae 4 rfl (Or.inl rfl) rfl rfl)) (b6 (ae 2 rfl (Or.inl rfl) rfl rfl) (cf (ae 3 rfl (Or.inl rfl) rfl rfl)) bX rfl)) (aa (aM (aM (b6 (ae 2 rfl (Or.inl rfl) rfl rfl) bX (cf (ae 3 rfl (Or.inl rfl) rfl rfl)) rfl) (ae 4 rfl (Or.inl rfl) rfl rfl)) (b6 (ae 2 rfl (Or.inl rfl) rfl rfl) (cf (aM (ae 3 rfl (Or.inl rfl) rfl rfl) aj)) bX rfl)) (aa (aM (b6 (ae 2 rfl (Or.inl rfl) rfl rfl) bX (cf (ae 3 rfl (Or.inl rfl) rfl rfl)) rfl) (b6 (ae 2 rfl (Or.inl rfl) rfl rfl) (cf (aM (ae 3 rfl (Or.inl rfl) rfl rfl) aj)) bX rfl)) (aa (aM (ae 2 rfl (Or.inl rfl) rfl rfl) (aq (by decide +kernel) (by decide))) ag rfl) rfl) rfl) rfl)) bM.nd rfl (Or.inl rfl) rfl (Or.inl rfl))
  (ak (ax (aM (ae 5 rfl (Or.inl rfl) rfl rfl) (aZ (aa (aM (aq (by decide +kernel) (by decide)) (ae 2 rfl (Or.inl rfl) rfl rfl)) (aa (aM (aM (b6 (ae 2 rfl (Or.inl rfl) rfl rfl) bX (cf (ae 3 rfl (Or.inl rfl) rfl rfl)) rfl) (aq (by decide +kernel) (by decide))) (b6 (ae 2 rfl (Or.inl rfl) rfl rfl) (cf (ae 3 rfl (Or.inl rfl) rfl rfl)) bX rfl)) (aa (aM (ae 2 rfl (Or.inl rfl) rfl rfl) (aq (by decide +kernel) (by decide))) (aa (aM (aq (by decide +kernel) (by decide)) (ae 2 rfl (Or.inl rfl) rfl rfl)) (aa (aM (ae 2 rfl (Or.inl rfl) rfl rfl) (aq (by decide +kernel) (by decide))) (aa (aM (aq (by decide +kernel) (by decide)) (ae 2 rfl (Or.inl rfl) rfl rfl)) (aa (aq (by decide +kernel) (by decide)) ag rfl) rfl) rfl) rfl) rfl) rfl) rfl))) bM.nd rfl (Or.inl rfl) rfl (Or.inl rfl))
  (ak (ax (aM (ae 5 rfl (Or.inl rfl) rfl rfl) (aZ (aa (dq (aq (by decide +kernel) (by decide)) (aa (aM (aZ (aa (ae 2 rfl (Or.inl rfl) rfl rfl) ag rfl)) (pd (aZ (aa (aq (by decide +kernel) (by decide)) ag rfl)) (gH aj (bU B.b_len (aa (ae 0 rfl (Or.inl rfl) rfl rfl) ag rfl) rfl rfl rfl)))) ag rfl) rfl rfl rfl rfl rfl rfl) (aa (aM (aM (ae 2 rfl (Or.inl rfl) rfl rfl) (aq (by decide +kernel) (by decide))) (jC (aq (by decide +kernel) (by decide)) (gH aj (bU B.b_len (aa (dq (aq (by decide +kernel) (by decide)) (aa (ae 0 rfl (Or.inl rfl) rfl rfl) ag rfl) rfl rfl rfl rfl rfl rfl) ag rfl) rfl rfl rfl)))) ag rfl) rfl))) bM.nd rfl (Or.inl rfl) rfl (Or.inl rfl))
  (ak (ax (aM (ae 5 rfl (Or.inl rfl) rfl rfl) (aZ (aa (aM (aM (ae 2 rfl (Or.inl rfl) rfl rfl) (aq (by decide +kernel) (by decide))) (jC (aq (by decide +kernel) (by decide)) (gH aj (bU B.b_len (aa (dq (aq (by decide +kernel) (by decide)) (aa (ae 0 rfl (Or.inl rfl) rfl rfl) ag rfl) rfl rfl rfl rfl rfl rfl) ag rfl) rfl rfl rfl)))) (mH (ae 2 rfl (Or.inl rfl) rfl rfl) (i:=2) rfl (Or.inl rfl) (by decide +kernel) (by decide +kernel) (by decide +kernel) rfl rfl rfl rfl rfl rfl) rfl))) bM.nd rfl (Or.inl rfl) rfl (Or.inl rfl))
  (ar (aB (cu (ae 5 rfl (Or.inl rfl) rfl rfl) (bI (ae 1 rfl (Or.inl rfl) rfl rfl) aj) (fun _ _=>rfl) rfl))))))))))
noncomputable abbrev dn:Stmt:=top 30
theorem eA:FnScope ["_law_text_here", "_law_book_here", "_law_part", "_law_sign_here"] ["_law_text_here"] (ai dn):=⟨rfl,rfl,rfl,by decide +kernel,rfl,by decide +kernel,by decide +kernel⟩
theorem d3 {f:Addr} {fd:FuncData} (F:Fun K "_law_due" "_law_due" dn f fd) (hm:mg "_law_due" = some (.ref f)) (B:Blt mg) (Z:Xcl K mg C) :
  FnAt P w K mg base 1 "_law_due" ["_law_text_here"] (gxE K C) d4:=dD F hm eA rfl rfl (fun _ _ _ _ _ _ us hl=>by obtain ⟨_,rfl⟩:=L2.fV hl;rfl) fun cdv A outer s H E hr =>
  (ak (bw (d7 hr (ae 0 rfl (Or.inl rfl) rfl rfl) (aq (by decide +kernel) (by decide))) (ar (aB (aZ ag))) bj)
  (ak (eQ (aZ ag) eA.nd rfl (Or.inl rfl) rfl (Or.inl rfl))
  (ak (eR Zy rfl (cF (h6 (ae 0 rfl (Or.inl rfl) rfl rfl) (aa (aq (by decide +kernel) (by decide)) ag rfl) rfl rfl rfl rfl rfl rfl) rfl) (bu 2 eA.nd rfl (Or.inl rfl) (Or.inl rfl))
  (ak (bw (gE hr (ae 2 rfl (Or.inl rfl) rfl rfl) (aq (by decide +kernel) (by decide))) (ar (eR Zy rfl (cF (ae 2 rfl (Or.inl rfl) rfl rfl) rfl) (bu 3 eA.nd rfl (Or.inl rfl) (Or.inl rfl))
  (ar (bw (lU (ae 3 rfl (Or.inl rfl) rfl rfl) (aq (by decide +kernel) (by decide)) rfl) (ar (aB dB)) bj)) (fun _=>rfl))) bj)
  (ak (bw (d7 hr (ae 2 rfl (Or.inl rfl) rfl rfl) (aq (by decide +kernel) (by decide))) (ar (aB dB)) bj)
  (ar (ef 1 (aa (cu (aZ (aa (ae 2 rfl (Or.inl rfl) rfl rfl) (aa (aq (by decide +kernel) (by decide)) ag rfl) rfl)) (hJ B.b_int (aa (kz hr (ae 2 rfl (Or.inl rfl) rfl rfl) (aq (by decide +kernel) (by decide))) ag rfl) rfl rfl rfl) (fun _ _=>rfl) rfl) ag rfl) rfl rfl (Or.inl rfl) rfl rfl rfl rfl rfl)))) (fun _=>rfl))
  (gu 1 (ak (bw (eJ (g6 (jt (bU B.b_len (aa (ae 1 rfl (Or.inl rfl) rfl rfl) ag rfl) rfl rfl rfl) aj) (gb (jt (bU B.b_len (aa (dq (aq (by decide +kernel) (by decide)) (aa (ae 1 rfl (Or.inl rfl) rfl rfl) ag rfl) rfl rfl rfl rfl rfl rfl) ag rfl) rfl rfl rfl) aj)))) (ar (aB dB)) bj)
  (ar (fj 1 rfl (Or.inl rfl) rfl rfl)))))))
noncomputable abbrev cw:Stmt:=top 31
theorem cE:FnScope ["_law_text_here", "_law_marks", "_law_got", "e"] ["_law_text_here"] (ai cw):=⟨rfl,rfl,rfl,by decide +kernel,rfl,by decide +kernel,by decide +kernel⟩
theorem cN {f:Addr} {fd:FuncData} (F:Fun K "_law_told" "_law_told" cw f fd) (hm:mg "_law_told" = some (.ref f)) (B:Blt mg) (Z:Xcl K mg C) (bA:FnXt P w K mg base 4 "read_book" ["text"] (gxE K C) aR) :
  FnAt P w K mg base 5 "_law_told" ["_law_text_here"] (gxE K C) bO:=dD F hm cE rfl rfl (fun _ _ _ _ _ _ us hl=>by obtain ⟨_,rfl⟩:=L2.fV hl;rfl) fun cdv A outer s H E hr =>
  (ak (eQ dB cE.nd rfl (Or.inl rfl) rfl (Or.inl rfl))
  (ak (ax dB cE.nd rfl (Or.inl rfl) rfl (Or.inl rfl))
  (ak (ph (X:=(fm CX0 P w K mg base ["_law_text_here", "_law_marks", "_law_got", "e"] "_law_told" (ai cw) f cdv A outer s H E).nox) (G:=(gxE K C)) 3 rfl rfl (fun _ _=>(fR (ou 2 (iC bA hr (aa (ae 0 rfl (Or.inl rfl) rfl rfl) ag rfl) (by decide) rfl rfl rfl rfl rfl) cE.nd rfl (Or.inl rfl) rfl (Or.inl rfl))))
  (fun _=>(ak (eQ (aZ (aa (qH true (ae 3 rfl (Or.inl rfl) rfl rfl) rfl Z.k_NoBook.choose_spec.1 rfl rfl rfl B.b_isinstance (fun _=>⟨Z.x,Z.k_NoBook.choose_spec.2⟩) rfl rfl rfl) (aa (qm true (ae 3 rfl (Or.inl rfl) rfl rfl) rfl B.b_ValueError rfl (by decide) rfl rfl rfl B.b_isinstance (fun _=>⟨Z.x,Z.k_ValueError⟩) rfl rfl rfl) ag rfl) rfl)) cE.nd rfl (Or.inl rfl) rfl (Or.inl rfl))
  (ar (ef 1 (aa (oQ (ae 3 rfl (Or.inl rfl) rfl rfl) (zL rfl) rfl B.b_isinstance (fun _=>⟨Z.x,(ee rfl Z.k_NoNumber.choose_spec.1 Z.k_NoNumber.choose_spec.2 rfl rfl (ee rfl Z.k_NoRow.choose_spec.1 Z.k_NoRow.choose_spec.2 rfl rfl (ee rfl Z.k_NoStand.choose_spec.1 Z.k_NoStand.choose_spec.2 rfl rfl (ee rfl Z.k_NoTable.choose_spec.1 Z.k_NoTable.choose_spec.2 rfl rfl (ee rfl Z.k_NoText.choose_spec.1 Z.k_NoText.choose_spec.2 rfl rfl (ee rfl Z.k_NoWord.choose_spec.1 Z.k_NoWord.choose_spec.2 rfl rfl (ee rfl Z.k_TooMany.choose_spec.1 Z.k_TooMany.choose_spec.2 rfl rfl tj)))))))⟩) rfl rfl rfl) ag rfl) rfl rfl (Or.inl rfl) rfl rfl rfl rfl rfl)))) cE.nd rfl rfl Z.p_PartError.choose_spec.1 rfl rfl Z.m Z.p_PartError.choose_spec.2)
  (gu 1 (ak (bw (n6 (ae 1 rfl (Or.inl rfl) rfl rfl)) (ar (fj 2 rfl (Or.inl rfl) rfl rfl)) bj)
  (ar (aB (cu (aZ (aa dB (aa (aq (by decide +kernel) (by decide)) ag rfl) rfl)) (hJ B.b_int (aa (kN hr (ae 1 rfl (Or.inl rfl) rfl rfl) (aZ (aa dj (aa dj (aa dj ag rfl) rfl) rfl))) ag rfl) rfl rfl rfl) (fun _ _=>rfl) rfl))))))))
noncomputable abbrev eX:Stmt:=top 32
theorem fx:FnScope ["_law_script", "_law_book_here", "_law_k", "_law_cell", "_law_text_here", "_law_refused"] ["_law_script"] (ai eX):=⟨rfl,rfl,rfl,by decide +kernel,rfl,by decide +kernel,by decide +kernel⟩
theorem uy {f:Addr} {fd:FuncData} (F:Fun K "law" "law" eX f fd) (B:Blt mg) (Z:Xcl K mg C) (dF:FnAt P w K mg base 2 "_law_bent" ["_law_book_here", "_law_cell"] (gxE K C) dz) (dG:FnAt P w K mg base 3 "_law_book" ["_law_script"] (gxE K C) ay) (aT:FnAt P w K mg base 1 "_law_cell_at" ["_law_script", "_law_k"] (gxE K C) aX) (d3:FnAt P w K mg base 1 "_law_due" ["_law_text_here"] (gxE K C) d4) (br:FnAt P w K mg base 1 "_law_text_of" ["_law_book_here"] (gxE K C) bF) (cN:FnAt P w K mg base 5 "_law_told" ["_law_text_here"] (gxE K C) bO) (bA:FnXt P w K mg base 4 "read_book" ["text"] (gxE K C) aR) :
  FnOk P w K mg base CX0 6 f fd ["_law_script"] (spF (gxE K C) lB):=xI F fx rfl rfl fun cdv A outer s H E hr =>
  (ak (ax (aV dG hr (aa (ae 0 rfl (Or.inl rfl) rfl rfl) ag rfl) (by decide) rfl rfl rfl rfl) fx.nd rfl (Or.inl rfl) rfl (Or.inl rfl))
  (ak (eR Zy rfl (d8 aj rfl B.b_range rfl rfl) (bu 2 fx.nd rfl (Or.inl rfl) (Or.inl rfl))
  (ak (ax (aM (aV aT hr (aa (ae 0 rfl (Or.inl rfl) rfl rfl) (aa (aM aj (ae 2 rfl (Or.inl rfl) rfl rfl)) ag rfl) rfl) (by decide) rfl rfl rfl rfl) (eT aj (ae 2 rfl (Or.inl rfl) rfl rfl))) fx.nd rfl (Or.inl rfl) rfl (Or.inl rfl))
  (ak (ax (aV dF hr (aa (ae 1 rfl (Or.inl rfl) rfl rfl) (aa (ae 3 rfl (Or.inl rfl) rfl rfl) ag rfl) rfl) (by decide) rfl rfl rfl rfl) fx.nd rfl (Or.inl rfl) rfl (Or.inl rfl))
  (ak (bw (gE hr (aV cN hr (aa (ae 4 rfl (Or.inl rfl) rfl rfl) ag rfl) (by decide) rfl rfl rfl rfl) (aV d3 hr (aa (ae 4 rfl (Or.inl rfl) rfl rfl) ag rfl) (by decide) rfl rfl rfl rfl)) (ar (aB dj)) bj)
  (ar (bw (mU (aV cN hr (aa (cu (aZ (aa dB (aa aj (aa dj (aa (aZ (aa (ae 4 rfl (Or.inl rfl) rfl rfl) ag rfl)) (aa (o7 (aa (ae 4 rfl (Or.inl rfl) rfl rfl) ag rfl)) (aa oR (aa aj ag rfl) rfl) rfl) rfl) rfl) rfl) rfl)) (bI (ae 3 rfl (Or.inl rfl) rfl rfl) aj) (fun _ _=>rfl) rfl) ag rfl) (by decide) rfl rfl rfl rfl)) (ar (aB dj)) bj))))) (fun _=>rfl))
  (ak (ax dj fx.nd rfl (Or.inl rfl) rfl (Or.inl rfl))
  (ak (mW (X:=(fm CX0 P w K mg base ["_law_script", "_law_book_here", "_law_k", "_law_cell", "_law_text_here", "_law_refused"] "law" (ai eX) f cdv A outer s H E).nox) (G:=(gxE K C)) rfl rfl (fun _ _=>(fR (mD (iC bA hr (aa (aq (by decide +kernel) (by decide)) ag rfl) (by decide) rfl rfl rfl rfl rfl) rfl)))
  (fun _=>(ar (ax dj fx.nd rfl (Or.inl rfl) rfl (Or.inl rfl)))) Z.p_NoBook.choose_spec.1 rfl rfl Z.m Z.p_NoBook.choose_spec.2)
  (ar (aB (eI (ae 5 rfl (Or.inl rfl) rfl rfl) (dU (kz hr (aV bA.plain hr (aa (aV br hr (aa (ae 1 rfl (Or.inl rfl) rfl rfl) ag rfl) (by decide) rfl rfl rfl rfl) ag rfl) (by decide) rfl rfl rfl rfl) (ae 1 rfl (Or.inl rfl) rfl rfl))))))))))
end
theorem all_mk {l:PySem.W.OpenLaw} {w:World} {K:Zi} {h:Heap} {mg:Zh} {fa f0 f1 f2 f3 f4 f5 f6 f7 f8 f9 f10 f11 f12 f13 f14 f15 f16:Addr} (X:K.In h) (G:h.Ns mainGlobals mg) (hfa:mg "law" = some (.ref fa))
  {od0 an0 od1 an1 od2 an2 od3 an3 od4 an4 od5 an5 od6 an6 od7 an7 od8 an8 od9 an9 od10 an10 od11 an11 od12 an12 od13 an13 od14 an14 od15 an15 od16 an16:Option Addr} {sl0 sl1 sl2 sl3 sl4 sl5 sl6 sl7 sl8 sl9 sl10 sl11 sl12 sl13 sl14 sl15 sl16:Array (Ze)} {oc0 kV0 dc0 pm0 cd0 ct0 oc1 kV1 dc1 pm1 cd1 ct1 oc2 kV2 dc2 pm2 cd2 ct2 oc3 kV3 dc3 pm3 cd3 ct3 oc4 kV4 dc4 pm4 cd4 ct4 oc5 kV5 dc5 pm5 cd5 ct5 oc6 kV6 dc6 pm6 cd6 ct6 oc7 kV7 dc7 pm7 cd7 ct7 oc8 kV8 dc8 pm8 cd8 ct8 oc9 kV9 dc9 pm9 cd9 ct9 oc10 kV10 dc10 pm10 cd10 ct10 oc11 kV11 dc11 pm11 cd11 ct11 oc12 kV12 dc12 pm12 cd12 ct12 oc13 kV13 dc13 pm13 cd13 ct13 oc14 kV14 dc14 pm14 cd14 ct14 oc15 kV15 dc15 pm15 cd15 ct15 oc16 kV16 dc16 pm16 cd16 ct16:Value}
  (hlaw:∀ ns:Zc,lB [.scr ns]=some (.fr,.bl true))
  (a0:PySem.W.nsIn K mainGlobals "has_only_signs" = some (some (.ref f0))) (l0:K.lookup f0=some ⟨oc0,od0,.func (PySem.W.fnOf "has_only_signs" "has_only_signs" (bb bt) (aO bt) (ai bt) .none kV0 dc0 pm0 an0 cd0 ct0),sl0⟩) (c0:PySem.W.codeIn K cd0 "has_only_signs" = true) (k0:PySem.W.keepIn K (.ref f0)=true)
  (a1:PySem.W.nsIn K mainGlobals "is_word" = some (some (.ref f1))) (l1:K.lookup f1=some ⟨oc1,od1,.func (PySem.W.fnOf "is_word" "is_word" (bb dt) (aO dt) (ai dt) .none kV1 dc1 pm1 an1 cd1 ct1),sl1⟩) (c1:PySem.W.codeIn K cd1 "is_word" = true) (k1:PySem.W.keepIn K (.ref f1)=true)
  (a2:PySem.W.nsIn K mainGlobals "signs_in" = some (some (.ref f2))) (l2:K.lookup f2=some ⟨oc2,od2,.func (PySem.W.fnOf "signs_in" "signs_in" (bb cT) (aO cT) (ai cT) .none kV2 dc2 pm2 an2 cd2 ct2),sl2⟩) (c2:PySem.W.codeIn K cd2 "signs_in" = true) (k2:PySem.W.keepIn K (.ref f2)=true)
  (a3:PySem.W.nsIn K mainGlobals "is_book" = some (some (.ref f3))) (l3:K.lookup f3=some ⟨oc3,od3,.func (PySem.W.fnOf "is_book" "is_book" (bb dr) (aO dr) (ai dr) .none kV3 dc3 pm3 an3 cd3 ct3),sl3⟩) (c3:PySem.W.codeIn K cd3 "is_book" = true) (k3:PySem.W.keepIn K (.ref f3)=true)
  (a4:PySem.W.nsIn K mainGlobals "is_shown_word" = some (some (.ref f4))) (l4:K.lookup f4=some ⟨oc4,od4,.func (PySem.W.fnOf "is_shown_word" "is_shown_word" (bb bz) (aO bz) (ai bz) .none kV4 dc4 pm4 an4 cd4 ct4),sl4⟩) (c4:PySem.W.codeIn K cd4 "is_shown_word" = true) (k4:PySem.W.keepIn K (.ref f4)=true)
  (a5:PySem.W.nsIn K mainGlobals "read_word" = some (some (.ref f5))) (l5:K.lookup f5=some ⟨oc5,od5,.func (PySem.W.fnOf "read_word" "read_word" (bb cD) (aO cD) (ai cD) .none kV5 dc5 pm5 an5 cd5 ct5),sl5⟩) (c5:PySem.W.codeIn K cd5 "read_word" = true) (k5:PySem.W.keepIn K (.ref f5)=true)
  (a6:PySem.W.nsIn K mainGlobals "read_book" = some (some (.ref f6))) (l6:K.lookup f6=some ⟨oc6,od6,.func (PySem.W.fnOf "read_book" "read_book" (bb cH) (aO cH) (ai cH) .none kV6 dc6 pm6 an6 cd6 ct6),sl6⟩) (c6:PySem.W.codeIn K cd6 "read_book" = true) (k6:PySem.W.keepIn K (.ref f6)=true)
  (a7:PySem.W.nsIn K mainGlobals "_law_cell_at" = some (some (.ref f7))) (l7:K.lookup f7=some ⟨oc7,od7,.func (PySem.W.fnOf "_law_cell_at" "_law_cell_at" (bb bS) (aO bS) (ai bS) .none kV7 dc7 pm7 an7 cd7 ct7),sl7⟩) (c7:PySem.W.codeIn K cd7 "_law_cell_at" = true) (k7:PySem.W.keepIn K (.ref f7)=true)
  (a8:PySem.W.nsIn K mainGlobals "_law_mixed" = some (some (.ref f8))) (l8:K.lookup f8=some ⟨oc8,od8,.func (PySem.W.fnOf "_law_mixed" "_law_mixed" (bb cI) (aO cI) (ai cI) .none kV8 dc8 pm8 an8 cd8 ct8),sl8⟩) (c8:PySem.W.codeIn K cd8 "_law_mixed" = true) (k8:PySem.W.keepIn K (.ref f8)=true)
  (a9:PySem.W.nsIn K mainGlobals "_law_text" = some (some (.ref f9))) (l9:K.lookup f9=some ⟨oc9,od9,.func (PySem.W.fnOf "_law_text" "_law_text" (bb cQ) (aO cQ) (ai cQ) .none kV9 dc9 pm9 an9 cd9 ct9),sl9⟩) (c9:PySem.W.codeIn K cd9 "_law_text" = true) (k9:PySem.W.keepIn K (.ref f9)=true)
  (a10:PySem.W.nsIn K mainGlobals "_law_book" = some (some (.ref f10))) (l10:K.lookup f10=some ⟨oc10,od10,.func (PySem.W.fnOf "_law_book" "_law_book" (bb cW) (aO cW) (ai cW) .none kV10 dc10 pm10 an10 cd10 ct10),sl10⟩) (c10:PySem.W.codeIn K cd10 "_law_book" = true) (k10:PySem.W.keepIn K (.ref f10)=true)
  (a11:PySem.W.nsIn K mainGlobals "_law_text_of" = some (some (.ref f11))) (l11:K.lookup f11=some ⟨oc11,od11,.func (PySem.W.fnOf "_law_text_of" "_law_text_of" (bb bT) (aO bT) (ai bT) .none kV11 dc11 pm11 an11 cd11 ct11),sl11⟩) (c11:PySem.W.codeIn K cd11 "_law_text_of" = true) (k11:PySem.W.keepIn K (.ref f11)=true)
  (a12:PySem.W.nsIn K mainGlobals "_law_sign" = some (some (.ref f12))) (l12:K.lookup f12=some ⟨oc12,od12,.func (PySem.W.fnOf "_law_sign" "_law_sign" (bb cO) (aO cO) (ai cO) .none kV12 dc12 pm12 an12 cd12 ct12),sl12⟩) (c12:PySem.W.codeIn K cd12 "_law_sign" = true) (k12:PySem.W.keepIn K (.ref f12)=true)
  (a13:PySem.W.nsIn K mainGlobals "_law_bent" = some (some (.ref f13))) (l13:K.lookup f13=some ⟨oc13,od13,.func (PySem.W.fnOf "_law_bent" "_law_bent" (bb cU) (aO cU) (ai cU) .none kV13 dc13 pm13 an13 cd13 ct13),sl13⟩) (c13:PySem.W.codeIn K cd13 "_law_bent" = true) (k13:PySem.W.keepIn K (.ref f13)=true)
  (a14:PySem.W.nsIn K mainGlobals "_law_due" = some (some (.ref f14))) (l14:K.lookup f14=some ⟨oc14,od14,.func (PySem.W.fnOf "_law_due" "_law_due" (bb dn) (aO dn) (ai dn) .none kV14 dc14 pm14 an14 cd14 ct14),sl14⟩) (c14:PySem.W.codeIn K cd14 "_law_due" = true) (k14:PySem.W.keepIn K (.ref f14)=true)
  (a15:PySem.W.nsIn K mainGlobals "_law_told" = some (some (.ref f15))) (l15:K.lookup f15=some ⟨oc15,od15,.func (PySem.W.fnOf "_law_told" "_law_told" (bb cw) (aO cw) (ai cw) .none kV15 dc15 pm15 an15 cd15 ct15),sl15⟩) (c15:PySem.W.codeIn K cd15 "_law_told" = true) (k15:PySem.W.keepIn K (.ref f15)=true)
  (a16:PySem.W.nsIn K mainGlobals "law" = some (some (.ref f16))) (l16:K.lookup f16=some ⟨oc16,od16,.func (PySem.W.fnOf "law" "law" (bb eX) (aO eX) (ai eX) .none kV16 dc16 pm16 an16 cd16 ct16),sl16⟩) (c16:PySem.W.codeIn K cd16 "law" = true) (k16:PySem.W.keepIn K (.ref f16)=true)
  (z_ValueError:PySem.W.nsIn K mainGlobals "ValueError" = some none)
  (z_all:PySem.W.nsIn K mainGlobals "all" = some none)
  (z_int:PySem.W.nsIn K mainGlobals "int" = some none)
  (z_isinstance:PySem.W.nsIn K mainGlobals "isinstance" = some none)
  (z_len:PySem.W.nsIn K mainGlobals "len" = some none)
  (z_list:PySem.W.nsIn K mainGlobals "list" = some none)
  (z_max:PySem.W.nsIn K mainGlobals "max" = some none)
  (z_min:PySem.W.nsIn K mainGlobals "min" = some none)
  (z_range:PySem.W.nsIn K mainGlobals "range" = some none)
  (z_str:PySem.W.nsIn K mainGlobals "str" = some none)
  (z_sum:PySem.W.nsIn K mainGlobals "sum" = some none)
  {t_MOST_SIGNS:Tok} (y_MOST_SIGNS:PySem.W.nsIn K mainGlobals "MOST_SIGNS" = some (some (.int 120 t_MOST_SIGNS)))
  {t_MOST_TEXTS:Tok} (y_MOST_TEXTS:PySem.W.nsIn K mainGlobals "MOST_TEXTS" = some (some (.int 8 t_MOST_TEXTS)))
  {t_MOST_WORD_SIGNS:Tok} (y_MOST_WORD_SIGNS:PySem.W.nsIn K mainGlobals "MOST_WORD_SIGNS" = some (some (.int 200 t_MOST_WORD_SIGNS)))
  {D_NoBook D_NoNumber D_NoRow D_NoStand D_NoTable D_NoText D_NoWord D_PartError D_TooMany:Addr}
  (w_NoBook:PySem.W.nsIn K mainGlobals "NoBook" = some (some (.ref D_NoBook)))
  (w_NoNumber:PySem.W.nsIn K mainGlobals "NoNumber" = some (some (.ref D_NoNumber)))
  (w_NoRow:PySem.W.nsIn K mainGlobals "NoRow" = some (some (.ref D_NoRow)))
  (w_NoStand:PySem.W.nsIn K mainGlobals "NoStand" = some (some (.ref D_NoStand)))
  (w_NoTable:PySem.W.nsIn K mainGlobals "NoTable" = some (some (.ref D_NoTable)))
  (w_NoText:PySem.W.nsIn K mainGlobals "NoText" = some (some (.ref D_NoText)))
  (w_NoWord:PySem.W.nsIn K mainGlobals "NoWord" = some (some (.ref D_NoWord)))
  (w_PartError:PySem.W.nsIn K mainGlobals "PartError" = some (some (.ref D_PartError)))
  (w_TooMany:PySem.W.nsIn K mainGlobals "TooMany" = some (some (.ref D_TooMany)))
  (v_q:PySem.W.excIn K D_NoBook [.type "ValueError",.type "Exception",.type "BaseException",.type "object"] "ValueError.__new__" = true) (v_x0:PySem.W.findIn K (.ref D_NoBook) "__getattribute__" = some (some (.builtin "BaseException.__getattribute__"))) (v_x1:PySem.W.findIn K (.ref D_NoBook) "__getattr__" = some none) (v_x2:PySem.W.findObj K D_NoBook none "__class__" = some (.bind (.builtin "getset_descriptor.__get__") (.builtin "object.__class__"))) (v_x3:PySem.W.mroIn K D_NoBook (.type "object")=some true) (v_x4:PySem.W.mroIn K D_NoBook (.type "BaseException")=some true)
  (v_p_NoBook:PySem.W.exmOne K (.ref D_NoBook) (.ref D_NoBook)=some true)
  (v_p_PartError:PySem.W.exmOne K (.ref D_NoBook) (.ref D_PartError)=some true)
  (v_k_NoBook:PySem.W.kitOne K (.ref D_NoBook) (.ref D_NoBook)=some true)
  (v_k_NoNumber:PySem.W.kitOne K (.ref D_NoBook) (.ref D_NoNumber)=some false)
  (v_k_NoRow:PySem.W.kitOne K (.ref D_NoBook) (.ref D_NoRow)=some false)
  (v_k_NoStand:PySem.W.kitOne K (.ref D_NoBook) (.ref D_NoStand)=some false)
  (v_k_NoTable:PySem.W.kitOne K (.ref D_NoBook) (.ref D_NoTable)=some false)
  (v_k_NoText:PySem.W.kitOne K (.ref D_NoBook) (.ref D_NoText)=some false)
  (v_k_NoWord:PySem.W.kitOne K (.ref D_NoBook) (.ref D_NoWord)=some false)
  (v_k_TooMany:PySem.W.kitOne K (.ref D_NoBook) (.ref D_TooMany)=some false)
  (v_b_ValueError:PySem.W.kitOne K (.ref D_NoBook) (.type "ValueError")=some true)
  : ∃ fd:FuncData,(∀ (s:Shared) (v:Value),BindsTo s fd ⟨[v],[]⟩ [("_law_script",v)])/\∀ base:Heap,K.In base->base.Ns mainGlobals mg->FnOk l.prog w K mg base CX0 6 fa fd ["_law_script"] (spF (gx0 K) pY):=by
 have e:=hfa.symm.trans (zl X G a16)
 cases e
 have B:Blt mg:=⟨zP X G z_ValueError,zP X G z_all,zP X G z_int,zP X G z_isinstance,zP X G z_len,zP X G z_list,zP X G z_max,zP X G z_min,zP X G z_range,zP X G z_str,zP X G z_sum,⟨_,zl X G y_MOST_SIGNS⟩,⟨_,zl X G y_MOST_TEXTS⟩,⟨_,zl X G y_MOST_WORD_SIGNS⟩⟩
 have Z:Xcl K mg D_NoBook:=⟨zl X G w_NoBook,v_q,⟨v_x0,v_x1,v_x2,v_x3,v_x4⟩,⟨_,zl X G w_NoBook,v_p_NoBook⟩,⟨_,zl X G w_PartError,v_p_PartError⟩,⟨_,zl X G w_NoBook,v_k_NoBook⟩,⟨_,zl X G w_NoNumber,v_k_NoNumber⟩,⟨_,zl X G w_NoRow,v_k_NoRow⟩,⟨_,zl X G w_NoStand,v_k_NoStand⟩,⟨_,zl X G w_NoTable,v_k_NoTable⟩,⟨_,zl X G w_NoText,v_k_NoText⟩,⟨_,zl X G w_NoWord,v_k_NoWord⟩,⟨_,zl X G w_TooMany,v_k_TooMany⟩,v_b_ValueError⟩
 refine ⟨PySem.W.fnOf "law" "law" (bb eX) (aO eX) (ai eX) .none kV16 dc16 pm16 an16 cd16 ct16,fun s v=>.of_eq rfl,fun base _ _=>?_⟩
 have bg:=bg (P:=l.prog) (w:=w) (base:=base) (bV (st:=bt) l0 c0 k0) (zl X G a0) B Z
 have d2:=d2 (P:=l.prog) (w:=w) (base:=base) (bV (st:=dt) l1 c1 k1) (zl X G a1) B Z bg
 have dA:=dA (P:=l.prog) (w:=w) (base:=base) (bV (st:=cT) l2 c2 k2) (zl X G a2) B Z
 have dW:=dW (P:=l.prog) (w:=w) (base:=base) (bV (st:=dr) l3 c3 k3) (zl X G a3) B Z bg dA
 have bR:=bR (P:=l.prog) (w:=w) (base:=base) (bV (st:=bz) l4 c4 k4) (zl X G a4) B Z d2
 have cZ:=cZ (P:=l.prog) (w:=w) (base:=base) (bV (st:=cD) l5 c5 k5) (zl X G a5) B Z
 have bA:=bA (P:=l.prog) (w:=w) (base:=base) (bV (st:=cH) l6 c6 k6) (zl X G a6) B Z dW bR cZ
 have aT:=aT (P:=l.prog) (w:=w) (base:=base) (bV (st:=bS) l7 c7 k7) (zl X G a7) B Z
 have de:=de (P:=l.prog) (w:=w) (base:=base) (bV (st:=cI) l8 c8 k8) (zl X G a8) B Z
 have dH:=dH (P:=l.prog) (w:=w) (base:=base) (bV (st:=cQ) l9 c9 k9) (zl X G a9) B Z aT de
 have dG:=dG (P:=l.prog) (w:=w) (base:=base) (bV (st:=cW) l10 c10 k10) (zl X G a10) B Z aT dH
 have br:=br (P:=l.prog) (w:=w) (base:=base) (bV (st:=bT) l11 c11 k11) (zl X G a11) B Z
 have dE:=dE (P:=l.prog) (w:=w) (base:=base) (bV (st:=cO) l12 c12 k12) (zl X G a12) B Z
 have dF:=dF (P:=l.prog) (w:=w) (base:=base) (bV (st:=cU) l13 c13 k13) (zl X G a13) B Z dE br
 have d3:=d3 (P:=l.prog) (w:=w) (base:=base) (bV (st:=dn) l14 c14 k14) (zl X G a14) B Z
 have cN:=cN (P:=l.prog) (w:=w) (base:=base) (bV (st:=cw) l15 c15 k15) (zl X G a15) B Z bA
 exact tF (uy (bV (st:=eX) l16 c16 k16) B Z dF dG aT d3 br cN bA) hlaw
end T50
open PySem PySem.W PyProof.Rows PySem.W.X PySem.W.ZRun
set_option maxRecDepth 100000 in
set_option maxHeartbeats 0 in
theorem PySem.Challenge.cw_allparts_k50_texts_of_no_book_holds : PySem.Challenge.rw_allparts_k50_texts_of_no_book.Holds := by
 w_on;o_law;z_head;(case hw=>w_witness2)
 k_fill
 intro w s₀ s₁ mg mb G y fa o pm cd doc dV kV ho hd hcd hD hmg hg args vals as L hpre hlay hrd hwl hlo
 z_open y L KX ZH ZN ZT
 clear ZH ZN ZT
 refine VS.oW (l:=PySem.Challenge.rw_allparts_k50_texts_of_no_book) (k:=6) (x := "_law_script") (g:=VS.pY) rfl rfl ⟨rfl,by decide,by decide⟩ (fun _=>rfl) ?F w s₀ s₁ mg mb G KX fa o pm cd doc dV kV ho hd hcd hD hmg hg args vals as hpre hlay hrd hwl hlo
 case F =>
  intro w mg fa h KX G hmg
  refine' T50.all_mk KX G hmg T50.oJ ?a0 ?l0 ?c0 ?k0 ?a1 ?l1 ?c1 ?k1 ?a2 ?l2 ?c2 ?k2 ?a3 ?l3 ?c3 ?k3 ?a4 ?l4 ?c4 ?k4 ?a5 ?l5 ?c5 ?k5 ?a6 ?l6 ?c6 ?k6 ?a7 ?l7 ?c7 ?k7 ?a8 ?l8 ?c8 ?k8 ?a9 ?l9 ?c9 ?k9 ?a10 ?l10 ?c10 ?k10 ?a11 ?l11 ?c11 ?k11 ?a12 ?l12 ?c12 ?k12 ?a13 ?l13 ?c13 ?k13 ?a14 ?l14 ?c14 ?k14 ?a15 ?l15 ?c15 ?k15 ?a16 ?l16 ?c16 ?k16 ?z_ValueError ?z_all ?z_int ?z_isinstance ?z_len ?z_list ?z_max ?z_min ?z_range ?z_str ?z_sum ?y_MOST_SIGNS ?y_MOST_TEXTS ?y_MOST_WORD_SIGNS ?w_NoBook ?w_NoNumber ?w_NoRow ?w_NoStand ?w_NoTable ?w_NoText ?w_NoWord ?w_PartError ?w_TooMany ?v_q ?v_x0 ?v_x1 ?v_x2 ?v_x3 ?v_x4 ?v_p_NoBook ?v_p_PartError ?v_k_NoBook ?v_k_NoNumber ?v_k_NoRow ?v_k_NoStand ?v_k_NoTable ?v_k_NoText ?v_k_NoWord ?v_k_TooMany ?v_b_ValueError
  (case a0=>k_is)
  (case l0=>k_is)
  (case c0=>k_is)
  (case k0=>k_is)
  (case a1=>k_is)
  (case l1=>k_is)
  (case c1=>k_is)
  (case k1=>k_is)
  (case a2=>k_is)
  (case l2=>k_is)
  (case c2=>k_is)
  (case k2=>k_is)
  (case a3=>k_is)
  (case l3=>k_is)
  (case c3=>k_is)
  (case k3=>k_is)
  (case a4=>k_is)
  (case l4=>k_is)
  (case c4=>k_is)
  (case k4=>k_is)
  (case a5=>k_is)
  (case l5=>k_is)
  (case c5=>k_is)
  (case k5=>k_is)
  (case a6=>k_is)
  (case l6=>k_is)
  (case c6=>k_is)
  (case k6=>k_is)
  (case a7=>k_is)
  (case l7=>k_is)
  (case c7=>k_is)
  (case k7=>k_is)
  (case a8=>k_is)
  (case l8=>k_is)
  (case c8=>k_is)
  (case k8=>k_is)
  (case a9=>k_is)
  (case l9=>k_is)
  (case c9=>k_is)
  (case k9=>k_is)
  (case a10=>k_is)
  (case l10=>k_is)
  (case c10=>k_is)
  (case k10=>k_is)
  (case a11=>k_is)
  (case l11=>k_is)
  (case c11=>k_is)
  (case k11=>k_is)
  (case a12=>k_is)
  (case l12=>k_is)
  (case c12=>k_is)
  (case k12=>k_is)
  (case a13=>k_is)
  (case l13=>k_is)
  (case c13=>k_is)
  (case k13=>k_is)
  (case a14=>k_is)
  (case l14=>k_is)
  (case c14=>k_is)
  (case k14=>k_is)
  (case a15=>k_is)
  (case l15=>k_is)
  (case c15=>k_is)
  (case k15=>k_is)
  (case a16=>k_is)
  (case l16=>k_is)
  (case c16=>k_is)
  (case k16=>k_is)
  (case z_ValueError=>k_is)
  (case z_all=>k_is)
  (case z_int=>k_is)
  (case z_isinstance=>k_is)
  (case z_len=>k_is)
  (case z_list=>k_is)
  (case z_max=>k_is)
  (case z_min=>k_is)
  (case z_range=>k_is)
  (case z_str=>k_is)
  (case z_sum=>k_is)
  (case y_MOST_SIGNS=>k_is)
  (case y_MOST_TEXTS=>k_is)
  (case y_MOST_WORD_SIGNS=>k_is)
  (case w_NoBook=>k_is)
  (case w_NoNumber=>k_is)
  (case w_NoRow=>k_is)
  (case w_NoStand=>k_is)
  (case w_NoTable=>k_is)
  (case w_NoText=>k_is)
  (case w_NoWord=>k_is)
  (case w_PartError=>k_is)
  (case w_TooMany=>k_is)
  (case v_q=>first | k_is | kernel_rfl | decide +kernel)
  (case v_x0=>first | k_is | kernel_rfl | decide +kernel)
  (case v_x1=>first | k_is | kernel_rfl | decide +kernel)
  (case v_x2=>first | k_is | kernel_rfl | decide +kernel)
  (case v_x3=>first | k_is | kernel_rfl | decide +kernel)
  (case v_x4=>first | k_is | kernel_rfl | decide +kernel)
  (case v_p_NoBook=>first | k_is | kernel_rfl | decide +kernel)
  (case v_p_PartError=>first | k_is | kernel_rfl | decide +kernel)
  (case v_k_NoBook=>first | k_is | kernel_rfl | decide +kernel)
  (case v_k_NoNumber=>first | k_is | kernel_rfl | decide +kernel)
  (case v_k_NoRow=>first | k_is | kernel_rfl | decide +kernel)
  (case v_k_NoStand=>first | k_is | kernel_rfl | decide +kernel)
  (case v_k_NoTable=>first | k_is | kernel_rfl | decide +kernel)
  (case v_k_NoText=>first | k_is | kernel_rfl | decide +kernel)
  (case v_k_NoWord=>first | k_is | kernel_rfl | decide +kernel)
  (case v_k_TooMany=>first | k_is | kernel_rfl | decide +kernel)
  (case v_b_ValueError=>first | k_is | kernel_rfl | decide +kernel)
end
