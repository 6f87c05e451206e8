import PyProof.Rows.All
import Wide.All
import OpenK.AllK
import Wide.FinOn
import Lean
import PyProof.EqAt
import PyProof.EqKinds
import PyProof.TupleCall
import PyProof.Rows.SortShellK
import PyProof.Rows.SortStr
import PyProof.Rows.SortWalk
import PyProof.StrBlockH
import PyProof.StrLawsIn
import PyProof.Rows.SetFrom
import PyProof.CollectWalk
import KE.KDictSum
import PyProof.ListStr
import PyProof.SeqI3
import PyProof.Rows.CallKwBuiltin
import PyProof.ListRange
import PyProof.AttrMissSeq
import PyProof.DictUpdate
import PyProof.DictList
import PyProof.ListNew
import PyProof.FactsAll.dict_1
import PyProof.SliceList
import PyProof.WalkInts
import PyProof.StationsW
import OpenK.KOwn
import KE.KTryMore
import PyProof.NsDelKeeps
import PyProof.ExcArgsOwn
import PyProof.ExcAttrAll.Exception
import OpenK.KDescr
import KE.KIsAll
import PyProof.ExcBaseAll.ValueError
import PyProof.StrBlock
import PyProof.StrCalls
import PyProof.StrLawsOccR
import KE.KDictOf
import PyProof.Rows.Range3
import PySem.Challenge.RW_allparts_k42_whole_the_fewest
namespace PySem.W.Fast
def tw3908691460780167179:True:=⟨⟩
def tw6329130694764348786:True:=⟨⟩
def tw13749313685943863645:True:=⟨⟩
def tw4562292982724776494:True:=⟨⟩
def tw6589945190491484133:True:=⟨⟩
def tw955075001693921346:True:=⟨⟩
def tw7200506942712594937:True:=⟨⟩
def tw15766327059175519801:True:=⟨⟩
def tw13704177799256803311:True:=⟨⟩
def tw15982724265145867976:True:=⟨⟩
def tw8037531537711984333:True:=⟨⟩
def tw14907799400452204695:True:=⟨⟩
def tw2119939293229051989:True:=⟨⟩
def tw15720298767843150636:True:=⟨⟩
def tw1177397450750780938:True:=⟨⟩
def tw6757431045148168645:True:=⟨⟩
def tw4136472517231567730:True:=⟨⟩
def tw3105488640205803891:True:=⟨⟩
def tw14600436135382712248:True:=⟨⟩
def tw7519985750005545825:True:=⟨⟩
def tw8351897458195067758:True:=⟨⟩
def tw8187848578765740824:True:=⟨⟩
def tw11440268609628257906:True:=⟨⟩
def tw15421957782388174845:True:=⟨⟩
def tw3751166574108187487:True:=⟨⟩
def tw1762874202094894544:True:=⟨⟩
def tw10291885275200123193:True:=⟨⟩
def tw3544152711008007317:True:=⟨⟩
def tw12731825959402434025:True:=⟨⟩
def tw3613471230703563528:True:=⟨⟩
def tw3675033228252566457:True:=⟨⟩
def tw16048880861219463301:True:=⟨⟩
def tw11728560092760125319:True:=⟨⟩
def tw5603159807159784040:True:=⟨⟩
def tw9054995809291566565:True:=⟨⟩
def tw15429903682226094174:True:=⟨⟩
def tw8588503847195361106:True:=⟨⟩
def tw96275896349110156:True:=⟨⟩
def tw8163676109965394605:True:=⟨⟩
def tw11581049663503397831:True:=⟨⟩
end PySem.W.Fast
set_option linter.all false
set_option maxRecDepth 100000
set_option Elab.async false
set_option maxHeartbeats 4000000
abbrev Z2:=PySem.Value->PySem.Shared->Prop
abbrev Y1:=List (PySem.Addr×PySem.Obj)
abbrev Xm:=List (List PySem.Addr)
abbrev Xj:=PySem.W.Frag
abbrev Xe:=PySem.Str->Option PySem.Value
abbrev Xa:=List PySem.Addr
abbrev X8:=List PySem.Value
abbrev Wq:=Option PySem.Value
abbrev Wh:=List Nat
abbrev Wg:=List Int
abbrev Wf:=List (List (List Nat))
abbrev Zq:=@if_pos
abbrev Zo:=@if_neg
abbrev Za:=@decide_eq_false
abbrev ZM:=@beq_eq_false_iff_ne
open Option renaming bind_eq_some_iff->Zz,map_eq_some_iff->Zy,bind_some->Zx,isSome_iff_exists->Yn,isSome_map->Yd,getD_some->Xu
open List renaming mem_cons_of_mem->Zw,length_append->Zv,mem_cons_self->Zu,length_map->Zt,getD_eq_getElem?_getD->Zs,getElem?_eq_getElem->Zr,length_cons->Zm,map_cons->Zl,mem_cons->Zj,nodup_cons->Zh,getElem?_eq_some_iff->Zg,mem_singleton->Zf,mem_append->Zc,size_toArray->ZZ,zip_cons_cons->ZY,flatten_cons->ZX,nodup_append->ZU,append_nil->ZS,length_range->ZQ,getElem?_map->ZP,mem_append_right->ZL,length_singleton->ZK,length_drop->ZJ,append_assoc->ZF,map_append->ZD,getElem?_append_left->ZA,getElem?_eq_none->Z0,map_map->Z4,flatten_append->Z5,length_set->Z6,find?_cons->Z7,suffix_refl->Z8,nodup_nil->Z9,getElem_mem->Yz,getElem?_append_right->Yy,mem_append_left->Yx,sublist_cons_self->Yw,nil_append->Yv,lookup_cons->Yu,length_eq_zero_iff->Ys,getElem?_set_ne->Yr,length_zip->Yq,getElem?_eq_none_iff->Yo,take_of_length_le->Yl,any_eq_true->Yj,all_eq_true->Yi,mem_map->Yg,any_cons->Yf,mem_range->Ye,getElem?_replicate->Yc,length_take->YY,sublist_append_right->YW,getElem?_zip_eq_some->YV,suffix_nil->YU,foldl_cons->YT,mem_of_getElem?->YS,getD_cons_succ->YR,drop_of_length_le->YL,mem_filter->YK,length_replicate->YH,drop_drop->YD,replicate_succ->YA,sum_cons->Y0,getElem?_set_self->Y5,drop_eq_nil_of_le->Y6,take_append_drop->Xy,length_filter_le->Xw,cons_lt_cons_iff->Xv,all_cons->Xq,nil_suffix->Xn,length_range'->Xh,isSuffixOf_iff_suffix->Xg,drop_eq_getElem_cons->Xf,cons_append->XY,map_set->XT,set_getElem_self->XO,cons_prefix_cons->XM,mem_of_mem_drop->XI,map_id->XH,drop_zero->XG,map_congr_left->XE,length_pos_iff->XD,getElem?_range->XC,filterMap_cons->XB,prefix_append->X4,pairwise_cons->X5,findIdx?_cons->X6,pairwise_map->Wv,getElem?_set->Wu,take_length->Wo,range'_succ->Wm,not_mem_nil->Wk,mem_flatten->Wj,map_fst_zip->Wi
open Nat renaming le_refl->Zp,ne_of_lt->Zb,lt_of_lt_of_le->ZO,le_trans->ZG,le_of_not_lt->ZE,zero_le->Yt,lt_succ_self->Yp,lt_irrefl->Yh,min_eq_left->Yb,le_add_right->YO,add_sub_cancel->YM,succ_le_succ->Xs,le_of_not_le->Xr,le_zero->Xp,le_succ->Xo,zero_add->Xl,pos_of_ne_zero->Xi,lt_of_not_le->XZ,le_of_lt->XU,lt_of_le_of_lt->X3,succ_pos->X9,ne_of_gt->Wz,lt_trans->Wy,lt_succ_of_lt->Wx,le_of_eq->Ww,min_eq_right->Wp
open Option.some renaming inj->Zn
open PySem renaming wpAny_bind->Zk,wpAny_pure->ZV,wpAny_truthy_bool->YZ,wpAny_mono->YN,wpAny_passesOwn->YE,mem_of_lookup->YB,wpAny_holding->Y3,wpAny_Call_Name_kw->Y8,tupleKind_room_in1->Y9,sizeLine_eq->Xz,wpAny_typeNameOfWhole_keyiter->Xk,wpAny_newObj_type->XR,wpAny_call_entry->XJ,wpAny_execs_nil->X0
open PySem.Heap renaming get?_push_of_some->Zi,lt_size->ZW,get?_push_size->ZR,get?_update_other->XA,size_push->Wt
open Bool renaming and_eq_true->Ze,false_ne_true->Zd,eq_iff_iff->YI,false_eq_true->X7
open PySem.W renaming mg_of->ZC,mg_none_of->Z3,kia_one->Ym,plainGet_of->XF,callWith_K->X2
open PySem.PassesOwn renaming never->Z1
open Array renaming getElem?_toList->Yk,length_toList->YQ
open Ne renaming symm->Ya
open Int renaming emod_lt_of_pos->YX,emod_nonneg->YJ,toNat_natCast->YF
open PyProof.Rows renaming callWith_type1->YG
open PySem.F renaming slot_dict_keyiterator_next->YC,plainAttrs_list->Y2,type_list_append->Xc,slot_list_append->Xb,plainAttrs_str->XW,slot_tuple_getattribute->XS,slot_dict_get->XQ
open PySem.Paired renaming length->Y4
open List.Sublist renaming refl->Y7
open Prod.mk renaming inj->Xd
open PySem.StrLaws renaming subAt_eq->XX
open List.cons renaming inj->X1
open PySem.Around renaming under_plainId->Wr
section
namespace L2
def jy {G:Prop} (h:∀ P:Prop,(G->P)->P):G:=h G id
end L2
namespace VS
abbrev Tx:=Wh
inductive T where
 | GJ | bl (b:Bool) | int (i:Int) | str (s:Tx) | Hw (ns:Wg)
 | tup (l:List T) | lst (l:List T) | GL (kd:Nat) (l:List (T×T)) | obj (c:Nat) (fs:List (Nat×T))
 deriving Inhabited
abbrev Wa:=List T
def eD:Nat:=16777216
mutual
@[simp] def GO:T->Bool
 | .lst _=>false
 | .GL _ _=>false
 | .obj _ _=>false
 | .tup l=>eO l
 | _=>true
@[simp] def eO:Wa->Bool
 | []=>true
 | t :: r=>GO t && eO r
end
mutual
@[simp] def eqT:T->T->Bool
 | .GJ,.GJ=>true
 | .bl a,.bl b=>a == b
 | .bl a,.int i=>(if a then 1 else 0) == i
 | .int i,.bl a=>i == (if a then 1 else 0)
 | .int i,.int j=>i == j
 | .str s,.str t=>s == t
 | .tup a,.tup b=>yH a b
 | .lst a,.lst b=>yH a b
 | _,_=>false
@[simp] def yH:Wa->Wa->Bool
 | [],[]=>true
 | a :: as,b :: bs=>eqT a b && yH as bs
 | _,_=>false
end
@[simp] def HY:Nat->T->Bool
 | _,.GJ=>true
 | _,.bl _=>true
 | _,.int _=>true
 | _,.str _=>true
 | n+1,.tup l=>l.all (HY n)
 | n+1,.lst l=>l.all (HY n)
 | _,_=>false
inductive Md where | fr | pu | bo
 deriving DecidableEq,Inhabited
@[simp] def Md.join:Md->Md->Md
 | .bo,_=>.bo
 | _,.bo=>.bo
 | .pu,_=>.pu
 | _,.pu=>.pu
 | .fr,.fr=>.fr
inductive Cell where | pu (t:T) | ow (t:T)
 deriving Inhabited
abbrev We:=Option Cell
abbrev Env:=List (We)
abbrev Val:=Md×T
abbrev Wb:=Option Val
abbrev Wc:=List Val
abbrev Ex:=Env->Wb
abbrev Hh:=Env->Option (Wc)
@[simp] def up (m:Md) (t:T):Val:=(if GO t then .fr else m,t)
@[simp] def pb:T->Bool
 | .lst _=>true
 | .GL _ _=>true
 | .obj _ _=>true
 | _=>false
@[simp] def cellOf:Val->We
 | (.fr,t)=>some (if pb t then .ow t else .pu t)
 | (.pu,t)=>some (.pu t)
 | (.bo,_)=>none
inductive Out where | nx (U:Env) | rt (v:Val) (U:Env) | bk (U:Env) | ct (U:Env)
abbrev Sx:=Env->Option Out
@[simp] def eC (t:T) (_:Env):Wb:=some (.fr,t)
abbrev Q2 (i:Int):Ex:=eC (.int i)
@[simp] def aa (i:Nat) (U:Env):Wb:=match U[i]? with
 | some (some (.pu t))=>some (up .pu t)
 | some (some (.ow t))=>some (.bo,t)
 | _=>none
@[simp] def e1 (f:Val->Wb) (a:Ex) (U:Env):Wb:=(a U).bind f
@[simp] def e2 (f:Val->Val->Wb) (a b:Ex) (U:Env):Wb:=(a U).bind fun x=>(b U).bind fun y=>f x y
@[simp] def ai (_:Env):Option (Wc):=some []
@[simp] def ab (a:Ex) (r:Hh) (U:Env):Option (Wc):=(a U).bind fun x=>(r U).bind fun xs=>some (x :: xs)
@[simp] def eN (f:Wc->Wb) (as:Hh) (U:Env):Wb:=(as U).bind f
@[simp] def cu:Wc->Md
 | []=>.fr
 | v :: r=>v.1.join (cu r)
@[simp] def trees (l:Wc):Wa:=l.map (·.2)
def JT (m:Md) (l:Wa):Wb:=if l.length<=eD then some (if eO l then .fr else m,.lst l) else none
@[simp] def di (as:Hh) (U:Env):Wb:=(as U).bind fun l=>JT (cu l) (trees l)
def uN (l:Wc):Wb:=if l.length<=eD then some (up (cu l) (.tup (trees l))) else none
@[simp] def n9 (as:Hh) (U:Env):Wb:=(as U).bind uN
def dput (l:List (T×T)) (k v:T):List (T×T):=if l.any (fun p=>eqT p.1 k) then l.map (fun p=>if eqT p.1 k then (p.1,v) else p) else l++[(k,v)]
def iG:T->Bool
 | .int _=>true
 | .str _=>true
 | _=>false
def keyOk:Nat->T->Bool
 | 0,t=>iG t
 | 1,.tup l=>l.all iG
 | _,_=>false
def pairs:List (Ex×Ex)->Env->Option (List (Val×Val))
 | [],_=>some []
 | (a,b) :: r,U=>(a U).bind fun x=>(b U).bind fun y=>(pairs r U).map ((x,y) :: ·)
def qO (kd:Nat) (ps:List (Ex×Ex)) (U:Env):Wb:=(pairs ps U).bind fun l=>if l.all (fun p=>keyOk kd p.1.2)/\l.length<=15 then
 some (cu (l.map (·.2)),.GL kd (l.foldl (fun d p=>dput d p.1.2 p.2.2) [])) else none
@[simp] def Lg:T->Option Bool
 | .bl b=>some b
 | .int i=>some (i != 0)
 | .str s=>some (!s.isEmpty)
 | .lst l=>some (!l.isEmpty)
 | .tup l=>some (!l.isEmpty)
 | .GL 0 l=>some (!l.isEmpty)
 | .GJ=>some false
 | _=>none
@[simp] def iJ (a b:Ex) (U:Env):Wb:=(a U).bind fun x=>match x.2 with
 | .bl true=>b U
 | .bl false=>some (.fr,.bl false)
 | _=>none
@[simp] def Kz (a b:Ex) (U:Env):Wb:=(a U).bind fun x=>match x.2 with
 | .bl true=>some (.fr,.bl true)
 | .bl false=>b U
 | _=>none
@[simp] def qB (a:Ex) (U:Env):Wb:=(a U).bind fun x=>match x.2 with
 | .bl b=>some (.fr,.bl (!b))
 | _=>none
@[simp] def Nd:T->Bool
 | .GJ=>true
 | _=>false
@[simp] def jN (a:Ex) (U:Env):Wb:=(a U).bind fun x=>some (.fr,.bl (Nd x.2))
@[simp] def fj (a:Ex) (U:Env):Wb:=(a U).bind fun x=>some (.fr,.bl (!Nd x.2))
@[simp] def dW (f g:Val->Val->Wb) (a b c:Ex) (U:Env):Wb:=(a U).bind fun x=>(b U).bind fun y=>(f x y).bind fun r=>match r.2 with
 | .bl true=>(c U).bind fun z=>g y z
 | .bl false=>some (.fr,.bl false)
 | _=>none
@[simp] def int?:T->Option Int
 | .int i=>some i
 | _=>none
def aN:Val->Val->Wb
 | (_,.int i),(_,.int j)=>some (.fr,.int (i+j))
 | (_,.str s),(_,.str t)=>if s.length+t.length<=eD then some (.fr,.str (s++t)) else none
 | (m,.lst s),(n,.lst t)=>JT (m.join n) (s++t)
 | _,_=>none
@[simp] def p7:Val->Val->Wb
 | (_,.int i),(_,.int j)=>some (.fr,.int (i - j))
 | _,_=>none
def JY:Int:=4611686018427387904
def OK:Int:=18446744073709551616
def gy:Val->Val->Wb
 | (_,.int i),(_,.int j)=>if (-OK < i/\i < OK)\/(-OK < j/\j < OK) then some (.fr,.int (i * j)) else none
 | _,_=>none
def vC:Val->Val->Wb
 | (_,.str s),(_,.int j)=>if s.length * j.toNat<=eD/\-JY<=j/\j < JY then some (.fr,.str (List.replicate j.toNat s).flatten) else none
 | _,_=>none
def jx:Val->Val->Wb
 | (_,.int i),(_,.int j)=>if 0 < j/\j < 1073741824 then some (.fr,.int (i / j)) else none
 | _,_=>none
def oMod:Val->Val->Wb
 | (_,.int i),(_,.int j)=>if 0 < j then some (.fr,.int (i % j)) else none
 | _,_=>none
def Kr:Tx->Tx->Bool
 | [],[]=>false
 | [],_ :: _=>true
 | _ :: _,[]=>false
 | a :: as,b :: bs=>if a < b then true else if b < a then false else Kr as bs
@[simp] def oLt:Val->Val->Wb
 | (_,.int i),(_,.int j)=>some (.fr,.bl (decide (i < j)))
 | (_,.str s),(_,.str t)=>some (.fr,.bl (Kr s t))
 | _,_=>none
@[simp] def oLe:Val->Val->Wb
 | (_,.int i),(_,.int j)=>some (.fr,.bl (decide (i<=j)))
 | (_,.str s),(_,.str t)=>some (.fr,.bl (!Kr t s))
 | _,_=>none
@[simp] def Ke (a b:Val):Wb:=oLt b a
@[simp] def Nb (a b:Val):Wb:=oLe b a
@[simp] def oEq (a b:Val):Wb:=if HY 60 a.2/\HY 60 b.2 then some (.fr,.bl (eqT a.2 b.2)) else none
@[simp] def Kd (a b:Val):Wb:=if HY 60 a.2/\HY 60 b.2 then some (.fr,.bl (!eqT a.2 b.2)) else none
def fB (l:List (T×T)) (k:T):Option T:=(l.find? fun p=>eqT p.1 k).map (·.2)
def HH (n:Nat) (i:Int):Option Nat:=if 0<=i then (if i < n then some i.toNat else none) else (if 0<=i+n then some (i+n).toNat else none)
@[simp] def sub (m:Md) (t:T):Val:=up m t
@[simp] def ay:Val->Val->Wb
 | (m,.lst l),(_,.int i)=>(HH l.length i).bind fun k=>(l[k]?).map (sub m)
 | (m,.tup l),(_,.int i)=>(HH l.length i).bind fun k=>(l[k]?).map (sub m)
 | (_,.Hw l),(_,.int i)=>(HH l.length i).bind fun k=>(l[k]?).map fun n=>(.fr,.int n)
 | (_,.str l),(_,.int i)=>(HH l.length i).bind fun k=>(l[k]?).map fun n=>(.fr,.str [n])
 | _,_=>none
def clip (n:Nat) (i:Int):Nat:=if i < 0 then (i+n).toNat else min i.toNat n
def cut {α:Type} (l:List α) (a b:Option Int):List α :=
 let lo:=match a with | none=>0 | some i=>clip l.length i
 let hi:=match b with | none=>l.length | some i=>clip l.length i
 (l.drop lo).take (hi - lo)
@[simp] def Sq (v:Val) (a b:Option Int):Wb:=match v with
 | (_,.str s)=>some (.fr,.str (cut s a b))
 | (m,.lst l)=>JT m (cut l a b)
 | _=>none
@[simp] def mV (c:Option Ex) (U:Env):Option (Option Int):=match c with
 | none=>some none
 | some e=>(e U).bind fun y=>(int? y.2).map some
@[simp] def Jg (a:Ex) (lo hi:Option Ex) (U:Env):Wb:=(a U).bind fun x=>(mV lo U).bind fun l=>(mV hi U).bind fun h=>Sq x l h
@[simp] def FT:T->Option Nat
 | .lst l=>some l.length
 | .tup l=>some l.length
 | .str l=>some l.length
 | .Hw l=>some l.length
 | .GL 0 l=>some l.length
 | _=>none
@[simp] def bt:Wc->Wb
 | [x]=>(FT x.2).map fun n=>(.fr,.int n)
 | _=>none
@[simp] def GG:Wc->Wb
 | [(_,.int i),(_,.int j)]=>some (.fr,.int (if j < i then j else i))
 | _=>none
@[simp] def uB:Wc->Wb
 | [(_,.int i),(_,.int j)]=>some (.fr,.int (if j > i then j else i))
 | _=>none
def nP:Wa->Option (Wg)
 | []=>some []
 | .int i :: r=>(nP r).map (i :: ·)
 | _=>none
def strs?:Wa->Option (List Tx)
 | []=>some []
 | .str i :: r=>(strs? r).map (i :: ·)
 | _=>none
def zV:Wc->Wb
 | [(_,.lst l)]=>(nP l).bind fun is=>some (.fr,.int is.sum)
 | _=>none
@[simp] def Ci:Wc->Wb
 | [(m,.lst l)]=>JT m l
 | [(m,.tup l)]=>JT m l
 | _=>none
def kh:Wc->Wb
 | [(m,.lst l)]=>if l.length<=eD then some (up m (.tup l)) else none
 | _=>none
def m8 (x:Tx):List Tx->List Tx
 | []=>[x]
 | y :: r=>if Kr y x then y :: m8 x r else x :: y :: r
def eR (l:List Tx):List Tx:=l.foldr m8 []
inductive Ty where | int | str | bool | list | tuple | dict
@[simp] def sC:Ty->T->Bool
 | .int,.int _=>true
 | .int,.bl _=>true
 | .bool,.bl _=>true
 | .str,.str _=>true
 | .list,.lst _=>true
 | .tuple,.tup _=>true
 | .dict,.GL _ _=>true
 | _,_=>false
@[simp] def uw:T->Bool
 | .obj _ _=>false
 | .Hw _=>false
 | .GL 0 _=>true
 | .GL 1 _=>true
 | .GL _ _=>false
 | _=>true
@[simp] def Oo (t:Ty) (a:Ex) (U:Env):Wb:=(a U).bind fun x=>if uw x.2 then some (.fr,.bl (sC t x.2)) else none
def total:List Tx->Nat
 | []=>0
 | x :: r=>x.length+total r
def dh (sep:Tx):List Tx->Tx
 | []=>[]
 | [x]=>x
 | x :: r=>x++sep++dh sep r
def iY:Val->Wc->Wb
 | (_,.str sep),[(_,.lst l)]=>(strs? l).bind fun ss=>if total ss+ss.length * sep.length<=eD then some (.fr,.str (dh sep ss)) else none
 | _,_=>none
def oO:Val->Wc->Wb
 | (_,.str s),[(_,.str t)]=>some (.fr,.bl (t.isSuffixOf s))
 | _,_=>none
@[simp] def eM (f:Val->Wc->Wb) (o:Ex) (as:Hh) (U:Env):Wb:=(o U).bind fun x=>(as U).bind fun xs=>f x xs
abbrev Fn:=Wa->Wb
@[simp] def bW (g:Fn) (as:Hh) (U:Env):Wb:=(as U).bind fun xs=>(g (trees xs)).bind fun r=>match r with
 | (.fr,t)=>some (.fr,t)
 | (_,t)=>some ((Md.pu).join (cu xs),t)
abbrev JA:=Env->Option (Md×Wa)
@[simp] def De:Val->Option (Md×Wa)
 | (m,.lst l)=>some (m,l)
 | (m,.tup l)=>some (m,l)
 | (_,.str l)=>some (.fr,l.map fun c=>.str [c])
 | _=>none
@[simp] def ik (a:Ex) (U:Env):Option (Md×Wa):=(a U).bind De
def Ka (lo:Int) (n:Nat):Wa:=(List.range n).map fun (k:Nat)=>T.int (lo+k)
def cp (a:Ex) (U:Env):Option (Md×Wa):=(a U).bind fun x=>(int? x.2).bind fun j=>if -JY<=j/\j < JY then some (.fr,Ka 0 j.toNat) else none
def kM (a b:Ex) (U:Env):Option (Md×Wa):=(a U).bind fun x=>(b U).bind fun y=>(int? x.2).bind fun i=>(int? y.2).bind fun j =>
 if (-JY<=i/\i < JY)/\-JY<=j/\j < JY then some (.fr,Ka i (j - i).toNat) else none
def gT (k:Nat):Wa->Wa
 | []=>[]
 | t :: r=>.tup [.int k,t] :: gT (k+1) r
@[simp] def FD:Val->Option (Md×Wa)
 | (m,.lst l)=>some (m,gT 0 l)
 | _=>none
@[simp] def uV (a:Ex) (U:Env):Option (Md×Wa):=(a U).bind FD
abbrev Tg:=T->Env->Option Env
@[simp] def bc (i:Nat) (t:T) (U:Env):Option Env:=if i < U.length then some (U.set i (some (.pu t))) else none
@[simp] def sN:List Tg->Wa->Env->Option Env
 | [],[],U=>some U
 | g :: gs,t :: ts,U=>(g t U).bind fun U'=>sN gs ts U'
 | _,_,_=>none
@[simp] def qJ (gs:List Tg) (t:T) (U:Env):Option Env:=match t with
 | .tup l=>sN gs l U
 | _=>none
@[simp] def PR (m:Md) (l:Wa):Bool:=match m with
 | .bo=>eO l
 | _=>true
def jz (tg:Tg) (cond:Option Ex) (elt:Ex) (U:Env):Wa->Option (Wc)
 | []=>some []
 | t :: r=>(tg t U).bind fun U'=>(match cond with | none=>some true | some c=>(c U').bind fun x=>Lg x.2).bind fun b =>
  if b then (elt U').bind fun v=>(jz tg cond elt U r).map (v :: ·) else jz tg cond elt U r
def dQ (k:Nat) (tg:Tg) (it:JA) (cond:Option Ex) (elt:Ex) (U:Env):Wb:=(it U).bind fun (m,l)=>if PR m l then
 (jz tg cond elt (List.replicate k none++U) l).bind fun vs=>JT (cu vs) (trees vs) else none
@[simp] def dn (U:Env):Option Out:=some (.nx U)
@[simp] def ak (a b:Sx) (U:Env):Option Out:=(a U).bind fun o=>match o with
 | .nx U'=>b U'
 | o=>some o
@[simp] def jX (i:Nat) (e:Ex) (U:Env):Option Out:=(e U).bind fun v=>(cellOf v).bind fun c=>if i < U.length then some (.nx (U.set i (some c))) else none
@[simp] def aH (i:Nat) (e:Ex) (U:Env):Option Out:=(e U).bind fun v=>match v.1 with
 | .bo=>none
 | _=>if i < U.length then some (.nx (U.set i (some (.pu v.2)))) else none
@[simp] def fm (e:Ex) (U:Env):Option Out:=(e U).bind fun v=>some (.rt (match v.1 with | .bo=>.pu | m=>m,v.2) U)
@[simp] def eu (i:Nat) (U:Env):Option Out:=match U[i]? with
 | some (some (.ow t))=>some (.rt (.fr,t) (U.set i none))
 | some (some (.pu t))=>some (.rt (up .pu t) U)
 | _=>none
@[simp] def HB (c:Ex) (a b:Sx) (U:Env):Option Out:=(c U).bind fun x=>(Lg x.2).bind fun t=>if t then a U else b U
def forL (tg:Tg) (body:Sx):Wa->Env->Option Out
 | [],U=>some (.nx U)
 | t :: r,U=>(tg t U).bind fun U1=>(body U1).bind fun o=>match o with
  | .nx U2=>forL tg body r U2
  | .ct U2=>forL tg body r U2
  | .bk U2=>some (.nx U2)
  | .rt v U2=>some (.rt v U2)
@[simp] def Sn:Md->Bool
 | .bo=>false
 | _=>true
@[simp] def gA (tg:Tg) (it:JA) (body:Sx) (U:Env):Option Out:=(it U).bind fun (m,l)=>if Sn m then forL tg body l U else none
def dH (c:Ex) (body:Sx):Nat->Env->Option Out
 | 0,_=>none
 | n+1,U=>(c U).bind fun x=>(Lg x.2).bind fun t=>if t then (body U).bind fun o=>match o with
  | .nx U2=>dH c body n U2
  | .ct U2=>dH c body n U2
  | .bk U2=>some (.nx U2)
  | .rt v U2=>some (.rt v U2)
  else some (.nx U)
def wq:Nat:=1000000
def lq (c:Ex) (body:Sx) (U:Env):Option Out:=dH c body wq U
@[simp] def tH (i:Nat) (U:Env):Option Out:=match U[i]? with
 | some (some (.ow t))=>some (.nx (U.set i (some (.pu t))))
 | some (some (.pu _))=>some (.nx U)
 | _=>none
inductive Jh where | fld (k:Nat) | ix (e:Ex) | un
inductive Ky where | fld (k:Nat) | at (t:T) | un
@[simp] def keys:List Jh->Env->Option (List Ky)
 | [],_=>some []
 | .fld k :: r,U=>(keys r U).map (.fld k :: ·)
 | .ix e :: r,U=>(e U).bind fun x=>(keys r U).map (.at x.2 :: ·)
 | .un :: r,U=>(keys r U).map (.un :: ·)
def Gj (fs:List (Nat×T)) (k:Nat):Option T:=fs.lookup k
def FX (fs:List (Nat×T)) (k:Nat) (v:T):List (Nat×T):=if fs.any (fun p=>p.1 == k) then fs.map (fun p=>if p.1 == k then (p.1,v) else p) else fs++[(k,v)]
@[simp] noncomputable def AH {α:Type} (f:T->Option (T×α)):List Ky->T->Option (T×α)
 | [],t=>f t
 | .fld k :: r,.obj c fs=>(Gj fs k).bind fun x=>(AH f r x).map fun (y,a)=>(.obj c (FX fs k y),a)
 | .at (.int i) :: r,.lst l=>(HH l.length i).bind fun j=>(l[j]?).bind fun x=>(AH f r x).map fun (y,a)=>(.lst (l.set j y),a)
 | .at k :: r,.GL d l=>(fB l k).bind fun x=>(AH f r x).map fun (y,a)=>(.GL d (dput l k y),a)
 | _,_=>none
abbrev Xx:=Env->Option (Val×Env)
@[simp] def xP (e:Ex) (U:Env):Option (Val×Env):=(e U).map fun v=>(v,U)
@[simp] noncomputable def j6 (i:Nat) (way:List Jh) (f:T->Wc->Option (T×Val)) (as:Hh) (U:Env):Option (Val×Env):=match U[i]? with
 | some (some (.ow t))=>(keys way U).bind fun ks=>(as U).bind fun xs=>(AH (fun x=>f x xs) ks t).map fun (t',v)=>(v,U.set i (some (.ow t')))
 | _=>none
@[simp] def fit (v:Val):Option T:=match v.1 with
 | .fr=>some v.2
 | _=>none
def aE:T->Wc->Option (T×Val)
 | .lst l,[v]=>(fit v).bind fun t=>if l.length < eD then some (.lst (l++[t]),(.fr,.GJ)) else none
 | _,_=>none
def dY:T->Wc->Option (T×Val)
 | .lst l,[v]=>(fit v).bind fun t=>match t with
  | .lst r=>if l.length+r.length<=eD then some (.lst (l++r),(.fr,.GJ)) else none
  | _=>none
 | _,_=>none
@[simp] def sX (x:Xx) (U:Env):Option Out:=(x U).map fun r=>.nx r.2
@[simp] def fn (np nn:Nat) (body:Sx):Fn:=fun ts=>if ts.length=np then
 (body (ts.map (fun t=>some (.pu t))++List.replicate (nn - np) none)).bind fun o=>match o with
  | .rt v _=>some v
  | .nx _=>some (.fr,.GJ)
  | _=>none else none
def g8 {m n:Md} {s t:Tx} (h:s.length+t.length<=16777216):aN (m,.str s) (n,.str t)=some (.fr,.str (s++t)):=Zq h
def jF {m n:Md} {i j:Int} (h:-18446744073709551616 < i/\i < 18446744073709551616):gy (m,.int i) (n,.int j)=some (.fr,.int (i * j)):=Zq (.inl h)
def j7 {m n:Md} {i j:Int} (h:0 < j/\j < 1073741824):jx (m,.int i) (n,.int j)=some (.fr,.int (i / j)):=Zq h
def fQ {m n:Md} {i j:Int} (h:0 < j):oMod (m,.int i) (n,.int j)=some (.fr,.int (i % j)):=Zq h
def eT {l:Wa} {t:T} (h:l.length < 16777216):aE (.lst l) [(.fr,t)]=some (.lst (l++[t]),(.fr,.GJ)):=by
 simp only [aE,fit,Zx]
 exact Zq h
def sY {l r:Wa} (h:l.length+r.length<=16777216):dY (.lst l) [(.fr,.lst r)]=some (.lst (l++r),(.fr,.GJ)):=by
 simp only [dY,fit,Zx]
 exact Zq h
def eE {a:Ex} {U:Env} {m:Md} {j:Int} (e:a U=some (m,.int j)) (h:-4611686018427387904<=j/\j < 4611686018427387904):cp a U=some (.fr,Ka 0 j.toNat):=by
 simp only [cp,e,Zx,int?]
 exact Zq h
def yY {m:Md} {l:Wa} (h:l.length<=16777216):JT m l=some (if eO l then .fr else m,.lst l):=Zq h
def iy {tg:Tg} {body:Sx} {t:T} {r:Wa} {U U1 U2:Env} (h1:tg t U=some U1) (h2:body U1=some (.nx U2)):forL tg body (t :: r) U=forL tg body r U2:=by
 simp [forL,h1,h2]
def AV {tg:Tg} {body:Sx} {t:T} {r:Wa} {U U1 U2:Env} {v:Val} (h1:tg t U=some U1) (h2:body U1=some (.rt v U2)):forL tg body (t :: r) U=some (.rt v U2):=by
 simp [forL,h1,h2]
theorem strs_map {α:Type} (f:α->Tx):∀ l:List α,strs? (l.map fun x=>T.str (f x))=some (l.map f)
 | []=>rfl
 | a :: r=>by simp [strs?,strs_map f r]
theorem ints_map {α:Type} (f:α->Int):∀ l:List α,nP (l.map fun x=>T.int (f x))=some (l.map f)
 | []=>rfl
 | a :: r=>by simp [nP,ints_map f r]
theorem mS:∀ ss:List Tx,dh [] ss=ss.flatten
 | []=>rfl
 | [x]=>by simp [dh]
 | x :: y :: r=>by
  have:=mS (y :: r)
  simp [dh] at this ⊢
  exact this
theorem nF:∀ ss:List Tx,total ss=ss.flatten.length
 | []=>rfl
 | x :: r=>by simp [total,nF r]
def lu {m n:Md} {l:Wa} {ss:List Tx} (e:strs? l=some ss) (h1:ss.flatten.length<=16777216):iY (m,.str []) [(n,.lst l)]=some (.fr,.str ss.flatten):=by
 simp only [iY,Zx,e,mS]
 refine Zq ?_
 rw [nF]
 show _<=16777216
 simpa using h1
def fS {α:Type} (l:List α):(l.map fun x=>[x]).flatten=l:=by
 induction l with
 | nil=>rfl
 | cons a r ih=>rw [Zl,ZX,ih];rfl
def gY (n:Nat):Ka 0 n=(List.range n).map fun (k:Nat)=>T.int (k:Int):=by
 unfold Ka
 simp
theorem rM {α:Type} (f:α->T) (h:∀ x,GO (f x)=true):∀ l:List α,eO (l.map f)=true
 | []=>rfl
 | a :: r=>by simp [h,rM f h r]
theorem o8 {α:Type} {tg:Tg} {elt:Ex} {U:Env} (g:α->T) (f:α->Val):∀ l:List α,(∀ a∈l,∃ U',tg (g a) U=some U'/\elt U'=some (f a))->jz tg none elt U (l.map g)=some (l.map f)
 | [],_=>rfl
 | a :: r,h=>by
  obtain ⟨U',h1,h2⟩:=h a Zu
  simp [jz,h1,h2,o8 g f r fun b hb=>h b (Zw _ hb)]
theorem kz {α:Type} {tg:Tg} {c elt:Ex} {U:Env} (g:α->T) (p:α->Bool) (f:α->Val):∀ l:List α,(∀ a∈l,∃ U' x,tg (g a) U=some U'/\c U'=some x/\Lg x.2=some (p a)/\(p a=true->elt U'=some (f a))) →
  jz tg (some c) elt U (l.map g)=some ((l.filter p).map f)
 | [],_=>rfl
 | a :: r,h=>by
  obtain ⟨U',x,h1,h2,h3,h4⟩:=h a Zu
  have ih:=kz (c:=c) g p f r fun b hb=>h b (Zw _ hb)
  cases e:p a with
  | true=>simp [-Lg,jz,h1,h2,h3,e,h4 e,ih]
  | false=>simp [-Lg,jz,h1,h2,h3,e,ih]
theorem nh {α:Type} (f:α->T):∀ l:List α,cu (l.map fun a=>(Md.fr,f a))=.fr
 | []=>rfl
 | a :: r=>by simp [nh f r]
def oV {α:Type} (f:α->Val) (l:List α):trees (l.map f)=l.map fun a=>(f a).2:=by simp
def gS {α:Type} {k:Nat} {tg:Tg} {it:JA} {elt:Ex} {U:Env} {m:Md} (g:α->T) (f:α->T) (l:List α) (hi:it U=some (m,l.map g)) (hk:PR m (l.map g)=true) (hl:l.length<=16777216)
  (h:∀ a∈l,∃ U',tg (g a) (List.replicate k none++U)=some U'/\elt U'=some (.fr,f a)):dQ k tg it none elt U=some (.fr,.lst (l.map f)):=by
 simp only [dQ,hi,Zx]
 rw [Zq hk,o8 g (fun a=>(Md.fr,f a)) l h]
 simp only [Zx,nh,oV]
 rw [yY (by rw [Zt];exact hl)]
 simp
def ka {α:Type} {k:Nat} {tg:Tg} {it:JA} {c elt:Ex} {U:Env} {m:Md} (g:α->T) (p:α->Bool) (f:α->T) (l:List α) (hi:it U=some (m,l.map g)) (hk:PR m (l.map g)=true) (hl:l.length<=16777216)
  (h:∀ a∈l,∃ U' x,tg (g a) (List.replicate k none++U)=some U'/\c U'=some x/\Lg x.2=some (p a)/\(p a=true->elt U'=some (.fr,f a))):dQ k tg it (some c) elt U=some (.fr,.lst ((l.filter p).map f)):=by
 simp only [dQ,hi,Zx]
 rw [Zq hk,kz g p (fun a=>(Md.fr,f a)) l h]
 simp only [Zx,nh,oV]
 rw [yY (by rw [Zt];exact ZG (Xw _ _) hl)]
 simp
end VS
end
section
namespace L2
open PySem PySem.Spec PyProof.Rows
abbrev Key:=Sum Int Str
def lM:Key->Value->Bool
 | .inl k,v=>Value.isInt k v
 | .inr x,v=>Value.isStrOf x v
def Gz (w:World):Key->Int
 | .inl k=>hashInt k
 | .inr x=>hashStr w x
theorem bK:∀ {k:Key} {v:Value},lM k v=true->(∃ i t,k=Sum.inl i/\v=Value.int i t)\/(∃ x t,k=Sum.inr x/\v=Value.str x t)
 | .inl i,v,h=>by
  obtain ⟨t,e⟩:=Value.isInt_shape (k:=i) (v:=v) h
  exact .inl ⟨i,t,rfl,e⟩
 | .inr x,v,h=>by
  obtain ⟨t,e⟩:=Value.isStrOf_shape (x:=x) (v:=v) h
  exact .inr ⟨x,t,rfl,e⟩
def wt (i:Int) (t:Tok):lM (.inl i) (.int i t)=true:=by simp [lM,Value.isInt]
def vX (x:Str) (t:Tok):lM (.inr x) (.str x t)=true:=by simp [lM,Value.isStrOf]
def DY (a b:Int):decide ((Sum.inl a:Key)=Sum.inl b)=(a == b):=by
 by_cases e:a=b
 ·subst e;simp
 ·have h:¬ (Sum.inl a:Key)=Sum.inl b:=fun q=>e (Sum.inl.inj q)
  rw [Za h]
  exact (ZM.mpr e).symm
def CY (a b:Str):decide ((Sum.inr a:Key)=Sum.inr b)=decide (a=b):=by
 by_cases e:a=b
 ·subst e;simp
 ·have h:¬ (Sum.inr a:Key)=Sum.inr b:=fun q=>e (Sum.inr.inj q)
  rw [Za h,Za e]
def D7 (a:Int) (b:Str):decide ((Sum.inl a:Key)=Sum.inr b)=false:=Za (fun q=>nomatch q)
def Cv (a:Str) (b:Int):decide ((Sum.inr a:Key)=Sum.inl b)=false:=Za (fun q=>nomatch q)
noncomputable def aK (prog:Program) (w:World):PySem.KeyKind prog w Key where
 is:=lM
 hash:=Gz w
 inj:=fun v a b ha hb=>by
  rcases bK ha with ⟨i,t,rfl,rfl⟩ | ⟨x,t,rfl,rfl⟩
  ·rcases bK hb with ⟨j,u,rfl,e⟩ | ⟨y,u,rfl,e⟩
   ·injection e with e1 _;rw [e1]
   ·exact nomatch e
  ·rcases bK hb with ⟨j,u,rfl,e⟩ | ⟨y,u,rfl,e⟩
   ·exact nomatch e
   ·injection e with e1 _;rw [e1]
 byValue:=fun k v h=>by
  rcases bK h with ⟨i,t,rfl,rfl⟩ | ⟨x,t,rfl,rfl⟩ <;> rfl
 pyHash:=fun hv h=>by
  rcases bK hv with ⟨i,t,rfl,rfl⟩ | ⟨x,t,rfl,rfl⟩
  ·exact wpAny_pyHash_int h
  ·exact wpAny_pyHash_str h
 eqBool:=fun hu hv h=>by
  rcases bK hu with ⟨i,t,rfl,rfl⟩ | ⟨x,t,rfl,rfl⟩
  ·rcases bK hv with ⟨j,u,rfl,rfl⟩ | ⟨y,u,rfl,rfl⟩
   ·rw [DY] at h;exact wpAny_eqBool_int h
   ·rw [D7] at h;exact SeqAt.EqAt.int_str i t y u _ _ _ _ h
  ·rcases bK hv with ⟨j,u,rfl,rfl⟩ | ⟨y,u,rfl,rfl⟩
   ·rw [Cv] at h;exact SeqAt.EqAt.str_int x t j u _ _ _ _ h
   ·rw [CY] at h;exact wpAny_eqBool_str h
 «strs» := fun k x t v h=>by
  rcases bK h with ⟨i,u,rfl,e⟩ | ⟨y,u,rfl,e⟩
  ·exact nomatch e
  ·injection e with e1 _
   subst e1
   cases v <;> rfl
def sA (prog:Program) (w:World) (i:Int) (t:Tok):(aK prog w).is (.inl i) (.int i t)=true:=wt i t
def qQ (prog:Program) (w:World) (x:Str) (t:Tok):(aK prog w).is (.inr x) (.str x t)=true:=vX x t
inductive V where
 | GJ | bl (b:Bool) | int (i:Int) | str (x:Str) | LQ (b:Array UInt8) | Mi (b:UInt64) | ref (a:Addr) | ty (n:String)
 deriving DecidableEq
def RelV:V->Value->Prop
 | .GJ,u=>u=Value.none
 | .bl b,u=>u=Value.bool b
 | .int i,u=>∃ t,u=Value.int i t
 | .str x,u=>∃ t,u=Value.str x t
 | .LQ b,u=>∃ t,u=Value.bytes b t
 | .Mi b,u=>∃ t,u=Value.float b t
 | .ref a,u=>u=Value.ref a
 | .ty n,u=>u=Value.type n
abbrev aM:List V->X8->Prop:=Paired RelV
theorem aM.length {xs:List V} {us:X8} (r:aM xs us):xs.length=us.length:=Y4 r
theorem aM.get:∀ {xs:List V} {us:X8} {i:Nat} {x:V},aM xs us->xs[i]?=some x->∃ u,us[i]?=some u/\RelV x u
 | _,_,_,_,.nil,e=>by simp at e
 | _,_,0,_,.cons r _,e=>by simp at e;subst e;exact ⟨_,rfl,r⟩
 | _,_,i+1,x,.cons _ t,e=>by
  obtain ⟨u,h1,h2⟩:=aM.get (i:=i) (x:=x) t (by simpa using e)
  exact ⟨u,by simpa using h1,h2⟩
theorem aM.set {x:V} {u:Value} (r:RelV x u):∀ {xs:List V} {us:X8} (i:Nat),aM xs us->aM (xs.set i x) (us.set i u)
 | _,_,_,.nil=>.nil
 | _,_,0,.cons _ t=>.cons r t
 | _,_,i+1,.cons q t=>.cons q (aM.set r i t)
theorem aM.append:∀ {xs ys:List V} {us ws:X8},aM xs us->aM ys ws->aM (xs++ys) (us++ws)
 | _,_,_,_,.nil,s=>s
 | _,_,_,_,.cons r t,s=>.cons r (aM.append t s)
theorem aM.take:∀ {xs:List V} {us:X8} (n:Nat),aM xs us->aM (xs.take n) (us.take n)
 | _,_,0,_=>.nil
 | _,_,_+1,.nil=>.nil
 | _,_,n+1,.cons r t=>.cons r (aM.take n t)
theorem aM.drop:∀ {xs:List V} {us:X8} (n:Nat),aM xs us->aM (xs.drop n) (us.drop n)
 | _,_,0,r=>r
 | _,_,_+1,.nil=>.nil
 | _,_,n+1,.cons _ t=>aM.drop n t
def aM.none_of:∀ {xs:List V} {us:X8} {i:Nat},aM xs us->xs[i]?=none->us[i]?=none:=fun {xs us i} r e=>by
 have h1:=r.length
 have h2:xs.length<=i:=Yo.mp e
 exact Yo.mpr (by lia)
def iH:Option V->Wq->Prop
 | some v,some u=>RelV v u
 | none,none=>True
 | _,_=>False
def KV {κ:Type}:List (κ×V)->List (κ×Value)->Prop:=Paired fun (p:κ×V) (q:κ×Value)=>p.1=q.1/\RelV p.2 q.2
def kV:Key->V
 | .inl i=>.int i
 | .inr x=>.str x
inductive HO where
 | lst (xs:List V)
 | tup (xs:List V)
 | dK (gV:List (Key×V)) | dT (gV:List (List Key×V))
 | set (S:Int->Bool) (n:Nat)
 | ins (C dx:Addr) (fs:List (Str×V))
 | own (x:Addr)
 | xd (fs:List (Str×V))
 | met (f x:Addr)
 | Ka (lo hi:Int)
 | Hv (o:Obj) (u:HO)
 | Ms (ps:Array Value)
 | ext (φ:Heap->Prop)
abbrev Hp:=Addr->Option HO
def upd (H:Hp) (a:Addr) (o:HO):Hp:=fun b=>if b=a then some o else H b
def av {H:Hp} {a:Addr} {o:HO}:upd H a o a=some o:=by unfold upd;rw [Zq rfl]
def aA {H:Hp} {a b:Addr} {o:HO} (h:b ≠ a):upd H a o b=H b:=by unfold upd;rw [Zo h]
def Bz {H:Hp} {a:Addr} {o u:HO}:upd (upd H a o) a u=upd H a u:=by
 funext b;unfold upd;split <;> rfl
def Ey {H:Hp} {a b:Addr} {o u:HO} (h:H a=some o) (h':H b=some u) (d:o ≠ u):a ≠ b:=by
 intro e;subst e;rw [h] at h';exact d (Zn h')
def cU {H:Hp} {a b:Addr} {o:HO} (h:H a=some o) (h':H b=none):a ≠ b:=by
 intro e;subst e;rw [h] at h';cases h'
def LU (h:Heap) (a:Addr):Prop:=∀ o,h.get? a=some o->o.dict=none
def LU.new (h:Heap) (p0:Array Value):LU (h.push { cls:=.type "tuple",data:=.seq p0 }) h.objs.size:=fun o e=>by
 rw [ZR _ rfl] at e
 cases e
 rfl
def LU.of {h:Heap} {a:Addr} {o:Obj} (e:h.get? a=some o) (d:o.dict=none):LU h a:=fun o' e'=>by
 rw [e] at e'
 cases e'
 exact d
section
variable (P:Program) (w:World)
noncomputable def bR (H:Hp) (h:Heap) (a:Addr):HO->Prop
 | .lst xs=>xs.length<=sizeLine/\∃ (p0:X8) (n:Nat),aM xs p0/\h.get? a=some { cls:=.type "list",data:=.seq p0.toArray n }
 | .tup xs=>xs.length<=sizeLine/\∃ p0:X8,aM xs p0/\LU h a/\IsTup h a p0.toArray
 | .dK gV=>gV.length<=sizeLine/\(a == sysModules)=false/\∃ vs,KV gV vs/\h.DictOf (aK P w) a vs
 | .dT gV=>gV.length<=sizeLine/\(a == sysModules)=false/\∃ xs:List (List Key×Addr×Value),
   Paired (fun (p:List Key×V) (q:List Key×Addr×Value)=>p.1=q.1/\H q.2.1=some (.tup (p.1.map kV))/\RelV p.2 q.2.2) gV xs ∧
   ∃ o es ep,h.get? a=some o/\o.ExactDict/\o.data=.dict es ep/\es.toList=xs.map (entryOfKey (tupleKind (aK P w)))/\(xs.map (·.1)).Nodup
 | .set S n=>h.SetOf (intKind P w) a S n
 | .ins C dx fs=>H dx=some (.own a)/\fs.length<=1000/\dx ≠ a/\h.get? a=some (PySem.W.instObj C dx) ∧
   ∃ mA,h.Ns1 dx mA/\(∀ f,iH (fs.lookup f) (mA f))/\PySem.Within mA (fs.map (·.1))
 | .own _=>∃ o,h.get? a=some o
 | .xd fs=>∃ mA,h.Ns1 a mA/\∀ f,iH (fs.lookup f) (mA f)
 | .Ka lo hi=>∃ t u v,h.get? a=some { cls:=.type "range",data:=.fields #[.int lo t,.int hi u,.int 1 v] }
 | .Hv o u=>h.get? a=some o/\bR H h a u
 | .Ms ps=>h.get? a=some { cls:=.none,data:=.fields ps }
 | .met f x=>h.get? a=some (PySem.W.methodObj (.ref f) (.ref x))
 | .ext φ=>φ h/\(∃ o,h.get? a=some o)/\∀ h1 h2:Heap,φ h1->(∀ o,h1.get? a=some o->h2.get? a=some o)->φ h2
noncomputable def HP (H:Hp) (h:Heap):Prop:=∀ a o,H a=some o->bR P w H h a o
end
section
variable {P:Program} {w:World} {H H':Hp} {h h':Heap} {a:Addr} {o:HO}
theorem bR.lt (x:bR P w H h a o):a < h.objs.size:=by
 cases o with
 | lst xs=>obtain ⟨_,_,_,_,e⟩:=x;exact ZW e
 | tup xs=>obtain ⟨_,_,_,_,p⟩:=x;exact p.lt
 | dK gV=>obtain ⟨_,_,_,_,o,_,_,e,_⟩:=x;exact ZW e
 | dT gV=>obtain ⟨_,_,_,_,o,_,_,e,_⟩:=x;exact ZW e
 | set S n=>obtain ⟨o,_,_,_,e,_⟩:=x;exact ZW e
 | ins C dx fs=>obtain ⟨_,_,_,e,_⟩:=x;exact ZW e
 | own y=>obtain ⟨_,e⟩:=x;exact ZW e
 | xd fs=>obtain ⟨_,⟨_,_,_,e,_⟩,_⟩:=x;exact ZW e
 | Ka lo hi=>obtain ⟨_,_,_,e⟩:=x;exact ZW e
 | Hv ob u=>obtain ⟨e,_⟩:=x;exact ZW e
 | Ms ps=>exact ZW (show h.get? a=some _ from x)
 | met f y=>exact ZW (show h.get? a=some _ from x)
 | ext φ=>obtain ⟨_,⟨_,e⟩,_⟩:=x;exact ZW e
theorem Paired.LH {α β:Type} {F G:α->β->Prop}:∀ {l₁:List α} {l₂:List β},Paired F l₁ l₂->(∀ a b,F a b->G a b)->Paired G l₁ l₂
 | _,_,.nil,_=>.nil
 | _,_,.cons r t,f=>.cons (f _ _ r) (Paired.LH t f)
def bR.J5 (x:bR P w H h a o) (k:∀ b u,(b=a\/H b=some (.own a))->h.get? b=some u->h'.get? b=some u)
  (ho:∀ b,H b=some (.own a)->H' b=some (.own a)) (ht:∀ b xs,H b=some (.tup xs)->H' b=some (.tup xs)):bR P w H' h' a o:=by
 induction o with
 | lst xs=>obtain ⟨z,p0,n,r,e⟩:=x;exact ⟨z,p0,n,r,k _ _ (.inl rfl) e⟩
 | tup xs=>obtain ⟨z,p0,r,nd,ob,e,c⟩:=x;exact ⟨z,p0,r,LU.of (k _ _ (.inl rfl) e) (nd _ e),ob,k _ _ (.inl rfl) e,c⟩
 | dK gV=>obtain ⟨z,y,vs,r,ob,es,ep,e,c⟩:=x;exact ⟨z,y,vs,r,ob,es,ep,k _ _ (.inl rfl) e,c⟩
 | dT gV =>
  obtain ⟨z,y,xs,r,ob,es,ep,e,c⟩:=x
  exact ⟨z,y,xs,Paired.LH r fun p q z=>⟨z.1,ht _ _ z.2.1,z.2.2⟩,ob,es,ep,k _ _ (.inl rfl) e,c⟩
 | set S n=>obtain ⟨ob,es,ep,t,e,c⟩:=x;exact ⟨ob,es,ep,t,k _ _ (.inl rfl) e,c⟩
 | ins C dx fs =>
  obtain ⟨d,z,ne,e,mA,⟨od,es,ep,e2,c⟩,r⟩:=x
  exact ⟨ho _ d,z,ne,k _ _ (.inl rfl) e,mA,⟨od,es,ep,k _ _ (.inr d) e2,c⟩,r⟩
 | own y=>obtain ⟨ob,e⟩:=x;exact ⟨ob,k _ _ (.inl rfl) e⟩
 | xd fs=>obtain ⟨mA,⟨od,es,ep,e,c⟩,r⟩:=x;exact ⟨mA,⟨od,es,ep,k _ _ (.inl rfl) e,c⟩,r⟩
 | Ka lo hi=>obtain ⟨t,u,v,e⟩:=x;exact ⟨t,u,v,k _ _ (.inl rfl) e⟩
 | Hv ob u ih=>obtain ⟨e,q⟩:=x;exact ⟨k _ _ (.inl rfl) e,ih q⟩
 | Ms ps =>
  have e:h.get? a=some { cls:=.none,data:=.fields ps }:=x
  show h'.get? a=some { cls:=.none,data:=.fields ps }
  exact k a _ (.inl rfl) e
 | met f y =>
  have e:h.get? a=some (PySem.W.methodObj (.ref f) (.ref y)):=x
  show h'.get? a=some (PySem.W.methodObj (.ref f) (.ref y))
  exact k a _ (.inl rfl) e
 | ext φ=>obtain ⟨p,⟨o,e⟩,st⟩:=x;exact ⟨st _ _ p fun o q=>k _ _ (.inl rfl) q,⟨o,k _ _ (.inl rfl) e⟩,st⟩
theorem HP.lt (x:HP P w H h) (e:H a=some o):a < h.objs.size:=(x a o e).lt
def HP.fresh (x:HP P w H h) (e:h.objs.size<=a):H a=none:=by
 cases q:H a with
 | none=>rfl
 | some u=>exact absurd (ZO (x.lt q) e) (Yh _)
def HP.kept (x:HP P w H h) (k:∀ b u,h.get? b=some u->h'.get? b=some u):HP P w H h':=fun a o e =>
 (x a o e).J5 (fun b u _ q=>k b u q) (fun _ q=>q) fun _ _ q=>q
def HP.laid (x:HP P w H h) (k:∀ b u,h.get? b=some u->h'.get? b=some u) (hp:h.objs.size<=a) (new:bR P w (upd H a o) h' a o):HP P w (upd H a o) h':=fun b u e=>by
 have hn:=x.fresh hp
 by_cases hb:b=a
 ·subst hb;rw [av] at e;cases e;exact new
 ·rw [aA hb] at e
  exact (x b u e).J5 (fun c v _ q=>k c v q) (fun c q=>by rw [aA (cU q hn)];exact q) fun c xs q=>by rw [aA (cU q hn)];exact q
end
def Rd (H:Hp) (a:Addr) (u:HO):Prop:=H a=some u\/∃ o,H a=some (.Hv o u)
def Rd.ok {P:Program} {w:World} {H:Hp} {h:Heap} {a:Addr} {u:HO} (r:Rd H a u) (x:HP P w H h):bR P w H h a u:=by
 rcases r with r | ⟨o,r⟩
 ·exact x a u r
 ·obtain ⟨_,q⟩:=x a _ r
  exact q
def GS:Option HO->Prop
 | some (.lst _)=>True
 | some (.dK _)=>True
 | some (.dT _)=>True
 | some (.set _ _)=>True
 | some (.ins _ _ _)=>True
 | some (.ext _)=>True
 | _=>False
section
variable {P:Program} {w:World} {H:Hp} {h h':Heap} {x e:Addr} {o':HO}
def HP.write (ok:HP P w H h) (mu:GS (H x)) (he:e=x\/H e=some (.own x)) (k:∀ b u,b ≠ e->h.get? b=some u->h'.get? b=some u) (Nj:∃ u,h'.get? e=some u)
  (new:bR P w (upd H x o') h' x o'):HP P w (upd H x o') h':=fun b u q=>by
 have NN:∀ c y,H c=some (.own y)->c ≠ x:=fun c y r z=>by subst z;rw [r] at mu;exact mu
 have P2:∀ c xs,H c=some (.tup xs)->c ≠ x:=fun c xs r z=>by subst z;rw [r] at mu;exact mu
 by_cases hb:b=x
 ·subst hb;rw [av] at q;cases q;exact new
 ·rw [aA hb] at q
  by_cases MM:b=e
  ·have q':H b=some (.own x):=by
    rcases he with z | z
    ·exact absurd (MM.trans z) hb
    ·rw [MM];exact z
   rw [q] at q';cases q'
   obtain ⟨v,hv⟩:=Nj
   exact ⟨v,by rw [MM];exact hv⟩
  ·refine (ok b u q).J5 (fun c v hc r=>k c v ?_ r) (fun c r=>by rw [aA (NN c b r)];exact r) fun c xs r=>by rw [aA (P2 c xs r)];exact r
   rcases hc with rfl | hc
   ·exact MM
   ·rintro rfl
    rcases he with z | z
    ·exact NN c b hc z
    ·rw [hc] at z;cases z;exact hb rfl
end
structure Un (fs ex:Xa) (H H':Hp) (h h':Heap):Prop where
 keep:∀ b o,h.get? b=some o->H b=none->b ∉ fs->b ∉ ex->h'.get? b=some o
 slot:∀ b o,h.get? b=some o->H b=none->b∈fs->b ∉ ex->∃ sl,h'.get? b=some { o with slots:=sl }
 free:∀ b o,h.get? b=some o->H b=none->b ∉ ex->H' b=none
 there:∀ b o,h.get? b=some o->b ∉ ex->∃ o',h'.get? b=some o'
 Jk:∀ b xs,H b=some (.tup xs)->H' b=some (.tup xs)
 Jb:∀ b o u,H b=some (.Hv o u)->H' b=some (.Hv o u)
 Jn:∀ b ps,H b=some (.Ms ps)->∃ more,H' b=some (.Ms (ps++more))
section
variable {fs Ih ex ex':Xa} {H H1 H2:Hp} {h h1 h2 h':Heap} {a x e:Addr} {o:HO}
def Un.any (u:Un fs ex H H1 h h1) {b:Addr} {ob:Obj} (q:h.get? b=some ob) (n:H b=none) (hx:b ∉ ex):∃ sl,h1.get? b=some { ob with slots:=sl }:=by
 by_cases hb:b∈fs
 ·exact u.slot b ob q n hb hx
 ·exact ⟨ob.slots,u.keep b ob q n hb hx⟩
def Un.kept (k:∀ b u,h.get? b=some u->h'.get? b=some u):Un fs ex H H h h' :=
 ⟨fun b ob q _ _ _=>k b ob q,fun b ob q _ _ _=>⟨ob.slots,k b ob q⟩,fun _ _ _ n _=>n,fun b ob q _=>⟨ob,k b ob q⟩,fun _ _ q=>q,fun _ _ _ q=>q,fun _ ps q=>⟨#[],by rw [q];simp⟩⟩
def Un.refl:Un fs ex H H h h:=Un.kept fun _ _ q=>q
def Un.laid (k:∀ b u,h.get? b=some u->h'.get? b=some u) (hp:h.objs.size<=a) (hn:H a=none):Un fs ex H (upd H a o) h h' where
 keep:=fun b u q _ _ _=>k b u q
 slot:=fun b u q _ _ _=>⟨u.slots,k b u q⟩
 free:=fun b u q n _=>by rw [aA (Zb (ZO (ZW q) hp))];exact n
 there:=fun b u q _=>⟨u,k b u q⟩
 Jk:=fun b xs q=>by rw [aA (cU q hn)];exact q
 Jb:=fun b u xs q=>by rw [aA (cU q hn)];exact q
 Jn:=fun b ps q=>⟨#[],by rw [aA (cU q hn),q];simp⟩
def Un.write (mu:GS (H x)) (he:e=x\/H e=some (.own x)) (k:∀ b u,b ≠ e->h.get? b=some u->h'.get? b=some u) (Nj:∃ u,h'.get? e=some u):Un fs ex H (upd H x o) h h':=by
 have hx:∀ b,H b=none->b ≠ x:=fun b n z=>by subst z;rw [n] at mu;exact mu
 have hb:∀ b,H b=none->b ≠ e:=fun b n z=>by
  subst z
  rcases he with r | r
  ·exact hx b n r
  ·rw [n] at r;cases r
 have hm:∀ b u,H b=some u->¬ GS (some u)->b ≠ x:=fun b u q nm z=>by subst z;rw [q] at mu;exact nm mu
 refine ⟨fun b u q n _ _=>k b u (hb b n) q,fun b u q n _ _=>⟨u.slots,k b u (hb b n) q⟩,fun b u q n _=>by rw [aA (hx b n)];exact n,fun b u q _=>?_,
  fun b xs q=>by rw [aA (hm b _ q fun z=>z)];exact q,fun b u xs q=>by rw [aA (hm b _ q fun z=>z)];exact q,fun b ps q=>⟨#[],by rw [aA (hm b _ q fun z=>z),q];simp⟩⟩
 by_cases MM:b=e
 ·subst MM;exact Nj
 ·exact ⟨u,k b u MM q⟩
end
def OO (h:Heap) (H:Hp):Xa:=(List.range h.objs.size).filter fun a=>(H a).isSome
def qr (h:Heap) (H:Hp):Heap:=PySem.W.hideAll h (OO h H)
def we (h:Heap) (H:Hp):(qr h H).objs.size=h.objs.size:=PySem.W.hideAll_size _ _
def yU {h:Heap} {H:Hp} {b:Addr} {o:Obj} (e:h.get? b=some o) (n:H b=none):(qr h H).get? b=some o :=
 PySem.W.hideAll_get _ e fun hm=>by
  have q:(H b).isSome=true:=(YK.mp hm).2
  rw [n] at q;simp at q
def Bt {h:Heap} {H:Hp} {b:Addr} {o:Obj} (e:(qr h H).get? b=some o):h.get? b=some o/\H b=none:=by
 have e':h.get? b=some o:=PySem.W.of_hideAll (OO h H) e
 refine ⟨e',?_⟩
 cases q:H b with
 | none=>rfl
 | some x =>
  have hm:b∈OO h H:=YK.mpr ⟨Ye.mpr (ZW e'),by simp [q]⟩
  have z:(qr h H).get? b=none:=PySem.W.hideAll_none (OO h H) hm
  rw [z] at e;cases e
def Be (g h:Heap) (L:Addr):Y1:=(List.range h.objs.size).filterMap fun a=>if a=L\/(g.get? a).isSome=true then none else (h.get? a).map fun o=>(a,o)
def rest (g h:Heap) (L d:Addr):Y1:=(Be g h L).filter fun p=>decide (p.1 ≠ d)
structure Mod (K:Xj) (mg:Xe) (base:Heap):Prop where
 NU:K.In base
 glob:base.Ns mainGlobals mg
 blt:∃ mb,base.Ns builtinsNs mb/\∀ x:Str,x ≠ "__name__" → mb x=bootBuiltins x
 nolimit:base.NoLimit
structure Cx where
 prog:Program
 w:World
 K:Xj
 mg:Xe
 base:Heap
 A:Around
 N:List Str
 s₀:Shared
 H₀:Hp
 env:Env
 outer:List Env
 stack:List Env
 ex:Xa
 fn:Str->Bool
 calm:Bool
 pn:Y1
 xe:Z2
abbrev K1 (e:Expr) (l:List Expr) (X:Cx):Prop:=starEach (e :: l) X.env=(false,eval e X.env) :: starEach l X.env
abbrev K2 (p:Pos) (l:List Expr) (X:Cx):Prop:=(backTo p (starEach l X.env)).any (·.1)=false
abbrev K3 (x:Str):Prop:=(x == ("__debug__" : Str))=false
abbrev K4 (x:Str):Prop:=(x == ("__classdict__" : Str))=false
def HQ (l:List Env):Xa:=l.filterMap (·.frame)
abbrev Cx.fs (X:Cx):Xa:=HQ X.outer
def IB (sc:Scope) (x:Str):Prop:=sc.names.lookup x=some .local\/sc.names.lookup x=some .cell\/sc.names.lookup x=some .free
def Loc (sc:Scope) (x:Str):Prop:=sc.names.lookup x=some .local\/sc.names.lookup x=some .cell
def Look (env:Env) (h:Heap) (m:Xe) (x:Str) (u:Value):Prop :=
 (env.kindOf x=some .local/\m x=some u)\/((env.kindOf x=some .cell\/env.kindOf x=some .free)/\∃ c,env.cells.lookup x=some c/\h.IsCell c (some u))
structure Cx.Ok (X:Cx):Prop where
 mod:Mod X.K X.mg X.base
 kind:X.env.scope.kind=.function
 glob:X.env.globals=mainGlobals
 blt:X.env.builtins=builtinsNs
 above:X.s₀.heap.objs.size<=X.env.locals
 inj:∀ x y c,X.env.cells.lookup x=some c->X.env.cells.lookup y=some c->x=y
 has:∀ x,(X.env.kindOf x=some .cell\/X.env.kindOf x=some .free)->∃ c,X.env.cells.lookup x=some c
 Oz:∀ x c,X.fn x=true->X.env.cells.lookup x=some c->X.s₀.heap.objs.size<=c
 hd:X.calm=true->X.A.handled=none
 frames:X.A.frames=some X.stack
 OT:X.stack=X.outer\/(X.stack=X.env :: X.outer/\X.env.frame=some X.env.locals)
 TQ:∀ b∈X.ex,b ≠ X.env.locals/\∀ x c,X.env.cells.lookup x=some c->c ≠ b
 bs:∀ b o,X.base.get? b=some o->X.s₀.heap.get? b=some o/\X.H₀ b=none
 bsz:X.base.objs.size<=X.s₀.heap.objs.size
 KQ:∀ b o,X.base.get? b=some o->b ∉ X.ex
 LN:∀ b∈X.ex,b ∉ X.fs
 funs:X.s₀.heap.FunFrames X.base X.outer
 frf:∀ b∈X.fs,X.H₀ b=none
structure Inv (X:Cx) (pins:Y1) (J:List (Option V)) (H:Hp) (s:Shared):Prop where
 ok:X.Ok
 os:s.os=X.s₀.os
 bare:AllBare s.gens
 base:Un X.fs X.ex X.H₀ H X.s₀.heap s.heap
 loc:∃ m,s.heap.Ns X.env.locals m/\∀ (i:Nat) (x:Str) (v:V),X.N[i]?=some x->J[i]?=some (some v)->IB X.env.scope x->∃ u,RelV v u/\Look X.env s.heap m x u
 cell:∀ x c,X.env.cells.lookup x=some c->∃ v,s.heap.IsCell c v
 free:H X.env.locals=none
 HK:∀ x c,X.env.cells.lookup x=some c->H c=none
 pin:∀ p∈X.pn++pins,s.heap.get? p.1=some p.2/\H p.1=none/\p.1 ≠ X.env.locals/\p.1 ∉ X.fs/\∀ v,p.2.data ≠ .cell v
 hok:HP X.prog X.w H s.heap
 len:J.length=X.N.length
section
variable {X:Cx} {pins:Y1} {J:List (Option V)} {H H':Hp} {s:Shared} {h':Heap}
def Cx.Ok.P6 (ok:X.Ok) {b:Addr} {o:Obj} (e:X.base.get? b=some o):b ∉ X.fs:=fun hb=>by
 have:=(ok.funs.mem hb).1
 rw [e] at this;cases this
theorem Inv.bs (I:Inv X pins J H s):∀ b o,X.base.get? b=some o->s.heap.get? b=some o/\H b=none:=fun b o e =>
 ⟨I.base.keep b o (I.ok.bs b o e).1 (I.ok.bs b o e).2 (I.ok.P6 e) (I.ok.KQ b o e),I.base.free b o (I.ok.bs b o e).1 (I.ok.bs b o e).2 (I.ok.KQ b o e)⟩
def Inv.bk (I:Inv X pins J H s):∀ b o,X.base.get? b=some o->s.heap.get? b=some o:=fun b o e=>(I.bs b o e).1
theorem Inv.mod (I:Inv X pins J H s):Mod X.K X.mg X.base:=I.ok.mod
def Inv.Ib (I:Inv X pins J H s):X.K.In s.heap:=I.ok.mod.NU.keeps I.bk
theorem Inv.lt (I:Inv X pins J H s):X.env.locals < s.heap.objs.size:=let ⟨_,hn,_⟩:=I.loc;hn.lt
def Inv.sz (I:Inv X pins J H s):X.s₀.heap.objs.size<=s.heap.objs.size:=ZG I.ok.above (XU I.lt)
def Inv.P5 (I:Inv X pins J H s) {a:Addr} (h:s.heap.objs.size<=a):a ∉ X.fs:=fun hb=>by
 obtain ⟨_,o,ho,_⟩:=I.ok.funs.mem hb
 exact absurd (ZO (ZW ho) (ZG I.sz h)) (Yh _)
def Inv.MS (I:Inv X pins J H s):∀ x c,X.env.cells.lookup x=some c->c ≠ X.env.locals:=fun x c e z=>by
 obtain ⟨v,o,ho,hd⟩:=I.cell x c e
 obtain ⟨m,⟨o',es,ep,Ju,MK,_⟩,_⟩:=I.loc
 rw [z,Ju] at ho;cases ho;rw [MK] at hd;cases hd
theorem Inv.funs (I:Inv X pins J H s):s.heap.FunFrames X.base X.outer:=by
 have all:∀ (l:List Env),(∀ b∈HQ l,b∈X.fs)->X.s₀.heap.FunFrames X.base l->s.heap.FunFrames X.base l:=by
  intro l
  induction l with
  | nil=>intro _ _;trivial
  | cons env r ih =>
   intro hs hl
   obtain ⟨hk,⟨L,o,hf,hn,ho,hd⟩,hr⟩:=hl
   have hL:L∈X.fs:=hs L (by unfold HQ;rw [XB,hf];exact Zu)
   obtain ⟨sl,e⟩:=I.base.slot L o ho (I.ok.frf L hL) hL fun z=>I.ok.LN L z hL
   exact ⟨hk,⟨L,_,hf,hn,e,hd⟩,ih (fun b hb=>hs b (by unfold HQ;rw [XB,hf];exact Zw _ hb)) hr⟩
 exact all X.outer (fun _ hb=>hb) I.ok.funs
theorem Inv.stack (I:Inv X pins J H s):s.heap.FunFrames X.base X.stack:=by
 rcases I.ok.OT with e | ⟨e,hf⟩
 ·rw [e];exact I.funs
 ·rw [e]
  obtain ⟨m,hn,_⟩:=I.loc
  refine .cons (by rw [I.ok.kind];decide) hf hn ?_ I.funs
  exact Heap.get?_none_of_le (ZG I.ok.bsz I.ok.above)
def Inv.IT (I:Inv X pins J H s):∀ b∈HQ X.stack,b∈X.env.locals :: X.fs:=fun b hb=>by
 rcases I.ok.OT with e | ⟨e,hf⟩
 ·rw [e] at hb;exact Zw _ hb
 ·rw [e] at hb
  unfold HQ at hb
  rw [XB,hf] at hb
  exact hb
def Inv.JQ (I:Inv X pins J H s):∀ b∈HQ X.stack,H b=none:=fun b hb=>by
 rcases Zj.mp (I.IT b hb) with e | hb
 ·rw [e];exact I.free
 ·obtain ⟨_,o,ho,_⟩:=I.ok.funs.mem hb
  exact I.base.free b o ho (I.ok.frf b hb) fun z=>I.ok.LN b z hb
def Inv.step {g':Array GenState} {t':Nat} {d':Drawn} {ch:Xa} (I:Inv X pins J H s)
  (Ln:∀ b∈ch,(b∈X.ex\/X.s₀.heap.objs.size<=b)/\b ≠ X.env.locals/\(∀ x c,X.env.cells.lookup x=some c->c ≠ b)/\∀ p∈X.pn++pins,p.1 ≠ b)
  (keep:∀ b o,b ≠ X.env.locals->b ∉ X.fs->b ∉ ch->s.heap.get? b=some o->H b=none->h'.get? b=some o)
  (slot:∀ b o,b ≠ X.env.locals->b∈X.fs->b ∉ ch->s.heap.get? b=some o->H b=none->∃ sl,h'.get? b=some { o with slots:=sl }) (free:∀ b o,b ∉ ch->s.heap.get? b=some o->H b=none->H' b=none)
  (there:∀ b o,b ∉ ch->s.heap.get? b=some o->∃ o',h'.get? b=some o')
  (Jk:∀ b xs,H b=some (.tup xs)->H' b=some (.tup xs)) (Jb:∀ b o u,H b=some (.Hv o u)->H' b=some (.Hv o u)) (Jn:∀ b ps,H b=some (.Ms ps)->∃ more,H' b=some (.Ms (ps++more)))
  (ns:∀ m,s.heap.Ns X.env.locals m->h'.Ns X.env.locals m) (hok:HP X.prog X.w H' h') (hg:AllBare g') :
  Inv X pins J H' { s with heap:=h',gens:=g',drawn:=d',toks:=t' }:=by
 have Sz:∀ b o,X.s₀.heap.get? b=some o->b ≠ X.env.locals:=fun b o e=>Zb (ZO (ZW e) I.ok.above)
 have O4:∀ b o,X.s₀.heap.get? b=some o->b ∉ X.ex->b ∉ ch:=fun b o e hx hb=>by
  rcases (Ln b hb).1 with z | z
  ·exact hx z
  ·exact absurd (ZO (ZW e) z) (Yh _)
 have cellK:∀ x c,X.env.cells.lookup x=some c->∀ v,s.heap.IsCell c v->h'.IsCell c v:=fun x c e v ⟨o,ho,hd⟩=>by
  have NQ:c ∉ ch:=fun z=>(Ln c z).2.2.1 x c e rfl
  by_cases hc:c∈X.fs
  ·obtain ⟨sl,q⟩:=slot c o (I.MS x c e) hc NQ ho (I.HK x c e)
   exact ⟨_,q,hd⟩
  ·exact ⟨o,keep c o (I.MS x c e) hc NQ ho (I.HK x c e),hd⟩
 refine ⟨I.ok,I.os,hg,⟨fun b o e n hb hx=>?_,fun b o e n hb hx=>?_,fun b o e n hx=>?_,fun b o e hx=>?_,fun b xs e=>Jk b xs (I.base.Jk b xs e),fun b o xs e=>Jb b o xs (I.base.Jb b o xs e),fun b ps e=>?_⟩,?_,fun x c e=>?_,?_,fun x c e=>?_,fun p hp=>?_,hok,I.len⟩
 ·exact keep b o (Sz b o e) hb (O4 b o e hx) (I.base.keep b o e n hb hx) (I.base.free b o e n hx)
 ·obtain ⟨sl,e1⟩:=I.base.slot b o e n hb hx
  obtain ⟨Us,e2⟩:=slot b _ (Sz b o e) hb (O4 b o e hx) e1 (I.base.free b o e n hx)
  exact ⟨Us,e2⟩
 ·obtain ⟨o',e1⟩:=I.base.there b o e hx
  exact free b o' (O4 b o e hx) e1 (I.base.free b o e n hx)
 ·obtain ⟨o',e1⟩:=I.base.there b o e hx
  exact there b o' (O4 b o e hx) e1
 ·obtain ⟨m1,e1⟩:=I.base.Jn b ps e
  obtain ⟨m2,e2⟩:=Jn b _ e1
  exact ⟨m1++m2,by rw [e2,Array.append_assoc]⟩
 ·obtain ⟨m,hn,hl⟩:=I.loc
  refine ⟨m,ns m hn,fun i x v e1 e2 e3=>?_⟩
  obtain ⟨u,r,l⟩:=hl i x v e1 e2 e3
  refine ⟨u,r,?_⟩
  rcases l with l | ⟨k,c,e,z⟩
  ·exact .inl l
  ·exact .inr ⟨k,c,e,cellK x c e _ z⟩
 ·obtain ⟨v,z⟩:=I.cell x c e
  exact ⟨v,cellK x c e v z⟩
 ·obtain ⟨m,⟨o,_,_,ho,_⟩,_⟩:=I.loc
  exact free _ o (fun z=>(Ln _ z).2.1 rfl) ho I.free
 ·obtain ⟨v,o,ho,hd⟩:=I.cell x c e
  exact free c o (fun z=>(Ln c z).2.2.1 x c e rfl) ho (I.HK x c e)
 ·obtain ⟨e,n,ne,nf,d⟩:=I.pin p hp
  have NQ:p.1 ∉ ch:=fun z=>(Ln p.1 z).2.2.2 p hp rfl
  exact ⟨keep p.1 p.2 ne nf NQ e n,free p.1 p.2 NQ e n,ne,nf,d⟩
def Inv.un {t':Nat} (I:Inv X pins J H s) (u:Un X.fs [] H H' s.heap h') (hok:HP X.prog X.w H' h'):Inv X pins J H' { s with heap:=h',toks:=t' }:=by
 obtain ⟨m,⟨o,es,ep,ho,r⟩,_⟩:=id I.loc
 obtain ⟨sl,hL⟩:=u.any ho I.free (by simp)
 exact I.step (g':=s.gens) (d':=s.drawn) (ch:=[]) (fun _ z=>nomatch z) (fun b o _ hb _ e n=>u.keep b o e n hb (by simp)) (fun b o _ hb _ e n=>u.slot b o e n hb (by simp)) (fun b o _ e n=>u.free b o e n (by simp)) (fun b o _ e=>u.there b o e (by simp)) u.Jk u.Jb u.Jn (fun m' hm=>by
  obtain ⟨o',LO,RR,Ju,r'⟩:=hm
  rw [ho] at Ju;cases Ju
  exact ⟨_,LO,RR,hL,r'⟩) hok I.bare
def Inv.call {g':Array GenState} {t':Nat} {d':Drawn} {ch:Xa} (I:Inv X pins J H s) (u:Un (HQ X.stack) ch H H' s.heap h') (hok:HP X.prog X.w H' h') (hg:AllBare g')
  (Ln:∀ b∈ch,(b∈X.ex\/X.s₀.heap.objs.size<=b)/\b ≠ X.env.locals/\(∀ x c,X.env.cells.lookup x=some c->c ≠ b)/\∀ p∈X.pn++pins,p.1 ≠ b) :
  Inv X pins J H' { s with heap:=h',gens:=g',drawn:=d',toks:=t' }:=by
 obtain ⟨m,⟨o,es,ep,ho,r⟩,_⟩:=id I.loc
 obtain ⟨sl,hL⟩:=u.any ho I.free fun z=>(Ln _ z).2.1 rfl
 exact I.step (ch:=ch) Ln (fun b o hL hb hc e n=>u.keep b o e n (fun z=>(Zj.mp (I.IT b z)).elim hL hb) hc) (fun b o _ _ hc e n=>u.any e n hc) (fun b o hc e n=>u.free b o e n hc) (fun b o hc e=>u.there b o e hc) u.Jk u.Jb u.Jn (fun m' hm=>by
  obtain ⟨o',LO,RR,Ju,r'⟩:=hm
  rw [ho] at Ju;cases Ju
  exact ⟨_,LO,RR,hL,r'⟩) hok hg
def Inv.turned {t':Nat} {it:Addr} (I:Inv X pins J H s) (k:∀ b o,b ≠ it->s.heap.get? b=some o->h'.get? b=some o) (hn:H it=none) (hL:it ≠ X.env.locals)
  (h1:it∈X.ex\/X.s₀.heap.objs.size<=it) (h2:∀ x c,X.env.cells.lookup x=some c->c ≠ it) (h3:∀ p∈X.pn++pins,p.1 ≠ it):Inv X pins J H { s with heap:=h',toks:=t' }:=by
 have Sw:∀ b u,H b=some u->b ≠ it:=fun b u e z=>by rw [z,hn] at e;cases e
 refine I.step (g':=s.gens) (d':=s.drawn) (ch:=[it]) (fun b hb=>?_) (fun b o _ _ hc e _=>k b o (fun z=>hc (by simp [z])) e) (fun b o _ _ hc e _=>⟨o.slots,k b o (fun z=>hc (by simp [z])) e⟩) (fun _ _ _ _ n=>n)
  (fun b o hc e=>⟨o,k b o (fun z=>hc (by simp [z])) e⟩) (fun _ _ e=>e) (fun _ _ _ e=>e) (fun b ps e=>⟨#[],by rw [e];simp⟩) (fun m hm=>?_) (fun b u e=>?_) I.bare
 ·have e:b=it:=by simpa using hb
  subst e
  exact ⟨h1,hL,h2,h3⟩
 ·obtain ⟨o,es,ep,ho,r⟩:=hm
  exact ⟨o,es,ep,k _ o (Ya hL) ho,r⟩
 ·refine (I.hok b u e).J5 (fun c v hc q=>k c v ?_ q) (fun _ q=>q) fun _ _ q=>q
  rcases hc with z | z
  ·rw [z];exact Sw b u e
  ·exact Sw c _ z
def Inv.tok (I:Inv X pins J H s) (t:Nat):Inv X pins J H { s with toks:=t }:=I.un (h':=s.heap) (t':=t) Un.refl I.hok
theorem Inv.kept {t':Nat} (I:Inv X pins J H s) (k:∀ b u,s.heap.get? b=some u->h'.get? b=some u):Inv X pins J H { s with heap:=h',toks:=t' }:=I.un (Un.kept k) (I.hok.kept k)
theorem Inv.laid {a:Addr} {o:HO} {t':Nat} (I:Inv X pins J H s) (k:∀ b u,s.heap.get? b=some u->h'.get? b=some u) (hp:s.heap.objs.size<=a) (new:bR X.prog X.w (upd H a o) h' a o) :
  Inv X pins J (upd H a o) { s with heap:=h',toks:=t' }:=I.un (Un.laid k hp (I.hok.fresh hp)) (I.hok.laid k hp new)
theorem Inv.write {x e:Addr} {o:HO} {t':Nat} (I:Inv X pins J H s) (mu:GS (H x)) (he:e=x\/H e=some (.own x)) (k:∀ b u,b ≠ e->s.heap.get? b=some u->h'.get? b=some u) (Nj:∃ u,h'.get? e=some u)
  (new:bR X.prog X.w (upd H x o) h' x o):Inv X pins J (upd H x o) { s with heap:=h',toks:=t' }:=I.un (Un.write mu he k Nj) (I.hok.write mu he k Nj new)
def Inv.JS {L1:Y1} (I:Inv X pins J H s) (h:∀ p∈L1,s.heap.get? p.1=some p.2/\H p.1=none/\p.1 ≠ X.env.locals/\p.1 ∉ X.fs/\∀ v,p.2.data ≠ .cell v):Inv X L1 J H s :=
 ⟨I.ok,I.os,I.bare,I.base,I.loc,I.cell,I.free,I.HK,fun p hp=>(Zc.mp hp).elim (fun z=>I.pin p (Yx _ z)) (h p),I.hok,I.len⟩
def q9 {N:List Str} (hN:N.Nodup) {i j:Nat} {x:Str} (a:N[i]?=some x) (b:N[j]?=some x):i=j:=by
 obtain ⟨h1,e1⟩:=Zg.mp a
 obtain ⟨h2,e2⟩:=Zg.mp b
 exact (List.getElem_inj hN).mp (e1.trans e2.symm)
def oN {Mq:Model} {A:Around} {E:Z2} {i:Nat} {x:Str} {v:V} {u:Value} {Q:Unit->Shared->Prop} (I:Inv X pins J H s) (hN:X.N.Nodup) (hi:X.N[i]?=some x) (hx:Loc X.env.scope x) (r:RelV v u)
  (h:∀ s',Inv X pins (J.set i (some v)) H s'->(∃ a,Heap.SameBut a s.heap s'.heap/\(a=X.env.locals\/X.env.cells.lookup x=some a))->Q () s') (hf:X.fn x=true\/X.env.scope.names.lookup x=some .local:=by first | exact .inl rfl | exact .inr rfl | assumption):wpAny Mq A (storeName X.env x u) Q E s:=by
 obtain ⟨m,hn,hl⟩:=id I.loc
 have Rh:(X.env.scope.kind == .class || (X.env.scope.kind == .module && X.env.locals != X.env.globals))=false:=by rw [I.ok.kind];rfl
 have SY:i < J.length:=by rw [I.len];exact (Zg.mp hi).1
 have MS:=I.MS
 have tracked:∀ {a:Addr} {h':Heap},(∃ o,s.heap.get? a=some o/\H a=none)->Heap.SameBut a s.heap h'->HP X.prog X.w H h':=fun {a h'} ha hs b ob e=>by
  obtain ⟨_,_,Mb⟩:=ha
  refine (I.hok b ob e).J5 (fun c w' hc q=>(hs.2 c ?_).trans q) (fun _ q=>q) fun _ _ q=>q
  rintro rfl
  rcases hc with rfl | hc
  ·rw [Mb] at e;cases e
  ·rw [Mb] at hc;cases hc
 rcases hx with hk | hk
 ·refine wpAny_storeName_local hk hn (fun h' Vi hs=>?_) Rh
  obtain ⟨oL,_,_,N2,_⟩:=id hn
  refine h _ ⟨I.ok,I.os,I.bare,⟨fun b o e n hb hx=>?_,fun b o e n hb hx=>?_,I.base.free,fun b o e hx=>?_,I.base.Jk,I.base.Jb,I.base.Jn⟩,⟨_,Vi,fun j y v' e1 e2 e3=>?_⟩,fun y c e=>?_,I.free,I.HK,fun p hp=>?_,tracked ⟨oL,N2,I.free⟩ hs,by simpa using I.len⟩ ⟨_,hs,.inl rfl⟩
  ·exact (hs.2 b (Zb (ZO (ZW e) I.ok.above))).trans (I.base.keep b o e n hb hx)
  ·obtain ⟨sl,e1⟩:=I.base.slot b o e n hb hx
   exact ⟨sl,(hs.2 b (Zb (ZO (ZW e) I.ok.above))).trans e1⟩
  ·obtain ⟨o',e1⟩:=I.base.there b o e hx
   exact ⟨o',(hs.2 b (Zb (ZO (ZW e) I.ok.above))).trans e1⟩
  ·by_cases hj:j=i
   ·subst hj
    rw [hi] at e1;cases e1
    rw [Y5 SY] at e2
    cases e2
    exact ⟨u,r,.inl ⟨hk,by simp⟩⟩
   ·rw [Yr (Ya hj)] at e2
    obtain ⟨u',r',q⟩:=hl j y v' e1 e2 e3
    refine ⟨u',r',?_⟩
    rcases q with ⟨k,e⟩ | ⟨k,c,e,z⟩
    ·refine .inl ⟨k,?_⟩
     have:y ≠ x:=fun e=>hj (q9 hN e1 (e ▸ hi))
     simp [this,e]
    ·exact .inr ⟨k,c,e,z.sameBut hs (MS y c e)⟩
  ·obtain ⟨w',z⟩:=I.cell y c e
   exact ⟨w',z.sameBut hs (MS y c e)⟩
  ·obtain ⟨e,n,ne,nf,d⟩:=I.pin p hp
   exact ⟨(hs.2 p.1 ne).trans e,n,ne,nf,d⟩
 ·have N8:X.fn x=true:=by
   rcases hf with z | z
   ·exact z
   ·rw [z] at hk;cases hk
  obtain ⟨c,hc⟩:=I.ok.has x (.inl hk)
  obtain ⟨w',z⟩:=I.cell x c hc
  refine wpAny_storeName_cell I.ok.kind hk hc z (fun h' HX hs=>?_)
  obtain ⟨oc,SS,QK⟩:=id z
  refine h { s with heap:=h' } ⟨I.ok,I.os,I.bare,⟨fun b o e n hb hx=>?_,fun b o e n hb hx=>?_,I.base.free,fun b o e hx=>?_,I.base.Jk,I.base.Jb,I.base.Jn⟩,⟨m,hn.sameBut hs (Ya (MS x c hc)),fun j y v' e1 e2 e3=>?_⟩,fun y c' e=>?_,I.free,I.HK,fun p hp=>?_,tracked ⟨oc,SS,I.HK x c hc⟩ hs,by simpa using I.len⟩ ⟨c,hs,.inr hc⟩
  ·exact (hs.2 b (Zb (ZO (ZW e) (I.ok.Oz x c N8 hc)))).trans (I.base.keep b o e n hb hx)
  ·obtain ⟨sl,e1⟩:=I.base.slot b o e n hb hx
   exact ⟨sl,(hs.2 b (Zb (ZO (ZW e) (I.ok.Oz x c N8 hc)))).trans e1⟩
  ·obtain ⟨o',e1⟩:=I.base.there b o e hx
   exact ⟨o',(hs.2 b (Zb (ZO (ZW e) (I.ok.Oz x c N8 hc)))).trans e1⟩
  ·by_cases hj:j=i
   ·subst hj
    rw [hi] at e1;cases e1
    rw [Y5 SY] at e2
    cases e2
    exact ⟨u,r,.inr ⟨.inl hk,c,hc,HX⟩⟩
   ·rw [Yr (Ya hj)] at e2
    obtain ⟨u',r',q⟩:=hl j y v' e1 e2 e3
    refine ⟨u',r',?_⟩
    rcases q with q | ⟨k,c',e,z'⟩
    ·exact .inl q
    ·refine .inr ⟨k,c',e,z'.sameBut hs ?_⟩
     rintro rfl
     exact hj (q9 hN e1 (I.ok.inj _ _ _ e hc ▸ hi))
  ·by_cases Pc:c'=c
   ·subst Pc;exact ⟨_,HX⟩
   ·obtain ⟨w2,z2⟩:=I.cell y c' e
    exact ⟨w2,z2.sameBut hs Pc⟩
  ·obtain ⟨e,n,ne,nf,d⟩:=I.pin p hp
   refine ⟨(hs.2 p.1 ?_).trans e,n,ne,nf,d⟩
   intro q
   rw [q,SS] at e
   have q':oc=p.2:=Zn e
   exact d w' (by rw [← q'];exact QK)
def qE {Mq:Model} {A:Around} {E:Z2} {i:Nat} {x:Str} {v:V} {u:Value} {Q:Unit->Shared->Prop} (I:Inv X pins J H s) (hN:X.N.Nodup) (hi:X.N[i]?=some x) (hx:Loc X.env.scope x) (r:RelV v u)
  (h:∀ s',Inv X pins (J.set i (some v)) H s'->Q () s') (hf:X.fn x=true\/X.env.scope.names.lookup x=some .local:=by first | exact .inl rfl | exact .inr rfl | assumption):wpAny Mq A (storeName X.env x u) Q E s :=
 oN I hN hi hx r (fun s' I' _=>h s' I') hf
def Inv.Oy {s':Shared} {ch:Xa} (I:Inv X pins J H s) (ho:s'.os=s.os) (u:Un (HQ X.stack) ch H H' s.heap s'.heap) (hok:HP X.prog X.w H' s'.heap) (hg:AllBare s'.gens)
  (Ln:∀ b∈ch,(b∈X.ex\/X.s₀.heap.objs.size<=b)/\b ≠ X.env.locals/\(∀ x c,X.env.cells.lookup x=some c->c ≠ b)/\∀ p∈X.pn++pins,p.1 ≠ b):Inv X pins J H' s':=by
 obtain ⟨h',g',d',t',o'⟩:=s'
 have e:o'=s.os:=ho
 subst e
 exact I.call (g':=g') (t':=t') (d':=d') u hok hg Ln
end
abbrev XK:=Value->Option Addr->Hp->Prop
abbrev St:=List (Option V)
abbrev VK:=V->Hp->Prop
abbrev TE:=St->Hp->VK->Prop
abbrev TT:=St->Hp->(Bool->Hp->Prop)->Prop
abbrev TA:=St->Hp->(List V->Hp->Prop)->Prop
structure Ends where
 nx:St->Hp->Prop
 rt:VK
 bk:St->Hp->Prop:=fun _ _=>False
 ct:St->Hp->Prop:=fun _ _=>False
abbrev TS:=Ends->St->Hp->Prop
def EP (X:Cx) (pins:Y1) (J:St) (Q:VK) (u:Value) (s':Shared):Prop:=∃ v H',Inv X pins J H' s'/\RelV v u/\Q v H'
def TP (X:Cx) (pins:Y1) (J:St) (Q:Bool->Hp->Prop) (b:Bool) (s':Shared):Prop:=∃ H',Inv X pins J H' s'/\Q b H'
def AP (X:Cx) (pins:Y1) (J:St) (Q:List V->Hp->Prop) (us:X8) (s':Shared):Prop:=∃ vs H',Inv X pins J H' s'/\aM vs us/\Q vs H'
def SP (X:Cx) (pins:Y1) (D:Ends) (f:Flow) (s':Shared):Prop :=
 match f with
 | .next=>∃ J' H',Inv X pins J' H' s'/\D.nx J' H'
 | .brk=>∃ J' H',Inv X pins J' H' s'/\D.bk J' H'
 | .cont=>∃ J' H',Inv X pins J' H' s'/\D.ct J' H'
 | .ret u=>∃ v J' H',Inv X pins J' H' s'/\RelV v u/\D.rt v H'
def PE (X:Cx) (e:Expr) (t:TE):Prop :=
 ∀ (pins:Y1) (s:Shared) (J:St) (H:Hp) (Q:VK),Inv X pins J H s->t J H Q->wpAny (model X.prog X.w) X.A (eval e X.env) (EP X pins J Q) X.xe s
def PT (X:Cx) (e:Expr) (t:TT):Prop :=
 ∀ (pins:Y1) (s:Shared) (J:St) (H:Hp) (Q:Bool->Hp->Prop),Inv X pins J H s->t J H Q->wpAny (model X.prog X.w) X.A (isTrue e X.env (eval e X.env)) (TP X pins J Q) X.xe s
def PW (X:Cx) (e:Expr) (t:TT):Prop :=
 ∀ (whole:Sem Value) (pins:Y1) (s:Shared) (J:St) (H:Hp) (Q:Bool->Hp->Prop),Inv X pins J H s->t J H Q->wpAny (model X.prog X.w) X.A (isTrue e X.env whole) (TP X pins J Q) X.xe s
def PW.pt {X:Cx} {e:Expr} {t:TT} (h:PW X e t):PT X e t:=h _
def PA (X:Cx) (es:List Expr) (t:TA):Prop :=
 ∀ (pos:Pos) (pins:Y1) (s:Shared) (J:St) (H:Hp) (Q:List V->Hp->Prop),Inv X pins J H s->t J H Q->wpAny (model X.prog X.w) X.A (spliced (backTo pos (starEach es X.env))) (AP X pins J Q) X.xe s
def PS (X:Cx) (st:Stmt) (t:TS):Prop :=
 ∀ (pins:Y1) (s:Shared) (J:St) (H:Hp) (D:Ends),Inv X pins J H s->t D J H->wpAny (model X.prog X.w) X.A (exec st X.env) (SP X pins D) X.xe s
def IC (X:Cx) (st:List Stmt) (t:TS):Prop :=
 ∀ (pins:Y1) (s:Shared) (J:St) (H:Hp) (D:Ends),Inv X pins J H s->t D J H->wpAny (model X.prog X.w) X.A (execs st X.env) (SP X pins D) X.xe s
def thn {α:Type} {t:Sem α} {Q Q':α->Shared->Prop} {Mq:Model} {A:Around} {E:Z2} {s:Shared} (h:wpAny Mq A t Q E s) (hQ:∀ a s,Q a s->Q' a s):wpAny Mq A t Q' E s:=YN h hQ fun _ _ x=>x
section
variable {X:Cx}
def Gh (i:Nat):TE:=fun J H Q=>∃ v,J[i]?=some (some v)/\Q v H
def tC (v:V):TE:=fun _ H Q=>Q v H
def fK {i:Nat} {x:Str} {pos:Pos} (hN:X.N[i]?=some x) (hv:IB X.env.scope x) (hd:K3 x:=by decide) (hcd:K4 x:=by decide):PE X (.Name x pos) (Gh i):=by
 intro pins s J H Q I h
 obtain ⟨v,e,h⟩:=h
 obtain ⟨m,hn,hl⟩:=I.loc
 obtain ⟨u,r,l⟩:=hl i x v hN e hv
 have fin:EP X pins J Q u s:=⟨v,H,I,r,h⟩
 rcases l with ⟨hk,hm⟩ | ⟨hk,c,hc,IK⟩
 ·exact wpAny_Name (wpAny_loadName_local I.ok.kind hk hn hm fin) hd
 ·rcases hk with hk | hk
  ·exact wpAny_Name (wpAny_loadName_cell I.ok.kind hk hc IK fin) hd
  ·exact wpAny_Name (wpAny_loadName_free I.ok.kind hk hc IK fin hcd) hd
def qx {i j pos}:PE X (.Constant (.int i) j pos) (tC (.int i)):=fun _ _ _ H _ I h=>wpAny_Constant_int ⟨.int i,H,I.tok _,⟨_,rfl⟩,h⟩
def Ei {b j pos}:PE X (.Constant (.bool b) j pos) (tC (.bl b)):=fun _ _ _ H _ I h=>Constant_bool ⟨.bl b,H,I,rfl,h⟩
def Do {j pos}:PE X (.Constant .none j pos) (tC .GJ):=fun _ _ _ H _ I h=>Constant_none ⟨.GJ,H,I,rfl,h⟩
def Dn {x j pos}:PE X (.Constant (.str x) j pos) (tC (.str x)):=fun _ _ _ H _ I h=>Calls.Constant_str ⟨.str x,H,I.tok _,⟨_,rfl⟩,h⟩
def Gl (X:Cx) (x:Str):Prop:=X.env.kindOf x=some .globalImplicit
def mG {E:Z2} {pins:Y1} {s:Shared} {J:St} {H:Hp} {x:Str} {u:Value} {pos:Pos} {Q:Z2} (I:Inv X pins J H s) (hg:Gl X x) (hm:X.mg x=some u) (h:Q u s)
  (hd:K3 x:=by decide):wpAny (model X.prog X.w) X.A (eval (.Name x pos) X.env) Q E s :=
 Calls.Name_function_global I.ok.kind hg (Calls.loadGlobal_global (by rw [I.ok.glob];exact I.mod.glob.keeps I.bk) hm h) hd
def kY {E:Z2} {pins:Y1} {s:Shared} {J:St} {H:Hp} {x:Str} {u:Value} {pos:Pos} {Q:Z2} (I:Inv X pins J H s) (hg:Gl X x) (hm:X.mg x=none) (hv:bootBuiltins x=some u) (h:Q u s)
  (hn:x ≠ "__name__" := by decide) (hd:K3 x:=by decide):wpAny (model X.prog X.w) X.A (eval (.Name x pos) X.env) Q E s:=by
 obtain ⟨mb,h1,h2⟩:=I.mod.blt
 exact Calls.Name_function_global I.ok.kind hg (Calls.loadGlobal_builtin (by rw [I.ok.glob];exact I.mod.glob.keeps I.bk) hm (by rw [I.ok.blt];exact h1.keeps I.bk) ((h2 x hn).trans hv) h) hd
def Bv {x:Str} {v:V} {u:Value} {pos:Pos} (hg:Gl X x) (hm:X.mg x=some u) (r:RelV v u) (hd:K3 x:=by decide):PE X (.Name x pos) (tC v) :=
 fun _ _ _ H _ I h=>mG I hg hm ⟨v,H,I,r,h⟩ hd
def BK {x:Str} {v:V} {u:Value} {pos:Pos} (hg:Gl X x) (hm:X.mg x=none) (hv:bootBuiltins x=some u) (r:RelV v u) (hn:x ≠ "__name__" := by decide) (hd:K3 x:=by decide):PE X (.Name x pos) (tC v) :=
 fun _ _ _ H _ I h=>kY I hg hm hv ⟨v,H,I,r,h⟩ hn hd
variable {a b:Expr} {ta tb:TE} {pos:Pos}
def PC (X:Cx) (op:CmpOp) (a b:Expr) (t:TE):Prop :=
 ∀ (pins:Y1) (s:Shared) (J:St) (H:Hp) (Q:VK),Inv X pins J H s->t J H Q →
  wpAny (model X.prog X.w) X.A (eval a X.env) (fun v s₁=>wpAny (model X.prog X.w) X.A (eval b X.env) (fun u s₂=>wpAny (model X.prog X.w) X.A (compareOp op v u) (EP X pins J Q) X.xe s₂) X.xe s₁) X.xe s
def sM (b:Expr) {op:CmpOp} (h:op ≠ .In) (h2:op ≠ .NotIn):behindInMarks op b=false:=by
 have e1:(op == CmpOp.In)=false:=by cases op <;> first | rfl | exact absurd rfl h
 have e2:(op == CmpOp.NotIn)=false:=by cases op <;> first | rfl | exact absurd rfl h2
 cases b <;> simp [behindInMarks,e1,e2]
def Gd (ta:TE):TE:=fun J H Q=>ta J H fun x H1=>Q (.bl (decide (x=.GJ))) H1
def Ez (ta:TE):TE:=fun J H Q=>ta J H fun x H1=>Q (.bl (!decide (x=.GJ))) H1
def RelV.Js {x:V} {v:Value} (r:RelV x v):(v == Value.none)=decide (x=.GJ):=by
 cases x with
 | GJ=>cases r;rfl
 | bl _=>cases r;rfl
 | int _=>obtain ⟨t,rfl⟩:=r;rfl
 | str _=>obtain ⟨t,rfl⟩:=r;rfl
 | LQ _=>obtain ⟨t,rfl⟩:=r;rfl
 | Mi _=>obtain ⟨t,rfl⟩:=r;rfl
 | ref _=>cases r;rfl
 | ty _=>cases r;rfl
def zK {j pos'} (ha:PE X a ta):PC X .Is a (.Constant .none j pos') (Gd ta):=by
 intro pins s J H Q I h
 refine thn (ha pins s J H _ I h) fun v s1 ⟨x,H1,I1,r1,q1⟩=>?_
 exact Constant_none (is_none_gen ⟨.bl _,H1,I1,by rw [r1.Js];rfl,q1⟩)
def Bh {j pos'} (ha:PE X a ta):PC X .IsNot a (.Constant .none j pos') (Ez ta):=by
 intro pins s J H Q I h
 refine thn (ha pins s J H _ I h) fun v s1 ⟨x,H1,I1,r1,q1⟩=>?_
 exact Constant_none (isnot_none_gen ⟨.bl _,H1,I1,by rw [r1.Js];rfl,q1⟩)
def tB (t:TE):TT:=fun J H Q=>t J H fun x H1=>∃ c,x=.bl c/\Q c H1
def CK {op:CmpOp} {t:TE} (h:PC X op a b t) (h1:behindInMarks op b=false:=by first | exact sM _ (by decide) (by decide) | rfl):PE X (.Compare a [op] [b] pos) t:=fun pins s J H Q I hw=>wpAny_Compare1 (h pins s J H Q I hw) h1
def xq {op:CmpOp} {t:TE} (h:PC X op a b t) (h1:behindInMarks op b=false:=by first | exact sM _ (by decide) (by decide) | rfl):PT X (.Compare a [op] [b] pos) (tB t):=by
 intro pins s J H Q I hw
 refine wpAny_isTrue_Compare1 (thn (h pins s J H _ I hw) fun v s1 h1=>thn h1 fun u s2 h2=>thn h2 fun c s3 ⟨x,H1,I1,r1,q1⟩=>?_) h1
 obtain ⟨d,rfl,q⟩:=q1
 cases r1
 exact YZ ⟨H1,I1,q⟩
variable {tA OS:TT} {rest:List Expr}
def Gb (t u:TT):TT:=fun J H Q=>t J H fun c H1=>if c=true then u J H1 Q else Q false H1
def Uk (t u:TT):TT:=fun J H Q=>t J H fun c H1=>if c=true then Q true H1 else u J H1 Q
def FU (t:TT):TT:=fun J H Q=>t J H fun c H1=>Q (!c) H1
def ky (ha:PT X a tA):PW X (.BoolOp .And [a] pos) tA:=by
 intro wh pins s J H Q I h
 refine isTrue_and (thn (ha pins s J H Q I h) fun c s1 e=>?_)
 cases c with
 | true=>exact isTrue_and_nil e
 | false=>exact e
def ll (ha:PT X a tA):PW X (.BoolOp .Or [a] pos) tA:=by
 intro wh pins s J H Q I h
 refine isTrue_or (thn (ha pins s J H Q I h) fun c s1 e=>?_)
 cases c with
 | false=>exact isTrue_or_nil e
 | true=>exact e
def zF (ha:PT X a tA) (hb:PW X (.BoolOp .And (b :: rest) pos) OS):PW X (.BoolOp .And (a :: b :: rest) pos) (Gb tA OS):=by
 intro wh pins s J H Q I h
 refine isTrue_and (thn (ha pins s J H _ I h) fun c s1 ⟨H1,I1,q1⟩=>?_)
 cases c with
 | true=>exact hb wh pins s1 J H1 Q I1 q1
 | false=>exact ⟨H1,I1,q1⟩
def FG (ha:PT X a tA) (hb:PW X (.BoolOp .Or (b :: rest) pos) OS):PW X (.BoolOp .Or (a :: b :: rest) pos) (Uk tA OS):=by
 intro wh pins s J H Q I h
 refine isTrue_or (thn (ha pins s J H _ I h) fun c s1 ⟨H1,I1,q1⟩=>?_)
 cases c with
 | true=>exact ⟨H1,I1,q1⟩
 | false=>exact hb wh pins s1 J H1 Q I1 q1
def Cr (ha:PT X a tA):PT X (.UnaryOp .Not a pos) (FU tA):=by
 intro pins s J H Q I h
 exact isTrue_not (ha pins s J H (fun c H1=>Q (!c) H1) I h)
def Et (ta tb:TE):TE:=fun J H Q=>ta J H fun x H1=>∃ c,x=.bl c/\if c=true then tb J H1 Q else Q (.bl false) H1
def FN (ta:TE):TE:=fun J H Q=>ta J H fun x H1=>∃ c,x=.bl c/\Q (.bl (!c)) H1
def Du {op} {t:TE} (h:PE X a t):PE X (.BoolOp op [a] pos) t:=fun pins s J H Q I hw=>BoolOp_one (h pins s J H Q I hw)
def C9 (ha:PE X a ta) (hb:PE X (.BoolOp .And (b :: rest) pos) tb):PE X (.BoolOp .And (a :: b :: rest) pos) (Et ta tb):=by
 intro pins s J H Q I h
 refine BoolOp_and (thn (ha pins s J H _ I h) fun v s1 ⟨x,H1,I1,r1,q1⟩=>?_)
 obtain ⟨c,rfl,q1⟩:=q1
 cases r1
 refine YZ ?_
 cases c with
 | true=>exact hb pins s1 J H1 Q I1 q1
 | false=>exact ⟨.bl false,H1,I1,rfl,q1⟩
def Eb (ha:PE X a ta):PE X (.UnaryOp .Not a pos) (FN ta):=by
 intro pins s J H Q I h
 refine UnaryOp_ (thn (ha pins s J H _ I h) fun v s1 ⟨x,H1,I1,r1,q1⟩=>?_)
 obtain ⟨c,rfl,q1⟩:=q1
 cases r1
 exact not_of (YZ ⟨.bl (!c),H1,I1,rfl,q1⟩)
end
def G2 (K:Xj) (H:Hp) (a:Addr) (xs:List V):Prop :=
 Rd H a (.lst xs) ∨
  ∃ (o:Obj) (p0:Array Value) (n:Nat),K.lookup a=some o/\o.cls=.type "list" ∧ o.dict=none/\o.data=.seq p0 n/\p0.size<=sizeLine/\aM xs p0.toList
def HL (K:Xj) (H:Hp) (a:Addr) (xs:List V):Prop :=
 Rd H a (.tup xs) ∨
  ∃ (o:Obj) (p0:Array Value) (n:Nat),K.lookup a=some o/\o.cls=.type "tuple" ∧ o.data=.seq p0 n/\p0.size<=sizeLine/\aM xs p0.toList
def Gk:Value->Option V
 | .none=>some .GJ
 | .bool b=>some (.bl b)
 | .int i _=>some (.int i)
 | .str x _=>some (.str x)
 | .bytes b _=>some (.LQ b)
 | .float b _=>some (.Mi b)
 | .ref a=>some (.ref a)
 | .type n=>some (.ty n)
 | _=>none
def RelV.abs {x:V} {u:Value} (r:RelV x u):Gk u=some x:=by
 cases x with
 | GJ=>cases r;rfl
 | bl _=>cases r;rfl
 | int _=>obtain ⟨t,rfl⟩:=r;rfl
 | str _=>obtain ⟨t,rfl⟩:=r;rfl
 | LQ _=>obtain ⟨t,rfl⟩:=r;rfl
 | Mi _=>obtain ⟨t,rfl⟩:=r;rfl
 | ref _=>cases r;rfl
 | ty _=>cases r;rfl
def RelV.inj {x y:V} {u:Value} (r:RelV x u) (q:RelV y u):x=y:=Zn (r.abs.symm.trans q.abs)
theorem aM.inj:∀ {xs ys:List V} {us:X8},aM xs us->aM ys us->xs=ys
 | _,_,_,.nil,.nil=>rfl
 | _,_,_,.cons r t,.cons r' t'=>by rw [r.inj r',aM.inj t t']
section
variable {X:Cx} {pins:Y1} {J:St} {H:Hp} {s:Shared} {a:Addr} {xs ys:List V}
def G2.of {K:Xj} (h:H a=some (.lst xs)):G2 K H a xs:=.inl (.inl h)
def HL.of {K:Xj} (h:H a=some (.tup xs)):HL K H a xs:=.inl (.inl h)
def Inv.list (I:Inv X pins J H s) (h:G2 X.K H a xs):∃ p0:X8,aM xs p0/\PlainL s.heap a p0.toArray/\xs.length<=sizeLine:=by
 rcases h with h | ⟨o,p0,n,hk,hc,hd,hs,hz,r⟩
 ·obtain ⟨z,p0,n,r,e⟩:=h.ok I.hok
  exact ⟨p0,r,⟨_,n,e,rfl,rfl,rfl⟩,z⟩
 ·refine ⟨p0.toList,r,⟨o,n,I.Ib a o hk,hc,hd,by simpa using hs⟩,?_⟩
  have e:=r.length
  simp only [YQ] at e
  lia
def Inv.tuple (I:Inv X pins J H s) (h:HL X.K H a xs):∃ p0:X8,aM xs p0/\IsTup s.heap a p0.toArray/\xs.length<=sizeLine:=by
 rcases h with h | ⟨o,p0,n,hk,hc,hs,hz,r⟩
 ·obtain ⟨z,p0,r,_,p⟩:=h.ok I.hok
  exact ⟨p0,r,p,z⟩
 ·refine ⟨p0.toList,r,⟨o,I.Ib a o hk,hc,n,by simpa using hs⟩,?_⟩
  have e:=r.length
  simp only [YQ] at e
  lia
def Inv.Jt (I:Inv X pins J H s) (h:G2 X.K H a xs) (h':G2 X.K H a ys):xs=ys:=by
 obtain ⟨p0,r,⟨o,n,e,_,_,d⟩,_⟩:=I.list h
 obtain ⟨its',r',⟨o',n',e',_,_,d'⟩,_⟩:=I.list h'
 rw [e] at e';cases e'
 rw [d] at d'
 injection d' with d1 _
 have:p0=its':=by simpa using congrArg Array.toList d1
 subst this
 exact r.inj r'
def Inv.J0 (I:Inv X pins J H s) (h:HL X.K H a xs) (h':HL X.K H a ys):xs=ys:=by
 obtain ⟨p0,r,⟨o,e,_,n,d⟩,_⟩:=I.tuple h
 obtain ⟨its',r',⟨o',e',_,n',d'⟩,_⟩:=I.tuple h'
 rw [e] at e';cases e'
 rw [d] at d'
 injection d' with d1 _
 have:p0=its':=by simpa using congrArg Array.toList d1
 subst this
 exact r.inj r'
end
abbrev Cx.ID (X:Cx) (E:Z2):Cx:={ X with xe:=E }
abbrev Cx.Jr (X:Cx):Cx:=X.ID fun _ _=>False
theorem Cx.Ok.ID {X:Cx} (ok:X.Ok) (E:Z2):(X.ID E).Ok :=
 ⟨ok.mod,ok.kind,ok.glob,ok.blt,ok.above,ok.inj,ok.has,ok.Oz,ok.hd,ok.frames,ok.OT,ok.TQ,ok.bs,ok.bsz,ok.KQ,ok.LN,ok.funs,ok.frf⟩
def Cx.Ok.HE {X:Cx} {E:Z2} (ok:(X.ID E).Ok):X.Ok :=
 ⟨ok.mod,ok.kind,ok.glob,ok.blt,ok.above,ok.inj,ok.has,ok.Oz,ok.hd,ok.frames,ok.OT,ok.TQ,ok.bs,ok.bsz,ok.KQ,ok.LN,ok.funs,ok.frf⟩
section
variable {X:Cx} {pins:Y1} {J:St} {H:Hp} {s:Shared} {E:Z2}
theorem Inv.ID (I:Inv X pins J H s) (E:Z2):Inv (X.ID E) pins J H s:=⟨I.ok.ID E,I.os,I.bare,I.base,I.loc,I.cell,I.free,I.HK,I.pin,I.hok,I.len⟩
theorem Inv.HE (I:Inv (X.ID E) pins J H s):Inv X pins J H s:=⟨I.ok.HE,I.os,I.bare,I.base,I.loc,I.cell,I.free,I.HK,I.pin,I.hok,I.len⟩
theorem SP.HE {D:Ends} {f:Flow} {s':Shared} (h:SP (X.ID E) pins D f s'):SP X pins D f s':=by
 cases f with
 | next=>obtain ⟨J',H',I,q⟩:=h;exact ⟨J',H',I.HE,q⟩
 | brk=>obtain ⟨J',H',I,q⟩:=h;exact ⟨J',H',I.HE,q⟩
 | cont=>obtain ⟨J',H',I,q⟩:=h;exact ⟨J',H',I.HE,q⟩
 | ret u=>obtain ⟨v,J',H',I,r,q⟩:=h;exact ⟨v,J',H',I.HE,r,q⟩
theorem IC.Jr {st:List Stmt} {t:TS} (h:IC X.Jr st t):IC X st t:=fun pins s J H D I hw =>
 YN (h pins s J H D (I.ID _) hw) (fun _ _ q=>q.HE) fun _ _ z=>False.elim z
end
section
variable {X:Cx} {st:Stmt} {rest:List Stmt} {t u:TS} {e:Expr} {te:TE} {pos:Pos}
def EU:TS:=fun D J H=>D.nx J H
def FZ (t u:TS):TS:=fun D J H=>t { D with nx:=u D } J H
def Av:IC X [] EU:=fun _ _ J H _ I h=>X0 ⟨J,H,I,h⟩
def yp (h1:PS X st t) (h2:IC X rest u):IC X (st :: rest) (FZ t u):=by
 intro pins s J H D I h
 refine wpAny_execs_cons (thn (h1 pins s J H { D with nx:=u D } I h) fun f s1 q=>?_)
 cases f with
 | next =>
  obtain ⟨J',H',I',q⟩:=q
  exact h2 pins s1 J' H' D I' q
 | ret v=>exact q
 | brk=>exact q
 | cont=>exact q
def aq (h1:PS X st t):IC X [st] t:=by
 intro pins s J H D I h
 refine wpAny_execs_cons (thn (h1 pins s J H D I h) fun f s1 q=>?_)
 cases f with
 | next=>exact X0 q
 | ret v=>exact q
 | brk=>exact q
 | cont=>exact q
def Inv.quiet {pins:Y1} {J:St} {H:Hp} {s:Shared} (I:Inv X pins J H s):interactive X.env=false:=by simp [interactive,I.ok.kind]
def FI (te:TE):TS:=fun D J H=>te J H fun _ H1=>D.nx J H1
def kN (he:PE X e te) (hs:swapsWith e none pos.line X.env=pure false:=by rfl):PS X (.Expr e pos) (FI te):=by
 intro pins s J H D I h
 exact wpAny_Expr_any (thn (he pins s J H _ I h) fun v s1 ⟨x,H1,I1,r1,q1⟩=>⟨J,H1,I1,q1⟩) I.quiet hs
def Gp (te:TE):TS:=fun D J H=>te J H D.rt
def pD (he:PE X e te):PS X (.Return (some e) pos) (Gp te):=by
 intro pins s J H D I h
 exact wpAny_Return_some (thn (he pins s J H _ I h) fun v s1 ⟨x,H1,I1,r1,q1⟩=>⟨x,J,H1,I1,r1,q1⟩)
def Gm (c:TT) (t u:TS):TS:=fun D J H=>c J H fun b H1=>if b=true then t D J H1 else u D J H1
def BZ {c:Expr} {a b:List Stmt} {tc:TT} (hc:PT X c tc) (ha:IC X a t) (hb:IC X b u):PS X (.If c a b pos) (Gm tc t u):=by
 intro pins s J H D I h
 refine wpAny_If (thn (hc pins s J H _ I h) fun d s1 ⟨H1,I1,q1⟩=>?_)
 cases d with
 | true=>exact ha pins s1 J H1 D I1 q1
 | false=>exact hb pins s1 J H1 D I1 q1
end
abbrev TG:=V->St->Hp->(St->Hp->Prop)->Prop
abbrev LS:=List V->St->Hp->(St->Hp->Prop)->Prop
def PG (X:Cx) (target:Expr) (t:TG):Prop :=
 ∀ (pins:Y1) (s:Shared) (J:St) (H:Hp) (v:V) (u:Value) (Q:St->Hp->Prop),Inv X pins J H s->RelV v u->t v J H Q →
  wpAny (model X.prog X.w) X.A (assign target X.env u) (fun _ s'=>∃ J' H',Inv X pins J' H' s'/\Q J' H') X.xe s
def Lr (X:Cx) (ts:List Expr) (t:LS):Prop :=
 ∀ (pins:Y1) (s:Shared) (J:St) (H:Hp) (vs:List V) (us:X8) (Q:St->Hp->Prop),Inv X pins J H s->aM vs us->t vs J H Q →
  wpAny (model X.prog X.w) X.A (assignInOrder ((assignEach ts X.env).map (·.2)) us) (fun _ s'=>∃ J' H',Inv X pins J' H' s'/\Q J' H') X.xe s
abbrev Aa:=V->V->V->Hp->(Hp->Prop)->Prop
def DE (X:Cx) (t:Aa):Prop :=
 ∀ (pins:Y1) (s:Shared) (J:St) (H:Hp) (o i v:V) (ov iv u:Value) (Q:Hp->Prop),Inv X pins J H s->RelV o ov->RelV i iv->RelV v u->t o i v H Q →
  wpAny (model X.prog X.w) X.A (setItem ov iv u) (fun _ s'=>∃ H',Inv X pins J H' s'/\Q H') X.xe s
section
variable {X:Cx} {pos:Pos}
def oC (i:Nat):TG:=fun v J H Q=>Q (J.set i (some v)) H
def pQ {i:Nat} {x:Str} (hN:X.N.Nodup) (hi:X.N[i]?=some x) (hx:Loc X.env.scope x) (hf:X.fn x=true\/X.env.scope.names.lookup x=some .local:=by first | exact .inl rfl | exact .inr rfl | assumption):PG X (.Name x pos) (oC i):=by
 intro pins s J H v u Q I r h
 exact wpAny_assign_Name (qE I hN hi hx r (fun s' I'=>⟨_,H,I',h⟩) hf)
def GE:LS:=fun vs J H Q=>vs=[]/\Q J H
def EA (t:TG) (u:LS):LS:=fun vs J H Q=>∃ v r,vs=v :: r/\t v J H fun J' H'=>u r J' H' Q
def AW:Lr X [] GE:=by
 intro pins s J H vs us Q I r h
 obtain ⟨e,h⟩:=h
 subst e
 cases r
 exact assignInOrder_nil ⟨J,H,I,h⟩
def xR {e:Expr} {es:List Expr} {t:TG} {u:LS} (h1:PG X e t) (h2:Lr X es u)
  (hs:(assignEach (e :: es) X.env).map (·.2)=assign e X.env :: (assignEach es X.env).map (·.2):=by rfl):Lr X (e :: es) (EA t u):=by
 intro pins s J H vs us Q I r h
 obtain ⟨v,vr,e1,h⟩:=h
 subst e1
 cases r with
 | cons r rr =>
  rw [hs]
  refine assignInOrder_cons (thn (h1 pins s J H _ _ _ I r h) fun _ s1 ⟨J1,H1,I1,q1⟩=>?_)
  exact h2 pins s1 J1 H1 _ _ Q I1 rr q1
def qJ (K:Xj) (n:Nat) (t:LS):TG:=fun v J H Q=>∃ a xs,v=.ref a/\HL K H a xs/\xs.length=n/\t xs J H Q
def D2 {es:List Expr} {k:Nat} {t:LS} {n:Nat} (hc:X.calm=true) (h:Lr X es t)
  (hn:(assignEach es X.env).length=n:=by rfl) (Io:(assignEach es X.env).findIdx? (·.1)=none:=by rfl):PG X (.Tuple es k pos) (qJ X.K n t):=by
 intro pins s J H v u Q I r hw
 obtain ⟨a,xs,e1,hq,hl,hw⟩:=hw
 subst e1
 cases r
 obtain ⟨p0,rv,ht,hz⟩:=I.tuple hq
 refine assign_Tuple_tuple (I.ok.hd hc) ht (by simp [hn,← hl,rv.length]) Io fun h' hx=>?_
 have I1:Inv X pins J H { s with heap:=h' }:=I.kept (t':=s.toks) fun b o e=>hx b o (Zb (ZW e)) e
 exact h pins _ J H xs _ Q I1 (by simpa using rv) hw
def Fm (to ti:TE) (t:Aa):TG:=fun v J H Q=>to J H fun o H1=>ti J H1 fun i H2=>t o i v H2 fun H3=>Q J H3
def tK {o i:Expr} {to ti:TE} {t:Aa} (ho:PE X o to) (hi:PE X i ti) (hs:DE X t)
  (ha:∀ v,assign (.Subscript o i pos) X.env v=(do
   let ov ← holding [v] (eval o X.env)
   let iv ← holding [v,ov] (eval i X.env)
   standAt pos
   holding [v,ov,iv] (setItem ov iv v)
   release [v,ov,iv] []):=by intro _;rfl):PG X (.Subscript o i pos) (Fm to ti t):=by
 intro pins s J H v u Q I r h
 rw [ha]
 refine Zk (Y3 (thn (ho pins s J H _ I h) fun ov s1 ⟨x,H1,I1,r1,q1⟩=>?_))
 refine Zk (Y3 (thn (hi pins s1 J H1 _ I1 q1) fun iv s2 ⟨y,H2,I2,r2,q2⟩=>?_))
 refine Zk (wpAny_standAt (Zk (Y3 (thn (hs pins s2 J H2 x y v ov iv u _ I2 r1 r2 r q2) fun _ s3 ⟨H3,I3,q3⟩=>?_))))
 exact wpAny_release ⟨J,H3,I3,q3⟩
def E6 (te:TE) (g:TG):TS:=fun D J H=>te J H fun x H1=>g x J H1 D.nx
def tD {tg e:Expr} {te:TE} {g:TG} (he:PE X e te) (hg:PG X tg g) (hs:swapsWithSole [tg] e pos.line X.env=pure false:=by rfl) (hw:swappedStores [tg] e X.env=pure none:=by rfl)
  (h1:(assignEach [tg] X.env).map (·.2)=[assign tg X.env]:=by rfl):PS X (.Assign [tg] e pos) (E6 te g):=by
 intro pins s J H D I h
 refine wpAny_Assign_stores (thn (he pins s J H _ I h) fun v s1 ⟨x,H1,I1,r1,q1⟩=>?_) hs hw
 rw [h1]
 exact thn (hg pins s1 J H1 x v _ I1 r1 q1) fun _ s2 q=>q
def pY {i:Nat} {x:Str} {e:Expr} {te:TE} {pos':Pos} (hN:X.N.Nodup) (hi:X.N[i]?=some x) (hx:Loc X.env.scope x) (he:PE X e te) (hs:swapsWith e (some (.Name x pos')) pos.line X.env=pure false:=by rfl) (hf:X.fn x=true\/X.env.scope.names.lookup x=some .local:=by first | exact .inl rfl | exact .inr rfl | assumption) :
  PS X (.Assign [.Name x pos'] e pos) (E6 te (oC i)):=by
 intro pins s J H D I h
 refine wpAny_Assign_Name (thn (he pins s J H _ I h) fun v s1 ⟨y,H1,I1,r1,q1⟩=>?_) hs
 exact qE I1 hN hi hx r1 (fun s2 I2=>⟨_,H1,I2,q1⟩) hf
end
section
variable {X:Cx} {pos:Pos}
def D9 (c:TT) (tb:TS):TS:=fun D J H=>∃ W:Nat->St->Hp->Prop,(∃ m,W m J H)/\∀ m J H,W m J H →
 c J H fun b H1=>if b=true then ∃ N:St->Hp->Prop,(∀ J' H',N J' H'->∃ m',m' < m/\W m' J' H')/\tb { D with nx:=N,ct:=N,bk:=D.nx } J H1 else D.nx J H1
def xW {c:Expr} {body:List Stmt} {tc:TT} {tb:TS} (hp:PassesOwn (model X.prog X.w) X.A X.env X.xe) (hc:PT X c tc) (hb:IC X body tb):PS X (.While c body [] pos) (D9 tc tb):=by
 intro pins s J H D I h
 obtain ⟨W,⟨m0,w0⟩,turn⟩:=h
 refine wpAny_While (codeAny_whileLoop (fun n s'=>∃ J' H',Inv X pins J' H' s'/\W n J' H') ?_ m0 ⟨J,H,I,w0⟩)
 rintro n s1 ⟨J1,H1,I1,w1⟩
 refine YE hp (thn (hc pins s1 J1 H1 _ I1 (turn n J1 H1 w1)) fun b s2 ⟨H2,I2,q2⟩=>?_)
 cases b with
 | true =>
  obtain ⟨N,hN,q2⟩:=q2
  rw [Zq rfl]
  refine YE hp (thn (hb pins s2 J1 H2 _ I2 q2) fun f s3 q3=>?_)
  cases f with
  | next =>
   obtain ⟨J3,H3,I3,n3⟩:=q3
   obtain ⟨m',hm,w3⟩:=hN J3 H3 n3
   exact ⟨m',hm,J3,H3,I3,w3⟩
  | cont =>
   obtain ⟨J3,H3,I3,n3⟩:=q3
   obtain ⟨m',hm,w3⟩:=hN J3 H3 n3
   exact ⟨m',hm,J3,H3,I3,w3⟩
  | brk=>exact q3
  | ret v=>exact q3
 | false =>
  rw [Zo Zd]
  exact X0 ⟨J1,H2,I2,q2⟩
end
structure It where
 go:Nat->Hp->Prop
 OL:Nat->Hp->V->Hp->Prop
 stop:Nat->Hp->Prop
def ot (X:Cx) (pins:Y1) (H:Hp) (b:Addr):Prop :=
 H b=none/\b ≠ X.env.locals/\b ∉ X.fs/\(b∈X.ex\/X.s₀.heap.objs.size<=b)/\(∀ x c,X.env.cells.lookup x=some c->c ≠ b)/\∀ p∈X.pn++pins,p.1 ≠ b
def Inv.K9 {X:Cx} {pins:Y1} {J:St} {H H':Hp} {s:Shared} {b:Addr} (I:Inv X pins J H s) (hb:s.heap.objs.size<=b) (hn:H' b=none):ot X pins H' b:=by
 refine ⟨hn,Wz (ZO I.lt hb),I.P5 hb,.inr (ZG I.sz hb),fun x c e z=>?_,fun p hp z=>?_⟩
 ·obtain ⟨v,q⟩:=I.cell x c e
  exact absurd (ZO q.lt (by rw [z];exact hb)) (Yh _)
 ·exact absurd (ZO (ZW (I.pin p hp).1) (by rw [z];exact hb)) (Yh _)
structure Turn (P:Program) (w:World) (K:Xj) (tg:Expr) (Jq:It) (fp:Xa) (it:Addr) (tn:Nat->Heap->Prop):Prop where
 mem:it∈fp
 obj:∀ i h,tn i h->∀ b∈fp,∃ o,h.get? b=some o/\∀ v,o.data ≠ .cell v
 keep:∀ i h h',tn i h->(∀ b∈fp,∀ o,h.get? b=some o->h'.get? b=some o)->tn i h'
 item:∀ (X:Cx),X.prog=P->X.w=w->X.K=K->X.calm=true->∀ (i:Nat) (pins:Y1) (s:Shared) (J:St) (H:Hp) (E:Z2),Inv X pins J H s->(∀ b∈fp,ot X pins H b)->tn i s.heap->Jq.go i H →
  wpAny (model P w) X.A (pyNext (.ref it)) (fun r s1=>∃ u,r=some u ∧
   wpAny (model P w) X.A (letOwnedTupleGo tg (.ref it) u) (fun _ s2=>∃ x H',Inv X pins J H' s2/\RelV x u/\Jq.OL i H x H'/\tn (i+1) s2.heap/\∀ b∈fp,H' b=none) E s1) E s
 done:∀ (X:Cx),X.prog=P->X.w=w->X.K=K->X.calm=true->∀ (i:Nat) (pins:Y1) (s:Shared) (J:St) (H:Hp) (E:Z2),Inv X pins J H s->(∀ b∈fp,ot X pins H b)->tn i s.heap->Jq.stop i H →
  wpAny (model P w) X.A (pyNext (.ref it)) (fun r s1=>r=none/\Inv X pins J H s1) E s
 self:∀ (A:Around) (i:Nat) (s:Shared) (Q:Z2) (E:Z2),tn i s.heap->Q (.ref it) s->wpAny (model P w) A (pyIter (.ref it)) Q E s
abbrev TI:=St->Hp->(It->Hp->Prop)->Prop
def T1 (X:Cx) (pins:Y1) (J:St) (tg:Expr) (R:It->Hp->Prop) (Qz:Value) (s2:Shared):Prop :=
 ∃ (it:Addr) (fp:Xa) (tn:Nat->Heap->Prop) (Jq:It) (H':Hp),Qz=.ref it/\Inv X pins J H' s2/\Turn X.prog X.w X.K tg Jq fp it tn/\tn 0 s2.heap/\(∀ b∈fp,ot X pins H' b)/\R Jq H'
def PI (X:Cx) (tg iter:Expr) (wi:TI):Prop :=
 ∀ (pins:Y1) (s:Shared) (J:St) (H:Hp) (R:It->Hp->Prop),Inv X pins J H s->wi J H R →
  wpAny (model X.prog X.w) X.A (eval iter X.env) (fun v s1=>wpAny (model X.prog X.w) X.A (pyIter v) (T1 X pins J tg R) X.xe s1) X.xe s
def qI {Mq:Model} {A:Around} {E:Z2} {s:Shared} {tg:Expr} {it:Addr} {u:Value} {o:Obj} {n:String} {vs:Array Value} {Q:Unit->Shared->Prop} (ho:s.heap.get? it=some o) (hc:o.cls=.type n) (hd:o.data=.fields vs)
  (hn:["enumerate", "zip", "dict_itemiterator", "dict_reverseitemiterator", "odict_iterator", "itertools.zip_longest", "itertools.pairwise"].contains n=false) (hQ:Q () s):wpAny Mq A (letOwnedTupleGo tg (.ref it) u) Q E s:=by
 unfold letOwnedTupleGo
 cases tg <;> first
  | exact ZV hQ
  | (cases u <;> first
    | exact ZV hQ
    | (refine Zk (wpAny_load ho ?_)
       rw [hc,hd]
       show wpAny Mq A (if (["enumerate", "zip", "dict_itemiterator", "dict_reverseitemiterator", "odict_iterator", "itertools.zip_longest", "itertools.pairwise"].contains n && vs[0]? == some (rawInt _))=true then _ else _) Q E s
       rw [Zo (by intro h;rw [hn,Bool.false_and] at h;cases h)]
       exact ZV hQ))
def R4 (K:Xj) (a:Addr):It :=
 ⟨fun i H=>∃ xs x,G2 K H a xs/\xs[i]?=some x,fun i H x H'=>H'=H/\∀ xs,G2 K H a xs->xs[i]?=some x,fun i H=>∃ xs,G2 K H a xs/\xs.length<=i⟩
def R3 (K:Xj) (a:Addr):It :=
 ⟨fun i H=>∃ xs x,HL K H a xs/\xs[i]?=some x,fun i H x H'=>H'=H/\∀ xs,HL K H a xs->xs[i]?=some x,fun i H=>∃ xs,HL K H a xs/\xs.length<=i⟩
def OH (lo:Int) (n:Nat):It:=⟨fun i _=>i < n,fun i H x H'=>H'=H/\x=.int (lo+i),fun i _=>n<=i⟩
def wo {P:Program} {w:World} {K:Xj} {tg:Expr} (a it:Addr):Turn P w K tg (R4 K a) [it] it (fun i h=>h.IsListIter it a i) where
 mem:=by simp
 obj:=fun i h st b hb=>by
  have e:b=it:=by simpa using hb
  subst e
  obtain ⟨o,e,c,d⟩:=st
  exact ⟨o,e,fun v z=>by rw [d] at z;cases z⟩
 keep:=fun i h h' st k=>st.at fun o e=>k it (by simp) o e
 item:=by
  intro X hP hw hK hc i pins s J H E I hf st hg
  subst hP hw hK
  obtain ⟨xs,x,hq,hx⟩:=hg
  obtain ⟨p0,rv,p,hz⟩:=I.list hq
  obtain ⟨u,hu,ru⟩:=rv.get hx
  obtain ⟨f0,f1,f2,f3,f4,f5⟩:=hf it (by simp)
  refine wpAny_pyNext_list_item st p.isList (x:=u) (by simpa using hu) fun h' JG sb=>?_
  have I1:Inv X pins J H { s with heap:=h' }:=I.turned (t':=s.toks) (fun b o hb e=>(sb.2 b hb).trans e) f0 f1 f3 f4 f5
  obtain ⟨o,e,c,d⟩:=id JG
  exact ⟨u,rfl,qI (s:={ s with heap:=h' }) e c d (by decide) ⟨x,H,I1,ru,⟨rfl,fun ys hy=>by rw [I.Jt hy hq];exact hx⟩,JG,fun b hb=>(hf b hb).1⟩⟩
 done:=by
  intro X hP hw hK hc i pins s J H E I hf st hg
  subst hP hw hK
  obtain ⟨xs,hq,hx⟩:=hg
  obtain ⟨p0,rv,p,hz⟩:=I.list hq
  obtain ⟨f0,f1,f2,f3,f4,f5⟩:=hf it (by simp)
  have hl:=rv.length
  exact wpAny_pyNext_list_end (I.ok.hd hc) st p.isList (by simp;lia) fun h' eb=>⟨rfl,I.turned (t':=s.toks) (fun b o hb e=>eb b o hb e) f0 f1 f3 f4 f5⟩
 self:=fun _ _ _ _ _ st h=>wpAny_pyIter_listiter st h
def tj {P:Program} {w:World} {K:Xj} {tg:Expr} (a it:Addr):Turn P w K tg (R3 K a) [it] it (fun i h=>h.IsTupleIter it a i) where
 mem:=by simp
 obj:=fun i h st b hb=>by
  have e:b=it:=by simpa using hb
  subst e
  obtain ⟨o,e,c,d⟩:=st
  exact ⟨o,e,fun v z=>by rw [d] at z;cases z⟩
 keep:=fun i h h' st k=>st.at fun o e=>k it (by simp) o e
 item:=by
  intro X hP hw hK hc i pins s J H E I hf st hg
  subst hP hw hK
  obtain ⟨xs,x,hq,hx⟩:=hg
  obtain ⟨p0,rv,p,hz⟩:=I.tuple hq
  obtain ⟨u,hu,ru⟩:=rv.get hx
  obtain ⟨f0,f1,f2,f3,f4,f5⟩:=hf it (by simp)
  refine wpAny_pyNext_tuple_item st (show s.heap.IsTuple a p0.toArray from p) (x:=u) (by simpa using hu) fun h' JG sb=>?_
  have I1:Inv X pins J H { s with heap:=h' }:=I.turned (t':=s.toks) (fun b o hb e=>(sb.2 b hb).trans e) f0 f1 f3 f4 f5
  obtain ⟨o,e,c,d⟩:=id JG
  exact ⟨u,rfl,qI (s:={ s with heap:=h' }) e c d (by decide) ⟨x,H,I1,ru,⟨rfl,fun ys hy=>by rw [I.J0 hy hq];exact hx⟩,JG,fun b hb=>(hf b hb).1⟩⟩
 done:=by
  intro X hP hw hK hc i pins s J H E I hf st hg
  subst hP hw hK
  obtain ⟨xs,hq,hx⟩:=hg
  obtain ⟨p0,rv,p,hz⟩:=I.tuple hq
  obtain ⟨f0,f1,f2,f3,f4,f5⟩:=hf it (by simp)
  have hl:=rv.length
  exact wpAny_pyNext_tuple_end (I.ok.hd hc) st (show s.heap.IsTuple a p0.toArray from p) (by simp;lia) fun h' eb=>⟨rfl,I.turned (t':=s.toks) (fun b o hb e=>eb b o hb e) f0 f1 f3 f4 f5⟩
 self:=fun _ _ _ _ _ st h=>wpAny_pyIter_tupleiter st h
def t4 {P:Program} {w:World} {K:Xj} {tg:Expr} (it:Addr) (lo:Int) (n:Nat):Turn P w K tg (OH lo n) [it] it (fun i h=>IsRangeIter h it (lo+(i:Nat) * 1) ((n:Int) - (i:Nat)) 1) where
 mem:=by simp
 obj:=fun i h st b hb=>by
  have e:b=it:=by simpa using hb
  subst e
  exact ⟨_,st,fun v z=>by
   have z':Data.fields _=Data.cell v:=z
   cases z'⟩
 keep:=fun i h h' st k=>k it (by simp) _ st
 item:=by
  intro X hP hw hK hc i pins s J H E I hf st hg
  subst hP hw hK
  obtain ⟨f0,f1,f2,f3,f4,f5⟩:=hf it (by simp)
  have W:=Walks.range (prog:=X.prog) (w:=X.w) (I.ok.hd hc) it lo 1 n
  refine W.item i s _ _ hg st fun v h' tk hv JG kk=>?_
  obtain ⟨t,rfl⟩:=hv
  have I1:Inv X pins J H { s with heap:=h',toks:=tk }:=I.turned (fun b o hb e=>kk b o (by simpa using hb) e) f0 f1 f3 f4 f5
  refine ⟨_,rfl,qI (s:={ s with heap:=h',toks:=tk }) (n := "range_iterator") JG rfl rfl (by decide) ⟨.int (lo+i),H,I1,⟨t,?_⟩,⟨rfl,rfl⟩,JG,fun b hb=>(hf b hb).1⟩⟩
  rw [Int.mul_one]
 done:=by
  intro X hP hw hK hc i pins s J H E I hf st hg
  subst hP hw hK
  obtain ⟨f0,f1,f2,f3,f4,f5⟩:=hf it (by simp)
  exact wpAny_pyNext_range_end (I.ok.hd hc) st (by have:n<=i:=hg;lia) fun h' eb=>⟨rfl,I.turned (t':=s.toks) (fun b o hb e=>eb b o hb e) f0 f1 f3 f4 f5⟩
 self:=fun _ _ _ _ _ st h=>wpAny_pyIter_rangeiter st h
section
variable {X:Cx} {tg:Expr}
def rH {pins:Y1} {J:St} {H:Hp} {s:Shared} {R:It->Hp->Prop} {E:Z2} {lo hi:Int} {t u v:Tok} {tk:Nat} (I:Inv X pins J H s) (h1:-(2 ^ 62)<=lo) (h2:lo < 2 ^ 62) (h3:-(2 ^ 62)<=hi) (h4:hi < 2 ^ 62)
  (q:R (OH lo (hi - lo).toNat) H):wpAny (model X.prog X.w) X.A (pyIter (.ref s.heap.objs.size)) (T1 X pins J tg R) E { s with heap:=s.heap.push { cls:=.type "range",data:=.fields #[.int lo t,.int hi u,.int 1 v] },toks:=tk }:=by
 refine wpAny_pyIter_range (IsRange.new ..) (small_one h1 h2 h3 h4) ?_
 have I1:Inv X pins J H { s with heap:=s.heap.push { cls:=.type "range",data:=.fields #[.int lo t,.int hi u,.int 1 v] },toks:=tk }:=I.kept fun b o e=>Zi _ e
 refine ⟨(s.heap.push { cls:=.type "range",data:=.fields #[.int lo t,.int hi u,.int 1 v] }).objs.size,[(s.heap.push { cls:=.type "range",data:=.fields #[.int lo t,.int hi u,.int 1 v] }).objs.size],_,_,H,rfl,
  I1.kept (t':=tk) fun b o e=>Zi _ e,t4 _ lo (hi - lo).toNat,?_,fun b hb=>?_,q⟩
 ·have e1:lo+((0:Nat):Int) * 1=lo:=by simp
  have e2:(((hi - lo).toNat:Nat):Int) - ((0:Nat):Int)=Builtin.Range.rangeSize lo hi 1:=by rw [rangeSize_one];split <;> lia
  show IsRangeIter _ _ (lo+((0:Nat):Int) * 1) ((((hi - lo).toNat:Nat):Int) - ((0:Nat):Int)) 1
  rw [e1,e2]
  exact ZR _ rfl
 ·have e:b=(s.heap.push { cls:=.type "range",data:=.fields #[.int lo t,.int hi u,.int 1 v] }).objs.size:=by simpa using hb
  subst e
  exact I1.K9 (Zp _) (I1.hok.fresh (Zp _))
def Ce (ta:TA):TI:=fun J H R=>ta J H fun vs H1=>∃ j:Int,vs=[.int j]/\-(2 ^ 62)<=j/\j < 2 ^ 62/\R (OH 0 j.toNat) H1
def FL (ta:TA):TI:=fun J H R=>ta J H fun vs H1=>∃ i j:Int,vs=[.int i,.int j]/\(-(2 ^ 62)<=i/\i < 2 ^ 62/\-(2 ^ 62)<=j/\j < 2 ^ 62)/\R (OH i (j - i).toNat) H1
def jk {a:Expr} {ta:TA} {p pos:Pos} (hg:Gl X "range") (hm:X.mg "range" = none) (ha:PA X [a] ta) (hs:starEach [a] X.env=[(false,eval a X.env)]:=by rfl):PI X tg (.Call (.Name "range" p) [a] [] pos) (Ce ta):=by
 intro pins s J H R I h
 refine Call_ (kY I hg hm boot_range (YG (thn (ha pos pins s J H _ I h) fun us s1 ⟨vs,H1,I1,r1,q1⟩=>?_) hs rfl))
 obtain ⟨j,e,q1,q2,q⟩:=q1
 subst e
 cases r1 with
 | cons r rr =>
  cases rr
  obtain ⟨t,rfl⟩:=r
  exact call_range_1 (rH I1 (by lia) (by lia) q1 q2 (by simpa using q))
def wF {a b:Expr} {ta:TA} {p pos:Pos} (hg:Gl X "range") (hm:X.mg "range" = none) (ha:PA X [a,b] ta) (hs:starEach [a,b] X.env=[(false,eval a X.env),(false,eval b X.env)]:=by rfl) (IZ:starEach [b] X.env=[(false,eval b X.env)]:=by rfl) :
  PI X tg (.Call (.Name "range" p) [a,b] [] pos) (FL ta):=by
 intro pins s J H R I h
 refine Call_ (kY I hg hm boot_range (YG (thn (ha pos pins s J H _ I h) fun us s1 ⟨vs,H1,I1,r1,q1⟩=>?_) (by rw [hs,IZ]) (by rw [IZ];rfl)))
 obtain ⟨i,j,e,⟨q1,q2,q3,q4⟩,q⟩:=q1
 subst e
 cases r1 with
 | cons r rr =>
  cases rr with
  | cons r' rr =>
   cases rr
   obtain ⟨t,rfl⟩:=r
   obtain ⟨t',rfl⟩:=r'
   exact call_range_2 (rH I1 q1 q2 q3 q4 q)
def E5 (wi:TI) (g:TG) (tb:TS):TS:=fun D J H=>wi J H fun Jq H1=>∃ W:Nat->Nat->St->Hp->Prop,(∃ m,W 0 m J H1)/\∀ i m J H,W i m J H →
 (Jq.stop i H/\D.nx J H)\/(Jq.go i H/\∃ N:St->Hp->Prop,(∀ J' H',N J' H'->∃ m',m' < m/\W (i+1) m' J' H')/\∀ x H',Jq.OL i H x H'->g x J H' fun J2 H2=>tb { D with nx:=N,ct:=N,bk:=D.nx } J2 H2)
def mH (fp:Xa) (h:Heap):Y1:=fp.filterMap fun b=>(h.get? b).map fun o=>(b,o)
def ir {fp:Xa} {h:Heap} {b:Addr} {o:Obj} (hb:b∈fp) (e:h.get? b=some o):(b,o)∈mH fp h:=List.mem_filterMap.mpr ⟨b,hb,by rw [e];rfl⟩
def vU {fp:Xa} {h:Heap} {p:Addr×Obj} (hp:p∈mH fp h):p.1∈fp/\h.get? p.1=some p.2:=by
 obtain ⟨b,hb,e⟩:=List.mem_filterMap.mp hp
 cases q:h.get? b with
 | none=>rw [q] at e;cases e
 | some o =>
  rw [q] at e
  have e':(b,o)=p:=Zn e
  subst e'
  exact ⟨hb,q⟩
def Inv.pinned {pins:Y1} {J:St} {H:Hp} {s:Shared} {fp:Xa} (I:Inv X pins J H s) (hf:∀ b∈fp,ot X pins H b) (ho:∀ b∈fp,∃ o,s.heap.get? b=some o/\∀ v,o.data ≠ .cell v):Inv X (pins++mH fp s.heap) J H s :=
 I.JS fun p hp=>(Zc.mp hp).elim (fun z=>I.pin p (ZL _ z)) fun z=>by
  obtain ⟨hb,e⟩:=vU z
  obtain ⟨f0,f1,f2,_⟩:=hf p.1 hb
  obtain ⟨o,e',d⟩:=ho p.1 hb
  rw [e] at e';cases e'
  exact ⟨e,f0,f1,f2,d⟩
def Inv.HS {pins pl:Y1} {J:St} {H:Hp} {s:Shared} (I:Inv X (pins++pl) J H s):Inv X pins J H s:=I.JS fun p hp=>I.pin p (ZL _ (Yx _ hp))
def xu {iter:Expr} {body:List Stmt} {wi:TI} {g:TG} {tb:TS} {pos:Pos} (hp:PassesOwn (model X.prog X.w) X.A X.env X.xe) (hc:X.calm=true) (hi:PI X tg iter wi) (hg:PG X tg g) (hb:IC X body tb)
  (hs:∀ x,foldedSetIterable iter X.env x=pure x:=by intro _;rfl):PS X (.For tg iter body [] pos) (E5 wi g tb):=by
 intro pins s J H D I h
 refine wpAny_For (thn (hi pins s J H _ I h) fun v s1 h1=>thn h1 fun Qz s2 h2=>?_) hs
 obtain ⟨it,fp,tn,Jq,H2,e,I2,T,OU,f2,W,⟨m0,w0⟩,turn⟩:=h2
 subst e
 have JF:∀ {H':Hp},(∀ b∈fp,H' b=none)->∀ b∈fp,ot X pins H' b:=fun hn b hb=>⟨hn b hb,(f2 b hb).2⟩
 refine codeAny_forLoop_any (fun n s'=>∃ i J' H',Inv X pins J' H' s'/\tn i s'.heap/\(∀ b∈fp,H' b=none)/\W i n J' H') ?_ m0 ⟨0,J,H2,I2,OU,fun b hb=>(f2 b hb).1,w0⟩
 rintro n s3 ⟨i,J3,H3,I3,LY,Og,w3⟩
 rcases turn i n J3 H3 w3 with ⟨stop,qn⟩ | ⟨go,N,hN,step⟩
 ·refine YE hp (thn (T.done X rfl rfl rfl hc i pins s3 J3 H3 X.xe I3 (JF Og) LY stop) fun r s4 ⟨hr,I4⟩=>?_)
  subst hr
  exact X0 ⟨J3,H3,I4,qn⟩
 ·refine YE hp (thn (T.item X rfl rfl rfl hc i pins s3 J3 H3 X.xe I3 (JF Og) LY go) fun r s4 ⟨u,hr,h4⟩=>?_)
  subst hr
  refine YE hp (thn h4 fun _ s5 ⟨x,H5,I5,r5,y5,Mu,Rw⟩=>?_)
  have R7:=I5.pinned (JF Rw) (T.obj _ _ Mu)
  refine YE hp (thn (hg _ s5 J3 H5 x u _ R7 r5 (step x H5 y5)) fun _ s6 ⟨J6,H6,I6,q6⟩=>?_)
  refine YE hp (thn (hb _ s6 J6 H6 _ I6 q6) fun f s7 q7=>?_)
  have again:∀ {J7:St} {H7:Hp},Inv X (pins++mH fp s5.heap) J7 H7 s7->N J7 H7->∃ m,m < n/\∃ i J' H',Inv X pins J' H' s7/\tn i s7.heap/\(∀ b∈fp,H' b=none)/\W i m J' H':=fun {J7 H7} I7 n7=>by
   obtain ⟨m',hm,w7⟩:=hN J7 H7 n7
   refine ⟨m',hm,i+1,J7,H7,I7.HS,T.keep _ _ _ Mu fun b hb o e=>(I7.pin (b,o) (ZL _ (ZL _ (ir hb e)))).1,fun b hb=>?_,w7⟩
   obtain ⟨o,e,d⟩:=T.obj _ _ Mu b hb
   exact (I7.pin (b,o) (ZL _ (ZL _ (ir hb e)))).2.1
  cases f with
  | next=>obtain ⟨J7,H7,I7,n7⟩:=q7;exact again I7 n7
  | cont=>obtain ⟨J7,H7,I7,n7⟩:=q7;exact again I7 n7
  | brk=>obtain ⟨J7,H7,I7,q7⟩:=q7;exact ⟨J7,H7,I7.HS,q7⟩
  | ret v=>obtain ⟨x7,J7,H7,I7,r7,q7⟩:=q7;exact ⟨x7,J7,H7,I7.HS,r7,q7⟩
end
abbrev R2:=V->V->Hp->VK->Prop
def OpR (X:Cx) (f:Value->Value->Sem Value) (r:R2):Prop :=
 ∀ (pins:Y1) (s:Shared) (J:St) (H:Hp) (x y:V) (v u:Value) (Q:VK),Inv X pins J H s->RelV x v->RelV y u->r x y H Q →
  wpAny (model X.prog X.w) X.A (f v u) (EP X pins J Q) X.xe s
def UnR (X:Cx) (f:Value->Sem Value) (r:V->Hp->VK->Prop):Prop :=
 ∀ (pins:Y1) (s:Shared) (J:St) (H:Hp) (x:V) (v:Value) (Q:VK),Inv X pins J H s->RelV x v->r x H Q →
  wpAny (model X.prog X.w) X.A (f v) (EP X pins J Q) X.xe s
def dN (X:Cx) (f:Value) (r:List V->Hp->VK->Prop):Prop :=
 ∀ (pins:Y1) (s:Shared) (J:St) (H:Hp) (xs:List V) (us:X8) (Q:VK),Inv X pins J H s->aM xs us->r xs H Q →
  wpAny (model X.prog X.w) X.A (call f us) (EP X pins J Q) X.xe s
def Gc (X:Cx) (r:V->Hp->(Bool->Hp->Prop)->Prop):Prop :=
 ∀ (pins:Y1) (s:Shared) (J:St) (H:Hp) (x:V) (v:Value) (Q:Bool->Hp->Prop),Inv X pins J H s->RelV x v->r x H Q →
  wpAny (model X.prog X.w) X.A (truthy v) (TP X pins J Q) X.xe s
def M7 (r:R2) (ta tb:TE):TE:=fun J H Q=>ta J H fun x H1=>tb J H1 fun y H2=>r x y H2 Q
def Ui (r:V->Hp->VK->Prop) (ta:TE):TE:=fun J H Q=>ta J H fun x H1=>r x H1 Q
def rI (C:Int->Int->Prop) (g:Int->Int->V):R2:=fun x y H Q=>∃ i j,x=.int i/\y=.int j/\C i j/\Q (g i j) H
def JR (g:Int->Int->V):R2:=fun x y H Q=>∃ i j,x=.int i/\y=.int j/\Q (g i j) H
def rU (g:Int->V):V->Hp->VK->Prop:=fun x H Q=>∃ i,x=.int i/\Q (g i) H
section
variable {X:Cx} {a b c:Expr} {ta tb tc:TE} {pos:Pos}
def Dv (ha:PE X a ta) (hb:PE X b tb) {pins:Y1} {s:Shared} {J:St} {H:Hp} {R:V->V->Hp->Prop} (I:Inv X pins J H s)
  (h:ta J H fun x H1=>tb J H1 fun y H2=>R x y H2) {Q:Z2} {f:Value->Value->Sem Value}
  (hf:∀ v u s2 x y H2,Inv X pins J H2 s2->RelV x v->RelV y u->R x y H2->wpAny (model X.prog X.w) X.A (f v u) Q X.xe s2) :
  wpAny (model X.prog X.w) X.A (eval a X.env) (fun v s₁=>wpAny (model X.prog X.w) X.A (eval b X.env) (fun u s₂=>wpAny (model X.prog X.w) X.A (f v u) Q X.xe s₂) X.xe s₁) X.xe s:=by
 refine thn (ha pins s J H _ I h) fun v s1 ⟨x,H1,I1,r1,q1⟩=>?_
 refine thn (hb pins s1 J H1 _ I1 q1) fun u s2 ⟨y,H2,I2,r2,q2⟩=>?_
 exact hf v u s2 x y H2 I2 r1 r2 q2
def Cj {op:Operator} {r:R2} (ho:OpR X (binaryOp op) r) (ha:PE X a ta) (hb:PE X b tb):PE X (.BinOp a op b pos) (M7 r ta tb):=by
 intro pins s J H Q I h
 exact wpAny_BinOp (Dv ha hb I h fun v u s2 x y H2 I2 rx ry q=>ho pins s2 J H2 x y v u Q I2 rx ry q)
def EE {op:UnaryOp} {r:V->Hp->VK->Prop} (ho:UnR X (unaryOp op) r) (ha:PE X a ta):PE X (.UnaryOp op a pos) (Ui r ta):=by
 intro pins s J H Q I h
 exact UnaryOp_ (thn (ha pins s J H _ I h) fun v s1 ⟨x,H1,I1,r1,q1⟩=>ho pins s1 J H1 x v Q I1 r1 q1)
def PQ {f:Value->Value->Sem Value} {C:Int->Int->Prop} {g:Int->Int->Int}
  (rule:∀ (i j:Int) (t u:Tok) (s:Shared) (Q:Z2) (E:Z2),C i j->Q (.int (g i j) s.toks) { s with toks:=s.toks+1 }->wpAny (model X.prog X.w) X.A (f (.int i t) (.int j u)) Q E s) :
  OpR X f (rI C fun i j=>.int (g i j)):=by
 intro pins s J H x y v u Q I rx ry h
 obtain ⟨i,j,rfl,rfl,hc,q⟩:=h
 obtain ⟨t,rfl⟩:=rx
 obtain ⟨t',rfl⟩:=ry
 exact rule i j t t' s _ _ hc ⟨.int (g i j),H,I.tok _,⟨_,rfl⟩,q⟩
def EC {f:Value->Value->Sem Value} {g:Int->Int->Int}
  (rule:∀ (i j:Int) (t u:Tok) (s:Shared) (Q:Z2) (E:Z2),Q (.int (g i j) s.toks) { s with toks:=s.toks+1 }->wpAny (model X.prog X.w) X.A (f (.int i t) (.int j u)) Q E s) :
  OpR X f (JR fun i j=>.int (g i j)):=by
 intro pins s J H x y v u Q I rx ry h
 obtain ⟨i,j,rfl,rfl,q⟩:=h
 obtain ⟨t,rfl⟩:=rx
 obtain ⟨t',rfl⟩:=ry
 exact rule i j t t' s _ _ ⟨.int (g i j),H,I.tok _,⟨_,rfl⟩,q⟩
def As {f:Value->Value->Sem Value} {g:Int->Int->Bool}
  (rule:∀ (i j:Int) (t u:Tok) (s:Shared) (Q:Z2) (E:Z2),Q (.bool (g i j)) s->wpAny (model X.prog X.w) X.A (f (.int i t) (.int j u)) Q E s) :
  OpR X f (JR fun i j=>.bl (g i j)):=by
 intro pins s J H x y v u Q I rx ry h
 obtain ⟨i,j,rfl,rfl,q⟩:=h
 obtain ⟨t,rfl⟩:=rx
 obtain ⟨t',rfl⟩:=ry
 exact rule i j t t' s _ _ ⟨.bl (g i j),H,I,rfl,q⟩
def Es (i j:Int):Prop:=0 < j/\j < 1073741824
def Bu (i j:Int):Prop:=(-(2 ^ 64) < i/\i < 2 ^ 64)\/(-(2 ^ 64) < j/\j < 2 ^ 64)
def Bu.ok {i j:Int} (h:Bu i j):IntMulOk i j:=by
 rcases h with ⟨h1,h2⟩ | ⟨h1,h2⟩
 ·exact .of_left (intBits_le_64 h1 h2)
 ·exact .of_right (intBits_le_64 h1 h2)
def CT:OpR X (binaryOp .Add) (JR fun i j=>.int (i+j)):=EC fun _ _ _ _ _ _ _ q=>add_int q
def tJ:OpR X (binaryOp .Sub) (JR fun i j=>.int (i - j)):=EC fun _ _ _ _ _ _ _ q=>sub_int q
def D4:OpR X (binaryOp .Mult) (rI Bu fun i j=>.int (i * j)):=PQ fun _ _ _ _ _ _ _ hc q=>mul_int q hc.ok
def l7:OpR X (binaryOp .FloorDiv) (rI Es fun i j=>.int (i / j)):=PQ fun i j _ _ _ _ _ hc q=>by
 have h1:(0:Int) < j:=hc.1
 have h2:j < 1073741824:=hc.2
 exact floordiv_int (by lia) (by rw [Int.fdiv_eq_ediv_of_nonneg i (by lia)];exact q) (.inl (PyProof.noPylong_small (by omega)))
def CP:OpR X (binaryOp .Mod) (rI (fun _ j=>0 < j) fun i j=>.int (i % j)):=PQ fun i j _ _ _ _ _ hc q=>by
 have h1:(0:Int) < j:=hc
 exact mod_int' (by lia) (by rw [Int.fmod_eq_emod_of_nonneg i (by lia)];exact q)
def Ug {f:Value->Sem Value} {g:Int->Int}
  (rule:∀ (i:Int) (t:Tok) (s:Shared) (Q:Z2) (E:Z2),Q (.int (g i) s.toks) { s with toks:=s.toks+1 }->wpAny (model X.prog X.w) X.A (f (.int i t)) Q E s) :
  UnR X f (rU fun i=>.int (g i)):=by
 intro pins s J H x v Q I rx h
 obtain ⟨i,rfl,q⟩:=h
 obtain ⟨t,rfl⟩:=rx
 exact rule i t s _ _ ⟨.int (g i),H,I.tok _,⟨_,rfl⟩,q⟩
def Dg:UnR X (unaryOp .USub) (rU fun i=>.int (-i)):=Ug fun _ _ _ _ _ q=>neg_int q
end
section
variable {X:Cx} {a b c:Expr} {ta tb tc:TE} {pos:Pos}
def Dk {pins:Y1} {J:St} {H:Hp} {s:Shared} {Q:VK} {k k':Bool} (I:Inv X pins J H s) (q:Q (.bl k) H) (e:k=k'):EP X pins J Q (.bool k') s:=by
 subst e
 exact ⟨.bl k,H,I,rfl,q⟩
def E1:OpR X (compareOp .Lt) (JR fun i j=>.bl (decide (i < j))):=As fun _ _ _ _ _ _ _ q=>lt_int q
def Fg:OpR X (compareOp .LtE) (JR fun i j=>.bl (decide (i<=j))):=As fun _ _ _ _ _ _ _ q=>le_int q
def Cc:OpR X (compareOp .Gt) (JR fun i j=>.bl (decide (j < i))):=As fun _ _ _ _ _ _ _ q=>gt_int q
def ET:OpR X (compareOp .GtE) (JR fun i j=>.bl (decide (j<=i))):=As fun _ _ _ _ _ _ _ q=>ge_int q
def wx:OpR X (compareOp .Lt) (fun x y H Q=>∃ i j,x=.str i/\y=.str j/\Q (.bl (decide (i.cps.toList < j.cps.toList))) H):=by
 intro pins s J H x y v u Q I rx ry h
 obtain ⟨i,j,rfl,rfl,q⟩:=h
 obtain ⟨t,rfl⟩:=rx
 obtain ⟨t',rfl⟩:=ry
 exact lt_str (Dk I q rfl)
def OpR.or {f:Value->Value->Sem Value} {r r':R2} (h:OpR X f r) (h':OpR X f r'):OpR X f (fun x y H Q=>r x y H Q\/r' x y H Q):=by
 intro pins s J H x y v u Q I rx ry q
 rcases q with q | q
 ·exact h pins s J H x y v u Q I rx ry q
 ·exact h' pins s J H x y v u Q I rx ry q
def iX (b:Expr) {op:CmpOp} (h:op ≠ .In:=by decide) (h2:op ≠ .NotIn:=by decide):behindInMarks op b=false:=by
 have e1:(op == CmpOp.In)=false:=by cases op <;> first | rfl | exact absurd rfl h
 have e2:(op == CmpOp.NotIn)=false:=by cases op <;> first | rfl | exact absurd rfl h2
 cases b <;> simp [behindInMarks,e1,e2]
def AR {op:CmpOp} {r:R2} (ho:OpR X (compareOp op) r) (ha:PE X a ta) (hb:PE X b tb) (hm:behindInMarks op b=false):PE X (.Compare a [op] [b] pos) (M7 r ta tb):=by
 intro pins s J H Q I h
 exact wpAny_Compare1 (Dv ha hb I h fun v u s2 x y H2 I2 rx ry q=>ho pins s2 J H2 x y v u Q I2 rx ry q) hm
def xj (t:TE):TT:=fun J H Q=>t J H fun x H'=>∃ k,x=.bl k/\Q k H'
def ux {op:CmpOp} {r:R2} (ho:OpR X (compareOp op) r) (ha:PE X a ta) (hb:PE X b tb) (hm:behindInMarks op b=false):PT X (.Compare a [op] [b] pos) (xj (M7 r ta tb)):=by
 intro pins s J H Q I h
 refine wpAny_isTrue_Compare1 (thn (ha pins s J H _ I h) fun v s1 ⟨x,H1,I1,r1,q1⟩=>thn (hb pins s1 J H1 _ I1 q1) fun u s2 ⟨y,H2,I2,r2,q2⟩ =>
  thn (ho pins s2 J H2 x y v u _ I2 r1 r2 q2) fun c s3 ⟨z,H3,I3,r3,k,e,q3⟩=>?_) hm
 subst e
 cases r3
 exact YZ ⟨H3,I3,q3⟩
def tV (r r':R2) (ta tb tc:TE):TE:=fun J H Q=>ta J H fun x H1=>tb J H1 fun y H2=>r x y H2 fun z H3=>∃ k,z=.bl k ∧
 (if k=true then tc J H3 fun w' H4=>r' y w' H4 Q else Q (.bl false) H3)
def yg {op Mx:CmpOp} {r r':R2} (ho:OpR X (compareOp op) r) (Ju:OpR X (compareOp Mx) r') (ha:PE X a ta) (hb:PE X b tb) (hc:PE X c tc)
  (hm:lastMarks [op,Mx] [b,c]=false:=by with_unfolding_all rfl):PE X (.Compare a [op,Mx] [b,c] pos) (tV r r' ta tb tc):=by
 intro pins s J H Q I h
 refine Compare_chain (thn (ha pins s J H _ I h) fun v s1 ⟨x,H1,I1,r1,q1⟩=>chain_link (thn (hb pins s1 J H1 _ I1 q1) fun u s2 ⟨y,H2,I2,r2,q2⟩ =>
  thn (ho pins s2 J H2 x y v u _ I2 r1 r2 q2) fun d s3 ⟨z,H3,I3,r3,k,e,q3⟩=>?_)) hm
 subst e
 cases r3
 refine YZ ?_
 cases k with
 | false=>exact ite_ff ⟨.bl false,H3,I3,rfl,q3⟩
 | true=>exact ite_tt (chain_last (thn (hc pins s3 J H3 _ I3 q3) fun w' s4 ⟨z',H4,I4,r4,q4⟩=>Ju pins s4 J H4 y z' u w' Q I4 r2 r4 q4))
def sL {op Mx:CmpOp} {r r':R2} (ho:OpR X (compareOp op) r) (Ju:OpR X (compareOp Mx) r') (ha:PE X a ta) (hb:PE X b tb) (hc:PE X c tc)
  (hm:lastMarks [op,Mx] [b,c]=false:=by with_unfolding_all rfl):PT X (.Compare a [op,Mx] [b,c] pos) (xj (tV r r' ta tb tc)):=by
 intro pins s J H Q I h
 refine isTrue_chain (thn (ha pins s J H _ I h) fun v s1 ⟨x,H1,I1,r1,q1⟩=>test_link (thn (hb pins s1 J H1 _ I1 q1) fun u s2 ⟨y,H2,I2,r2,q2⟩ =>
  thn (ho pins s2 J H2 x y v u _ I2 r1 r2 q2) fun d s3 ⟨z,H3,I3,r3,k,e,q3⟩=>?_)) hm
 subst e
 cases r3
 refine YZ ?_
 cases k with
 | false =>
  obtain ⟨k',e',q'⟩:=q3
  cases e'
  exact ite_ff ⟨H3,I3,q'⟩
 | true =>
  refine ite_tt (test_last (thn (hc pins s3 J H3 _ I3 q3) fun w' s4 ⟨z',H4,I4,r4,q4⟩=>thn (Ju pins s4 J H4 y z' u w' _ I4 r2 r4 q4) fun d' s5 ⟨z2,H5,I5,r5,k2,e2,q5⟩=>?_))
  subst e2
  cases r5
  exact YZ ⟨H5,I5,q5⟩
def DK (K:Xj) (x:V) (H:Hp) (k:Bool):Prop :=
 match x with
 | .GJ=>k=false
 | .bl b=>k=b
 | .int i=>k=(i != 0)
 | .str y=>y.length<=sizeLine/\k=((y.length:Int) != 0)
 | .LQ y=>y.size<=sizeLine/\k=((y.size:Int) != 0)
 | .ref p=>(∃ xs,G2 K H p xs/\k=!xs.isEmpty)\/(∃ xs,HL K H p xs/\k=!xs.isEmpty)\/∃ gV,H p=some (.dK gV)/\k=!gV.isEmpty
 | _=>False
def t7 {κ:Type} {gV:List (κ×V)} {vs:List (κ×Value)} (r:KV gV vs):(!vs.isEmpty)=!gV.isEmpty:=by
 cases r <;> rfl
def mI {xs:List V} {p0:X8} (r:aM xs p0):(!p0.toArray.isEmpty)=!xs.isEmpty:=by
 cases r <;> simp
def kS:(sizeLine:Nat) < 2 ^ 63:=by rw [Xz];decide
def Dj:Gc X (fun x H Q=>∃ k,DK X.K x H k/\Q k H):=by
 intro pins s J H x v Q I rx h
 obtain ⟨k,e,q⟩:=h
 have hl:=kS
 have hs:sizeLine=16777216:=Xz
 cases x with
 | GJ =>
  cases rx
  have e':k=false:=e
  subst e'
  exact truthy_none ⟨H,I,q⟩
 | bl b =>
  cases rx
  have e':k=b:=e
  subst e'
  exact YZ ⟨H,I,q⟩
 | int i =>
  obtain ⟨t,rfl⟩:=rx
  have e':k=(i != 0):=e
  subst e'
  exact PySem.P.truthy_int ⟨H,I,q⟩
 | str y =>
  obtain ⟨t,rfl⟩:=rx
  obtain ⟨hy,e'⟩:y.length<=sizeLine/\k=((y.length:Int) != 0):=e
  subst e'
  exact PySem.P.truthy_str (by lia) ⟨H,I.tok _,q⟩
 | LQ y =>
  obtain ⟨t,rfl⟩:=rx
  obtain ⟨hy,e'⟩:y.size<=sizeLine/\k=((y.size:Int) != 0):=e
  subst e'
  exact PySem.W.truthy_bytes (by lia) ⟨H,I.tok _,q⟩
 | ref p =>
  cases rx
  have e':(∃ xs,G2 X.K H p xs/\k=!xs.isEmpty)\/(∃ xs,HL X.K H p xs/\k=!xs.isEmpty)\/∃ gV,H p=some (.dK gV)/\k=!gV.isEmpty:=e
  rcases e' with ⟨xs,hx,e'⟩ | ⟨xs,hx,e'⟩ | ⟨gV,hx,e'⟩
  ·subst e'
   obtain ⟨p0,r,pl,hz⟩:=I.list hx
   have hlen:=r.length
   exact wpAny_truthy_list pl.isList (by simp only [ZZ];lia) ⟨H,I.tok _,by rw [mI r];exact q⟩
  ·subst e'
   obtain ⟨p0,r,pl,hz⟩:=I.tuple hx
   have hlen:=r.length
   exact truthy_tuple pl (by simp only [ZZ];lia) ⟨H,I.tok _,by rw [mI r];exact q⟩
  ·subst e'
   obtain ⟨hz,hS,vs,r,m⟩:gV.length<=sizeLine/\(p == sysModules)=false/\∃ vs,KV gV vs/\s.heap.DictOf (aK X.prog X.w) p vs:=I.hok p _ hx
   have hlen:gV.length=vs.length:=Y4 r
   exact wpAny_truthy_dict hS m (by lia) ⟨H,I.tok _,by rw [t7 r];exact q⟩
 | _=>exact (show False from e).elim
def yE (ha:PE X a ta) (he:∀ whole,isTrue a X.env whole=(do let v ← whole;standAt a.pos;holding [v] (truthy v))) :
  PT X a (fun J H Q=>ta J H fun x H'=>∃ k,DK X.K x H' k/\Q k H'):=by
 intro pins s J H Q I h
 exact isTrue_plain (thn (ha pins s J H _ I h) fun v s1 ⟨x,H1,I1,r1,q1⟩=>Dj pins s1 J H1 x v Q I1 r1 q1) (he _)
def sQ:OpR X (binaryOp .Add) (fun x y H Q=>∃ i j,x=.str i/\y=.str j/\i.length+j.length<=sizeLine/\Q (.str (i++j)) H):=by
 intro pins s J H x y v u Q I rx ry h
 obtain ⟨i,j,rfl,rfl,hz,q⟩:=h
 obtain ⟨t,rfl⟩:=rx
 obtain ⟨t',rfl⟩:=ry
 exact add_str (fun t' tk=>⟨.str (i++j),H,I.tok _,⟨_,rfl⟩,q⟩) hz
def vals1 {x:V} {us:X8} (r:aM [x] us):∃ u,us=[u]/\RelV x u:=by
 cases r with
 | cons r1 r2=>cases r2;exact ⟨_,rfl,r1⟩
def vals2 {x y:V} {us:X8} (r:aM [x,y] us):∃ u w',us=[u,w']/\RelV x u/\RelV y w':=by
 cases r with
 | cons r1 r2 =>
  cases r2 with
  | cons r3 r4=>cases r4;exact ⟨_,_,rfl,r1,r3⟩
def vI (hc:X.calm=true):dN X (.builtin "max") (fun xs H Q=>∃ i j,xs=[.int i,.int j]/\Q (.int (if j > i then j else i)) H):=by
 intro pins s J H xs us Q I r h
 obtain ⟨i,j,rfl,q⟩:=h
 obtain ⟨u,w',rfl,⟨t,rfl⟩,⟨t',rfl⟩⟩:=vals2 r
 refine max_two_ints (I.ok.hd hc) fun h' tk k=>⟨_,H,I.kept k,?_,q⟩
 by_cases hj:j > i
 ·rw [Zq hj,Zq hj];exact ⟨_,rfl⟩
 ·rw [Zo hj,Zo hj];exact ⟨_,rfl⟩
def Em (K:Xj) (x:V) (H:Hp) (n:Nat):Prop :=
 match x with
 | .str y=>y.length<=sizeLine/\n=y.length
 | .LQ y=>y.size<=sizeLine/\n=y.size
 | .ref p=>(∃ xs,G2 K H p xs/\n=xs.length)\/∃ xs,HL K H p xs/\n=xs.length
 | _=>False
def zi:dN X (.builtin "len") (fun xs H Q=>∃ x n,xs=[x]/\Em X.K x H n/\Q (.int n) H):=by
 intro pins s J H xs us Q I r h
 obtain ⟨x,n,rfl,e,q⟩:=h
 obtain ⟨u,rfl,rx⟩:=vals1 r
 have hl:=kS
 have hs:sizeLine=16777216:=Xz
 cases x with
 | str y =>
  obtain ⟨t,rfl⟩:=rx
  obtain ⟨hy,e'⟩:y.length<=sizeLine/\n=y.length:=e
  subst e'
  exact len_str (by lia) ⟨.int _,H,I.tok _,⟨_,rfl⟩,q⟩
 | LQ y =>
  obtain ⟨t,rfl⟩:=rx
  obtain ⟨hy,e'⟩:y.size<=sizeLine/\n=y.size:=e
  subst e'
  exact PySem.W.len_bytes (by lia) ⟨.int _,H,I.tok _,⟨_,rfl⟩,q⟩
 | ref p =>
  cases rx
  have e':(∃ xs,G2 X.K H p xs/\n=xs.length)\/∃ xs,HL X.K H p xs/\n=xs.length:=e
  rcases e' with ⟨xs,hx,e'⟩ | ⟨xs,hx,e'⟩
  ·subst e'
   obtain ⟨p0,r',pl,hz⟩:=I.list hx
   have hlen:=r'.length
   exact Calls.call_len_list pl.isList (by simp only [ZZ];lia) ⟨.int xs.length,H,I.tok _,⟨_,by simp only [ZZ];rw [hlen]⟩,q⟩
  ·subst e'
   obtain ⟨p0,r',pl,hz⟩:=I.tuple hx
   have hlen:=r'.length
   exact len_tuple pl (by simp only [ZZ];lia) ⟨.int xs.length,H,I.tok _,⟨_,by simp only [ZZ];rw [hlen]⟩,q⟩
 | _=>exact (show False from e).elim
end
structure JO (h:Heap) (x dx C:Addr) (mA:Xe):Prop where
 obj:h.get? x=some (PySem.W.instObj C dx)
 ns:h.Ns1 dx mA
 ne:dx ≠ x
def wK {h:Heap} {dx:Addr} {mA:Xe} (n:h.Ns1 dx mA):∃ od,h.get? dx=some od/\∀ name,PySem.W.lookIn name od=some (mA name):=by
 obtain ⟨o,es,ep,ho,hd,hk,_,hm⟩:=n
 refine ⟨o,ho,fun name=>?_⟩
 have e:=hm name
 unfold nsFind findBy at e
 rw [← Array.find?_toList] at e
 unfold PySem.W.lookIn
 rw [hd]
 dsimp only
 split
 ·rename_i y q
  rw [q] at e
  exact congrArg some e
 ·rename_i q
  rw [q] at e
  have a:es.toList.any (·.refKey)=false:=by
   rw [List.any_eq_false]
   intro y hy
   obtain ⟨z,t,QT⟩:=hk y (Array.mem_toList_iff.mp hy)
   simp [DictEntry.refKey,QT]
  have a':¬ es.toList.any (·.refKey)=true:=by rw [a];exact Zd
  rw [Zo a']
  exact congrArg some e
def JO.look {h:Heap} {x dx C:Addr} {mA:Xe} (I:JO h x dx C mA):∃ od,PySem.W.InstAt h x (PySem.W.instObj C dx) C (some od)/\∀ name,PySem.W.lookIn name od=some (mA name) :=
 let ⟨od,ho,hl⟩:=wK I.ns
 ⟨od,⟨I.obj,rfl,rfl,ho⟩,hl⟩
section
variable {prog:Program} {w:World} {A:Around} {E:Z2} {s:Shared} {K:Xj} {x dx C f:Addr} {mA:Xe} {name:Str} {v:Value}
def get_map {expr:Bool} {Q:Z2} (X:K.In s.heap) (I:JO s.heap x dx C mA) (hg:PySem.W.plainGet K C name=true) (hh:PySem.W.hasDictIn K C=true)
  (ha:PySem.W.findIn K (.ref C) name=some none) (hv:mA name=some v) (QB:PySem.W.handedIn v=true) (h:Q v { s with toks:=s.toks+1 }) :
  wpAny (model prog w) A (getAttr (.ref x) name expr) Q E s:=by
 obtain ⟨od,Jq,hl⟩:=I.look
 exact PySem.W.get_value X Jq (XF hg).1 (PySem.W.findObj_own hh ha rfl (by rw [hl,hv])) QB h
def xf {pl:Sem Bool} {Q:Value×X8->Shared->Prop} (X:K.In s.heap) (I:JO s.heap x dx C mA) (hg:PySem.W.plainGet K C name=true)
  (hf:PySem.W.findIn K (.ref C) name=some (some (.ref f))) (ht:PySem.W.isFn K (.ref f)=true) (hv:mA name=none) (h:Q (.ref f,[.ref x]) s) :
  wpAny (model prog w) A (getMethod (.ref x) name pl) Q E s:=by
 obtain ⟨od,Jq,hl⟩:=I.look
 exact PySem.W.method_fn X Jq (XF hg).1 (XF hg).2 hf (beq_iff_eq.mp ht) (by show (PySem.W.lookIn name od).map (·.isSome)=some false;rw [hl,hv];rfl) h
def AM {ns:List Str} {Q:Unit->Shared->Prop} (X:K.In s.heap) (I:JO s.heap x dx C mA)
  (hs:PySem.W.findIn K (.ref C) "__setattr__" = some (some (.builtin "object.__setattr__"))) (hp:PySem.W.plainOver K C=true) (ht:PySem.W.takerIn K C name=some none) (hh:PySem.W.hasDictIn K C=true)
  (hw:PySem.Within mA ns) (hsz:ns.length<=sizeLine)
  (h:∀ h',JO h' x dx C (fun y=>if y=name then some v else mA y)->Heap.SameBut dx s.heap h'->Q () { s with heap:=h',toks:=s.toks+2 }) :
  wpAny (model prog w) A (setAttr (.ref x) name v) Q E s:=by
 obtain ⟨od,Jq,hl⟩:=I.look
 refine PySem.W.set_plain X Jq hs (PySem.W.osa_open (s:={ s with toks:=s.toks+1 }) (r:=none) X Jq hp ht fun b=>?_)
 obtain ⟨cd,hc,MK⟩:=PySem.W.any_some hh
 have hx:s.heap.get? x=some ⟨.ref C,some dx,.plain,#[]⟩:=I.obj
 refine Zk (ZV (Zk (Zk (wpAny_loadPart hx (Zk (PySem.W.Looks.here (s:={ s with toks:=s.toks+1 }) (PySem.W.looks_clsIn X hc) ?_))))))
 rw [MK]
 refine ZV (a:=some dx) (Zk (ZV (Zk ?_)))
 refine wpAny_nsSet1 (s:={ s with toks:=s.toks+1 }) I.ns fun h' Ng IZ=>?_
 obtain ⟨oD,esD,epD,Ve,VA,VB⟩:=Ng.count (PySem.Within.cons name v hw)
 refine Zk (wpAny_lookBehind Ve (by rw [VA];exact pastItsLine_dict (ZG VB (by rw [Zm];exact Xs hsz))) ?_)
 exact ZV (h _ ⟨(IZ.2 _ (Ya I.ne)).trans I.obj,Ng,I.ne⟩ IZ)
def zr {R:Result->Shared->Prop} {vs:X8} {kw:List (Str×Value)} (X:K.In s.heap) (hm:PySem.W.makesIn K C=true)
  (hi:PySem.W.findIn K (.ref C) "__init__" = some (some (.ref f))) (hf:PySem.W.typeIn K (.ref f)=some (.type "function"))
  (h:codeAny (model prog w) (A.under (.builtin "type.__call__" ⟨.ref C :: vs,kw⟩)) (.call (.ref f) ⟨.ref (s.heap.objs.size+1) :: vs,kw⟩) (PySem.W.InitBack (s.heap.objs.size+1) R)
   { s with heap:=(s.heap.push PySem.W.emptyDict).push (PySem.W.instObj C s.heap.objs.size) }) :
  codeAny (model prog w) A (.call (.ref C) ⟨vs,kw⟩) R s:=by
 obtain ⟨hh,g,d,t,os⟩:=s
 exact PySem.W.make_core (PySem.W.makes_of X hm) (PySem.W.looks_findIn X hi) (fun self=>PySem.W.bind_fn X self hf) (.inl rfl) h
end
def iE (f:Str) (v:V):List (Str×V)->List (Str×V)
 | []=>[(f,v)]
 | (g,x) :: r=>if g=f then (g,v) :: r else (g,x) :: iE f v r
theorem lI (f g:Str) (v:V):∀ fs:List (Str×V),(iE f v fs).lookup g=if g=f then some v else fs.lookup g
 | []=>by
  show List.lookup g [(f,v)]=_
  by_cases h:g=f
  ·have hb:(g == f)=true:=beq_iff_eq.mpr h
   simp only [List.lookup,hb,Zq h]
  ·have hb:(g == f)=false:=ZM.mpr h
   simp only [List.lookup,hb,Zo h]
 | (k,x) :: r=>by
  have ih:=lI f g v r
  rw [show iE f v ((k,x) :: r)=(if k=f then (k,v) :: r else (k,x) :: iE f v r) from rfl]
  by_cases hk:k=f
  ·rw [Zq hk]
   by_cases h:g=k
   ·have hb:(g == k)=true:=beq_iff_eq.mpr h
    simp only [List.lookup,hb,Zq (h.trans hk)]
   ·have hb:(g == k)=false:=ZM.mpr h
    simp only [List.lookup,hb,Zo (fun e:g=f=>h (e.trans hk.symm))]
  ·rw [Zo hk]
   by_cases h:g=k
   ·have hb:(g == k)=true:=beq_iff_eq.mpr h
    simp only [List.lookup,hb,Zo (fun e:g=f=>hk (h.symm.trans e))]
   ·have hb:(g == k)=false:=ZM.mpr h
    simp only [List.lookup,hb]
    exact ih
theorem lD (f:Str) (v:V):∀ fs:List (Str×V),f∈(iE f v fs).map (·.1)/\∀ g,g∈fs.map (·.1)->g∈(iE f v fs).map (·.1)
 | []=>⟨by simp [iE],fun g h=>by simp at h⟩
 | (k,x) :: r=>by
  obtain ⟨i1,i2⟩:=lD f v r
  rw [show iE f v ((k,x) :: r)=(if k=f then (k,v) :: r else (k,x) :: iE f v r) from rfl]
  by_cases hk:k=f
  ·rw [Zq hk]
   subst hk
   exact ⟨by simp,fun g h=>by simpa using h⟩
  ·rw [Zo hk]
   refine ⟨?_,fun g h=>?_⟩
   ·rw [Zl]
    exact Zw _ i1
   ·rw [Zl] at h ⊢
    rcases Zj.mp h with e | e
    ·exact Zj.mpr (.inl e)
    ·exact Zw _ (i2 g e)
theorem lK (f:Str) (v:V):∀ fs:List (Str×V),(iE f v fs).length<=fs.length+1
 | []=>by simp [iE]
 | (k,x) :: r=>by
  have ih:=lK f v r
  rw [show iE f v ((k,x) :: r)=(if k=f then (k,v) :: r else (k,x) :: iE f v r) from rfl]
  by_cases hk:k=f
  ·rw [Zq hk,Zm,Zm];exact YO _ _
  ·rw [Zo hk,Zm,Zm];exact Xs ih
def iH.some_of {v:V} {o:Wq} (r:iH (some v) o):∃ u,o=some u/\RelV v u:=by
 cases o with
 | none=>exact (show False from r).elim
 | some u=>exact ⟨u,rfl,r⟩
def iH.none_of {o:Wq} (r:iH none o):o=none:=by
 cases o with
 | none=>rfl
 | some u=>exact (show False from r).elim
def vJ {v:V} {u:Value} (r:RelV v u):PySem.W.handedIn u=true:=by
 cases v with
 | GJ=>cases (show u=Value.none from r);rfl
 | bl b=>cases (show u=Value.bool b from r);rfl
 | int i=>obtain ⟨t,e⟩:=(show ∃ t,u=Value.int i t from r);cases e;rfl
 | str x=>obtain ⟨t,e⟩:=(show ∃ t,u=Value.str x t from r);cases e;rfl
 | LQ b=>obtain ⟨t,e⟩:=(show ∃ t,u=Value.bytes b t from r);cases e;rfl
 | Mi b=>obtain ⟨t,e⟩:=(show ∃ t,u=Value.float b t from r);cases e;rfl
 | ref a=>cases (show u=Value.ref a from r);rfl
 | ty n=>cases (show u=Value.type n from r);rfl
section
variable {P:Program} {w:World} {H H':Hp} {h h':Heap} {a C dx:Addr} {fs Ih:List (Str×V)}
def mq (hok:HP P w H h) (e:H a=some (.ins C dx fs)):∃ mA,JO h a dx C mA/\(∀ f,iH (fs.lookup f) (mA f))/\PySem.Within mA (fs.map (·.1))/\fs.length<=1000/\H dx=some (.own a):=by
 obtain ⟨d,z,ne,ob,mA,n,r,q⟩:=(show bR P w H h a (.ins C dx fs) from hok a _ e)
 exact ⟨mA,⟨ob,n,ne⟩,r,q,z,d⟩
end
structure HZ (K:Xj) (C:Addr):Prop where
 pg:PySem.W.plainGet K C Str.empty=true
 hd:PySem.W.hasDictIn K C=true
 po:PySem.W.plainOver K C=true
 sa:PySem.W.findIn K (.ref C) "__setattr__" = some (some (.builtin "object.__setattr__"))
def HZ.get {K:Xj} {C:Addr} (c:HZ K C) (f:Str):PySem.W.plainGet K C f=true:=c.pg
def aT (K:Xj) (C:Addr) (f:Str):Prop:=PySem.W.findIn K (.ref C) f=some none
def aT.Ny {K:Xj} {C:Addr} {f:Str} (n:aT K C f):PySem.W.takerIn K C f=some none:=by
 unfold PySem.W.takerIn
 rw [show PySem.W.findIn K (.ref C) f=some none from n]
 rfl
structure Meth (K:Xj) (C:Addr) (m:Str) (f:Addr):Prop where
 at_:PySem.W.findIn K (.ref C) m=some (some (.ref f))
 fn:PySem.W.isFn K (.ref f)=true
 kp:PySem.W.keepIn K (.ref f)=true
section
variable {X:Cx} {pins:Y1} {J:St} {H:Hp} {s:Shared} {a C dx:Addr} {fs:List (Str×V)} {f:Str} {v:V} {A:Around} {E:Z2}
def sS {b:Bool} {Q:Z2} (I:Inv X pins J H s) (e:H a=some (.ins C dx fs)) (c:HZ X.K C) (n:aT X.K C f) (l:fs.lookup f=some v)
  (h:∀ u s',Inv X pins J H s'->RelV v u->Q u s'):wpAny (model X.prog X.w) A (getAttr (.ref a) f b) Q E s:=by
 obtain ⟨mA,O,r,_,_,_⟩:=mq I.hok e
 obtain ⟨u,hu,ru⟩:=iH.some_of (v:=v) (o:=mA f) (by rw [← l];exact r f)
 exact get_map I.Ib O (c.get f) c.hd n hu (vJ ru) (h u _ (I.tok _) ru)
def nZ {m:Str} {g:Addr} {pl:Sem Bool} {Q:Value×X8->Shared->Prop} (I:Inv X pins J H s) (e:H a=some (.ins C dx fs)) (c:HZ X.K C) (k:Meth X.K C m g) (l:fs.lookup m=none)
  (h:Q (.ref g,[.ref a]) s):wpAny (model X.prog X.w) A (getMethod (.ref a) m pl) Q E s:=by
 obtain ⟨mA,O,r,_,_,_⟩:=mq I.hok e
 have hn:mA m=none:=iH.none_of (by rw [← l];exact r m)
 exact xf I.Ib O (c.get m) k.at_ k.fn hn h
def ud {y:V} {u:Value} {Q:Unit->Shared->Prop} (I:Inv X pins J H s) (e:H a=some (.ins C dx fs)) (c:HZ X.K C) (n:aT X.K C f) (hl:fs.length < 1000) (ry:RelV y u)
  (h:∀ s',Inv X pins J (upd H a (.ins C dx (iE f y fs))) s'->Q () s'):wpAny (model X.prog X.w) A (setAttr (.ref a) f u) Q E s:=by
 obtain ⟨mA,O,r,wi,_,ho⟩:=mq I.hok e
 have hz:(fs.map (·.1)).length<=sizeLine:=by rw [Zt,Xz];lia
 refine AM I.Ib O c.sa c.po n.Ny c.hd wi hz fun h' O' sb=>h _ ?_
 have hd:∃ o,h'.get? dx=some o:=let ⟨o,_,_,e',_⟩:=O'.ns;⟨o,e'⟩
 refine I.write (x:=a) (e:=dx) (by rw [e];exact True.intro) (.inr ho) (fun b q hb z=>(sb.2 b hb).trans z) hd ?_
 refine ⟨by rw [aA O.ne];exact ho,?_,O.ne,O'.obj,_,O'.ns,fun g=>?_,fun g hg=>?_⟩
 ·have:=lK f y fs;lia
 ·show iH ((iE f y fs).lookup g) (if g=f then some u else mA g)
  rw [lI]
  by_cases q:g=f
  ·rw [Zq q,Zq q];exact ry
  ·rw [Zo q,Zo q];exact r g
 ·by_cases q:g=f
  ·rw [q];exact (lD f y fs).1
  ·refine (lD f y fs).2 g (wi g fun z=>hg ?_)
   show (if g=f then some u else mA g)=none
   rw [Zo q];exact z
def Inv.made (I:Inv X pins J H s):Inv X pins J (upd (upd H s.heap.objs.size (.own (s.heap.objs.size+1))) (s.heap.objs.size+1) (.ins C s.heap.objs.size []))
  { s with heap:=(s.heap.push PySem.W.emptyDict).push (PySem.W.instObj C s.heap.objs.size) }:=by
 have e1:(s.heap.push PySem.W.emptyDict).get? s.heap.objs.size=some PySem.W.emptyDict:=ZR s.heap rfl
 have e2:((s.heap.push PySem.W.emptyDict).push (PySem.W.instObj C s.heap.objs.size)).get? (s.heap.objs.size+1)=some (PySem.W.instObj C s.heap.objs.size):=by
  have:=ZR (s.heap.push PySem.W.emptyDict) (o:=PySem.W.instObj C s.heap.objs.size) rfl
  rwa [Wt] at this
 have e3:(s.heap.push PySem.W.emptyDict).Ns s.heap.objs.size (fun _=>none):=⟨PySem.W.emptyDict,#[],_,e1,rfl,(fun e he=>absurd he (by simp)),fun _=>rfl⟩
 have I1:=I.laid (a:=s.heap.objs.size) (o:=.own (s.heap.objs.size+1)) (h':=s.heap.push PySem.W.emptyDict) (t':=s.toks) (fun b u q=>Zi _ q) (Zp _) ⟨_,e1⟩
 refine I1.laid (a:=s.heap.objs.size+1) (o:=.ins C s.heap.objs.size []) (t':=s.toks) (fun b u q=>Zi _ q) (Ww (Wt _ _)) ?_
 have ne:s.heap.objs.size ≠ s.heap.objs.size+1:=Zb (Yp _)
 refine ⟨by rw [aA ne,av],Yt _,ne,e2,fun _=>none,(Heap.Ns1.of_empty e3).at fun o q=>Zi _ q,fun _=>True.intro,fun y hy=>absurd rfl hy⟩
def Bq {prog:Program} {w:World} {env:Env} {e:Expr} {f:Str} {pos:Pos} {s:Shared} {Q:Z2} (hb:attributeBase e f env (eval e env)=eval e env)
  (h:wpAny (model prog w) A (eval e env) (fun o s₁=>wpAny (model prog w) A (getAttr o f true) Q E s₁) E s):wpAny (model prog w) A (eval (.Attribute e f pos) env) Q E s :=
 Attribute_any_ h (by rw [arm_eval_Attribute,hb])
end
def GC (K:Xj) (ta:TE) (f:Str):TE:=fun J H Q=>ta J H fun x H1=>∃ a C dx fs v,x=.ref a/\H1 a=some (.ins C dx fs)/\HZ K C/\aT K C f/\fs.lookup f=some v/\Q v H1
def GD (K:Xj) (ta tv:TE) (f:Str):TS:=fun D J H=>tv J H fun y H1=>ta J H1 fun x H2=>∃ a C dx fs,x=.ref a/\H2 a=some (.ins C dx fs)/\HZ K C/\aT K C f/\fs.length < 1000 ∧
 D.nx J (upd H2 a (.ins C dx (iE f y fs)))
section
variable {X:Cx} {o e value:Expr} {f:Str} {pos pos' LB:Pos} {ta tv:TE}
def xN (he:PE X e ta) (hb:attributeBase e f X.env (eval e X.env)=eval e X.env):PE X (.Attribute e f pos) (GC X.K ta f):=by
 intro pins s J H Q I h
 refine Bq hb (thn (he pins s J H _ I h) fun u s1 ⟨x,H1,I1,rx,a,C,dx,fs,v,ex,ea,c,n,l,q⟩=>?_)
 subst ex
 obtain rfl:u=Value.ref a:=rx
 exact sS I1 ea c n l fun u' s2 I2 ru=>⟨v,H1,I2,ru,q⟩
def Cp (ha:PE X o ta) (hv:PE X value tv) (hs:swapsWith value (some (.Attribute o f pos')) pos.line X.env=pure false):PS X (.Assign [.Attribute o f pos'] value pos) (GD X.K ta tv f):=by
 intro pins s J H D I h
 refine plainObj_wpAny_Assign_Attribute (thn (hv pins s J H _ I h) fun u s1 ⟨y,H1,I1,ry,q⟩=>thn (ha pins s1 J H1 _ I1 q) fun ov s2 ⟨x,H2,I2,rx,a,C,dx,fs,ex,ea,c,n,l,q2⟩=>?_) hs
 subst ex
 obtain rfl:ov=Value.ref a:=rx
 exact ud I2 ea c n l ry fun s3 I3=>⟨J,_,I3,q2⟩
end
section
variable {X:Cx} {pins:Y1} {J:St} {H:Hp} {s:Shared} {A:Around} {E:Z2} {Q:Z2} {c:Value} {b:Bool}
inductive HW (K:Xj) (H:Hp):V->Value->Prop where
 | GJ:HW K H .GJ (.type "NoneType")
 | bl (x:Bool):HW K H (.bl x) (.type "bool")
 | int (i:Int):HW K H (.int i) (.type "int")
 | str (x:Str):HW K H (.str x) (.type "str")
 | Mi (x:UInt64):HW K H (.Mi x) (.type "float")
 | lst {a:Addr} {xs:List V} (e:H a=some (.lst xs)):HW K H (.ref a) (.type "list")
 | Hv {a:Addr} {o:Obj} {xs:List V} (e:H a=some (.Hv o (.lst xs))):HW K H (.ref a) (.type "list")
 | tup {a:Addr} {xs:List V} (e:H a=some (.tup xs)):HW K H (.ref a) (.type "tuple")
 | dK {a:Addr} {gV:List (Key×V)} (e:H a=some (.dK gV)):HW K H (.ref a) (.type "dict")
 | dT {a:Addr} {gV:List (List Key×V)} (e:H a=some (.dT gV)):HW K H (.ref a) (.type "dict")
 | ins {a C dx:Addr} {fs:List (Str×V)} (e:H a=some (.ins C dx fs)) (cl:HZ K C) (ha:PySem.W.findIn K (.ref C) "__class__" = some (some (.builtin "object.__class__")))
   (hn:PySem.W.specialIn K (.builtin "object.__class__") "__get__" = some (some (.builtin "getset_descriptor.__get__"))) (SN:PySem.W.takesIn K (.builtin "object.__class__")=some true)
   (hm:PySem.W.mroIn K C (.type "object")=some true):HW K H (.ref a) (.ref C)
def vF {x:V} {u t:Value} (I:Inv X pins J H s) (rx:RelV x u) (ty:HW X.K H x t) (e:PySem.W.kitOne X.K t c=some b) (h:∀ tk,Q (.bool b) { s with toks:=tk }) :
  wpAny (model X.prog X.w) A (call (.builtin "isinstance") [u,c]) Q E s:=by
 cases ty with
 | GJ=>cases (show u=Value.none from rx);exact Ym PySem.W.kitx_none I.Ib True.intro e (fun z=>nomatch z) h
 | bl y=>cases (show u=Value.bool y from rx);exact Ym PySem.W.kitx_bool I.Ib True.intro e (fun z=>nomatch z) h
 | int i=>obtain ⟨t,q⟩:=(show ∃ t,u=Value.int i t from rx);cases q;exact Ym PySem.W.kitx_int I.Ib True.intro e (fun z=>nomatch z) h
 | str y=>obtain ⟨t,q⟩:=(show ∃ t,u=Value.str y t from rx);cases q;exact Ym PySem.W.kitx_str I.Ib True.intro e (fun z=>nomatch z) h
 | Mi y=>obtain ⟨t,q⟩:=(show ∃ t,u=Value.float y t from rx);cases q;exact Ym PySem.W.kitx_float I.Ib True.intro e (fun z=>nomatch z) h
 | @lst a xs ea =>
  cases (show u=Value.ref a from rx)
  obtain ⟨_,_,n,_,h1⟩:=(show bR X.prog X.w H s.heap a (.lst xs) from I.hok a _ ea)
  exact Ym PySem.W.kitx_list I.Ib ⟨_,h1,rfl⟩ e (fun z=>nomatch z) h
 | @Hv a ob xs ea =>
  cases (show u=Value.ref a from rx)
  obtain ⟨_,_,_,n,_,h1⟩:=(show bR X.prog X.w H s.heap a (.Hv ob (.lst xs)) from I.hok a _ ea)
  exact Ym PySem.W.kitx_list I.Ib ⟨_,h1,rfl⟩ e (fun z=>nomatch z) h
 | @tup a xs ea =>
  cases (show u=Value.ref a from rx)
  obtain ⟨_,_,_,_,p⟩:=(show bR X.prog X.w H s.heap a (.tup xs) from I.hok a _ ea)
  obtain ⟨o,h1,h2,_⟩:=p
  exact Ym PySem.W.kitx_tuple I.Ib ⟨o,h1,h2⟩ e (fun z=>nomatch z) h
 | @dK a gV ea =>
  cases (show u=Value.ref a from rx)
  obtain ⟨_,_,vs,_,p⟩:=(show bR X.prog X.w H s.heap a (.dK gV) from I.hok a _ ea)
  obtain ⟨o,es,ep,h1,h2,_⟩:=p
  exact Ym PySem.W.kitx_dict I.Ib ⟨o,h1,h2.1⟩ e (fun z=>nomatch z) h
 | @dT a gV ea =>
  cases (show u=Value.ref a from rx)
  obtain ⟨_,_,xs,_,o,es,ep,h1,h2,_⟩:=(show bR X.prog X.w H s.heap a (.dT gV) from I.hok a _ ea)
  exact Ym PySem.W.kitx_dict I.Ib ⟨o,h1,h2.1⟩ e (fun z=>nomatch z) h
 | @ins a C dx fs ea cl ha hn SN hm =>
  cases (show u=Value.ref a from rx)
  obtain ⟨mA,O,_⟩:=mq I.hok ea
  obtain ⟨od,Jq,_⟩:=O.look
  exact Ym (PySem.W.kitx_own (cl.get _) cl.hd ha hn SN hm) I.Ib Jq e (fun z=>nomatch z) h
end
structure GH (k:Nat) (A:Around):Prop where
 hd:A.handled=none
 dp:A.depth+3 * k+5 < recursionLimit
 un:A.units+16 * k+200 < cLine
def GH.mono {j k:Nat} {A:Around} (r:GH k A) (h:j<=k):GH j A:=⟨r.hd,by have:=r.dp;lia,by have:=r.un;lia⟩
theorem GH.deeper {k:Nat} {A:Around} (r:GH (k+1) A) (env:Env):GH k (A.deeper env) :=
 ⟨r.hd,by have:=r.dp;show A.depth+1+3 * k+5 < _;lia,by have:=r.un;show A.units+3+16 * k+200 < _;lia⟩
def sR {A:Around} {C:Addr} {us:X8} {kw:List (Str×Value)}:(A.under (.builtin "type.__call__" ⟨.ref C :: us,kw⟩)).depth=A.depth+1:=by
 first | rfl | simp [Around.under,Code.weight,Code.isCreation,Code.isGuard,Code.isCaller,Code.frames,Code.isFrame,guardIds]
def tF {A:Around} {C:Addr} {us:X8} {kw:List (Str×Value)}:(A.under (.builtin "type.__call__" ⟨.ref C :: us,kw⟩)).units=A.units+1:=by
 first | rfl | simp [Around.under,Code.cUnits,Code.frames,Code.isFrame]
def GH.make {k:Nat} {A:Around} (r:GH (k+1) A) (C:Addr) (us:X8) (kw:List (Str×Value)):GH k (A.under (.builtin "type.__call__" ⟨.ref C :: us,kw⟩)) :=
 ⟨r.hd,by have:=r.dp;rw [sR];lia,by have:=r.un;rw [tF];lia⟩
theorem GH.depth {k:Nat} {A:Around} (r:GH k A):A.depth < recursionLimit:=by have:=r.dp;lia
theorem GH.units {k:Nat} {A:Around} (r:GH k A):A.units+64 < cLine:=by have:=r.un;lia
def tW:TA:=fun _ H Q=>Q [] H
def BX (ta:TE) (tr:TA):TA:=fun J H Q=>ta J H fun x H1=>tr J H1 fun xs H2=>Q (x :: xs) H2
section
variable {X:Cx} {e:Expr} {es:List Expr} {te:TE} {t:TA} {pos:Pos}
def fE:PA X [] tW:=fun _ _ _ _ H Q I h=>Calls.spliced_nil ⟨[],H,I,.nil,h⟩
def bZ (ha:PE X e te) (hr:PA X es t) (hs:K1 e es X:=by rfl):PA X (e :: es) (BX te t):=by
 intro pos pins s J H Q I h
 rw [hs]
 show wpAny _ _ (spliced ((false,eval e X.env) :: backTo pos (starEach es X.env))) _ _ s
 refine Calls.spliced_cons (thn (ha pins s J H _ I h) fun u s1 ⟨x,H1,I1,r1,q1⟩=>?_)
 exact thn (hr pos pins s1 J H1 _ I1 q1) fun us s2 ⟨xs,H2,I2,r2,q2⟩=>⟨x :: xs,H2,I2,.cons r1 r2,q2⟩
def GB (t:TA):TE:=fun J H Q=>t J H fun xs H1=>xs.length<=sizeLine/\∀ p,H1 p=none->Q (.ref p) (upd H1 p (.tup xs))
def FR (t:TA):TE:=fun J H Q=>t J H fun xs H1=>xs.length<=sizeLine/\∀ p,H1 p=none->Q (.ref p) (upd H1 p (.lst xs))
def Cn {x1} (h:PA X es t):PE X (.Tuple es x1 pos) (GB t):=by
 intro pins s J H Q I hq
 refine wpAny_Tuple_spliced (thn (h pos pins s J H _ I hq) fun us s1 ⟨xs,H1,I1,r,z,q⟩=>⟨by rw [← r.length];exact z,?_⟩)
 have hf:H1 s1.heap.objs.size=none:=I1.hok.fresh (Zp _)
 refine ⟨.ref s1.heap.objs.size,upd H1 s1.heap.objs.size (.tup xs),I1.laid (t':=s1.toks) (fun b u e=>Zi _ e) (Zp _) ?_,rfl,q _ hf⟩
 exact ⟨z,us,r,LU.of (ZR _ rfl) rfl,⟨_,ZR _ rfl,rfl,_,rfl⟩⟩
def Cm (h:PA X es t):PE X (.List es pos) (FR t):=by
 intro pins s J H Q I hq
 refine wpAny_List_spliced (thn (h pos pins s J H _ I hq) fun us s1 ⟨xs,H1,I1,r,z,q⟩=>⟨by rw [← r.length];exact z,?_⟩)
 have hf:H1 s1.heap.objs.size=none:=I1.hok.fresh (Zp _)
 refine ⟨.ref s1.heap.objs.size,upd H1 s1.heap.objs.size (.lst xs),I1.laid (t':=s1.toks) (fun b u e=>Zi _ e) (Zp _) ?_,rfl,q _ hf⟩
 exact ⟨z,us,0,r,ZR _ rfl⟩
end
abbrev Sp:=List V->Hp->VK->XK->Prop
abbrev KD:=List Env->Hp->Shared->XK->Z2
structure Env0 (P:Program) (w:World) (K:Xj) (mg:Xe) (base:Heap) (A:Around) (outer:List Env) (s:Shared) (H:Hp):Prop where
 frames:A.frames=some outer
 mod:Mod K mg base
 bs:∀ b o,base.get? b=some o->s.heap.get? b=some o/\H b=none
 bsz:base.objs.size<=s.heap.objs.size
 funs:s.heap.FunFrames base outer
 frf:∀ b∈HQ outer,H b=none
 hok:HP P w H s.heap
 bare:AllBare s.gens
noncomputable def CE (outer:List Env) (P:Program) (w:World) (H:Hp) (s:Shared) (Q:VK) (u:Value) (s':Shared):Prop :=
 ∃ v H',s'.os=s.os/\AllBare s'.gens/\Un (HQ outer) [] H H' s.heap s'.heap/\HP P w H' s'.heap/\RelV v u/\Q v H'
noncomputable def CR (CX:KD) (outer:List Env) (P:Program) (w:World) (H:Hp) (s:Shared) (Q:VK) (E:XK) (r:Result) (s':Shared):Prop :=
 match r with
 | .ok (.ret u)=>CE outer P w H s Q u s'
 | .ok _=>False
 | .error e=>CX outer H s E e s'
structure FnOk (P:Program) (w:World) (K:Xj) (mg:Xe) (base:Heap) (CX:KD) (k:Nat) (f:Addr) (fd:FuncData) (ps:List Str) (sp:Sp):Prop where
 len:∀ vs H Q E,sp vs H Q E->vs.length=ps.length
 run:∀ (A:Around) (outer:List Env) (s:Shared) (H:Hp) (args:Args) (us:X8) (vs:List V) (Q:VK) (E:XK),GH k A->Env0 P w K mg base A outer s H->BindsTo s fd args (ps.zip us)->aM vs us->sp vs H Q E →
  codeAny (model P w) A (.call (.ref f) args) (CR CX outer P w H s Q E) s
def FnOk.imp {P:Program} {w:World} {K:Xj} {mg:Xe} {base:Heap} {CX:KD} {k:Nat} {f:Addr} {fd:FuncData} {ps:List Str} {sp Se:Sp} (F:FnOk P w K mg base CX k f fd ps sp)
  (h:∀ vs H Q E,Se vs H Q E->sp vs H Q E):FnOk P w K mg base CX k f fd ps Se :=
 ⟨fun vs H Q E q=>F.len vs H Q E (h _ _ _ _ q),fun A outer s H args us vs Q E hr he hb hv hs=>F.run A outer s H args us vs Q E hr he hb hv (h _ _ _ _ hs)⟩
def Env0.make {P:Program} {w:World} {K:Xj} {mg:Xe} {base:Heap} {A:Around} {outer:List Env} {s:Shared} {H:Hp} (e:Env0 P w K mg base A outer s H) (C:Addr) (us:X8) (kw:List (Str×Value)) :
  Env0 P w K mg base (A.under (.builtin "type.__call__" ⟨.ref C :: us,kw⟩)) outer s H:=⟨by first | exact e.frames | (simpa [Around.under,Code.envs,Code.isFrame,pushEnvs] using e.frames),e.mod,e.bs,e.bsz,e.funs,e.frf,e.hok,e.bare⟩
section
variable {X:Cx} {pins:Y1} {J:St} {H:Hp} {s s':Shared}
def Inv.Ol (I:Inv X pins J H s):Env0 X.prog X.w X.K X.mg X.base X.A X.stack s H :=
 ⟨I.ok.frames,I.ok.mod,I.bs,ZG I.ok.bsz I.sz,I.stack,I.JQ,I.hok,I.bare⟩
def Inv.after {Q:VK} {u:Value} (I:Inv X pins J H s) (h:CE X.stack X.prog X.w H s Q u s'):EP X pins J Q u s':=by
 obtain ⟨v,H',os,bare,un,hok,r,q⟩:=h
 obtain ⟨hh,g,d,t,NI⟩:=s'
 obtain rfl:NI=s.os:=os
 exact ⟨v,H',I.call (h':=hh) (g':=g) (d':=d) (t':=t) (ch:=[]) un hok bare (fun b z=>absurd z (by simp)),r,q⟩
end
def B7 (sp:Sp) (Iv:List V) (E:XK) (t:TA):TE:=fun J H Q=>t J H fun vs H1=>sp (vs++Iv) H1 Q E
def u6 (C:Addr) (m:Str) (sp:Sp) (Iv:List V) (E:XK) (ta:TE) (t:TA):TE:=fun J H Q=>ta J H fun x H1=>∃ a dx fs,x=.ref a/\H1 a=some (.ins C dx fs)/\fs.lookup m=none ∧
 t J H1 fun vs H2=>sp (x :: (vs++Iv)) H2 Q E
def za (C:Addr) (sp:Sp) (Iv:List V) (E:XK) (t:TA):TE:=fun J H Q=>t J H fun vs H1=>∀ x dx,H1 x=none->H1 dx=none->dx ≠ x →
 sp (.ref x :: (vs++Iv)) (upd (upd H1 dx (.own x)) x (.ins C dx [])) (fun v H2=>v=.GJ/\Q (.ref x) H2) E
def Binds (K:Xj) (fd:FuncData) (ps:List Str) (ds:X8):Prop :=
 ∀ (s:Shared) (us:X8),K.In s.heap->(us++ds).length=ps.length->BindsTo s fd ⟨us,[]⟩ (ps.zip (us++ds))
def Binds.all {K:Xj} {fd:FuncData} {ps:List Str} (h:∀ us:X8,us.length=ps.length->bindArgs fd ⟨us,[]⟩=pure (ps.zip us)):Binds K fd ps []:=fun s us _ hl=>by
 rw [ZS] at hl ⊢
 exact .of_eq (h us hl)
def iW (CX:KD) (X:Cx) (E:XK):Prop:=∀ (pins:Y1) (J:St) (H:Hp) (s:Shared) (e:Value) (s':Shared),Inv X pins J H s->CX X.stack H s E e s'->X.xe e s'
section
variable {X:Cx} {CX:KD} {k:Nat} {f C:Addr} {fd:FuncData} {ps:List Str} {sp:Sp} {Iv:List V} {ds:X8} {E:XK} {x m:Str} {p pos apos:Pos} {e o:Expr} {es:List Expr} {ta:TE} {t:TA}
def tR {pins:Y1} {J:St} {H:Hp} {s:Shared} {Q:VK} {us:X8} {vs:List V} (F:FnOk X.prog X.w X.K X.mg X.base CX k f fd ps sp) (hr:GH k X.A) (hb:Binds X.K fd ps ds) (hd:aM Iv ds) (hx:iW CX X E)
  (I:Inv X pins J H s) (r:aM vs us) (h:sp (vs++Iv) H Q E):wpAny (model X.prog X.w) X.A (call (.ref f) us) (EP X pins J Q) X.xe s:=by
 have r2:aM (vs++Iv) (us++ds):=r.append hd
 have hl:(us++ds).length=ps.length:=by rw [← r2.length];exact F.len _ _ _ _ h
 refine wpAny_call (codeAny_mono (F.run X.A X.stack s H ⟨us,[]⟩ (us++ds) (vs++Iv) Q E hr I.Ol (hb s us I.Ib hl) r2 h) fun r s' hq=>?_)
 cases r with
 | error e=>exact hx pins J H s e s' I hq
 | ok fl =>
  cases fl with
  | ret u=>exact I.after hq
  | next=>exact False.elim hq
  | brk=>exact False.elim hq
  | cont=>exact False.elim hq
def pP (F:FnOk X.prog X.w X.K X.mg X.base CX k f fd ps sp) (hr:GH k X.A) (hg:Gl X x) (hm:X.mg x=some (.ref f)) (hk:PySem.W.keepIn X.K (.ref f)=true) (hb:Binds X.K fd ps ds) (hd:aM Iv ds) (hx:iW CX X E)
  (ha:PA X (e :: es) t) (Hz:K3 x:=by decide) (he:K1 e es X:=by rfl) (hpl:K2 pos es X:=by rfl) :
  PE X (.Call (.Name x p) (e :: es) [] pos) (B7 sp Iv E t):=by
 intro pins s J H Q I h
 refine Y8 (mG I hg hm ?_ Hz)
 refine X2 (h₀:=X.base) I.ok.mod.NU hk (thn (ha pos pins s J H _ I h) fun us s1 ⟨vs,H1,I1,r,q⟩=>⟨I1.Ib,?_⟩) he hpl
 exact tR F hr hb hd hx I1 r q
def qb {pl:Sem Bool} (he:PE X o ta) (c:HZ X.K C) (hm:Meth X.K C m f) (F:FnOk X.prog X.w X.K X.mg X.base CX k f fd ps sp) (hr:GH k X.A) (hb:Binds X.K fd ps ds) (hd:aM Iv ds) (hx:iW CX X E) (ha:PA X (e :: es) t)
  (Io:K1 e es X:=by rfl) (hpl:K2 pos es X:=by rfl)
  (ht:eval (.Call (.Attribute o m apos) (e :: es) [] pos) X.env=(do
   let ov ← eval o X.env
   standAt apos.atName
   let (f,first) ← holding [ov] (getMethod ov m pl)
   callWith pos f first (backTo pos (starEach (e :: es) X.env)) (backToKw pos (keywordEach [] X.env))):=by rfl) :
  PE X (.Call (.Attribute o m apos) (e :: es) [] pos) (u6 C m sp Iv E ta t):=by
 intro pins s J H Q I h
 refine PySem.W.methodCall_KW (pl:=pl) (thn (he pins s J H _ I h) fun u s1 ⟨x,H1,I1,rx,a,dx,fs,ex,ea,l,q⟩=>?_) ht
 subst ex
 obtain rfl:u=Value.ref a:=rx
 refine nZ I1 ea c hm l ?_
 refine X2 (first:=[.ref a]) (h₀:=X.base) I.ok.mod.NU hm.kp (thn (ha pos pins s1 J H1 _ I1 q) fun us s2 ⟨vs,H2,I2,r,q2⟩=>⟨I2.Ib,?_⟩) Io hpl
 exact tR (us:=.ref a :: us) (vs:=.ref a :: vs) F hr hb hd hx I2 (.cons rfl r) q2
def qK {pl:Sem Bool} (he:PE X o ta) (c:HZ X.K C) (hm:Meth X.K C m f) (F:FnOk X.prog X.w X.K X.mg X.base CX k f fd ps sp) (hr:GH k X.A) (hb:Binds X.K fd ps ds) (hd:aM Iv ds) (hx:iW CX X E)
  (ht:eval (.Call (.Attribute o m apos) [] [] pos) X.env=(do
   let ov ← eval o X.env
   standAt apos.atName
   let (f,first) ← holding [ov] (getMethod ov m pl)
   callWith pos f first (backTo pos (starEach [] X.env)) (backToKw pos (keywordEach [] X.env))):=by rfl) :
  PE X (.Call (.Attribute o m apos) [] [] pos) (u6 C m sp Iv E ta tW):=by
 intro pins s J H Q I h
 refine PySem.W.methodCall_KW (pl:=pl) (thn (he pins s J H _ I h) fun u s1 ⟨x,H1,I1,rx,a,dx,fs,ex,ea,l,q⟩=>?_) ht
 subst ex
 obtain rfl:u=Value.ref a:=rx
 refine nZ I1 ea c hm l ?_
 exact PySem.W.callWith_K0 (first:=[.ref a]) I1.Ib hm.kp (tR (us:=[.ref a]) (vs:=[.ref a]) F hr hb hd hx I1 (.cons rfl .nil) q)
structure Mk (K:Xj) (C f:Addr):Prop where
 makes:PySem.W.makesIn K C=true
 init:PySem.W.findIn K (.ref C) "__init__" = some (some (.ref f))
 fn:PySem.W.isFn K (.ref f)=true
 kp:PySem.W.keepIn K (.ref C)=true
def qW {pins:Y1} {J:St} {H:Hp} {s:Shared} {Q:VK} {us:X8} {vs:List V} (Mq:Mk X.K C f) (F:FnOk X.prog X.w X.K X.mg X.base CX k f fd ps sp) (hr:GH (k+1) X.A) (hb:Binds X.K fd ps ds) (hd:aM Iv ds)
  (hx:iW CX X E) (I:Inv X pins J H s) (r:aM vs us)
  (h:∀ x dx,H x=none->H dx=none->dx ≠ x->sp (.ref x :: (vs++Iv)) (upd (upd H dx (.own x)) x (.ins C dx [])) (fun v H2=>v=.GJ/\Q (.ref x) H2) E) :
  wpAny (model X.prog X.w) X.A (call (.ref C) us) (EP X pins J Q) X.xe s:=by
 have hq:=h (s.heap.objs.size+1) s.heap.objs.size (I.hok.fresh (Xo _)) (I.hok.fresh (Zp _)) (Zb (Yp _))
 have I2:=Inv.made (C:=C) I
 have r2:aM (V.ref (s.heap.objs.size+1) :: (vs++Iv)) (Value.ref (s.heap.objs.size+1) :: (us++ds)):=.cons rfl (r.append hd)
 have hl:(Value.ref (s.heap.objs.size+1) :: us++ds).length=ps.length:=by
  have e:=r2.length
  rw [F.len _ _ _ _ hq] at e
  exact e.symm
 refine wpAny_call (zr (f:=f) I.Ib Mq.makes Mq.init (beq_iff_eq.mp Mq.fn) (codeAny_mono (F.run _ X.stack _ _ ⟨Value.ref (s.heap.objs.size+1) :: us,[]⟩ (Value.ref (s.heap.objs.size+1) :: (us++ds)) _ _ E (hr.make C us [])
  (I2.Ol.make C us []) (hb _ (Value.ref (s.heap.objs.size+1) :: us) I2.Ib hl) r2 hq) fun r s' JK=>?_))
 cases r with
 | error e=>exact hx pins J _ _ e s' I2 JK
 | ok fl =>
  cases fl with
  | ret u =>
   obtain ⟨v,H',I3,rv,ev,q3⟩:=I2.after JK
   subst ev
   exact ⟨rv,⟨V.ref (s.heap.objs.size+1),H',I3,rfl,q3⟩⟩
  | next=>exact False.elim JK
  | brk=>exact False.elim JK
  | cont=>exact False.elim JK
def Bf (Mq:Mk X.K C f) (F:FnOk X.prog X.w X.K X.mg X.base CX k f fd ps sp) (hr:GH (k+1) X.A) (hg:Gl X x) (hm:X.mg x=some (.ref C)) (hb:Binds X.K fd ps ds) (hd:aM Iv ds) (hx:iW CX X E)
  (ha:PA X (e :: es) t) (Hz:K3 x:=by decide) (he:K1 e es X:=by rfl) (hpl:K2 pos es X:=by rfl) :
  PE X (.Call (.Name x p) (e :: es) [] pos) (za C sp Iv E t):=by
 intro pins s J H Q I h
 refine Y8 (mG I hg hm ?_ Hz)
 refine X2 (h₀:=X.base) I.ok.mod.NU Mq.kp (thn (ha pos pins s J H _ I h) fun us s1 ⟨vs,H1,I1,r,q⟩=>⟨I1.Ib,?_⟩) he hpl
 exact qW Mq F hr hb hd hx I1 r q
def wR (Mq:Mk X.K C f) (F:FnOk X.prog X.w X.K X.mg X.base CX k f fd ps sp) (hr:GH (k+1) X.A) (hg:Gl X x) (hm:X.mg x=some (.ref C)) (hb:Binds X.K fd ps ds) (hd:aM Iv ds) (hx:iW CX X E)
  (Hz:K3 x:=by decide):PE X (.Call (.Name x p) [] [] pos) (za C sp Iv E tW):=by
 intro pins s J H Q I h
 refine Y8 (mG I hg hm ?_ Hz)
 exact PySem.W.callWith_K0 I.Ib Mq.kp (qW (us:=[]) Mq F hr hb hd hx I .nil h)
end
structure jj (N P:List Str) (sc:Scope):Prop where
 kind:sc.kind=.function
 co:sc.isCoroutine=false
 gen:sc.isGenerator=false
 nd:N.Nodup
 pre:N.take P.length=P
 par:∀ x∈P,sc.names.lookup x=some .local\/sc.names.lookup x=some .cell
 My:∀ y∈sc.names,y.2 ≠ .free
theorem oJ {kindOf:Str->Option NameKind} {x:Str}:∀ {binds:List (Str×Value)} {m:Xe},(∀ v,(x,v) ∉ binds)->bindL kindOf binds m x=m x
 | [],_,_=>rfl
 | (n,v) :: r,m,h=>by
  unfold bindL
  rw [oJ fun w hw=>h w (Zw _ hw)]
  split
  ·have:x ≠ n:=by rintro rfl;exact h v Zu
   simp [this]
  ·rfl
theorem o7 {kindOf:Str->Option NameKind} {x:Str}:∀ {binds:List (Str×Value)} {m:Xe},(∀ v,(x,v) ∉ binds)->bindC kindOf binds m x=m x
 | [],_,_=>rfl
 | (n,v) :: r,m,h=>by
  unfold bindC
  rw [o7 fun w hw=>h w (Zw _ hw)]
  split
  ·rfl
  ·have:x ≠ n:=by rintro rfl;exact h v Zu
   simp [this]
theorem oH {kindOf:Str->Option NameKind} {x:Str} {v:Value}:∀ {P:List Str} {vs:X8} {i:Nat} {m:Xe},P.Nodup->P[i]?=some x->vs[i]?=some v->kindOf x=some .local →
  bindL kindOf (P.zip vs) m x=some v
 | [],_,_,_,_,h,_,_=>by simp at h
 | _ :: _,[],_,_,_,_,h,_=>by simp at h
 | p :: P,w :: vs,0,m,nd,h1,h2,hk=>by
  simp at h1 h2;subst h1;subst h2
  show bindL kindOf ((p,w) :: P.zip vs) m p=_
  unfold bindL
  rw [oJ fun v hv=>(Zh.mp nd).1 (List.of_mem_zip hv).1,Zq hk]
  simp
 | p :: P,w :: vs,i+1,m,nd,h1,h2,hk=>by
  show bindL kindOf ((p,w) :: P.zip vs) m x=_
  unfold bindL
  exact oH (i:=i) (Zh.mp nd).2 (by simpa using h1) (by simpa using h2) hk
theorem oQ {kindOf:Str->Option NameKind} {x:Str} {v:Value}:∀ {P:List Str} {vs:X8} {i:Nat} {m:Xe},P.Nodup->P[i]?=some x->vs[i]?=some v->kindOf x ≠ some .local →
  bindC kindOf (P.zip vs) m x=some v
 | [],_,_,_,_,h,_,_=>by simp at h
 | _ :: _,[],_,_,_,_,h,_=>by simp at h
 | p :: P,w :: vs,0,m,nd,h1,h2,hk=>by
  simp at h1 h2;subst h1;subst h2
  show bindC kindOf ((p,w) :: P.zip vs) m p=_
  unfold bindC
  rw [o7 fun v hv=>(Zh.mp nd).1 (List.of_mem_zip hv).1,Zo hk]
  simp
 | p :: P,w :: vs,i+1,m,nd,h1,h2,hk=>by
  show bindC kindOf ((p,w) :: P.zip vs) m x=_
  unfold bindC
  exact oQ (i:=i) (Zh.mp nd).2 (by simpa using h1) (by simpa using h2) hk
def start (N:List Str) (vs:List V):St:=vs.map some++List.replicate (N.length - vs.length) none
noncomputable def iK (CX:KD) (P:Program) (w:World) (K:Xj) (mg:Xe) (base:Heap) (N:List Str) (qual:Str) (scope:Scope) (f:Addr) (cd:Value) (A:Around) (outer:List Env) (s:Shared) (H:Hp) (E:XK):Cx where
 prog:=P
 w:=w
 K:=K
 mg:=mg
 base:=base
 A:=A.deeper (envOfC qual scope s.heap.objs.size f cd)
 N:=N
 s₀:=s
 H₀:=H
 env:=envOfC qual scope s.heap.objs.size f cd
 outer:=outer
 stack:=envOfC qual scope s.heap.objs.size f cd :: outer
 ex:=[]
 calm:=true
 fn:=fun _=>true
 pn:=[]
 xe:=fun e s'=>wpAny (model P w) (A.deeper (envOfC qual scope s.heap.objs.size f cd)) (leaving (envOfC qual scope s.heap.objs.size f cd) e) (fun _ NB=>CX outer H s E e NB) (fun e' NB=>CX outer H s E e' NB) s'
def sF {sc:Scope} {n:Nat} {x:Str} (h:sc.names.lookup x=some .cell):∃ c,(cellsFrom n sc.names []).lookup x=some c:=by
 have q:=PySem.W.cellsFrom_some sc.names n [] (.inl h)
 exact Yn.mp q
def wc {CX:KD} {P:Program} {w:World} {K:Xj} {mg:Xe} {base:Heap} {N ps:List Str} {qual:Str} {scope:Scope} {f:Addr} {cd:Value} {A:Around} {outer:List Env} {s s1:Shared} {H:Hp} {E:XK} {us:X8} {vs:List V}
  (S:jj N ps scope) (hd:A.handled=none) (e0:Env0 P w K mg base A outer s H) (hl:vs.length=ps.length) (r:aM vs us)
  (x:InCallC s s.heap.objs.size (bindL (envOfC qual scope s.heap.objs.size f cd).kindOf (ps.zip us) fun _=>none) (cellsFrom (s.heap.objs.size+1) scope.names []) (bindC (envOfC qual scope s.heap.objs.size f cd).kindOf (ps.zip us) fun _=>none) s1) :
  Inv (iK CX P w K mg base N qual scope f cd A outer s H E) [] (start N vs) H s1:=by
 have hpl:ps.length<=N.length:=by have:=congrArg List.length S.pre;rw [YY] at this;lia
 obtain ⟨h1,tk,rfl,hk⟩:=x.done
 have NO:∀ b:Addr,b ∉ (iK CX P w K mg base N qual scope f cd A outer s H E).ex:=fun b z=>absurd (show b∈([]:Xa) from z) (by simp)
 refine ⟨⟨e0.mod,S.kind,rfl,rfl,Zp _,fun y z c h1 h2=>?_,fun y hy=>?_,fun y c _ h=>?_,fun _=>hd,Around.frames_deeper e0.frames,.inr ⟨rfl,rfl⟩,fun b z=>absurd z (NO b),e0.bs,e0.bsz,fun b _ _=>NO b,fun b z=>absurd z (NO b),e0.funs,e0.frf⟩,
  rfl,e0.bare,Un.kept hk,⟨_,x.toInCall.ns,fun i y v h1 h2 h3=>?_⟩,fun y c h=>⟨_,x.cell y c h⟩,e0.hok.fresh (Zp _),fun y c h=>?_,fun p hp=>absurd (show p∈([]:Y1) from hp) (by simp),e0.hok.kept hk,?_⟩
 ·exact name_of_addr x.apart (YB h1) (YB h2)
 ·have hy:scope.names.lookup y=some .cell\/scope.names.lookup y=some .free:=hy
  rcases hy with hy | hy
  ·exact sF hy
  ·exact absurd rfl (S.My _ (YB hy))
 ·exact XU (x.above y c (YB h))
 ·have hi:i < vs.length:=by
   unfold start at h2
   by_cases hi:i < vs.length
   ·exact hi
   ·rw [Yy (by simpa using hi)] at h2
    rw [Yc] at h2
    split at h2 <;> cases h2
  have ha:vs[i]?=some v:=by
   unfold start at h2
   rw [ZA (by simpa using hi),ZP] at h2
   cases e:vs[i]? with
   | none=>rw [e] at h2;cases h2
   | some a=>rw [e] at h2;cases h2;rfl
  obtain ⟨u,hu,rv⟩:=r.get ha
  have hp:ps[i]?=some y:=by
   rw [← S.pre,List.getElem?_take_of_lt (by lia)];exact h1
  have SD:ps.Nodup:=by rw [← S.pre];exact S.nd.sublist (List.take_sublist _ _)
  refine ⟨u,rv,?_⟩
  rcases S.par y (YS hp) with k | k
  ·exact .inl ⟨k,oH SD hp hu k⟩
  ·obtain ⟨c,e⟩:=sF (n:=s.heap.objs.size+1) k
   refine .inr ⟨.inl k,c,e,?_⟩
   have q:=x.cell y c e
   rw [oQ SD hp hu (by show scope.names.lookup y ≠ _;rw [k];decide)] at q
   exact q
 ·exact e0.hok.fresh (XU (x.above y c (YB h)))
 ·unfold start
  show _=N.length
  rw [Zv,Zt,YH]
  lia
def BS {CX:KD} {P:Program} {w:World} {K:Xj} {mg:Xe} {base:Heap} {k:Nat} {f:Addr} {name qual:Str} {params:Arguments} {body:List Stmt} {scope:Scope} {dV kV doc pm GP ct oc:Value} {an od:Option Addr}
  {JD:Array (Wq)} {N ps:List Str} {sp:Sp} (lk:K.lookup f=some ⟨oc,od,.func (PySem.W.fnOf name qual params body scope dV kV doc pm an GP ct),JD⟩) (hcd:PySem.W.codeIn K GP qual=true) (S:jj N ps scope)
  (len:∀ vs H Q E,sp vs H Q E->vs.length=ps.length)
  (Jv:∀ (A:Around) (outer:List Env) (s:Shared) (H:Hp) (vs:List V) (Q:VK) (E:XK),GH k (A.deeper (envOfC qual scope s.heap.objs.size f GP))->sp vs H Q E →
   ∃ t,IC (iK CX P w K mg base N qual scope f GP A outer s H E) body t/\t { nx:=fun _ H'=>Q .GJ H',rt:=Q } (start N vs) H) :
  FnOk P w K mg base CX (k+1) f (PySem.W.fnOf name qual params body scope dV kV doc pm an GP ct) ps sp:=by
 refine ⟨len,fun A outer s H args us vs Q E hr e0 hb r Ll=>?_⟩
 have hl:=len _ _ _ _ Ll
 have KX:K.In s.heap:=e0.mod.NU.keeps fun b o e=>(e0.bs b o e).1
 have lim:s.heap.NoLimit:=e0.mod.nolimit.keeps fun b o e=>(e0.bs b o e).1
 have IJ:∀ y∈ps.zip us,scope.names.lookup y.1=some .local\/(scope.names.lookup y.1=some .cell/\((cellsFrom (s.heap.objs.size+1) scope.names []).lookup y.1).isSome=true):=fun ⟨n,v⟩ hy=>by
  rcases S.par n (List.of_mem_zip hy).1 with q | q
  ·exact .inl q
  ·exact .inr ⟨q,PySem.W.cellsFrom_some _ _ _ (.inl q)⟩
 refine codeAny_call_function hr.depth (KX _ _ lk) rfl S.co S.gen rfl (PySem.W.codeRec_of KX hcd) (hb _ _ _ _ ?_)
 refine wpAny_newFunctionEnv_cells S.kind IJ fun env he s1 x=>?_
 subst he
 refine ⟨lim.keeps x.toInCall.keep,codeAny_func ?_⟩
 obtain ⟨t,ht,hq⟩:=Jv A outer s H vs Q E (hr.deeper _) Ll
 have I:Inv (iK CX P w K mg base N qual scope f GP A outer s H E) [] (start N vs) H s1:=wc S hr.hd e0 hl r x
 refine YN (ht [] s1 (start N vs) H _ I hq) (fun fl s' hs=>?_) fun e s' hs=>hs
 have fin:∀ {J':St} {H':Hp} {v:V} {u:Value},Inv (iK CX P w K mg base N qual scope f GP A outer s H E) [] J' H' s'->RelV v u->Q v H'->CE outer P w H s Q u s' :=
  fun {J' H' v u} Jq rv q=>⟨v,H',Jq.os,Jq.bare,Jq.base,Jq.hok,rv,q⟩
 cases fl with
 | ret u =>
  obtain ⟨v,J',H',Jq,rv,q⟩:=hs
  exact fin Jq rv q
 | next =>
  obtain ⟨J',H',Jq,q⟩:=hs
  exact fin (v:=V.GJ) (u:=Value.none) Jq rfl q
 | brk =>
  obtain ⟨_,_,_,q⟩:=hs
  exact False.elim q
 | cont =>
  obtain ⟨_,_,_,q⟩:=hs
  exact False.elim q
section
variable {X:Cx} {x:Str} {p pos:Pos} {e:Expr} {es:List Expr} {t:TA} {id T:String} {r:List V->Hp->VK->Prop}
def Sb (r:List V->Hp->VK->Prop) (t:TA):TE:=fun J H Q=>t J H fun vs H1=>r vs H1 Q
def sv (hc:dN X (.builtin id) r) (hg:Gl X x) (hm:X.mg x=none) (hv:bootBuiltins x=some (.builtin id)) (ha:PA X (e :: es) t) (hn:x ≠ "__name__" := by decide) (Hz:K3 x:=by decide)
  (he:K1 e es X:=by rfl) (hpl:K2 pos es X:=by rfl):PE X (.Call (.Name x p) (e :: es) [] pos) (Sb r t):=by
 intro pins s J H Q I h
 refine Y8 (kY I hg hm hv ?_ hn Hz)
 exact PyProof.Rows.callWith_builtin1 (thn (ha pos pins s J H _ I h) fun us s1 ⟨vs,H1,I1,r1,q1⟩=>hc pins s1 J H1 vs us Q I1 r1 q1) he hpl
def vV (hc:dN X (.type T) r) (hg:Gl X x) (hm:X.mg x=none) (hv:bootBuiltins x=some (.type T)) (ha:PA X (e :: es) t) (hn:x ≠ "__name__" := by decide) (Hz:K3 x:=by decide)
  (he:K1 e es X:=by rfl) (hpl:K2 pos es X:=by rfl):PE X (.Call (.Name x p) (e :: es) [] pos) (Sb r t):=by
 intro pins s J H Q I h
 refine Y8 (kY I hg hm hv ?_ hn Hz)
 exact YG (thn (ha pos pins s J H _ I h) fun us s1 ⟨vs,H1,I1,r1,q1⟩=>hc pins s1 J H1 vs us Q I1 r1 q1) he hpl
end
end L2
namespace HT
open PySem PyProof.Rows
section
variable {prog:Program} {w:World} {A:Around} {E:Z2} {s:Shared}
def HA (n d:Nat):Option Int->Nat
 | none=>d
 | some v=>if v < 0 then (v+(n:Int)).toNat else min v.toNat n
end
end HT
namespace L2
open PySem PySem.Spec PyProof.Rows
abbrev TO:=St->Hp->(Option Int->Hp->Prop)->Prop
def PO (X:Cx) (e:Option Expr) (t:TO):Prop :=
 ∀ (pins:Y1) (s:Shared) (J:St) (H:Hp) (Q:Option Int->Hp->Prop),Inv X pins J H s->t J H Q →
  wpAny (model X.prog X.w) X.A (evalPart e X.env) (fun u s'=>∃ o H',Inv X pins J H' s'/\IsPart u o/\Q o H') X.xe s
def A1:TO:=fun _ H Q=>Q none H
def FJ (t:TE):TO:=fun J H Q=>t J H fun x H1=>∃ i,x=.int i/\Q (some i) H1
section
variable {X:Cx} {e:Expr} {te:TE} {lo hi:Option Expr} {tl th:TO} {pos p2:Pos}
def uF:PO X none A1:=by
 intro pins s J H Q I h
 rw [evalPart_none]
 exact ZV ⟨none,H,I,.none,h⟩
def vp (h:PE X e te):PO X (some e) (FJ te):=by
 intro pins s J H Q I hw
 rw [evalPart_some]
 refine thn (h pins s J H _ I hw) fun u s1 ⟨x,H1,I1,r1,q1⟩=>?_
 obtain ⟨i,rfl,q⟩:=q1
 obtain ⟨t,rfl⟩:=r1
 exact ⟨some i,H1,I1,.int i t,q⟩
noncomputable def Ml (X:Cx) (r:V->Option Int->Option Int->Hp->VK->Prop):Prop :=
 ∀ (pins:Y1) (s:Shared) (J:St) (H:Hp) (x:V) (v vl vu:Value) (lo hi:Option Int) (sl:Addr) (Q:VK),Inv X pins J H s->RelV x v->s.heap.IsSliceOf sl vl vu .none->IsPart vl lo->IsPart vu hi->r x lo hi H Q →
  ∃ T id,typeLookup (.type T) "__getitem__" = pure (some (.builtin id))/\s.TypeIs v T/\wpAny (model X.prog X.w) X.A (getItem v (.ref sl)) (EP X pins J Q) X.xe s
def Ml.or {r r':V->Option Int->Option Int->Hp->VK->Prop} (h:Ml X r) (h':Ml X r'):Ml X (fun x lo hi H Q=>r x lo hi H Q\/r' x lo hi H Q):=by
 intro pins s J H x v vl vu lo hi sl Q I rx hs pl pu q
 rcases q with q | q
 ·exact h pins s J H x v vl vu lo hi sl Q I rx hs pl pu q
 ·exact h' pins s J H x v vl vu lo hi sl Q I rx hs pl pu q
def Uj (r:V->Option Int->Option Int->Hp->VK->Prop) (te:TE) (tl th:TO):TE:=fun J H Q=>te J H fun x H1=>tl J H1 fun l H2=>th J H2 fun u H3=>r x l u H3 Q
def rE {r:V->Option Int->Option Int->Hp->VK->Prop} (hr:Ml X r) (he:PE X e te) (hl:PO X lo tl) (hu:PO X hi th):PE X (.Subscript e (.Slice lo hi none p2) pos) (Uj r te tl th):=by
 intro pins s J H Q I h
 refine Subscript_ (thn (he pins s J H _ I h) fun v s1 ⟨x,H1,I1,r1,q1⟩=>?_)
 refine wpAny_Slice (thn (hl pins s1 J H1 _ I1 q1) fun vl s2 ⟨l,H2,I2,pl,q2⟩=>thn (hu pins s2 J H2 _ I2 q2) fun vu s3 ⟨u,H3,I3,pu,q3⟩=>?_)
 rw [evalPart_none]
 refine ZV ?_
 have I4:Inv X pins J H3 { s3 with heap:=s3.heap.push { cls:=.type "slice",data:=.fields #[vl,vu,.none] } }:=I3.kept (t':=s3.toks) fun b ob q=>Zi _ q
 obtain ⟨T,id,hT,ht,hg⟩:=hr pins { s3 with heap:=s3.heap.push { cls:=.type "slice",data:=.fields #[vl,vu,.none] } } J H3 x v vl vu l u s3.heap.objs.size Q I4 r1 (Heap.IsSliceOf.new ..) pl pu q3
 show wpAny (model X.prog X.w) X.A (subscriptTail e (.Slice lo hi none p2) v (.ref s3.heap.objs.size)) (EP X pins J Q) X.xe { s3 with heap:=s3.heap.push { cls:=.type "slice",data:=.fields #[vl,vu,.none] } }
 exact tail_any (ops:=[.ref s3.heap.objs.size,v]) ht hT hg (by with_unfolding_all rfl)
def vQ (xs:List V) (lo hi:Option Int):List V:=(xs.drop (HT.HA xs.length 0 lo)).take (HT.HA xs.length xs.length hi - HT.HA xs.length 0 lo)
def r6 (xs:List V) (lo hi:Option Int):(vQ xs lo hi).length<=xs.length:=by
 unfold vQ
 rw [YY,ZJ]
 lia
end
def MC (n:Nat) (i:Int):Option Nat:=if 0<=i then (if i < n then some i.toNat else none) else if -(n:Int)<=i then some (i+n).toNat else none
def MY {α:Type} (xs:List α) (i:Int):Option α:=(MC xs.length i).bind fun j=>xs[j]?
def uy {n:Nat} {i:Int} {j:Nat} (h:MC n i=some j):seqIndex? i n=some j/\j < n/\-(n:Int)<=i/\i < n:=by
 unfold MC at h
 by_cases h0:0<=i
 ·rw [Zq h0] at h
  by_cases h1:i < n
  ·rw [Zq h1] at h
   have e:i.toNat=j:=Zn h
   exact ⟨by rw [seqIndex_of h0 h1,e],by lia,by lia,h1⟩
  ·rw [Zo h1] at h;cases h
 ·rw [Zo h0] at h
  by_cases h1:-(n:Int)<=i
  ·rw [Zq h1] at h
   have e:(i+n).toNat=j:=Zn h
   exact ⟨by rw [seqIndex_neg (by lia) h1,e],by lia,h1,by lia⟩
  ·rw [Zo h1] at h;cases h
def qy {α:Type} {xs:List α} {i:Int} {v:α} (h:MY xs i=some v):∃ j,seqIndex? i xs.length=some j/\xs[j]?=some v/\j < xs.length/\-(xs.length:Int)<=i/\i < xs.length:=by
 unfold MY at h
 cases e:MC xs.length i with
 | none=>rw [e] at h;cases h
 | some j =>
  rw [e] at h
  obtain ⟨h1,h2,h3,h4⟩:=uy e
  exact ⟨j,h1,h,h2,h3,h4⟩
def gI (b:Expr):Prop:=∀ o i,subscripted b false o i=operate [o,i] (getItem o i)
def Ir (X:Cx) (r:R2):Prop :=
 ∀ (value slice:Expr) (pins:Y1) (s:Shared) (J:St) (H:Hp) (x y:V) (v u:Value) (Q:VK),Inv X pins J H s->RelV x v->RelV y u->r x y H Q →
  subscripted slice false v u=operate [v,u] (getItem v u)->wpAny (model X.prog X.w) X.A (subscriptTail value slice v u) (EP X pins J Q) X.xe s
def Np (X:Cx) (id:String) (r:V->List V->Hp->VK->Prop):Prop :=
 ∀ (pins:Y1) (s:Shared) (J:St) (H:Hp) (x:V) (xs:List V) (v:Value) (us:X8) (Q:VK),Inv X pins J H s->RelV x v->aM xs us->r x xs H Q →
  wpAny (model X.prog X.w) X.A (call (.builtin id) (v :: us)) (EP X pins J Q) X.xe s
section
variable {X:Cx} {a b:Expr} {ta tb:TE} {pos:Pos}
def Ir.or {r r':R2} (h:Ir X r) (h':Ir X r'):Ir X (fun x y H Q=>r x y H Q\/r' x y H Q):=by
 intro value slice pins s J H x y v u Q I rx ry q hs
 rcases q with q | q
 ·exact h value slice pins s J H x y v u Q I rx ry q hs
 ·exact h' value slice pins s J H x y v u Q I rx ry q hs
def mP {r:R2} (hr:Ir X r) (ha:PE X a ta) (hb:PE X b tb) (hs:gI b):PE X (.Subscript a b pos) (M7 r ta tb):=by
 intro pins s J H Q I h
 exact Subscript_ (Dv ha hb I h fun v u s2 x y H2 I2 rx ry q=>hr a b pins s2 J H2 x y v u Q I2 rx ry q (hs _ _))
def Fl (K:Xj):R2:=fun x y H Q=>∃ p xs i v,x=.ref p/\y=.int i/\G2 K H p xs/\MY xs i=some v/\Q v H
def Ef (K:Xj):R2:=fun x y H Q=>∃ p xs i v,x=.ref p/\y=.int i/\HL K H p xs/\MY xs i=some v/\Q v H
def Fd:R2:=fun x y H Q=>∃ z i c,x=.str z/\y=.int i/\z.length<=sizeLine/\MY z.cps.toList i=some c/\Q (.str ⟨#[c]⟩) H
def zR:Ir X (Fl X.K):=by
 intro value slice pins s J H x y v u Q I rx ry h hs
 obtain ⟨p,xs,i,z,rfl,rfl,hq,he,q⟩:=h
 cases rx
 obtain ⟨t,rfl⟩:=ry
 obtain ⟨p0,r,pl,hz⟩:=I.list hq
 obtain ⟨j,h1,h2,h3,h4,h5⟩:=qy he
 obtain ⟨w,ew,JH⟩:=r.get h2
 have hl:=r.length
 have hn:=kS
 have fin:EP X pins J Q w s:=⟨z,H,I,JH,q⟩
 by_cases h0:0<=i
 ·have hj:i.toNat=j:=by
   rw [seqIndex_of h0 h5] at h1
   exact Zn h1
  exact item_listR pl.isList h0 (by lia) (by rw [hj];simpa using ew) fin hs
 ·have hj:(i+(p0.toArray.size:Int)).toNat=j:=by
   rw [seqIndex_neg (by lia) h4] at h1
   rw [ZZ,← hl]
   exact Zn h1
  exact subscriptTail_builtinR (x:=w) pl.isList.typeIs slot_list_getitem.lookup
   (wpAny_getItem_list_neg (Q:=fun r s'=>r=w/\EP X pins J Q r s') pl.isList (by lia) (by rw [ZZ] <;> lia) (by lia) (by rw [hj];simpa using ew) ⟨rfl,fin⟩) hs
def DD:Ir X (Ef X.K):=by
 intro value slice pins s J H x y v u Q I rx ry h hs
 obtain ⟨p,xs,i,z,rfl,rfl,hq,he,q⟩:=h
 cases rx
 obtain ⟨t,rfl⟩:=ry
 obtain ⟨p0,r,pl,hz⟩:=I.tuple hq
 obtain ⟨j,h1,h2,h3,h4,h5⟩:=qy he
 obtain ⟨w,ew,JH⟩:=r.get h2
 have hl:=r.length
 have hn:=kS
 have fin:EP X pins J Q w s:=⟨z,H,I,JH,q⟩
 exact subscriptTail_builtinR (x:=w) pl.typeIs slot_tuple_getitem.lookup
  (getItem_tuple (j:=j) (Q:=fun r s'=>r=w/\EP X pins J Q r s') pl (by lia) (by lia) (by rw [ZZ,← hl];exact h1) (by simpa using ew) ⟨rfl,fin⟩) hs
def Ea:Ir X Fd:=by
 intro value slice pins s J H x y v u Q I rx ry h hs
 obtain ⟨z,i,c,rfl,rfl,hz,he,q⟩:=h
 obtain ⟨t,rfl⟩:=rx
 obtain ⟨t',rfl⟩:=ry
 obtain ⟨j,h1,h2,h3,h4,h5⟩:=qy he
 have hl:z.cps.toList.length=z.length:=by simp [Str.length]
 rw [hl] at h1 h4 h5
 have hn:=kS
 exact tail_any (typeIs_str s z t) slot_str_getitem.lookup (getItem_str (c:=c) (by
  have e1:decide (i < -(2 ^ 63:Int))=false:=Za (by lia)
  have e2:decide (i ≥ 2 ^ 63)=false:=Za (by lia)
  rw [e1,e2,Bool.or_false]) (by rw [h1];simpa using h2) ⟨.str ⟨#[c]⟩,H,I.tok _,⟨_,rfl⟩,q⟩) hs
def PJ (K:Xj):R2:=fun x y H Q=>Fl K x y H Q\/Ef K x y H Q\/Fd x y H Q
def jY:Ir X (PJ X.K):=zR.or (DD.or Ea)
def sW (p0:X8) (n j:Nat) (u:Value):Obj.mapSeq (·.setIfInBounds j u) { cls:=.type "list",data:=.seq p0.toArray n }={ cls:=.type "list",data:=.seq (p0.set j u).toArray n }:=by
 simp [Obj.mapSeq]
theorem Inv.lst {pins:Y1} {J:St} {H:Hp} {s:Shared} {p:Addr} {xs:List V} (I:Inv X pins J H s) (h:H p=some (.lst xs)) :
  ∃ (p0:X8) (n:Nat),aM xs p0/\s.heap.get? p=some { cls:=.type "list",data:=.seq p0.toArray n }/\xs.length<=sizeLine:=by
 obtain ⟨z,p0,n,r,e⟩:=I.hok p _ h
 exact ⟨p0,n,r,e,z⟩
def Inv.MA {pins:Y1} {J:St} {H:Hp} {s:Shared} {p:Addr} {xs ys:List V} {p0 its':X8} {n n':Nat} {f:Obj->Obj} (I:Inv X pins J H s) (h:H p=some (.lst xs))
  (ho:s.heap.get? p=some { cls:=.type "list",data:=.seq p0.toArray n }) (hf:f { cls:=.type "list",data:=.seq p0.toArray n }={ cls:=.type "list",data:=.seq its'.toArray n' }) (r:aM ys its') (hz:ys.length<=sizeLine) (t:Nat) :
  Inv X pins J (upd H p (.lst ys)) { s with heap:=s.heap.update p f,toks:=t }:=by
 have e:(s.heap.update p f).get? p=some { cls:=.type "list",data:=.seq its'.toArray n' }:=by
  rw [Heap.get?_update_self f ho (by rw [hf] <;> rfl),hf]
 refine I.write (x:=p) (e:=p) (by rw [h];trivial) (.inl rfl) (fun b u hb q=>(XA _ _ (Ya hb)).trans q) ⟨_,e⟩ ?_
 exact ⟨hz,its',n',r,e⟩
def Cb:V->V->V->Hp->(Hp->Prop)->Prop:=fun o i v H Q=>∃ p xs k j,o=.ref p/\i=.int k/\H p=some (.lst xs)/\MC xs.length k=some j/\Q (upd H p (.lst (xs.set j v)))
def set_list:DE X Cb:=by
 intro pins s J H o i v ov iv u Q I ro ri rv h
 obtain ⟨p,xs,k,j,rfl,rfl,hp,hj,q⟩:=h
 cases ro
 obtain ⟨t,rfl⟩:=ri
 obtain ⟨p0,n,r,ho,hz⟩:=I.lst hp
 obtain ⟨h1,h2,h3,h4⟩:=uy hj
 have hl:=r.length
 have hn:=kS
 have I':Inv X pins J (upd H p (.lst (xs.set j v))) { s with heap:=s.heap.update p (Obj.mapSeq (·.setIfInBounds j u)) } :=
  I.MA hp ho (sW p0 n j u) (r.set rv j) (by rw [Z6];exact hz) s.toks
 by_cases h0:0<=k
 ·have hk:k.toNat=j:=by
   rw [seqIndex_of h0 h4] at h1
   exact Zn h1
  exact PySem.W.ki_setAt ho h0 (by lia) (by rw [ZZ,← hl];exact h4) (by rw [hk];exact ⟨_,I',q⟩)
 ·have hk:(k+(p0.toArray.size:Int)).toNat=j:=by
   rw [seqIndex_neg (by lia) h3] at h1
   rw [ZZ,← hl]
   exact Zn h1
  exact PySem.W.ki_setBack ho (by lia) (by rw [ZZ,← hl];exact h3) (by lia) (by rw [hk];exact ⟨_,I',q⟩)
def p9 (lo hi:Option Int) (n:Nat):(sliceBounds lo hi none n).1=((HT.HA n 0 lo:Nat):Int)/\(sliceBounds lo hi none n).2.1=((HT.HA n n hi:Nat):Int)/\(sliceBounds lo hi none n).2.2=1:=by
 refine ⟨?_,?_,rfl⟩
 ·cases lo with
  | none=>simp [sliceBounds,HT.HA]
  | some i =>
   simp only [sliceBounds,HT.HA,Option.getD_none,show (1:Int) > 0 by decide,if_true]
   by_cases h:i < 0
   ·simp only [h,if_true] <;> lia
   ·simp only [h,if_false] <;> lia
 ·cases hi with
  | none=>simp [sliceBounds,HT.HA]
  | some i =>
   simp only [sliceBounds,HT.HA,Option.getD_none,show (1:Int) > 0 by decide,if_true]
   by_cases h:i < 0
   ·simp only [h,if_true] <;> lia
   ·simp only [h,if_false] <;> lia
def ou (p0:X8) (lo hi:Option Int):slicePick p0.toArray lo hi none=((p0.drop (HT.HA p0.length 0 lo)).take (HT.HA p0.length p0.length hi - HT.HA p0.length 0 lo)).toArray:=by
 obtain ⟨h1,h2,h3⟩:=p9 lo hi p0.toArray.size
 unfold slicePick
 rw [h1,h2,h3]
 simp only [sliceRange_one,pick_run,ZZ] <;> rfl
def Eh (K:Xj):V->Option Int->Option Int->Hp->VK->Prop:=fun x lo hi H Q=>∃ a xs,x=.ref a/\G2 K H a xs/\∀ p,H p=none->Q (.ref p) (upd H p (.lst (vQ xs lo hi)))
def Af:Ml X (Eh X.K):=by
 intro pins s J H x v vl vu lo hi sl Q I rx hs pl pu h
 obtain ⟨a,xs,rfl,hx,q⟩:=h
 cases rx
 obtain ⟨p0,r,ht,hz⟩:=I.list hx
 have hlen:=r.length
 refine ⟨"list",_,slot_list_getitem.lookup,ht.isList.typeIs,?_⟩
 refine wpAny_getItem_list_slice ht.isList hs pl pu .none (by simp) ?_ (by rw [ZZ] <;> lia)
 rw [ou,← hlen]
 refine ⟨.ref s.heap.objs.size,_,I.laid (t':=s.toks) (o:=.lst (vQ xs lo hi)) (fun b ob q=>Zi _ q) (Zp _) ?_,rfl,q _ (I.hok.fresh (Zp _))⟩
 exact ⟨ZG (r6 xs lo hi) hz,_,0,(r.drop (HT.HA xs.length 0 lo)).take (HT.HA xs.length xs.length hi - HT.HA xs.length 0 lo),ZR _ rfl⟩
def fL:V->Bool
 | .GJ=>true
 | .bl _=>true
 | .int _=>true
 | .str _=>true
 | _=>false
def Lq:V->V->Bool
 | .GJ,.GJ=>true
 | .bl a,.bl b=>a == b
 | .bl a,.int b=>(if a then 1 else 0) == b
 | .int a,.bl b=>a == (if b then 1 else 0)
 | .int a,.int b=>a == b
 | .str a,.str b=>a == b
 | _,_=>false
def DU {A:Around} {s:Shared} {y x:V} {u v:Value} (ry:RelV y u) (rx:RelV x v) (fy:fL y=true) (fx:fL x=true):SeqAt.EqAt A s u v (Lq y x):=by
 cases y with
 | GJ =>
  cases ry
  cases x with
  | GJ=>cases rx;exact SeqAt.EqAt.same _
  | bl b=>cases rx;exact SeqAt.EqAt.none_bool b
  | int b=>obtain ⟨t,rfl⟩:=rx;exact SeqAt.EqAt.none_int b t
  | str b=>obtain ⟨t,rfl⟩:=rx;exact SeqAt.EqAt.none_str b t
  | _=>exact absurd (show false=true from fx) Zd
 | bl a =>
  cases ry
  cases x with
  | GJ=>cases rx;exact SeqAt.EqAt.bool_none a
  | bl b=>cases rx;exact SeqAt.EqAt.bool_bool a b
  | int b=>obtain ⟨t,rfl⟩:=rx;exact SeqAt.EqAt.bool_int a b t
  | str b=>obtain ⟨t,rfl⟩:=rx;exact SeqAt.EqAt.bool_str a b t
  | _=>exact absurd (show false=true from fx) Zd
 | int a =>
  obtain ⟨t',rfl⟩:=ry
  cases x with
  | GJ=>cases rx;exact SeqAt.EqAt.int_none a t'
  | bl b=>cases rx;exact SeqAt.EqAt.int_bool a t' b
  | int b=>obtain ⟨t,rfl⟩:=rx;exact SeqAt.EqAt.int_int a t' b t
  | str b=>obtain ⟨t,rfl⟩:=rx;exact SeqAt.EqAt.int_str a t' b t
  | _=>exact absurd (show false=true from fx) Zd
 | str a =>
  obtain ⟨t',rfl⟩:=ry
  cases x with
  | GJ=>cases rx;exact SeqAt.EqAt.str_none a t'
  | bl b=>cases rx;exact SeqAt.EqAt.str_bool a t' b
  | int b=>obtain ⟨t,rfl⟩:=rx;exact SeqAt.EqAt.str_int a t' b t
  | str b=>obtain ⟨t,rfl⟩:=rx;exact SeqAt.EqAt.str_str a t' b t
  | _=>exact absurd (show false=true from fx) Zd
 | _=>exact absurd (show false=true from fy) Zd
def JM (x:V) (u:Value):Bool:=match u with
 | .none=>Lq .GJ x
 | .bool b=>Lq (.bl b) x
 | .int i _=>Lq (.int i) x
 | .str z _=>Lq (.str z) x
 | _=>false
def yB {x y:V} {u:Value} (r:RelV y u) (f:fL y=true):JM x u=Lq y x:=by
 cases y with
 | GJ=>cases r;rfl
 | bl b=>cases r;rfl
 | int i=>obtain ⟨t,rfl⟩:=r;rfl
 | str z=>obtain ⟨t,rfl⟩:=r;rfl
 | _=>exact absurd (show false=true from f) Zd
theorem kA {x:V}:∀ {xs:List V} {us:X8},aM xs us->xs.all fL=true->us.any (JM x)=xs.any fun y=>Lq y x
 | _,_,.nil,_=>rfl
 | y :: xs,u :: us,.cons r t,f=>by
  rw [Xq,Ze] at f
  rw [Yf,Yf,yB r f.1,kA t f.2]
theorem iT {A:Around} {s:Shared} {x:V} {v:Value} (rx:RelV x v) (fx:fL x=true):∀ {xs:List V} {us:X8},aM xs us->xs.all fL=true->∀ u∈us,SeqAt.EqAt A s u v (JM x u)
 | _,_,.nil,_=>fun u hu=>by cases hu
 | y :: xs,u :: us,.cons r t,f=>fun u' hu=>by
  rw [Xq,Ze] at f
  rcases Zj.mp hu with rfl | hu
  ·rw [yB r f.1];exact DU r rx f.1 fx
  ·exact iT rx fx t f.2 u' hu
def NY (x:V) (xs:List V):Bool:=xs.any fun y=>Lq y x
def OX (K:Xj) (neg:Bool):R2:=fun x y H Q=>∃ p xs,y=.ref p/\(G2 K H p xs\/HL K H p xs)/\fL x=true/\xs.all fL=true/\Q (.bl (if neg then !NY x xs else NY x xs)) H
def wC:OpR X (compareOp .In) (OX X.K false):=by
 intro pins s J H x y v u Q I rx ry h
 obtain ⟨p,xs,rfl,hq,fx,fs,q⟩:=h
 cases ry
 rcases hq with hq | hq
 ·obtain ⟨p0,r,pl,hz⟩:=I.list hq
  refine SeqAt.in_listAt (JM x) pl.isList (fun w hw=>iT rx fx r fs w (by simpa using hw)) ⟨.bl _,H,I,rfl,?_⟩
  rw [show p0.toArray.any (JM x)=p0.any (JM x) by simp,kA r fs]
  exact q
 ·obtain ⟨p0,r,pl,hz⟩:=I.tuple hq
  refine SeqAt.in_tupleAt (JM x) pl (fun w hw=>iT rx fx r fs w (by simpa using hw)) ⟨.bl _,H,I,rfl,?_⟩
  rw [show p0.toArray.any (JM x)=p0.any (JM x) by simp,kA r fs]
  exact q
def qj:OpR X (compareOp .NotIn) (OX X.K true):=by
 intro pins s J H x y v u Q I rx ry h
 obtain ⟨p,xs,rfl,hq,fx,fs,q⟩:=h
 cases ry
 rcases hq with hq | hq
 ·obtain ⟨p0,r,pl,hz⟩:=I.list hq
  refine SeqAt.notIn_listAt (JM x) pl.isList (fun w hw=>iT rx fx r fs w (by simpa using hw)) ⟨.bl _,H,I,rfl,?_⟩
  rw [show p0.toArray.any (JM x)=p0.any (JM x) by simp,kA r fs]
  exact q
 ·obtain ⟨p0,r,pl,hz⟩:=I.tuple hq
  refine SeqAt.notIn_tupleAt (JM x) pl (fun w hw=>iT rx fx r fs w (by simpa using hw)) ⟨.bl _,H,I,rfl,?_⟩
  rw [show p0.toArray.any (JM x)=p0.any (JM x) by simp,kA r fs]
  exact q
def dN.or {f:Value} {r r':List V->Hp->VK->Prop} (h:dN X f r) (h':dN X f r'):dN X f (fun xs H Q=>r xs H Q\/r' xs H Q):=by
 intro pins s J H xs us Q I rs q
 rcases q with q | q
 ·exact h pins s J H xs us Q I rs q
 ·exact h' pins s J H xs us Q I rs q
def qi:dN X (.type "list") (fun xs H Q=>∃ p ys,xs=[.ref p]/\(G2 X.K H p ys\/HL X.K H p ys)/\∀ l,H l=none->Q (.ref l) (upd H l (.lst ys))):=by
 intro pins s J H xs us Q I r h
 obtain ⟨p,ys,rfl,hq,q⟩:=h
 obtain ⟨u,rfl,rx⟩:=vals1 r
 cases rx
 have fin:∀ (p0:X8),aM ys p0->ys.length<=sizeLine->∀ (h':Heap) (c':Nat),(∀ b o',s.heap.get? b=some o'->h'.get? b=some o') →
   h'.get? s.heap.objs.size=some { cls:=.type "list",dict:=none,data:=.seq p0.toArray c',slots:=#[] }->EP X pins J Q (.ref s.heap.objs.size) { s with heap:=h' }:=fun p0 r' hz h' c' kp e =>
  ⟨.ref s.heap.objs.size,_,I.laid (t':=s.toks) kp (Zp _) (show bR X.prog X.w _ h' _ (.lst ys) from ⟨hz,p0,c',r',e⟩),rfl,q _ (I.hok.fresh (Zp _))⟩
 rcases hq with hq | hq
 ·obtain ⟨p0,r',pl,hz⟩:=I.list hq
  have hlen:=r'.length
  obtain ⟨o,ho,hc,n,hd⟩:=pl.isList
  exact call_list_seq p (.inl rfl) ho hc hd (fun h' c' kp e=>fin p0 r' hz h' c' kp e) (by simp only [ZZ] <;> lia)
 ·obtain ⟨p0,r',pl,hz⟩:=I.tuple hq
  have hlen:=r'.length
  obtain ⟨o,ho,hc,n,hd⟩:=pl
  exact call_list_seq p (.inr rfl) ho hc hd (fun h' c' kp e=>fin p0 r' hz h' c' kp e) (by simp only [ZZ] <;> lia)
def oo:dN X (.type "tuple") (fun xs H Q=>∃ p ys,xs=[.ref p]/\((G2 X.K H p ys/\∀ l,H l=none->Q (.ref l) (upd H l (.tup ys)))\/(HL X.K H p ys/\Q (.ref p) H))):=by
 intro pins s J H xs us Q I r h
 obtain ⟨p,ys,rfl,h⟩:=h
 obtain ⟨u,rfl,rx⟩:=vals1 r
 cases rx
 rcases h with ⟨hq,q⟩ | ⟨hq,q⟩
 ·obtain ⟨p0,r',pl,hz⟩:=I.list hq
  have hlen:=r'.length
  refine call_tuple_list pl.isList (fun h' kp=>?_) (by simp only [ZZ] <;> lia)
  have I1:Inv X pins J H { s with heap:=h' }:=I.kept (t':=s.toks) kp
  have I2:Inv X pins J (upd H h'.objs.size (.tup ys)) { s with heap:=h'.push { cls:=.type "tuple",data:=.seq p0.toArray } } :=
   I1.laid (t':=s.toks) (fun b o e=>Zi _ e) (Zp _) (show bR X.prog X.w _ _ _ (.tup ys) from ⟨hz,p0,r',LU.new _ _,IsTup.new _ _⟩)
  exact ⟨.ref h'.objs.size,_,I2,rfl,q _ (I1.hok.fresh (Zp _))⟩
 ·obtain ⟨p0,r',pl,hz⟩:=I.tuple hq
  exact call_tuple_same pl ⟨.ref p,H,I,rfl,q⟩
def Lz (K:Xj) (T:String) (x:V) (H:Hp):Prop:=match x with
 | .str _=>T = "str"
 | .int _=>T = "int"
 | .ref p=>(T = "list" ∧ ∃ xs,G2 K H p xs)\/(T = "tuple" ∧ ∃ o,K.lookup p=some o/\o.cls=.type "tuple" ∧ o.dict=none) ∨
   (T = "dict" ∧ ((∃ gV,H p=some (.dK gV))\/∃ gV,H p=some (.dT gV)))\/(T = "set" ∧ ∃ S n,H p=some (.set S n))
 | _=>False
def Ed {pins:Y1} {J:St} {H:Hp} {s:Shared} {T:String} {x:V} {v:Value} (I:Inv X pins J H s) (r:RelV x v) (ty:Lz X.K T x H) :
  s.TypeIs v T/\∀ a,v=.ref a->∃ ob,s.heap.get? a=some ob/\ob.dict=none:=by
 cases x with
 | str z =>
  obtain ⟨t,rfl⟩:=r
  cases (show T = "str" from ty)
  exact ⟨typeIs_str s z t,fun _ e=>nomatch e⟩
 | int i =>
  obtain ⟨t,rfl⟩:=r
  cases (show T = "int" from ty)
  exact ⟨typeIs_int s i t,fun _ e=>nomatch e⟩
 | ref p =>
  cases r
  rcases ty with ⟨rfl,xs,hq⟩ | ⟨rfl,o,hk,hc,hd⟩ | ⟨rfl,hk⟩ | ⟨rfl,S,n,hk⟩
  ·obtain ⟨p0,_,pl,_⟩:=I.list hq
   refine ⟨pl.isList.typeIs,fun a e=>?_⟩
   cases e
   obtain ⟨o,n,e,c,hd,_⟩:=pl
   exact ⟨o,e,hd⟩
  ·refine ⟨⟨o,I.Ib p o hk,hc⟩,fun a e=>?_⟩
   cases e
   exact ⟨o,I.Ib _ o hk,hd⟩
  ·have z:∃ o,s.heap.get? p=some o/\o.ExactDict:=by
    rcases hk with ⟨gV,hk⟩ | ⟨gV,hk⟩
    ·obtain ⟨_,_,_,_,o,_,_,e,ex,_⟩:=I.hok p _ hk
     exact ⟨o,e,ex⟩
    ·obtain ⟨_,_,_,_,o,_,_,e,ex,_⟩:=I.hok p _ hk
     exact ⟨o,e,ex⟩
   obtain ⟨o,e,ex⟩:=z
   refine ⟨⟨o,e,ex.1⟩,fun a e2=>?_⟩
   cases e2
   exact ⟨o,e,ex.2.1⟩
  ·obtain ⟨o,_,_,_,e,ex,_⟩:=I.hok p _ hk
   refine ⟨⟨o,e,ex.1⟩,fun a e2=>?_⟩
   cases e2
   exact ⟨o,e,ex.2.1⟩
 | _=>exact False.elim ty
def Up (K:Xj) (T:String) (r:V->List V->Hp->VK->Prop) (to:TE) (t:TA):TE:=fun J H Q=>to J H fun x H1=>Lz K T x H1/\t J H1 fun xs H2=>r x xs H2 Q
variable {o e:Expr} {es:List Expr} {to:TE} {t:TA} {name:Str} {apos oe:Pos} {T id:String} {r:V->List V->Hp->VK->Prop}
def sy (pa:PlainAttrs T) (slot:Slot T name id) (MF:typeOf (.builtin id)=pure (.type "method_descriptor")) (hm:Np X id r) (ho:PE X o to) (ha:PA X (e :: es) t)
  (G1:attributeBase o name X.env (eval o X.env)=eval o X.env:=by rfl)
  (Hf:((backTo oe (starEach (e :: es) X.env)).all (fun x=>!x.1) && (backToKw oe (keywordEach [] X.env)).all (fun x=>x.1.isSome)
   && decide ((e :: es).length+([]:List Keyword).length+(if ([]:List Keyword).isEmpty then 0 else 1) < 30))=true:=by rfl)
  (GV:(apos.endLine == oe.line)=true:=by rfl) (hs:K1 e es X:=by rfl) (GU:K2 oe es X:=by rfl) :
  PE X (.Call (.Attribute o name apos) (e :: es) [] oe) (Up X.K T r to t):=by
 intro pins s J H Q I h
 refine wpAny_Call_method_late G1 Hf GV rfl (thn (ho pins s J H _ I h) fun v s1 ⟨x,H1,I1,r1,ty,q1⟩=>?_)
 obtain ⟨h1,h2⟩:=Ed I1 r1 ty
 refine ⟨T,id,pa,slot,MF,h1,h2,?_⟩
 have hA:=ha oe pins s1 J H1 _ I1 q1
 rw [hs] at hA ⊢
 refine Calls.callWith_builtin (by show (false || (backTo oe (starEach es X.env)).any (·.1))=false;rw [GU] <;> rfl) (Calls.evalArgs_plain ?_)
 exact thn hA fun us s2 ⟨vs,H2,I2,r2,q2⟩=>hm pins s2 J H2 x vs v us Q I2 r1 r2 q2
end
def T2 (X:Cx) (id:String) (r:V->List V->Hp->VK->Prop):Prop :=
 ∀ (pins:Y1) (s:Shared) (J:St) (H:Hp) (x:V) (xs:List V) (v:Value) (us:X8) (Q:VK),Inv X pins J H s->RelV x v->aM xs us->r x xs H Q →
  wpAny (model X.prog X.w) X.A (call (.builtin id) (v :: us)) (EP X pins J Q) X.xe s
def aM.nil_inv {us:X8} (h:aM [] us):us=[]:=by
 cases h
 rfl
def aM.cons_inv {x:V} {xs:List V} {us:X8} (h:aM (x :: xs) us):∃ u vs,us=u :: vs/\RelV x u/\aM xs vs:=by
 cases h with
 | cons r t=>exact ⟨_,_,rfl,r,t⟩
def aM.one {x:V} {us:X8} (h:aM [x] us):∃ u,us=[u]/\RelV x u:=by
 obtain ⟨u,vs,rfl,r,t⟩:=h.cons_inv
 rw [t.nil_inv]
 exact ⟨_,rfl,r⟩
section
variable {X:Cx} {pins:Y1} {J:St} {H:Hp} {s:Shared} {l b:Addr} {xs ys zs:List V}
def Inv.NS {p0 its':X8} {n:Nat} {f:Array Value->Array Value} {t':Nat} (I:Inv X pins J H s) (hH:H l=some (.lst xs))
  (e:s.heap.get? l=some { cls:=.type "list",data:=.seq p0.toArray n }) (hf:f p0.toArray=its'.toArray) (hv:aM ys its') (hz:ys.length<=sizeLine) :
  Inv X pins J (upd H l (.lst ys)) { s with heap:=s.heap.update l (Obj.mapSeq f),toks:=t' }:=by
 have q:=PySem.IsL.update e f
 rw [hf] at q
 refine I.write (x:=l) (e:=l) (by rw [hH];exact trivial) (.inl rfl) (fun b' u hb hu=>(XA s.heap (Obj.mapSeq f) (Ya hb)).trans hu) ⟨_,q⟩ ?_
 exact ⟨hz,its',_,hv,q⟩
def Inv.Qw {p0:X8} {t':Nat} (I:Inv X pins J H s) (hv:aM ys p0) (hz:ys.length<=sizeLine) :
  Inv X pins J (upd H s.heap.objs.size (.lst ys)) { s with heap:=s.heap.push { cls:=.type "list",data:=.seq p0.toArray },toks:=t' } :=
 I.laid (fun _ _ q=>Zi _ q) (Zp _) ⟨hz,p0,0,hv,ZR _ rfl⟩
theorem Inv.fresh (I:Inv X pins J H s):H s.heap.objs.size=none:=I.hok.fresh (Zp _)
def Inv.KU (I:Inv X pins J H s) (hH:H l=some (.lst xs)):xs.length<=sizeLine/\∃ (p0:X8) (n:Nat),aM xs p0/\xs.length=p0.length/\s.heap.get? l=some { cls:=.type "list",data:=.seq p0.toArray n }:=by
 obtain ⟨z,p0,n,r,e⟩:=I.hok l _ hH
 exact ⟨z,p0,n,r,r.length,e⟩
def x6 {n:Nat} (h:n<=sizeLine):Builtin.List.listTooLong n=false:=by
 unfold Builtin.List.listTooLong
 exact Za (by exact Nat.not_lt_of_le h)
end
section
variable {X:Cx}
def uq:V->List V->Hp->VK->Prop:=fun x vs H Q=>∃ l xs y,x=.ref l/\vs=[y]/\H l=some (.lst xs)/\xs.length < sizeLine/\Q .GJ (upd H l (.lst (xs++[y])))
def jr:T2 X "list.append" uq:=by
 intro pins s J H x vs v us Q I rx rv h
 obtain ⟨l,xs,y,rfl,rfl,hH,hz,q⟩:=h
 cases rx
 obtain ⟨u,rfl,ru⟩:=rv.one
 obtain ⟨z,p0,n,r,hl,e⟩:=I.KU hH
 refine call_meets F.slot_list_append ⟨_,e,rfl⟩ F.entry_list_append (F.args_list_append_2 _ _) (PySem.list_append l p0.toArray n u (by rw [ZZ];lia)) ⟨e,?_⟩
 refine ⟨.GJ,_,I.NS (its':=p0++[u]) hH e (by simp) (r.append (.cons ru .nil)) ?_,rfl,q⟩
 rw [Zv,ZK]
 exact Nat.succ_le_of_lt hz
def vh:V->List V->Hp->VK->Prop:=fun x vs H Q=>∃ l b xs zs,x=.ref l/\vs=[.ref b]/\H l=some (.lst xs)/\H b=some (.lst zs)/\xs.length+zs.length<=sizeLine/\Q .GJ (upd H l (.lst (xs++zs)))
def v8:T2 X "list.extend" vh:=by
 intro pins s J H x vs v us Q I rx rv h
 obtain ⟨l,b,xs,zs,rfl,rfl,hH,hB,hz,q⟩:=h
 cases rx
 obtain ⟨u,rfl,ru⟩:=rv.one
 cases ru
 obtain ⟨z,p0,n,r,hl,e⟩:=I.KU hH
 obtain ⟨z2,JJ,n2,r2,Kh,e2⟩:=I.KU hB
 have hsz:p0.toArray.size+JJ.toArray.size<=sizeLine:=by rw [ZZ,ZZ];lia
 have N6:¬ (!p0.toArray.isEmpty && Builtin.List.listTooLong (p0.toArray.size+JJ.toArray.size))=true:=by
  rw [x6 hsz,Bool.and_false]
  exact Zd
 refine call_meets F.slot_list_extend ⟨_,e,rfl⟩ F.entry_list_extend (F.args_list_extend_2 _ _)
  (AutoSeq1.list_extend_list_list_0 l p0.toArray n b JJ.toArray n2 N6 (by rw [ZZ];lia) (by exact Nat.le_add_right_of_le hsz)) ⟨e,e2,?_⟩
 refine ⟨.GJ,_,I.NS (its':=p0++JJ) hH e (by simp) (r.append r2) ?_,rfl,q⟩
 rw [Zv]
 omega
def En:R2:=fun x y H Q=>∃ l b xs zs,x=.ref l/\y=.ref b/\H l=some (.lst xs)/\H b=some (.lst zs)/\xs.length+zs.length<=sizeLine/\∀ p,H p=none->Q (.ref p) (upd H p (.lst (xs++zs)))
def DJ:OpR X (binaryOp .Add) En:=by
 intro pins s J H x y v u Q I rx ry h
 obtain ⟨l,b,xs,zs,rfl,rfl,hH,hB,hz,q⟩:=h
 cases rx
 cases ry
 obtain ⟨z,p0,n,r,hl,e⟩:=I.KU hH
 obtain ⟨z2,JJ,n2,r2,Kh,e2⟩:=I.KU hB
 refine PySem.P.add_list e e2 ?_ (by rw [ZZ,ZZ];lia)
 have ea:p0.toArray++JJ.toArray=(p0++JJ).toArray:=by simp
 rw [ea]
 exact ⟨.ref _,_,I.Qw (t':=s.toks) (r.append r2) (by rw [Zv];omega),rfl,q _ I.fresh⟩
def len_rep {α:Type} (xs:List α) (k:Nat):(List.replicate k xs).flatten.length=k * xs.length:=by
 induction k with
 | zero=>simp
 | succ k ih=>rw [YA,ZX,Zv,ih,Nat.succ_mul,Nat.add_comm]
end
section
variable {prog:Program} {w:World} {A:Around} {E:Z2} {s:Shared}
set_option maxRecDepth 100000 in
end
section
variable {κ:Type} [DecidableEq κ]
def gx (gV:List (κ×V)) (k:κ):Option V:=(gV.find? fun kv=>decide (kv.1=k)).map (·.2)
def putK (gV:List (κ×V)) (k:κ) (v:V):List (κ×V) :=
 if (gV.any fun kv=>decide (kv.1=k))=true then gV.map (fun kv=>if kv.1=k then (kv.1,v) else kv) else gV++[(k,v)]
def i7 {p:κ×V} {r:List (κ×V)} {k:κ} (e:p.1=k):gx (p :: r) k=some p.2:=by simp [gx,Z7,e]
def nS {p:κ×V} {r:List (κ×V)} {k:κ} (e:¬ p.1=k):gx (p :: r) k=gx r k:=by simp [gx,Z7,e]
theorem qF (k:κ):∀ gV:List (κ×V),(gV.any fun kv=>decide (kv.1=k))=(gx gV k).isSome
 | []=>rfl
 | p :: r=>by
  rw [Yf]
  by_cases e:p.1=k
  ·simp only [i7 e,decide_eq_true e,Bool.true_or,Option.isSome_some]
  ·rw [nS e,Za e,Bool.false_or];exact qF k r
def gD (gV:List (κ×V)) (k:κ) (v:V):(putK gV k v).length<=gV.length+1:=by
 unfold putK
 split
 ·rw [Zt];exact YO _ _
 ·rw [Zv,Zm,List.length_nil];exact Zp _
def iH.Hr {o:Option V} {u:Wq} (r:iH o u):o.isSome=u.isSome:=by
 cases o with
 | none=>cases u with
  | none=>rfl
  | some _=>exact (show False from r).elim
 | some _=>cases u with
  | none=>exact (show False from r).elim
  | some _=>rfl
theorem iH.getD {o:Option V} {u:Wq} {d:V} {d':Value} (r:iH o u) (rd:RelV d d'):RelV (o.getD d) (u.getD d'):=by
 cases o with
 | none=>cases u with
  | none=>exact rd
  | some _=>exact (show False from r).elim
 | some _=>cases u with
  | none=>exact (show False from r).elim
  | some _=>exact r
def KV.val {gV:List (κ×V)} {vs:List (κ×Value)} (r:KV gV vs) (k:κ):iH (gx gV k) (valueAt vs k):=by
 unfold KV at r
 induction r with
 | nil=>exact True.intro
 | @cons p q ps qs h t ih =>
  obtain ⟨h1,h2⟩:=h
  by_cases e:p.1=k
  ·have e':q.1=k:=h1.symm.trans e
   have b:valueAt (q :: qs) k=some q.2:=by simp [valueAt,Z7,e']
   rw [i7 e,b];exact h2
  ·have e':¬ q.1=k:=fun z=>e (h1.trans z)
   have b:valueAt (q :: qs) k=valueAt qs k:=by simp [valueAt,Z7,e']
   rw [nS e,b];exact ih
theorem KV.any {gV:List (κ×V)} {vs:List (κ×Value)} (r:KV gV vs) (k:κ):(gV.any fun kv=>decide (kv.1=k))=vs.any fun kv=>decide (kv.1=k):=by
 unfold KV at r
 induction r with
 | nil=>rfl
 | cons h t ih=>rw [Yf,Yf,ih,h.1]
def KV.Mw {gV:List (κ×V)} {vs:List (κ×Value)} (r:KV gV vs) (k:κ) {y:V} {u:Value} (ry:RelV y u) :
  KV (gV.map fun kv=>if kv.1=k then (kv.1,y) else kv) (vs.map fun kv=>if kv.1=k then (kv.1,u) else kv):=by
 unfold KV at r ⊢
 induction r with
 | nil=>exact .nil
 | @cons p q ps qs h t ih =>
  rw [Zl,Zl]
  refine .cons ?_ ih
  obtain ⟨h1,h2⟩:=h
  by_cases e:p.1=k
  ·rw [Zq e,Zq (h1.symm.trans e)];exact ⟨h1,ry⟩
  ·rw [Zo e,Zo (fun z=>e (h1.trans z))];exact ⟨h1,h2⟩
def KV.put {gV:List (κ×V)} {vs:List (κ×Value)} (r:KV gV vs) (k:κ) {y:V} {u:Value} (ry:RelV y u):KV (putK gV k y) (stored vs k u):=by
 unfold putK stored
 rw [r.any k]
 by_cases e:(vs.any fun kv=>decide (kv.1=k))=true
 ·rw [Zq e,Zq e];exact r.Mw k ry
 ·rw [Zo e,Zo e];exact Paired.snoc r ⟨rfl,ry⟩
def KV.keys {gV:List (κ×V)} {vs:List (κ×Value)} (r:KV gV vs):gV.map (·.1)=vs.map (·.1):=by
 unfold KV at r
 induction r with
 | nil=>rfl
 | cons h t ih=>rw [Zl,Zl,ih,h.1]
theorem KV.length {gV:List (κ×V)} {vs:List (κ×Value)} (r:KV gV vs):gV.length=vs.length:=Y4 r
end
def lP {P:Program} {w:World} {k:Key} {u:Value} (r:RelV (kV k) u):(aK P w).is k u=true:=by
 cases k with
 | inl i=>obtain ⟨t,e⟩:=(show ∃ t,u=Value.int i t from r);subst e;exact sA P w i t
 | inr x=>obtain ⟨t,e⟩:=(show ∃ t,u=Value.str x t from r);subst e;exact qQ P w x t
theorem oT {P:Program} {w:World}:∀ {ks:List Key} {us:X8},aM (ks.map kV) us->ItemsAre (aK P w) ks us
 | [],_,r=>by rw [List.map_nil] at r;cases r;exact .nil
 | k :: ks,_,r=>by
  rw [Zl] at r
  cases r with
  | cons h t=>exact .cons (lP h) (oT t)
abbrev KT (H:Hp):List (List Key×V)->List (List Key×Addr×Value)->Prop:=Paired fun p q=>p.1=q.1/\H q.2.1=some (.tup (p.1.map kV))/\RelV p.2 q.2.2
def KT.val {H:Hp} {gV:List (List Key×V)} {xs:List (List Key×Addr×Value)} (r:KT H gV xs) (k:List Key):iH (gx gV k) ((atKey xs k).map (·.2)):=by
 induction r with
 | nil=>exact True.intro
 | @cons p q ps qs h t ih =>
  obtain ⟨h1,_,h2⟩:=h
  by_cases e:p.1=k
  ·have e':q.1=k:=h1.symm.trans e
   have b:atKey (q :: qs) k=some q.2:=by simp [atKey,Z7,e']
   rw [i7 e,b];exact h2
  ·have e':¬ q.1=k:=fun z=>e (h1.trans z)
   have b:atKey (q :: qs) k=atKey qs k:=by simp [atKey,Z7,e']
   rw [nS e,b];exact ih
def KT.Mw {H:Hp} {gV:List (List Key×V)} {xs:List (List Key×Addr×Value)} (r:KT H gV xs) (k:List Key) {y:V} {u:Value} (ry:RelV y u) :
  KT H (gV.map fun kv=>if kv.1=k then (kv.1,y) else kv) (xs.map (putAt k u)):=by
 induction r with
 | nil=>exact .nil
 | @cons p q ps qs h t ih =>
  rw [Zl,Zl]
  refine .cons ?_ ih
  obtain ⟨h1,h2,h3⟩:=h
  unfold putAt
  by_cases e:p.1=k
  ·rw [Zq e,Zq (h1.symm.trans e)];exact ⟨h1,h2,ry⟩
  ·rw [Zo e,Zo (fun z=>e (h1.trans z))];exact ⟨h1,h2,h3⟩
def KT.put {H:Hp} {gV:List (List Key×V)} {xs:List (List Key×Addr×Value)} (r:KT H gV xs) (k:List Key) {b:Addr} {y:V} {u:Value} (hb:H b=some (.tup (k.map kV))) (ry:RelV y u) :
  KT H (putK gV k y) (storedH xs k b u):=by
 have e:(gV.any fun kv=>decide (kv.1=k))=(atKey xs k).isSome:=by
  rw [qF,(r.val k).Hr,Yd]
 unfold putK storedH
 rw [e]
 by_cases q:(atKey xs k).isSome=true
 ·rw [Zq q,Zq q];exact r.Mw k ry
 ·rw [Zo q,Zo q];exact Paired.snoc r ⟨rfl,hb,ry⟩
def KT.keeps {H H':Hp} {gV:List (List Key×V)} {xs:List (List Key×Addr×Value)} (r:KT H gV xs) (ht:∀ b ys,H b=some (.tup ys)->H' b=some (.tup ys)):KT H' gV xs :=
 Paired.LH r fun _ _ z=>⟨z.1,ht _ _ z.2.1,z.2.2⟩
section
variable {P:Program} {w:World} {H:Hp} {h:Heap} {a:Addr}
def BR {u:HO} (ok:HP P w H h) (e:Rd H a u):bR P w H h a u:=e.ok ok
def lO {gV:List (Key×V)} (ok:HP P w H h) (e:Rd H a (.dK gV)):gV.length<=sizeLine/\(a == sysModules)=false/\∃ vs,KV gV vs/\h.DictOf (aK P w) a vs :=
 show bR P w H h a (.dK gV) from BR ok e
def rA {gV:List (Key×V)} (ok:HP P w H h) (e:H a=some (.dK gV)):gV.length<=sizeLine/\(a == sysModules)=false/\∃ vs,KV gV vs/\h.DictOf (aK P w) a vs:=lO ok (.inl e)
def dI {ks:List Key} (ok:HP P w H h) (e:H a=some (.tup (ks.map kV))):(tupleKind (aK P w)).is h ks a:=by
 obtain ⟨_,p0,r,_,o,h1,h2,n,h3⟩:=(show bR P w H h a (.tup (ks.map kV)) from ok a _ e)
 exact ⟨o,p0.toArray,n,h1,h2,h3,by simpa using oT r⟩
def oh {gV:List (List Key×V)} (ok:HP P w H h) (e:Rd H a (.dT gV)):gV.length<=sizeLine/\(a == sysModules)=false ∧
  ∃ xs,KT H gV xs/\h.DictOfH (tupleKind (aK P w)) a xs:=by
 obtain ⟨z,y,xs,r,o,es,ep,h1,h2,h3,h4,h5⟩:=(show bR P w H h a (.dT gV) from BR ok e)
 refine ⟨z,y,xs,r,o,es,ep,h1,h2,h3,h4,fun x hx=>?_,h5⟩
 have all:∀ {l:List (List Key×V)} {m:List (List Key×Addr×Value)},KT H l m->∀ x∈m,(tupleKind (aK P w)).is h x.1 x.2.1:=by
  intro l m q
  induction q with
  | nil=>intro x hx;exact nomatch hx
  | @cons p q ps qs hq t ih =>
   intro x hx
   rcases Zj.mp hx with e | hx
   ·subst e
    exact dI ok (by rw [← hq.1];exact hq.2.1)
   ·exact ih x hx
 exact all r x hx
def FK {gV:List (List Key×V)} (ok:HP P w H h) (e:H a=some (.dT gV)):gV.length<=sizeLine/\(a == sysModules)=false ∧
  ∃ xs,KT H gV xs/\h.DictOfH (tupleKind (aK P w)) a xs:=oh ok (.inl e)
end
def hU (H:Hp) (a:Addr) (y:V) (r:Option V):Prop :=
 (∃ gV k,Rd H a (.dK gV)/\y=kV k/\r=gx gV k)\/∃ gV k b,Rd H a (.dT gV)/\y=.ref b/\H b=some (.tup (k.map kV))/\r=gx gV k
def ua (H:Hp) (a:Addr) (y v:V) (H':Hp):Prop :=
 (∃ gV k,H a=some (.dK gV)/\y=kV k/\gV.length < sizeLine/\H'=upd H a (.dK (putK gV k v))) ∨
 ∃ gV k b,H a=some (.dT gV)/\y=.ref b/\H b=some (.tup (k.map kV))/\gV.length < sizeLine/\H'=upd H a (.dT (putK gV k v))
theorem hU.k {H:Hp} {a:Addr} {gV:List (Key×V)} {k:Key} (e:H a=some (.dK gV)):hU H a (kV k) (gx gV k):=.inl ⟨gV,k,.inl e,rfl,rfl⟩
theorem ua.k {H:Hp} {a:Addr} {gV:List (Key×V)} {k:Key} {v:V} (e:H a=some (.dK gV)) (hl:gV.length < sizeLine):ua H a (kV k) v (upd H a (.dK (putK gV k v))):=.inl ⟨gV,k,e,rfl,hl,rfl⟩
section
variable {X:Cx} {pins:Y1} {J:St} {H:Hp} {s:Shared} {a:Addr} {y v:V} {u r:Value} {o:Option V} {A:Around} {E:Z2}
def Inv.big (I:Inv X pins J H s):sysModules < s.heap.objs.size:=by
 have h:mainGlobals < s.heap.objs.size:=(I.mod.glob.keeps I.bk).lt
 exact Wy (by decide) h
def vP {Q:Z2} (hu:A.units+1 < cLine) (I:Inv X pins J H s) (g:hU H a y (some v)) (ry:RelV y u) (h:∀ w' s',Inv X pins J H s'->RelV v w'->Q w' s') :
  wpAny (model X.prog X.w) A (getItem (.ref a) u) Q E s:=by
 rcases g with ⟨gV,k,e,ey,l⟩ | ⟨gV,k,b,e,ey,eb,l⟩
 ·subst ey
  obtain ⟨z,hd,vs,rel,dd⟩:=lO I.hok e
  obtain ⟨w',hw,JH⟩:=iH.some_of (v:=v) (o:=valueAt vs k) (by rw [l];exact rel.val k)
  exact wpAny_getItem_of (lP ry) dd.mapOf hw (h w' _ (I.tok _) JH)
 ·subst ey
  cases (show u=Value.ref b from ry)
  obtain ⟨z,hd,xs,rel,dd⟩:=oh I.hok e
  obtain ⟨w',hw,JH⟩:=iH.some_of (v:=v) (o:=(atKey xs k).map (·.2)) (by rw [l];exact rel.val k)
  obtain ⟨p,hp,Vc⟩:=Zy.mp hw
  refine wpAny_getItem_heap (Y9 hu) (dI I.hok eb) dd hp ?_
  rw [Vc]
  exact h w' _ (I.tok _) JH
def Ga {Q:Z2} (hu:A.units+1 < cLine) (I:Inv X pins J H s) (g:hU H a y o) (ry:RelV y u) (h:∀ s',Inv X pins J H s'->Q (.bool o.isSome) s') :
  wpAny (model X.prog X.w) A (compareOp .In u (.ref a)) Q E s:=by
 rcases g with ⟨gV,k,e,ey,l⟩ | ⟨gV,k,b,e,ey,eb,l⟩
 ·subst ey
  obtain ⟨z,hd,vs,rel,dd⟩:=lO I.hok e
  refine wpAny_in_of (lP ry) hd dd.mapOf ?_
  rw [← (rel.val k).Hr,← l]
  exact h _ (I.tok _)
 ·subst ey
  cases (show u=Value.ref b from ry)
  obtain ⟨z,hd,xs,rel,dd⟩:=oh I.hok e
  refine wpAny_in_heap (Y9 hu) (dI I.hok eb) hd dd ?_
  have q:=(rel.val k).Hr
  rw [Yd] at q
  rw [← q,← l]
  exact h _ (I.tok _)
def zX {Q:Z2} (hu:A.units+1 < cLine) (I:Inv X pins J H s) (g:hU H a y o) (ry:RelV y u) (h:∀ s',Inv X pins J H s'->Q (.bool (!o.isSome)) s') :
  wpAny (model X.prog X.w) A (compareOp .NotIn u (.ref a)) Q E s:=by
 rcases g with ⟨gV,k,e,ey,l⟩ | ⟨gV,k,b,e,ey,eb,l⟩
 ·subst ey
  obtain ⟨z,hd,vs,rel,dd⟩:=lO I.hok e
  refine wpAny_notIn_of (lP ry) hd dd.mapOf ?_
  rw [← (rel.val k).Hr,← l]
  exact h _ (I.tok _)
 ·subst ey
  cases (show u=Value.ref b from ry)
  obtain ⟨z,hd,xs,rel,dd⟩:=oh I.hok e
  refine wpAny_notIn_heap (Y9 hu) (dI I.hok eb) hd dd ?_
  have q:=(rel.val k).Hr
  rw [Yd] at q
  rw [← q,← l]
  exact h _ (I.tok _)
def md {h':Heap} {t':Nat} {ob:HO} (I:Inv X pins J H s) (mu:GS (H a)) (hs:Heap.SameBut a s.heap h') (he:∃ q,h'.get? a=some q) (new:bR X.prog X.w (upd H a ob) h' a ob) :
  Inv X pins J (upd H a ob) { s with heap:=h',toks:=t' } :=
 I.write (x:=a) (e:=a) mu (.inl rfl) (fun b q hb z=>(hs.2 b hb).trans z) he new
def pf {P:Program} {w:World} {H':Hp} {h':Heap} {gV:List (Key×V)} {vs:List (Key×Value)} (z:gV.length<=sizeLine) (hd:(a == sysModules)=false) (rel:KV gV vs) (dd:h'.DictOf (aK P w) a vs) :
  bR P w H' h' a (.dK gV):=⟨z,hd,vs,rel,dd⟩
def wL {H':Hp} {Q:Unit->Shared->Prop} (hu:A.units+1 < cLine) (I:Inv X pins J H s) (g:ua H a y v H') (ry:RelV y u) (rv:RelV v r) (h:∀ s',Inv X pins J H' s'->Q () s') :
  wpAny (model X.prog X.w) A (setItem (.ref a) u r) Q E s:=by
 rcases g with ⟨gV,k,e,ey,l,eH⟩ | ⟨gV,k,b,e,ey,eb,l,eH⟩
 ·subst ey eH
  obtain ⟨z,hd,vs,rel,dd⟩:=rA I.hok e
  have hz:vs.length<=sizeLine:=by rw [← rel.length];exact z
  have hl:(putK gV k v).length<=sizeLine:=by have:=gD gV k v;lia
  refine wpAny_setItem_pairs (hsz:=hz) (lP ry) dd fun h' Lb hs=>h _ ?_
  have he:∃ q,h'.get? a=some q:=let ⟨q,_,_,hq,_⟩:=Lb;⟨q,hq⟩
  exact md I (by rw [e];exact True.intro) hs he (pf hl hd (rel.put k rv) Lb)
 ·subst ey eH
  cases (show u=Value.ref b from ry)
  obtain ⟨z,hd,xs,rel,dd⟩:=FK I.hok e
  have hz:xs.length<=sizeLine:=by rw [← Y4 rel];exact z
  have hl:(putK gV k v).length<=sizeLine:=by have:=gD gV k v;lia
  refine wpAny_setItem_heap (hsz:=hz) (Y9 hu) (dI I.hok eb) dd fun h' Lb hs=>h _ ?_
  obtain ⟨q,es,ep,hq,h2,h3,h4,_,h5⟩:=Lb
  refine md I (by rw [e];exact True.intro) hs ⟨q,hq⟩ ⟨hl,hd,_,(rel.put k eb rv).keeps fun c ys ec=>?_,q,es,ep,hq,h2,h3,h4,h5⟩
  rw [aA (Ey ec e (fun z=>nomatch z))]
  exact ec
end
section
variable {X:Cx} {pins:Y1} {J:St} {H:Hp} {s:Shared} {a:Addr} {gV:List (Key×V)} {k:Key} {u:Value} {A:Around} {E:Z2}
def Ft {Q:Z2} (I:Inv X pins J H s) (e:Rd H a (.dK gV)) (h:∀ t s',Inv X pins J H s'->Q (.int gV.length t) s'):wpAny (model X.prog X.w) A (call (.builtin "len") [.ref a]) Q E s:=by
 obtain ⟨z,hd,vs,rel,dd⟩:=lO I.hok e
 refine call_len_dict hd dd (by rw [← rel.length];rw [Xz] at z;lia) ?_
 rw [← rel.length]
 exact h _ _ (I.tok _)
end
def rG {X:Cx} {pins:Y1} {J:St} {H:Hp} {s:Shared} {a:Addr} {y:V} {o:Option V} (I:Inv X pins J H s) (g:hU H a y o):s.TypeIs (.ref a) "dict" := by
 rcases g with ⟨gV,k,e,_,_⟩ | ⟨gV,k,b,e,_,_,_⟩
 ·obtain ⟨_,_,vs,_,dd⟩:=lO I.hok e
  exact dd.typeIs
 ·obtain ⟨_,_,xs,_,dd⟩:=oh I.hok e
  exact dd.typeIs
def rT {P:Program} {w:World} {H:Hp} (h:Heap) (hb:sysModules < h.objs.size):bR P w H (h.push { cls:=.type "dict",data:=.dict #[] }) h.objs.size (.dK []) :=
 ⟨Yt _,ZM.mpr (Ya (Zb hb)),[],.nil,Heap.DictOf.new h⟩
def C1:TE:=fun _ H Q=>∀ p,H p=none->Q (.ref p) (upd H p (.dK []))
section
variable {X:Cx} {pos:Pos}
def yi:PE X (.Dict [] [] pos) C1:=fun pins s J H Q I h =>
 wpAny_Dict_empty ⟨.ref s.heap.objs.size,_,I.laid (a:=s.heap.objs.size) (o:=.dK []) (t':=s.toks) (fun _ _ q=>Zi _ q) (Zp _) (rT s.heap I.big),rfl,h _ (I.hok.fresh (Zp _))⟩
end
def tN:List (TE×TE)->St->Hp->(List (V×V)->Hp->Prop)->Prop
 | [],_,H,Q=>Q [] H
 | (tk,tv) :: r,J,H,Q=>tk J H fun x H1=>tv J H1 fun y H2=>tN r J H2 fun ps H3=>Q ((x,y) :: ps) H3
abbrev VV:List (V×V)->List (Value×Value)->Prop:=Paired fun p q=>RelV p.1 q.1/\RelV p.2 q.2
def PPs (X:Cx) (pos:Pos) (keys:List (Option Expr)) (values:List Expr) (LA:List (TE×TE)):Prop :=
 ∀ (pins:Y1) (s:Shared) (J:St) (H:Hp) (Q:List (V×V)->Hp->Prop),Inv X pins J H s->tN LA J H Q →
  wpAny (model X.prog X.w) X.A (evalPairs (pairTrees keys values X.env pos)) (fun vs s'=>∃ ps H',Inv X pins J H' s'/\VV ps vs/\Q ps H') X.xe s
def zQ {X:Cx} {pos:Pos}:PPs X pos [] [] []:=fun pins s J H Q I h=>pairTrees_nil_walk ⟨[],H,I,.nil,h⟩
def yT {X:Cx} {pos:Pos} {k v:Expr} {ks:List (Option Expr)} {vs:List Expr} {tk tv:TE} {LA:List (TE×TE)} (hk:PE X k tk) (hv:PE X v tv) (hr:PPs X pos ks vs LA) :
  PPs X pos (some k :: ks) (v :: vs) ((tk,tv) :: LA):=fun pins s J H Q I h =>
 pairTrees_cons_walk (thn (hk pins s J H _ I h) fun u s1 ⟨x,H1,I1,rx,q1⟩=>thn (hv pins s1 J H1 _ I1 q1) fun w2 s2 ⟨y,H2,I2,ry,q2⟩ =>
  thn (hr pins s2 J H2 _ I2 q2) fun ws s3 ⟨ps,H3,I3,rel,q3⟩=>⟨(x,y) :: ps,H3,I3,.cons ⟨rx,ry⟩ rel,q3⟩)
def nR (gV more:List (Key×V)):List (Key×V):=more.foldl (fun acc kv=>putK acc kv.1 kv.2) gV
def KV.merge:∀ {more:List (Key×V)} {rs:List (Key×Value)} {gV:List (Key×V)} {vs:List (Key×Value)},KV more rs->KV gV vs->KV (nR gV more) (merged vs rs):=by
 intro more rs gV vs r
 unfold KV at r
 induction r generalizing gV vs with
 | nil=>intro q;exact q
 | @cons p q ps qs h t ih =>
  intro r0
  have e:KV (putK gV p.1 p.2) (stored vs q.1 q.2):=by
   have:=r0.put p.1 h.2
   rw [← h.1];exact this
  exact ih e
theorem jw:∀ (more gV:List (Key×V)),(nR gV more).length<=gV.length+more.length
 | [],gV=>by show gV.length<=gV.length+0;exact YO _ _
 | p :: r,gV=>by
  have h1:=jw r (putK gV p.1 p.2)
  have h2:=gD gV p.1 p.2
  show (nR (putK gV p.1 p.2) r).length<=_
  rw [Zm];lia
theorem oj {P:Program} {w:World}:∀ {gV:List (Key×V)} {ws:List (Value×Value)},VV (gV.map fun kv=>(kV kv.1,kv.2)) ws->∃ rs,Carries (aK P w) ws rs/\KV gV rs
 | [],_,r=>by rw [List.map_nil] at r;cases r;exact ⟨[],True.intro,.nil⟩
 | p :: gV,_,r=>by
  rw [Zl] at r
  cases r with
  | @cons a b as bs h t =>
   obtain ⟨rs,c,q⟩:=oj (P:=P) (w:=w) t
   obtain ⟨b1,b2⟩:=b
   exact ⟨(p.1,b2) :: rs,⟨lP h.1,rfl,c⟩,.cons ⟨rfl,h.2⟩ q⟩
def Eu (LA:List (TE×TE)):TE:=fun J H Q=>∀ p,H p=none->tN LA J (upd H p (.dK [])) fun ps H2=>H2 p=some (.dK [])/\∃ gV:List (Key×V),ps=gV.map (fun kv=>(kV kv.1,kv.2))/\gV.length<=15/\Q (.ref p) (upd H2 p (.dK (nR [] gV)))
def BL {X:Cx} {pos:Pos} {keys:List (Option Expr)} {values:List Expr} {LA:List (TE×TE)} (h:PPs X pos keys values LA) (II:keys.all (·.isSome)=true) (hl:keys.length=values.length) (h0:keys ≠ [])
  (VR:keys.length<=15):PE X (.Dict keys values pos) (Eu LA):=by
 intro pins s J H Q I q
 have hn:=I.hok.fresh (Zp s.heap.objs.size)
 have I1:=I.laid (a:=s.heap.objs.size) (o:=.dK []) (h':=s.heap.push { cls:=.type "dict",data:=.dict #[] }) (t':=s.toks) (fun _ _ q=>Zi _ q) (Zp _) (rT s.heap I.big)
 refine wpAny_Dict_walk (knd:=aK X.prog X.w) II hl h0 VR (thn (h pins _ J _ _ I1 (q _ hn)) fun ws s2 ⟨ps,H2,I2,rel,e,gV,ep,lk,q2⟩=>?_)
 subst ep
 obtain ⟨rs,c,rk⟩:=oj (P:=X.prog) (w:=X.w) rel
 obtain ⟨z,hd,vs0,r0,dd⟩:=rA I2.hok e
 cases r0
 refine ⟨rs,c,dd,fun h' Lb hs=>⟨.ref s.heap.objs.size,_,?_,rfl,q2⟩⟩
 have hz:(nR [] gV).length<=sizeLine:=by
  have h1:=jw gV []
  rw [List.length_nil] at h1
  rw [Xz];lia
 have he:∃ q,h'.get? s.heap.objs.size=some q:=let ⟨q,_,_,hq,_⟩:=Lb;⟨q,hq⟩
 exact md I2 (by rw [e];exact True.intro) hs he (pf hz hd (rk.merge .nil) Lb)
structure Mq1 (X:Cx) (o:Expr) (m:Str) (apos:Pos) (e:Expr) (oe:Pos):Prop where
 base:attributeBase o m X.env (eval o X.env)=eval o X.env
 Jc:((backTo oe (starEach [e] X.env)).all (fun x=>!x.1) && (backToKw oe (keywordEach [] X.env)).all (fun x=>x.1.isSome)
  && decide (([e]:List Expr).length+([]:List Keyword).length+(if ([]:List Keyword).isEmpty then 0 else 1) < 30))=true
 line:(apos.endLine == oe.line)=true
 trees:backTo oe (starEach [e] X.env)=[(false,eval e X.env)]
def T3 (H:Hp) (a:Addr):Prop:=(∃ gV,Rd H a (.dK gV))\/∃ gV,Rd H a (.dT gV)
def C4 {X:Cx} {pins:Y1} {J:St} {H:Hp} {s:Shared} {a:Addr} (I:Inv X pins J H s) (d:T3 H a) :
  s.TypeIs (.ref a) "dict" ∧ (∀ b,Value.ref a=.ref b->∃ ob,s.heap.get? b=some ob/\ob.dict=none)/\(a == sysModules)=false:=by
 rcases d with ⟨gV,e⟩ | ⟨gV,e⟩
 ·obtain ⟨_,hd,vs,_,dd⟩:=lO I.hok e
  refine ⟨dd.typeIs,fun b q=>?_,hd⟩
  cases q
  obtain ⟨ob,_,_,h1,h2,_⟩:=dd
  exact ⟨ob,h1,h2.2.1⟩
 ·obtain ⟨_,hd,xs,_,dd⟩:=oh I.hok e
  refine ⟨dd.typeIs,fun b q=>?_,hd⟩
  cases q
  obtain ⟨ob,_,_,h1,h2,_⟩:=dd
  exact ⟨ob,h1,h2.2.1⟩
section
variable {X:Cx} {pins:Y1} {J:St} {H:Hp} {s:Shared} {a:Addr} {y d:V} {u r:Value} {o:Option V} {A:Around} {E:Z2}
def D6 {Q:Z2} (hu:A.units+1 < cLine) (I:Inv X pins J H s) (g:hU H a y o) (ry:RelV y u) (h:∀ w' s',Inv X pins J H s'->RelV (o.getD .GJ) w'->Q w' s') :
  wpAny (model X.prog X.w) A (call (.builtin "dict.get") [.ref a,u]) Q E s:=by
 rcases g with ⟨gV,k,e,ey,l⟩ | ⟨gV,k,b,e,ey,eb,l⟩
 ·subst ey
  obtain ⟨z,hd,vs,rel,dd⟩:=lO I.hok e
  refine call_meetsIn XQ dd.typeIs PySem.F.entry_dict_get (PySem.F.args_dict_get_2 _ _) (meets_dict_get (aK X.prog X.w) a (lP ry) hd) ⟨_,dd.mapOf,h _ _ (I.tok _) ?_⟩
  rw [l]
  exact (rel.val k).getD rfl
 ·subst ey
  cases (show u=Value.ref b from ry)
  obtain ⟨z,hd,xs,rel,dd⟩:=oh I.hok e
  refine call_meetsIn XQ dd.typeIs PySem.F.entry_dict_get (PySem.F.args_dict_get_2 _ _) (meetsH_dict_get (tupleKind (aK X.prog X.w)) a b hd) ⟨Y9 hu,k,xs,dI I.hok eb,dd,h _ _ (I.tok _) ?_⟩
  rw [l]
  exact (rel.val k).getD rfl
end
def Ct (td ty:TE):TE:=fun J H Q=>td J H fun x H1=>∃ a,x=.ref a/\T3 H1 a/\ty J H1 fun y H2=>∃ o,hU H2 a y o/\Q (o.getD .GJ) H2
section
variable {X:Cx} {o e f:Expr} {apos oe:Pos} {td ty tx:TE}
def yX (hu:X.A.units+1 < cLine) (ho:PE X o td) (he:PE X e ty) (m:Mq1 X o "get" apos e oe):PE X (.Call (.Attribute o "get" apos) [e] [] oe) (Ct td ty):=by
 intro pins s J H Q I h
 refine wpAny_Call_method m.base m.Jc m.line PySem.F.plainAttrs_dict XQ PySem.F.type_dict_get (thn (ho pins s J H _ I h) fun u s1 ⟨x,H1,I1,rx,a,ex,d,q1⟩=>?_)
 subst ex
 obtain rfl:u=Value.ref a:=rx
 obtain ⟨t1,t2,_⟩:=C4 I1 d
 refine ⟨t1,t2,?_⟩
 rw [m.trees]
 refine Calls.callWith_builtin rfl (Calls.evalArgs_plain (Calls.spliced_cons (thn (he pins s1 J H1 _ I1 q1) fun iv s2 ⟨y,H2,I2,ry,ov,g,q2⟩=>Calls.spliced_nil ?_)))
 exact D6 hu I2 g ry fun w' s3 I3 JH=>⟨_,H2,I3,JH,q2⟩
end
end L2
namespace T8
open PySem PySem.W PySem.Calls PyProof.Rows
def lZ {P:Params} {h:Heap}:∀ (ns:Wg) (vs:X8),WellAll P h vs (ns.map WData.int)->IntsAre vs ns:=by
 intro ns
 induction ns with
 | nil =>
  intro vs w
  rw [List.map_nil] at w
  cases w
  exact .nil
 | cons n ns ih =>
  intro vs w
  rw [Zl] at w
  cases w with
  | cons a b =>
   cases a
   exact .cons _ _ (ih _ b)
def wI {l:OpenLaw} {n:Nat} (hn:l.most=some n) {P:Params} {h:Heap} {args:List WData} {vals:X8}
  (hpre:l.row.toRowW.claim.pre args=true) (hwl:WellAll P h vals args) :
  ∃ a vs ns,vals=[Value.ref a]/\args=[WData.list (ns.map WData.int)]/\h.get? a=some { cls:=.type "list",data:=.seq vs.toArray }/\IntsAre vs ns/\ns.length<=n:=by
 have U6:WShape.hasAll [] args [.list .int]=true:=(pre_splitW hpre).1
 have hc:l.pre.holds [] { args:=args }=true:=(pre_splitW hpre).2
 obtain ⟨d,r,rfl,h1,h2⟩:=hasAllW_cons U6
 obtain rfl:=hasAllW_nil h2
 obtain ⟨xs,rfl,h3⟩:=hasW_list h1
 obtain ⟨ns,rfl⟩:=items_int h3
 have hlen:ns.length<=n:=by
  unfold OpenLaw.pre at hc
  have h4:(WTm.not (.lt (.lit (.int (n:Int))) (.len (.arg 0)))).holds [] { args:=[.list (ns.map .int)] }=true:=by
   have h4:=(holds_andW hc).1
   rw [hn] at h4
   exact h4
  have h5:=condW_of h4 (w_not (w_lt w_lit (w_len_list (w_arg rfl))))
  rw [Zt] at h5
  refine ZE fun q=>?_
  have q':(n:Int) < ((ns.length:Nat):Int):=by omega
  first
   | (rw [decide_eq_true q'] at h5;exact absurd h5 (by decide))
   | (simp at h5;omega)
 cases hwl with
 | cons w1 w2 =>
  cases w2
  cases w1 with
  | list ho II=>exact ⟨_,_,ns,rfl,rfl,ho,lZ ns _ II,hlen⟩
def vE (l:OpenLaw) (args:List WData):l.row.toRowW.claim.post args (.bool true) args=true :=
 postW_of (r:=l.row.toRowW) (X:=(true == true))
  (show WShape.has [] (.bool true) .bool=true by first | rfl | decide | simp [WShape.has,WShape.arms,WShape.armsAll])
  (show (WTm.eq .res (.lit (.bool true))).value [] { args:=args,res:=some (.bool true),after:=args }=some (.bool (true == true)) from w_eq_bool (w_res rfl) w_lit) rfl
def sH {l:OpenLaw} {n:Nat} {q:Program} {loose:List Str} {XP:(Xe)->Heap->Prop} {YP:World->Heap->Prop} {d:DefRec}
  (hn:l.most=some n) (Mf:d.params.defaults=[])
  (call:∀ (w:World) (s₀ s₁:Shared) (mg mb:Xe) (fa:Addr) (o:Obj) (pm cd doc:Value) (a:Addr) (vs:X8) (ns:Wg),
   Ground q loose [] XP w s₀ mg mb s₁.heap->YP w s₁.heap →
   s₁.heap.get? fa=some o->o.data=.func (docDef d.name d.params d.body d.scope pm cd doc)->s₁.heap.CodeRec cd d.name->mg d.name=some (.ref fa) →
   s₁.heap.get? a=some { cls:=.type "list",data:=.seq vs.toArray }->IntsAre vs ns->ns.length<=n->s₁.gens=#[] →
   codeAny (model l.prog w) callerA (.call (.ref fa) ⟨[.ref a],[]⟩) (fun r s'=>r=.ok (.ret (.bool true))/\OldK s₁.heap s'.heap/\s'.os=s₁.os/\AllBare s'.gens) s₁) :
  WalkO q loose XP YP l.row.toRowW d [] (fun f vs=>PySem.call f vs):=by
 intro w s₀ s₁ mg mb G Y fa o pm cd doc dV kV ho hd hcd hD hmg hg args vals as hpre hlay hrd hwl hlo
 obtain rfl:dV=.none:=Dflts.none hD Mf
 obtain rfl:kV=.none:=Dflts.noKw hD
 obtain ⟨a,vs,ns,rfl,rfl,MI,hints,hlen⟩:=wI hn hpre hwl
 refine enter_call (codeAny_mono (call w s₀ s₁ mg mb fa o pm cd doc a vs ns G Y ho (fd_plain hd) hcd hmg MI hints hlen hg) fun r s' hq=>?_)
 obtain ⟨rfl,h2,h3,h4⟩:=hq
 exact ⟨.inl ⟨.bool true,.bool true,[],rfl,fun _=>rfl,.bool true,vE l _,fun _=>⟨List.Pairwise.nil,fun _ hm=>(nomatch hm)⟩⟩,h2,h3,h4⟩
end T8
namespace L2
open PySem PySem.Spec PyProof.Rows
theorem oR:∀ {vs:X8} {ns:Wg},IntsAre vs ns->aM (ns.map V.int) vs
 | _,_,.nil=>.nil
 | _,_,.cons n t h=>.cons ⟨t,rfl⟩ (oR h)
def xQ (H:Hp):Prop:=∀ b,H b=none\/∃ o xs,H b=some (.Hv o (.lst xs))
def zh {P:Program} {w:World} {K:Xj} {mg mb:Xe} {CX:KD} {k:Nat} {fa a:Addr} {fd:FuncData} {x:Str} {sp:Sp} {s₁:Shared} {vs:X8} {ns:Wg}
  (KX:K.In s₁.heap) (Ma:s₁.heap.Ns mainGlobals mg) (hb:s₁.heap.Ns builtinsNs mb) (Pe:∀ x:Str,x ≠ "__name__" → mb x=bootBuiltins x) (QR:s₁.heap.NoLimit) (hg:s₁.gens=#[])
  (ha:s₁.heap.get? a=some { cls:=.type "list",data:=.seq vs.toArray }) (hi:IntsAre vs ns) (hl:ns.length<=sizeLine) (hr:GH k callerA)
  (F:∀ base:Heap,K.In base->base.Ns mainGlobals mg->FnOk P w K mg base CX k fa fd [x] sp) (N9:∀ (s:Shared) (u:Value),BindsTo s fd ⟨[u],[]⟩ [(x,u)])
  (Ll:∀ H:Hp,xQ H->G2 K H a (ns.map V.int)->sp [.ref a] H (fun v _=>v=.bl true) fun _ _ _=>False)
  (Ru:∀ H e s',CX [] H s₁ (fun _ _ _=>False) e s'->False) :
  codeAny (model P w) callerA (.call (.ref fa) ⟨[.ref a],[]⟩) (fun r s'=>r=.ok (.ret (.bool true))/\OldK s₁.heap s'.heap/\s'.os=s₁.os/\AllBare s'.gens) s₁:=by
 have rv:=oR hi
 have Qx:=hi.length
 have core:∀ H:Hp,xQ H->G2 K H a (ns.map V.int)->HP P w H s₁.heap->(∀ b,H b ≠ none->b=a)->(H a ≠ none->K.lookup a=none) →
   codeAny (model P w) callerA (.call (.ref fa) ⟨[.ref a],[]⟩) (fun r s'=>r=.ok (.ret (.bool true))/\OldK s₁.heap s'.heap/\s'.os=s₁.os/\AllBare s'.gens) s₁:=by
  intro H hO hS hok hA hK
  have JX:∀ {b:Addr} {o:Obj},s₁.heap.get? b=some o->H b=none->(qr s₁.heap H).get? b=some o:=fun e n=>yU e n
  have NO:∀ {b:Addr} {o:Obj} {es:Array DictEntry} {ep:Nat},s₁.heap.get? b=some o->o.data=.dict es ep->H b=none:=fun {b o es ep} e d=>by
   cases q:H b with
   | none=>rfl
   | some u =>
    have e':b=a:=hA b (by rw [q];simp)
    subst e'
    rw [ha] at e;cases e
    have d':Data.seq vs.toArray _=Data.dict es ep:=d
    cases d'
  have O1:∀ {b:Addr} {m:Xe},s₁.heap.Ns b m->(qr s₁.heap H).Ns b m:=fun {b m} ⟨o,es,ep,e,d,r⟩=>⟨o,es,ep,JX e (NO e d),d,r⟩
  have Ta:K.In (qr s₁.heap H):=fun b o e=>JX (KX b o e) (by
   cases q:H b with
   | none=>rfl
   | some u =>
    have e':b=a:=hA b (by rw [q];simp)
    subst e'
    rw [hK (by rw [q];simp)] at e;cases e)
  have hM:Mod K mg (qr s₁.heap H):=⟨Ta,O1 Ma,⟨mb,O1 hb,Pe⟩,let ⟨mc,h1,h2⟩:=QR;⟨mc,O1 h1,h2⟩⟩
  have e0:Env0 P w K mg (qr s₁.heap H) callerA [] s₁ H:=⟨rfl,hM,fun b o e=>Bt e,Ww (we _ _),trivial,fun b hb=>absurd (show b∈([]:Xa) from hb) (by simp),hok,.of_eq hg⟩
  refine codeAny_mono ((F _ Ta (O1 Ma)).run callerA [] s₁ H ⟨[.ref a],[]⟩ [.ref a] [.ref a] _ _ hr e0 (N9 s₁ (.ref a)) (.cons rfl .nil) (Ll H hO hS)) fun r s' h=>?_
  cases r with
  | error e=>exact (Ru H e s' h).elim
  | ok fl =>
   cases fl with
   | next=>exact False.elim h
   | brk=>exact False.elim h
   | cont=>exact False.elim h
   | ret u =>
    obtain ⟨v,H',os,bare,un,QJ,r',q⟩:=h
    have q':v=.bl true:=q
    subst q'
    obtain rfl:u=Value.bool true:=r'
    refine ⟨rfl,OldK.of_keep fun b o e=>?_,os,bare⟩
    cases q:H b with
    | none=>exact un.keep b o e q (by intro z;exact absurd (show b∈([]:Xa) from z) (by simp)) (by simp)
    | some u =>
     rcases hO b with z | ⟨ob,xs,z⟩
     ·rw [q] at z;cases z
     ·have z2:=un.Jb b ob _ z
      obtain ⟨e1,_⟩:=hok b _ z
      obtain ⟨e2,_⟩:=QJ b _ z2
      rw [e] at e1;cases e1
      exact e2
 cases hk:K.lookup a with
 | some o =>
  have e:=KX a o hk
  rw [ha] at e
  cases e
  refine core (fun _=>none) (fun _=>.inl rfl) (.inr ⟨_,vs.toArray,_,hk,rfl,rfl,rfl,by rw [ZZ,Qx];exact hl,by simpa using rv⟩) (fun b u z=>by have z':(none:Option HO)=some u:=z;cases z') (fun b z=>absurd rfl z) fun z=>absurd rfl z
 | none =>
  refine core (fun b=>if b=a then some (.Hv { cls:=.type "list",data:=.seq vs.toArray } (.lst (ns.map V.int))) else none) (fun b=>?_) (.inl (.inr ⟨{ cls:=.type "list",data:=.seq vs.toArray },Zq rfl⟩)) (fun b u z=>?_) (fun b z=>?_) fun _=>hk
  ·by_cases hb:b=a
   ·exact .inr ⟨_,_,Zq hb⟩
   ·exact .inl (Zo hb)
  ·by_cases hb:b=a
   ·have z':=(Zq hb).symm.trans z
    cases z'
    subst hb
    exact ⟨ha,by rw [Zt];exact hl,vs,_,rv,ha⟩
   ·have z':=(Zo hb).symm.trans z
    cases z'
  ·by_cases hb:b=a
   ·exact hb
   ·exact absurd (Zo hb) z
def AS {l:PySem.W.OpenLaw} {n k:Nat} {q:Program} {loose:List Str} {XP:(Xe)->Heap->Prop} {YP:World->Heap->Prop} {d:DefRec} {K:Params->Xj} {CX:World->KD} {sp:World->Sp} {x:Str}
  (hn:l.most=some n) (Ng:n<=sizeLine) (Mf:d.params.defaults=[]) (hr:GH k callerA)
  (hY:∀ (w:World) (h:Heap),YP w h->(K w.params).In h)
  (F:∀ (w:World) (mg:Xe) (fa:Addr) (h:Heap),(K w.params).In h->h.Ns mainGlobals mg->mg d.name=some (.ref fa) →
   ∃ fd:FuncData,(∀ (s:Shared) (u:Value),BindsTo s fd ⟨[u],[]⟩ [(x,u)]) ∧
    ∀ base:Heap,(K w.params).In base->base.Ns mainGlobals mg->FnOk l.prog w (K w.params) mg base (CX w) k fa fd [x] (sp w))
  (Ll:∀ (w:World) (H:Hp) (a:Addr) (ns:Wg),ns.length<=n->xQ H->G2 (K w.params) H a (ns.map V.int)->sp w [.ref a] H (fun v _=>v=.bl true) fun _ _ _=>False)
  (Ru:∀ (w:World) (H:Hp) (s:Shared) (e:Value) (s':Shared),CX w [] H s (fun _ _ _=>False) e s'->False) :
  PySem.W.WalkO q loose XP YP l.row.toRowW d [] (fun f vs=>PySem.call f vs):=by
 refine T8.sH hn Mf fun w s₀ s₁ mg mb fa o pm cd doc a vs ns G Y ho hd hcd hmg MI hints hlen hg=>?_
 have KX:=hY w _ Y
 obtain ⟨fd,hb,hF⟩:=F w mg fa _ KX G.T.g hmg
 exact zh KX G.T.g G.T.b G.T.builtins G.T.nolimit hg MI hints (ZG hlen Ng) hr hF hb (fun H hO hS=>Ll w H a ns hlen hO hS) fun H e s'=>Ru w H s₁ e s'
def inClass (s:Stmt) (j:Nat):Stmt:=match s with
 | .ClassDef _ _ _ body _ _ _ _ _ _ _=>body.getD j (.Pass ⟨0,0,0,0⟩)
 | _=>.Pass ⟨0,0,0,0⟩
def cG (s:Stmt):Arguments:=match s with
 | .FunctionDef _ a _ _ _ _ _ _ _ _=>a
 | _=>{ posonlyargs:=[],args:=[],vararg:=none,kwonlyargs:=[],kw_defaults:=[],kwarg:=none,defaults:=[] }
def aR (s:Stmt):List Stmt:=match s with
 | .FunctionDef _ _ b _ _ _ _ _ _ _=>b
 | _=>[]
def ag (s:Stmt):Scope:=match s with
 | .FunctionDef _ _ _ _ _ _ sc _ _ _=>sc
 | _=>{ kind:=.function,names:=[],isGenerator:=false,isCoroutine:=false }
abbrev Hq:KD:=fun _ _ _ _ _ _=>False
abbrev E0:XK:=fun _ _ _=>False
def jA {X:Cx}:iW Hq X E0:=fun _ _ _ _ _ _ _ h=>h.elim
structure GX (K:Xj) (x qual:Str) (st:Stmt) (f:Addr) (fd:FuncData):Prop where
 ex:∃ (oc:Value) (od:Option Addr) (kV doc pm:Value) (an:Option Addr) (GP ct:Value) (JD:Array (Wq)),
  fd=PySem.W.fnOf x qual (cG st) (aR st) (ag st) .none kV doc pm an GP ct/\K.lookup f=some ⟨oc,od,.func fd,JD⟩/\PySem.W.codeIn K GP qual=true
 kp:PySem.W.keepIn K (.ref f)=true
section
variable {P:Program} {w:World} {K:Xj} {mg:Xe} {base:Heap}
def GX.ok {x qual:Str} {st:Stmt} {f:Addr} {fd:FuncData} {N ps:List Str} {k:Nat} {sp:Sp} (F:GX K x qual st f fd) (S:jj N ps (ag st)) (len:∀ vs H Q E,sp vs H Q E->vs.length=ps.length)
  (Jv:∀ (GP:Value) (A:Around) (outer:List Env) (s:Shared) (H:Hp) (vs:List V) (Q:VK) (E:XK),GH k (A.deeper (envOfC qual (ag st) s.heap.objs.size f GP))->sp vs H Q E →
   ∃ t,IC (iK Hq P w K mg base N qual (ag st) f GP A outer s H E).Jr (aR st) t/\t { nx:=fun _ H'=>Q .GJ H',rt:=Q } (start N vs) H):FnOk P w K mg base Hq (k+1) f fd ps sp:=by
 obtain ⟨oc,od,kV,doc,pm,an,GP,ct,JD,rfl,lk,hcd⟩:=F.ex
 refine BS lk hcd S len fun A outer s H vs Q E hr Ll=>?_
 obtain ⟨t,h,q⟩:=Jv GP A outer s H vs Q E hr Ll
 exact ⟨t,h.Jr,q⟩
def GX.binds {x qual:Str} {st:Stmt} {f:Addr} {fd:FuncData} {ps:List Str} (F:GX K x qual st f fd)
  (h:∀ (kV doc pm:Value) (an:Option Addr) (GP ct:Value) (us:X8),us.length=ps.length->bindArgs (PySem.W.fnOf x qual (cG st) (aR st) (ag st) .none kV doc pm an GP ct) ⟨us,[]⟩=pure (ps.zip us)):Binds K fd ps []:=by
 obtain ⟨oc,od,kV,doc,pm,an,GP,ct,JD,rfl,lk,hcd⟩:=F.ex
 exact .all (h kV doc pm an GP ct)
def xX {x qual:Str} {st:Stmt} {f:Addr} {oc:Value} {od an:Option Addr} {JD:Array (Wq)} {kV doc pm GP ct:Value} (l:K.lookup f=some ⟨oc,od,.func (PySem.W.fnOf x qual (cG st) (aR st) (ag st) .none kV doc pm an GP ct),JD⟩)
  (c:PySem.W.codeIn K GP qual=true) (k:PySem.W.keepIn K (.ref f)=true):GX K x qual st f (PySem.W.fnOf x qual (cG st) (aR st) (ag st) .none kV doc pm an GP ct):=⟨⟨oc,od,kV,doc,pm,an,GP,ct,JD,rfl,l,c⟩,k⟩
end
def kb {A:Around} {k:Nat} (hr:GH k A):A.units+1 < cLine:=X3 (Nat.add_le_add_left (by decide:1<=64) _) hr.units
def wJ {A B:Prop} (h:B):if false=true then A else B:=by
 rw [Zo Zd]
 exact h
def vR {A B:Prop} (h:A):if true=true then A else B:=by
 rw [Zq rfl]
 exact h
def aD (H H':Hp):Prop:=∀ b o,H b=some o->H' b=some o
def aD.refl (H:Hp):aD H H:=fun _ _ h=>h
def aD.trans {H H1 H2:Hp} (a:aD H H1) (b:aD H1 H2):aD H H2:=fun c o h=>b c o (a c o h)
def aD.free {H H':Hp} (e:aD H H') {l:Addr} (h:H' l=Option.none):H l=Option.none:=by
 cases q:H l with
 | none=>rfl
 | some o =>
  rw [e l o q] at h
  cases h
end L2
end
section
namespace L2
open PySem PySem.Spec PyProof.Rows
abbrev ox:=List (Wg)
def hN (k:ox):Int:=reduceHash (Builtin.Tuple.tupleHashOf (k.map fun x=>reduceHash (Builtin.Tuple.tupleHashOf (x.map hashInt))))
def Gu (x:ox×Addr×Value):DictEntry:=⟨hN x.1,.ref x.2.1,x.2.2⟩
abbrev KN:List (ox×Addr×V)->List (ox×Addr×Value)->Prop:=Paired fun p q=>p.1=q.1/\p.2.1=q.2.1/\RelV p.2.2 q.2.2
def DN (a:Addr) (gV:List (ox×Addr×V)):HO:=.ext fun h=>gV.length<=sizeLine/\(a == sysModules)=false/\∃ xs:List (ox×Addr×Value),KN gV xs ∧
 ∃ o es ep,h.get? a=some o/\o.ExactDict/\o.data=.dict es ep/\es.toList=xs.map Gu/\(xs.map (·.1)).Nodup
def Pm (H:Hp) (k:ox) (b:Addr):Prop:=∃ cs:Xa,H b=some (.tup (cs.map V.ref))/\Paired (fun (x:Wg) (c:Addr)=>H c=some (.tup (x.map V.int))) k cs
def Pm.mono {H H':Hp} {k:ox} {b:Addr} (x:Pm H k b) (t:∀ a xs,H a=some (.tup xs)->H' a=some (.tup xs)):Pm H' k b:=by
 obtain ⟨cs,h,r⟩:=x
 exact ⟨cs,t _ _ h,Paired.LH r fun _ _ z=>t _ _ z⟩
end L2
end
section
namespace VS
open PySem PySem.Spec PyProof.Rows L2
def sx (s:Tx):Str:=⟨s.toArray⟩
def pV (s:Tx):Prop:=s.length<=eD/\∀ c∈s,c < 1114112
abbrev Me:=Nat->Option V
structure Gx where
 K:Xj
 ct:Nat->Addr×(Nat->Str)
 me:Me:=fun _=>none
def Gx.at (G:Gx) (m:Me):Gx:=⟨G.K,G.ct,m⟩
def aP:Key->T
 | .inl i=>.int i
 | .inr x=>.str x.cps.toList
def UI (k:ox):T:=.tup (k.map fun x=>T.tup (x.map T.int))
def lQ (K:Xj) (H:Hp) (a:Addr) (ns:Wg):Prop :=
 (∃ o,H a=some (.Hv o (.lst (ns.map V.int)))) ∨
  ∃ (o:Obj) (p0:Array Value) (n:Nat),K.lookup a=some o/\o.cls=.type "list" ∧ o.dict=none/\o.data=.seq p0 n/\p0.size<=sizeLine/\aM (ns.map V.int) p0.toList
mutual
inductive Rp (G:Gx) (H:Hp):V->T->Xa->Prop
 | GJ:Rp G H .GJ .GJ []
 | bl (b:Bool):Rp G H (.bl b) (.bl b) []
 | int (i:Int):Rp G H (.int i) (.int i) []
 | str (s:Tx):pV s->Rp G H (.str (sx s)) (.str s) []
 | Hw {a:Addr} {ns:Wg}:lQ G.K H a ns->Rp G H (.ref a) (.Hw ns) []
 | tup {a:Addr} {vs:List V} {ts:Wa} {Fs:Xm}:H a=some (.tup vs)->RpL G H vs ts Fs->Rp G H (.ref a) (.tup ts) Fs.flatten
 | lst {a:Addr} {vs:List V} {ts:Wa} {Fs:Xm}:H a=some (.lst vs)->RpL G H vs ts Fs->Rp G H (.ref a) (.lst ts) (a :: Fs.flatten)
 | GL {a:Addr} {ks:List Key} {vs:List V} {ts:Wa} {Fs:Xm}:H a=some (.dK (ks.zip vs))->ks.length=vs.length->RpL G H vs ts Fs->Rp G H (.ref a) (.GL 0 ((ks.map aP).zip ts)) (a :: Fs.flatten)
 | Lc {a:Addr} {ks:List (List Key)} {vs:List V} {ts:Wa} {Fs:Xm}:H a=some (.dT (ks.zip vs))->ks.length=vs.length->RpL G H vs ts Fs->Rp G H (.ref a) (.GL 1 ((ks.map fun k=>T.tup (k.map aP)).zip ts)) (a :: Fs.flatten)
 | Ld {a:Addr} {ks:List (ox×Addr)} {vs:List V} {ts:Wa} {Fs:Xm}:H a=some (DN a ((ks.zip vs).map fun p=>(p.1.1,p.1.2,p.2)))->ks.length=vs.length->(∀ p∈ks,Pm H p.1 p.2)->RpL G H vs ts Fs->Rp G H (.ref a) (.GL 2 ((ks.map fun p=>UI p.1).zip ts)) (a :: Fs.flatten)
 | JN {a:Addr} {o:Obj} {ks:List Key} {vs:List V} {ts:Wa} {Fs:Xm}:H a=some (.Hv o (.dK (ks.zip vs)))->ks.length=vs.length->RpL G H vs ts Fs->Rp G H (.ref a) (.GL 3 ((ks.map aP).zip ts)) Fs.flatten
 | exc {c:Nat} {a:Addr} {o:Obj}:H a=some (.Hv o (.own a))->(o.cls=.ref (G.ct c).1/\o.dict=none/\∃ vs,o.data=.fields vs)->Rp G H (.ref a) (.obj c []) []
 | ins {c:Nat} {a dx:Addr} {b:Bool} {ks:Wh} {vs:List V} {ts:Wa} {Fs:Xm}:H a=some (.ins (G.ct (c+1)).1 dx ((ks.map (G.ct (c+1)).2).zip vs))->ks.length=vs.length->(b=true->G.me 0=some (.ref a))->RpL G H vs ts Fs->Rp G H (.ref a) (.obj (c+1) ((0,.bl b) :: ks.zip ts)) (a :: Fs.flatten)
 | mk {m:Nat} {a:Addr} {t:T} {F:Xa}:G.me m=some (.ref a)->Rp G H (.ref a) t F->Rp G H (.ref a) (.obj 0 [(0,.bl true),(m,t)]) F
inductive RpL (G:Gx) (H:Hp):List V->Wa->Xm->Prop
 | nil:RpL G H [] [] []
 | cons {v:V} {t:T} {F:Xa} {vs:List V} {ts:Wa} {Fs:Xm}:Rp G H v t F->RpL G H vs ts Fs->RpL G H (v :: vs) (t :: ts) (F :: Fs)
end
structure Kept (H H':Hp):Prop where
 tup:∀ a xs,H a=some (.tup xs)->H' a=some (.tup xs)
 Hv:∀ a o u,H a=some (.Hv o u)->H' a=some (.Hv o u)
def Kept.refl (H:Hp):Kept H H:=⟨fun _ _ h=>h,fun _ _ _ h=>h⟩
def Kept.trans {H H1 H2:Hp} (a:Kept H H1) (b:Kept H1 H2):Kept H H2:=⟨fun c x h=>b.tup c x (a.tup c x h),fun c o u h=>b.Hv c o u (a.Hv c o u h)⟩
def Kept.of {H H':Hp} (e:aD H H'):Kept H H':=⟨fun a _ h=>e a _ h,fun a _ _ h=>e a _ h⟩
theorem Kept.upd {H:Hp} {a:Addr} {o:HO} (mu:GS (H a)\/H a=none):Kept H (upd H a o):=by
 have ne:∀ b u,H b=some u->¬ GS (some u)->b ≠ a:=fun b u h nm e=>by
  subst e
  rcases mu with m | m
  ·rw [h] at m;exact nm m
  ·rw [h] at m;cases m
 exact ⟨fun b xs h=>by rw [aA (ne b _ h fun z=>z)];exact h,fun b o u h=>by rw [aA (ne b _ h fun z=>z)];exact h⟩
def lQ.kept {K:Xj} {H H':Hp} {a:Addr} {ns:Wg} (h:lQ K H a ns) (k:Kept H H'):lQ K H' a ns:=by
 rcases h with ⟨o,e⟩ | h
 ·exact .inl ⟨o,k.Hv _ _ _ e⟩
 ·exact .inr h
def lQ.seq {K:Xj} {H:Hp} {a:Addr} {ns:Wg} (h:lQ K H a ns):G2 K H a (ns.map V.int):=by
 rcases h with ⟨o,e⟩ | h
 ·exact .inl (.inr ⟨o,e⟩)
 ·exact .inr h
def qR {H H':Hp} {a:Addr} {F:Xa} (f:∀ b∈a :: F,∀ o,H b=some o->H' b=some o):∀ b∈F,∀ o,H b=some o->H' b=some o:=fun b m=>f b (Zw _ m)
def vm {H H':Hp} {F:Xa} {Fs:Xm} (f:∀ b∈(F :: Fs).flatten,∀ o,H b=some o->H' b=some o):(∀ b∈F,∀ o,H b=some o->H' b=some o)/\∀ b∈Fs.flatten,∀ o,H b=some o->H' b=some o:=by
 rw [ZX] at f
 exact ⟨fun b m=>f b (Yx _ m),fun b m=>f b (ZL _ m)⟩
def Rp.keep {G:Gx} {H H':Hp} (k:Kept H H') {v:V} {t:T} {F:Xa} (r:Rp G H v t F):(∀ a∈F,∀ o,H a=some o->H' a=some o)->Rp G H' v t F :=
 Rp.rec (motive_1:=fun v t F _=>(∀ a∈F,∀ o,H a=some o->H' a=some o)->Rp G H' v t F) (motive_2:=fun vs ts Fs _=>(∀ a∈Fs.flatten,∀ o,H a=some o->H' a=some o)->RpL G H' vs ts Fs)
  (fun _=>.GJ) (fun b _=>.bl b) (fun i _=>.int i) (fun s h _=>.str s h) (fun h _=>.Hw (h.kept k)) (fun h _ ih f=>.tup (k.tup _ _ h) (ih f)) (fun h _ ih f=>.lst (f _ Zu _ h) (ih (qR f))) (fun h l _ ih f=>.GL (f _ Zu _ h) l (ih (qR f))) (fun h l _ ih f=>.Lc (f _ Zu _ h) l (ih (qR f)))
  (fun h l n _ ih f=>.Ld (f _ Zu _ h) l (fun p m=>(n p m).mono k.tup) (ih (qR f))) (fun h l _ ih f=>.JN (k.Hv _ _ _ h) l (ih f)) (fun h hc _=>.exc (k.Hv _ _ _ h) hc) (fun h l m _ ih f=>.ins (f _ Zu _ h) l m (ih (qR f))) (fun h _ ih f=>.mk h (ih f)) (fun _=>.nil) (fun _ _ i1 i2 f=>.cons (i1 (vm f).1) (i2 (vm f).2)) r
theorem RpL.keep {G:Gx} {H H':Hp} (k:Kept H H'):∀ {vs:List V} {ts:Wa} {Fs:Xm},RpL G H vs ts Fs->(∀ a∈Fs.flatten,∀ o,H a=some o->H' a=some o)->RpL G H' vs ts Fs
 | _,_,_,.nil,_=>.nil
 | _,_,_,.cons r q,f=>.cons (r.keep k (vm f).1) (RpL.keep k q (vm f).2)
def Rp.same {G:Gx} {H H':Hp} (e:aD H H') {v:V} {t:T} {F:Xa} (r:Rp G H v t F):Rp G H' v t F:=r.keep (Kept.of e) fun a _ o h=>e a o h
def RpL.same {G:Gx} {H H':Hp} (e:aD H H') {v:List V} {t:Wa} {F:Xm} (r:RpL G H v t F):RpL G H' v t F:=r.keep (Kept.of e) fun a _ o h=>e a o h
def wU {H:Hp} {a:Addr} {F:Xa} (h:GS (H a)) (ih:∀ b∈F,GS (H b)):∀ b∈a :: F,GS (H b):=fun b m=>(Zj.mp m).elim (fun e=>e ▸ h) (ih b)
def zt {H:Hp} {a:Addr} {o:HO} (h:H a=some o) (m:GS (some o)):GS (H a):=by rw [h];exact m
def EI {H:Hp} {F:Xa} {Fs:Xm} (h1:∀ b∈F,GS (H b)) (h2:∀ b∈Fs.flatten,GS (H b)):∀ b∈(F :: Fs).flatten,GS (H b):=fun b m=>by
 rw [ZX] at m
 exact (Zc.mp m).elim (h1 b) (h2 b)
def Rp.GZ {G:Gx} {H:Hp} {v:V} {t:T} {F:Xa} (r:Rp G H v t F):∀ a∈F,GS (H a) :=
 Rp.rec (motive_1:=fun v t F _=>∀ a∈F,GS (H a)) (motive_2:=fun vs ts Fs _=>∀ a∈Fs.flatten,GS (H a))
  (fun _ m=>nomatch m) (fun _ _ m=>nomatch m) (fun _ _ m=>nomatch m) (fun _ _ _ m=>nomatch m) (fun _ _ m=>nomatch m) (fun _ _ ih=>ih) (fun h _ ih=>wU (zt h True.intro) ih) (fun h _ _ ih=>wU (zt h True.intro) ih) (fun h _ _ ih=>wU (zt h True.intro) ih)
  (fun h _ _ _ ih=>wU (zt h True.intro) ih) (fun _ _ _ ih=>ih) (fun _ _ _ m=>nomatch m) (fun h _ _ _ ih=>wU (zt h True.intro) ih) (fun _ _ ih=>ih) (fun _ m=>nomatch m) (fun _ _ i1 i2=>EI i1 i2) r
theorem RpL.GZ {G:Gx} {H:Hp}:∀ {vs:List V} {ts:Wa} {Fs:Xm},RpL G H vs ts Fs->∀ a∈Fs.flatten,GS (H a)
 | _,_,_,.nil=>fun _ m=>nomatch m
 | _,_,_,.cons r q=>EI r.GZ (RpL.GZ q)
def GS.pe {o:Option HO} (m:GS o):o ≠ none:=fun e=>by subst e;exact m
def Fb {F:Xa} {Fs:Xm} {t:T} {ts:Wa} (h1:VS.GO t=true->F=[]) (h2:VS.eO ts=true->Fs.flatten=[]) (i:VS.eO (t :: ts)=true):(F :: Fs).flatten=[]:=by
 simp only [VS.eO,Ze] at i
 rw [ZX,h1 i.1,h2 i.2]
 rfl
theorem Rp.GO {G:Gx} {H:Hp} {v:V} {t:T} {F:Xa} (r:Rp G H v t F):VS.GO t=true->F=[] :=
 Rp.rec (motive_1:=fun v t F _=>VS.GO t=true->F=[]) (motive_2:=fun vs ts Fs _=>VS.eO ts=true->Fs.flatten=[])
  (fun _=>rfl) (fun _ _=>rfl) (fun _ _=>rfl) (fun _ _ _=>rfl) (fun _ _=>rfl) (fun _ _ ih i=>ih (by simpa [VS.GO] using i)) (fun _ _ _ i=>absurd (show false=true from i) Zd) (fun _ _ _ _ i=>absurd (show false=true from i) Zd) (fun _ _ _ _ i=>absurd (show false=true from i) Zd)
  (fun _ _ _ _ _ i=>absurd (show false=true from i) Zd) (fun _ _ _ _ i=>absurd (show false=true from i) Zd) (fun _ _ _=>rfl) (fun _ _ _ _ _ i=>absurd (show false=true from i) Zd) (fun _ _ _ i=>absurd (show false=true from i) Zd) (fun _=>rfl) (fun _ _ i1 i2 i=>Fb i1 i2 i) r
theorem RpL.GO {G:Gx} {H:Hp}:∀ {vs:List V} {ts:Wa} {Fs:Xm},RpL G H vs ts Fs->VS.eO ts=true->Fs.flatten=[]
 | _,_,_,.nil,_=>rfl
 | _,_,_,.cons r q,i=>Fb r.GO (RpL.GO q) i
theorem RpL.len {G:Gx} {H:Hp}:∀ {vs:List V} {ts:Wa} {Fs:Xm},RpL G H vs ts Fs->vs.length=ts.length/\Fs.length=ts.length
 | _,_,_,.nil=>⟨rfl,rfl⟩
 | _,_,_,.cons _ q=>by
  have:=RpL.len q
  simp only [Zm]
  lia
theorem RpL.get {G:Gx} {H:Hp}:∀ {vs:List V} {ts:Wa} {Fs:Xm} (i:Nat) {t:T},RpL G H vs ts Fs->ts[i]?=some t->∃ v F,vs[i]?=some v/\Fs[i]?=some F/\Rp G H v t F
 | _,_,_,_,_,.nil,e=>by simp at e
 | _,_,_,0,_,.cons r _,e=>by
  simp at e
  subst e
  exact ⟨_,_,rfl,rfl,r⟩
 | _,_,_,i+1,_,.cons _ q,e=>by
  obtain ⟨v,F,h1,h2,h3⟩:=RpL.get i q (by simpa using e)
  exact ⟨v,F,by simpa using h1,by simpa using h2,h3⟩
theorem RpL.append {G:Gx} {H:Hp}:∀ {vs:List V} {ts:Wa} {Fs:Xm} {us:List V} {rs:Wa} {Gs:Xm},RpL G H vs ts Fs->RpL G H us rs Gs->RpL G H (vs++us) (ts++rs) (Fs++Gs)
 | _,_,_,_,_,_,.nil,s=>s
 | _,_,_,_,_,_,.cons r q,s=>.cons r (RpL.append q s)
theorem RpL.take {G:Gx} {H:Hp}:∀ {vs:List V} {ts:Wa} {Fs:Xm} (n:Nat),RpL G H vs ts Fs->RpL G H (vs.take n) (ts.take n) (Fs.take n)
 | _,_,_,0,_=>by simpa using RpL.nil
 | _,_,_,n+1,.nil=>.nil
 | _,_,_,n+1,.cons r q=>.cons r (RpL.take n q)
theorem RpL.drop {G:Gx} {H:Hp}:∀ {vs:List V} {ts:Wa} {Fs:Xm} (n:Nat),RpL G H vs ts Fs->RpL G H (vs.drop n) (ts.drop n) (Fs.drop n)
 | _,_,_,0,q=>q
 | _,_,_,n+1,.nil=>.nil
 | _,_,_,n+1,.cons r q=>RpL.drop n q
def i5:Cell->T
 | .pu t=>t
 | .ow t=>t
abbrev GR:=Nat->Xa
structure SR (G:Gx) (M:GR) (U:VS.Env) (J:L2.St) (H:Hp):Prop where
 len:U.length=J.length
 rp:∀ i c,U[i]?=some (some c)->∃ v,J[i]?=some (some v)/\Rp G H v (i5 c) (M i)
 nd:∀ i t,U[i]?=some (some (.ow t))->(M i).Nodup
 sep:∀ i j t c,U[i]?=some (some (.ow t))->U[j]?=some (some c)->i ≠ j->∀ a∈M i,a ∉ M j
def cM (M:GR) (U:VS.Env) (a:Addr):Prop:=∃ j t,U[j]?=some (some (.pu t))/\a∈M j
def bC (M:GR) (U:VS.Env) (a:Addr):Prop:=∃ j t,U[j]?=some (some (.ow t))/\a∈M j
def Fp (M:GR) (U:VS.Env) (H:Hp):Md->Xa->Prop
 | .fr,F=>F.Nodup/\∀ a∈F,H a=none
 | .pu,F=>∀ a∈F,H a=none\/cM M U a
 | .bo,F=>∀ a∈F,H a=none\/cM M U a\/bC M U a
theorem SR.same {G:Gx} {M:GR} {U:VS.Env} {J:L2.St} {H H':Hp} (s:SR G M U J H) (e:aD H H'):SR G M U J H' :=
 ⟨s.len,fun i c h=>let ⟨v,h1,h2⟩:=s.rp i c h;⟨v,h1,h2.same e⟩,s.nd,s.sep⟩
def SR.IU {G:Gx} {M:GR} {U:VS.Env} {J:L2.St} {H:Hp} {a:Addr} (s:SR G M U J H) (h:cM M U a):GS (H a):=by
 obtain ⟨j,t,h1,h2⟩:=h
 obtain ⟨v,_,r⟩:=s.rp j _ h1
 exact r.GZ a h2
def SR.Hj {G:Gx} {M:GR} {U:VS.Env} {J:L2.St} {H:Hp} {a:Addr} (s:SR G M U J H) (h:bC M U a):GS (H a):=by
 obtain ⟨j,t,h1,h2⟩:=h
 obtain ⟨v,_,r⟩:=s.rp j _ h1
 exact r.GZ a h2
def Fp.nil {M:GR} {U:VS.Env} {H:Hp} {m:Md}:Fp M U H m []:=by
 cases m
 ·exact ⟨Z9,fun a h=>by simp at h⟩
 ·exact fun a h=>by simp at h
 ·exact fun a h=>by simp at h
theorem Fp.bo {M:GR} {U:VS.Env} {H:Hp} {F:Xa}:∀ {m:Md},Fp M U H m F->Fp M U H .bo F
 | .fr,h=>fun a m=>.inl (h.2 a m)
 | .pu,h=>fun a m=>(h a m).elim .inl fun z=>.inr (.inl z)
 | .bo,h=>h
theorem Fp.pu {M:GR} {U:VS.Env} {H:Hp} {F:Xa}:∀ {m:Md},m ≠ .bo->Fp M U H m F->Fp M U H .pu F
 | .fr,_,h=>fun a m=>.inl (h.2 a m)
 | .pu,_,h=>h
 | .bo,n,_=>absurd rfl n
theorem Fp.back {M:GR} {U:VS.Env} {H H':Hp} (e:aD H H') {F:Xa}:∀ {m:Md},Fp M U H' m F->Fp M U H m F
 | .fr,h=>⟨h.1,fun a m=>e.free (h.2 a m)⟩
 | .pu,h=>fun a m=>(h a m).imp e.free id
 | .bo,h=>fun a m=>(h a m).imp e.free id
theorem Fp.up {G:Gx} {M:GR} {U:VS.Env} {H H':Hp} {m:Md} {v:V} {t:T} {F:Xa} (f:Fp M U H m F) (r:Rp G H' v t F):Fp M U H (VS.up m t).1 F:=by
 unfold VS.up
 by_cases h:VS.GO t=true
 ·rw [r.GO h]
  exact Fp.nil
 ·simp only [h,if_false,X7]
  exact f
def tE (G:Gx) (c:Ex):TE:=fun J H Q=>∃ M U m r,SR G M U J H/\c U=some (m,r)/\∀ v H' F,aD H H'->Rp G H' v r F->Fp M U H m F->Q v H'
def PV (G:Gx) (X:Cx) (e:Expr) (c:Ex):Prop:=PE X e (tE G c)
def PE.weak {X:Cx} {e:Expr} {t t':TE} (h:PE X e t) (w:∀ J H Q,t' J H Q->t J H Q):PE X e t':=fun pins s J H Q I q=>h pins s J H Q I (w J H Q q)
def PT.weak {X:Cx} {e:Expr} {t t':TT} (h:PT X e t) (w:∀ J H Q,t' J H Q->t J H Q):PT X e t':=fun pins s J H Q I q=>h pins s J H Q I (w J H Q q)
def PA.weak {X:Cx} {e:List Expr} {t t':TA} (h:PA X e t) (w:∀ J H Q,t' J H Q->t J H Q):PA X e t':=fun pos pins s J H Q I q=>h pos pins s J H Q I (w J H Q q)
def tT (G:Gx) (c:Ex):TT:=fun J H Q=>∃ M U m r b,SR G M U J H/\c U=some (m,r)/\Lg r=some b/\∀ H',aD H H'->Q b H'
def Iq (G:Gx) (X:Cx) (e:Expr) (c:Ex):Prop:=PT X e (tT G c)
def HQ (l:Wc) (Fs:Xm):Xa:=match l,Fs with
 | v :: l,F :: Fs=>match v.1 with
  | .fr=>F++HQ l Fs
  | _=>HQ l Fs
 | _,_=>[]
structure Ls (M:GR) (U:VS.Env) (H:Hp) (l:Wc) (Fs:Xm):Prop where
 each:∀ (i:Nat) v F,l[i]?=some v->Fs[i]?=some F->Fp M U H v.1 F
 nd:(HQ l Fs).Nodup
def M8 (G:Gx) (c:Hh):TA:=fun J H Q=>∃ M U l,SR G M U J H/\c U=some l/\∀ vs H' Fs,aD H H'->RpL G H' vs (trees l) Fs->Ls M U H l Fs->Q vs H'
def HI (G:Gx) (X:Cx) (es:List Expr) (c:Hh):Prop:=PA X es (M8 G c)
section
variable {G:Gx} {X:Cx} {a b c:Expr} {ca cb cc:Ex} {pos:Pos}
def aj {i j pos}:PV G X (.Constant (.int i) j pos) (Q2 i):=PE.weak qx fun J H Q hq=>by
 obtain ⟨M,U,m,r,s,e,k⟩:=hq
 cases (show some (Md.fr,T.int i)=some (m,r) from e)
 exact k _ _ _ (aD.refl _) (.int i) Fp.nil
def rJ {i j pos}:PV G X (.Constant (.bool i) j pos) (eC (.bl i)):=PE.weak Ei fun J H Q hq=>by
 obtain ⟨M,U,m,r,s,e,k⟩:=hq
 cases (show some (Md.fr,T.bl i)=some (m,r) from e)
 exact k _ _ _ (aD.refl _) (.bl i) Fp.nil
def pR {j pos}:PV G X (.Constant .none j pos) (eC .GJ):=PE.weak Do fun J H Q hq=>by
 obtain ⟨M,U,m,r,s,e,k⟩:=hq
 cases (show some (Md.fr,T.GJ)=some (m,r) from e)
 exact k _ _ _ (aD.refl _) .GJ Fp.nil
def iM {x:Str} {t:Tx} {j pos} (h:x=sx t:=by decide +kernel) (hl:pV t:=by decide):PV G X (.Constant (.str x) j pos) (eC (.str t)):=PE.weak Dn fun J H Q hq=>by
 obtain ⟨M,U,m,r,s,e,k⟩:=hq
 cases (show some (Md.fr,T.str t)=some (m,r) from e)
 subst h
 exact k _ _ _ (aD.refl _) (.str t hl) Fp.nil
def bM (i:Nat) {x:Str} {pos:Pos} (hN:X.N[i]?=some x:=by rfl) (hv:IB X.env.scope x:=by first | exact Or.inl rfl | exact Or.inr (Or.inl rfl) | exact Or.inr (Or.inr rfl)) (hd:K3 x:=by decide)
  (hcd:K4 x:=by decide):PV G X (.Name x pos) (aa i):=PE.weak (fK hN hv hd hcd) fun J H Q hq=>by
 obtain ⟨M,U,m,r,s,e,k⟩:=hq
 unfold aa at e
 split at e
 ·rename_i t h
  obtain ⟨v,h1,h2⟩:=s.rp _ _ h
  have e':VS.up .pu t=(m,r):=Zn e
  have er:t=r:=congrArg Prod.snd e'
  have em:(VS.up .pu t).1=m:=congrArg Prod.fst e'
  rw [← er,← em] at k
  refine ⟨v,h1,k v H (M i) (aD.refl _) h2 ?_⟩
  have f:Fp M U H .pu (M i):=fun a ha=>.inr ⟨i,_,h,ha⟩
  exact f.up h2
 ·rename_i t h
  obtain ⟨v,h1,h2⟩:=s.rp _ _ h
  cases e
  exact ⟨v,h1,k v H (M i) (aD.refl _) h2 fun a ha=>.inr (.inr ⟨i,_,h,ha⟩)⟩
 ·cases e
def Aq {x:Str} {u:Value} {v:V} {t:T} {pos:Pos} (hg:Gl X x) (hm:X.mg x=some u) (r:RelV v u) (hr:∀ H,Rp G H v t []) (hd:K3 x:=by decide):PV G X (.Name x pos) (eC t) :=
 PE.weak (Bv hg hm r hd) fun J H Q hq=>by
  obtain ⟨M,U,m,t',s,e,k⟩:=hq
  cases (show some (Md.fr,t)=some (m,t') from e)
  exact k _ _ _ (aD.refl _) (hr H) Fp.nil
structure OE (G:Gx) (M:GR) (U:VS.Env) (H0 H:Hp) (x y:Val) (u w:V) (F1 F2:Xa):Prop where
 same:aD H0 H
 r1:Rp G H u x.2 F1
 r2:Rp G H w y.2 F2
 f1:Fp M U H0 x.1 F1
 f2:Fp M U H0 y.1 F2
 nd:x.1=.fr->y.1=.fr->(F1++F2).Nodup
def eJ (G:Gx) (r:R2) (f:Val->Val->Wb):Prop:=∀ (M:GR) (U:VS.Env) (H0 H:Hp) (x y:Val) (u w:V) (F1 F2:Xa) (m:Md) (t:T) (Q:VK),OE G M U H0 H x y u w F1 F2->f x y=some (m,t) →
 (∀ v H' F,aD H H'->Rp G H' v t F->Fp M U H0 m F->Q v H')->r u w H Q
def zo {J:L2.St} {H:Hp} {Q:V->V->Hp->Prop} {M:GR} {U:VS.Env} {x y:Val} (s:SR G M U J H) (ea:ca U=some x) (eb:cb U=some y)
  (k:∀ u w H2 F1 F2,OE G M U H H2 x y u w F1 F2->Q u w H2):tE G ca J H fun u H1=>tE G cb J H1 fun w H2=>Q u w H2:=by
 refine ⟨M,U,x.1,x.2,s,ea,fun u H1 F1 e1 r1 f1=>⟨M,U,y.1,y.2,s.same e1,eb,fun w H2 F2 e2 r2 f2=>k u w H2 F1 F2 ⟨e1.trans e2,r1.same e2,r2,f1,f2.back e1,fun hx hy=>?_⟩⟩⟩
 rw [hx] at f1
 rw [hy] at f2
 refine ZU.mpr ⟨f1.1,f2.1,fun a ha b hb z=>?_⟩
 subst z
 exact GS.pe (r1.GZ a ha) (f2.2 a hb)
def lB {r:R2} {f:Val->Val->Wb} (ok:eJ G r f) {J:L2.St} {H:Hp} {Q:VK} (h:tE G (e2 f ca cb) J H Q):M7 r (tE G ca) (tE G cb) J H Q:=by
 obtain ⟨M,U,m,t,s,e,k⟩:=h
 unfold e2 at e
 obtain ⟨x,ea,e⟩:=Zz.mp e
 obtain ⟨y,eb,e⟩:=Zz.mp e
 exact zo s ea eb fun u w H2 F1 F2 tw=>ok M U H H2 x y u w F1 F2 m t Q tw e fun v H' F e1 r1 f1=>k v H' F (tw.same.trans e1) r1 f1
def jC {op:Operator} {r:R2} {f:Val->Val->Wb} (ho:OpR X (binaryOp op) r) (ok:eJ G r f) (ha:PV G X a ca) (hb:PV G X b cb):PV G X (.BinOp a op b pos) (e2 f ca cb) :=
 PE.weak (Cj ho ha hb) fun J H Q h=>lB ok h
def Dl {op:CmpOp} {r:R2} {f:Val->Val->Wb} (ho:OpR X (compareOp op) r) (ok:eJ G r f) (ha:PV G X a ca) (hb:PV G X b cb) (hm:behindInMarks op b=false):PV G X (.Compare a [op] [b] pos) (e2 f ca cb) :=
 PE.weak (AR ho ha hb hm) fun J H Q h=>lB ok h
def Tells (f:Val->Val->Wb):Prop:=∀ x y m t,f x y=some (m,t)->∃ b,t=.bl b
def Rp.HG {H:Hp} {v:V} {b:Bool} {F:Xa} (r:Rp G H v (.bl b) F):v=.bl b:=by cases r;rfl
def Rp.int_inv {H:Hp} {v:V} {b:Int} {F:Xa} (r:Rp G H v (.int b) F):v=.int b:=by cases r;rfl
def Rp.str_inv {H:Hp} {v:V} {b:Tx} {F:Xa} (r:Rp G H v (.str b) F):v=.str (sx b)/\pV b:=by cases r with | str _ h=>exact ⟨rfl,h⟩
def ng {c:Ex} {t:TE} {J:L2.St} {H:Hp} {Q:Bool->Hp->Prop} (h:tT G c J H Q) (ht:∀ U m r,c U=some (m,r)->∃ b,r=.bl b) (w:∀ Q,tE G c J H Q->t J H Q):xj t J H Q:=by
 obtain ⟨M,U,m,r,b,s,e,eb,k⟩:=h
 refine w _ ⟨M,U,m,r,s,e,fun v H' F e1 r1 f1=>?_⟩
 obtain ⟨b',er⟩:=ht U m r e
 rw [er] at eb r1
 cases (show some b'=some b from eb)
 exact ⟨_,r1.HG,k H' e1⟩
def gL {op:CmpOp} {r:R2} {f:Val->Val->Wb} (ho:OpR X (compareOp op) r) (ok:eJ G r f) (ht:Tells f) (ha:PV G X a ca) (hb:PV G X b cb) (hm:behindInMarks op b=false):Iq G X (.Compare a [op] [b] pos) (e2 f ca cb) :=
 PT.weak (ux ho ha hb hm) fun J H Q h=>ng h (fun U m r e=>by
  unfold e2 at e
  obtain ⟨x,_,e⟩:=Zz.mp e
  obtain ⟨y,_,e⟩:=Zz.mp e
  exact ht x y m r e) fun Q h=>lB ok h
def bf {M:GR} {U:VS.Env} {H0 H:Hp} {m:Md} {t:T} {v:V} {Q:VK} (k:∀ v H' F,aD H H'->Rp G H' v t F->Fp M U H0 m F->Q v H') (r:Rp G H v t []):Q v H:=k v H [] (aD.refl _) r Fp.nil
def cQ {H:Hp} {p:Addr} {o:HO} (h:H p=none):aD H (upd H p o):=fun b o' e=>by rw [aA (cU e h)];exact e
theorem Fp.new {M:GR} {U:VS.Env} {H0:Hp} {p:Addr} {F:Xa} (h0:H0 p=none) (hp:p ∉ F):∀ {m:Md},Fp M U H0 m F->Fp M U H0 m (p :: F)
 | .fr,f=>⟨Zh.mpr ⟨hp,f.1⟩,fun a m=>(Zj.mp m).elim (fun e=>by rw [e];exact h0) (f.2 a)⟩
 | .pu,f=>fun a m=>(Zj.mp m).elim (fun e=>by rw [e];exact .inl h0) (f a)
 | .bo,f=>fun a m=>(Zj.mp m).elim (fun e=>by rw [e];exact .inl h0) (f a)
def pv {mj m:Md} {l:Wa} {t:T} (e:JT mj l=some (m,t)):t=.lst l/\l.length<=eD/\m=(if eO l then .fr else mj):=by
 unfold JT at e
 split at e
 ·rename_i h
  cases e
  exact ⟨rfl,h,rfl⟩
 ·cases e
def jo {M:GR} {U:VS.Env} {H0 H:Hp} {mj m:Md} {l:Wa} {t:T} {vs:List V} {Fs:Xm} {Q:VK} (same:aD H0 H) (e:JT mj l=some (m,t)) (r:RpL G H vs l Fs) (f:Fp M U H0 mj Fs.flatten)
  (k:∀ v H' F,aD H H'->Rp G H' v t F->Fp M U H0 m F->Q v H'):∀ p,H p=none->Q (.ref p) (upd H p (.lst vs)):=by
 intro p hp
 obtain ⟨rfl,hl,rfl⟩:=pv e
 refine k _ _ _ (cQ hp) (.lst av (r.same (cQ hp))) ?_
 have np:p ∉ Fs.flatten:=fun m=>GS.pe (r.GZ p m) hp
 by_cases hi:eO l=true
 ·rw [hi,Zq rfl]
  rw [r.GO hi] at np ⊢
  exact Fp.nil.new (same.free hp) np
 ·rw [Zo hi]
  exact f.new (same.free hp) np
theorem OE.join {M:GR} {U:VS.Env} {H0 H:Hp} {x y:Val} {u w:V} {F1 F2:Xa} (tw:OE G M U H0 H x y u w F1 F2) {F:Xa} (hF:F.Sublist (F1++F2)):Fp M U H0 (x.1.join y.1) F:=by
 obtain ⟨same,r1,r2,f1,f2,nd⟩:=tw
 have split:∀ a∈F,a∈F1\/a∈F2:=fun a ha=>Zc.mp (hF.subset ha)
 obtain ⟨m1,x⟩:=x
 obtain ⟨m2,y⟩:=y
 have both:∀ {P:Addr->Prop},(∀ a∈F1,P a)->(∀ a∈F2,P a)->∀ a∈F,P a:=fun h1 h2 a ha=>(split a ha).elim (h1 a) (h2 a)
 cases m1 <;> cases m2
 ·exact ⟨(nd rfl rfl).sublist hF,both f1.2 f2.2⟩
 ·exact both (fun a ha=>.inl (f1.2 a ha)) f2
 ·exact both (fun a ha=>.inl (f1.2 a ha)) f2
 ·exact both f1 (fun a ha=>.inl (f2.2 a ha))
 ·exact both f1 f2
 ·exact both (f1.bo) f2
 ·exact both f1 (fun a ha=>.inl (f2.2 a ha))
 ·exact both f1 (f2.bo)
 ·exact both f1 f2
def fO:eD=sizeLine:=rfl
def cX (s:Tx):(sx s).length=s.length:=rfl
def DH (s t:Tx):sx s++sx t=sx (s++t):=by
 show Str.append (sx s) (sx t)=_
 simp [sx,Str.append]
def Rp.lst_inv {H:Hp} {v:V} {l:Wa} {F:Xa} (r:Rp G H v (.lst l) F):∃ a vs Fs,v=.ref a/\F=a :: Fs.flatten/\H a=some (.lst vs)/\RpL G H vs l Fs:=by
 cases r with
 | lst h q=>exact ⟨_,_,_,rfl,rfl,h,q⟩
def Rp.HU {H:Hp} {v:V} {l:Wa} {F:Xa} (r:Rp G H v (.tup l) F):∃ a vs Fs,v=.ref a/\F=Fs.flatten/\H a=some (.tup vs)/\RpL G H vs l Fs:=by
 cases r with
 | tup h q=>exact ⟨_,_,_,rfl,rfl,h,q⟩
def Rp.LF {H:Hp} {v:V} {l:Wg} {F:Xa} (r:Rp G H v (.Hw l) F):∃ a,v=.ref a/\F=[]/\lQ G.K H a l:=by
 cases r with
 | Hw h=>exact ⟨_,rfl,rfl,h⟩
end
section
variable {G:Gx} {X:Cx}
def FQ:R2:=fun x y H Q=>JR (fun i j=>.int (i+j)) x y H Q\/(∃ i j,x=.str i/\y=.str j/\i.length+j.length<=sizeLine/\Q (.str (i++j)) H)\/En x y H Q
def ur:OpR X (binaryOp .Add) FQ:=CT.or (sQ.or DJ)
def yu:eJ G FQ aN:=by
 intro M U H0 H x y u w F1 F2 m t Q tw e k
 have jn:=fun {F:Xa} (h:List.Sublist F (F1++F2))=>tw.join h
 obtain ⟨m1,x⟩:=x
 obtain ⟨m2,y⟩:=y
 obtain ⟨same,r1,r2,f1,f2,nd⟩:=tw
 unfold aN at e
 split at e
 ·rename_i i _ j e1 e2
  cases e1
  cases e2
  cases e
  exact .inl ⟨_,_,r1.int_inv,r2.int_inv,bf k (.int _)⟩
 ·rename_i s _ s' e1 e2
  cases e1
  cases e2
  split at e
  ·rename_i hl
   cases e
   refine .inr (.inl ⟨_,_,r1.str_inv.1,r2.str_inv.1,by rw [cX,cX,← fO];exact hl,?_⟩)
   rw [DH]
   exact bf k (.str _ ⟨by rw [Zv];exact hl,fun c hc=>(Zc.mp hc).elim (r1.str_inv.2.2 c) (r2.str_inv.2.2 c)⟩)
  ·cases e
 ·rename_i s _ s' e1 e2
  cases e1
  cases e2
  obtain ⟨a,vs,Fs,rfl,rfl,ha,ra⟩:=r1.lst_inv
  obtain ⟨b,us,Gs,rfl,rfl,hb,rb⟩:=r2.lst_inv
  obtain ⟨_,hl,_⟩:=pv e
  refine .inr (.inr ⟨a,b,vs,us,rfl,rfl,ha,hb,?_,jo same e (ra.append rb) (jn ?_) k⟩)
  ·rw [Zv] at hl
   rw [ra.len.1,rb.len.1,← fO]
   exact hl
  ·rw [Z5]
   exact (Yw _ _).append (Yw _ _)
 ·cases e
def t5:eJ G (JR fun i j=>.int (i - j)) p7:=by
 intro M U H0 H x y u w F1 F2 m t Q tw e k
 obtain ⟨m1,x⟩:=x
 obtain ⟨m2,y⟩:=y
 obtain ⟨same,r1,r2,f1,f2,nd⟩:=tw
 unfold p7 at e
 split at e
 ·rename_i e1 e2
  cases e1
  cases e2
  cases e
  exact ⟨_,_,r1.int_inv,r2.int_inv,bf k (.int _)⟩
 ·cases e
def l6:eJ G (rI Es fun i j=>.int (i / j)) jx:=by
 intro M U H0 H x y u w F1 F2 m t Q tw e k
 obtain ⟨m1,x⟩:=x
 obtain ⟨m2,y⟩:=y
 obtain ⟨same,r1,r2,f1,f2,nd⟩:=tw
 unfold jx at e
 split at e
 ·rename_i e1 e2
  cases e1
  cases e2
  split at e
  ·rename_i h
   cases e
   exact ⟨_,_,r1.int_inv,r2.int_inv,h,bf k (.int _)⟩
  ·cases e
 ·cases e
def CJ:eJ G (rI (fun _ j=>0 < j) fun i j=>.int (i % j)) oMod:=by
 intro M U H0 H x y u w F1 F2 m t Q tw e k
 obtain ⟨m1,x⟩:=x
 obtain ⟨m2,y⟩:=y
 obtain ⟨same,r1,r2,f1,f2,nd⟩:=tw
 unfold oMod at e
 split at e
 ·rename_i e1 e2
  cases e1
  cases e2
  split at e
  ·rename_i h
   cases e
   exact ⟨_,_,r1.int_inv,r2.int_inv,h,bf k (.int _)⟩
  ·cases e
 ·cases e
theorem nW:∀ (s t:Tx),Kr s t=decide (s < t)
 | [],[]=>by simp [Kr]
 | [],_ :: _=>by simp [Kr]
 | _ :: _,[]=>by simp [Kr]
 | a :: s,b :: t=>by
  unfold Kr
  rw [nW s t]
  by_cases h1:a < b
  ·simp [h1,Xv]
  ·by_cases h2:b < a
   ·have:¬ a=b:=by exact Wz h2
    simp [h1,h2,Xv,this]
   ·have:a=b:=by lia
    subst this
    simp [Xv]
def Si:R2:=fun x y H Q=>JR (fun i j=>.bl (decide (i < j))) x y H Q\/(∃ i j,x=.str i/\y=.str j/\Q (.bl (decide (i.cps.toList < j.cps.toList))) H)
def qd:OpR X (compareOp .Lt) Si:=E1.or wx
def uz:eJ G Si oLt:=by
 intro M U H0 H x y u w F1 F2 m t Q tw e k
 obtain ⟨m1,x⟩:=x
 obtain ⟨m2,y⟩:=y
 obtain ⟨same,r1,r2,f1,f2,nd⟩:=tw
 unfold oLt at e
 split at e
 ·rename_i e1 e2
  cases e1
  cases e2
  cases e
  exact .inl ⟨_,_,r1.int_inv,r2.int_inv,bf k (.bl _)⟩
 ·rename_i s _ s' e1 e2
  cases e1
  cases e2
  cases e
  refine .inr ⟨_,_,r1.str_inv.1,r2.str_inv.1,?_⟩
  have:decide ((sx s).cps.toList < (sx s').cps.toList)=Kr s s':=by rw [nW];exact decide_eq_decide.mpr (by simp [sx])
  rw [this]
  exact bf k (.bl _)
 ·cases e
def kc:Tells oLt:=by
 intro x y m t e
 unfold oLt at e
 split at e <;> first | (cases e;exact ⟨_,rfl⟩) | cases e
def CA:OK=2 ^ 64:=rfl
def CS:eJ G (rI Bu fun i j=>.int (i * j)) gy:=by
 intro M U H0 H x y u w F1 F2 m t Q tw e k
 obtain ⟨m1,x⟩:=x
 obtain ⟨m2,y⟩:=y
 obtain ⟨same,r1,r2,f1,f2,nd⟩:=tw
 unfold gy at e
 split at e
 ·rename_i e1 e2
  cases e1
  cases e2
  split at e
  ·rename_i h
   cases e
   refine ⟨_,_,r1.int_inv,r2.int_inv,?_,bf k (.int _)⟩
   rw [CA] at h
   exact h
  ·cases e
 ·cases e
def wH:OpR X (compareOp .LtE) (fun x y H Q=>∃ i j,x=.str i/\y=.str j/\Q (.bl (!decide (j.cps.toList < i.cps.toList))) H):=by
 intro pins s J H x y v u Q I rx ry h
 obtain ⟨i,j,rfl,rfl,q⟩:=h
 obtain ⟨t,rfl⟩:=rx
 obtain ⟨t',rfl⟩:=ry
 exact PySem.P.le_str ⟨.bl _,H,I,rfl,q⟩
def Sj:R2:=fun x y H Q=>JR (fun i j=>.bl (decide (i<=j))) x y H Q\/(∃ i j,x=.str i/\y=.str j/\Q (.bl (!decide (j.cps.toList < i.cps.toList))) H)
def tu:OpR X (compareOp .LtE) Sj:=Fg.or wH
def zv:eJ G Sj oLe:=by
 intro M U H0 H x y u w F1 F2 m t Q tw e k
 obtain ⟨m1,x⟩:=x
 obtain ⟨m2,y⟩:=y
 obtain ⟨same,r1,r2,f1,f2,nd⟩:=tw
 unfold oLe at e
 split at e
 ·rename_i e1 e2
  cases e1
  cases e2
  cases e
  exact .inl ⟨_,_,r1.int_inv,r2.int_inv,bf k (.bl _)⟩
 ·rename_i s _ s' e1 e2
  cases e1
  cases e2
  cases e
  refine .inr ⟨_,_,r1.str_inv.1,r2.str_inv.1,?_⟩
  have:decide ((sx s').cps.toList < (sx s).cps.toList)=Kr s' s:=by rw [nW];exact decide_eq_decide.mpr (by simp [sx])
  rw [this]
  exact bf k (.bl _)
 ·cases e
def yR:Tells oLe:=by
 intro x y m t e
 unfold oLe at e
 split at e <;> first | (cases e;exact ⟨_,rfl⟩) | cases e
def tq {n:Nat} {i:Int}:HH n i=MC n i:=by
 unfold HH MC
 by_cases h:0<=i
 ·rw [Zq h,Zq h]
 ·rw [Zo h,Zo h]
  by_cases h2:0<=i+n
  ·rw [Zq h2,Zq (by lia)]
  ·rw [Zo h2,Zo (by lia)]
def jO {α:Type} {l:List α} {i:Int} {k:Nat} {x:α} (h1:HH l.length i=some k) (h2:l[k]?=some x):MY l i=some x:=by
 unfold MY
 rw [← tq,h1]
 exact h2
def cq {Fs:Xm} {F:Xa} {i:Nat} (h:Fs[i]?=some F):F.Sublist Fs.flatten:=by
 obtain ⟨hi,rfl⟩:=Zg.mp h
 exact List.sublist_flatten_of_mem (Yz hi)
theorem Fp.sub {M:GR} {U:VS.Env} {H:Hp} {F F':Xa} (h:F.Sublist F'):∀ {m:Md},Fp M U H m F'->Fp M U H m F
 | .fr,f=>⟨f.1.sublist h,fun a ha=>f.2 a (h.subset ha)⟩
 | .pu,f=>fun a ha=>f a (h.subset ha)
 | .bo,f=>fun a ha=>f a (h.subset ha)
def uh:eJ G (PJ G.K) ay:=by
 intro M U H0 H x y u w F1 F2 m t Q tw e k
 obtain ⟨m1,x⟩:=x
 obtain ⟨m2,y⟩:=y
 obtain ⟨same,r1,r2,f1,f2,nd⟩:=tw
 unfold ay at e
 split at e
 ·rename_i m3 l m4 i e1 e2
  cases e1
  cases e2
  obtain ⟨j,h1,e⟩:=Zz.mp e
  obtain ⟨x,h2,e⟩:=Zy.mp e
  obtain ⟨a,vs,Fs,rfl,rfl,ha,ra⟩:=r1.lst_inv
  obtain ⟨v,F,g1,g2,g3⟩:=ra.get j h2
  refine .inl ⟨a,vs,i,v,rfl,r2.int_inv,G2.of ha,jO (by rw [ra.len.1];exact h1) g1,?_⟩
  have f:=((f1.sub (Yw _ _)).sub (cq g2)).up g3
  unfold VS.sub at e
  rw [e] at f
  have et:x=t:=congrArg Prod.snd e
  rw [et] at g3
  exact k v H F (aD.refl _) g3 f
 ·rename_i m3 l m4 i e1 e2
  cases e1
  cases e2
  obtain ⟨j,h1,e⟩:=Zz.mp e
  obtain ⟨x,h2,e⟩:=Zy.mp e
  obtain ⟨a,vs,Fs,rfl,rfl,ha,ra⟩:=r1.HU
  obtain ⟨v,F,g1,g2,g3⟩:=ra.get j h2
  refine .inr (.inl ⟨a,vs,i,v,rfl,r2.int_inv,HL.of ha,jO (by rw [ra.len.1];exact h1) g1,?_⟩)
  have f:=(f1.sub (cq g2)).up g3
  unfold VS.sub at e
  rw [e] at f
  have et:x=t:=congrArg Prod.snd e
  rw [et] at g3
  exact k v H F (aD.refl _) g3 f
 ·rename_i m3 l m4 i e1 e2
  cases e1
  cases e2
  obtain ⟨j,h1,e⟩:=Zz.mp e
  obtain ⟨x,h2,e⟩:=Zy.mp e
  cases e
  obtain ⟨a,rfl,rfl,sa⟩:=r1.LF
  refine .inl ⟨a,l.map V.int,i,.int x,rfl,r2.int_inv,sa.seq,jO (by rw [Zt];exact h1) (by rw [ZP,h2];rfl),bf k (.int _)⟩
 ·rename_i m3 l m4 i e1 e2
  cases e1
  cases e2
  obtain ⟨j,h1,e⟩:=Zz.mp e
  obtain ⟨x,h2,e⟩:=Zy.mp e
  cases e
  obtain ⟨rfl,hl⟩:=r1.str_inv
  refine .inr (.inr ⟨sx l,i,x,rfl,r2.int_inv,by rw [cX,← fO];exact hl.1,jO (k:=j) (by simpa [sx] using h1) (by simpa [sx] using h2),?_⟩)
  exact bf k (.str [x] ⟨by show 1<=eD;decide,fun c hc=>by rw [Zf.mp hc];exact hl.2 x (YS h2)⟩)
 ·cases e
end
section
variable {G:Gx} {X:Cx} {a b c e:Expr} {es:List Expr} {ca cb cc:Ex} {cs:Hh} {pos p:Pos}
theorem uO {x:Addr}:∀ {l:Wc} {Fs:Xm},x∈HQ l Fs->∃ (i:Nat) (v:Val) (F:Xa),l[i]?=some v/\v.1=.fr/\Fs[i]?=some F/\x∈F
 | [],_,h=>by simp [HQ] at h
 | _ :: _,[],h=>by simp [HQ] at h
 | v :: l,F :: Fs,h=>by
  have go:x∈HQ l Fs->∃ (i:Nat) (u:Val) (F':Xa),(v :: l)[i]?=some u/\u.1=.fr/\(F :: Fs)[i]?=some F'/\x∈F':=fun m=>by
   obtain ⟨i,u,F',h1,h2,h3,h4⟩:=uO m
   exact ⟨i+1,u,F',by simpa using h1,h2,by simpa using h3,h4⟩
  unfold HQ at h
  split at h
  ·rename_i hv
   rcases Zc.mp h with h | h
   ·exact ⟨0,v,F,rfl,hv,rfl,h⟩
   ·exact go h
  ·exact go h
def ah:HI G X [] ai:=PA.weak fE fun J H Q hq=>by
 obtain ⟨M,U,l,s,e,k⟩:=hq
 cases (show some ([]:Wc)=some l from e)
 exact k [] H [] (aD.refl _) .nil ⟨fun i v F h=>by simp at h,by simp [HQ]⟩
def ae (ha:PV G X e ca) (hr:HI G X es cs) (hs:K1 e es X:=by rfl):HI G X (e :: es) (ab ca cs):=PA.weak (bZ ha hr hs) fun J H Q hq=>by
 obtain ⟨M,U,l,s,e,k⟩:=hq
 unfold ab at e
 obtain ⟨x,ea,e⟩:=Zz.mp e
 obtain ⟨xs,er,e⟩:=Zz.mp e
 cases e
 refine ⟨M,U,x.1,x.2,s,ea,fun v H1 F e1 r1 f1=>⟨M,U,xs,s.same e1,er,fun vs H2 Fs e2 r2 f2=>k (v :: vs) H2 (F :: Fs) (e1.trans e2) (.cons (r1.same e2) r2) ⟨fun i u F' h1 h2=>?_,?_⟩⟩⟩
 ·cases i with
  | zero =>
   cases (show some x=some u from h1)
   cases (show some F=some F' from h2)
   exact f1
  | succ i=>exact (f2.each i u F' (by simpa using h1) (by simpa using h2)).back e1
 ·unfold HQ
  split
  ·rename_i hx
   rw [hx] at f1
   refine ZU.mpr ⟨f1.1,f2.nd,fun y hy z hz q=>?_⟩
   subst q
   obtain ⟨i,u,F',h1,h2,h3,h4⟩:=uO hz
   have f:=f2.each i u F' h1 h3
   rw [h2] at f
   exact GS.pe (r1.GZ y hy) (f.2 y h4)
  ·exact f2.nd
theorem kK:∀ {l:Wc},cu l=.fr->∀ v∈l,v.1=.fr
 | [],_,v,h=>by simp at h
 | (m,t) :: r,e,v,h=>by
  have e':m.join (cu r)=.fr:=e
  have h1:m=.fr:=by
   revert e'
   cases m <;> cases cu r <;> simp [Md.join]
  have h2:cu r=.fr:=by
   revert e'
   cases m <;> cases cu r <;> simp [Md.join]
  rcases Zj.mp h with rfl | h
  ·exact h1
  ·exact kK h2 v h
theorem j9:∀ {l:Wc},cu l ≠ .bo->∀ v∈l,v.1 ≠ .bo
 | [],_,v,h=>by simp at h
 | (m,t) :: r,e,v,h=>by
  have e':m.join (cu r) ≠ .bo:=e
  have h1:m ≠ .bo:=by
   revert e'
   cases m <;> cases cu r <;> simp [Md.join]
  have h2:cu r ≠ .bo:=by
   revert e'
   cases m <;> cases cu r <;> simp [Md.join]
  rcases Zj.mp h with rfl | h
  ·exact h1
  ·exact j9 h2 v h
theorem vA:∀ {l:Wc} {Fs:Xm},l.length=Fs.length->(∀ v∈l,v.1=.fr)->HQ l Fs=Fs.flatten
 | [],[],_,_=>rfl
 | [],_ :: _,h,_=>by simp at h
 | _ :: _,[],h,_=>by simp at h
 | v :: l,F :: Fs,h,q=>by
  unfold HQ
  rw [q v Zu,vA (by simpa using h) fun u hu=>q u (Zw _ hu)]
  rfl
def fY {x:Addr} {Fs:Xm} (h:x∈Fs.flatten):∃ (i:Nat) (F:Xa),Fs[i]?=some F/\x∈F:=by
 obtain ⟨F,hF,hx⟩:=Wj.mp h
 obtain ⟨i,hi⟩:=List.mem_iff_getElem?.mp hF
 exact ⟨i,F,hi,hx⟩
def Ls.join {M:GR} {U:VS.Env} {H:Hp} {l:Wc} {Fs:Xm} (f:Ls M U H l Fs) (hl:l.length=Fs.length):Fp M U H (cu l) Fs.flatten:=by
 have at':∀ x∈Fs.flatten,∃ v F,v∈l/\x∈F/\Fp M U H v.1 F:=fun x hx=>by
  obtain ⟨i,F,hi,ME⟩:=fY hx
  have:i < l.length:=by
   have:=(Zg.mp hi).1
   lia
  exact ⟨l[i],F,Yz this,ME,f.each i _ F (Zr this) hi⟩
 cases e:cu l with
 | fr =>
  have al:=kK e
  refine ⟨by rw [← vA hl al];exact f.nd,fun x hx=>?_⟩
  obtain ⟨v,F,hv,ME,q⟩:=at' x hx
  rw [al v hv] at q
  exact q.2 x ME
 | pu =>
  have al:=j9 (l:=l) (by rw [e];decide)
  intro x hx
  obtain ⟨v,F,hv,ME,q⟩:=at' x hx
  exact Fp.pu (al v hv) q x ME
 | bo =>
  intro x hx
  obtain ⟨v,F,hv,ME,q⟩:=at' x hx
  exact q.bo x ME
structure Args (G:Gx) (M:GR) (U:VS.Env) (H0 H:Hp) (l:Wc) (vs:List V) (Fs:Xm):Prop where
 same:aD H0 H
 rp:RpL G H vs (trees l) Fs
 fp:Ls M U H0 l Fs
theorem Args.len {M:GR} {U:VS.Env} {H0 H:Hp} {l:Wc} {vs:List V} {Fs:Xm} (A:Args G M U H0 H l vs Fs):l.length=Fs.length:=by
 have:=A.rp.len.2
 simp [trees] at this
 exact Eq.symm this
def fH (G:Gx) (r:List V->Hp->VK->Prop) (f:Wc->Wb):Prop:=∀ (M:GR) (U:VS.Env) (H0 H:Hp) (l:Wc) (vs:List V) (Fs:Xm) (m:Md) (t:T) (Q:VK),Args G M U H0 H l vs Fs->f l=some (m,t) →
 (∀ v H' F,aD H H'->Rp G H' v t F->Fp M U H0 m F->Q v H')->r vs H Q
def B6 {r:List V->Hp->VK->Prop} {f:Wc->Wb} (ok:fH G r f) {J:L2.St} {H:Hp} {Q:VK} {U:VS.Env} {M:GR} {l:Wc} {m:Md} {t:T} (s:SR G M U J H) (el:cs U=some l) (e:f l=some (m,t))
  (k:∀ v H' F,aD H H'->Rp G H' v t F->Fp M U H m F->Q v H'):M8 G cs J H fun vs H1=>r vs H1 Q :=
 ⟨M,U,l,s,el,fun vs H' Fs e1 r1 f1=>ok M U H H' l vs Fs m t Q ⟨e1,r1,f1⟩ e fun v H2 F e2 r2 f2=>k v H2 F (e1.trans e2) r2 f2⟩
def kC {r:List V->Hp->VK->Prop} {f:Wc->Wb} {id:String} {x:Str} (hc:dN X (.builtin id) r) (ok:fH G r f) (hg:Gl X x) (hm:X.mg x=none) (hv:bootBuiltins x=some (.builtin id)) (ha:HI G X (e :: es) cs)
  (hn:x ≠ "__name__" := by decide) (Hz:K3 x:=by decide)
  (he:K1 e es X:=by rfl) (hpl:K2 pos es X:=by rfl):PV G X (.Call (.Name x p) (e :: es) [] pos) (eN f cs) :=
 PE.weak (sv hc hg hm hv ha hn Hz he hpl) fun J H Q hq=>by
  obtain ⟨M,U,m,t,s,e,k⟩:=hq
  unfold eN at e
  obtain ⟨l,el,e⟩:=Zz.mp e
  exact B6 ok s el e k
def ji {r:List V->Hp->VK->Prop} {f:Wc->Wb} {Ty:String} {x:Str} (hc:dN X (.type Ty) r) (ok:fH G r f) (hg:Gl X x) (hm:X.mg x=none) (hv:bootBuiltins x=some (.type Ty)) (ha:HI G X (e :: es) cs)
  (hn:x ≠ "__name__" := by decide) (Hz:K3 x:=by decide)
  (he:K1 e es X:=by rfl) (hpl:K2 pos es X:=by rfl):PV G X (.Call (.Name x p) (e :: es) [] pos) (eN f cs) :=
 PE.weak (vV hc hg hm hv ha hn Hz he hpl) fun J H Q hq=>by
  obtain ⟨M,U,m,t,s,e,k⟩:=hq
  unfold eN at e
  obtain ⟨l,el,e⟩:=Zz.mp e
  exact B6 ok s el e k
def cy (h:HI G X es cs):PV G X (.List es pos) (di cs):=PE.weak (Cm h) fun J H Q hq=>by
 obtain ⟨M,U,m,t,s,e,k⟩:=hq
 unfold di at e
 obtain ⟨l,el,e⟩:=Zz.mp e
 refine ⟨M,U,l,s,el,fun vs H' Fs e1 r1 f1=>?_⟩
 have A:Args G M U H H' l vs Fs:=⟨e1,r1,f1⟩
 obtain ⟨_,hl,_⟩:=pv e
 refine ⟨by rw [r1.len.1,← fO];exact hl,jo e1 e r1 (f1.join A.len) fun v H2 F e2 r2 f2=>k v H2 F (e1.trans e2) r2 f2⟩
def qm {x1} (h:HI G X es cs):PV G X (.Tuple es x1 pos) (n9 cs):=PE.weak (Cn h) fun J H Q hq=>by
 obtain ⟨M,U,m,t,s,e,k⟩:=hq
 unfold n9 at e
 obtain ⟨l,el,e⟩:=Zz.mp e
 refine ⟨M,U,l,s,el,fun vs H' Fs e1 r1 f1=>?_⟩
 have A:Args G M U H H' l vs Fs:=⟨e1,r1,f1⟩
 unfold uN at e
 split at e
 ·rename_i hl
  cases e
  refine ⟨by rw [r1.len.1,← fO,trees,Zt];exact hl,fun q hq=>?_⟩
  have r2:Rp G (upd H' q (.tup vs)) (.ref q) (.tup (trees l)) Fs.flatten:=.tup av (r1.same (cQ hq))
  exact k _ _ _ (e1.trans (cQ hq)) r2 (Fp.up (f1.join A.len) r2)
 ·cases e
def AA {H:Hp} {v:V} {t:T} {F:Xa} {k:Bool} (r:Rp G H v t F) (h:Lg t=some k):DK G.K v H k:=by
 cases r with
 | GJ=>cases h;rfl
 | bl b=>cases h;rfl
 | int i=>cases h;rfl
 | str s hl =>
  cases h
  refine ⟨by rw [cX,← fO];exact hl.1,?_⟩
  rw [cX]
  cases s with
  | nil=>rfl
  | cons a r =>
   have:((List.length (a :: r):Int) != 0)=true:=by simp;lia
   rw [this]
   rfl
 | Hw h'=>cases h
 | tup h' q =>
  cases h
  refine .inr (.inl ⟨_,HL.of h',?_⟩)
  have:=q.len.1
  rename_i vs ts _
  cases vs <;> cases ts <;> simp_all
 | lst h' q =>
  cases h
  refine .inl ⟨_,G2.of h',?_⟩
  have:=q.len.1
  rename_i vs ts _
  cases vs <;> cases ts <;> simp_all
 | GL h' hl q =>
  cases h
  refine .inr (.inr ⟨_,h',?_⟩)
  have:=q.len.1
  rename_i ks vs ts _
  cases ks <;> cases vs <;> cases ts <;> simp_all
 | Lc h' hl q=>cases h
 | Ld h' hl n q=>cases h
 | JN _ _ _=>cases h
 | exc _ _=>cases h
 | ins _ _ _ _=>cases h
 | mk _ _=>cases h
def l9 (h:PV G X a ca) (hK:X.K=G.K:=by rfl) (he:∀ whole,isTrue a X.env whole=(do let v ← whole;standAt a.pos;holding [v] (truthy v)):=by intro _;rfl):Iq G X a ca :=
 PT.weak (yE h he) fun J H Q ⟨M,U,m,r,b,s,e,eb,k⟩=>⟨M,U,m,r,s,e,fun v H' F e1 r1 f1=>⟨b,by rw [hK];exact AA r1 eb,k H' e1⟩⟩
def JE (G:Gx) (X:Cx) (e:Expr) (c:Ex):Prop:=PW X e (tT G c)
def PW.weak {X:Cx} {e:Expr} {t t':TT} (h:PW X e t) (w:∀ J H Q,t' J H Q->t J H Q):PW X e t':=fun wh pins s J H Q I q=>h wh pins s J H Q I (w J H Q q)
def JE.Li (h:JE G X e ca):Iq G X e ca:=PW.pt h
variable {rest:List Expr}
def rm {U:VS.Env} {m:Md} {r:T} (e:iJ ca cb U=some (m,r)):(∃ n,ca U=some (n,.bl true)/\cb U=some (m,r))\/(∃ n,ca U=some (n,.bl false)/\m=.fr/\r=.bl false):=by
 unfold iJ at e
 obtain ⟨⟨n,x⟩,ea,e⟩:=Zz.mp e
 split at e
 ·rename_i h
  cases (show x=.bl true from h)
  exact .inl ⟨n,ea,e⟩
 ·rename_i h
  cases (show x=.bl false from h)
  cases e
  exact .inr ⟨n,ea,rfl,rfl⟩
 ·cases e
def BG {U:VS.Env} {m:Md} {r:T} (e:Kz ca cb U=some (m,r)):(∃ n,ca U=some (n,.bl false)/\cb U=some (m,r))\/(∃ n,ca U=some (n,.bl true)/\m=.fr/\r=.bl true):=by
 unfold Kz at e
 obtain ⟨⟨n,x⟩,ea,e⟩:=Zz.mp e
 split at e
 ·rename_i h
  cases (show x=.bl true from h)
  cases e
  exact .inr ⟨n,ea,rfl,rfl⟩
 ·rename_i h
  cases (show x=.bl false from h)
  exact .inl ⟨n,ea,e⟩
 ·cases e
def mn (ha:Iq G X a ca) (hb:JE G X (.BoolOp .And (b :: rest) pos) cb):JE G X (.BoolOp .And (a :: b :: rest) pos) (iJ ca cb) :=
 PW.weak (zF ha hb) fun J H Q hq=>by
  obtain ⟨M,U,m,r,k,s,e,eb,q⟩:=hq
  rcases rm e with ⟨n,ea,e2⟩ | ⟨n,ea,rfl,rfl⟩
  ·refine ⟨M,U,n,_,true,s,ea,rfl,fun H' e1=>?_⟩
   refine vR ?_
   exact ⟨M,U,m,r,k,s.same e1,e2,eb,fun H2 e2=>q H2 (e1.trans e2)⟩
  ·refine ⟨M,U,n,_,false,s,ea,rfl,fun H' e1=>?_⟩
   refine wJ ?_
   cases eb
   exact q H' e1
def k9 (ha:Iq G X a ca) (hb:JE G X (.BoolOp .Or (b :: rest) pos) cb):JE G X (.BoolOp .Or (a :: b :: rest) pos) (Kz ca cb) :=
 PW.weak (FG ha hb) fun J H Q hq=>by
  obtain ⟨M,U,m,r,k,s,e,eb,q⟩:=hq
  rcases BG e with ⟨n,ea,e2⟩ | ⟨n,ea,rfl,rfl⟩
  ·refine ⟨M,U,n,_,false,s,ea,rfl,fun H' e1=>?_⟩
   refine wJ ?_
   exact ⟨M,U,m,r,k,s.same e1,e2,eb,fun H2 e2=>q H2 (e1.trans e2)⟩
  ·refine ⟨M,U,n,_,true,s,ea,rfl,fun H' e1=>?_⟩
   refine vR ?_
   cases eb
   exact q H' e1
def sg {U:VS.Env} {m:Md} {r:T} (e:qB ca U=some (m,r)):∃ n b,ca U=some (n,.bl b)/\m=.fr/\r=.bl (!b):=by
 unfold qB at e
 obtain ⟨⟨n,x⟩,ea,e⟩:=Zz.mp e
 split at e
 ·rename_i b h
  cases (show x=.bl b from h)
  cases e
  exact ⟨n,b,ea,rfl,rfl⟩
 ·cases e
def pq (ha:Iq G X a ca):Iq G X (.UnaryOp .Not a pos) (qB ca):=PT.weak (Cr ha) fun J H Q hq=>by
 obtain ⟨M,U,m,r,k,s,e,eb,q⟩:=hq
 obtain ⟨n,b,ea,rfl,rfl⟩:=sg e
 cases eb
 exact ⟨M,U,n,_,b,s,ea,rfl,fun H' e1=>q H' e1⟩
def Cq (ha:PV G X a ca):PV G X (.UnaryOp .Not a pos) (qB ca):=PE.weak (Eb ha) fun J H Q hq=>by
 obtain ⟨M,U,m,r,s,e,q⟩:=hq
 obtain ⟨n,b,ea,rfl,rfl⟩:=sg e
 exact ⟨M,U,n,_,s,ea,fun v H' F e1 r1 f1=>⟨b,r1.HG,q _ H' _ e1 (.bl _) Fp.nil⟩⟩
def ya {op} (h:PV G X a ca):PV G X (.BoolOp op [a] pos) ca:=Du h
def xJ (ha:PV G X a ca) (hb:PV G X (.BoolOp .And (b :: rest) pos) cb):PV G X (.BoolOp .And (a :: b :: rest) pos) (iJ ca cb) :=
 PE.weak (C9 ha hb) fun J H Q hq=>by
  obtain ⟨M,U,m,r,s,e,q⟩:=hq
  rcases rm e with ⟨n,ea,e2⟩ | ⟨n,ea,rfl,rfl⟩
  ·refine ⟨M,U,n,_,s,ea,fun v H' F e1 r1 f1=>⟨true,r1.HG,?_⟩⟩
   refine vR ?_
   exact ⟨M,U,m,r,s.same e1,e2,fun v H2 F e2 r2 f2=>q v H2 F (e1.trans e2) r2 (f2.back e1)⟩
  ·refine ⟨M,U,n,_,s,ea,fun v H' F e1 r1 f1=>⟨false,r1.HG,?_⟩⟩
   refine wJ ?_
   exact q _ H' _ e1 (.bl _) Fp.nil
def qu {H:Hp} {v:V} {t:T} {F:Xa} (r:Rp G H v t F):decide (v=.GJ)=Nd t:=by
 cases r <;> simp [Nd]
def sU {j pos'} (ha:PV G X a ca):PV G X (.Compare a [.Is] [.Constant .none j pos'] pos) (jN ca):=PE.weak (CK (zK ha)) fun J H Q hq=>by
 obtain ⟨M,U,m,r,s,e,q⟩:=hq
 unfold jN at e
 obtain ⟨⟨n,x⟩,ea,e⟩:=Zz.mp e
 cases e
 refine ⟨M,U,n,x,s,ea,fun v H' F e1 r1 f1=>?_⟩
 show Q (.bl (decide (v=.GJ))) H'
 rw [qu r1]
 exact q _ H' _ e1 (.bl _) Fp.nil
def B3 {t:TE} {c:Ex} {J:L2.St} {H:Hp} {Q:Bool->Hp->Prop} (h:tT G c J H Q) (ht:∀ U m r,c U=some (m,r)->∃ b,r=.bl b) (w:∀ Q,tE G c J H Q->t J H Q):tB t J H Q:=by
 obtain ⟨M,U,m,r,b,s,e,eb,k⟩:=h
 refine w _ ⟨M,U,m,r,s,e,fun v H' F e1 r1 f1=>?_⟩
 obtain ⟨b',er⟩:=ht U m r e
 rw [er] at eb r1
 cases (show some b'=some b from eb)
 exact ⟨_,r1.HG,k H' e1⟩
end
section
variable {G:Gx} {X:Cx} {a b c e:Expr} {es:List Expr} {ca cb cc:Ex} {cs:Hh} {pos p:Pos}
def RpL.one {H:Hp} {vs:List V} {t:T} {Fs:Xm} (r:RpL G H vs [t] Fs):∃ v F,vs=[v]/\Fs=[F]/\Rp G H v t F:=by
 cases r with
 | cons r q=>cases q;exact ⟨_,_,rfl,rfl,r⟩
def RpL.two {H:Hp} {vs:List V} {t t':T} {Fs:Xm} (r:RpL G H vs [t,t'] Fs):∃ v v' F F',vs=[v,v']/\Fs=[F,F']/\Rp G H v t F/\Rp G H v' t' F':=by
 cases r with
 | cons r q =>
  obtain ⟨v',F',rfl,rfl,r'⟩:=q.one
  exact ⟨_,_,_,_,rfl,rfl,r,r'⟩
def Fz (K:Xj):List V->Hp->VK->Prop:=fun xs H Q=>(∃ x n,xs=[x]/\Em K x H n/\Q (.int n) H)\/(∃ a gV,xs=[V.ref a]/\H a=some (.dK gV)/\Q (.int gV.length) H)
def sZ:dN X (.builtin "len") (fun xs H Q=>∃ a gV,xs=[V.ref a]/\H a=some (.dK gV)/\Q (.int gV.length) H):=by
 intro pins s J H xs us Q I r h
 obtain ⟨a,gV,rfl,ha,q⟩:=h
 obtain ⟨u,rfl,ru⟩:=vals1 r
 cases ru
 exact Ft I (.inl ha) fun t s' I'=>⟨.int gV.length,H,I',⟨t,rfl⟩,q⟩
def v9:dN X (.builtin "len") (Fz X.K):=zi.or sZ
def DX:fH G (Fz G.K) bt:=by
 intro M U H0 H l vs Fs m t Q A e k
 refine L2.jy fun P_ k_=>?_
 unfold bt at e
 split at e
 ·rename_i x
  obtain ⟨mx,x⟩:=x
  obtain ⟨n,en,e⟩:=Zy.mp e
  cases e
  obtain ⟨v,F,rfl,rfl,r⟩:=(show RpL G H vs [x] Fs from A.rp).one
  have fin:Q (.int (n:Int)) H:=bf k (.int _)
  cases r with
  | GJ=>cases en
  | bl b=>cases en
  | int i=>cases en
  | str s hl =>
   cases en
   refine k_ ?_
   exact .inl ⟨_,_,rfl,⟨by rw [cX,← fO];exact hl.1,rfl⟩,by rw [cX];exact fin⟩
  | Hw h =>
   cases en
   refine k_ ?_
   refine .inl ⟨_,_,rfl,.inl ⟨_,h.seq,rfl⟩,?_⟩
   rw [Zt]
   exact fin
  | tup h q =>
   cases en
   refine k_ ?_
   refine .inl ⟨_,_,rfl,.inr ⟨_,HL.of h,rfl⟩,?_⟩
   rw [q.len.1]
   exact fin
  | lst h q =>
   cases en
   refine k_ ?_
   refine .inl ⟨_,_,rfl,.inl ⟨_,G2.of h,rfl⟩,?_⟩
   rw [q.len.1]
   exact fin
  | GL h hl q =>
   cases en
   refine k_ ?_
   refine .inr ⟨_,_,rfl,h,?_⟩
   rename_i ks ws ts _
   have e1:=q.len.1
   rw [Yq,Zt] at fin
   rw [Yq,e1]
   exact fin
  | Lc h hl q=>cases en
  | Ld h hl n q=>cases en
  | JN _ _ _=>cases en
  | exc _ _=>cases en
  | ins _ _ _ _=>cases en
  | mk _ _=>cases en
 ·cases e
def AK:fH G (fun xs H Q=>∃ i j,xs=[.int i,.int j]/\Q (.int (if j > i then j else i)) H) uB:=by
 intro M U H0 H l vs Fs m t Q A e k
 unfold uB at e
 split at e
 ·rename_i _ i _ j
  cases e
  obtain ⟨v,v',F,F',rfl,rfl,r,r'⟩:=(show RpL G H vs [.int i,.int j] Fs from A.rp).two
  exact ⟨i,j,by rw [r.int_inv,r'.int_inv],bf k (.int _)⟩
 ·cases e
def BW (K:Xj):List V->Hp->VK->Prop:=fun xs H Q=>∃ p ys,xs=[.ref p]/\(G2 K H p ys\/HL K H p ys)/\∀ l,H l=none->Q (.ref l) (upd H l (.lst ys))
def uk:fH G (BW G.K) Ci:=by
 intro M U H0 H l vs Fs m t Q A e k
 unfold Ci at e
 split at e
 ·rename_i mx x
  obtain ⟨v,F,rfl,rfl,rx⟩:=(show RpL G H vs [.lst x] Fs from A.rp).one
  obtain ⟨a,ys,Gs,rfl,rfl,ha,ra⟩:=rx.lst_inv
  have f:=A.fp.each 0 _ _ rfl rfl
  exact ⟨a,ys,rfl,.inl (G2.of ha),jo A.same e ra (f.sub (Yw _ _)) k⟩
 ·rename_i mx x
  obtain ⟨v,F,rfl,rfl,rx⟩:=(show RpL G H vs [.tup x] Fs from A.rp).one
  obtain ⟨a,ys,Gs,rfl,rfl,ha,ra⟩:=rx.HU
  have f:=A.fp.each 0 _ _ rfl rfl
  exact ⟨a,ys,rfl,.inr (HL.of ha),jo A.same e ra f k⟩
 ·cases e
def tO (G:Gx) (c:Option Ex):TO:=fun J H Q=>∃ M U o,SR G M U J H/\mV c U=some o/\∀ H',aD H H'->Q o H'
def Pl (G:Gx) (X:Cx) (e:Option Expr) (c:Option Ex):Prop:=PO X e (tO G c)
def PO.weak {X:Cx} {e:Option Expr} {t t':TO} (h:PO X e t) (w:∀ J H Q,t' J H Q->t J H Q):PO X e t':=fun pins s J H Q I q=>h pins s J H Q I (w J H Q q)
def rX:Pl G X none none:=PO.weak uF fun J H Q hq=>by
 obtain ⟨M,U,o,s,e,k⟩:=hq
 cases (show some (none:Option Int)=some o from e)
 exact k H (aD.refl _)
def ib (h:PV G X a ca):Pl G X (some a) (some ca):=PO.weak (vp h) fun J H Q hq=>by
 obtain ⟨M,U,o,s,e,k⟩:=hq
 obtain ⟨⟨m,y⟩,ea,e⟩:=Zz.mp (show (ca U).bind (fun y=>(int? y.2).map some)=some o from e)
 obtain ⟨i,ei,e⟩:=Zy.mp e
 cases e
 refine ⟨M,U,m,y,s,ea,fun v H' F e1 r1 f1=>?_⟩
 cases y with
 | int j =>
  cases ei
  exact ⟨_,r1.int_inv,k H' e1⟩
 | _=>cases ei
def ly {α:Type} (l:List α) (lo hi:Option Int):cut l lo hi=(l.drop (HT.HA l.length 0 lo)).take (HT.HA l.length l.length hi - HT.HA l.length 0 lo):=by
 unfold cut
 cases lo <;> cases hi <;> rfl
def yo (lo hi:Option Int) (n:Nat):Builtin.Str.strSliceIndices lo hi 1 n=Builtin.Str.strSliceIndices (some ((min (HT.HA n 0 lo) n:Nat):Int)) (some ((min (HT.HA n n hi) n:Nat):Int)) 1 n:=by
 have e1:∀ k:Nat,¬ ((k:Int) < 0):=fun k=>by lia
 unfold Builtin.Str.strSliceIndices
 simp only [show (1:Int) > 0 by decide,if_true,e1,if_false]
 congr 1
 ·cases lo with
  | none=>simp only [HT.HA];lia
  | some i =>
   simp only [HT.HA]
   by_cases h:i < 0
   ·simp only [h,if_true];lia
   ·simp only [h,if_false];lia
 ·cases hi with
  | none=>simp only [HT.HA];lia
  | some i =>
   simp only [HT.HA]
   by_cases h:i < 0
   ·simp only [h,if_true];lia
   ·simp only [h,if_false];lia
def jB (s:Tx) (lo hi:Option Int):PySem.StrLaws.sliceText (sx s) lo hi=sx (cut s lo hi):=by
 have key:PySem.StrLaws.sliceText (sx s) lo hi=PySem.StrLaws.sliceText (sx s) (some ((min (HT.HA s.length 0 lo) s.length:Nat):Int)) (some ((min (HT.HA s.length s.length hi) s.length:Nat):Int)):=by
  unfold PySem.StrLaws.sliceText
  rw [cX,yo]
 rw [key]
 have hd:∀ a:Nat,s.drop (min a s.length)=s.drop a:=fun a=>by
  by_cases h:a<=s.length
  ·rw [Yb h]
  ·rw [Wp (by exact Xr h),YL (Zp _),YL (by exact Xr h)]
 by_cases h:min (HT.HA s.length 0 lo) s.length<=min (HT.HA s.length s.length hi) s.length
 ·rw [PySem.StrLaws.sliceText_nat (sx s) h (by rw [cX];exact Nat.min_le_right _ _),ly]
  show (⟨_⟩:Str)=⟨_⟩
  congr 2
  show ((sx s).cps.toList.drop _).take _=_
  have:(sx s).cps.toList=s:=rfl
  rw [this,hd]
  by_cases h2:HT.HA s.length 0 lo<=s.length
  ·rw [Yb h2]
   by_cases h3:HT.HA s.length s.length hi<=s.length
   ·rw [Yb h3]
   ·rw [Wp (by exact Xr h3),Yl (by rw [ZJ];exact Zp _),Yl (by rw [ZJ];lia)]
  ·rw [YL (by exact Xr h2)]
   simp
 ·have e0:cut s lo hi=[]:=by
   rw [ly]
   have:HT.HA s.length s.length hi - HT.HA s.length 0 lo=0:=by omega
   rw [this,List.take_zero]
  rw [e0]
  unfold PySem.StrLaws.sliceText
  have e2:Builtin.Str.strSliceIndices (some ((min (HT.HA s.length 0 lo) s.length:Nat):Int)) (some ((min (HT.HA s.length s.length hi) s.length:Nat):Int)) 1 (sx s).length=[]:=by
   have e1:∀ k:Nat,¬ ((k:Int) < 0):=fun k=>by lia
   unfold Builtin.Str.strSliceIndices sliceRange
   simp only [show (1:Int) > 0 by decide,if_true,e1,if_false,cX]
   rw [Zo (by omega)]
   rfl
  rw [e2]
  have:¬ ((1:Int) == 1 && ([]:Wh).length == (sx s).length)=true:=by
   rw [cX]
   simp
   lia
  rw [Zo this]
  rfl
def FP:V->Option Int->Option Int->Hp->VK->Prop:=fun x lo hi H Q=>∃ z,x=.str z/\z.length<=sizeLine/\Q (.str (PySem.StrLaws.sliceText z lo hi)) H
def part_of {v:Value} {o:Option Int} (h:IsPart v o):∃ q:Option (Int×Tok),v=partValue q/\o=q.map (·.1):=by
 cases h with
 | none=>exact ⟨none,rfl,rfl⟩
 | int i t=>exact ⟨some (i,t),rfl,rfl⟩
def pC {α β:Type} (f:α->Option β) (l:List α):(l.filterMap f).length<=l.length:=List.length_filterMap_le f l
def AB (lo hi:Option Int) (n:Nat):(Builtin.Str.strSliceIndices lo hi 1 n).length<=n:=by
 rw [yo]
 by_cases h:min (HT.HA n 0 lo) n<=min (HT.HA n n hi) n
 ·rw [PySem.StrLaws.strSliceIndices_plain h (by exact Nat.min_le_right _ _),Zt,ZQ]
  lia
 ·have e1:∀ k:Nat,¬ ((k:Int) < 0):=fun k=>by lia
  unfold Builtin.Str.strSliceIndices sliceRange
  simp only [show (1:Int) > 0 by decide,if_true,e1,if_false]
  rw [Zo (by omega)]
  simp
def xO:Ml X FP:=by
 intro pins s J H x v vl vu lo hi sl Q I rx hs pl pu h
 obtain ⟨z,rfl,hz,q⟩:=h
 obtain ⟨t,rfl⟩:=rx
 obtain ⟨l,rfl,rfl⟩:=part_of pl
 obtain ⟨u,rfl,rfl⟩:=part_of pu
 refine ⟨"str",_,F.slot_str_getitem.lookup,typeIs_str s z t,wpAny_getItem_str_slice (l:=l) (u:=u) (st:=none) hs rfl ?_⟩
 unfold sliceMade
 split
 ·rename_i hc
  refine ⟨.str z,H,I,⟨t,rfl⟩,?_⟩
  have e:PySem.StrLaws.sliceText z (l.map (·.1)) (u.map (·.1))=z:=by
   unfold PySem.StrLaws.sliceText
   exact Zq hc
  rw [e] at q
  exact q
 ·rename_i hc
  refine ⟨ZG ?_ hz,.str _,H,I.tok _,⟨_,rfl⟩,?_⟩
  ·show (List.filterMap _ _).toArray.size<=_
   rw [ZZ]
   exact ZG (pC _ _) (AB _ _ _)
  ·have e:PySem.StrLaws.sliceText z (l.map (·.1)) (u.map (·.1))=⟨((slicePicked z l u none).filterMap (z.cps[·]?)).toArray⟩:=by
    unfold PySem.StrLaws.sliceText
    exact Zo hc
   rw [e] at q
   exact q
def Uv (K:Xj):V->Option Int->Option Int->Hp->VK->Prop:=fun x lo hi H Q=>FP x lo hi H Q\/Eh K x lo hi H Q
def Gw:Ml X (Uv X.K):=xO.or Af
def uu {α:Type} (l:List α) (lo hi:Option Int):(cut l lo hi).length<=l.length:=by
 rw [ly,YY,ZJ]
 lia
theorem RpL.cut {H:Hp} {vs:List V} {ts:Wa} {Fs:Xm} (r:RpL G H vs ts Fs) (lo hi:Option Int):RpL G H (vQ vs lo hi) (VS.cut ts lo hi) (VS.cut Fs lo hi):=by
 have h:=r.len
 rw [ly,ly,h.2]
 unfold vQ
 rw [h.1]
 exact (r.drop _).take _
def pA {α:Type} (l:List α) (lo hi:Option Int):(VS.cut l lo hi).Sublist l:=by
 rw [ly]
 exact (List.take_sublist _ _).trans (List.drop_sublist _ _)
def yA {F G:Xm} (h:F.Sublist G):F.flatten.Sublist G.flatten:=by
 induction h with
 | slnil=>exact Y7 _
 | cons a _ ih=>rw [ZX];exact ih.trans (YW _ _)
 | cons_cons a _ ih=>rw [ZX,ZX];exact (Y7 _).append ih
def kI {lo hi:Option Expr} {cl ch:Option Ex} {p2:Pos} (ha:PV G X a ca) (hl:Pl G X lo cl) (hh:Pl G X hi ch) (hK:X.K=G.K:=by rfl):PV G X (.Subscript a (.Slice lo hi none p2) pos) (Jg ca cl ch) :=
 PE.weak (rE Gw ha hl hh) fun J H Q hq=>by
  obtain ⟨M,U,m,t,s,e,k⟩:=hq
  unfold Jg at e
  obtain ⟨⟨mx,x⟩,ea,e'⟩:=Zz.mp e
  obtain ⟨l,el,Ot⟩:=Zz.mp e'
  obtain ⟨h,eh,e4⟩:=Zz.mp Ot
  clear e e' Ot
  refine ⟨M,U,mx,x,s,ea,fun v H1 F e1 r1 f1=>⟨M,U,l,s.same e1,el,fun H2 e2=>⟨M,U,h,(s.same e1).same e2,eh,fun H3 e3=>?_⟩⟩⟩
  have RW:aD H H3:=(e1.trans e2).trans e3
  have r3:=(r1.same e2).same e3
  unfold Sq at e4
  split at e4
  ·rename_i m' z q
   cases q
   cases e4
   obtain ⟨rfl,hl⟩:=r3.str_inv
   refine .inl ⟨_,rfl,by rw [cX,← fO];exact hl.1,?_⟩
   rw [jB]
   exact k _ H3 _ RW (.str _ ⟨ZG (uu _ _ _) hl.1,fun c hc=>hl.2 c ((pA _ _ _).subset hc)⟩) Fp.nil
  ·rename_i m' z q
   cases q
   obtain ⟨a',vs,Fs,rfl,rfl,GT,ra⟩:=r3.lst_inv
   refine .inr ⟨a',vs,rfl,by rw [hK];exact G2.of GT,jo RW e4 (ra.cut l h) ((f1.sub (Yw _ _)).sub (yA (pA _ _ _))) fun v H4 F e5 r4 f4=>k v H4 F (RW.trans e5) r4 f4⟩
  ·cases e4
def Ko:Ty->String
 | .int => "int"
 | .str => "str"
 | .bool => "bool"
 | .list => "list"
 | .tuple => "tuple"
 | .dict => "dict"
def Uw (K:Xj):List V->Hp->VK->Prop:=fun vs H Q=>∃ x c t b,vs=[x,.ty c]/\HW K H x t/\PySem.W.kitOne K t (.type c)=some b/\Q (.bl b) H
def AO:dN X (.builtin "isinstance") (Uw X.K):=by
 intro pins s J H xs us Q I r h
 obtain ⟨x,c,t,b,rfl,ty,e,q⟩:=h
 obtain ⟨u,w',rfl,r1,r2⟩:=vals2 r
 cases r2
 exact vF I r1 ty e fun tk=>⟨.bl b,H,I.tok _,rfl,q⟩
def Ba (K:Xj) (ty:Ty):(PySem.W.kitOne K (.type "NoneType") (.type (Ko ty))=some false)/\(PySem.W.kitOne K (.type "bool") (.type (Ko ty))=some (sC ty (.bl true)))/\(PySem.W.kitOne K (.type "int") (.type (Ko ty))=some (sC ty (.int 0))) ∧
  (PySem.W.kitOne K (.type "str") (.type (Ko ty))=some (sC ty (.str [])))/\(PySem.W.kitOne K (.type "list") (.type (Ko ty))=some (sC ty (.lst [])))/\(PySem.W.kitOne K (.type "tuple") (.type (Ko ty))=some (sC ty (.tup [])))/\(PySem.W.kitOne K (.type "dict") (.type (Ko ty))=some (sC ty (.GL 0 []))):=by
 cases ty <;> refine ⟨?_,?_,?_,?_,?_,?_,?_⟩ <;> kernel_rfl
def E3 {H:Hp} {v:V} {t:T} {F:Xa} (ty:Ty) (r:Rp G H v t F) (h:uw t=true):∃ t',HW G.K H v t'/\PySem.W.kitOne G.K t' (.type (Ko ty))=some (sC ty t):=by
 obtain ⟨k1,k2,k3,k4,k5,k6,k7⟩:=Ba G.K ty
 cases r with
 | GJ=>exact ⟨_,.GJ,by rw [k1];cases ty <;> rfl⟩
 | bl b=>exact ⟨_,.bl b,by rw [k2];cases ty <;> rfl⟩
 | int i=>exact ⟨_,.int i,by rw [k3];cases ty <;> rfl⟩
 | str s _=>exact ⟨_,.str _,by rw [k4];cases ty <;> rfl⟩
 | Hw _=>cases h
 | tup h' q=>exact ⟨_,.tup h',by rw [k6];cases ty <;> rfl⟩
 | lst h' q=>exact ⟨_,.lst h',by rw [k5];cases ty <;> rfl⟩
 | GL h' l q=>exact ⟨_,.dK h',by rw [k7];cases ty <;> rfl⟩
 | Lc h' l q=>exact ⟨_,.dT h',by rw [k7];cases ty <;> rfl⟩
 | Ld h' l n q=>simp at h
 | JN _ _ _=>cases h
 | exc _ _=>cases h
 | ins _ _ _ _=>cases h
 | mk _ _=>cases h
def EH (ty:Ty) {x:Str} {p1 p2:Pos} (ha:PV G X a ca) (hg:Gl X "isinstance") (hm:X.mg "isinstance" = none) (Rb:Gl X x) (QN:X.mg x=none) (hv:bootBuiltins x=some (.type (Ko ty))) (hK:X.K=G.K:=by rfl)
  (hn:x ≠ "__name__" := by decide) (Hz:K3 x:=by decide) (hs:starEach [a,.Name x p2] X.env=(false,eval a X.env) :: starEach [.Name x p2] X.env:=by rfl)
  (IZ:starEach [.Name x p2] X.env=(false,eval (.Name x p2) X.env) :: starEach [] X.env:=by rfl) (hpl:(backTo pos (starEach [Expr.Name x p2] X.env)).any (·.1)=false:=by rfl) :
  PV G X (.Call (.Name "isinstance" p1) [a,.Name x p2] [] pos) (Oo ty ca) :=
 PE.weak (sv AO hg hm boot_isinstance (bZ ha (bZ (BK (v:=.ty (Ko ty)) Rb QN hv rfl hn Hz) fE IZ) hs) (by decide) rfl hs hpl) fun J H Q hq=>by
  obtain ⟨M,U,m,t,s,e,k⟩:=hq
  unfold Oo at e
  obtain ⟨⟨mx,y⟩,ea,e'⟩:=Zz.mp e
  split at e'
  ·rename_i hk
   cases e'
   refine ⟨M,U,mx,y,s,ea,fun v H' F e1 r1 f1=>?_⟩
   obtain ⟨t',h1,h2⟩:=E3 ty r1 hk
   exact ⟨v,Ko ty,t',_,rfl,by rw [hK];exact h1,by rw [hK];exact h2,k _ H' _ e1 (.bl _) Fp.nil⟩
  ·cases e'
end
section
variable {G:Gx} {X:Cx} {a b c e:Expr} {es:List Expr} {ca cb cc:Ex} {cs:Hh} {pos p:Pos}
def C5 (G:Gx) (r:V->List V->Hp->VK->Prop) (f:Val->Wc->Wb):Prop:=∀ (M:GR) (U:VS.Env) (H0 H1 H:Hp) (x:Val) (v:V) (F:Xa) (l:Wc) (vs:List V) (Fs:Xm) (m:Md) (t:T) (Q:VK),
 aD H0 H1->Rp G H v x.2 F->Fp M U H0 x.1 F->Args G M U H1 H l vs Fs->f x l=some (m,t)->(∀ v H' F,aD H H'->Rp G H' v t F->Fp M U H0 m F->Q v H')->r v vs H Q
def B5 {T' id:String} {name:Str} {r:V->List V->Hp->VK->Prop} {f:Val->Wc->Wb} {apos oe:Pos} (pa:PlainAttrs T') (slot:Slot T' name id) (MF:typeOf (.builtin id)=pure (.type "method_descriptor")) (hm:Np X id r) (ok:C5 G r f)
  (hT:∀ H v (x:Val) F l z,Rp G H v x.2 F->f x l=some z->Lz G.K T' v H) (ho:PV G X a ca) (ha:HI G X (e :: es) cs) (hK:X.K=G.K:=by rfl)
  (G1:attributeBase a name X.env (eval a X.env)=eval a X.env:=by rfl)
  (Hf:((backTo oe (starEach (e :: es) X.env)).all (fun x=>!x.1) && (backToKw oe (keywordEach [] X.env)).all (fun x=>x.1.isSome)
   && decide ((e :: es).length+([]:List Keyword).length+(if ([]:List Keyword).isEmpty then 0 else 1) < 30))=true:=by rfl)
  (GV:(apos.endLine == oe.line)=true:=by rfl) (hs:K1 e es X:=by rfl) (GU:K2 oe es X:=by rfl) :
  PV G X (.Call (.Attribute a name apos) (e :: es) [] oe) (eM f ca cs) :=
 PE.weak (sy pa slot MF hm ho ha G1 Hf GV hs GU) fun J H Q hq=>by
  obtain ⟨M,U,m,t,s,e,k⟩:=hq
  unfold eM at e
  obtain ⟨x,ea,e'⟩:=Zz.mp e
  obtain ⟨l,el,Ot⟩:=Zz.mp e'
  refine ⟨M,U,x.1,x.2,s,ea,fun v H1 F e1 r1 f1=>⟨by rw [hK];exact hT H1 v x F l _ r1 Ot,M,U,l,s.same e1,el,fun vs H2 Fs e2 r2 f2=>?_⟩⟩
  exact ok M U H H1 H2 x v F l vs Fs m t Q e1 (r1.same e2) f1 ⟨e2,r2,f2⟩ Ot fun v' H3 F' e3 r3 f3=>k v' H3 F' ((e1.trans e2).trans e3) r3 f3
def AJ:∀ (sep:Tx) (ss:List Tx),Txt.join (sx sep) (ss.map sx)=sx (dh sep ss):=by
 intro sep ss
 have fold:∀ (l:List Tx) (acc:Tx),(l.map sx).foldl (fun acc p=>acc++(sx sep).cps++p.cps) acc.toArray=(l.foldl (fun acc p=>acc++sep++p) acc).toArray:=by
  intro l
  induction l with
  | nil=>intro acc;rfl
  | cons x r ih =>
   intro acc
   rw [Zl,YT,YT,← ih]
   congr 1
   simp [sx]
 have jf:∀ (r:List Tx) (acc:Tx),r.foldl (fun acc p=>acc++sep++p) acc=dh sep (acc :: r):=by
  intro r
  induction r with
  | nil=>intro acc;rfl
  | cons x r ih =>
   intro acc
   rw [YT,ih]
   cases r with
   | nil=>rfl
   | cons y r=>simp [dh]
 cases ss with
 | nil=>rfl
 | cons x r =>
  show (⟨_⟩:Str)=⟨_⟩
  congr 1
  show ((r.map sx).foldl _ x.toArray)=_
  rw [fold,jf]
theorem pX {H:Hp}:∀ {vs:List V} {l:Wa} {Fs:Xm} {ss:List Tx},RpL G H vs l Fs->strs? l=some ss->vs=ss.map fun s=>V.str (sx s)
 | _,_,_,_,.nil,e=>by cases e;rfl
 | _,_,_,_,.cons (t:=t) r q,e=>by
  cases t with
  | str s =>
   simp only [strs?] at e
   obtain ⟨Il,e1,e2⟩:=Zy.mp e
   subst e2
   rw [pX q e1,r.str_inv.1]
   rfl
  | _=>cases e
theorem mZ:∀ {ss:List Tx} {us:X8},aM (ss.map fun s=>V.str (sx s)) us->StrsAre us (ss.map sx)
 | [],_,h=>by cases h;exact .nil
 | s :: ss,_,h=>by
  cases h with
  | cons r q =>
   obtain ⟨t,rfl⟩:=r
   exact .cons _ _ (mZ q)
def rJoin (K:Xj):V->List V->Hp->VK->Prop:=fun x vs H Q=>∃ sep p ss,x=.str (sx sep)/\vs=[.ref p]/\G2 K H p (ss.map fun s=>V.str (sx s))/\total ss+ss.length * sep.length<=16777216/\Q (.str (sx (dh sep ss))) H
theorem u4:∀ ss:List Tx,((ss.map sx).map (·.length)).sum=total ss
 | []=>rfl
 | s :: r=>by
  rw [Zl,Zl,Y0,u4 r,cX]
  rfl
def u7:Np X "str.join" (rJoin X.K):=by
 intro pins s J H x xs v us Q I rx PH h
 obtain ⟨sep,p,ss,rfl,rfl,hq,hl,q⟩:=h
 obtain ⟨t,rfl⟩:=rx
 obtain ⟨u,rfl,ru⟩:=vals1 PH
 cases ru
 obtain ⟨p0,r,pl,hz⟩:=I.list hq
 refine join_list pl.isList (ys:=ss.map sx) (by simpa using mZ r) ?_ fun t' k=>⟨.str _,H,I.tok _,⟨_,by rw [AJ]⟩,q⟩
 rw [u4,Zt,cX]
 exact hl
theorem jZ (sep:Tx):∀ ss:List Tx,(dh sep ss).length<=total ss+ss.length * sep.length
 | []=>by simp [dh,total]
 | [x]=>by simp [dh,total]
 | x :: y :: r=>by
  have:=jZ sep (y :: r)
  simp only [dh,total,Zv,Zm] at this ⊢
  have e:(r.length+1+1) * sep.length=(r.length+1) * sep.length+sep.length:=Nat.succ_mul _ _
  lia
theorem jV (sep:Tx):∀ (ss:List Tx) (c:Nat),c∈dh sep ss->c∈sep\/∃ s∈ss,c∈s
 | [],c,h=>by simp [dh] at h
 | [x],c,h=>.inr ⟨x,Zu,h⟩
 | x :: y :: r,c,h=>by
  simp only [dh,Zc] at h
  rcases h with (h | h) | h
  ·exact .inr ⟨x,Zu,h⟩
  ·exact .inl h
  ·exact (jV sep (y :: r) c h).imp id fun ⟨s,hs,hc⟩=>⟨s,Zw _ hs,hc⟩
theorem jK {H:Hp}:∀ {vs:List V} {l:Wa} {Fs:Xm} {ss:List Tx},RpL G H vs l Fs->strs? l=some ss->∀ s∈ss,∀ c∈s,c < 1114112
 | _,_,_,_,.nil,e,s,hs=>by cases e;simp at hs
 | _,_,_,_,.cons (t:=t) r q,e,s,hs=>by
  cases t with
  | str x =>
   simp only [strs?] at e
   obtain ⟨Il,e1,e2⟩:=Zy.mp e
   subst e2
   rcases Zj.mp hs with rfl | hs
   ·exact r.str_inv.2.2
   ·exact jK q e1 s hs
  | _=>cases e
def Bc:C5 G (rJoin G.K) iY:=by
 intro M U H0 H1 H x v F l vs Fs m t Q Ut r f A e k
 unfold iY at e
 split at e
 ·rename_i mx sep ml l'
  obtain ⟨ss,LO,e'⟩:=Zz.mp e
  split at e'
  ·rename_i hl
   cases e'
   obtain ⟨w',F',rfl,rfl,rl⟩:=(show RpL G H vs [.lst l'] Fs from A.rp).one
   obtain ⟨a',ws,Gs,rfl,rfl,ha,ra⟩:=rl.lst_inv
   rw [pX ra LO] at ha
   refine ⟨sep,a',ss,r.str_inv.1,rfl,G2.of ha,hl,bf k (.str _ ⟨ZG (jZ sep ss) hl,fun c hc=>(jV sep ss c hc).elim (r.str_inv.2.2 c) fun ⟨s',HJ,HX⟩=>jK ra LO s' HJ c HX⟩)⟩
  ·cases e'
 ·cases e
def oa {H:Hp} {v:V} {t:T} {F:Xa} (r:Rp G H v t F) (h:∃ s,t=.str s):Lz G.K "str" v H:=by
 obtain ⟨s,rfl⟩:=h
 rw [r.str_inv.1]
 rfl
def uE {apos oe:Pos} (ho:PV G X a ca) (ha:HI G X [e] cs) (hK:X.K=G.K:=by rfl)
  (G1:attributeBase a "join" X.env (eval a X.env)=eval a X.env:=by rfl)
  (Hf:((backTo oe (starEach [e] X.env)).all (fun x=>!x.1) && (backToKw oe (keywordEach [] X.env)).all (fun x=>x.1.isSome)
   && decide ([e].length+([]:List Keyword).length+(if ([]:List Keyword).isEmpty then 0 else 1) < 30))=true:=by rfl)
  (GV:(apos.endLine == oe.line)=true:=by rfl) (hs:K1 e [] X:=by rfl) (GU:(backTo oe (starEach [] X.env)).any (·.1)=false:=by rfl) :
  PV G X (.Call (.Attribute a "join" apos) [e] [] oe) (eM iY ca cs) :=
 B5 XW PySem.F.slot_str_join PySem.F.type_str_join (hK ▸ u7) Bc (fun H v x F l z r e=>oa r (by
  unfold iY at e
  split at e
  ·exact ⟨_,rfl⟩
  ·cases e)) ho ha hK G1 Hf GV hs GU
def BO:V->List V->Hp->VK->Prop:=fun x vs H Q=>∃ z y,x=.str z/\vs=[.str y]/\Q (.bl (Txt.endswith z y)) H
def zS:Np X "str.endswith" BO:=by
 intro pins s J H x xs v us Q I rx PH h
 obtain ⟨z,y,rfl,rfl,q⟩:=h
 obtain ⟨t,rfl⟩:=rx
 obtain ⟨u,rfl,ru⟩:=vals1 PH
 obtain ⟨t',rfl⟩:=ru
 exact call_meets F.slot_str_endswith (typeIs_str s z t) F.entry_str_endswith (F.args_str_endswith_2 _ _) (gives_str_endswith z y t t').meets (show EP X pins J Q _ s from ⟨.bl _,H,I,rfl,q⟩)
def AN (s t:Tx):Txt.endswith (sx s) (sx t)=t.isSuffixOf s:=by
 unfold Txt.endswith
 rw [XX,cX,cX]
 have e1:(sx s).cps.toList=s:=rfl
 have e2:(sx t).cps.toList=t:=rfl
 rw [e1,e2]
 rw [YI,Xg]
 simp only [Xl,Ze,decide_eq_true_eq,beq_iff_eq]
 constructor
 ·rintro ⟨h1,h2⟩
  rw [Yl (by rw [ZJ];omega)] at h2
  have h3:=Xy (s.length - t.length) s
  rw [h2] at h3
  exact ⟨_,h3⟩
 ·rintro ⟨u,rfl⟩
  simp
def Ak:C5 G BO oO:=by
 intro M U H0 H1 H x v F l vs Fs m t Q Ut r f A e k
 unfold oO at e
 split at e
 ·rename_i mx z ml y
  cases e
  obtain ⟨w',F',rfl,rfl,rl⟩:=(show RpL G H vs [.str y] Fs from A.rp).one
  refine ⟨_,_,r.str_inv.1,by rw [rl.str_inv.1],?_⟩
  rw [AN]
  exact bf k (.bl _)
 ·cases e
end
end VS
end
section
namespace VS
@[simp] def IF (x y:Val):Wb:=match x.2 with
 | .GL 0 l=>if iG y.2 then (fB l y.2).map (sub x.1) else none
 | _=>ay x y
@[simp] def flat:T->Bool
 | .GJ=>true
 | .bl _=>true
 | .int _=>true
 | .str _=>true
 | _=>false
@[simp] def oi (x y:Val):Wb:=match y.2 with
 | .GL 0 l=>if iG x.2 then some (.fr,.bl (fB l x.2).isSome) else none
 | .lst l=>if flat x.2 && l.all flat then some (.fr,.bl (l.any fun y=>eqT y x.2)) else none
 | .tup l=>if flat x.2 && l.all flat then some (.fr,.bl (l.any fun y=>eqT y x.2)) else none
 | _=>none
@[simp] def cP (x y:Val):Wb:=match oi x y with
 | some (_,.bl b)=>some (.fr,.bl (!b))
 | _=>none
noncomputable def pm {α:Type} (f:T->Option (T×α)):List Ky->T->Option (T×α)
 | [],t=>f t
 | .fld k :: r,.obj (c+1) (q :: fs)=>(fs.findIdx? fun p=>p.1 == k).bind fun i=>(fs[i]?).bind fun p=>(pm f r p.2).map fun z=>(.obj (c+1) (q :: fs.set i (p.1,z.1)),z.2)
 | .un :: r,.obj 0 [(0,.bl true),(m,x)]=>(pm f r x).map fun z=>(.obj 0 [(0,.bl true),(m,z.1)],z.2)
 | .at (.int i) :: r,.lst l=>(HH l.length i).bind fun j=>(l[j]?).bind fun x=>(pm f r x).map fun z=>(.lst (l.set j z.1),z.2)
 | .at k :: r,.GL 0 l=>if iG k then (l.findIdx? fun p=>eqT p.1 k).bind fun i=>(l[i]?).bind fun p=>(pm f r p.2).map fun z=>(.GL 0 (l.set i (p.1,z.1)),z.2) else none
 | _,_=>none
end VS
end
section
namespace VS
open PySem PySem.Spec PyProof.Rows L2
section
variable {G:Gx} {X:Cx} {a b c e:Expr} {es:List Expr} {ca cb cc:Ex} {cs:Hh} {pos p:Pos}
mutual
def IE:T->PyData
 | .GJ=>.none
 | .bl b=>.bool b
 | .int i=>.int i
 | .str s=>.str (sx s)
 | .tup l=>.tuple (m6 l)
 | .lst l=>.list (m6 l)
 | _=>.none
def m6:Wa->List PyData
 | []=>[]
 | t :: r=>IE t :: m6 r
end
def EW {s:Tx} (h:pV s):PyData.strOk (sx s)=true:=by
 unfold PyData.strOk sx
 simp only [Array.all_eq_true,decide_eq_true_eq]
 intro i hi
 have:s.toArray[i]∈s:=by simp
 have:=h.2 _ this
 simpa using this
def xg {s t:Tx}:(sx s == sx t)=(s == t):=by
 rw [YI,beq_iff_eq,beq_iff_eq]
 constructor
 ·intro h
  have:(sx s).cps=(sx t).cps:=by rw [h]
  simpa [sx] using this
 ·intro h
  rw [h]
mutual
theorem pH:∀ (n k:Nat) (t u:T),HY n t=true->HY k u=true->PyData.eqv (IE t) (IE u)=eqT t u
 | n,k,t,u,h1,h2=>by
  cases t with
  | Hw _=>cases n <;> simp at h1
  | GL _ _=>cases n <;> simp at h1
  | obj _ _=>cases n <;> simp at h1
  | tup l =>
   cases n with
   | zero=>simp at h1
   | succ n =>
    cases u with
    | tup r =>
     cases k with
     | zero=>simp at h2
     | succ k =>
      simp only [IE,PyData.eqv,eqT]
      exact nO n k l r (by simpa using h1) (by simpa using h2)
    | Hw _=>cases k <;> simp at h2
    | GL _ _=>cases k <;> simp at h2
    | obj _ _=>cases k <;> simp at h2
    | _=>simp [IE,PyData.eqv,eqT]
  | lst l =>
   cases n with
   | zero=>simp at h1
   | succ n =>
    cases u with
    | lst r =>
     cases k with
     | zero=>simp at h2
     | succ k =>
      simp only [IE,PyData.eqv,eqT]
      exact nO n k l r (by simpa using h1) (by simpa using h2)
    | Hw _=>cases k <;> simp at h2
    | GL _ _=>cases k <;> simp at h2
    | obj _ _=>cases k <;> simp at h2
    | _=>simp [IE,PyData.eqv,eqT]
  | str s =>
   cases u with
   | str r=>simp only [IE,PyData.eqv,eqT];exact xg
   | Hw _=>cases k <;> simp at h2
   | GL _ _=>cases k <;> simp at h2
   | obj _ _=>cases k <;> simp at h2
   | _=>simp [IE,PyData.eqv,eqT]
  | _ =>
   cases u with
   | Hw _=>cases k <;> simp at h2
   | GL _ _=>cases k <;> simp at h2
   | obj _ _=>cases k <;> simp at h2
   | _=>simp [IE,PyData.eqv,eqT]
theorem nO:∀ (n k:Nat) (l r:Wa),(∀ t∈l,HY n t=true)->(∀ t∈r,HY k t=true)->PyData.eqvAll (m6 l) (m6 r)=yH l r
 | _,_,[],[],_,_=>rfl
 | _,_,[],_ :: _,_,_=>rfl
 | _,_,_ :: _,[],_,_=>rfl
 | n,k,t :: l,u :: r,h1,h2=>by
  simp only [m6,PyData.eqvAll,yH]
  rw [pH n k t u (h1 t Zu) (h2 u Zu),nO n k l r (fun x hx=>h1 x (Zw _ hx)) fun x hx=>h2 x (Zw _ hx)]
end
def Rp.KJ {H:Hp} {v:V} {ts:Wa} {F:Xa} (r:Rp G H v (.tup ts) F):∃ b vs Fs,v=.ref b/\H b=some (.tup vs)/\RpL G H vs ts Fs:=by
 cases r with
 | tup h q=>exact ⟨_,_,_,rfl,h,q⟩
def Rp.KS {H:Hp} {v:V} {ts:Wa} {F:Xa} (r:Rp G H v (.lst ts) F):∃ b vs Fs,v=.ref b/\H b=some (.lst vs)/\RpL G H vs ts Fs:=by
 cases r with
 | lst h q=>exact ⟨_,_,_,rfl,h,q⟩
theorem kU {H:Hp} {s:Shared} {n:Nat} (rd:∀ {v:V} {t:T} {F:Xa} {u:Value},Rp G H v t F->RelV v u->HY n t=true->∃ as,Reads s.heap u (IE t) as/\(IE t).canLay0=true/\(IE t).depth<=n):∀ {vs:List V} {ts:Wa} {Fs:Xm} {us:X8},RpL G H vs ts Fs->aM vs us->(∀ t∈ts,HY n t=true) →
  ∃ as,ReadsAll s.heap us (m6 ts) as/\PyData.canLayAll0 (m6 ts)=true/\PyData.depthAll (m6 ts)<=n
 | _,_,_,_,.nil,r,_=>by cases r;exact ⟨_,.nil,rfl,Yt _⟩
 | _,_,_,_,.cons p q,r,h=>by
  cases r with
  | cons r1 r2 =>
   obtain ⟨as,h1,h2,h3⟩:=rd p r1 (h _ Zu)
   obtain ⟨bs,g1,g2,g3⟩:=kU rd q r2 fun t ht=>h t (Zw _ ht)
   exact ⟨_,.cons h1 g1,by simp only [m6,PyData.canLayAll0,h2,g2,Bool.and_self],by simp only [m6,PyData.depthAll];lia⟩
def nK {h:Heap} {H:Hp} {v:V} {t:T} {F:Xa} {u:Value} {n:Nat} (r:Rp G H v t F) (ru:RelV v u) (hf:flat t=true):∃ as,Reads h u (IE t) as/\(IE t).canLay0=true/\(IE t).depth<=n:=by
 cases r with
 | GJ=>cases ru;exact ⟨_,.none,rfl,Yt _⟩
 | bl b=>cases ru;exact ⟨_,.bool b,rfl,Yt _⟩
 | int i=>obtain ⟨t,rfl⟩:=ru;exact ⟨_,.int i t,rfl,Yt _⟩
 | str s h=>obtain ⟨t,rfl⟩:=ru;exact ⟨_,.str _ t,EW h,Yt _⟩
 | _=>cases hf
def kf {H:Hp} {pins:Y1} {J:L2.St} {s:Shared} (I:Inv X pins J H s) (n:Nat):∀ {v:V} {t:T} {F:Xa} {u:Value},Rp G H v t F->RelV v u->HY n t=true->∃ as,Reads s.heap u (IE t) as/\(IE t).canLay0=true/\(IE t).depth<=n:=by
 induction n with
 | zero =>
  intro v t F u r ru h
  refine nK r ru ?_
  cases t <;> first | rfl | exact h
 | succ n ih =>
  intro v t F u r ru h
  cases t with
  | tup l =>
   obtain ⟨b,vs,Fs,rfl,e,q⟩:=Rp.KJ r
   cases ru
   obtain ⟨p0,rv,tp,hz⟩:=I.tuple (HL.of e)
   obtain ⟨as,h1,h2,h3⟩:=kU ih q rv (by simpa using h)
   obtain ⟨o,ho,hc,n',hd⟩:=tp
   exact ⟨_,.tuple ho hc hd (by simpa using h1),h2,by simp only [IE,PyData.depth];exact Xs h3⟩
  | lst l =>
   obtain ⟨b,vs,Fs,rfl,e,q⟩:=Rp.KS r
   cases ru
   obtain ⟨p0,rv,pl,hz⟩:=I.list (G2.of e)
   obtain ⟨as,h1,h2,h3⟩:=kU ih q rv (by simpa using h)
   obtain ⟨o,ho,hc,n',hd⟩:=pl.isList
   exact ⟨_,.list ho hc hd (by simpa using h1),h2,by simp only [IE,PyData.depth];exact Xs h3⟩
  | Hw _=>simp at h
  | GL _ _=>simp at h
  | obj _ _=>simp at h
  | _=>exact nK r ru rfl
def Bk (G:Gx) (neg:Bool):R2:=fun x y H Q=>∃ t u F F',Rp G H x t F/\Rp G H y u F'/\HY 60 t=true/\HY 60 u=true/\Q (.bl (if neg then !eqT t u else eqT t u)) H
def jq {d:PyData} (h:d.canLay0=true) (h2:d.depth<=60):SeqAt.shaped d=true:=by
 unfold SeqAt.shaped
 rw [h,Bool.true_and]
 exact decide_eq_true (by lia)
def tm (hu:X.A.units+64 < cLine):OpR X (compareOp .Eq) (Bk G false):=by
 intro pins s J H x y v u Q I rx ry h
 obtain ⟨t,w,F,F',r1,r2,h1,h2,q⟩:=h
 obtain ⟨as,a1,a2,a3⟩:=kf I 60 r1 rx h1
 obtain ⟨bs,b1,b2,b3⟩:=kf I 60 r2 ry h2
 refine eq_dataH a1 b1 (jq a2 a3) (jq b2 b3) hu ⟨.bl _,H,I,rfl,?_⟩
 rw [pH 60 60 t w h1 h2]
 exact q
def CW (hu:X.A.units+64 < cLine):OpR X (compareOp .NotEq) (Bk G true):=by
 intro pins s J H x y v u Q I rx ry h
 obtain ⟨t,w,F,F',r1,r2,h1,h2,q⟩:=h
 obtain ⟨as,a1,a2,a3⟩:=kf I 60 r1 rx h1
 obtain ⟨bs,b1,b2,b3⟩:=kf I 60 r2 ry h2
 refine ne_dataH a1 b1 (jq a2 a3) (jq b2 b3) hu ⟨.bl _,H,I,rfl,?_⟩
 rw [pH 60 60 t w h1 h2]
 exact q
def zq:eJ G (Bk G false) oEq:=by
 intro M U H0 H x y u w F1 F2 m t Q tw e k
 unfold oEq at e
 split at e
 ·rename_i h
  cases e
  exact ⟨_,_,_,_,tw.r1,tw.r2,h.1,h.2,bf k (.bl _)⟩
 ·cases e
def Ej:eJ G (Bk G true) Kd:=by
 intro M U H0 H x y u w F1 F2 m t Q tw e k
 unfold Kd at e
 split at e
 ·rename_i h
  cases e
  exact ⟨_,_,_,_,tw.r1,tw.r2,h.1,h.2,bf k (.bl _)⟩
 ·cases e
def tells_eq:Tells oEq:=by
 intro x y m t e
 unfold oEq at e
 split at e <;> first | (cases e;exact ⟨_,rfl⟩) | cases e
def xF:Tells Kd:=by
 intro x y m t e
 unfold Kd at e
 split at e <;> first | (cases e;exact ⟨_,rfl⟩) | cases e
end
structure G0 (M:GR) (U:VS.Env) (H:Hp) (M':GR) (U':VS.Env) (H':Hp):Prop where
 keep:∀ a o,H a=some o->¬ bC M U a->H' a=some o/\¬ bC M' U' a
 GZ:∀ a,H a ≠ none->H' a ≠ none
 ow:∀ a,bC M' U' a->bC M U a\/H a=none
 pu:∀ a,cM M' U' a->cM M U a\/bC M U a\/H a=none
 kept:Kept H H'
theorem G0.refl (M:GR) (U:VS.Env) (H:Hp):G0 M U H M U H:=⟨fun a o h n=>⟨h,n⟩,fun _ h=>h,fun _ h=>.inl h,fun _ h=>.inl h,Kept.refl H⟩
theorem G0.none {M M':GR} {U U':VS.Env} {H H':Hp} (f:G0 M U H M' U' H') {a:Addr} (h:H' a=none):H a=none:=by
 cases e:H a with
 | none=>rfl
 | some o=>exact absurd h (f.GZ a (by rw [e];exact fun z=>nomatch z))
theorem G0.trans {M M1 M2:GR} {U U1 U2:VS.Env} {H H1 H2:Hp} (f:G0 M U H M1 U1 H1) (g:G0 M1 U1 H1 M2 U2 H2):G0 M U H M2 U2 H2 where
 keep:=fun a o h n=>let ⟨h1,n1⟩:=f.keep a o h n;g.keep a o h1 n1
 GZ:=fun a h=>g.GZ a (f.GZ a h)
 ow:=fun a h=>by
  rcases g.ow a h with h | h
  ·exact f.ow a h
  ·exact .inr (f.none h)
 pu:=fun a h=>by
  rcases g.pu a h with h | h | h
  ·exact f.pu a h
  ·rcases f.ow a h with h | h
   ·exact .inr (.inl h)
   ·exact .inr (.inr h)
  ·exact .inr (.inr (f.none h))
 kept:=f.kept.trans g.kept
def G0.same {M:GR} {U:VS.Env} {H H':Hp} (e:aD H H'):G0 M U H M U H' :=
 ⟨fun a o h n=>⟨e a o h,n⟩,fun a h z=>h (e.free z),fun _ h=>.inl h,fun _ h=>.inl h,Kept.of e⟩
def qP (M:GR) (U:VS.Env) (H:Hp):Md->Xa->Prop
 | .fr,F=>F.Nodup/\∀ a∈F,H a=none\/bC M U a
 | _,F=>∀ a∈F,H a=none\/cM M U a\/bC M U a
theorem qP.back {M M1:GR} {U U1:VS.Env} {H H1:Hp} (f:G0 M U H M1 U1 H1) {F:Xa}:∀ {m:Md},qP M1 U1 H1 m F->qP M U H m F
 | .fr,h=>⟨h.1,fun a ha=>(h.2 a ha).elim (fun z=>.inl (f.none z)) fun z=>(f.ow a z).elim .inr .inl⟩
 | .pu,h=>fun a ha=>by
  rcases h a ha with z | z | z
  ·exact .inl (f.none z)
  ·rcases f.pu a z with z | z | z
   ·exact .inr (.inl z)
   ·exact .inr (.inr z)
   ·exact .inl z
  ·exact (f.ow a z).elim (fun z=>.inr (.inr z)) .inl
 | .bo,h=>fun a ha=>by
  rcases h a ha with z | z | z
  ·exact .inl (f.none z)
  ·rcases f.pu a z with z | z | z
   ·exact .inr (.inl z)
   ·exact .inr (.inr z)
   ·exact .inl z
  ·exact (f.ow a z).elim (fun z=>.inr (.inr z)) .inl
def Nx (G:Gx) (M:GR) (U:VS.Env) (H:Hp) (U':VS.Env) (k:L2.St->Hp->Prop):Prop:=∀ M' J' H',SR G M' U' J' H'->G0 M U H M' U' H'->k J' H'
def uY (G:Gx) (M:GR) (U:VS.Env) (H:Hp) (D:Ends):Out->Prop
 | .nx U'=>Nx G M U H U' D.nx
 | .bk U'=>Nx G M U H U' D.bk
 | .ct U'=>Nx G M U H U' D.ct
 | .rt v U'=>∀ u H' F M' J',SR G M' U' J' H'->G0 M U H M' U' H'->Rp G H' u v.2 F->qP M U H v.1 F->D.rt u H'
def tS (G:Gx) (c:Sx):TS:=fun D J H=>∃ M U o,SR G M U J H/\c U=some o/\uY G M U H D o
def PSV (G:Gx) (X:Cx) (st:Stmt) (c:Sx):Prop:=PS X st (tS G c)
def gz (G:Gx) (X:Cx) (st:List Stmt) (c:Sx):Prop:=IC X st (tS G c)
def PS.weak {X:Cx} {e:Stmt} {t t':TS} (h:PS X e t) (w:∀ D J H,t' D J H->t D J H):PS X e t':=fun pins s J H D I q=>h pins s J H D I (w D J H q)
def IC.weak {X:Cx} {e:List Stmt} {t t':TS} (h:IC X e t) (w:∀ D J H,t' D J H->t D J H):IC X e t':=fun pins s J H D I q=>h pins s J H D I (w D J H q)
theorem uY.back {G:Gx} {M M1:GR} {U U1:VS.Env} {H H1:Hp} {D:Ends} (f:G0 M U H M1 U1 H1):∀ {o:Out},uY G M U H D o->uY G M1 U1 H1 D o
 | .nx U',h=>fun M' J' H' s g=>h M' J' H' s (f.trans g)
 | .bk U',h=>fun M' J' H' s g=>h M' J' H' s (f.trans g)
 | .ct U',h=>fun M' J' H' s g=>h M' J' H' s (f.trans g)
 | .rt v U',h=>fun u H' F M' J' s g r q=>h u H' F M' J' s (f.trans g) r (q.back f)
section
variable {G:Gx} {X:Cx} {st:Stmt} {Nz:List Stmt} {c c1 c2:Sx} {pos:Pos} {e:Expr} {ce:Ex}
def aY:gz G X [] dn:=IC.weak Av fun D J H hq=>by
 obtain ⟨M,U,o,s,e,k⟩:=hq
 cases (show some (Out.nx U)=some o from e)
 exact k M J H s (G0.refl _ _ _)
def af (h1:PSV G X st c1) (h2:gz G X Nz c2):gz G X (st :: Nz) (ak c1 c2):=IC.weak (yp h1 h2) fun D J H hq=>by
 obtain ⟨M,U,o,s,e,k⟩:=hq
 unfold ak at e
 obtain ⟨o1,e1,e2⟩:=Zz.mp e
 refine ⟨M,U,o1,s,e1,?_⟩
 cases o1 with
 | nx U1=>exact fun M' J' H' s' f=>⟨M',U1,o,s',e2,k.back f⟩
 | rt v U1=>cases e2;exact k
 | bk U1=>cases e2;exact k
 | ct U1=>cases e2;exact k
def bJ {t:Expr} {ct:Ex} {a b:List Stmt} (hc:Iq G X t ct) (ha:gz G X a c1) (hb:gz G X b c2):PSV G X (.If t a b pos) (HB ct c1 c2):=PS.weak (BZ hc ha hb) fun D J H hq=>by
 obtain ⟨M,U,o,s,e,k⟩:=hq
 unfold HB at e
 obtain ⟨⟨m,x⟩,ec,e1⟩:=Zz.mp e
 obtain ⟨b',eb,e2⟩:=Zz.mp e1
 refine ⟨M,U,m,x,b',s,ec,eb,fun H' e3=>?_⟩
 cases b' with
 | true =>
  rw [Zq rfl] at e2
  exact vR ⟨M,U,o,s.same e3,e2,k.back (G0.same e3)⟩
 | false =>
  rw [Zo Zd] at e2
  exact wJ ⟨M,U,o,s.same e3,e2,k.back (G0.same e3)⟩
theorem Fp.ret {M:GR} {U:VS.Env} {H:Hp} {F:Xa}:∀ {m:Md},Fp M U H m F->qP M U H (match m with | .bo=>.pu | m=>m) F
 | .fr,f=>⟨f.1,fun a ha=>.inl (f.2 a ha)⟩
 | .pu,f=>fun a ha=>(f a ha).elim .inl fun z=>.inr (.inl z)
 | .bo,f=>f
def br (he:PV G X e ce):PSV G X (.Return (some e) pos) (fm ce):=PS.weak (pD he) fun D J H hq=>by
 obtain ⟨M,U,o,s,e,k⟩:=hq
 unfold fm at e
 obtain ⟨⟨m,x⟩,ec,e1⟩:=Zz.mp e
 cases e1
 exact ⟨M,U,m,x,s,ec,fun v H' F e1 r1 f1=>k v H' F M J (s.same e1) (G0.same e1) r1 f1.ret⟩
def cL {U:VS.Env} {i j:Nat} {c:Cell} (h:(U.set i none)[j]?=some (some c)):j ≠ i/\U[j]?=some (some c):=by
 rw [Wu] at h
 split at h
 ·split at h <;> cases h
 ·rename_i n
  exact ⟨fun z=>n z.symm,h⟩
def SR.drop {M:GR} {U:VS.Env} {J:L2.St} {H:Hp} (s:SR G M U J H) (i:Nat):SR G M (U.set i none) J H :=
 ⟨by rw [Z6];exact s.len,fun j c h=>s.rp j c (cL h).2,fun j t h=>s.nd j t (cL h).2,fun j k t c h1 h2 n=>s.sep j k t c (cL h1).2 (cL h2).2 n⟩
def G0.drop {M:GR} {U:VS.Env} {H:Hp} (i:Nat):G0 M U H M (U.set i Option.none) H :=
 ⟨fun a o h n=>⟨h,fun ⟨j,t,h1,h2⟩=>n ⟨j,t,(cL h1).2,h2⟩⟩,fun _ h=>h,fun a ⟨j,t,h1,h2⟩=>.inl ⟨j,t,(cL h1).2,h2⟩,fun a ⟨j,t,h1,h2⟩=>.inl ⟨j,t,(cL h1).2,h2⟩,Kept.refl H⟩
def cJ (i:Nat) {x:Str} {p:Pos} (hN:X.N[i]?=some x:=by rfl) (hv:IB X.env.scope x:=by first | exact Or.inl rfl | exact Or.inr (Or.inl rfl) | exact Or.inr (Or.inr rfl)) (hd:K3 x:=by decide)
  (hcd:K4 x:=by decide):PSV G X (.Return (some (.Name x p)) pos) (eu i):=PS.weak (pD (fK hN hv hd hcd)) fun D J H hq=>by
 obtain ⟨M,U,o,s,e,k⟩:=hq
 unfold eu at e
 split at e
 ·rename_i t h
  obtain ⟨v,h1,h2⟩:=s.rp _ _ h
  cases e
  exact ⟨v,h1,k v H (M i) M J (s.drop i) (G0.drop i) h2 ⟨s.nd i t h,fun a ha=>.inr ⟨i,t,h,ha⟩⟩⟩
 ·rename_i t h
  obtain ⟨v,h1,h2⟩:=s.rp _ _ h
  cases e
  refine ⟨v,h1,k v H (M i) M J s (G0.refl _ _ _) h2 ?_⟩
  have f:Fp M U H .pu (M i):=fun a ha=>.inr ⟨i,t,h,ha⟩
  have f2:=(f.up h2).ret
  have:(match (VS.up .pu (i5 (.pu t))).1 with | .bo=>Md.pu | m=>m)=(VS.up .pu t).1:=by
   show (match (VS.up .pu t).1 with | .bo=>Md.pu | m=>m)=_
   unfold VS.up
   split <;> (rename_i q;revert q;split <;> simp)
  rw [this] at f2
  exact f2
 ·cases e
def lU (M:GR) (i:Nat) (F:Xa):GR:=fun j=>if j=i then F else M j
def js {M:GR} {i:Nat} {F:Xa}:lU M i F i=F:=Zq rfl
def fe {M:GR} {i j:Nat} {F:Xa} (h:j ≠ i):lU M i F j=M j:=Zo h
def iq {U:VS.Env} {i j:Nat} {c c':Cell} (h:(U.set i (some c))[j]?=some (some c')):(j=i/\c'=c)\/(j ≠ i/\U[j]?=some (some c')):=by
 rw [Wu] at h
 split at h
 ·rename_i e
  split at h
  ·exact .inl ⟨e.symm,(Zn (Zn h)).symm⟩
  ·cases h
 ·rename_i n
  exact .inr ⟨fun z=>n z.symm,h⟩
def SR.put {M:GR} {U:VS.Env} {J:L2.St} {H H':Hp} {i:Nat} {v:V} {c:Cell} {F:Xa} (s:SR G M U J H) (hi:i < U.length) (r:Rp G H' v (i5 c) F)
  (hk:∀ j c',j ≠ i->U[j]?=some (some c')->∀ w,Rp G H w (i5 c') (M j)->Rp G H' w (i5 c') (M j))
  (Vh:∀ t,c=.ow t->F.Nodup) (QH:∀ t,c=.ow t->∀ j c',j ≠ i->U[j]?=some (some c')->∀ a∈F,a ∉ M j) (U9:∀ j t,j ≠ i->U[j]?=some (some (.ow t))->∀ a∈M j,a ∉ F) :
  SR G (lU M i F) (U.set i (some c)) (J.set i (some v)) H' where
 len:=by rw [Z6,Z6];exact s.len
 rp:=fun j c' h=>by
  rcases iq h with ⟨rfl,rfl⟩ | ⟨n,h⟩
  ·exact ⟨v,by rw [Y5 (by rw [← s.len];exact hi)],by rw [js];exact r⟩
  ·obtain ⟨w,h1,h2⟩:=s.rp j c' h
   exact ⟨w,by rw [Yr (Ya n)];exact h1,by rw [fe n];exact hk j c' n h w h2⟩
 nd:=fun j t h=>by
  rcases iq h with ⟨rfl,e⟩ | ⟨n,h⟩
  ·rw [js];exact Vh t e.symm
  ·rw [fe n];exact s.nd j t h
 sep:=fun j k t c' h1 h2 n=>by
  rcases iq h1 with ⟨rfl,e⟩ | ⟨n1,g1⟩
  ·rcases iq h2 with ⟨rfl,e2⟩ | ⟨n2,g2⟩
   ·exact absurd rfl n
   ·rw [js,fe n2]
    exact QH t e.symm k c' n2 g2
  ·rcases iq h2 with ⟨rfl,e2⟩ | ⟨n2,g2⟩
   ·rw [js,fe n1]
    exact U9 j t n1 g1
   ·rw [fe n1,fe n2]
    exact s.sep j k t c' g1 g2 n
def iu {M:GR} {U:VS.Env} {i:Nat} {c:Cell} {F:Xa} {a:Addr} (h:bC (lU M i F) (U.set i (some c)) a):(∃ t,c=.ow t/\a∈F)\/bC M U a:=by
 obtain ⟨j,t,h1,h2⟩:=h
 rcases iq h1 with ⟨rfl,e⟩ | ⟨n,h1⟩
 ·rw [js] at h2;exact .inl ⟨t,e.symm,h2⟩
 ·rw [fe n] at h2;exact .inr ⟨j,t,h1,h2⟩
def nV {M:GR} {U:VS.Env} {i:Nat} {c:Cell} {F:Xa} {a:Addr} (h:cM (lU M i F) (U.set i (some c)) a):(∃ t,c=.pu t/\a∈F)\/cM M U a:=by
 obtain ⟨j,t,h1,h2⟩:=h
 rcases iq h1 with ⟨rfl,e⟩ | ⟨n,h1⟩
 ·rw [js] at h2;exact .inl ⟨t,e.symm,h2⟩
 ·rw [fe n] at h2;exact .inr ⟨j,t,h1,h2⟩
def SR.KO {M:GR} {U:VS.Env} {J:L2.St} {H:Hp} (s:SR G M U J H) {a:Addr} (h:bC M U a) (h':cM M U a):False:=by
 obtain ⟨j,t,h1,h2⟩:=h
 obtain ⟨k,u,g1,g2⟩:=h'
 have n:j ≠ k:=fun e=>by subst e;rw [h1] at g1;cases g1
 exact s.sep j k t _ h1 g1 n a h2 g2
def SR.val {M:GR} {U:VS.Env} {J:L2.St} {H H':Hp} {i:Nat} {v:V} {t:T} {m:Md} {F:Xa} {c:Cell} (s:SR G M U J H) (hi:i < U.length) (e:aD H H') (r:Rp G H' v t F) (f:Fp M U H m F)
  (hc:(c=.pu t/\m ≠ .bo)\/(c=.ow t/\m=.fr)):SR G (lU M i F) (U.set i (some c)) (J.set i (some v)) H'/\G0 M U H (lU M i F) (U.set i (some c)) H':=by
 have GZ:∀ {a},H a=none->∀ j c',U[j]?=some (some c')->a ∉ M j:=fun {a} h j c' hj ha=>by
  obtain ⟨w,_,q⟩:=s.rp j c' hj
  exact GS.pe (q.GZ a ha) h
 have ct:i5 c=t:=by rcases hc with ⟨rfl,_⟩ | ⟨rfl,_⟩ <;> rfl
 have Tj:∀ a∈F,H a=none\/cM M U a:=fun a ha=>by
  rcases hc with ⟨_,n⟩ | ⟨_,n⟩
  ·exact f.pu n a ha
  ·rw [n] at f;exact .inl (f.2 a ha)
 constructor
 ·refine s.put hi (by rw [ct];exact r) (fun j c' n hj w q=>q.same e) (fun u hu=>?_) (fun u hu j c' n hj a ha=>?_) fun j u n hj a ha hF=>?_
  ·rcases hc with ⟨h,_⟩ | ⟨_,h⟩
   ·rw [h] at hu;cases hu
   ·rw [h] at f;exact f.1
  ·rcases hc with ⟨h,_⟩ | ⟨_,h⟩
   ·rw [h] at hu;cases hu
   ·rw [h] at f;exact GZ (f.2 a ha) j c' hj
  ·rcases Tj a hF with z | z
   ·exact GZ z j _ hj ha
   ·exact s.KO ⟨j,u,hj,ha⟩ z
 ·refine ⟨fun a o h n=>⟨e a o h,fun z=>?_⟩,fun a h z=>h (e.free z),fun a h=>?_,fun a h=>?_,Kept.of e⟩
  ·rcases iu z with ⟨u,hu,ha⟩ | z
   ·rcases hc with ⟨h',_⟩ | ⟨_,h'⟩
    ·rw [h'] at hu;cases hu
    ·rw [h'] at f
     rw [f.2 a ha] at h;cases h
   ·exact n z
  ·rcases iu h with ⟨u,hu,ha⟩ | z
   ·rcases hc with ⟨h',_⟩ | ⟨_,h'⟩
    ·rw [h'] at hu;cases hu
    ·rw [h'] at f
     exact .inr (f.2 a ha)
   ·exact .inl z
  ·rcases nV h with ⟨u,hu,ha⟩ | z
   ·exact (Tj a ha).elim (fun z=>.inr (.inr z)) .inl
   ·exact .inl z
def eZ {i:Nat} {x:Str} {pos':Pos} (he:PV G X e ce) (hN:X.N.Nodup) (hi:X.N[i]?=some x:=by rfl) (hx:Loc X.env.scope x:=by first | exact Or.inl rfl | exact Or.inr rfl)
  (hs:swapsWith e (some (.Name x pos')) pos.line X.env=pure false:=by rfl) (hf:X.fn x=true\/X.env.scope.names.lookup x=some .local:=by first | exact .inl rfl | exact .inr rfl) :
  PSV G X (.Assign [.Name x pos'] e pos) (jX i ce):=PS.weak (pY hN hi hx he hs hf) fun D J H hq=>by
 obtain ⟨M,U,o,s,e,k⟩:=hq
 unfold jX at e
 obtain ⟨⟨m,t⟩,ec,e1⟩:=Zz.mp e
 obtain ⟨c,eC,e2⟩:=Zz.mp e1
 split at e2
 ·rename_i hl
  cases e2
  refine ⟨M,U,m,t,s,ec,fun v H' F e3 r3 f3=>?_⟩
  obtain ⟨q1,q2⟩:=s.val (c:=c) hl e3 r3 f3 (by
   unfold cellOf at eC
   cases m with
   | fr =>
    simp only [Option.some.injEq] at eC
    split at eC
    ·exact .inr ⟨eC.symm,rfl⟩
    ·exact .inl ⟨eC.symm,by decide⟩
   | pu=>cases eC;exact .inl ⟨rfl,by decide⟩
   | bo=>cases eC)
  exact k _ _ H' q1 q2
 ·cases e2
def aB {i:Nat} {x:Str} {pos':Pos} (he:PV G X e ce) (hN:X.N.Nodup) (hi:X.N[i]?=some x:=by rfl) (hx:Loc X.env.scope x:=by first | exact Or.inl rfl | exact Or.inr rfl)
  (hs:swapsWith e (some (.Name x pos')) pos.line X.env=pure false:=by rfl) (hf:X.fn x=true\/X.env.scope.names.lookup x=some .local:=by first | exact .inl rfl | exact .inr rfl) :
  PSV G X (.Assign [.Name x pos'] e pos) (aH i ce):=PS.weak (pY hN hi hx he hs hf) fun D J H hq=>by
 obtain ⟨M,U,o,s,e,k⟩:=hq
 unfold aH at e
 obtain ⟨⟨m,t⟩,ec,e1⟩:=Zz.mp e
 split at e1
 ·cases e1
 ·rename_i hm
  split at e1
  ·rename_i hl
   cases e1
   refine ⟨M,U,m,t,s,ec,fun v H' F e3 r3 f3=>?_⟩
   obtain ⟨q1,q2⟩:=s.val (c:=.pu t) hl e3 r3 f3 (.inl ⟨rfl,hm⟩)
   exact k _ _ H' q1 q2
  ·cases e1
def SR.Hv {M:GR} {U:VS.Env} {J:L2.St} {H:Hp} {i:Nat} {t:T} (s:SR G M U J H) (h:U[i]?=some (some (.ow t))):SR G M (U.set i (some (.pu t))) J H/\G0 M U H M (U.set i (some (.pu t))) H:=by
 have back:∀ {j c},(U.set i (some (.pu t)))[j]?=some (some c)->∃ c',U[j]?=some (some c')/\i5 c'=i5 c/\∀ u,c=.ow u->c'=.ow u:=fun {j c} hj=>by
  rcases iq hj with ⟨rfl,rfl⟩ | ⟨n,hj⟩
  ·exact ⟨.ow t,h,rfl,fun u hu=>nomatch hu⟩
  ·exact ⟨c,hj,rfl,fun u hu=>hu⟩
 refine ⟨⟨by rw [Z6];exact s.len,fun j c hj=>?_,fun j u hj=>?_,fun j k u c h1 h2 n=>?_⟩,⟨fun a o ha n=>⟨ha,fun ⟨j,u,h1,h2⟩=>?_⟩,fun _ h=>h,fun a ⟨j,u,h1,h2⟩=>?_,fun a ⟨j,u,h1,h2⟩=>?_,Kept.refl H⟩⟩
 ·obtain ⟨c',h1,h2,_⟩:=back hj
  obtain ⟨v,g1,g2⟩:=s.rp j c' h1
  exact ⟨v,g1,by rw [← h2];exact g2⟩
 ·obtain ⟨c',h1,_,h3⟩:=back hj
  rw [h3 u rfl] at h1
  exact s.nd j u h1
 ·obtain ⟨c1,g1,_,g3⟩:=back h1
  obtain ⟨c2,k1,_,_⟩:=back h2
  rw [g3 u rfl] at g1
  exact s.sep j k u c2 g1 k1 n
 ·obtain ⟨c1,g1,_,g3⟩:=back h1
  rw [g3 u rfl] at g1
  exact n ⟨j,u,g1,h2⟩
 ·obtain ⟨c1,g1,_,g3⟩:=back h1
  rw [g3 u rfl] at g1
  exact .inl ⟨j,u,g1,h2⟩
 ·rcases iq h1 with ⟨rfl,_⟩ | ⟨n,h1⟩
  ·exact .inr (.inl ⟨j,t,h,h2⟩)
  ·exact .inl ⟨j,u,h1,h2⟩
def kE (i:Nat) (h:gz G X Nz c):gz G X Nz (ak (tH i) c):=IC.weak h fun D J H hq=>by
 obtain ⟨M,U,o,s,e,k⟩:=hq
 unfold ak at e
 obtain ⟨o1,e1,e2⟩:=Zz.mp e
 unfold tH at e1
 split at e1
 ·rename_i t ht
  cases e1
  obtain ⟨q1,q2⟩:=s.Hv ht
  exact ⟨M,_,o,q1,e2,k.back q2⟩
 ·cases e1
  exact ⟨M,U,o,s,e2,k⟩
 ·cases e1
end
section
variable {G:Gx} {X:Cx} {st:Stmt} {Nz:List Stmt} {c c1 c2:Sx} {pos:Pos} {e:Expr} {es:List Expr} {ce:Ex} {cs:Hh}
structure Chg (G:Gx) (H:Hp) (v:V) (F:Xa) (t':T) (H2:Hp) (F':Xa):Prop where
 kept:Kept H H2
 keep:∀ b o,b ∉ F->H b=some o->H2 b=some o
 GZ:∀ b,H b ≠ none->H2 b ≠ none
 rp:Rp G H2 v t' F'
 nd:F'.Nodup
 sub:∀ a∈F',a∈F\/H a=none
def SR.mut {M:GR} {U:VS.Env} {J:L2.St} {H H2:Hp} {i:Nat} {v:V} {t t':T} {F':Xa} (s:SR G M U J H) (hi:U[i]?=some (some (.ow t))) (hv:J[i]?=some (some v)) (g:Chg G H v (M i) t' H2 F') :
  SR G (lU M i F') (U.set i (some (.ow t'))) J H2/\G0 M U H (lU M i F') (U.set i (some (.ow t'))) H2:=by
 have hl:i < U.length:=(Zg.mp hi).1
 have off:∀ j c',j ≠ i->U[j]?=some (some c')->∀ a∈M j,a ∉ M i:=fun j c' n hj a ha GT=>s.sep i j t c' hi hj (Ya n) a GT ha
 have es:J.set i (some v)=J:=by
  obtain ⟨h,e⟩:=Zg.mp hv
  rw [← e]
  exact XO h
 have new:∀ a∈F',∀ j c',j ≠ i->U[j]?=some (some c')->a ∉ M j:=fun a ha j c' n hj GT=>by
  rcases g.sub a ha with z | z
  ·exact off j c' n hj a GT z
  ·obtain ⟨w,_,q⟩:=s.rp j c' hj
   exact GS.pe (q.GZ a GT) z
 constructor
 ·have:=s.put (c:=.ow t') (F:=F') (H':=H2) (v:=v) hl g.rp (fun j c' n hj w q=>q.keep g.kept fun a ha o ho=>g.keep a o (off j c' n hj a ha) ho) (fun _ _=>g.nd) (fun u hu j c' n hj a ha=>new a ha j c' n hj) fun j u n hj a ha GT=>new a GT j _ n hj ha
  rw [es] at this
  exact this
 ·refine ⟨fun a o h n=>⟨g.keep a o (fun z=>n ⟨i,t,hi,z⟩) h,fun z=>?_⟩,g.GZ,fun a h=>?_,fun a h=>?_,g.kept⟩
  ·rcases iu z with ⟨u,_,ha⟩ | z
   ·rcases g.sub a ha with z | z
    ·exact n ⟨i,t,hi,z⟩
    ·rw [z] at h;cases h
   ·exact n z
  ·rcases iu h with ⟨u,_,ha⟩ | z
   ·rcases g.sub a ha with z | z
    ·exact .inl ⟨i,t,hi,z⟩
    ·exact .inr z
   ·exact .inl z
  ·rcases nV h with ⟨u,hu,ha⟩ | z
   ·cases hu
   ·exact .inl z
def uj (G:Gx) (r:V->List V->Hp->VK->Prop) (f:T->Wc->Option (T×Val)):Prop:=∀ (M:GR) (U:VS.Env) (H H1:Hp) (v:V) (t t':T) (F:Xa) (l:Wc) (vs:List V) (Fs:Xm) (x:Val) (Q:VK),
 Rp G H v t F->F.Nodup->Args G M U H H1 l vs Fs->f t l=some (t',x)->(∀ u H2 F',Chg G H v F t' H2 F'->Q u H2)->r v vs H1 Q
def se {T' id:String} {name x:Str} {r:V->List V->Hp->VK->Prop} {f:T->Wc->Option (T×Val)} {apos oe p1:Pos} (i:Nat) (pa:PlainAttrs T') (slot:Slot T' name id) (MF:typeOf (.builtin id)=pure (.type "method_descriptor")) (hm:Np X id r) (ok:uj G r f)
  (hT:∀ H v t F l z,Rp G H v t F->f t l=some z->Lz G.K T' v H) (ha:HI G X (e :: es) cs) (hK:X.K=G.K:=by rfl)
  (hN:X.N[i]?=some x:=by rfl) (hv:IB X.env.scope x:=by first | exact Or.inl rfl | exact Or.inr (Or.inl rfl) | exact Or.inr (Or.inr rfl)) (hd:K3 x:=by decide)
  (hcd:K4 x:=by decide)
  (G1:attributeBase (.Name x p1) name X.env (eval (.Name x p1) X.env)=eval (.Name x p1) X.env:=by rfl)
  (Hf:((backTo oe (starEach (e :: es) X.env)).all (fun x=>!x.1) && (backToKw oe (keywordEach [] X.env)).all (fun x=>x.1.isSome)
   && decide ((e :: es).length+([]:List Keyword).length+(if ([]:List Keyword).isEmpty then 0 else 1) < 30))=true:=by rfl)
  (GV:(apos.endLine == oe.line)=true:=by rfl) (hs:K1 e es X:=by rfl) (GU:K2 oe es X:=by rfl)
  (IV:swapsWith (.Call (.Attribute (.Name x p1) name apos) (e :: es) [] oe) none pos.line X.env=pure false:=by rfl) :
  PSV G X (.Expr (.Call (.Attribute (.Name x p1) name apos) (e :: es) [] oe) pos) (sX (j6 i [] f cs)) :=
 PS.weak (kN (sy pa slot MF hm (fK hN hv hd hcd) ha G1 Hf GV hs GU) IV) fun D J H hq=>by
  obtain ⟨M,U,o,s,e,k⟩:=hq
  unfold sX j6 at e
  obtain ⟨⟨x',U'⟩,e1,e2⟩:=Zy.mp e
  split at e1
  ·rename_i t ht
   obtain ⟨ks,ek,e3⟩:=Zz.mp e1
   cases (show some ([]:List Ky)=some ks from ek)
   obtain ⟨l,el,e4⟩:=Zz.mp e3
   obtain ⟨⟨t',x2⟩,e5,e6⟩:=Zy.mp e4
   cases e6
   cases e2
   obtain ⟨v,h1,h2⟩:=s.rp _ _ ht
   have e7:f t l=some (t',x'):=e5
   refine ⟨v,h1,by rw [hK];exact hT H v t _ l _ h2 e7,M,U,l,s,el,fun vs H' Fs q1 q2 q3=>?_⟩
   refine ok M U H H' v t t' (M i) l vs Fs x' _ h2 (s.nd i t ht) ⟨q1,q2,q3⟩ e7 fun u H2 F' g=>?_
   obtain ⟨w1,w2⟩:=s.mut ht h1 g
   exact k _ J H2 w1 w2
  ·cases e1
theorem Chg.upd {H H1:Hp} {v:V} {F:Xa} {a:Addr} {o:HO} {t':T} {F':Xa} (e:aD H H1) (ha:a∈F) (hm:GS (H1 a)) (r:Rp G (upd H1 a o) v t' F') (nd:F'.Nodup) (sub:∀ a∈F',a∈F\/H a=none):Chg G H v F t' (upd H1 a o) F' :=
 ⟨(Kept.of e).trans (Kept.upd (.inl hm)),fun b o' hb h=>by rw [aA (fun z=>hb (by rw [z];exact ha))];exact e b o' h,
  fun b h z=>by
   by_cases q:b=a
   ·subst q;rw [av] at z;cases z
   ·rw [aA q] at z;exact h (e.free z),r,nd,sub⟩
def RpL.off {H:Hp} {vs:List V} {ts:Wa} {Fs:Xm} {a:Addr} {o:HO} (r:RpL G H vs ts Fs) (hm:GS (H a)) (h:a ∉ Fs.flatten):RpL G (upd H a o) vs ts Fs :=
 r.keep (Kept.upd (.inl hm)) fun b hb o' ho=>by rw [aA (fun z=>h (by rw [← z];exact hb))];exact ho
def ki {v:Val} {t:T} (h:fit v=some t):v=(.fr,t):=by
 obtain ⟨m,x⟩:=v
 unfold fit at h
 cases m <;> first | (cases h;rfl) | cases h
def oU:uj G uq aE:=by
 intro M U H H1 v t t' F l vs Fs x Q r nd A e k
 unfold aE at e
 split at e
 ·rename_i ts y
  obtain ⟨z,ez,e1⟩:=Zz.mp e
  have ey:=ki ez
  subst ey
  split at e1
  ·rename_i hl
   cases e1
   obtain ⟨a,us,Gs,rfl,rfl,ha,ra⟩:=r.lst_inv
   obtain ⟨w,Fw,rfl,rfl,JH⟩:=(show RpL G H1 vs [z] Fs from A.rp).one
   have fw:Fp M U H .fr Fw:=A.fp.each 0 _ _ rfl rfl
   have LM:H1 a=some (.lst us):=A.same a _ ha
   have m1:GS (H1 a):=by rw [LM];exact True.intro
   have na:a ∉ Gs.flatten:=(Zh.mp nd).1
   have nw:a ∉ Fw:=fun z=>by rw [fw.2 a z] at ha;cases ha
   refine ⟨a,us,w,rfl,rfl,LM,by rw [ra.len.1];exact hl,k _ _ (a :: (Gs++[Fw]).flatten) ?_⟩
   have off:∀ b∈Gs.flatten,b ∉ Fw:=fun b hb hw=>GS.pe (ra.GZ b hb) (fw.2 b hw)
   refine Chg.upd A.same Zu m1 (.lst av (((ra.same A.same).off m1 na).append (.cons (JH.keep (Kept.upd (.inl m1)) fun b hb o ho=>by rw [aA (fun z=>nw (by rw [← z];exact hb))];exact ho) .nil))) ?_ ?_
   ·rw [Z5]
    refine Zh.mpr ⟨fun m=>?_,ZU.mpr ⟨(Zh.mp nd).2,by simpa using fw.1,fun b hb c hc z=>?_⟩⟩
    ·rcases Zc.mp m with m | m
     ·exact na m
     ·exact nw (by simpa using m)
    ·subst z;exact off b hb (by simpa using hc)
   ·intro b hb
    rcases Zj.mp hb with rfl | hb
    ·exact .inl Zu
    ·rw [Z5] at hb
     rcases Zc.mp hb with hb | hb
     ·exact .inl (Zw _ hb)
     ·exact .inr (fw.2 b (by simpa using hb))
  ·cases e1
 ·cases e
def q8 {H:Hp} {v:V} {ts:Wa} {F:Xa} (r:Rp G H v (.lst ts) F):Lz G.K "list" v H:=by
 obtain ⟨a,us,Gs,rfl,rfl,ha,ra⟩:=r.lst_inv
 exact .inl ⟨rfl,_,G2.of ha⟩
def lJ {H:Hp} {v:V} {t:T} {F:Xa} {l:Wc} {z:T×Val} (r:Rp G H v t F) (h:aE t l=some z):Lz G.K "list" v H:=by
 unfold aE at h
 split at h
 ·exact q8 r
 ·cases h
def qH {H:Hp} {v:V} {t:T} {F:Xa} {l:Wc} {z:T×Val} (r:Rp G H v t F) (h:dY t l=some z):Lz G.K "list" v H:=by
 unfold dY at h
 split at h
 ·exact q8 r
 ·cases h
def wB:uj G vh dY:=by
 intro M U H H1 v t t' F l vs Fs x Q r nd A e k
 unfold dY at e
 split at e
 ·rename_i ts y
  obtain ⟨z,ez,e1⟩:=Zz.mp e
  have ey:=ki ez
  subst ey
  split at e1
  ·rename_i _ zs
   split at e1
   ·rename_i hl
    cases e1
    obtain ⟨a,us,Gs,rfl,rfl,ha,ra⟩:=r.lst_inv
    obtain ⟨w,Fw,rfl,rfl,JH⟩:=(show RpL G H1 vs [.lst zs] Fs from A.rp).one
    have fw:Fp M U H .fr Fw:=A.fp.each 0 _ _ rfl rfl
    have LM:H1 a=some (.lst us):=A.same a _ ha
    have m1:GS (H1 a):=by rw [LM];exact True.intro
    have na:a ∉ Gs.flatten:=(Zh.mp nd).1
    have nw:a ∉ Fw:=fun z=>by rw [fw.2 a z] at ha;cases ha
    obtain ⟨b,ws,Ws,rfl,rfl,hb,rb⟩:=JH.lst_inv
    have nb:a ∉ Ws.flatten:=fun m=>nw (Zw _ m)
    refine ⟨a,b,us,ws,rfl,rfl,LM,hb,by rw [ra.len.1,rb.len.1];exact hl,k _ _ (a :: (Gs++Ws).flatten) ?_⟩
    have off:∀ b'∈Gs.flatten,b' ∉ Ws.flatten:=fun b' Hb hw=>GS.pe (ra.GZ b' Hb) (fw.2 b' (Zw _ hw))
    refine Chg.upd A.same Zu m1 (.lst av (((ra.same A.same).off m1 na).append (rb.off m1 nb))) ?_ ?_
    ·rw [Z5]
     refine Zh.mpr ⟨fun m=>?_,ZU.mpr ⟨(Zh.mp nd).2,(Zh.mp fw.1).2,fun b hb c hc z=>?_⟩⟩
     ·rcases Zc.mp m with m | m
      ·exact na m
      ·exact nb m
     ·subst z;exact off b hb hc
    ·intro b' Hb
     rcases Zj.mp Hb with rfl | Hb
     ·exact .inl Zu
     ·rw [Z5] at Hb
      rcases Zc.mp Hb with Hb | Hb
      ·exact .inl (Zw _ Hb)
      ·exact .inr (fw.2 b' (Zw _ Hb))
   ·cases e1
  ·cases e1
 ·cases e
end
structure Kk (G:Gx) (Jq:It) (l:Wa) (C:Xa) (H:Hp):Prop where
 run:∀ H2,Kept H H2->(∀ a∈C,∀ o,H a=some o->H2 a=some o) →
  (∀ (i:Nat) (t:T),l[i]?=some t->Jq.go i H2/\∀ x H3,Jq.OL i H2 x H3->aD H2 H3/\∃ F,Rp G H3 x t F/\∀ a∈F,a∈C\/H2 a=none)/\∀ (i:Nat),l.length<=i->Jq.stop i H2
 GZ:∀ a∈C,H a ≠ none
def T5 (M:GR) (U:VS.Env) (H:Hp) (m:Md) (C:Xa):Prop:=∀ a∈C,H a=none\/cM M U a\/(m=.bo/\bC M U a)
theorem Fp.c {M:GR} {U:VS.Env} {H:Hp} {F:Xa}:∀ {m:Md},Fp M U H m F->T5 M U H m F
 | .fr,f=>fun a ha=>.inl (f.2 a ha)
 | .pu,f=>fun a ha=>(f a ha).imp id .inl
 | .bo,f=>fun a ha=>(f a ha).imp id fun z=>z.imp id fun z=>⟨rfl,z⟩
def tI (G:Gx) (c:JA):TI:=fun J H R=>∃ M U m l,SR G M U J H/\c U=some (m,l)/\∀ Jq H' C,aD H H'->Kk G Jq l C H'->T5 M U H m C->R Jq H'
def PVI (G:Gx) (X:Cx) (tg iter:Expr) (c:JA):Prop:=PI X tg iter (tI G c)
def PI.weak {X:Cx} {tg e:Expr} {t t':TI} (h:PI X tg e t) (w:∀ J H Q,t' J H Q->t J H Q):PI X tg e t':=fun pins s J H Q I q=>h pins s J H Q I (w J H Q q)
section
variable {G:Gx} {X:Cx} {tg e a b:Expr} {es:List Expr} {ca cb:Ex} {cs:Hh} {pos p:Pos}
def og (H:Hp) (lo:Int) (n:Nat):Kk G (OH lo n) (Ka lo n) [] H:=by
 refine ⟨fun H2 _ _=>⟨fun i t h=>?_,fun i h=>(by simpa [Ka] using h:n<=i)⟩,fun a h=>by simp at h⟩
 unfold Ka at h
 rw [ZP] at h
 obtain ⟨k,hk,e⟩:=Zy.mp h
 obtain ⟨Ig,e2⟩:=Zg.mp hk
 rw [ZQ] at Ig
 have ek:i=k:=by simpa using e2
 subst ek
 refine ⟨Ig,fun x H3 ⟨e3,e4⟩=>?_⟩
 subst e3
 subst e4
 rw [← e]
 exact ⟨aD.refl _,[],.int _,fun a h=>by simp at h⟩
def gn (ha:PV G X a ca) (hg:Gl X "range") (hm:X.mg "range" = none) (hs:K1 a [] X:=by rfl) (HJ:starEach [a] X.env=[(false,eval a X.env)]:=by rfl):PVI G X tg (.Call (.Name "range" p) [a] [] pos) (cp ca) :=
 PI.weak (jk hg hm (bZ ha fE hs) HJ) fun J H R hq=>by
  obtain ⟨M,U,m,l,s,e,k⟩:=hq
  unfold cp at e
  obtain ⟨⟨mx,x⟩,ea,e1⟩:=Zz.mp e
  obtain ⟨j,ej,e2⟩:=Zz.mp e1
  split at e2
  ·rename_i hj
   cases e2
   refine ⟨M,U,mx,x,s,ea,fun v H' F e3 r3 f3=>?_⟩
   cases x with
   | int j' =>
    cases ej
    refine ⟨j,by rw [r3.int_inv],?_,?_,k _ H' [] e3 (og H' 0 j.toNat) fun a h=>by simp at h⟩
    ·have:=hj.1;unfold JY at this;lia
    ·have:=hj.2;unfold JY at this;lia
   | _=>cases ej
  ·cases e2
def ue (ha:PV G X a ca) (hb:PV G X b cb) (hg:Gl X "range") (hm:X.mg "range" = none) (hs:starEach [a,b] X.env=(false,eval a X.env) :: starEach [b] X.env:=by rfl) (HJ:starEach [a,b] X.env=[(false,eval a X.env),(false,eval b X.env)]:=by rfl) (O7:K1 b [] X:=by rfl) (IZ:starEach [b] X.env=[(false,eval b X.env)]:=by rfl) :
  PVI G X tg (.Call (.Name "range" p) [a,b] [] pos) (kM ca cb) :=
 PI.weak (wF hg hm (bZ ha (bZ hb fE O7) hs) HJ IZ) fun J H R hq=>by
  obtain ⟨M,U,m,l,s,e,k⟩:=hq
  unfold kM at e
  obtain ⟨⟨mx,x⟩,ea,e1⟩:=Zz.mp e
  obtain ⟨⟨my,y⟩,eb,e1⟩:=Zz.mp e1
  obtain ⟨i,ei,e2⟩:=Zz.mp e1
  obtain ⟨j,ej,e2⟩:=Zz.mp e2
  split at e2
  ·rename_i hj
   cases e2
   refine ⟨M,U,mx,x,s,ea,fun v H' F e3 r3 f3=>⟨M,U,my,y,s.same e3,eb,fun w H2 F2 e4 r4 f4=>?_⟩⟩
   cases x with
   | int i' =>
    cases ei
    cases y with
    | int j' =>
     cases ej
     refine ⟨i,j,by rw [r3.int_inv,r4.int_inv],?_,k _ H2 [] (e3.trans e4) (og H2 i (j - i).toNat) fun a h=>by simp at h⟩
     unfold JY at hj
     omega
    | _=>cases ej
   | _=>cases ei
  ·cases e2
def cY {Fs:Xm} {i:Nat} {F:Xa} (h:Fs[i]?=some F) {a:Addr} (ha:a∈F):a∈Fs.flatten:=(cq h).subset ha
def zU {H:Hp} {a:Addr} {vs:List V} {ts:Wa} {Fs:Xm} (K:Xj) (ha:H a=some (.lst vs)) (r:RpL G H vs ts Fs):Kk G (R4 K a) ts (a :: Fs.flatten) H:=by
 refine ⟨fun H2 k c=>?_,fun b hb=>?_⟩
 ·have Kj:H2 a=some (.lst vs):=c a Zu _ ha
  have r2:RpL G H2 vs ts Fs:=r.keep k fun b hb o ho=>c b (Zw _ hb) o ho
  refine ⟨fun i t h=>?_,fun i h=>⟨vs,G2.of Kj,by rw [r.len.1];exact h⟩⟩
  obtain ⟨v,F,h1,h2,h3⟩:=r2.get i h
  refine ⟨⟨vs,v,G2.of Kj,h1⟩,fun x H3 ⟨e1,e2⟩=>?_⟩
  subst e1
  have ex:=e2 vs (G2.of Kj)
  rw [h1] at ex
  cases ex
  exact ⟨aD.refl _,F,h3,fun b hb=>.inl (Zw _ (cY h2 hb))⟩
 ·rcases Zj.mp hb with rfl | hb
  ·rw [ha];exact fun z=>nomatch z
  ·exact GS.pe (r.GZ b hb)
def DM {H:Hp} {a:Addr} {vs:List V} {ts:Wa} {Fs:Xm} (K:Xj) (ha:H a=some (.tup vs)) (r:RpL G H vs ts Fs):Kk G (R3 K a) ts Fs.flatten H:=by
 refine ⟨fun H2 k c=>?_,fun b hb=>GS.pe (r.GZ b hb)⟩
 have Kj:H2 a=some (.tup vs):=k.tup a _ ha
 have r2:RpL G H2 vs ts Fs:=r.keep k fun b hb o ho=>c b hb o ho
 refine ⟨fun i t h=>?_,fun i h=>⟨vs,HL.of Kj,by rw [r.len.1];exact h⟩⟩
 obtain ⟨v,F,h1,h2,h3⟩:=r2.get i h
 refine ⟨⟨vs,v,HL.of Kj,h1⟩,fun x H3 ⟨e1,e2⟩=>?_⟩
 subst e1
 have ex:=e2 vs (HL.of Kj)
 rw [h1] at ex
 cases ex
 exact ⟨aD.refl _,F,h3,fun b hb=>.inl (cY h2 hb)⟩
def tG (G:Gx) (g:Tg):TG:=fun v J H Q=>∃ M U t F U',SR G M U J H/\Rp G H v t F/\(∀ a∈F,¬ bC M U a)/\g t U=some U' ∧
 ∀ M' J',SR G M' U' J' H->(∀ a,bC M' U' a->bC M U a)->(∀ a,cM M' U' a->cM M U a\/a∈F)->Q J' H
def Uo (G:Gx) (gs:List Tg):LS:=fun vs J H Q=>∃ M U ts Fs U',SR G M U J H/\RpL G H vs ts Fs/\(∀ a∈Fs.flatten,¬ bC M U a)/\sN gs ts U=some U' ∧
 ∀ M' J',SR G M' U' J' H->(∀ a,bC M' U' a->bC M U a)->(∀ a,cM M' U' a->cM M U a\/a∈Fs.flatten)->Q J' H
def PVG (G:Gx) (X:Cx) (e:Expr) (g:Tg):Prop:=PG X e (tG G g)
def AE (G:Gx) (X:Cx) (e:List Expr) (g:List Tg):Prop:=Lr X e (Uo G g)
def PG.weak {X:Cx} {e:Expr} {t t':TG} (h:PG X e t) (w:∀ v J H Q,t' v J H Q->t v J H Q):PG X e t':=fun pins s J H v u Q I r q=>h pins s J H v u Q I r (w v J H Q q)
def Lr.weak {X:Cx} {e:List Expr} {t t':LS} (h:Lr X e t) (w:∀ v J H Q,t' v J H Q->t v J H Q):Lr X e t':=fun pins s J H v u Q I r q=>h pins s J H v u Q I r (w v J H Q q)
def aW (i:Nat) {x:Str} (hN:X.N.Nodup) (hi:X.N[i]?=some x:=by rfl) (hx:Loc X.env.scope x:=by first | exact Or.inl rfl | exact Or.inr rfl)
  (hf:X.fn x=true\/X.env.scope.names.lookup x=some .local:=by first | exact .inl rfl | exact .inr rfl):PVG G X (.Name x pos) (bc i):=PG.weak (pQ hN hi hx hf) fun v J H Q hq=>by
 obtain ⟨M,U,t,F,U',s,r,no,e,k⟩:=hq
 unfold bc at e
 split at e
 ·rename_i hl
  cases e
  refine k (lU M i F) (J.set i (some v)) (s.put (c:=.pu t) hl r (fun j c' n hj w q=>q) (fun u hu=>nomatch hu) (fun u hu=>nomatch hu) fun j u n hj a ha GT=>no a GT ⟨j,u,hj,ha⟩) (fun a h=>?_) fun a h=>?_
  ·rcases iu h with ⟨u,hu,_⟩ | z
   ·cases hu
   ·exact z
  ·rcases nV h with ⟨u,hu,ha⟩ | z
   ·exact .inr ha
   ·exact .inl z
 ·cases e
def sD:AE G X [] []:=Lr.weak AW fun v J H Q hq=>by
 obtain ⟨M,U,ts,Fs,U',s,r,no,e,k⟩:=hq
 cases r with
 | nil =>
  cases (show some U=some U' from e)
  exact ⟨rfl,k M J s (fun _ h=>h) fun _ h=>.inl h⟩
 | cons r q=>cases (show (none:Option VS.Env)=some U' from e)
def jm {g:Tg} {gs:List Tg} (h1:PVG G X e g) (h2:AE G X es gs) (hs:(assignEach (e :: es) X.env).map (·.2)=assign e X.env :: (assignEach es X.env).map (·.2):=by rfl):AE G X (e :: es) (g :: gs) :=
 Lr.weak (xR h1 h2 hs) fun v J H Q hq=>by
  obtain ⟨M,U,ts,Fs,U',s,r,no,e,k⟩:=hq
  cases r with
  | nil=>cases (show (none:Option VS.Env)=some U' from e)
  | cons r q =>
   rename_i v' t' F' Iw HF Ij
   obtain ⟨U1,e1,e2⟩:=Zz.mp e
   refine ⟨_,_,rfl,M,U,_,_,U1,s,r,fun a ha=>no a (by rw [ZX];exact Yx _ ha),e1,fun M1 J1 s1 o1 p1=>?_⟩
   refine ⟨M1,U1,_,_,U',s1,q,fun a ha z=>no a (by rw [ZX];exact ZL _ ha) (o1 a z),e2,fun M2 J2 s2 o2 p2=>k M2 J2 s2 (fun a h=>o1 a (o2 a h)) fun a h=>?_⟩
   rcases p2 a h with h | h
   ·rcases p1 a h with h | h
    ·exact .inl h
    ·exact .inr (by rw [ZX];exact Yx _ h)
   ·exact .inr (by rw [ZX];exact ZL _ h)
theorem rL:∀ {gs:List Tg} {ts:Wa} {U U':VS.Env},sN gs ts U=some U'->ts.length=gs.length
 | [],[],_,_,_=>rfl
 | [],_ :: _,_,_,h=>by simp [sN] at h
 | _ :: _,[],_,_,h=>by simp [sN] at h
 | g :: gs,t :: ts,U,U',h=>by
  obtain ⟨U1,_,e2⟩:=Zz.mp (show (g t U).bind (fun U'=>sN gs ts U')=some U' from h)
  simp [rL e2]
def uS {gs:List Tg} {k:Nat} (hc:X.calm=true) (h:AE G X es gs) (hn:(assignEach es X.env).length=gs.length:=by rfl) (Io:(assignEach es X.env).findIdx? (·.1)=none:=by rfl) (hK:X.K=G.K:=by rfl):PVG G X (.Tuple es k pos) (qJ gs) :=
 PG.weak (D2 (n:=gs.length) hc h hn Io) fun v J H Q hq=>by
  obtain ⟨M,U,t,F,U',s,r,no,e,q⟩:=hq
  unfold qJ at e
  split at e
  ·rename_i l
   obtain ⟨a',vs,Fs,rfl,rfl,GT,ra⟩:=r.HU
   exact ⟨a',vs,rfl,HL.of GT,by rw [ra.len.1];exact rL e,M,U,l,Fs,U',s,ra,no,e,q⟩
  ·cases e
def oE {tgt:Tg} {body:Sx} {l:Wa} {U:VS.Env} {i:Nat} {t:T} (h:l[i]?=some t):l.drop i=t :: l.drop (i+1):=by
 obtain ⟨hi,e⟩:=Zg.mp h
 rw [← e]
 exact Xf hi
def yb {ci:JA} {g:Tg} {cb:Sx} {D:Ends} {J:L2.St} {H:Hp} (hq:tS G (gA g ci cb) D J H):E5 (tI G ci) (tG G g) (tS G cb) D J H:=by
 obtain ⟨M,U,o,s,e,k⟩:=hq
 unfold gA at e
 obtain ⟨⟨m,l⟩,el,e1⟩:=Zz.mp e
 dsimp only at e1
 split at e1
 ·rename_i hm
  have Ip:m ≠ .bo:=fun z=>by rw [z] at hm;cases hm
  refine ⟨M,U,m,l,s,el,fun Jq H' C e2 ok fc=>?_⟩
  have WK:∀ a∈C,¬ bC M U a:=fun a ha z=>by
   rcases fc a ha with q | q | q
   ·exact GS.pe (s.Hj z) q
   ·exact s.KO z q
   ·exact Ip q.1
  refine ⟨fun i n J2 H2=>n=l.length - i/\∃ M2 U2,SR G M2 U2 J2 H2/\G0 M U H M2 U2 H2/\Kept H' H2/\(∀ a∈C,∀ o,H' a=some o->H2 a=some o/\¬ bC M2 U2 a)/\forL g cb (l.drop i) U2=some o,
   ⟨l.length - 0,rfl,M,U,s.same e2,G0.same e2,Kept.refl _,fun a ha o' ho=>⟨ho,WK a ha⟩,by rw [XG];exact e1⟩,?_⟩
  rintro i n J2 H2 ⟨rfl,M2,U2,s2,f2,kp,con,e3⟩
  obtain ⟨go,stop⟩:=ok.run H2 kp fun a ha o' ho=>(con a ha o' ho).1
  cases hit:l[i]? with
  | none =>
   have hl:l.length<=i:=Yo.mp hit
   left
   rw [YL hl] at e3
   cases (show some (Out.nx U2)=some o from e3)
   exact ⟨stop i hl,k M2 J2 H2 s2 f2⟩
  | some t =>
   have hl:i < l.length:=(Zg.mp hit).1
   right
   obtain ⟨g1,y1⟩:=go i t hit
   rw [oE (tgt:=g) (body:=cb) (U:=U2) hit] at e3
   obtain ⟨U3,e4,e5⟩:=Zz.mp (show (g t U2).bind (fun U1=>(cb U1).bind fun o=>match o with
    | .nx U2=>forL g cb (l.drop (i+1)) U2
    | .ct U2=>forL g cb (l.drop (i+1)) U2
    | .bk U2=>some (.nx U2)
    | .rt v U2=>some (.rt v U2))=some o from e3)
   obtain ⟨o',e6,e7⟩:=Zz.mp e5
   refine ⟨g1,fun J4 H4=>∃ M4 U4,SR G M4 U4 J4 H4/\G0 M U H M4 U4 H4/\Kept H' H4/\(∀ a∈C,∀ o,H' a=some o->H4 a=some o/\¬ bC M4 U4 a)/\forL g cb (l.drop (i+1)) U4=some o,fun J4 H4 ⟨M4,U4,q⟩=>⟨l.length - (i+1),by omega,rfl,M4,U4,q⟩,fun x H3 yl=>?_⟩
   obtain ⟨e8,F,rF,hF⟩:=y1 x H3 yl
   have s3:=s2.same e8
   have UG:∀ a∈F,¬ bC M2 U2 a:=fun a ha z=>by
    rcases hF a ha with q | q
    ·have Ie:=ok.GZ a q
     cases ho:H' a with
     | none=>exact Ie ho
     | some UD=>exact (con a q UD ho).2 z
    ·exact GS.pe (s2.Hj z) q
   refine ⟨M2,U2,t,F,U3,s3,rF,UG,e4,fun M3 J3 s4 o3 p3=>?_⟩
   have f3:G0 M U H M3 U3 H3:=⟨fun a o' h n=>let ⟨h1,n1⟩:=f2.keep a o' h n;⟨e8 a o' h1,fun z=>n1 (o3 a z)⟩,fun a h z=>f2.GZ a h (e8.free z),fun a h=>f2.ow a (o3 a h),fun a h=>by
    rcases p3 a h with h | h
    ·exact f2.pu a h
    ·rcases hF a h with q | q
     ·rcases fc a q with q | q | q
      ·exact .inr (.inr q)
      ·exact .inl q
      ·exact .inr (.inl q.2)
     ·exact .inr (.inr (f2.none q)),f2.kept.trans (Kept.of e8)⟩
   have next:∀ {M4 U4 H4},G0 M3 U3 H3 M4 U4 H4->Kept H' H4/\∀ a∈C,∀ o,H' a=some o->H4 a=some o/\¬ bC M4 U4 a:=fun fb =>
    ⟨(kp.trans (Kept.of e8)).trans fb.kept,fun a ha o' ho=>by
     obtain ⟨h1,n1⟩:=con a ha o' ho
     exact fb.keep a o' (e8 a o' h1) fun z=>n1 (o3 a z)⟩
   refine ⟨M3,U3,o',s4,e6,?_⟩
   cases o' with
   | nx U4=>exact fun M4 J4 H4 s5 fb=>⟨M4,U4,s5,f3.trans fb,(next fb).1,(next fb).2,e7⟩
   | ct U4=>exact fun M4 J4 H4 s5 fb=>⟨M4,U4,s5,f3.trans fb,(next fb).1,(next fb).2,e7⟩
   | bk U4 =>
    cases (show some (Out.nx U4)=some o from e7)
    exact fun M4 J4 H4 s5 fb=>k M4 J4 H4 s5 (f3.trans fb)
   | rt v U4 =>
    cases (show some (Out.rt v U4)=some o from e7)
    exact fun u H4 F4 M4 J4 s5 fb r5 q5=>k u H4 F4 M4 J4 s5 (f3.trans fb) r5 (q5.back f3)
 ·cases e1
def d5 {iter:Expr} {body:List Stmt} {ci:JA} {g:Tg} {cb:Sx} (hp:PassesOwn (model X.prog X.w) X.A X.env X.xe) (hc:X.calm=true) (hi:PVI G X tg iter ci) (hg:PVG G X tg g) (hb:gz G X body cb)
  (hs:∀ x,foldedSetIterable iter X.env x=pure x:=by intro _;rfl):PSV G X (.For tg iter body [] pos) (gA g ci cb):=PS.weak (xu hp hc hi hg hb hs) fun D J H hq=>yb hq
end
def FS (H:Hp) (Fs:Xm):Md->Xa->Prop
 | .fr,F=>F.Nodup/\∀ a∈F,H a=none
 | _,F=>∀ a∈F,H a=none\/a∈Fs.flatten
def JB (G:Gx) (g:Fn):Sp:=fun vs H Q _=>∃ ts Fs m r,RpL G H vs ts Fs/\g ts=some (m,r)/\∀ v H' F,aD H H'->Rp G H' v r F->FS H Fs m F->Q v H'
section
variable {G:Gx} {X:Cx} {k:Nat} {f:Addr} {fd:FuncData} {ps:List Str} {x:Str} {p pos:Pos} {e:Expr} {es:List Expr} {cs:Hh} {g:Fn}
def call_of {J:L2.St} {H:Hp} {Q:VK} {E:XK} (h:tE G (bW g cs) J H Q):B7 (JB G g) [] E (M8 G cs) J H Q:=by
 obtain ⟨M,U,m,t,s,e,kk⟩:=h
 unfold bW at e
 obtain ⟨l,el,e1⟩:=Zz.mp e
 obtain ⟨⟨n,r⟩,er,e2⟩:=Zz.mp e1
 refine ⟨M,U,l,s,el,fun vs H1 Fs q1 q2 q3=>?_⟩
 have A:Args G M U H H1 l vs Fs:=⟨q1,q2,q3⟩
 have jn:=q3.join A.len
 show JB G g (vs++[]) H1 Q E
 rw [ZS]
 refine ⟨trees l,Fs,n,r,q2,er,fun v H' F q4 q5 q6=>?_⟩
 have wide:(∀ a∈F,H1 a=none\/a∈Fs.flatten)->Fp M U H ((Md.pu).join (cu l)) F:=fun h=>by
  cases ej:cu l with
  | fr =>
   rw [ej] at jn
   exact fun a ha=>.inl ((h a ha).elim q1.free (jn.2 a))
  | pu =>
   rw [ej] at jn
   exact fun a ha=>(h a ha).elim (fun z=>.inl (q1.free z)) (jn a)
  | bo =>
   rw [ej] at jn
   exact fun a ha=>(h a ha).elim (fun z=>.inl (q1.free z)) (jn a)
 cases n with
 | fr =>
  cases e2
  exact kk v H' F (q1.trans q4) q5 ⟨q6.1,fun a ha=>q1.free (q6.2 a ha)⟩
 | pu =>
  cases e2
  exact kk v H' F (q1.trans q4) q5 (wide q6)
 | bo =>
  cases e2
  exact kk v H' F (q1.trans q4) q5 (wide q6)
def Bd (F:FnOk X.prog X.w X.K X.mg X.base Hq k f fd ps (JB G g)) (hr:GH k X.A) (hg:Gl X x) (hm:X.mg x=some (.ref f)) (hk:PySem.W.keepIn X.K (.ref f)=true) (hb:Binds X.K fd ps [])
  (ha:HI G X (e :: es) cs) (Hz:K3 x:=by decide) (he:K1 e es X:=by rfl) (hpl:K2 pos es X:=by rfl) :
  PV G X (.Call (.Name x p) (e :: es) [] pos) (bW g cs) :=
 PE.weak (pP F hr hg hm hk hb .nil jA ha Hz he hpl) fun J H Q h=>call_of h
def xn {H:Hp} {vs:List V} {ts:Wa} {Fs:Xm} (r:RpL G H vs ts Fs) (n nv:Nat) (hv:nv=vs.length):SR G (fun i=>Fs.getD i []) (ts.map (fun t=>some (.pu t))++List.replicate (n - ts.length) none) (vs.map some++List.replicate (n - nv) none) H:=by
 subst hv
 have hl:=r.len
 have back:∀ {i:Nat} {c:Cell},(ts.map (fun t=>some (Cell.pu t))++List.replicate (n - ts.length) none)[i]?=some (some c)->∃ t,ts[i]?=some t/\c=.pu t:=fun {i c} h=>by
  by_cases hi:i < ts.length
  ·rw [ZA (by rw [Zt];exact hi),ZP] at h
   obtain ⟨t,h1,h2⟩:=Zy.mp h
   exact ⟨t,h1,(Zn h2).symm⟩
  ·rw [Yy (by rw [Zt];exact ZE hi),Yc] at h
   split at h <;> cases h
 refine ⟨by simp;lia,fun i c h=>?_,fun i t h=>?_,fun i j t c h=>?_⟩
 ·obtain ⟨t,h1,rfl⟩:=back h
  obtain ⟨v,F,g1,g2,g3⟩:=r.get i h1
  refine ⟨v,?_,?_⟩
  ·have:i < vs.length:=(Zg.mp g1).1
   rw [ZA (by rw [Zt];exact this),ZP,g1]
   rfl
  ·show Rp G H v t (Fs.getD i [])
   rw [Zs,g2]
   exact g3
 ·obtain ⟨t',_,h2⟩:=back h
  cases h2
 ·obtain ⟨t',_,h2⟩:=back h
  cases h2
def i4 {ts:Wa} {n:Nat} {M:GR} {a:Addr}:¬ bC M (ts.map (fun t=>some (Cell.pu t))++List.replicate n none) a:=by
 rintro ⟨i,t,h,_⟩
 by_cases hi:i < ts.length
 ·rw [ZA (by rw [Zt];exact hi),ZP] at h
  obtain ⟨t',_,h2⟩:=Zy.mp h
  cases h2
 ·rw [Yy (by rw [Zt];exact ZE hi),Yc] at h
  split at h <;> cases h
def si {H:Hp} {vs:List V} {ts:Wa} {Fs:Xm} {n:Nat} {a:Addr} (h:cM (fun i=>Fs.getD i []) (ts.map (fun t=>some (Cell.pu t))++List.replicate n none) a):a∈Fs.flatten:=by
 obtain ⟨i,t,_,h2⟩:=h
 simp only [Zs] at h2
 cases e:Fs[i]? with
 | none=>rw [e] at h2;simp at h2
 | some F=>rw [e] at h2;exact cY e h2
end
section
variable {G:Gx} {P:Program} {w:World} {K:Xj} {mg:Xe} {base:Heap}
def Rx {x qual:Str} {st:Stmt} {f:Addr} {fd:FuncData} {N ps:List Str} {k np nn:Nat} {c:Sx} (F:GX K x qual st f fd) (S:jj N ps (ag st)) (hp:ps.length=np) (hn:N.length=nn)
  (hb:∀ (GP:Value) (A:Around) (outer:List PySem.Env) (s:Shared) (H:Hp) (E:XK),GH k (A.deeper (envOfC qual (ag st) s.heap.objs.size f GP))->gz G (iK Hq P w K mg base N qual (ag st) f GP A outer s H E).Jr (aR st) c) :
  FnOk P w K mg base Hq (k+1) f fd ps (JB G (fn np nn c)):=by
 refine F.ok S (fun vs H Q E h=>?_) fun GP A outer s H vs Q E hr h=>⟨_,hb GP A outer s H E hr,?_⟩
 ·obtain ⟨ts,Fs,m,r,h1,h2,_⟩:=h
  unfold fn at h2
  split at h2
  ·rename_i hl
   rw [h1.len.1,hl,hp]
  ·cases h2
 ·obtain ⟨ts,Fs,m,r,h1,h2,q⟩:=h
  unfold fn at h2
  split at h2
  ·rename_i hl
   obtain ⟨o,e1,e2⟩:=Zz.mp h2
   have s0:=xn h1 nn vs.length rfl
   rw [hl] at s0
   have e3:L2.start N vs=vs.map some++List.replicate (nn - vs.length) none:=by
    unfold L2.start
    rw [hn]
   rw [e3]
   refine ⟨_,_,o,s0,e1,?_⟩
   cases o with
   | nx U' =>
    cases e2
    intro M' J' H' s' fr
    exact q .GJ H' [] (fun a o h=>(fr.keep a o h i4).1) .GJ ⟨Z9,fun a h=>by simp at h⟩
   | rt v U' =>
    cases e2
    intro u H' F' M' J' s' fr r' rf
    refine q u H' F' (fun a o h=>(fr.keep a o h i4).1) r' ?_
    cases m with
    | fr=>exact ⟨rf.1,fun a ha=>(rf.2 a ha).elim id fun z=>absurd z i4⟩
    | pu=>exact fun a ha=>(rf a ha).elim .inl fun z=>z.elim (fun z=>.inr (si (H:=H) (vs:=vs) z)) fun z=>absurd z i4
    | bo=>exact fun a ha=>(rf a ha).elim .inl fun z=>z.elim (fun z=>.inr (si (H:=H) (vs:=vs) z)) fun z=>absurd z i4
   | bk U'=>cases e2
   | ct U'=>cases e2
  ·cases h2
end
end VS
end
section
namespace L2
open PySem PySem.Spec PyProof.Rows
theorem kT (env:Env):∀ (l:List (Str×NameKind)) (acc:List (Str×Addr)),(∀ y∈l,y.2=.free->∃ c,env.cells.lookup y.1=some c)->(∀ x c,acc.lookup x=some c->env.cells.lookup x=some c) →
  ∃ cl,(forIn l acc (fun x r=>if (x.snd == NameKind.free)=true then (do let a ← cellOf env x.fst;pure (ForInStep.yield ((x.fst,a) :: r))) else pure (ForInStep.yield r)):Sem (List (Str×Addr)))=pure cl ∧
   (∀ x c,cl.lookup x=some c->env.cells.lookup x=some c)/\(∀ x c,acc.lookup x=some c->∃ c',cl.lookup x=some c')/\∀ y∈l,y.2=.free->∃ c,cl.lookup y.1=some c
 | [],acc,_,ha=>⟨acc,rfl,ha,fun x c h=>⟨c,h⟩,fun y hy=>nomatch hy⟩
 | (n,k) :: l,acc,hf,ha=>by
  by_cases hk:k=.free
  ·subst hk
   obtain ⟨c,hc⟩:=hf (n,.free) Zu rfl
   have ec:cellOf env n=pure c:=by unfold cellOf;dsimp only at hc;rw [hc]
   have GT:∀ x c',((n,c) :: acc).lookup x=some c'->env.cells.lookup x=some c':=fun x c' h=>by
    rw [Yu] at h
    split at h
    ·rename_i hx
     have:x=n:=by simpa using hx
     rw [this,← h];exact hc
    ·exact ha x c' h
   obtain ⟨cl,h1,h2,h3,h4⟩:=kT env l ((n,c) :: acc) (fun y hy=>hf y (Zw _ hy)) GT
   refine ⟨cl,?_,h2,fun x c' h=>?_,fun y hy O6=>?_⟩
   ·rw [List.forIn_cons]
    dsimp only
    rw [Zq (show (NameKind.free == NameKind.free)=true from rfl),ec,pure_bind,pure_bind]
    exact h1
   ·by_cases hx:x=n
    ·exact h3 x c (by rw [Yu,hx];simp)
    ·refine h3 x c' ?_
     rw [Yu]
     have:(x == n)=false:=by simpa using hx
     rw [this];exact h
   ·rcases Zj.mp hy with rfl | hy
    ·exact h3 n c (by rw [Yu];simp)
    ·exact h4 y hy O6
  ·obtain ⟨cl,h1,h2,h3,h4⟩:=kT env l acc (fun y hy=>hf y (Zw _ hy)) ha
   refine ⟨cl,?_,h2,h3,fun y hy O6=>?_⟩
   ·rw [List.forIn_cons]
    dsimp only
    rw [Zo (by simpa using hk),pure_bind]
    exact h1
   ·rcases Zj.mp hy with rfl | hy
    ·exact absurd O6 hk
    ·exact h4 y hy O6
def Bm {sc:Scope} {env:Env} (hf:∀ y∈sc.names,y.2=.free->∃ c,env.cells.lookup y.1=some c) :
  ∃ cl,closureFor sc env=pure cl/\(∀ x c,cl.lookup x=some c->env.cells.lookup x=some c)/\∀ y∈sc.names,y.2=.free->∃ c,cl.lookup y.1=some c:=by
 obtain ⟨cl,h1,h2,_,h4⟩:=kT env sc.names [] hf (fun x c h=>nomatch h)
 refine ⟨cl,?_,h2,h4⟩
 simp only [closureFor]
 rw [h1]
 rfl
def gH {l:List (Str×NameKind)} {x:Str} {k:NameKind} (h:l.lookup x=some k):(x,k)∈l:=by
 induction l with
 | nil=>cases h
 | cons p l ih =>
  rw [Yu] at h
  split at h
  ·rename_i hx
   have e:x=p.1:=by simpa using hx
   cases h
   rw [e];exact Zu
  ·exact Zw _ (ih h)
theorem dg {env:Env} {x:Str} {k:NameKind}:∀ {l:List (Str×NameKind)},(l.map fun (n,k)=>if (k == NameKind.free && env.scope.kind == .function && env.kindOf n == some .cell) then (n,NameKind.cell) else (n,k)).lookup x=some k →
  ∃ k0,l.lookup x=some k0/\(k=k0\/(k0=.free/\k=.cell))
 | [],h=>nomatch h
 | (n,k1) :: l,h=>by
  rw [Zl,Yu] at h
  by_cases hc:(k1 == NameKind.free && env.scope.kind == .function && env.kindOf n == some .cell)=true
  ·simp only [hc,if_true] at h
   rw [Yu]
   cases hx:x == n with
   | true =>
    rw [hx] at h
    have:k1=.free:=by
     have:=(Bool.and_eq_true_iff.mp (Bool.and_eq_true_iff.mp hc).1).1
     simpa using this
    exact ⟨k1,rfl,.inr ⟨this,(Zn h).symm⟩⟩
   | false=>rw [hx] at h;exact dg h
  ·simp only [hc,if_false,X7] at h
   rw [Yu]
   cases hx:x == n with
   | true=>rw [hx] at h;exact ⟨k1,rfl,.inl (Zn h).symm⟩
   | false=>rw [hx] at h;exact dg h
def bD (X:Cx) (N:List Str) (sc:Scope) (cl:List (Str×Addr)) (C:Addr) (s:Shared) (H:Hp) (fp:Xa):Cx :=
 { X with N:=N,s₀:=s,H₀:=H,env:=compEnvC sc cl C X.env,outer:=X.stack,ex:=fp,fn:=fun _=>false,pn:=[],xe:=fun _ _=>False }
def l5 (env:Env) (sc:Scope):Bool:=sc.kind == .function && sc.names.all fun y=>match y.2 with
 | .cell=>false
 | .local=>sc.names.lookup y.1 == some .local
 | .free=>env.kindOf y.1 == some .cell || env.kindOf y.1 == some .free
 | _=>true
def jR (sc:Scope):List Str->List Str->Bool
 | [],[]=>true
 | a :: as,b :: bs=>((a == b && sc.names.lookup a == some .free) || sc.names.lookup a == none || sc.names.lookup a == some .globalImplicit) && jR sc as bs
 | _,_=>false
theorem uW {sc:Scope}:∀ {as bs:List Str},jR sc as bs=true->as.length=bs.length/\∀ (i:Nat) (x:Str),as[i]?=some x->(bs[i]?=some x/\sc.names.lookup x=some .free)\/sc.names.lookup x=none\/sc.names.lookup x=some .globalImplicit
 | [],[],_=>⟨rfl,fun i x h=>by simp at h⟩
 | a :: as,b :: bs,h=>by
  simp only [jR,Ze] at h
  obtain ⟨h1,h2⟩:=h
  obtain ⟨l,r⟩:=uW h2
  refine ⟨by simp [l],fun i x e=>?_⟩
  cases i with
  | zero =>
   have:a=x:=by simpa using e
   subst this
   simp only [Bool.or_eq_true,Ze] at h1
   rcases h1 with (⟨z1,z2⟩ | z) | z
   ·exact .inl ⟨by simpa using (by simpa using z1:a=b).symm,by simpa using z2⟩
   ·exact .inr (.inl (by simpa using z))
   ·exact .inr (.inr (by simpa using z))
  | succ i=>simpa using r i x (by simpa using e)
 | [],_ :: _,h=>by simp [jR] at h
 | _ :: _,[],h=>by simp [jR] at h
section
variable {X:Cx} {pins:Y1} {J:St} {H:Hp} {s:Shared}
def Inv.block {N:List Str} {sc:Scope} {cl:List (Str×Addr)} {C D:Addr} {fp:Xa} {k:Nat} {h1:Heap} {t:Nat} {m:Xe} (I:Inv X pins J H s) (Iz:l5 X.env sc=true) (I0:jR sc (N.drop k) X.N=true) (Ja:k<=N.length)
  (Lo:∀ x c,cl.lookup x=some c->X.env.cells.lookup x=some c) (Pd:∀ y∈sc.names,y.2=.free->∃ c,cl.lookup y.1=some c) (Pa:∀ b∈fp,ot X pins H b) (hD:s.heap.objs.size<=D) (hC:s.heap.objs.size<=C) (Pf:D ≠ C) (Pb:C ∉ fp)
  (keep:∀ b u,s.heap.get? b=some u->h1.get? b=some u) (Ma:h1.Ns C m) (Ro:h1.get? D=some { cls:=.type "list",data:=.seq ([]:X8).toArray 0 }) :
  Inv (bD X N sc cl C s H fp) [] (List.replicate k none++J) (upd H D (.lst [])) { s with heap:=h1,toks:=t }:=by
 unfold l5 at Iz
 rw [Ze,Yi] at Iz
 obtain ⟨hk,II⟩:=Iz
 have IJ:sc.kind=.function:=by simpa using hk
 obtain ⟨hlen,VE⟩:=uW I0
 have IK:∀ y∈sc.names,y.2 ≠ .cell:=fun y hy e=>by have:=II y hy;rw [e] at this;cases this
 have frees:∀ x k',(relabel sc X.env).names.lookup x=some k'->k'=.cell\/k'=.free->sc.names.lookup x=some .free:=fun x k' h O9=>by
  obtain ⟨k0,h0,Vq⟩:=dg h
  rcases Vq with e | ⟨e,_⟩
  ·subst e
   rcases O9 with e | e
   ·subst e;exact absurd rfl (IK _ (gH h0))
   ·subst e;exact h0
  ·subst e;exact h0
 have Kx:H D=none:=I.hok.fresh hD
 have VJ:H C=none:=I.hok.fresh hC
 refine ⟨⟨I.mod,IJ,I.ok.glob,I.ok.blt,hC,fun x y c e1 e2=>I.ok.inj x y c (Lo x c e1) (Lo y c e2),fun x hx=>?_,fun x c e=>(nomatch e),I.ok.hd,I.ok.frames,.inl rfl,fun b hb=>⟨fun (e:b=C)=>Pb (e ▸ hb),fun x c e=>(Pa b hb).2.2.2.2.1 x c (Lo x c e)⟩,
  I.bs,ZG I.ok.bsz I.sz,fun b o e hb=>?_,fun b hb Hb=>?_,I.stack,I.JQ⟩,rfl,I.bare,Un.laid keep hD Kx,⟨m,Ma,fun i x v e1 e2 e3=>?_⟩,fun x c e=>?_,?_,fun x c e=>?_,fun p hp=>(nomatch hp),I.hok.laid keep hD ?_,?_⟩
 ·have h:∃ k',(relabel sc X.env).names.lookup x=some k'/\(k'=.cell\/k'=.free):=by
   rcases hx with e | e
   ·exact ⟨_,e,.inl rfl⟩
   ·exact ⟨_,e,.inr rfl⟩
  obtain ⟨k',Pg,Iu⟩:=h
  exact Pd _ (gH (frees x k' Pg Iu)) rfl
 ·have Hb:b∈fp:=hb
  rcases (Pa b Hb).2.2.2.1 with z | z
  ·exact I.ok.KQ b o e z
  ·exact absurd (ZO (ZW e) (ZG I.ok.bsz z)) (Yh _)
 ·have VD:b∈HQ X.stack:=Hb
  rcases Zj.mp (I.IT b VD) with z | z
  ·exact (Pa b hb).2.1 z
  ·exact (Pa b hb).2.2.1 z
 ·
  have SX:k<=i:=by
   rcases Nat.lt_or_ge i k with z | z
   ·rw [ZA (by simpa using z),Yc] at e2
    split at e2 <;> cases e2
   ·exact z
  rw [Yy (by simpa using SX),YH] at e2
  have RV:(N.drop k)[i - k]?=some x:=by
   rw [List.getElem?_drop,show k+(i - k)=i by exact Nat.add_sub_of_le SX];exact e1
  have Ue:sc.names.lookup x=some .free->∃ k',(relabel sc X.env).names.lookup x=some k'/\(k'=.cell\/k'=.free):=fun h0=>by
   have Os:IB (relabel sc X.env) x:=e3
   rcases Os with z | z | z
   ·obtain ⟨k0,Pg,Iu⟩:=dg z
    rw [h0] at Pg;cases Pg
    rcases Iu with q | ⟨_,q⟩ <;> cases q
   ·exact ⟨_,z,.inl rfl⟩
   ·exact ⟨_,z,.inr rfl⟩
  have no:∀ k0,sc.names.lookup x=some k0->∃ k',(relabel sc X.env).names.lookup x=some k'->True:=fun _ _=>⟨.local,fun _=>trivial⟩
  rcases VE _ x RV with ⟨hX,h0⟩ | h0 | h0
  ·obtain ⟨k',Ni,Lm⟩:=Ue h0
   have hf:=II _ (gH h0)
   have S5:X.env.kindOf x=some .cell\/X.env.kindOf x=some .free:=by
    simpa using hf
   obtain ⟨mX,hnX,Vk⟩:=I.loc
   have Px:IB X.env.scope x:=S5.elim (fun z=>.inr (.inl z)) fun z=>.inr (.inr z)
   obtain ⟨u,r,l⟩:=Vk _ x v hX e2 Px
   refine ⟨u,r,.inr ⟨?_,?_⟩⟩
   ·rcases Lm with z | z
    ·subst z;exact .inl Ni
    ·subst z;exact .inr Ni
   ·obtain ⟨c,hc⟩:=Pd _ (gH h0) rfl
    refine ⟨c,hc,?_⟩
    rcases l with ⟨z,_⟩ | ⟨_,c',HX,ML⟩
    ·rcases S5 with q | q <;> (rw [z] at q;cases q)
    ·have:=Lo x c hc
     rw [HX] at this;cases this
     exact ML.keeps keep
  ·have Os:IB (relabel sc X.env) x:=e3
   rcases Os with z | z | z <;> (obtain ⟨k0,z1,_⟩:=dg z;rw [h0] at z1;cases z1)
  ·have Os:IB (relabel sc X.env) x:=e3
   rcases Os with z | z | z <;> (obtain ⟨k0,z1,z2⟩:=dg z;rw [h0] at z1;cases z1;rcases z2 with q | ⟨q,_⟩ <;> cases q)
 ·obtain ⟨v,z⟩:=I.cell x c (Lo x c e)
  exact ⟨v,z.keeps keep⟩
 ·show upd H D (.lst []) C=none
  rw [aA (Ya Pf)];exact VJ
 ·obtain ⟨v,z⟩:=I.cell x c (Lo x c e)
  rw [aA (Zb (ZO z.lt hD))]
  exact I.HK x c (Lo x c e)
 ·exact ⟨Yt _,[],0,.nil,Ro⟩
 ·show (List.replicate k none++J).length=N.length
  rw [Zv,YH,I.len,← hlen,ZJ]
  exact Nat.add_sub_of_le Ja
def yF (X:Cx) (ifs:List Expr) (t:TT):Prop :=
 ∀ (pins:Y1) (s:Shared) (J:St) (H:Hp) (Q:Bool->Hp->Prop),Inv X pins J H s->t J H Q →
  wpAny (model X.prog X.w) X.A (forIn ifs true fun c r=>if r=true then (do let ok ← isTrue c X.env (eval c X.env);pure (ForInStep.yield ok)) else pure (ForInStep.yield r)) (TP X pins J Q) X.xe s
def kH:yF X [] (fun J H Q=>Q true H):=fun pins s J H Q I q=>ZV ⟨H,I,q⟩
def qY {c:Expr} {t:TT} (h:PT X c t):yF X [c] t:=fun pins s J H Q I q=>by
 rw [List.forIn_cons,Zq rfl]
 refine Zk (Zk (thn (h pins s J H Q I q) fun b s1 q1=>ZV ?_))
 exact ZV q1
section
variable {prog:Program} {w:World} {A:Around} {R:Result->Shared->Prop}
def qT {elt target iter:Expr} {ifs:List Expr} {scope:Scope} {pos:Pos} {it acc:Value} {env:Env} {s:Shared} (I:Nat->Shared->Prop)
  (turn:∀ n s,I n s->wpAny (model prog w) A (pyNext it) (fun r s₁=>match r with
   | none=>R (.ok .next) s₁
   | some v=>wpAny (model prog w) A (letOwnedTupleGo target it v) (fun _ s₀=>wpAny (model prog w) A (assign target env v) (fun _ s₂ =>
     wpAny (model prog w) A (forIn ifs true fun c r=>if r=true then (do let ok ← isTrue c env (eval c env);pure (ForInStep.yield ok)) else pure (ForInStep.yield r)) (fun ok s₃ =>
      if ok=true then wpAny (model prog w) A (eval elt env) (fun x s₄ =>
       wpAny (model prog w) A (call (.builtin "list.append") [acc,x]) (fun _ s₅=>∃ m,m < n/\I m s₅) (fun _ _=>False) s₄) (fun _ _=>False) s₃
      else ∃ m,m < n/\I m s₃) (fun _ _=>False) s₂) (fun _ _=>False) s₀) (fun _ _=>False) s₁) (fun _ _=>False) s)
  (n:Nat) (h:I n s) :
  codeAny (model prog w) A (.compLoop (.ListComp elt [⟨target,iter,ifs,0⟩] scope pos) 0 it acc env) R s:=by
 refine codeAny_loop rfl I (fun n s hI=>?_) n h
 show wpAny _ A ((compTurn (.ListComp elt [⟨target,iter,ifs,0⟩] scope pos) 0 it acc env).onRaise (fun x=>do noteFrame x env;theTreesLotGoes x)) _ _ s
 refine wpAny_noted ?_
 rw [compTurn_list]
 refine Zk (wpAny_standAt (Zk (YN (turn n s hI) (fun r s₁ h₁=>?_) fun _ _ h'=>h'.elim)))
 cases r with
 | none=>exact ZV h₁
 | some v =>
  refine Zk (YN h₁ (fun _ s₀ h₀=>?_) fun _ _ h'=>h'.elim)
  refine Zk (YN h₀ (fun _ s₂ h₂=>Zk (YN h₂ (fun ok s₃ h₃=>?_) fun _ _ h'=>h'.elim)) fun _ _ h'=>h'.elim)
  cases ok with
  | false=>exact ZV ⟨rfl,h₃⟩
  | true =>
   rw [Zq rfl] at h₃
   exact Zk (Zk (YN h₃ (fun x s₄ h₄=>Zk (YN h₄ (fun _ s₅ h₅=>ZV (ZV ⟨rfl,h₅⟩)) fun _ _ h'=>h'.elim)) fun _ _ h'=>h'.elim))
end
noncomputable def rB (k:Nat) (wi:TI) (g:TG) (tc:TT) (te:TE) (J:St) (H:Hp) (Q:VK):Prop:=wi J H fun Jq H1=>∀ D,H1 D=none->∃ W:Nat->Nat->St->Hp->Prop,
 (∃ m,W 0 m (List.replicate k none++J) (upd H1 D (.lst [])))/\∀ i m J' H',W i m J' H'->(Jq.stop i H'/\Q (.ref D) H')\/(Jq.go i H'/\∀ x H2,Jq.OL i H' x H2->g x J' H2 fun J3 H3=>tc J3 H3 fun b H4 =>
  if b=true then te J3 H4 fun y H5=>∃ ys,H5 D=some (.lst ys)/\ys.length < sizeLine/\∃ m',m' < m/\W (i+1) m' J3 (upd H5 D (.lst (ys++[y]))) else ∃ m',m' < m/\W (i+1) m' J3 H4)
def o9 {elt tg iter:Expr} {ifs:List Expr} {sc:Scope} {pos pos':Pos} {N:List Str} {k:Nat} {wi:TI} {g:TG} {tc:TT} {te:TE} {use:Option (Value->Sem Unit)} {QQ:Z2} {Q:VK} (G3:X.calm=true) (hi:PI X tg iter wi) (Iz:l5 X.env sc=true)
  (I0:jR sc (N.drop k) X.N=true) (Ja:k<=N.length) (IH:∀ cl C s H fp,PG (bD X N sc cl C s H fp) tg g/\yF (bD X N sc cl C s H fp) ifs tc/\PE (bD X N sc cl C s H fp) elt te)
  (hs:∀ x,foldedSetIterable iter X.env x=pure x) (I:Inv X pins J H s) (h:rB k wi g tc te J H Q)
  (hq:∀ s' H' D C m,Inv X pins J H' s'->Q (.ref D) H'->s'.heap.Ns C m->ot X pins H' C->compPost (model X.prog X.w) X.A X.xe use QQ (.ref D) C (.ok .next) s') :
  wpAny (model X.prog X.w) X.A (comprehension (.ListComp elt [⟨tg,iter,ifs,0⟩] sc pos) sc X.env pos' (newList []) false (eval iter X.env) use) QQ X.xe s:=by
 have MG:=Iz
 unfold l5 at MG
 rw [Ze,Yi] at MG
 obtain ⟨hk,II⟩:=MG
 have IJ:sc.kind=.function:=by simpa using hk
 have IK:∀ y∈sc.names,y.2 ≠ .cell:=fun y hy e=>by have:=II y hy;rw [e] at this;cases this
 have MJ:∀ y∈sc.names,y.2=.local->sc.names.lookup y.1=some .local:=fun y hy e=>by
  have:=II y hy
  rw [e] at this
  simpa using this
 obtain ⟨cl,Ri,Lo,Pd⟩:=Bm (sc:=sc) (env:=X.env) fun y hy e=>I.ok.has y.1 (by
  have:=II y hy
  rw [e] at this
  simpa using this)
 refine wpAny_comprehension_free (use:=use) rfl hs Ri IJ MJ (thn (hi pins s J H _ I h) fun v s1 h1=>thn h1 fun Qz s2 h2=>?_)
 obtain ⟨it,fp,tn,Jq,H2,e,I2,T,OU,f2,hW⟩:=h2
 subst e
 refine XR (wpAny_newFunctionEnv IK (by intro y hy;simp at hy) (fun h₁ JL IW=>?_) IJ)
 dsimp only at JL IW ⊢
 generalize hP:s2.heap.push { cls:=.type "list",dict:=none,data:=.seq ([]:X8).toArray }=P at JL IW ⊢
 have Rt:P.objs.size=s2.heap.objs.size+1:=by rw [← hP,Wt]
 have old:∀ b o,s2.heap.get? b=some o->h₁.get? b=some o:=fun b o e =>
  IW.extBut b o (by rw [Rt];exact Zb (Wx (ZW e))) (Zi _ (hP ▸ Zi _ e))
 have Pf:s2.heap.objs.size ≠ P.objs.size:=by rw [Rt];exact Zb (Yp _)
 have Ro:h₁.get? s2.heap.objs.size=some { cls:=.type "list",data:=.seq ([]:X8).toArray 0 }:=IW.extBut _ _ Pf (Zi _ (hP ▸ ZR _ rfl))
 have MO:s2.heap.objs.size<=P.objs.size:=by rw [Rt];exact Xo _
 have L4:∀ b∈fp,b < s2.heap.objs.size:=fun b hb=>let ⟨o,ho,_⟩:=T.obj 0 _ OU b hb;ZW ho
 have Pb:P.objs.size ∉ fp:=fun hb=>absurd (ZO (L4 _ hb) MO) (Yh _)
 have IY:=I2.block (N:=N) (sc:=sc) (cl:=cl) (C:=P.objs.size) (D:=s2.heap.objs.size) (fp:=fp) (k:=k) (t:=s2.toks+([]:List (Str×Value)).length) Iz I0 Ja Lo Pd f2 (Zp _) MO Pf Pb old JL Ro
 obtain ⟨hG,hT,hE⟩:=IH cl P.objs.size s2 H2 fp
 generalize hY:bD X N sc cl P.objs.size s2 H2 fp=Y at IY hG hT hE
 have VG:Y.prog=X.prog/\Y.w=X.w/\Y.K=X.K/\Y.A=X.A/\Y.env=compEnvC sc cl P.objs.size X.env/\Y.calm=X.calm/\(Y.xe=fun _ _=>False):=by rw [← hY];exact ⟨rfl,rfl,rfl,rfl,rfl,rfl,rfl⟩
 obtain ⟨y1,y2,y3,y4,y5,y6,y7⟩:=VG
 have JF:∀ {H':Hp},(∀ b∈fp,H' b=none)->∀ b∈fp,ot Y [] H' b:=fun {H'} hn b hb=>by
  rw [← hY]
  refine ⟨hn b hb,fun (e:b=P.objs.size)=>Pb (e ▸ hb),fun Hb=>?_,.inl hb,fun x c e=>(f2 b hb).2.2.2.2.1 x c (Lo x c e),fun p hp=>(nomatch hp)⟩
  rcases Zj.mp (I2.IT b Hb) with z | z
  ·exact (f2 b hb).2.1 z
  ·exact (f2 b hb).2.2.1 z
 obtain ⟨W,⟨m0,w0⟩,turn⟩:=hW s2.heap.objs.size (I2.hok.fresh (Zp _))
 have Rc:∀ b∈fp,upd H2 s2.heap.objs.size (.lst []) b=none:=fun b hb=>by rw [aA (Zb (L4 b hb))];exact (f2 b hb).1
 have LY:tn 0 h₁:=T.keep _ _ _ OU fun b _ o e=>old b o e
 have loop:codeAny (model X.prog X.w) X.A (.compLoop (.ListComp elt [⟨tg,iter,ifs,0⟩] sc pos) 0 (.ref it) (.ref s2.heap.objs.size) (compEnvC sc cl P.objs.size X.env)) (compPost (model X.prog X.w) X.A X.xe use QQ (.ref s2.heap.objs.size) P.objs.size)
   { s2 with heap:=h₁,toks:=s2.toks+([]:List (Str×Value)).length }:=by
  refine qT (fun n s'=>∃ i J' H',Inv Y [] J' H' s'/\tn i s'.heap/\(∀ b∈fp,H' b=none)/\W i n J' H') ?_ m0 ⟨0,_,_,IY,LY,Rc,w0⟩
  rintro n s3 ⟨i,J3,H3,I3,LY,Og,w3⟩
  rcases turn i n J3 H3 w3 with ⟨stop,qn⟩ | ⟨go,step⟩
  ·have q:=T.done Y y1 y2 y3 (y6.trans G3) i [] s3 J3 H3 (fun _ _=>False) I3 (JF Og) LY stop
   rw [y4] at q
   refine thn q fun r s4 ⟨hr,I4⟩=>?_
   subst hr
   have IX:Inv X pins J H3 s4:=by
    have b4:=I4.base
    have o4:=I4.os
    have k4:=I4.hok
    rw [← hY] at b4 o4 k4
    refine I2.Oy (ch:=fp) o4 b4 k4 I4.bare fun b hb=>?_
    exact ⟨(f2 b hb).2.2.2.1,(f2 b hb).2.1,(f2 b hb).2.2.2.2.1,(f2 b hb).2.2.2.2.2⟩
   obtain ⟨mC,SV,_⟩:=I4.loc
   have f4:=I4.free
   rw [y5] at SV f4
   exact hq s4 H3 _ P.objs.size mC IX qn SV (I2.K9 MO f4)
  ·have q:=T.item Y y1 y2 y3 (y6.trans G3) i [] s3 J3 H3 (fun _ _=>False) I3 (JF Og) LY go
   rw [y4] at q
   refine thn q fun r s4 ⟨u,hr,h4⟩=>?_
   subst hr
   refine thn h4 fun _ s5 ⟨x,H5,I5,r5,Ua,Mu,Rw⟩=>?_
   have R7:=I5.pinned (JF Rw) (T.obj _ _ Mu)
   have again:∀ {J7:St} {H7:Hp} {s7:Shared} {m:Nat},Inv Y ([]++mH fp s5.heap) J7 H7 s7->W (i+1) m J7 H7->∃ i J' H',Inv Y [] J' H' s7/\tn i s7.heap/\(∀ b∈fp,H' b=none)/\W i m J' H':=fun {J7 H7 s7 m} I7 w7=>by
    refine ⟨i+1,J7,H7,I7.HS,T.keep _ _ _ Mu fun b hb o e=>(I7.pin (b,o) (ZL _ (ZL _ (ir hb e)))).1,fun b hb=>?_,w7⟩
    obtain ⟨o,e,d⟩:=T.obj _ _ Mu b hb
    exact (I7.pin (b,o) (ZL _ (ZL _ (ir hb e)))).2.1
   have qa:=hG _ s5 J3 H5 x u _ R7 r5 (step x H5 Ua)
   rw [y1,y2,y4,y5,y7] at qa
   refine thn qa fun _ s6 ⟨J6,H6,I6,q6⟩=>?_
   have qt:=hT _ s6 J6 H6 _ I6 q6
   rw [y1,y2,y4,y5,y7] at qt
   refine thn qt fun b s7 ⟨H7,I7,q7⟩=>?_
   cases b with
   | false =>
    rw [Zo Zd] at q7 ⊢
    obtain ⟨m',hm,w7⟩:=q7
    exact ⟨m',hm,again I7 w7⟩
   | true =>
    rw [Zq rfl] at q7 ⊢
    have qe:=hE _ s7 J6 H7 _ I7 q7
    rw [y1,y2,y4,y5,y7] at qe
    refine thn qe fun yv s8 ⟨y,H8,I8,r8,ys,VM,Vl,m',hm,w8⟩=>?_
    have qp:=jr (X:=Y) _ s8 J6 H8 (.ref s2.heap.objs.size) [y] (.ref s2.heap.objs.size) [yv] (fun _ H9=>W (i+1) m' J6 H9) I8 rfl (.cons r8 .nil) ⟨_,ys,y,rfl,rfl,VM,Vl,w8⟩
    rw [y1,y2,y4,y7] at qp
    refine thn qp fun _ s9 ⟨_,H9,I9,_,w9⟩=>?_
    exact ⟨m',hm,again I9 w9⟩
 exact codeAny_compStart_list loop (T.self _ 0 _ _ _ LY loop)
def mw {elt tg iter:Expr} {ifs:List Expr} {sc:Scope} {pos:Pos} {N:List Str} {k:Nat} {wi:TI} {g:TG} {tc:TT} {te:TE} (G3:X.calm=true) (hi:PI X tg iter wi) (Iz:l5 X.env sc=true)
  (I0:jR sc (N.drop k) X.N=true) (Ja:k<=N.length) (IH:∀ cl C s H fp,PG (bD X N sc cl C s H fp) tg g/\yF (bD X N sc cl C s H fp) ifs tc/\PE (bD X N sc cl C s H fp) elt te)
  (hs:∀ x,foldedSetIterable iter X.env x=pure x:=by intro _;rfl):PE X (.ListComp elt [⟨tg,iter,ifs,0⟩] sc pos) (rB k wi g tc te):=by
 intro pins s J H Q I h
 rw [eval_ListComp]
 refine o9 (use:=none) G3 hi Iz I0 Ja IH hs I h fun s' H' D C m I' q hn f=>⟨m,hn,fun h' HJ=>?_⟩
 exact ⟨.ref D,H',I'.turned (it:=C) (t':=s'.toks) (fun b o hb e=>HJ.extBut b o hb e) f.1 f.2.1 f.2.2.2.1 f.2.2.2.2.1 f.2.2.2.2.2,rfl,q⟩
def m9 {elt tg iter:Expr} {ifs:List Expr} {sc:Scope} {pos pos' Jo:Pos} {N:List Str} {k i:Nat} {x:Str} {wi:TI} {g:TG} {tc:TT} {te:TE} (hN:X.N.Nodup) (QX:X.N[i]?=some x) (hx:Loc X.env.scope x) (G3:X.calm=true) (hi:PI X tg iter wi) (Iz:l5 X.env sc=true)
  (I0:jR sc (N.drop k) X.N=true) (Ja:k<=N.length) (IH:∀ cl C s H fp,PG (bD X N sc cl C s H fp) tg g/\yF (bD X N sc cl C s H fp) ifs tc/\PE (bD X N sc cl C s H fp) elt te)
  (IV:swapsWith (.ListComp elt [⟨tg,iter,ifs,0⟩] sc pos) (some (.Name x pos')) Jo.line X.env=pure true)
  (hf:X.fn x=true\/X.env.scope.names.lookup x=some .local) (hs:∀ x,foldedSetIterable iter X.env x=pure x:=by intro _;rfl) :
  PS X (.Assign [.Name x pos'] (.ListComp elt [⟨tg,iter,ifs,0⟩] sc pos) Jo) (fun D J H=>rB k wi g tc te J H fun v H1=>D.nx (J.set i (some v)) H1):=by
 intro pins s J H D I h
 rw [exec_Assign_Name_used _ _ _ _ IV]
 refine Zk (wpAny_standAt (Zk ?_))
 show wpAny _ X.A (do let _ ← comprehension (.ListComp elt [⟨tg,iter,ifs,0⟩] sc pos) sc X.env _ (newList []) false (eval iter X.env) (some (assign (.Name x pos') X.env))) _ _ s
 refine Zk (YN (o9 (use:=some (assign (.Name x pos') X.env)) (QQ:=fun _ s'=>SP X pins D .next s') G3 hi Iz I0 Ja IH hs I h fun s' H' D' C m I' q hn f=>?_) (fun _ s' hq=>ZV (ZV hq)) fun _ _ e=>e)
 show wpAny _ X.A (assign (.Name x pos') X.env (.ref D')) _ _ _
 refine wpAny_assign_Name (oN I' hN QX hx (v:=.ref D') rfl (fun s2 I2 ⟨a,U7,ha⟩=>?_) hf)
 have VN:C ≠ a:=fun e=>by
  rcases ha with z | z
  ·exact f.2.1 (e.trans z)
  ·exact f.2.2.2.2.1 x a z e.symm
 refine ⟨m,hn.sameBut U7 VN,fun h' HJ=>⟨_,H',?_,q⟩⟩
 exact I2.turned (it:=C) (t':=s2.toks) (fun b o hb e=>HJ.extBut b o hb e) f.1 f.2.1 f.2.2.2.1 f.2.2.2.2.1 f.2.2.2.2.2
end
end L2
end
section
namespace VS
open PySem PySem.Spec PyProof.Rows L2
def vK (k:Nat) (g:Tg):Prop:=∀ t U U',g t U=some U'->U'.length=U.length/\∀ i,k<=i->U'[i]?=U[i]?
def ig {k i:Nat} (h:i < k:=by decide):vK k (bc i):=fun t U U' e=>by
 unfold bc at e
 split at e
 ·cases e
  exact ⟨by simp,fun j hj=>by rw [Yr (by lia)]⟩
 ·cases e
theorem vn:∀ (l:Wa) {i:Nat} {t:T},eO l=true->l[i]?=some t->GO t=true
 | [],_,_,_,h=>by simp at h
 | x :: l,0,t,h,e=>by
  simp only [eO,Ze] at h
  simp at e;rw [← e];exact h.1
 | x :: l,i+1,t,h,e=>by
  simp only [eO,Ze] at h
  exact vn l h.2 (by simpa using e)
def tC (G:Gx):Option Ex->TT
 | none=>fun J H Q=>Q true H
 | some c=>tT G c
section
variable {G:Gx} {M:GR} {U:VS.Env} {J:L2.St} {H:Hp} {k:Nat}
def ko {i:Nat} {c:Cell}:(List.replicate k none++U)[i]?=some (some c) ↔ k<=i/\U[i - k]?=some (some c):=by
 rcases Nat.lt_or_ge i k with h | h
 ·rw [ZA (by simpa using h),Yc]
  constructor
  ·intro e;split at e <;> cases e
  ·intro ⟨e,_⟩;lia
 ·rw [Yy (by simpa using h),YH]
  exact ⟨fun e=>⟨h,e⟩,fun e=>e.2⟩
def xK {a:Addr}:bC (fun i=>M (i - k)) (List.replicate k none++U) a ↔ bC M U a:=by
 constructor
 ·rintro ⟨j,t,h1,h2⟩
  exact ⟨j - k,t,(ko.mp h1).2,h2⟩
 ·rintro ⟨j,t,h1,h2⟩
  refine ⟨j+k,t,ko.mpr ⟨Nat.le_add_left _ _,by rw [YM];exact h1⟩,?_⟩
  show a∈M (j+k - k)
  rw [YM];exact h2
def wW {a:Addr}:cM (fun i=>M (i - k)) (List.replicate k none++U) a ↔ cM M U a:=by
 constructor
 ·rintro ⟨j,t,h1,h2⟩
  exact ⟨j - k,t,(ko.mp h1).2,h2⟩
 ·rintro ⟨j,t,h1,h2⟩
  refine ⟨j+k,t,ko.mpr ⟨Nat.le_add_left _ _,by rw [YM];exact h1⟩,?_⟩
  show a∈M (j+k - k)
  rw [YM];exact h2
def SR.sh (s:SR G M U J H):SR G (fun i=>M (i - k)) (List.replicate k none++U) (List.replicate k none++J) H:=by
 refine ⟨by simp [s.len],fun i c h=>?_,fun i t h=>?_,fun i j t c h1 h2 n=>?_⟩
 ·obtain ⟨h1,h2⟩:=ko.mp h
  obtain ⟨v,g1,g2⟩:=s.rp _ c h2
  refine ⟨v,?_,g2⟩
  rw [Yy (by simpa using h1),YH]
  exact g1
 ·exact s.nd _ t (ko.mp h).2
 ·obtain ⟨a1,a2⟩:=ko.mp h1
  obtain ⟨b1,b2⟩:=ko.mp h2
  exact s.sep _ _ t c a2 b2 (by lia)
def SR.less {U':VS.Env} (s:SR G M U' J H) (hl:U.length=U'.length) (h:∀ (i:Nat) c,U[i]?=some (some c)->U'[i]?=some (some c)):SR G M U J H :=
 ⟨hl.trans s.len,fun i c e=>s.rp i c (h i c e),fun i t e=>s.nd i t (h i _ e),fun i j t c e1 e2 n=>s.sep i j t c (h i _ e1) (h j _ e2) n⟩
def SR.off {D:Addr} {o:HO} (s:SR G M U J H) (m:GS (H D)\/H D=none) (n1:¬ cM M U D) (n2:¬ bC M U D):SR G M U J (upd H D o):=by
 refine ⟨s.len,fun i c e=>?_,s.nd,s.sep⟩
 obtain ⟨v,g1,g2⟩:=s.rp i c e
 refine ⟨v,g1,g2.keep (Kept.upd m) fun b hb o' ho=>?_⟩
 rw [aA fun z=>?_]
 ·exact ho
 ·subst z
  cases c with
  | pu t=>exact n1 ⟨i,t,e,hb⟩
  | ow t=>exact n2 ⟨i,t,e,hb⟩
theorem n8:∀ (l:Wc) (v:Val),cu (l++[v])=(cu l).join v.1
 | [],(m,t)=>by cases m <;> rfl
 | (m,t) :: l,v=>by
  show m.join (cu (l++[v]))=(m.join (cu l)).join v.1
  rw [n8 l v]
  generalize cu l=q
  generalize v.1=r
  cases m <;> cases q <;> cases r <;> rfl
def Fp.NX {m n:Md} {F F':Xa} (f:Fp M U H m F) (g:Fp M U H n F') (d:n=.fr->∀ a∈F,a ∉ F'):Fp M U H (m.join n) (F++F'):=by
 have both:∀ {P:Addr->Prop},(∀ a∈F,P a)->(∀ a∈F',P a)->∀ a∈F++F',P a:=fun p q a h=>(Zc.mp h).elim (p a) (q a)
 cases m <;> cases n
 ·exact ⟨ZU.mpr ⟨f.1,g.1,fun a ha b hb e=>d rfl a ha (e ▸ hb)⟩,both f.2 g.2⟩
 ·exact both (fun a ha=>.inl (f.2 a ha)) g
 ·exact both (fun a ha=>.inl (f.2 a ha)) g
 ·exact both f fun a ha=>.inl (g.2 a ha)
 ·exact both f g
 ·exact both (fun a ha=>(f a ha).imp id .inl) g
 ·exact both f fun a ha=>.inl (g.2 a ha)
 ·exact both f fun a ha=>(g a ha).imp id .inl
 ·exact both f g
def Fp.Ow {m:Md} {F:Xa} {D:Addr} (f:Fp M U H m F) (h:H D=none) (d:D ∉ F):Fp M U H m (D :: F):=by
 have all:∀ {P:Addr->Prop},P D->(∀ a∈F,P a)->∀ a∈D :: F,P a:=fun p q a ha=>(Zj.mp ha).elim (fun e=>e ▸ p) (q a)
 cases m
 ·exact ⟨Zh.mpr ⟨d,f.1⟩,all h f.2⟩
 ·exact all (.inl h) f
 ·exact all (.inl h) f
end
section
variable {G:Gx} {k:Nat} {tg:Tg} {ci:JA} {cond:Option Ex} {ce:Ex}
noncomputable def CI (G:Gx) (M:GR) (U U0:VS.Env) (H H1:Hp) (D:Addr) (l:Wa) (all:Wc) (tg:Tg) (cond:Option Ex) (ce:Ex) (i n:Nat) (J':L2.St) (H':Hp):Prop:=n=l.length - i/\∃ M1 vs Fs xs rest,SR G M1 U0 J' H'/\(∀ a,bC M1 U0 a->bC M U a)/\(∀ a,cM M1 U0 a->H a=none\/cM M U a)/\¬ cM M1 U0 D/\¬ bC M1 U0 D/\Kept H1 H' ∧
     (∀ a o,a ≠ D->H1 a=some o->H' a=some o)/\H' D=some (.lst xs)/\RpL G H' xs (trees vs) Fs/\D ∉ Fs.flatten/\Fp M U H (cu vs) Fs.flatten/\jz tg cond ce U0 (l.drop i)=some rest/\vs++rest=all
def mF {J:L2.St} {H:Hp} {Q:VK} (IH:vK k tg) (h:tE G (dQ k tg ci cond ce) J H Q):rB k (tI G ci) (tG G tg) (tC G cond) (tE G ce) J H Q:=by
 refine L2.jy fun P_ k_=>?_
 obtain ⟨M,U,m,r,s,e,kq⟩:=h
 unfold dQ at e
 obtain ⟨⟨mi,l⟩,el,e1⟩:=Zz.mp e
 dsimp only at e1
 split at e1
 ·rename_i hok
  obtain ⟨all,ea,e2⟩:=Zz.mp e1
  unfold JT at e2
  split at e2
  ·rename_i hlen
   cases e2
   refine k_ ?_
   refine ⟨M,U,mi,l,s,el,fun Jq H1 C e3 ok fc D hD=>?_⟩
   have Kx:H D=none:=e3.free hD
   let U0:VS.Env:=List.replicate k none++U
   have good:∀ {t:T} {i:Nat} {H' H2:Hp} {v:V} {F:Xa},l[i]?=some t->Rp G H2 v t F->(∀ a,H1 a ≠ none->H' a ≠ none)->(∀ a∈F,a∈C\/H' a=none)->∀ a∈F,(H a=none\/cM M U a)/\¬ bC M U a:=fun {t i H' H2 v F} hi rF keep hF a ha=>by
    have GZ:∀ {b},H b ≠ none->H' b ≠ none:=fun {b} hb=>keep b fun z=>hb (e3.free z)
    rcases hF a ha with z | z
    ·rcases fc a z with q | q | ⟨q,w⟩
     ·exact ⟨.inl q,fun w=>GS.pe (s.Hj w) q⟩
     ·exact ⟨.inr q,fun w=>s.KO w q⟩
     ·subst q
      have:GO t=true:=by
       exact vn l hok hi
      rw [rF.GO this] at ha
      simp at ha
    ·have hz:H a=none:=Classical.byContradiction fun q=>GZ q z
     exact ⟨.inl hz,fun w=>GS.pe (s.Hj w) hz⟩
   refine ⟨CI G M U U0 H H1 D l all tg cond ce,?_,?_⟩
   ·refine ⟨l.length - 0,rfl,fun i=>M (i - k),[],[],[],all,?_,fun a h=>xK.mp h,fun a h=>.inr (wW.mp h),fun h=>?_,fun h=>?_,Kept.upd (.inr hD),fun a o n h=>by rw [aA n];exact h,av,.nil,by simp,Fp.nil,by rw [XG];exact ea,rfl⟩
    ·exact ((s.same e3).sh).off (.inr hD) (fun h=>GS.pe (s.IU (wW.mp h)) Kx) fun h=>GS.pe (s.Hj (xK.mp h)) Kx
    ·exact GS.pe (s.IU (wW.mp h)) Kx
    ·exact GS.pe (s.Hj (xK.mp h)) Kx
   ·intro i n J' H' Vu
    refine L2.jy fun P_ k_=>?_
    obtain ⟨rfl,M1,vs,Fs,xs,rest,s1,Na,Uz,UE,UH,kp,old,Nk,rp,nD,fp,er,ev⟩:=Vu
    refine k_ ?_
    have JV:∀ a,H1 a ≠ none->H' a ≠ none:=fun a ha z=>by
     by_cases q:a=D
     ·subst q;rw [Nk] at z;cases z
     ·cases e:H1 a with
      | none=>exact ha e
      | some o=>rw [old a o q e] at z;cases z
    refine L2.jy fun P_ k_=>?_
    obtain ⟨go,stop⟩:=ok.run H' kp fun a ha o ho=>old a o (fun z=>ok.GZ a ha (z ▸ hD)) ho
    cases hit:l[i]? with
    | none =>
     have hl:l.length<=i:=Yo.mp hit
     refine k_ ?_
     left
     refine ⟨stop i hl,?_⟩
     rw [YL hl] at er
     cases (show some ([]:Wc)=some rest from er)
     rw [ZS] at ev
     subst ev
     refine kq (.ref D) H' (D :: Fs.flatten) (fun a o h=>old a o (fun z=>by rw [z,Kx] at h;cases h) (e3 a o h)) (.lst Nk rp) ?_
     by_cases hi:eO (trees vs)=true
     ·rw [Zq hi,rp.GO hi]
      exact ⟨by simp,fun a ha=>by rw [Zf.mp ha];exact Kx⟩
     ·rw [Zo hi]
      exact fp.Ow Kx nD
    | some t =>
     have hl:i < l.length:=(Zg.mp hit).1
     obtain ⟨g1,y1⟩:=go i t hit
     refine k_ ?_
     right
     refine ⟨g1,fun x H2 yl=>?_⟩
     refine L2.jy fun P_ k_=>?_
     obtain ⟨e8,F,rF,hF⟩:=y1 x H2 yl
     rw [oE (tgt:=tg) (body:=dn) (U:=U) hit] at er
     rw [jz] at er
     obtain ⟨U3,e4,e5⟩:=Zz.mp er
     obtain ⟨b,eb,e6⟩:=Zz.mp e5
     have gd:=good hit rF JV hF
     have s2:=s1.same e8
     have DF:D ∉ F:=fun h=>by
      rcases hF D h with z | z
      ·exact ok.GZ D z hD
      ·rw [Nk] at z;cases z
     refine k_ ?_
     refine ⟨M1,U0,t,F,U3,s2,rF,fun a ha z=>(gd a ha).2 (Na a z),e4,fun M3 J3 s3 o3 p3=>?_⟩
     obtain ⟨tl,Nw⟩:=IH t U0 U3 e4
     have low:∀ j c,U0[j]?=some (some c)->U3[j]?=some (some c):=fun j c h=>by rw [Nw j (ko.mp h).1];exact h
     have OZ:∀ a,cM M3 U3 a->H a=none\/cM M U a:=fun a h=>(p3 a h).elim (Uz a) fun h=>(gd a h).1
     have PN:∀ a,bC M3 U3 a->bC M U a:=fun a h=>Na a (o3 a h)
     have NM:¬ cM M3 U3 D:=fun h=>(p3 D h).elim UE DF
     have O3:¬ bC M3 U3 D:=fun h=>UH (o3 D h)
     have OY:∀ a,cM M3 U0 a->cM M3 U3 a:=fun a ⟨j,u,h1,h2⟩=>⟨j,u,low j _ h1,h2⟩
     have O0:∀ a,bC M3 U0 a->bC M3 U3 a:=fun a ⟨j,u,h1,h2⟩=>⟨j,u,low j _ h1,h2⟩
     have L0:∀ H4,aD H2 H4->(if b=true then tE G ce J3 H4 fun y H5=>∃ ys,H5 D=some (.lst ys)/\ys.length < sizeLine/\∃ m',m' < l.length - i/\CI G M U U0 H H1 D l all tg cond ce (i+1) m' J3 (upd H5 D (.lst (ys++[y]))) else ∃ m',m' < l.length - i/\CI G M U U0 H H1 D l all tg cond ce (i+1) m' J3 H4):=fun H4 e9=>by
      have eo:∀ {H5},aD H4 H5->∀ a o,H' a=some o->H5 a=some o:=fun {H5} Nm a o h=>Nm a o (e9 a o (e8 a o h))
      cases b with
      | false =>
       rw [Zo Zd] at e6 ⊢
       have same:=eo (aD.refl H4)
       exact ⟨_,by lia,rfl,M3,vs,Fs,xs,rest,(s3.same e9).less (by rw [tl]) low,fun a h=>PN a (O0 a h),fun a h=>OZ a (OY a h),fun h=>NM (OY D h),fun h=>O3 (O0 D h),kp.trans ((Kept.of e8).trans (Kept.of e9)),fun a o n h=>same a o (old a o n h),same D _ Nk,rp.same (aD.trans e8 e9),nD,fp,e6,ev⟩
      | true =>
       rw [Zq rfl] at e6 ⊢
       obtain ⟨⟨mv,tv⟩,WC,e7⟩:=Zz.mp e6
       obtain ⟨NC,WA,TU⟩:=Zy.mp e7
       refine ⟨M3,U3,mv,tv,s3.same e9,WC,fun y H5 Fy Nm ry fy=>?_⟩
       have same:=eo Nm
       have Od:=same D _ Nk
       have LI:GS (H5 D):=by rw [Od];exact True.intro
       have Rq:H4 D=some (.lst xs):=e9 D _ (e8 D _ Nk)
       have KP:∀ a,H4 a=none->H a=none:=fun a h=>Classical.byContradiction fun q=>JV a (fun z=>q (e3.free z)) (e8.free (e9.free h))
       have VT:Fp M U H mv Fy:=by
        cases mv with
        | fr=>exact ⟨fy.1,fun a ha=>KP a (fy.2 a ha)⟩
        | pu=>exact fun a ha=>(fy a ha).elim (fun z=>.inl (KP a z)) (OZ a)
        | bo=>exact fun a ha=>(fy a ha).elim (fun z=>.inl (KP a z)) fun z=>z.elim (fun z=>(OZ a z).imp id .inl) fun z=>.inr (.inr (PN a z))
       have T7:D ∉ Fy:=fun h=>by
        cases mv with
        | fr=>have:=fy.2 D h;rw [Rq] at this;cases this
        | pu=>exact (fy D h).elim (fun z=>by rw [Rq] at z;cases z) NM
        | bo=>exact (fy D h).elim (fun z=>by rw [Rq] at z;cases z) fun z=>z.elim NM O3
       have Uu:RpL G H5 xs (trees vs) Fs:=rp.same ((e8.trans e9).trans Nm)
       have UM:xs.length=vs.length:=by rw [rp.len.1];simp
       have UN:vs.length < all.length:=by rw [← ev,← TU];simp
       refine ⟨xs,Od,?_,_,by lia,rfl,M3,vs++[(mv,tv)],Fs++[Fy],xs++[y],NC,(((s3.same e9).same Nm).off (.inl LI) NM O3).less (by rw [tl]) low,fun a h=>PN a (O0 a h),fun a h=>OZ a (OY a h),fun h=>NM (OY D h),fun h=>O3 (O0 D h),?_,fun a o n h=>?_,av,?_,?_,?_,WA,?_⟩
       ·have N7:all.length<=eD:=by simpa using hlen
        have:sizeLine=eD:=rfl
        lia
       ·exact (kp.trans ((Kept.of e8).trans ((Kept.of e9).trans (Kept.of Nm)))).trans (Kept.upd (.inl LI))
       ·rw [aA n];exact same a o (old a o n h)
       ·have:trees (vs++[(mv,tv)])=trees vs++[tv]:=by simp
        rw [this]
        exact (Uu.off LI nD).append (.cons (ry.keep (Kept.upd (.inl LI)) fun b hb o ho=>by rw [aA (fun z=>T7 (by rw [← z];exact hb))];exact ho) .nil)
       ·rw [Z5]
        intro h
        rcases Zc.mp h with z | z
        ·exact nD z
        ·exact T7 (by simpa using z)
       ·rw [Z5,n8]
        have:([Fy]:Xm).flatten=Fy:=by simp
        rw [this]
        refine fp.NX VT fun hm a ha hb=>?_
        subst hm
        have h4:=fy.2 a hb
        have:GS (H4 a):=(rp.same (e8.trans e9)).GZ a ha
        rw [h4] at this;exact this
       ·rw [ZF,← ev,← TU];rfl
     cases cond with
     | none =>
      cases (show some true=some b from eb)
      exact L0 H2 (aD.refl H2)
     | some c =>
      obtain ⟨⟨mc,xc⟩,WE,MR⟩:=Zz.mp eb
      exact ⟨M3,U3,mc,xc,b,s3,WE,MR,fun H4 e9=>L0 H4 e9⟩
  ·cases e2
 ·cases e1
end
section
variable {G:Gx} {X:Cx} {elt tg iter c:Expr} {sc:Scope} {pos pos' Jo:Pos} {N:List Str} {k i:Nat} {x:Str} {ci:JA} {g:Tg} {cc ce:Ex}
def mr (k:Nat) (N:List Str) (G3:X.calm=true) (hi:PVI G X tg iter ci) (IH:vK k g) (hg:∀ cl C s H fp,PVG G (bD X N sc cl C s H fp) tg g) (he:∀ cl C s H fp,PV G (bD X N sc cl C s H fp) elt ce)
  (Iz:l5 X.env sc=true:=by rfl) (I0:jR sc (N.drop k) X.N=true:=by rfl) (Ja:k<=N.length:=by decide) (hs:∀ x,foldedSetIterable iter X.env x=pure x:=by intro _;rfl) :
  PV G X (.ListComp elt [⟨tg,iter,[],0⟩] sc pos) (dQ k g ci none ce) :=
 PE.weak (mw G3 hi Iz I0 Ja (fun cl C s H fp=>⟨hg cl C s H fp,kH,he cl C s H fp⟩) hs) fun J H Q h=>mF (cond:=none) IH h
def wg (k:Nat) (N:List Str) (G3:X.calm=true) (hi:PVI G X tg iter ci) (IH:vK k g) (hg:∀ cl C s H fp,PVG G (bD X N sc cl C s H fp) tg g) (hc:∀ cl C s H fp,Iq G (bD X N sc cl C s H fp) c cc) (he:∀ cl C s H fp,PV G (bD X N sc cl C s H fp) elt ce)
  (Iz:l5 X.env sc=true:=by rfl) (I0:jR sc (N.drop k) X.N=true:=by rfl) (Ja:k<=N.length:=by decide) (hs:∀ x,foldedSetIterable iter X.env x=pure x:=by intro _;rfl) :
  PV G X (.ListComp elt [⟨tg,iter,[c],0⟩] sc pos) (dQ k g ci (some cc) ce) :=
 PE.weak (mw G3 hi Iz I0 Ja (fun cl C s H fp=>⟨hg cl C s H fp,qY (hc cl C s H fp),he cl C s H fp⟩) hs) fun J H Q h=>mF (cond:=some cc) IH h
def Ah {D:Ends} {J:L2.St} {H:Hp} {ce:Ex} (h:tS G (aH i ce) D J H):tE G ce J H fun v H1=>D.nx (J.set i (some v)) H1:=by
 refine L2.jy fun P_ k_=>?_
 obtain ⟨M,U,o,s,e,k⟩:=h
 unfold aH at e
 obtain ⟨⟨m,t⟩,ec,e1⟩:=Zz.mp e
 refine k_ ?_
 split at e1
 ·cases e1
 ·rename_i hm
  split at e1
  ·rename_i hl
   cases e1
   refine ⟨M,U,m,t,s,ec,fun v H' F e3 r3 f3=>?_⟩
   obtain ⟨q1,q2⟩:=s.val (c:=.pu t) hl e3 r3 f3 (.inl ⟨rfl,hm⟩)
   exact k _ _ H' q1 q2
  ·cases e1
def tU (k:Nat) (N:List Str) {cS:Sx} (hS:∀ D J H,tS G cS D J H->tE G (dQ k g ci (some cc) ce) J H fun v H1=>D.nx (J.set i (some v)) H1) (G3:X.calm=true) (hi:PVI G X tg iter ci) (IH:vK k g) (hg:∀ cl C s H fp,PVG G (bD X N sc cl C s H fp) tg g)
  (hc:∀ cl C s H fp,Iq G (bD X N sc cl C s H fp) c cc) (he:∀ cl C s H fp,PV G (bD X N sc cl C s H fp) elt ce) (hN:X.N.Nodup) (QX:X.N[i]?=some x:=by rfl) (hx:Loc X.env.scope x:=by first | exact Or.inl rfl | exact Or.inr rfl)
  (Iz:l5 X.env sc=true:=by rfl) (I0:jR sc (N.drop k) X.N=true:=by rfl) (Ja:k<=N.length:=by decide) (IV:swapsWith (.ListComp elt [⟨tg,iter,[c],0⟩] sc pos) (some (.Name x pos')) Jo.line X.env=pure true:=by rfl)
  (hf:X.fn x=true\/X.env.scope.names.lookup x=some .local:=by first | exact .inl rfl | exact .inr rfl) (hs:∀ x,foldedSetIterable iter X.env x=pure x:=by intro _;rfl) :
  PSV G X (.Assign [.Name x pos'] (.ListComp elt [⟨tg,iter,[c],0⟩] sc pos) Jo) cS :=
 PS.weak (m9 hN QX hx G3 hi Iz I0 Ja (fun cl C s H fp=>⟨hg cl C s H fp,qY (hc cl C s H fp),he cl C s H fp⟩) IV hf hs) fun D J H h=>mF (cond:=some cc) IH (hS D J H h)
end
end VS
end
section
namespace L2
open PySem PySem.Spec PyProof.Rows
def R6 (K:Xj) (a:Addr):It :=
 ⟨fun i H=>∃ xs x,G2 K H a xs/\xs[i]?=some x,fun i H v H'=>∃ p x,H p=none/\v=.ref p/\H'=upd H p (.tup [.int i,x])/\∀ xs,G2 K H a xs->xs[i]?=some x,fun i H=>∃ xs,G2 K H a xs/\xs.length<=i⟩
def vT {P:Program} {w:World} {K:Xj} {elts:List Expr} {n:Nat} {pos:Pos} (a e it:Addr) (Ie:e ≠ it):Turn P w K (.Tuple elts n pos) (R6 K a) [e,it] e (fun i h=>(∃ old,IsEnum h e it i old)/\h.IsListIter it a i) where
 mem:=by simp
 obj:=fun i h st b hb=>by
  obtain ⟨⟨old,he⟩,o,ho,c,d⟩:=st
  rcases Zj.mp hb with rfl | hb
  ·exact ⟨_,he,fun v z=>by cases (show Data.fields _=Data.cell v from z)⟩
  ·rw [Zf.mp hb]
   exact ⟨o,ho,fun v z=>by rw [d] at z;cases z⟩
 keep:=fun i h h' st k=>⟨let ⟨old,he⟩:=st.1;⟨old,k e (by simp) _ he⟩,st.2.at fun o x=>k it (by simp) o x⟩
 item:=by
  intro X hP hw hK hc i pins s J H E I hf st hg
  subst hP hw hK
  obtain ⟨xs,x,hq,hx⟩:=hg
  obtain ⟨p0,rv,p,hz⟩:=I.list hq
  obtain ⟨u,hu,ru⟩:=rv.get hx
  obtain ⟨⟨old,he⟩,hit⟩:=st
  refine wpAny_pyNext_enum_item he hit p.isList (x:=u) (by simpa using hu) Ie fun h1 ho QU hT hsz hk=>⟨_,rfl,?_⟩
  refine wpAny_letOwnedTupleGo_enum ho fun h2 Vy IZ=>?_
  have IZ:Heap.SameBut e h1 h2:=IZ
  have SE:e < s.heap.objs.size:=ZW he
  have ltI:it < s.heap.objs.size:=let ⟨_,z,_⟩:=hit;ZW z
  have Tc:H s.heap.objs.size=none:=I.hok.fresh (Zp _)
  have kk:∀ b o,b ∉ [e,it]->s.heap.get? b=some o->h2.get? b=some o:=fun b o hb q=>by
   have Th:b ≠ e:=fun z=>hb (by simp [z])
   have VQ:b ≠ it:=fun z=>hb (by simp [z])
   exact (IZ.2 b Th).trans (hk b o Th VQ q)
  have S8:h2.get? s.heap.objs.size=some { cls:=.type "tuple",data:=.seq #[.int i s.toks,u] }:=(IZ.2 _ (Wz SE)).trans hT
  have Sy:∀ b o,H b=some o->b ∉ [e,it]:=fun b o q hb=>by rw [(hf b hb).1] at q;cases q
  have lt:∀ b o,s.heap.get? b=some o->b ≠ s.heap.objs.size:=fun b o q=>Zb (ZW q)
  have up:∀ b o,H b=some o->upd H s.heap.objs.size (.tup [.int i,x]) b=some o:=fun b o q=>by rw [aA (cU q Tc)];exact q
  have QI:HP X.prog X.w (upd H s.heap.objs.size (.tup [.int i,x])) h2:=fun b ob q=>by
   by_cases hb:b=s.heap.objs.size
   ·subst hb
    rw [av] at q
    cases q
    exact ⟨by show 2<=sizeLine;decide,[.int i s.toks,u],.cons ⟨_,rfl⟩ (.cons ru .nil),LU.of S8 rfl,⟨_,S8,rfl,_,rfl⟩⟩
   ·rw [aA hb] at q
    refine (I.hok b ob q).J5 (fun c v HX r=>kk c v ?_ r) (fun c r=>up c _ r) fun c ys r=>up c _ r
    rcases HX with z | z
    ·rw [z];exact Sy b ob q
    ·exact Sy c _ z
  refine ⟨.ref s.heap.objs.size,upd H s.heap.objs.size (.tup [.int i,x]),?_,rfl,⟨_,x,Tc,rfl,rfl,fun ys hy=>by rw [I.Jt hy hq];exact hx⟩,⟨⟨u,by simpa using Vy⟩,QU.at fun o y=>(IZ.2 it Ie.symm).trans y⟩,fun b hb=>?_⟩
  ·show Inv X pins J _ { s with heap:=h2,gens:=s.gens,drawn:=s.drawn,toks:=s.toks+1 }
   refine I.step (g':=s.gens) (d':=s.drawn) (t':=s.toks+1) (ch:=[e,it]) (fun b hb=>?_) (fun b o _ _ HX q _=>kk b o HX q) (fun b o _ _ HX q _=>⟨o.slots,kk b o HX q⟩) (fun b o _ q r=>by rw [aA (lt b o q)];exact r) (fun b o HX q=>⟨o,kk b o HX q⟩)
    (fun b ys q=>up b _ q) (fun b o v q=>up b _ q) (fun b ps q=>⟨#[],by rw [up b _ q];simp⟩) (fun m hm=>?_) QI I.bare
   ·obtain ⟨f0,f1,f2,f3,f4,f5⟩:=hf b hb
    exact ⟨f3,f1,f4,f5⟩
   ·obtain ⟨o,es,ep,Ju,r⟩:=hm
    refine ⟨o,es,ep,kk _ o (fun z=>?_) Ju,r⟩
    exact (hf _ z).2.1 rfl
  ·have:b ≠ s.heap.objs.size:=by
    rcases Zj.mp hb with rfl | hb
    ·exact Zb SE
    ·rw [Zf.mp hb];exact Zb ltI
   rw [aA this]
   exact (hf b hb).1
 done:=by
  intro X hP hw hK hc i pins s J H E I hf st hg
  subst hP hw hK
  obtain ⟨xs,hq,hx⟩:=hg
  obtain ⟨p0,rv,p,hz⟩:=I.list hq
  obtain ⟨⟨old,he⟩,hit⟩:=st
  obtain ⟨f0,f1,f2,f3,f4,f5⟩:=hf it (by simp)
  have hl:=rv.length
  exact wpAny_pyNext_enum_end (I.ok.hd hc) he hit p.isList (by simp;lia) fun h' eb=>⟨rfl,I.turned (t':=s.toks) (fun b o hb q=>eb b o hb q) f0 f1 f3 f4 f5⟩
 self:=fun _ _ _ _ _ st h=>let ⟨_,he⟩:=st.1;wpAny_pyIter_enum he h
section
variable {X:Cx} {tg a:Expr} {ta:TA} {p pos:Pos}
def Ge (K:Xj) (ta:TA):TI:=fun J H R=>ta J H fun vs H1=>∃ l,vs=[.ref l]/\(∃ xs,G2 K H1 l xs)/\R (R6 K l) H1
def Ay {elts:List Expr} {n:Nat} {LB:Pos} (hg:Gl X "enumerate") (hm:X.mg "enumerate" = none) (ha:PA X [a] ta) (hs:starEach [a] X.env=[(false,eval a X.env)]:=by rfl):PI X (.Tuple elts n LB) (.Call (.Name "enumerate" p) [a] [] pos) (Ge X.K ta):=by
 intro pins s J H R I h
 refine Call_ (kY I hg hm boot_enumerate (YG (thn (ha pos pins s J H _ I h) fun us s1 ⟨vs,H1,I1,r1,q1⟩=>?_) hs rfl))
 obtain ⟨l,e,⟨xs,hq⟩,q⟩:=q1
 subst e
 cases r1 with
 | cons r rr =>
  cases rr
  cases r
  obtain ⟨p0,rv,pl,hz⟩:=I1.list hq
  refine call_enumerate_list pl.isList fun h' he hit hsz hk=>?_
  refine wpAny_pyIter_enum he ?_
  refine ⟨_,_,_,_,H1,rfl,I1.kept (t':=s1.toks) hk,vT l (s1.heap.objs.size+1) s1.heap.objs.size (Nat.succ_ne_self _),⟨⟨_,he⟩,hit⟩,fun b hb=>?_,q⟩
  have Hb:s1.heap.objs.size<=b:=by
   rcases Zj.mp hb with rfl | hb
   ·exact YO _ _
   ·rw [Zf.mp hb];exact Zp _
  exact I1.K9 Hb (I1.hok.fresh Hb)
end
end L2
namespace VS
open PySem PySem.Spec PyProof.Rows L2
section
variable {G:Gx} {X:Cx} {a:Expr} {ca:Ex} {pos p LB:Pos} {elts:List Expr} {n:Nat}
theorem rR:∀ (l:Wa) (k i:Nat) {t:T},(gT k l)[i]?=some t->∃ x,l[i]?=some x/\t=.tup [.int ((k+i:Nat):Int),x]
 | [],_,_,_,h=>by simp [gT] at h
 | x :: l,k,0,t,h=>by
  simp [gT] at h
  exact ⟨x,rfl,by rw [← h];rfl⟩
 | x :: l,k,i+1,t,h=>by
  obtain ⟨y,h1,h2⟩:=rR l (k+1) i (by simpa [gT] using h)
  refine ⟨y,by simpa using h1,?_⟩
  rw [h2,show k+1+i=k+(i+1) by lia]
theorem oB:∀ (l:Wa) (k:Nat),(gT k l).length=l.length
 | [],_=>rfl
 | x :: l,k=>by simp [gT,oB l (k+1)]
def AD {H:Hp} {a:Addr} {vs:List V} {ts:Wa} {Fs:Xm} (K:Xj) (ha:H a=some (.lst vs)) (r:RpL G H vs ts Fs):Kk G (R6 K a) (gT 0 ts) (a :: Fs.flatten) H:=by
 refine ⟨fun H2 k c=>?_,fun b hb=>?_⟩
 ·have Kj:H2 a=some (.lst vs):=c a Zu _ ha
  have r2:RpL G H2 vs ts Fs:=r.keep k fun b hb o ho=>c b (Zw _ hb) o ho
  refine ⟨fun i t h=>?_,fun i h=>⟨vs,G2.of Kj,by rw [oB] at h;rw [r.len.1];exact h⟩⟩
  obtain ⟨y,hy,et⟩:=rR ts 0 i h
  rw [Xl] at et
  obtain ⟨v,F,h1,h2,h3⟩:=r2.get i hy
  refine ⟨⟨vs,v,G2.of Kj,h1⟩,fun x H3 ⟨p,z,hp,e1,e2,e3⟩=>?_⟩
  subst e1 e2
  have ex:=e3 vs (G2.of Kj)
  rw [h1] at ex
  cases ex
  have sm:aD H2 (upd H2 p (.tup [.int i,v])):=fun b o q=>by rw [aA (cU q hp)];exact q
  refine ⟨sm,F,?_,fun b hb=>.inl (Zw _ (cY h2 hb))⟩
  rw [et]
  have:F=([[],F]:Xm).flatten:=by simp
  rw [this]
  exact .tup av (.cons (.int _) (.cons (h3.same sm) .nil))
 ·rcases Zj.mp hb with rfl | hb
  ·rw [ha];exact fun z=>nomatch z
  ·exact GS.pe (r.GZ b hb)
def sG (ha:PV G X a ca) (hg:Gl X "enumerate") (hm:X.mg "enumerate" = none) (hs:K1 a [] X:=by rfl) (HJ:starEach [a] X.env=[(false,eval a X.env)]:=by rfl) :
  PVI G X (.Tuple elts n LB) (.Call (.Name "enumerate" p) [a] [] pos) (uV ca) :=
 PI.weak (Ay hg hm (bZ ha fE hs) HJ) fun J H R hq=>by
  obtain ⟨M,U,m,l,s,e,k⟩:=hq
  unfold uV at e
  obtain ⟨⟨mx,x⟩,ea,e1⟩:=Zz.mp e
  refine ⟨M,U,mx,x,s,ea,fun v H' F e3 r3 f3=>?_⟩
  cases x with
  | lst ts =>
   cases e1
   obtain ⟨a',vs,Fs,rfl,rfl,GT,ra⟩:=r3.lst_inv
   exact ⟨a',rfl,⟨vs,G2.of GT⟩,k _ H' _ e3 (AD X.K GT ra) f3.c⟩
  | _=>cases e1
end
instance {s:Tx}:Decidable (pV s):=inferInstanceAs (Decidable (_/\_))
section
variable {G:Gx} {X:Cx} {a b c e:Expr} {es:List Expr} {ca cb cc:Ex} {cs:Hh} {pos p p1 p2 apos oe:Pos} {k k':Nat}
def w_add (ha:PV G X a ca) (hb:PV G X b cb):PV G X (.BinOp a .Add b pos) (e2 aN ca cb):=jC ur yu ha hb
def w_mul (ha:PV G X a ca) (hb:PV G X b cb):PV G X (.BinOp a .Mult b pos) (e2 gy ca cb):=jC D4 CS ha hb
def w_mod (ha:PV G X a ca) (hb:PV G X b cb):PV G X (.BinOp a .Mod b pos) (e2 oMod ca cb):=jC CP CJ ha hb
def rP (ha:PV G X a ca) (hb:PV G X b cb):Iq G X (.Compare a [.Lt] [b] pos) (e2 oLt ca cb):=gL qd uz kc ha hb (iX _)
def nN (hr:GH k X.A) (ha:PV G X a ca) (hb:PV G X b cb):Iq G X (.Compare a [.Eq] [b] pos) (e2 oEq ca cb):=gL (tm hr.units) zq tells_eq ha hb (iX _)
def uM (hr:GH k X.A) (ha:PV G X a ca) (hb:PV G X b cb):Iq G X (.Compare a [.NotEq] [b] pos) (e2 Kd ca cb):=gL (CW hr.units) Ej xF ha hb (iX _)
def bj (ha:PV G X a ca) (hb:PV G X b cb) (hs:gI b:=by intro _ _;rfl) (hK:X.K=G.K:=by rfl):PV G X (.Subscript a b pos) (e2 ay ca cb) :=
 PE.weak (mP jY ha hb hs) fun J H Q h=>by rw [hK];exact lB uh h
def cz (hm:X.mg "len" = none) (ha:HI G X [e] cs) (hg:Gl X "len" := by rfl) (hK:X.K=G.K:=by rfl) (he:K1 e [] X:=by rfl):PV G X (.Call (.Name "len" p) [e] [] pos) (eN bt cs) :=
 kC (hK ▸ v9) DX hg hm PySem.boot_len ha (he:=he) (hpl:=rfl)
def Ec:bootBuiltins ("max" : Str)=some (.builtin "max"):=by decide +kernel
def BI:bootBuiltins ("list" : Str)=some (.type "list"):=by decide +kernel
def DT (hm:X.mg "max" = none) (ha:HI G X [a,b] cs) (hc:X.calm=true:=by rfl) (hg:Gl X "max" := by rfl) (he:starEach [a,b] X.env=(false,eval a X.env) :: starEach [b] X.env:=by rfl) (hpl:(backTo pos (starEach [b] X.env)).any (·.1)=false:=by rfl):PV G X (.Call (.Name "max" p) [a,b] [] pos) (eN uB cs) :=
 kC (vI hc) AK hg hm Ec ha (he:=he) (hpl:=hpl)
def M0:Ty->Str
 | .int => "int" | .str => "str" | .bool => "bool" | .list => "list" | .tuple => "tuple" | .dict => "dict"
def FA (t:Ty):bootBuiltins (M0 t)=some (.type (Ko t)):=by cases t <;> decide +kernel
def w_is (t:Ty) (hm:X.mg "isinstance" = none) (QN:X.mg (M0 t)=none) (ha:PV G X a ca) (hg:Gl X "isinstance" := by rfl) (Rb:Gl X (M0 t):=by rfl) (hK:X.K=G.K:=by rfl)
  (hs:starEach [a,.Name (M0 t) p2] X.env=(false,eval a X.env) :: starEach [.Name (M0 t) p2] X.env:=by rfl):PV G X (.Call (.Name "isinstance" p1) [a,.Name (M0 t) p2] [] pos) (Oo t ca) :=
 EH t ha hg hm Rb QN (FA t) hK (by cases t <;> decide) (by cases t <;> decide) hs rfl rfl
def Dz (ho:PV G X a ca) (ha:HI G X [e] cs) (hK:X.K=G.K:=by rfl) (G1:attributeBase a "endswith" X.env (eval a X.env)=eval a X.env:=by rfl)
  (Hf:((backTo oe (starEach [e] X.env)).all (fun x=>!x.1) && (backToKw oe (keywordEach [] X.env)).all (fun x=>x.1.isSome)
   && decide ([e].length+([]:List Keyword).length+(if ([]:List Keyword).isEmpty then 0 else 1) < 30))=true:=by rfl)
  (GV:(apos.endLine == oe.line)=true:=by rfl) (hs:K1 e [] X:=by rfl) (GU:(backTo oe (starEach [] X.env)).any (·.1)=false:=by rfl) :
  PV G X (.Call (.Attribute a "endswith" apos) [e] [] oe) (eM oO ca cs) :=
 B5 XW PySem.F.slot_str_endswith PySem.F.type_str_endswith zS Ak (fun H v x F l z r e=>oa r (by
  unfold oO at e
  split at e
  ·exact ⟨_,rfl⟩
  ·cases e)) ho ha hK G1 Hf GV hs GU
def iL (i:Nat) {x:Str} (ha:HI G X [e] cs) (hK:X.K=G.K:=by rfl)
  (hN:X.N[i]?=some x:=by rfl) (hv:IB X.env.scope x:=by first | exact Or.inl rfl | exact Or.inr (Or.inl rfl) | exact Or.inr (Or.inr rfl)) (hd:K3 x:=by decide)
  (hcd:K4 x:=by decide) (Hf:((backTo oe (starEach [e] X.env)).all (fun x=>!x.1) && (backToKw oe (keywordEach [] X.env)).all (fun x=>x.1.isSome)
   && decide ([e].length+([]:List Keyword).length+(if ([]:List Keyword).isEmpty then 0 else 1) < 30))=true:=by rfl)
  (GV:(apos.endLine == oe.line)=true:=by rfl) (hs:K1 e [] X:=by rfl) :
  PSV G X (.Expr (.Call (.Attribute (.Name x p1) "append" apos) [e] [] oe) pos) (sX (j6 i [] aE cs)) :=
 se i Y2 Xb Xc jr oU (fun H v t F l z r h=>lJ r h) ha hK hN hv hd hcd rfl Hf GV hs rfl rfl
def zk (i:Nat) {x:Str} (ha:HI G X [e] cs) (hK:X.K=G.K:=by rfl)
  (hN:X.N[i]?=some x:=by rfl) (hv:IB X.env.scope x:=by first | exact Or.inl rfl | exact Or.inr (Or.inl rfl) | exact Or.inr (Or.inr rfl)) (hd:K3 x:=by decide)
  (hcd:K4 x:=by decide) (Hf:((backTo oe (starEach [e] X.env)).all (fun x=>!x.1) && (backToKw oe (keywordEach [] X.env)).all (fun x=>x.1.isSome)
   && decide ([e].length+([]:List Keyword).length+(if ([]:List Keyword).isEmpty then 0 else 1) < 30))=true:=by rfl)
  (GV:(apos.endLine == oe.line)=true:=by rfl) (hs:K1 e [] X:=by rfl) :
  PSV G X (.Expr (.Call (.Attribute (.Name x p1) "extend" apos) [e] [] oe) pos) (sX (j6 i [] dY cs)) :=
 se i Y2 PySem.F.slot_list_extend PySem.F.type_list_extend v8 wB (fun H v t F l z r h=>qH r h) ha hK hN hv hd hcd rfl Hf GV hs rfl rfl
end
structure FnAt (P:Program) (w:World) (K:Xj) (mg:Xe) (base:Heap) (k:Nat) (x:Str) (ps:List Str) (G:Gx) (g:Fn):Prop where
 ex:∃ f fd,FnOk P w K mg base Hq k f fd ps (JB G g)/\mg x=some (.ref f)/\PySem.W.keepIn K (.ref f)=true/\Binds K fd ps []
section
variable {G:Gx} {X:Cx} {e:Expr} {es:List Expr} {cs:Hh} {pos p:Pos} {k k':Nat} {x:Str} {ps:List Str} {g:Fn}
def dG (F:FnAt X.prog X.w X.K X.mg X.base k x ps G g) (hr:GH k' X.A) (ha:HI G X (e :: es) cs) (hk:k<=k':=by decide) (hg:Gl X x:=by rfl) (Hz:K3 x:=by decide)
  (he:K1 e es X:=by rfl) (hpl:K2 pos es X:=by rfl) :
  PV G X (.Call (.Name x p) (e :: es) [] pos) (bW g cs):=by
 obtain ⟨f,fd,h1,h2,h3,h4⟩:=F.ex
 exact Bd h1 (hr.mono hk) hg h2 h3 h4 ha Hz he hpl
end
section
variable {G:Gx} {P:Program} {w:World} {K:Xj} {mg:Xe} {base:Heap}
def jD {x:Str} {st:Stmt} {f:Addr} {fd:FuncData} {N ps:List Str} {k np nn:Nat} {c:Sx} (F:GX K x x st f fd) (hm:mg x=some (.ref f)) (S:jj N ps (ag st)) (hp:ps.length=np) (hn:N.length=nn)
  (K6:∀ (kV doc pm:Value) (an:Option Addr) (GP ct:Value) (us:X8),us.length=ps.length->bindArgs (PySem.W.fnOf x x (cG st) (aR st) (ag st) .none kV doc pm an GP ct) ⟨us,[]⟩=pure (ps.zip us))
  (hb:∀ (GP:Value) (A:Around) (outer:List PySem.Env) (s:Shared) (H:Hp) (E:XK),GH k (A.deeper (envOfC x (ag st) s.heap.objs.size f GP))->gz G (iK Hq P w K mg base N x (ag st) f GP A outer s H E).Jr (aR st) c) :
  FnAt P w K mg base (k+1) x ps G (fn np nn c) :=
 ⟨f,fd,Rx F S hp hn hb,hm,F.kp,F.binds K6⟩
end
end VS
end
section
namespace L2
open PySem PySem.Spec PyProof.Rows
def JA (x:Str):It:=⟨fun i _=>i < x.cps.size,fun i H v H'=>H'=H/\∃ c,x.cps[i]?=some c/\v=.str ⟨#[c]⟩,fun i _=>x.cps.size<=i⟩
def oY {P:Program} {w:World} {K:Xj} {tg:Expr} (x:Str) (t:Tok) (it:Addr) (ty:String) (hn:["enumerate", "zip", "dict_itemiterator", "dict_reverseitemiterator", "odict_iterator", "itertools.zip_longest", "itertools.pairwise"].contains ty=false)
  (W:∀ A:Around,A.handled=none->Walks P w A it [it] [it] x.cps.size (fun i v=>∃ c u,x.cps[i]?=some c/\v=.str ⟨#[c]⟩ u) (fun i h=>h.IsStrIter it ty x t i)) (Rf:∀ (A:Around),A.handled=none->∀ (i:Nat) (s:Shared) (Q:Wq->Shared->Prop) (E:Z2),s.heap.IsStrIter it ty x t i->x.cps[i]?=none->(∀ h',Heap.ExtBut it s.heap h'->Q none { s with heap:=h' })->wpAny (model P w) A (pyNext (.ref it)) Q E s)
  (N0:∀ (A:Around) (i:Nat) (s:Shared) (Q:Z2) (E:Z2),s.heap.IsStrIter it ty x t i->Q (.ref it) s->wpAny (model P w) A (pyIter (.ref it)) Q E s) :
  Turn P w K tg (JA x) [it] it (fun i h=>h.IsStrIter it ty x t i) where
 mem:=by simp
 obj:=fun i h st b hb=>by
  rw [Zf.mp hb]
  obtain ⟨o,e,c,d⟩:=st
  exact ⟨o,e,fun v z=>by rw [d] at z;cases z⟩
 keep:=fun i h h' st k=>let ⟨o,e,r⟩:=st;⟨o,k it (by simp) o e,r⟩
 item:=by
  intro X hP hw hK hc i pins s J H E I hf st hg
  subst hP hw hK
  obtain ⟨f0,f1,f2,f3,f4,f5⟩:=hf it (by simp)
  refine (W X.A (I.ok.hd hc)).item i s _ _ hg st fun v h' tk hv JG kk=>?_
  obtain ⟨c,u,HX,rfl⟩:=hv
  have I1:Inv X pins J H { s with heap:=h',toks:=tk }:=I.turned (fun b o hb e=>kk b o (by simpa using hb) e) f0 f1 f3 f4 f5
  obtain ⟨o,e,c1,d⟩:=id JG
  exact ⟨_,rfl,qI (s:={ s with heap:=h',toks:=tk }) e c1 d hn ⟨.str ⟨#[c]⟩,H,I1,⟨u,rfl⟩,⟨rfl,c,HX,rfl⟩,JG,fun b hb=>(hf b hb).1⟩⟩
 done:=by
  intro X hP hw hK hc i pins s J H E I hf st hg
  subst hP hw hK
  obtain ⟨f0,f1,f2,f3,f4,f5⟩:=hf it (by simp)
  have hx:x.cps.size<=i:=hg
  exact Rf X.A (I.ok.hd hc) i s _ _ st (by simp [hx]) fun h' eb=>⟨rfl,I.turned (t':=s.toks) (fun b o hb e=>eb b o hb e) f0 f1 f3 f4 f5⟩
 self:=fun A i s Q E st h=>N0 A i s Q E st h
def yt {P:Program} {w:World} {K:Xj} {tg:Expr} (x:Str) (t:Tok) (it:Addr):Turn P w K tg (JA x) [it] it (fun i h=>h.IsStrIter it (strIterType x) x t i):=by
 cases ha:x.cps.all (· < 128)
 ·have e:strIterType x = "str_iterator" := by simp [strIterType,ha]
  rw [e]
  exact oY x t it "str_iterator" rfl (fun A hA=>Walks.strWide hA it x t) (fun A hA i s Q E st hx q=>wpAny_pyNext_wide_end hA st hx q) fun A i s Q E st q=>wpAny_pyIter_striter_wide st q
 ·have e:strIterType x = "str_ascii_iterator" := by simp [strIterType,ha]
  rw [e]
  exact oY x t it "str_ascii_iterator" rfl (fun A hA=>Walks.strAscii hA it x t) (fun A hA i s Q E st hx q=>wpAny_pyNext_ascii_end hA st hx q) fun A i s Q E st q=>wpAny_pyIter_striter_ascii st q
section
variable {X:Cx} {tg l a b c:Expr} {tl ta tb tc:TE} {pos:Pos}
def FH (K:Xj) (tl:TE):TI:=fun J H R=>tl J H fun x H1=>(∃ a,x=.ref a/\(∃ xs,G2 K H1 a xs)/\R (R4 K a) H1)\/(∃ a,x=.ref a/\(∃ xs,HL K H1 a xs)/\R (R3 K a) H1)\/∃ z,x=.str z/\R (JA z) H1
def Am (hl:PE X l tl):PI X tg l (FH X.K tl):=by
 intro pins s J H R I h
 refine thn (hl pins s J H _ I h) fun v s1 ⟨x,H1,I1,r1,q1⟩=>?_
 have Ph:∀ b∈[s1.heap.objs.size],ot X pins H1 b:=fun b hb=>by
  rw [Zf.mp hb]
  exact I1.K9 (Zp _) (I1.hok.fresh (Zp _))
 rcases q1 with ⟨a,e,⟨xs,hq⟩,q⟩ | ⟨a,e,⟨xs,hq⟩,q⟩ | ⟨z,e,q⟩
 ·subst e
  cases r1
  obtain ⟨p0,rv,p,hz⟩:=I1.list hq
  exact wpAny_pyIter_list p.isList ⟨s1.heap.objs.size,[s1.heap.objs.size],_,_,H1,rfl,I1.kept (t':=s1.toks) fun b o e=>Zi _ e,wo a _,⟨_,ZR _ rfl,rfl,rfl⟩,Ph,q⟩
 ·subst e
  cases r1
  obtain ⟨p0,rv,p,hz⟩:=I1.tuple hq
  exact wpAny_pyIter_tuple (show s1.heap.IsTuple a p0.toArray from p) ⟨s1.heap.objs.size,[s1.heap.objs.size],_,_,H1,rfl,I1.kept (t':=s1.toks) fun b o e=>Zi _ e,tj a _,⟨_,ZR _ rfl,rfl,rfl⟩,Ph,q⟩
 ·subst e
  obtain ⟨t,rfl⟩:=r1
  exact wpAny_pyIter_strU ⟨s1.heap.objs.size,[s1.heap.objs.size],_,_,H1,rfl,I1.kept (t':=s1.toks) fun b o e=>Zi _ e,yt z t _,⟨_,ZR _ rfl,rfl,rfl⟩,Ph,q⟩
def By {s:Shared} {h':Heap} {o:Obj} (hk:∀ b x,b ∉ [s.heap.objs.size]->(s.heap.push o).get? b=some x->h'.get? b=some x) (b:Addr) (x:Obj) (e:s.heap.get? b=some x):h'.get? b=some x :=
 hk b x (fun hm=>Yh _ (by have:=ZW e;rw [Zf.mp hm] at this;exact this)) (Zi _ e)
def yn (hc:X.calm=true):dN X (.builtin "sum") (fun xs H Q=>∃ p,∃ ns:Wg,xs=[.ref p]/\G2 X.K H p (ns.map V.int)/\Q (.int ns.sum) H):=by
 intro pins s J H xs us Q I rx h
 obtain ⟨p,ns,rfl,hq,q⟩:=h
 obtain ⟨u,rfl,ru⟩:=rx.one
 cases ru
 obtain ⟨p0,rv,pl,hz⟩:=I.list hq
 have hl:p < s.heap.objs.size:=by obtain ⟨_,e,_⟩:=pl.isList;exact ZW e
 refine call_sum_walkG (wpAny_pyIter_list pl.isList ⟨s.heap.objs.size,[s.heap.objs.size,p],[s.heap.objs.size],p0.toArray.size,_,_,fun i=>(ns[i]?).getD 0,rfl,Walks.list (A:=X.A.in1) (I.ok.hd hc) _ p (Zb hl) p0.toArray,
  ⟨⟨_,ZR _ rfl,rfl,rfl⟩,pl.isList.push _⟩,fun b hb=>?_,fun i v hP=>?_,fun h' tk t' hk=>⟨.int ns.sum,H,I.kept (By hk),⟨t',?_⟩,q⟩⟩)
 ·rw [Wt]
  rcases Zj.mp hb with rfl | hb
  ·exact Yp _
  ·rw [Zf.mp hb];exact Wx hl
 ·have hv:p0[i]?=some v:=by simpa using hP
  cases e:ns[i]? with
  | none =>
   have:=rv.none_of (i:=i) (by rw [ZP,e];rfl)
   rw [this] at hv;cases hv
  | some n =>
   obtain ⟨u,hu,ru⟩:=rv.get (i:=i) (x:=.int n) (by rw [ZP,e];rfl)
   rw [hu] at hv;cases hv
   obtain ⟨t,rfl⟩:=ru
   exact ⟨t,by simp [e]⟩
 ·have hlen:p0.toArray.size=ns.length:=by have:=rv.length;simp at this ⊢;exact Eq.symm this
  have:∀ k,k<=ns.length->preSum (fun i=>(ns[i]?).getD 0) k=(ns.take k).sum:=fun k=>by
   induction k with
   | zero=>intro _;simp [preSum]
   | succ k ih =>
    intro hk
    rw [List.take_succ,List.sum_append,preSum,ih (by exact Nat.le_of_succ_le hk)]
    cases e:ns[k]? <;> simp
  rw [hlen,this _ (Zp _),Wo]
def oS:OpR X (compareOp .Gt) (fun x y H Q=>∃ i j,x=.str i/\y=.str j/\Q (.bl (decide (j.cps.toList < i.cps.toList))) H):=by
 intro pins s J H x y v u Q I rx ry h
 obtain ⟨i,j,rfl,rfl,q⟩:=h
 obtain ⟨t,rfl⟩:=rx
 obtain ⟨t',rfl⟩:=ry
 exact PySem.P.gt_str ⟨.bl _,H,I,rfl,q⟩
def vH:OpR X (compareOp .GtE) (fun x y H Q=>∃ i j,x=.str i/\y=.str j/\Q (.bl (!decide (i.cps.toList < j.cps.toList))) H):=by
 intro pins s J H x y v u Q I rx ry h
 obtain ⟨i,j,rfl,rfl,q⟩:=h
 obtain ⟨t,rfl⟩:=rx
 obtain ⟨t',rfl⟩:=ry
 exact PySem.P.ge_str ⟨.bl _,H,I,rfl,q⟩
end
end L2
end
section
namespace VS
open PySem PySem.Spec PyProof.Rows L2
section
variable {G:Gx} {X:Cx} {a b c e tg:Expr} {es:List Expr} {ca cb cc:Ex} {cs:Hh} {pos p p1 p2 apos oe:Pos} {k k':Nat}
def D8 (H:Hp) (s:Tx) (ok:pV s):Kk G (L2.JA (sx s)) (s.map fun c=>T.str [c]) [] H:=by
 have sz:(sx s).cps.size=s.length:=rfl
 refine ⟨fun H2 _ _=>⟨fun i t h=>?_,fun i h=>(by rw [Zt] at h;show (sx s).cps.size<=i;lia)⟩,fun a h=>by simp at h⟩
 rw [ZP] at h
 obtain ⟨c,hc,rfl⟩:=Zy.mp h
 refine ⟨(by show i < (sx s).cps.size;have:=(Zg.mp hc).1;lia),fun x H3 ⟨e1,c',HX,e2⟩=>?_⟩
 subst e1
 have:c'=c:=by
  have h1:(sx s).cps[i]?=some c:=by simp [sx,hc]
  rw [h1] at HX;exact (Zn HX).symm
 subst this
 rw [e2]
 exact ⟨aD.refl _,[],.str [c'] ⟨(by show 1<=eD;decide),fun d hd=>by rw [Zf.mp hd];exact ok.2 c' (YS hc)⟩,fun a h=>by simp at h⟩
def fR (ha:PV G X a ca) (hK:X.K=G.K:=by rfl):PVI G X tg a (ik ca) :=
 PI.weak (Am ha) fun J H R hq=>by
  obtain ⟨M,U,m,l,s,e,k⟩:=hq
  unfold ik at e
  obtain ⟨⟨mx,x⟩,ea,e1⟩:=Zz.mp e
  refine ⟨M,U,mx,x,s,ea,fun v H' F e3 r3 f3=>?_⟩
  cases x with
  | lst ts =>
   cases e1
   obtain ⟨a',vs,Fs,rfl,rfl,GT,ra⟩:=r3.lst_inv
   exact .inl ⟨a',rfl,⟨vs,G2.of GT⟩,k _ H' _ e3 (zU X.K GT ra) f3.c⟩
  | tup ts =>
   cases e1
   obtain ⟨a',vs,Fs,rfl,rfl,GT,ra⟩:=r3.HU
   exact .inr (.inl ⟨a',rfl,⟨vs,HL.of GT⟩,k _ H' _ e3 (DM X.K GT ra) f3.c⟩)
  | str z =>
   cases e1
   obtain ⟨rfl,ok⟩:=r3.str_inv
   exact .inr (.inr ⟨_,rfl,k _ H' [] e3 (D8 H' z ok) fun a h=>by simp at h⟩)
  | _=>cases e1
theorem uK {H:Hp}:∀ {vs:List V} {l:Wa} {Fs:Xm} {ss:Wg},RpL G H vs l Fs->nP l=some ss->vs=ss.map V.int
 | _,_,_,_,.nil,e=>by cases e;rfl
 | _,_,_,_,.cons (t:=t) r q,e=>by
  cases t with
  | int s =>
   simp only [nP] at e
   obtain ⟨Il,e1,e2⟩:=Zy.mp e
   subst e2
   rw [uK q e1,r.int_inv]
   rfl
  | _=>cases e
def CC:fH G (fun xs H Q=>∃ p,∃ ns:Wg,xs=[.ref p]/\G2 G.K H p (ns.map V.int)/\Q (.int ns.sum) H) zV:=by
 intro M U H0 H l vs Fs m t Q A e k
 unfold zV at e
 split at e
 ·rename_i mx x
  obtain ⟨is,e1,e2⟩:=Zz.mp e
  cases e2
  obtain ⟨v,F,rfl,rfl,rx⟩:=(show RpL G H vs [.lst x] Fs from A.rp).one
  obtain ⟨a,ys,Gs,rfl,rfl,ha,ra⟩:=rx.lst_inv
  exact ⟨a,is,rfl,by rw [← uK ra e1];exact G2.of ha,bf k (.int _)⟩
 ·cases e
def CM:bootBuiltins ("sum" : Str)=some (.builtin "sum"):=by decide +kernel
def yV:bootBuiltins ("tuple" : Str)=some (.type "tuple"):=by decide +kernel
def w_sum (hm:X.mg "sum" = none) (ha:HI G X [e] cs) (hg:Gl X "sum" := by rfl) (hK:X.K=G.K:=by rfl) (hc:X.calm=true:=by rfl) (he:K1 e [] X:=by rfl):PV G X (.Call (.Name "sum" p) [e] [] pos) (eN zV cs) :=
 kC (yn hc) (hK ▸ CC) hg hm CM ha (he:=he) (hpl:=rfl)
def zw:fH G (fun xs H Q=>∃ p ys,xs=[.ref p]/\((G2 G.K H p ys/\∀ l,H l=none->Q (.ref l) (upd H l (.tup ys)))\/(HL G.K H p ys/\Q (.ref p) H))) kh:=by
 intro M U H0 H l vs Fs m t Q A e k
 unfold kh at e
 split at e
 ·rename_i mx x
  split at e
  ·rename_i hl
   cases e
   obtain ⟨v,F,rfl,rfl,rx⟩:=(show RpL G H vs [.lst x] Fs from A.rp).one
   obtain ⟨a,ys,Gs,rfl,rfl,ha,ra⟩:=rx.lst_inv
   have f:=(A.fp.each 0 _ _ rfl rfl).sub (Yw _ _)
   refine ⟨a,ys,rfl,.inl ⟨G2.of ha,fun q hq=>?_⟩⟩
   have sm:aD H (upd H q (.tup ys)):=cQ hq
   have r:Rp G (upd H q (.tup ys)) (.ref q) (.tup x) Gs.flatten:=.tup av (ra.same sm)
   exact k _ _ _ sm r (f.up r)
  ·cases e
 ·cases e
def BB (hm:X.mg "tuple" = none) (ha:HI G X [e] cs) (hg:Gl X "tuple" := by rfl) (hK:X.K=G.K:=by rfl) (he:K1 e [] X:=by rfl):PV G X (.Call (.Name "tuple" p) [e] [] pos) (eN kh cs) :=
 ji oo (hK ▸ zw) hg hm yV ha (he:=he) (hpl:=rfl)
def PK:R2:=fun x y H Q=>JR (fun i j=>.bl (decide (j < i))) x y H Q\/(∃ i j,x=.str i/\y=.str j/\Q (.bl (decide (j.cps.toList < i.cps.toList))) H)
def Sk:R2:=fun x y H Q=>JR (fun i j=>.bl (decide (j<=i))) x y H Q\/(∃ i j,x=.str i/\y=.str j/\Q (.bl (!decide (i.cps.toList < j.cps.toList))) H)
def zJ (s t:Tx):decide ((sx s).cps.toList < (sx t).cps.toList)=Kr s t:=by rw [nW];exact decide_eq_decide.mpr (by simp [sx])
def BP:eJ G PK Ke:=by
 intro M U H0 H x y u w F1 F2 m t Q tw e k
 obtain ⟨m1,x⟩:=x
 obtain ⟨m2,y⟩:=y
 obtain ⟨same,r1,r2,f1,f2,nd⟩:=tw
 unfold Ke oLt at e
 split at e
 ·rename_i e1 e2
  cases e1
  cases e2
  cases e
  exact .inl ⟨_,_,r1.int_inv,r2.int_inv,bf k (.bl _)⟩
 ·rename_i s _ s' e1 e2
  cases e1
  cases e2
  cases e
  refine .inr ⟨_,_,r1.str_inv.1,r2.str_inv.1,?_⟩
  rw [zJ]
  exact bf k (.bl _)
 ·cases e
def FO:eJ G Sk Nb:=by
 intro M U H0 H x y u w F1 F2 m t Q tw e k
 obtain ⟨m1,x⟩:=x
 obtain ⟨m2,y⟩:=y
 obtain ⟨same,r1,r2,f1,f2,nd⟩:=tw
 unfold Nb oLe at e
 split at e
 ·rename_i e1 e2
  cases e1
  cases e2
  cases e
  exact .inl ⟨_,_,r1.int_inv,r2.int_inv,bf k (.bl _)⟩
 ·rename_i s _ s' e1 e2
  cases e1
  cases e2
  cases e
  refine .inr ⟨_,_,r1.str_inv.1,r2.str_inv.1,?_⟩
  rw [zJ]
  exact bf k (.bl _)
 ·cases e
def zb:Tells Ke:=fun x y m t e=>kc y x m t e
def wQ:Tells Nb:=fun x y m t e=>yR y x m t e
def Gf (ha:PV G X a ca) (hb:PV G X b cb):PV G X (.Compare a [.Gt] [b] pos) (e2 Ke ca cb):=Dl (r:=PK) (Cc.or oS) BP ha hb (iX _)
def yW (ha:PV G X a ca) (hb:PV G X b cb):Iq G X (.Compare a [.Gt] [b] pos) (e2 Ke ca cb):=gL (r:=PK) (Cc.or oS) BP zb ha hb (iX _)
def Eo (ha:PV G X a ca) (hb:PV G X b cb):Iq G X (.Compare a [.GtE] [b] pos) (e2 Nb ca cb):=gL (r:=Sk) (ET.or vH) FO wQ ha hb (iX _)
def nY {r r':R2} {f g:Val->Val->Wb} (ok:eJ G r f) (UC:eJ G r' g) {J:L2.St} {H:Hp} {Q:VK} (h:tE G (dW f g ca cb cc) J H Q):tV r r' (tE G ca) (tE G cb) (tE G cc) J H Q:=by
 obtain ⟨M,U,m,t,s,e,k⟩:=h
 unfold dW at e
 obtain ⟨x,ea,e⟩:=Zz.mp e
 obtain ⟨y,eb,e⟩:=Zz.mp e
 obtain ⟨⟨mz,z⟩,ez,e⟩:=Zz.mp e
 refine zo s ea eb fun u w H2 F1 F2 tw=>ok M U H H2 x y u w F1 F2 mz z _ tw ez fun v H3 F e1 r1 f1=>?_
 cases z with
 | bl q =>
  refine ⟨q,r1.HG,?_⟩
  cases q with
  | false =>
   cases e
   rw [Zo Zd]
   exact k _ H3 [] (tw.same.trans e1) (.bl false) Fp.nil
  | true =>
   rw [Zq rfl]
   obtain ⟨z2,ec,e⟩:=Zz.mp (show (cc U).bind (fun z=>g y z)=some (m,t) from e)
   have sm:=tw.same.trans e1
   refine ⟨M,U,z2.1,z2.2,s.same sm,ec,fun w2 H4 F4 e4 r4 f4=>?_⟩
   refine UC M U H H4 y z2 w w2 F2 F4 m t Q ⟨sm.trans e4,(tw.r2.same e1).same e4,r4,tw.f2,f4.back sm,fun hx hy=>?_⟩ e fun v' H5 F5 e5 r5 f5=>k v' H5 F5 ((sm.trans e4).trans e5) r5 f5
   have f2:=tw.f2
   rw [hx] at f2
   rw [hy] at f4
   refine ZU.mpr ⟨f2.1,f4.1,fun a ha b hb z=>?_⟩
   subst z
   exact GS.pe ((tw.r2.same e1).GZ a ha) (f4.2 a hb)
 | _=>cases e
def oy (ha:PV G X a ca) (hb:PV G X b cb) (hc:PV G X c cc) (hm:lastMarks [.LtE,.LtE] [b,c]=false:=by with_unfolding_all rfl):PV G X (.Compare a [.LtE,.LtE] [b,c] pos) (dW oLe oLe ca cb cc) :=
 PE.weak (yg tu tu ha hb hc hm) fun J H Q h=>nY zv zv h
def u0 {x:Str} {i:Int} (h:∃ t,X.mg x=some (.int i t)) (hg:Gl X x:=by rfl) (hd:K3 x:=by decide):PV G X (.Name x pos) (Q2 i):=by
 obtain ⟨t,ht⟩:=h
 exact Aq (v:=.int i) hg ht ⟨t,rfl⟩ (fun H=>.int i) hd
end
end VS
end
section
namespace L2
open PySem PySem.Spec PyProof.Rows
section
variable {X:Cx}
def vG {α:Type} (l:List α) (n:Nat):∀ acc:List α,List.foldl (fun x1 x2=>x1++x2) acc.toArray (List.replicate n l.toArray)=(acc++(List.replicate n l).flatten).toArray:=by
 induction n with
 | zero=>intro acc;simp
 | succ n ih =>
  intro acc
  rw [YA,YT]
  have e:acc.toArray++l.toArray=(acc++l).toArray:=by simp
  rw [e,ih (acc++l),YA,ZX,ZF]
def Ab:OpR X (binaryOp .Mult) (fun x y H Q=>∃ (l:Wh) (k:Int),x=.str ⟨l.toArray⟩/\y=.int k/\-(2 ^ 62)<=k/\k < 2 ^ 62/\l.length * k.toNat<=sizeLine/\Q (.str ⟨(List.replicate k.toNat l).flatten.toArray⟩) H):=by
 intro pins s J H x y v u Q I rx ry h
 obtain ⟨l,k,rfl,rfl,h1,h2,hz,q⟩:=h
 obtain ⟨t,rfl⟩:=rx
 obtain ⟨t',rfl⟩:=ry
 have hlen:(⟨l.toArray⟩:Str).length=l.length:=rfl
 refine PySem.P.mul_str ?_ ?_ ?_ ?_
 ·rw [Bool.or_eq_false_iff]
  exact ⟨Za (by lia),Za (by lia)⟩
 ·intro h3 _ hh
  rw [hlen] at hh
  have hk:0 < k:=by lia
  have:(l.length:Int) * k<=16777216:=by
   have hz':l.length * k.toNat<=16777216:=hz
   have:((l.length * k.toNat:Nat):Int)<=16777216:=by lia
   rw [Int.natCast_mul] at this
   rwa [Int.toNat_of_nonneg (by lia)] at this
  have h5:(l.length:Int) * k<=2 ^ 63 - 1:=by lia
  have:=(Int.le_ediv_iff_mul_le hk).mpr h5
  lia
 ·intro _ _
  rw [hlen]
  exact Za (by show ¬ _ > _;exact Nat.not_lt.mpr hz)
 ·by_cases h3:k < 1
  ·rw [Zq h3]
   have e:k.toNat=0:=by lia
   rw [e] at q
   exact ⟨by decide,⟨.str ⟨#[]⟩,H,I.tok _,⟨_,rfl⟩,q⟩⟩
  ·rw [Zo h3]
   split
   ·rename_i hc
    have e:(List.replicate k.toNat l).flatten=l:=by
     rw [Bool.or_eq_true] at hc
     rcases hc with hc | hc
     ·have:k=1:=by simpa using hc
      subst this
      show (List.replicate 1 l).flatten=l
      simp
     ·have:l=[]:=by
       rw [hlen] at hc
       exact List.eq_nil_of_length_eq_zero (by simpa using hc)
      subst this
      simp
    rw [e] at q
    exact ⟨.str ⟨l.toArray⟩,H,I,⟨t,rfl⟩,q⟩
   ·have e:=vG l k.toNat []
    rw [Yv] at e
    rw [show (⟨l.toArray⟩:Str).cps=l.toArray from rfl,e]
    refine ⟨?_,⟨.str ⟨(List.replicate k.toNat l).flatten.toArray⟩,H,I.tok _,⟨s.toks,rfl⟩,q⟩⟩
    have hl:=len_rep l k.toNat
    show (⟨(List.replicate k.toNat l).flatten.toArray⟩:Str).length<=sizeLine
    show ((List.replicate k.toNat l).flatten.toArray).size<=sizeLine
    rw [ZZ,hl,Nat.mul_comm]
    exact hz
end
end L2
namespace VS
open PySem PySem.Spec PyProof.Rows L2
section
variable {G:Gx} {X:Cx} {a b c e tg:Expr} {es:List Expr} {ca cb cc:Ex} {cs:Hh} {pos p p1 p2 apos oe:Pos} {k k':Nat}
def Ag:eJ G (fun x y H Q=>∃ (l:Wh) (k:Int),x=.str ⟨l.toArray⟩/\y=.int k/\-(2 ^ 62)<=k/\k < 2 ^ 62/\l.length * k.toNat<=sizeLine/\Q (.str ⟨(List.replicate k.toNat l).flatten.toArray⟩) H) vC:=by
 intro M U H0 H x y u w F1 F2 m t Q tw e k
 obtain ⟨m1,x⟩:=x
 obtain ⟨m2,y⟩:=y
 obtain ⟨same,r1,r2,f1,f2,nd⟩:=tw
 unfold vC at e
 split at e
 ·rename_i _ ts _ j e1 e2
  cases e1
  cases e2
  split at e
  ·rename_i hc
   cases e
   have b1:=hc.2.1
   have b2:=hc.2.2
   unfold JY at b1 b2
   refine ⟨ts,j,r1.str_inv.1,r2.int_inv,by lia,by lia,hc.1,bf k (.str _ ⟨?_,fun c HX=>?_⟩)⟩
   ·rw [len_rep,Nat.mul_comm];exact hc.1
   ·obtain ⟨x,hx,S6⟩:=Wj.mp HX
    rw [(List.mem_replicate.mp hx).2] at S6
    exact r1.str_inv.2.2 c S6
  ·cases e
 ·cases e
def xV:PV G X (.Dict [] [] pos) (qO 0 []):=PE.weak yi fun J H Q hq=>by
 obtain ⟨M,U,m,t,s,e,k⟩:=hq
 cases (show some (Md.fr,T.GL 0 [])=some (m,t) from e)
 intro q hq
 have:Rp G (upd H q (.dK [])) (.ref q) (.GL 0 ((([]:List Key).map aP).zip [])) (q :: ([]:Xm).flatten):=.GL av rfl .nil
 exact k _ _ [q] (cQ hq) this ⟨by simp,fun b hb=>by rw [Zf.mp hb];exact hq⟩
end
section
variable {G:Gx} {X:Cx} {a b c e tg:Expr} {es:List Expr} {ca cb cc ce:Ex} {cs:Hh} {pos p p1 p2 apos oe pos':Pos} {k k':Nat}
def jt {body:List Stmt} {cb:Sx} (hp:PassesOwn (model X.prog X.w) X.A X.env X.xe) (hc:Iq G X c cc) (hb:gz G X body cb):PSV G X (.While c body [] pos) (lq cc cb) :=
 PS.weak (xW hp hc hb) fun D J H hq=>by
  obtain ⟨M,U,o,s,e,k⟩:=hq
  refine ⟨fun n J2 H2=>∃ M2 U2,SR G M2 U2 J2 H2/\G0 M U H M2 U2 H2/\dH cc cb n U2=some o,⟨wq,M,U,s,G0.refl M U H,e⟩,?_⟩
  rintro n J2 H2 ⟨M2,U2,s2,f2,e2⟩
  cases n with
  | zero=>cases (show (none:Option Out)=some o from e2)
  | succ n =>
   rw [dH] at e2
   obtain ⟨⟨mx,x⟩,ex,e3⟩:=Zz.mp e2
   obtain ⟨t,et,e4⟩:=Zz.mp e3
   refine ⟨M2,U2,mx,x,t,s2,ex,et,fun H3 sm=>?_⟩
   have s3:=s2.same sm
   have f3:G0 M U H M2 U2 H3:=f2.trans (G0.same sm)
   cases t with
   | false =>
    rw [Zo Zd] at e4
    cases e4
    show if false=true then _ else _
    rw [Zo Zd]
    exact k M2 J2 H3 s3 f3
   | true =>
    rw [Zq rfl] at e4
    show if true=true then _ else _
    rw [Zq rfl]
    obtain ⟨o',e5,e6⟩:=Zz.mp e4
    refine ⟨fun J4 H4=>∃ M4 U4,SR G M4 U4 J4 H4/\G0 M U H M4 U4 H4/\dH cc cb n U4=some o,fun J4 H4 q=>⟨n,Yp n,q⟩,M2,U2,o',s3,e5,?_⟩
    cases o' with
    | nx U4=>exact fun M4 J4 H4 s5 fb=>⟨M4,U4,s5,f3.trans fb,e6⟩
    | ct U4=>exact fun M4 J4 H4 s5 fb=>⟨M4,U4,s5,f3.trans fb,e6⟩
    | bk U4 =>
     cases (show some (Out.nx U4)=some o from e6)
     exact fun M4 J4 H4 s5 fb=>k M4 J4 H4 s5 (f3.trans fb)
    | rt v U4 =>
     cases (show some (Out.rt v U4)=some o from e6)
     exact fun u H4 F4 M4 J4 s5 fb r5 q5=>k u H4 F4 M4 J4 s5 (f3.trans fb) r5 (q5.back f3)
def OV:Sx:=fun _=>none
def ub {st:Stmt}:PSV G X st OV:=fun pins s J H D I ⟨_,_,_,_,e,_⟩=>nomatch (show (none:Option Out)=some _ from e)
def fg {H:Hp} {v:V} {l:List (T×T)} {F:Xa} (r:Rp G H v (.GL 0 l) F):∃ (a:Addr) (ks:List Key) (vs:List V) (ts:Wa) (Fs:Xm),v=.ref a/\F=a :: Fs.flatten/\H a=some (.dK (ks.zip vs))/\ks.length=vs.length/\l=(ks.map aP).zip ts/\RpL G H vs ts Fs:=by
 cases r with
 | GL h hl q=>exact ⟨_,_,_,_,_,rfl,rfl,h,hl,rfl,q⟩
def dI {H:Hp} {v:V} {t:T} {F:Xa} (r:Rp G H v t F) (h:iG t=true):∃ k:Key,v=kV k/\t=aP k:=by
 cases t with
 | int i=>exact ⟨.inl i,r.int_inv,rfl⟩
 | str s=>exact ⟨.inr (sx s),r.str_inv.1,by simp [aP,sx]⟩
 | _=>cases h
theorem kQ {H:Hp} {k:Key}:∀ {ks:List Key} {vs:List V} {ts:Wa} {Fs:Xm},ks.length=vs.length->RpL G H vs ts Fs →
  (fB ((ks.map aP).zip ts) (aP k)=none/\gx (ks.zip vs) k=none)\/∃ (i:Nat) (v:V) (t:T) (F:Xa),fB ((ks.map aP).zip ts) (aP k)=some t/\gx (ks.zip vs) k=some v/\vs[i]?=some v/\Fs[i]?=some F/\Rp G H v t F
 | [],[],_,_,_,.nil=>.inl ⟨rfl,rfl⟩
 | k' :: ks,v :: vs,_,_,hl,.cons (t:=t) (F:=F) (ts:=ts) (Fs:=Fs) r q=>by
  have e:eqT (aP k') (aP k)=decide (k'=k):=by
   rw [YI,decide_eq_true_eq]
   cases k with
   | inl i=>cases k' <;> simp [aP]
   | inr x =>
    obtain ⟨⟨x⟩⟩:=x
    cases k' with
    | inl j=>simp [aP]
    | inr y=>obtain ⟨⟨y⟩⟩:=y;simp [aP]
  by_cases hk:k'=k
  ·refine .inr ⟨0,v,t,F,?_,i7 hk,rfl,rfl,r⟩
   have e':eqT (aP k') (aP k)=true:=by rw [e];exact decide_eq_true hk
   simp only [fB,Zl,ZY,Z7,e']
   rfl
  ·have h1:fB (((k' :: ks).map aP).zip (t :: ts)) (aP k)=fB ((ks.map aP).zip ts) (aP k):=by
    have e':eqT (aP k') (aP k)=false:=by rw [e];exact Za hk
    simp only [fB,Zl,ZY,Z7,e']
   have h2:gx ((k' :: ks).zip (v :: vs)) k=gx (ks.zip vs) k:=by simp [gx,hk]
   rw [h1,h2]
   rcases kQ (k:=k) (by simpa using hl) q with h | ⟨i,v',t',F',a1,a2,a3,a4,a5⟩
   ·exact .inl h
   ·exact .inr ⟨i+1,v',t',F',a1,a2,by simpa using a3,by simpa using a4,a5⟩
def pJ (hu:X.A.units+1 < cLine):Ir X (fun x y H Q=>∃ a v,x=.ref a/\hU H a y (some v)/\Q v H):=by
 intro value slice pins s J H x y v u Q I rx ry h hs
 obtain ⟨a,w,rfl,g,q⟩:=h
 cases rx
 have hT:=rG I g
 unfold subscriptTail
 refine Zk ?_
 rw [getitemInPython_of_ne hT.not_modules]
 refine Zk (wpAny_specialOf hT PySem.F.slot_dict_getitem.lookup ?_)
 have fin:wpAny (model X.prog X.w) X.A (subscripted slice false (.ref a) u) (fun r s₃=>wpAny (model X.prog X.w) X.A (letTemporaryGo value (.ref a) r >>= fun _=>pure r) (EP X pins J Q) X.xe s₃) X.xe s:=by
  rw [hs]
  exact wpAny_operating (vP hu I g ry fun w' s3 I3 JH=>Zk (wpAny_letTemporaryGo (ZV ⟨w,H,I3,JH,q⟩)))
 first
  | exact ZV (Zk fin)
  | exact Zk (ZV (Zk fin))
  | exact Zk fin
def EN (K:Xj):R2:=fun x y H Q=>PJ K x y H Q\/∃ a v,x=.ref a/\hU H a y (some v)/\Q v H
def FC:eJ G (EN G.K) IF:=by
 intro M U H0 H x y u w F1 F2 m t Q tw e k
 obtain ⟨m1,x⟩:=x
 by_cases hd:∃ l,x=.GL 0 l
 ·obtain ⟨l,rfl⟩:=hd
  simp only [IF] at e
  split at e
  ·rename_i hk
   obtain ⟨t',e1,e2⟩:=Zy.mp e
   obtain ⟨a,ks,vs,ts,Fs,rfl,rfl,ha,hl,rfl,q⟩:=fg tw.r1
   obtain ⟨kk,rfl,ek⟩:=dI tw.r2 hk
   rw [ek] at e1
   rcases kQ (k:=kk) hl q with ⟨h1,_⟩ | ⟨i,v,t2,F,a1,a2,a3,a4,a5⟩
   ·rw [h1] at e1;cases e1
   ·rw [a1] at e1
    cases e1
    cases e2
    refine .inr ⟨a,v,rfl,by rw [← a2];exact hU.k ha,?_⟩
    have f:=((tw.f1.sub (Yw _ _)).sub (cq a4)).up a5
    exact k v H F (aD.refl _) a5 f
  ·cases e
 ·have e':ay (m1,x) y=some (m,t):=by
   simp only [IF] at e
   split at e
   ·rename_i l hx
    exact absurd ⟨_,rfl⟩ hd
   ·exact e
  exact .inl (uh M U H0 H (m1,x) y u w F1 F2 m t Q tw e' k)
def vS (hr:GH k X.A) (ha:PV G X a ca) (hb:PV G X b cb) (hs:gI b:=by intro _ _;rfl) (hK:X.K=G.K:=by rfl):PV G X (.Subscript a b pos) (e2 IF ca cb) :=
 PE.weak (mP (Ir.or jY (pJ (kb hr))) ha hb hs) fun J H Q h=>by rw [hK];exact lB FC h
def fV:T->V
 | .bl b=>.bl b
 | .int i=>.int i
 | .str s=>.str (sx s)
 | _=>.GJ
def Cg {H:Hp} {v:V} {t:T} {F:Xa} (r:Rp G H v t F) (h:flat t=true):v=fV t/\fL v=true:=by
 cases r with
 | GJ=>exact ⟨rfl,rfl⟩
 | bl b=>exact ⟨rfl,rfl⟩
 | int i=>exact ⟨rfl,rfl⟩
 | str s hl=>exact ⟨rfl,rfl⟩
 | _=>cases h
theorem EX:∀ {t u:T},flat t=true->flat u=true->Lq (fV t) (fV u)=eqT t u
 | .GJ,.GJ,_,_=>rfl
 | .GJ,.bl _,_,_=>rfl
 | .GJ,.int _,_,_=>rfl
 | .GJ,.str _,_,_=>rfl
 | .bl _,.GJ,_,_=>rfl
 | .bl _,.bl _,_,_=>rfl
 | .bl _,.int _,_,_=>rfl
 | .bl _,.str _,_,_=>rfl
 | .int _,.GJ,_,_=>rfl
 | .int _,.bl _,_,_=>rfl
 | .int _,.int _,_,_=>rfl
 | .int _,.str _,_,_=>rfl
 | .str _,.GJ,_,_=>rfl
 | .str _,.bl _,_,_=>rfl
 | .str _,.int _,_,_=>rfl
 | .str _,.str _,_,_=>xg
def xZ {H:Hp} {v w:V} {t u:T} {F F':Xa} (r:Rp G H v t F) (r':Rp G H w u F') (h1:flat t=true) (h2:flat u=true):Lq v w=eqT t u/\fL v=true/\fL w=true:=by
 obtain ⟨e1,f1⟩:=Cg r h1
 obtain ⟨e2,f2⟩:=Cg r' h2
 refine ⟨?_,f1,f2⟩
 rw [e1,e2]
 exact EX h1 h2
theorem qc {H:Hp} {x:V} {t:T} {F:Xa} (r:Rp G H x t F) (hx:flat t=true):∀ {vs:List V} {ts:Wa} {Fs:Xm},RpL G H vs ts Fs->ts.all flat=true->vs.all fL=true/\NY x vs=ts.any fun y=>eqT y t
 | _,_,_,.nil,_=>⟨rfl,rfl⟩
 | _,_,_,.cons r' q,h=>by
  rw [Xq,Ze] at h
  obtain ⟨h1,h2⟩:=qc r hx q h.2
  obtain ⟨e1,e2,e3⟩:=xZ r' r h.1 hx
  refine ⟨by rw [Xq,e2,h1];rfl,?_⟩
  unfold NY at h2 ⊢
  rw [Yf,Yf,h2,e1]
def FE (K:Xj):R2:=fun x y H Q=>OX K false x y H Q\/∃ a o,y=.ref a/\hU H a x o/\Q (.bl o.isSome) H
def uI (K:Xj):R2:=fun x y H Q=>OX K true x y H Q\/∃ a o,y=.ref a/\hU H a x o/\Q (.bl (!o.isSome)) H
def Bo (hu:X.A.units+1 < cLine):OpR X (compareOp .In) (fun x y H Q=>∃ a o,y=.ref a/\hU H a x o/\Q (.bl o.isSome) H):=by
 intro pins s J H x y v u Q I rx ry h
 obtain ⟨a,o,rfl,g,q⟩:=h
 cases ry
 exact Ga hu I g rx fun s3 I3=>⟨.bl o.isSome,H,I3,rfl,q⟩
def ym (hu:X.A.units+1 < cLine):OpR X (compareOp .NotIn) (fun x y H Q=>∃ a o,y=.ref a/\hU H a x o/\Q (.bl (!o.isSome)) H):=by
 intro pins s J H x y v u Q I rx ry h
 obtain ⟨a,o,rfl,g,q⟩:=h
 cases ry
 exact zX hu I g rx fun s3 I3=>⟨.bl (!o.isSome),H,I3,rfl,q⟩
def qG {M:GR} {U:VS.Env} {H0 H:Hp} {x y:Val} {u w:V} {F1 F2:Xa} {m:Md} {t:T} (tw:OE G M U H0 H x y u w F1 F2) (e:oi x y=some (m,t)) :
  ∃ b,m=.fr/\t=.bl b/\((∃ p xs,w=.ref p/\(G2 G.K H p xs\/HL G.K H p xs)/\fL u=true/\xs.all fL=true/\NY u xs=b)\/∃ a o,w=.ref a/\hU H a u o/\o.isSome=b):=by
 obtain ⟨m2,y⟩:=y
 simp only [oi] at e
 split at e
 ·split at e
  ·rename_i hk
   cases e
   obtain ⟨a,ks,vs,ts,Fs,rfl,rfl,ha,hl,rfl,q⟩:=fg tw.r2
   obtain ⟨kk,rfl,ek⟩:=dI tw.r1 hk
   refine ⟨_,rfl,rfl,.inr ⟨a,gx (ks.zip vs) kk,rfl,hU.k ha,?_⟩⟩
   rw [ek]
   rcases kQ (k:=kk) hl q with ⟨h1,h2⟩ | ⟨i,v,t2,F,a1,a2,_⟩
   ·rw [h1,h2];rfl
   ·rw [a1,a2];rfl
  ·cases e
 ·split at e
  ·rename_i hk
   cases e
   rw [Ze] at hk
   obtain ⟨a,vs,Fs,rfl,rfl,ha,ra⟩:=tw.r2.lst_inv
   obtain ⟨h1,h2⟩:=qc tw.r1 hk.1 ra hk.2
   have hf:fL u=true:=(xZ tw.r1 tw.r1 hk.1 hk.1).2.1
   exact ⟨_,rfl,rfl,.inl ⟨a,vs,rfl,.inl (G2.of ha),hf,h1,h2⟩⟩
  ·cases e
 ·split at e
  ·rename_i hk
   cases e
   rw [Ze] at hk
   obtain ⟨a,vs,Fs,rfl,rfl,ha,ra⟩:=tw.r2.HU
   obtain ⟨h1,h2⟩:=qc tw.r1 hk.1 ra hk.2
   have hf:fL u=true:=(xZ tw.r1 tw.r1 hk.1 hk.1).2.1
   exact ⟨_,rfl,rfl,.inl ⟨a,vs,rfl,.inr (HL.of ha),hf,h1,h2⟩⟩
  ·cases e
 ·cases e
def Er:eJ G (FE G.K) oi:=by
 intro M U H0 H x y u w F1 F2 m t Q tw e k
 obtain ⟨b,rfl,rfl,h⟩:=qG tw e
 rcases h with ⟨p,xs,rfl,hq,f1,f2,hb⟩ | ⟨a,o,rfl,g,hb⟩
 ·refine .inl ⟨p,xs,rfl,hq,f1,f2,?_⟩
  rw [hb]
  exact bf k (.bl b)
 ·refine .inr ⟨a,o,rfl,g,?_⟩
  rw [hb]
  exact bf k (.bl b)
def DG:eJ G (uI G.K) cP:=by
 intro M U H0 H x y u w F1 F2 m t Q tw e k
 unfold cP at e
 split at e
 ·rename_i m' b' e'
  cases e
  obtain ⟨b,rfl,Hb,h⟩:=qG tw e'
  cases Hb
  rcases h with ⟨p,xs,rfl,hq,f1,f2,hb⟩ | ⟨a,o,rfl,g,hb⟩
  ·refine .inl ⟨p,xs,rfl,hq,f1,f2,?_⟩
   rw [hb]
   exact bf k (.bl (!b'))
  ·refine .inr ⟨a,o,rfl,g,?_⟩
   rw [hb]
   exact bf k (.bl (!b'))
 ·cases e
def zC:Tells oi:=by
 intro x y m t e
 simp only [oi] at e
 split at e
 all_goals first | (split at e <;> first | (cases e;exact ⟨_,rfl⟩) | cases e) | cases e
def wM:Tells cP:=by
 intro x y m t e
 unfold cP at e
 split at e
 ·cases e;exact ⟨_,rfl⟩
 ·cases e
def FM (hr:GH k X.A) (ha:PV G X a ca) (hb:PV G X b cb) (hm:behindInMarks .In b=false:=by with_unfolding_all rfl) (hK:X.K=G.K:=by rfl):Iq G X (.Compare a [.In] [b] pos) (e2 oi ca cb):=gL (r:=FE X.K) (wC.or (Bo (kb hr))) (hK ▸ Er) zC ha hb hm
def tQ (hr:GH k X.A) (ha:PV G X a ca) (hb:PV G X b cb) (hm:behindInMarks .NotIn b=false:=by with_unfolding_all rfl) (hK:X.K=G.K:=by rfl):Iq G X (.Compare a [.NotIn] [b] pos) (e2 cP ca cb):=gL (r:=uI X.K) (qj.or (ym (kb hr))) (hK ▸ DG) wM ha hb hm
end
end VS
end
section
open PySem PyProof.Rows
namespace TS
variable {prog:Program} {w:World} {A:Around} {E:Z2} {s:Shared} {G:Keyed->Prop} {r:Keyed->Keyed->Bool}
def oW {vs:X8} {xs:Array Keyed} (hp:xs.Perm (pairsOf vs)):(xs.map (·.2)).toList.Perm vs/\(xs.map (·.2)).toList.map (fun v=>(v,v))=xs.toList:=by
 have N1:=Array.perm_iff_toList_perm.mp hp
 rw [pairsOf_toList] at N1
 constructor
 ·rw [Array.toList_map]
  refine (N1.map _).trans ?_
  rw [show (fun x:Keyed=>x.2)=Prod.snd from rfl,List.map_snd_zip (Zp _)]
 ·rw [Array.toList_map,Z4]
  conv=>rhs;rw [← XH xs.toList]
  apply XE
  intro p Vb
  have:=mem_zip_self (N1.mem_iff.mp Vb)
  exact Prod.ext this.1.symm rfl
end TS
end
section
namespace L2
open PySem PySem.Spec PyProof.Rows TS
section
variable {X:Cx}
theorem rY:∀ {us:X8},(∀ v∈us,∃ x t,v=Value.str x t)->aM ((us.map strOf).map V.str) us
 | [],_=>.nil
 | u :: us,h=>by
  obtain ⟨x,t,rfl⟩:=h u (Zu ..)
  exact .cons ⟨t,rfl⟩ (rY fun v hv=>h v (Zw _ hv))
end
end L2
end
section
namespace VS
def xD {α:Type} (l:List α) (a b:Option Int):(cut l a b).length<=l.length:=by
 unfold cut
 simp only [YY,ZJ]
 omega
def BC {α:Type} (l:List α) (a b:Option Int) {x:α} (h:x∈cut l a b):x∈l:=by
 unfold cut at h
 exact XI (List.mem_of_mem_take h)
def xo {α:Type} (l:List α) (k:Nat):cut l none (some (k:Int))=l.take k:=by
 have h:¬ ((k:Int) < 0):=by lia
 by_cases h2:k<=l.length
 ·simp [cut,clip,h,Yb h2]
 ·rw [Yl (by lia)]
  simp [cut,clip,h,Wp (Xr h2)]
def dF {tg:Tg} {it:JA} {body:Sx} {U:Env} {m:Md} {l:Wa} (e:it U=some (m,l)) (h:Sn m=true):gA tg it body U=forL tg body l U:=by
 unfold gA
 rw [e]
 exact Zq h
def cN {g:Fn} {as:Hh} {U:Env} {xs:Wc} {t:T} (h:as U=some xs) (h2:g (trees xs)=some (.fr,t)):bW g as U=some (.fr,t):=by
 simp only [bW,h,Zx,h2]
def aI {i:Nat} {e:Ex} {U:Env} {m:Md} {t:T} (h:e U=some (m,t)) (hm:m ≠ .bo) (hi:i < U.length):aH i e U=some (.nx (U.set i (some (.pu t)))):=by
 simp only [aH,h,Zx]
 cases m with
 | bo=>exact absurd rfl hm
 | _=>simp [hi]
end VS
end
section
namespace VS
open PySem PySem.Spec PyProof.Rows L2
def EG {a b c:Tx} (h:a < b) (h':¬ c < b):a < c:=by
 by_cases e:a < c
 ·exact e
 ·exact absurd (List.lt_of_le_of_lt (List.not_lt.mp e) h) h'
theorem jT (x:Tx):∀ l:List Tx,(m8 x l).Perm (x :: l)
 | []=>List.Perm.refl _
 | y :: r=>by
  unfold m8
  split
  ·exact ((jT x r).cons y).trans (List.Perm.swap _ _ _)
  ·exact List.Perm.refl _
theorem i9:∀ l:List Tx,(eR l).Perm l
 | []=>List.Perm.refl _
 | x :: l=>(jT x _).trans ((i9 l).cons x)
theorem so (x:Tx):∀ {l:List Tx},l.Pairwise (fun a b=>¬ b < a)->(m8 x l).Pairwise (fun a b=>¬ b < a)
 | [],_=>by simp [m8]
 | y :: r,h=>by
  unfold m8
  rw [nW]
  obtain ⟨h1,h2⟩:=X5.mp h
  split
  ·rename_i c
   have c':y < x:=by simpa using c
   refine X5.mpr ⟨fun z hz=>?_,so x h2⟩
   rcases Zj.mp ((jT x r).mem_iff.mp hz) with rfl | hz
   ·exact fun z=>List.lt_irrefl _ (List.lt_trans c' z)
   ·exact h1 z hz
  ·rename_i c
   have c':¬ y < x:=by simpa using c
   refine X5.mpr ⟨fun z hz=>?_,h⟩
   rcases Zj.mp hz with rfl | hz
   ·exact c'
   ·exact fun w=>h1 z hz (EG w c')
theorem oK:∀ l:List Tx,(eR l).Pairwise (fun a b=>¬ b < a)
 | []=>List.Pairwise.nil
 | x :: l=>so x (oK l)
def pd {l l':List Tx} (h:l'.Perm l) (hp:l'.Pairwise (fun a b=>¬ b < a)):l'=eR l :=
 List.Perm.eq_of_pairwise (le:=fun a b=>¬ b < a) (fun a b _ _ h1 h2=>List.le_antisymm (List.not_lt.mp h1) (List.not_lt.mp h2)) hp (oK l) (h.trans (i9 l).symm)
def wX (s:Tx):(sx s).cps.toList=s:=rfl
def zc {ss:List Tx} {Il:List Str} (h:Il.Perm (ss.map sx)) (hp:Il.Pairwise (fun a b=>¬ b.cps.toList < a.cps.toList)):Il=(eR ss).map sx:=by
 have e:Il=(Il.map fun x=>x.cps.toList).map sx:=by
  rw [Z4]
  conv=>lhs;rw [← XH Il]
  apply XE
  intro x hx
  obtain ⟨s,_,rfl⟩:=Yg.mp (h.mem_iff.mp hx)
  show sx s=sx (sx s).cps.toList
  rw [wX]
 have e2:(Il.map fun x=>x.cps.toList)=eR ss:=by
  refine pd ?_ ?_
  ·have:=h.map fun x:Str=>x.cps.toList
   rw [Z4] at this
   have e3:((fun x:Str=>x.cps.toList) ∘ sx)=id:=by
    funext s
    exact wX s
   rw [e3,XH] at this
   exact this
  ·rw [Wv];exact hp
 rw [e,e2]
noncomputable def M6 (s:Tx):Bool:=decide (s.length<=eD) && s.all (fun c=>decide (c < 1114112))
def DW {s:Tx} (h:M6 s=true):pV s:=by
 unfold M6 at h
 simp at h
 exact h
section
variable {G:Gx} {X:Cx} {e:Expr} {cs:Hh} {p pos:Pos}
theorem uc {H:Hp}:∀ {ss:List Tx},(∀ s∈ss,pV s)->RpL G H (ss.map fun s=>V.str (sx s)) (ss.map T.str) (ss.map fun _=>[])
 | [],_=>.nil
 | s :: ss,h=>.cons (.str s (h s (Zu ..))) (uc fun x hx=>h x (Zw _ hx))
theorem rZ {α β:Type}:∀ (l:List α),(l.map fun _=>([]:List β)).flatten=[]
 | []=>rfl
 | _ :: l=>by simp
def xy {M:GR} {U:VS.Env} {H0 H:Hp} {ss:List Tx} {Q:VK} (k:∀ v H' F,aD H H'->Rp G H' v (.lst ((eR ss).map T.str)) F->Fp M U H0 .fr F->Q v H') (s0:aD H0 H) (tk:∀ s∈ss,pV s) :
  ∀ (l:Addr) (Il:List Str),H l=none->Il.Perm (ss.map sx)->Il.Pairwise (fun a b=>¬ b.cps.toList < a.cps.toList)->Q (.ref l) (upd H l (.lst (Il.map V.str))):=fun q Il hq hp hw=>by
 rw [zc hp hw]
 have sm:aD H (upd H q (.lst (((eR ss).map sx).map V.str))):=cQ hq
 have r0:=uc (G:=G) (H:=upd H q (.lst (((eR ss).map sx).map V.str))) fun s hs=>tk s ((i9 ss).mem_iff.mp hs)
 have r:Rp G (upd H q (.lst (((eR ss).map sx).map V.str))) (.ref q) (.lst ((eR ss).map T.str)) (q :: ((eR ss).map fun _=>[]).flatten):=.lst (by rw [av,Z4];rfl) r0
 rw [rZ] at r
 exact k _ _ _ sm r (Fp.new (s0.free hq) (by simp) Fp.nil)
theorem keys_str:∀ {ks:List Key} {ss:List Tx},strs? (ks.map aP)=some ss->ks=(ss.map sx).map Sum.inr
 | [],_,e=>by cases e;rfl
 | .inl i :: ks,_,e=>by cases e
 | .inr x :: ks,ss,e=>by
  simp only [Zl,aP,strs?] at e
  obtain ⟨Il,e1,e2⟩:=Zy.mp e
  subst e2
  rw [keys_str e1]
  simp [sx]
def wu:bootBuiltins ("sorted" : Str)=some (.builtin "sorted"):=by decide +kernel
end
end VS
end
section
namespace ST
open PySem PySem.Spec PyProof.Rows
variable {prog:Program} {w:World} {A:Around} {E:Z2} {s:Shared}
def Ew {Q:PySem.Fin->Shared->Prop} {E':Z2} (hh:A.handled=none) (h:∀ (h':Heap) (x:Addr),(∀ b o,s.heap.get? b=some o->h'.get? b=some o)->(∃ o,h'.get? x=some o/\o.cls=.type "StopIteration")->E' (.ref x) { s with heap:=h' }) :
  wpAny (model prog w) A (newExc (.type "StopIteration") [] >>= fun e=>raiseNew e) Q E' s:=by
 simp only [newExc,newTuple]
 refine Zk (Zk (XR (Zk (m:=firstArgMember _ _) (wpAny_of_eq (a:=Value.none) (by first | rfl | (simp only [firstArgMember];rfl)) (XR ?_ (by size_fits)))) (by size_fits)))
 simp only [raiseNew]
 refine Zk (wpAny_handled ?_)
 rw [hh]
 exact Zk (ZV (wpAny_throw (h _ _ (fun b o e=>Zi _ (Zi _ e)) ⟨_,ZR _ rfl,rfl⟩)))
end ST
end
section
namespace VS
open PySem PySem.Spec PyProof.Rows L2
inductive Ii (G:Gx) (H:Hp):List Ky->V->V->Prop
 | nil (v:V):Ii G H [] v v
 | fld {c k:Nat} {a dx:Addr} {fs:List (Str×V)} {u w:V} {ks:List Ky}:H a=some (.ins (G.ct (c+1)).1 dx fs)->fs.lookup ((G.ct (c+1)).2 k)=some u->Ii G H ks u w->Ii G H (.fld k :: ks) (.ref a) w
 | ix {a:Addr} {vs:List V} {i:Int} {j:Nat} {u w:V} {ks:List Ky}:H a=some (.lst vs)->HH vs.length i=some j->vs[j]?=some u->Ii G H ks u w->Ii G H (.at (.int i) :: ks) (.ref a) w
 | key {a:Addr} {gV:List (Key×V)} {k:Key} {u w:V} {ks:List Ky}:H a=some (.dK gV)->gx gV k=some u->Ii G H ks u w->Ii G H (.at (aP k) :: ks) (.ref a) w
 | un {v w:V} {ks:List Ky}:Ii G H ks v w->Ii G H (.un :: ks) v w
section
variable {G:Gx}
def pK {Fs:Xm} {i j:Nat} {F F':Xa} (nd:Fs.flatten.Nodup) (hi:Fs[i]?=some F) (hj:Fs[j]?=some F') (n:i ≠ j) {a:Addr} (ha:a∈F):a ∉ F':=by
 intro hb
 induction Fs generalizing i j with
 | nil=>simp at hi
 | cons G Gs ih =>
  rw [ZX,ZU] at nd
  cases i with
  | zero =>
   simp at hi;subst hi
   cases j with
   | zero=>exact n rfl
   | succ j=>exact nd.2.2 a ha a (cY (by simpa using hj) hb) rfl
  | succ i =>
   cases j with
   | zero =>
    simp at hj;subst hj
    exact nd.2.2 a hb a (cY (by simpa using hi) ha) rfl
   | succ j=>exact ih nd.2.1 (by simpa using hi) (by simpa using hj) (by lia)
def cF {Fs:Xm} {j:Nat} {F':Xa} {a:Addr} (h:a∈(Fs.set j F').flatten):a∈F'\/∃ i F,i ≠ j/\Fs[i]?=some F/\a∈F:=by
 obtain ⟨i,F,h1,h2⟩:=fY h
 by_cases e:i=j
 ·subst e
  rw [List.getElem?_set_self' ] at h1
  cases q:Fs[i]? with
  | none=>rw [q] at h1;cases h1
  | some _=>rw [q] at h1;cases h1;exact .inl h2
 ·rw [Yr (Ya e)] at h1
  exact .inr ⟨i,F,e,h1,h2⟩
theorem d8:∀ {Fs:Xm} {j:Nat} {F':Xa},Fs.flatten.Nodup->F'.Nodup->(∀ i F,i ≠ j->Fs[i]?=some F->∀ a∈F,a ∉ F')->(Fs.set j F').flatten.Nodup
 | [],_,_,h,_,_=>by simpa using h
 | G :: Gs,0,F',h,h',d=>by
  rw [ZX,ZU] at h
  rw [List.set_cons_zero,ZX,ZU]
  refine ⟨h',h.2.1,fun a ha b hb e=>?_⟩
  subst e
  obtain ⟨i,F,h1,h2⟩:=fY hb
  exact d (i+1) F (by lia) (by simpa using h1) a h2 ha
 | G :: Gs,j+1,F',h,h',d=>by
  rw [ZX,ZU] at h
  rw [List.set_cons_succ,ZX,ZU]
  refine ⟨h.1,d8 h.2.1 h' fun i F n hi=>d (i+1) F (by lia) (by simpa using hi),fun a ha b hb e=>?_⟩
  subst e
  rcases cF hb with z | ⟨i,F,n,h1,h2⟩
  ·exact d 0 G (by lia) rfl a ha z
  ·exact h.2.2 a ha a (cY h1 h2) rfl
theorem RpL.each {H H2:Hp}:∀ {vs:List V} {ts:Wa} {Fs:Xm},RpL G H vs ts Fs->(∀ (i:Nat) v t F,vs[i]?=some v->ts[i]?=some t->Fs[i]?=some F->Rp G H v t F->Rp G H2 v t F)->RpL G H2 vs ts Fs
 | _,_,_,.nil,_=>.nil
 | _,_,_,.cons r q,k=>.cons (k 0 _ _ _ rfl rfl rfl r) (RpL.each q fun i v t F a b c d=>k (i+1) v t F (by simpa using a) (by simpa using b) (by simpa using c) d)
theorem RpL.setAt {H H2:Hp}:∀ {vs:List V} {ts:Wa} {Fs:Xm} {j:Nat} {u:V} {x':T} {F':Xa},RpL G H vs ts Fs->vs[j]?=some u->Rp G H2 u x' F'->(∀ (i:Nat) v t F,i ≠ j->vs[i]?=some v->ts[i]?=some t->Fs[i]?=some F->Rp G H v t F->Rp G H2 v t F)->RpL G H2 vs (ts.set j x') (Fs.set j F')
 | _,_,_,_,_,_,_,.nil,h,_,_=>by simp at h
 | _,_,_,0,_,_,_,.cons r q,h,r',k=>by
  simp at h;subst h
  exact .cons r' (RpL.each q fun i v t F a b c d=>k (i+1) v t F (by lia) (by simpa using a) (by simpa using b) (by simpa using c) d)
 | _,_,_,j+1,_,_,_,.cons r q,h,r',k=>.cons (k 0 _ _ _ (by lia) rfl rfl rfl r) (RpL.setAt q (by simpa using h) r' fun i v t F n a b c d=>k (i+1) v t F (by lia) (by simpa using a) (by simpa using b) (by simpa using c) d)
def pI {H H2:Hp} {a:Addr} {o:HO} {vs:List V} {ts:Wa} {Fs:Xm} {j:Nat} {u:V} {x':T} {Fj OI:Xa} (ha:H a=some o) (ra:RpL G H vs ts Fs) (nd:(a :: Fs.flatten).Nodup) (hu:vs[j]?=some u) (hF:Fs[j]?=some Fj)
  (g:Chg G H u Fj x' H2 OI):H2 a=some o/\RpL G H2 vs (ts.set j x') (Fs.set j OI)/\(a :: (Fs.set j OI).flatten).Nodup/\(∀ b∈a :: (Fs.set j OI).flatten,b∈a :: Fs.flatten\/H b=none)/\∀ b o,b ∉ a :: Fs.flatten->H b=some o->H2 b=some o:=by
 rw [Zh] at nd
 have LD:∀ b∈Fj,b∈Fs.flatten:=fun b hb=>cY hF hb
 have WJ:∀ i F,i ≠ j->Fs[i]?=some F->∀ b∈F,b ∉ OI:=fun i F n hi b hb Hb=>by
  rcases g.sub b Hb with z | z
  ·exact pK nd.2 hi hF n hb z
  ·exact GS.pe (ra.GZ b (cY hi hb)) z
 refine ⟨g.keep a o (fun z=>nd.1 (LD a z)) ha,ra.setAt hu g.rp (fun i v t F n h1 h2 h3 r=>r.keep g.kept fun b hb o' ho=>g.keep b o' (pK nd.2 h3 hF n hb) ho),?_,fun b hb=>?_,fun b o' hb ho=>g.keep b o' (fun z=>hb (Zw _ (LD b z))) ho⟩
 ·rw [Zh]
  refine ⟨fun h=>?_,d8 nd.2 g.nd WJ⟩
  rcases cF h with z | ⟨i,F,n,h1,h2⟩
  ·rcases g.sub a z with z | z
   ·exact nd.1 (LD a z)
   ·rw [ha] at z;cases z
  ·exact nd.1 (cY h1 h2)
 ·rcases Zj.mp hb with rfl | hb
  ·exact .inl Zu
  ·rcases cF hb with z | ⟨i,F,n,h1,h2⟩
   ·rcases g.sub b z with z | z
    ·exact .inl (Zw _ (LD b z))
    ·exact .inr z
   ·exact .inl (Zw _ (cY h1 h2))
theorem qf {α β:Type}:∀ (as:List α) (bs:List β) (i:Nat) (a:α) (y:β),as[i]?=some a->(as.zip bs).set i (a,y)=as.zip (bs.set i y)
 | [],_,_,_,_,h=>by simp at h
 | a :: as,[],i,_,_,_=>by cases i <;> simp
 | a :: as,b :: bs,0,_,y,h=>by simp at h;subst h;rfl
 | a :: as,b :: bs,i+1,_,y,h=>by
  have:=qf as bs i _ y (by simpa using h)
  simp [this]
theorem ke {α β:Type} (p:α->Bool):∀ {as:List α} {bs:List β} {i:Nat},as.length=bs.length->(as.zip bs).findIdx? (fun q=>p q.1)=some i->∃ a b,as[i]?=some a/\bs[i]?=some b/\p a=true/\(as.zip bs).find? (fun q=>p q.1)=some (a,b)
 | [],[],_,_,h=>by simp at h
 | a :: as,b :: bs,i,hl,h=>by
  rw [ZY,X6] at h
  by_cases hp:p a=true
  ·rw [Zq hp] at h
   cases h
   exact ⟨a,b,rfl,rfl,hp,by simp [hp]⟩
  ·rw [Zo hp] at h
   obtain ⟨j,hj,rfl⟩:=Zy.mp h
   obtain ⟨a',b',h1,h2,h3,h4⟩:=ke p (by simpa using hl) hj
   exact ⟨a',b',by simpa using h1,by simpa using h2,h3,by simp [hp,h4]⟩
def kB (k k':Key):eqT (aP k') (aP k)=true ↔ k'=k:=by
 cases k with
 | inl i=>cases k' <;> simp [aP]
 | inr x =>
  obtain ⟨⟨x⟩⟩:=x
  cases k' with
  | inl j=>simp [aP]
  | inr y=>obtain ⟨⟨y⟩⟩:=y;simp [aP]
theorem uH {k:Key} {u:V}:∀ {ns:List Key} {ts:Wa} {vs:List V} {i:Nat},ns.length=ts.length->ns.length=vs.length->((ns.map aP).zip ts).findIdx? (fun q=>eqT q.1 (aP k))=some i->vs[i]?=some u->gx (ns.zip vs) k=some u
 | [],_,_,_,_,_,h,_=>by simp at h
 | n :: ns,t :: ts,v :: vs,i,h1,h2,h,hu=>by
  rw [Zl,ZY,X6] at h
  by_cases hp:eqT (aP n) (aP k)=true
  ·rw [Zq hp] at h
   cases h
   simp at hu;subst hu
   exact i7 ((kB k n).mp hp)
  ·rw [Zo hp] at h
   obtain ⟨j,hj,rfl⟩:=Zy.mp h
   have hn:n ≠ k:=fun z=>hp ((kB k n).mpr z)
   have:gx ((n :: ns).zip (v :: vs)) k=gx (ns.zip vs) k:=by simp [gx,hn]
   rw [this]
   exact uH (by simpa using h1) (by simpa using h2) hj (by simpa using hu)
 | _ :: _,[],_,_,h,_,_,_=>by simp at h
 | _ :: _,_ :: _,[],_,_,h,_,_=>by simp at h
def d6 {H:Hp} {v:V} {c:Nat} {q0:Nat×T} {fs:List (Nat×T)} {F:Xa} (r:Rp G H v (.obj (c+1) (q0 :: fs)) F):∃ (c':Nat) (a dx:Addr) (b:Bool) (ks:Wh) (vs:List V) (ts:Wa) (Fs:Xm),c+1=c'+1/\v=.ref a/\q0=(0,.bl b)/\fs=ks.zip ts/\F=a :: Fs.flatten ∧
  H a=some (.ins (G.ct (c'+1)).1 dx ((ks.map (G.ct (c'+1)).2).zip vs))/\ks.length=vs.length/\(b=true->G.me 0=some (.ref a))/\RpL G H vs ts Fs:=by
 generalize hz:T.obj (c+1) (q0 :: fs)=z at r
 cases r with
 | ins h l m q =>
  cases hz
  exact ⟨_,_,_,_,_,_,_,_,rfl,rfl,rfl,rfl,rfl,h,l,m,q⟩
 | _=>cases hz
def kW {H:Hp} {v:V} {m:Nat} {t:T} {F:Xa} (r:Rp G H v (.obj 0 [(0,.bl true),(m,t)]) F):∃ a,v=.ref a/\G.me m=some (.ref a)/\Rp G H (.ref a) t F:=by
 generalize hz:T.obj 0 [(0,.bl true),(m,t)]=z at r
 cases r with
 | mk h q =>
  cases hz
  exact ⟨_,rfl,h,q⟩
 | _=>cases hz
def sJ {c k0:Nat} (inj:∀ c k k':Nat,(G.ct c).2 k=(G.ct c).2 k'->k=k') {ns:Wh} {vs:List V} {ts:Wa} {u:V} {i:Nat} (hl:ns.length=vs.length) (h1:(ns.zip ts).findIdx? (fun q=>q.1 == k0)=some i) (g1:ns[i]?=some k0) (u1:vs[i]?=some u):((ns.map (G.ct c).2).zip vs).lookup ((G.ct c).2 k0)=some u:=by
 induction ns generalizing vs ts i with
 | nil=>simp at g1
 | cons a0 as ih =>
  cases vs with
  | nil=>simp at hl
  | cons b0 bs =>
   cases ts with
   | nil=>simp at h1
   | cons t0 ts =>
    rw [Zl,ZY,Yu]
    rw [ZY,X6] at h1
    by_cases q:(a0 == k0)=true
    ·rw [Zq q] at h1
     cases h1
     have:a0=k0:=by simpa using q
     subst this
     simp at u1
     simp [u1]
    ·rw [Zo q] at h1
     obtain ⟨j,hj,rfl⟩:=Zy.mp h1
     have:((G.ct c).2 k0 == (G.ct c).2 a0)=false:=by
      rw [ZM]
      intro z
      exact q (by simpa using (inj c _ _ z).symm)
     rw [this]
     exact ih (by simpa using hl) hj (by simpa using g1) (by simpa using u1)
def EF {α:Type} {f:T->Option (T×α)} {ks:List Ky} {t t':T} {y:α} (e:pm f (.un :: ks) t=some (t',y)):∃ m x z,t=.obj 0 [(0,.bl true),(m,x)]/\pm f ks x=some (z,y)/\t'=.obj 0 [(0,.bl true),(m,z)]:=by
 unfold pm at e
 split at e
 case h_6=>cases e
 all_goals first | (rename_i h0;cases h0;done) | skip
 all_goals
  rename_i h0
  cases h0
  obtain ⟨⟨z,y'⟩,e1,e2⟩:=Zy.mp e
  cases e2
  exact ⟨_,_,_,rfl,e1,rfl⟩
theorem ij {H:Hp} {α:Type} {f:T->Option (T×α)}:∀ (ks:List Ky) {v:V} {t t':T} {F:Xa} {y:α},(∀ c k k':Nat,(G.ct c).2 k=(G.ct c).2 k'->k=k')->Rp G H v t F->F.Nodup->pm f ks t=some (t',y) →
  ∃ w x F1 x',Ii G H ks v w/\Rp G H w x F1/\F1.Nodup/\f x=some (x',y)/\∀ H2 Lf,Chg G H w F1 x' H2 Lf->∃ F',Chg G H v F t' H2 F'
 | [],v,t,t',F,y,_,r,nd,e=>⟨v,t,F,t',.nil v,r,nd,e,fun H2 Lf g=>⟨Lf,g⟩⟩
 | .fld k :: ks,v,t,t',F,y,inj,r,nd,e=>by
  cases t with
  | obj c Rv =>
   cases c with
   | zero=>cases e
   | succ c =>
   cases Rv with
   | nil=>cases e
   | cons q0 fs =>
   obtain ⟨i,h1,e⟩:=Zz.mp e
   obtain ⟨p,h2,e⟩:=Zz.mp e
   obtain ⟨⟨z,y'⟩,e1,e2⟩:=Zy.mp e
   cases e2
   obtain ⟨c',a,dx,b,ns,vs,ts,Fs,ec,rfl,rfl,rfl,rfl,ha,hl,hb,ra⟩:=d6 r
   cases ec
   have Kf:ns.length=ts.length:=hl.trans ra.len.1
   obtain ⟨k0,x0,g1,g2,g3,g4⟩:=ke (fun n=>n == k) Kf h1
   have ek:k0=k:=by simpa using g3
   subst ek
   have ep:p=(k0,x0):=by
    have:(ns.zip ts)[i]?=some (k0,x0):=by rw [YV];exact ⟨g1,g2⟩
    rw [this] at h2;exact (Zn h2).symm
   subst ep
   obtain ⟨u,Fi,u1,u2,u3⟩:=ra.get i g2
   obtain ⟨w,x,F1,x',w1,w2,w3,w4,w5⟩:=ij ks inj u3 (((Zh.mp nd).2).sublist (cq u2)) e1
   refine ⟨w,x,F1,x',.fld (c:=c) ha (sJ inj hl h1 g1 u1) w1,w2,w3,w4,fun H2 Lf g=>?_⟩
   obtain ⟨T6,gi⟩:=w5 H2 Lf g
   obtain ⟨s1,s2,s3,s4,s5⟩:=pI ha ra nd u1 u2 gi
   refine ⟨_,gi.kept,s5,gi.GZ,?_,s3,s4⟩
   rw [qf ns ts i k0 z g1]
   exact .ins s1 hl hb s2
  | _=>cases e
 | .un :: ks,v,t,t',F,y,inj,r,nd,e=>by
  obtain ⟨m,x,z,rfl,e1,rfl⟩:=EF e
  obtain ⟨a,rfl,hm,rx⟩:=kW r
  obtain ⟨w,x0,F1,x',w1,w2,w3,w4,w5⟩:=ij ks inj rx nd e1
  refine ⟨w,x0,F1,x',.un w1,w2,w3,w4,fun H2 Lf g=>?_⟩
  obtain ⟨F',g'⟩:=w5 H2 Lf g
  exact ⟨F',g'.kept,g'.keep,g'.GZ,.mk hm g'.rp,g'.nd,g'.sub⟩
 | .at k :: ks,v,t,t',F,y,inj,r,nd,e=>by
  cases t with
  | lst l =>
   cases k with
   | int i =>
    obtain ⟨j,h1,e⟩:=Zz.mp e
    obtain ⟨x0,h2,e⟩:=Zz.mp e
    obtain ⟨⟨z,y'⟩,e1,e2⟩:=Zy.mp e
    cases e2
    obtain ⟨a,vs,Fs,rfl,rfl,ha,ra⟩:=r.lst_inv
    obtain ⟨u,Fi,u1,u2,u3⟩:=ra.get j h2
    obtain ⟨w,x,F1,x',w1,w2,w3,w4,w5⟩:=ij ks inj u3 (((Zh.mp nd).2).sublist (cq u2)) e1
    refine ⟨w,x,F1,x',.ix ha (by rw [ra.len.1];exact h1) u1 w1,w2,w3,w4,fun H2 Lf g=>?_⟩
    obtain ⟨T6,gi⟩:=w5 H2 Lf g
    obtain ⟨s1,s2,s3,s4,s5⟩:=pI ha ra nd u1 u2 gi
    exact ⟨_,gi.kept,s5,gi.GZ,.lst s1 s2,s3,s4⟩
   | _=>cases e
  | GL kd l =>
   cases kd with
   | zero =>
    have hk:iG k=true/\((l.findIdx? fun p=>eqT p.1 k).bind fun i=>(l[i]?).bind fun p=>(pm f ks p.2).map fun z=>(T.GL 0 (l.set i (p.1,z.1)),z.2))=some (t',y):=by
     cases k with
     | int i=>exact ⟨rfl,e⟩
     | str s=>exact ⟨rfl,e⟩
     | _=>cases e
    obtain ⟨hk,e⟩:=hk
    obtain ⟨i,h1,e⟩:=Zz.mp e
    obtain ⟨p,h2,e⟩:=Zz.mp e
    obtain ⟨⟨z,y'⟩,e1,e2⟩:=Zy.mp e
    cases e2
    obtain ⟨a,ns,vs,ts,Fs,rfl,rfl,ha,hl,rfl,ra⟩:=fg r
    have Kf:(ns.map aP).length=ts.length:=by rw [Zt];exact hl.trans ra.len.1
    obtain ⟨k0,x0,g1,g2,g3,g4⟩:=ke (fun n=>eqT n k) Kf h1
    have ep:p=(k0,x0):=by
     have:((ns.map aP).zip ts)[i]?=some (k0,x0):=by rw [YV];exact ⟨g1,g2⟩
     rw [this] at h2;exact (Zn h2).symm
    subst ep
    obtain ⟨kk,LP⟩:∃ kk:Key,k=aP kk:=by
     cases k with
     | int i=>exact ⟨.inl i,rfl⟩
     | str s=>exact ⟨.inr (sx s),by simp [aP,sx]⟩
     | _=>cases hk
    subst LP
    obtain ⟨u,Fi,u1,u2,u3⟩:=ra.get i g2
    obtain ⟨w,x,F1,x',w1,w2,w3,w4,w5⟩:=ij ks inj u3 (((Zh.mp nd).2).sublist (cq u2)) e1
    refine ⟨w,x,F1,x',.key ha ?_ w1,w2,w3,w4,fun H2 Lf g=>?_⟩
    ·exact uH (by simpa using Kf) hl h1 u1
    ·obtain ⟨T6,gi⟩:=w5 H2 Lf g
     obtain ⟨s1,s2,s3,s4,s5⟩:=pI ha ra nd u1 u2 gi
     refine ⟨_,gi.kept,s5,gi.GZ,?_,s3,s4⟩
     rw [qf (ns.map aP) ts i k0 z g1]
     exact .GL s1 hl s2
   | succ kd=>cases k <;> cases e
  | _=>cases k <;> cases e
end
section
variable {G:Gx}
def Ii.same {H H':Hp} (e:aD H H') {ks:List Ky} {v w:V} (p:Ii G H ks v w):Ii G H' ks v w:=by
 induction p with
 | nil v=>exact .nil v
 | fld h l _ ih=>exact .fld (e _ _ h) l ih
 | ix h l m _ ih=>exact .ix (e _ _ h) l m ih
 | key h l _ ih=>exact .key (e _ _ h) l ih
 | un _ ih=>exact .un ih
theorem Ii.split {H:Hp} {k:Ky} {w:V}:∀ {ks:List Ky} {v:V},Ii G H (ks++[k]) v w->∃ u,Ii G H ks v u/\Ii G H [k] u w
 | [],v,p=>⟨v,.nil v,p⟩
 | _ :: ks,_,.fld h l p=>let ⟨u,a,b⟩:=Ii.split (ks:=ks) p;⟨u,.fld h l a,b⟩
 | _ :: ks,_,.ix h l m p=>let ⟨u,a,b⟩:=Ii.split (ks:=ks) p;⟨u,.ix h l m a,b⟩
 | _ :: ks,_,.key h l p=>let ⟨u,a,b⟩:=Ii.split (ks:=ks) p;⟨u,.key h l a,b⟩
 | _ :: ks,_,.un p=>let ⟨u,a,b⟩:=Ii.split (ks:=ks) p;⟨u,.un a,b⟩
theorem fX {U:VS.Env} {s:Jh}:∀ {way:List Jh} {ks:List Ky},keys (way++[s]) U=some ks->∃ JU k,keys way U=some JU/\keys [s] U=some [k]/\ks=JU++[k]
 | [],ks,e=>by
  cases s with
  | fld k=>cases e;exact ⟨[],.fld k,rfl,rfl,rfl⟩
  | un=>cases e;exact ⟨[],.un,rfl,rfl,rfl⟩
  | ix c =>
   obtain ⟨x,h1,h2⟩:=Zz.mp (show (c U).bind (fun x=>(keys [] U).map (Ky.at x.2 :: ·))=some ks from e)
   cases h2
   exact ⟨[],.at x.2,rfl,by simp [keys,h1],rfl⟩
 | .fld k :: way,ks,e=>by
  obtain ⟨SF,h1,h2⟩:=Zy.mp (show (keys (way++[s]) U).map (Ky.fld k :: ·)=some ks from e)
  obtain ⟨JU,k',a,b,c⟩:=fX h1
  exact ⟨.fld k :: JU,k',by simp [keys,a],b,by rw [← h2,c];rfl⟩
 | .un :: way,ks,e=>by
  obtain ⟨SF,h1,h2⟩:=Zy.mp (show (keys (way++[s]) U).map (Ky.un :: ·)=some ks from e)
  obtain ⟨JU,k',a,b,c⟩:=fX h1
  exact ⟨.un :: JU,k',by simp [keys,a],b,by rw [← h2,c];rfl⟩
 | .ix c :: way,ks,e=>by
  obtain ⟨x,h0,h⟩:=Zz.mp (show (c U).bind (fun x=>(keys (way++[s]) U).map (Ky.at x.2 :: ·))=some ks from e)
  obtain ⟨SF,h1,h2⟩:=Zy.mp h
  obtain ⟨JU,k',a,b,d⟩:=fX h1
  exact ⟨.at x.2 :: JU,k',by simp [keys,h0,a],b,by rw [← h2,d];rfl⟩
def OR (G:Gx) (i:Nat) (way:List Jh):TE:=fun J H Q=>∃ M U t ks v w,SR G M U J H/\U[i]?=some (some (.ow t))/\J[i]?=some (some v)/\keys way U=some ks/\Ii G H ks v w/\∀ H',aD H H'->Q w H'
def Jz (G:Gx) (X:Cx) (e:Expr) (i:Nat) (way:List Jh):Prop:=PE X e (OR G i way)
def PE.JP {X:Cx} {e:Expr} {t:TE} {i:Nat} {way:List Jh} (h:PE X e t) (w:∀ J H Q,OR G i way J H Q->t J H Q):Jz G X e i way:=fun pins s J H Q I q=>h pins s J H Q I (w J H Q q)
variable {X:Cx} {e:Expr} {es:List Expr} {i:Nat} {way:List Jh} {pos pos' p1 apos oe:Pos} {c:Ex} {cs:Hh} {b:Expr} {k:Nat}
def bA (i:Nat) {x:Str} (hN:X.N[i]?=some x:=by exact rfl) (hv:IB X.env.scope x:=by exact .inl rfl) (hd:K3 x:=by exact rfl) (hcd:K4 x:=by exact rfl):Jz G X (.Name x pos) i [] :=
 PE.JP (fK hN hv hd hcd) fun J H Q hq=>by
  obtain ⟨M,U,t,ks,v,w,s,h1,h2,h3,h4,h5⟩:=hq
  cases (show some ([]:List Ky)=some ks from h3)
  cases h4
  exact ⟨v,h2,h5 H (aD.refl _)⟩
def EJ (h:Jz G X e i way):Jz G X e i (way++[.un]) :=
 PE.JP h fun J H Q hq=>by
  obtain ⟨M,U,t,ks,v,w,s,h1,h2,h3,h4,h5⟩:=hq
  obtain ⟨JU,k',a,b,rfl⟩:=fX h3
  cases (show some [Ky.un]=some [k'] from b)
  obtain ⟨u,p1,p2⟩:=h4.split
  cases p2 with
  | un q =>
   cases q
   exact ⟨M,U,t,JU,v,w,s,h1,h2,a,p1,h5⟩
structure HM (G:Gx) (K:Xj) (k:Nat) (f:Str):Prop where
 nm:∀ c,(G.ct (c+1)).2 k=f
 cl:∀ c,HZ K (G.ct (c+1)).1
 no:∀ c,aT K (G.ct (c+1)).1 f
def fF (k:Nat) {f:Str} (F:HM G X.K k f) (h:Jz G X e i way) (hb:attributeBase e f X.env (eval e X.env)=eval e X.env:=by exact rfl):Jz G X (.Attribute e f pos) i (way++[.fld k]) :=
 PE.JP (xN h hb) fun J H Q hq=>by
  obtain ⟨M,U,t,ks,v,w,s,h1,h2,h3,h4,h5⟩:=hq
  obtain ⟨JU,k',a,b,rfl⟩:=fX h3
  cases (show some [Ky.fld k]=some [k'] from b)
  obtain ⟨u,p1,p2⟩:=h4.split
  refine ⟨M,U,t,JU,v,u,s,h1,h2,a,p1,fun H' sm=>?_⟩
  cases p2 with
  | @fld c _ a dx fs u' _ _ ha hl q =>
   cases q
   rw [F.nm c] at hl
   exact ⟨a,_,dx,fs,w,rfl,sm a _ ha,F.cl c,F.no c,hl,h5 H' sm⟩
def Ca {kr:Nat} (hr:GH kr X.A) (h:Jz G X e i way) (hb:PV G X b c) (hs:gI b) (hK:X.K=G.K):Jz G X (.Subscript e b pos) i (way++[.ix c]) :=
 PE.JP (mP (Ir.or jY (pJ (kb hr))) h hb hs) fun J H Q hq=>by
  obtain ⟨M,U,t,ks,v,w,s,h1,h2,h3,h4,h5⟩:=hq
  obtain ⟨JU,k',a,b',rfl⟩:=fX h3
  obtain ⟨⟨mx,x⟩,ec,e2⟩:=Zz.mp (show (c U).bind (fun x=>(keys [] U).map (Ky.at x.2 :: ·))=some [k'] from b')
  cases e2
  obtain ⟨u,p1,p2⟩:=h4.split
  refine ⟨M,U,t,JU,v,u,s,h1,h2,a,p1,fun H1 sm=>⟨M,U,mx,x,s.same sm,ec,fun y H2 F2 Hy r2 f2=>?_⟩⟩
  have p3:=(p2.same sm).same Hy
  have q:=h5 H2 (sm.trans Hy)
  cases p3 with
  | @ix a vs i0 j u' _ _ ha hl hu q' =>
   cases q'
   refine .inl (.inl ⟨a,vs,i0,w,rfl,r2.int_inv,G2.of ha,jO hl hu,q⟩)
  | @key a gV kk u' _ _ ha hl q' =>
   cases q'
   refine .inr ⟨a,w,rfl,?_,q⟩
   have hy:y=kV kk:=by
    cases kk with
    | inl n=>exact r2.int_inv
    | inr z =>
     have:=r2.str_inv.1
     rw [this]
     simp [kV,sx]
   rw [hy,← hl]
   exact hU.k ha
@[simp] noncomputable def iC (i:Nat) (way:List Jh) (f:T->Wc->Option (T×Val)) (as:Hh) (U:VS.Env):Option (Val×VS.Env):=match U[i]? with
 | some (some (.ow t))=>(keys way U).bind fun ks=>(as U).bind fun xs=>(pm (fun x=>f x xs) ks t).map fun z=>(z.2,U.set i (some (.ow z.1)))
 | _=>none
def jW (G:Gx):Prop:=∀ c k k':Nat,(G.ct c).2 k=(G.ct c).2 k'->k=k'
def zy {T' id:String} {name:Str} {o:Expr} {r:V->List V->Hp->VK->Prop} {f:T->Wc->Option (T×Val)} (Jq:jW G) (pa:PlainAttrs T') (slot:Slot T' name id) (MF:typeOf (.builtin id)=pure (.type "method_descriptor")) (hm:Np X id r) (ok:uj G r f)
  (hT:∀ H v t F l z,Rp G H v t F->f t l=some z->Lz G.K T' v H) (ho:Jz G X o i way) (ha:HI G X (e :: es) cs) (hK:X.K=G.K)
  (G1:attributeBase o name X.env (eval o X.env)=eval o X.env)
  (Hf:((backTo oe (starEach (e :: es) X.env)).all (fun x=>!x.1) && (backToKw oe (keywordEach [] X.env)).all (fun x=>x.1.isSome)
   && decide ((e :: es).length+([]:List Keyword).length+(if ([]:List Keyword).isEmpty then 0 else 1) < 30))=true)
  (GV:(apos.endLine == oe.line)=true) (hs:K1 e es X) (GU:K2 oe es X)
  (IV:swapsWith (.Call (.Attribute o name apos) (e :: es) [] oe) none pos.line X.env=pure false) :
  PSV G X (.Expr (.Call (.Attribute o name apos) (e :: es) [] oe) pos) (sX (iC i way f cs)) :=
 PS.weak (kN (sy pa slot MF hm ho ha G1 Hf GV hs GU) IV) fun D J H hq=>by
  obtain ⟨M,U,out,s,e,k⟩:=hq
  refine L2.jy fun P_ k_=>?_
  unfold sX iC at e
  obtain ⟨⟨x',U'⟩,e1,e2⟩:=Zy.mp e
  split at e1
  ·rename_i t ht
   obtain ⟨ks,ek,e3⟩:=Zz.mp e1
   obtain ⟨l,el,e4⟩:=Zz.mp e3
   obtain ⟨⟨t',x2⟩,e5,e6⟩:=Zy.mp e4
   cases e6
   cases e2
   obtain ⟨v,h1,h2⟩:=s.rp _ _ ht
   obtain ⟨w,x,F1,x3,w1,w2,w3,w4,w5⟩:=ij ks Jq h2 (s.nd i t ht) e5
   refine k_ ?_
   refine ⟨M,U,t,ks,v,w,s,ht,h1,ek,w1,fun H0 Kq=>⟨by rw [hK];exact hT H0 w x _ l _ (w2.same Kq) w4,M,U,l,s.same Kq,el,fun vs H' Fs q1 q2 q3=>?_⟩⟩
   refine ok M U H H' w x x3 F1 l vs Fs x2 _ w2 w3 ⟨Kq.trans q1,q2,⟨fun n v' F' a1 a2=>(q3.each n v' F' a1 a2).back Kq,q3.nd⟩⟩ w4 fun u H2 F' g=>?_
   obtain ⟨F2,g2⟩:=w5 H2 F' g
   obtain ⟨z1,z2⟩:=s.mut ht h1 g2
   exact k _ J H2 z1 z2
  ·cases e1
end
section
variable {G:Gx} {X:Cx} {e o:Expr} {es:List Expr} {i:Nat} {way:List Jh} {pos pos' p1 apos oe:Pos} {c:Ex} {cs:Hh} {b:Expr} {k:Nat} {ce ck:Ex}
def jQ (k v:Val):T->Option (T×Unit)
 | .lst l=>match k.2 with
  | .int n=>(fit v).bind fun t=>(HH l.length n).map fun j=>(.lst (l.set j t),())
  | _=>none
 | .GL 0 l=>if iG k.2/\GO v.2/\l.length < eD then some (.GL 0 (dput l k.2 v.2),()) else none
 | _=>none
noncomputable def dA (i:Nat) (way:List Jh) (k e:Ex) (U:VS.Env):Option Out:=(e U).bind fun v=>match U[i]? with
 | some (some (.ow t))=>(keys way U).bind fun ks=>(k U).bind fun kv=>(pm (jQ kv v) ks t).map fun z=>.nx (U.set i (some (.ow z.1)))
 | _=>none
theorem RpL.putAt {H:Hp}:∀ {vs:List V} {ts:Wa} {Fs:Xm} (j:Nat) {u:V} {x:T} {F:Xa},RpL G H vs ts Fs->Rp G H u x F->RpL G H (vs.set j u) (ts.set j x) (Fs.set j F)
 | _,_,_,_,_,_,_,.nil,_=>.nil
 | _,_,_,0,_,_,_,.cons r q,r'=>.cons r' q
 | _,_,_,j+1,_,_,_,.cons r q,r'=>.cons r (RpL.putAt j q r')
theorem vq {H:Hp} {kk:Key} {xv:V} {t:T} (rv:Rp G H xv t []):∀ {ks:List Key} {vs:List V} {ts:Wa} {Fs:Xm},ks.length=vs.length->RpL G H vs ts Fs →
  ∃ Iw HF Ij,(ks.zip vs).map (fun kv=>if kv.1=kk then (kv.1,xv) else kv)=ks.zip Iw/\ks.length=Iw.length/\((ks.map aP).zip ts).map (fun p=>if eqT p.1 (aP kk) then (p.1,t) else p)=(ks.map aP).zip HF/\RpL G H Iw HF Ij/\Ij.flatten.Sublist Fs.flatten
 | [],[],_,_,_,.nil=>⟨[],[],[],rfl,rfl,rfl,.nil,Y7 _⟩
 | k :: ks,v :: vs,_,_,hl,.cons (t:=t0) (F:=F) (ts:=ts) (Fs:=Fs) r q=>by
  obtain ⟨Iw,HF,Ij,h1,h2,h3,h4,h5⟩:=vq rv (by simpa using hl) q
  by_cases hk:k=kk
  ·have e:eqT (aP k) (aP kk)=true:=(kB kk k).mpr hk
   refine ⟨xv :: Iw,t :: HF,[] :: Ij,?_,by simp [h2],?_,.cons rv h4,?_⟩
   ·rw [ZY,Zl,h1,ZY];simp [hk]
   ·rw [Zl,ZY,Zl,h3,ZY];simp [e]
   ·rw [ZX,ZX]
    exact h5.trans (YW _ _)
  ·have e:¬ eqT (aP k) (aP kk)=true:=fun z=>hk ((kB kk k).mp z)
   refine ⟨v :: Iw,t0 :: HF,F :: Ij,?_,by simp [h2],?_,.cons r h4,?_⟩
   ·rw [ZY,Zl,h1,ZY];simp [hk]
   ·rw [Zl,ZY,Zl,h3,ZY];simp [e]
   ·rw [ZX,ZX]
    exact List.Sublist.append (Y7 _) h5
theorem qD {kk:Key}:∀ {ks:List Key} {vs:List V} {ts:Wa},ks.length=vs.length->ks.length=ts.length->((ks.zip vs).any fun kv=>decide (kv.1=kk))=(((ks.map aP).zip ts).any fun p=>eqT p.1 (aP kk))
 | [],_,_,_,_=>by simp
 | k :: ks,v :: vs,t :: ts,h1,h2=>by
  rw [Zl,ZY,ZY,Yf,Yf,qD (by simpa using h1) (by simpa using h2)]
  have:decide (k=kk)=eqT (aP k) (aP kk):=by rw [YI,decide_eq_true_eq];exact (kB kk k).symm
  rw [this]
 | _ :: _,[],_,h,_=>by simp at h
 | _ :: _,_ :: _,[],_,h=>by simp at h
def p6 {H:Hp} {kk:Key} {xv:V} {t:T} (rv:Rp G H xv t []) {ks:List Key} {vs:List V} {ts:Wa} {Fs:Xm} (hl:ks.length=vs.length) (ra:RpL G H vs ts Fs) :
  ∃ (MB:List Key) (Iw:List V) (HF:Wa) (Ij:Xm),putK (ks.zip vs) kk xv=MB.zip Iw/\MB.length=Iw.length/\dput ((ks.map aP).zip ts) (aP kk) t=(MB.map aP).zip HF/\RpL G H Iw HF Ij/\Ij.flatten.Sublist Fs.flatten:=by
 have an:=qD (kk:=kk) hl (hl.trans ra.len.1)
 unfold putK dput
 rw [an]
 by_cases h:(((ks.map aP).zip ts).any fun p=>eqT p.1 (aP kk))=true
 ·rw [Zq h,Zq h]
  obtain ⟨Iw,HF,Ij,h1,h2,h3,h4,h5⟩:=vq (kk:=kk) rv hl ra
  exact ⟨ks,Iw,HF,Ij,h1,h2,h3,h4,h5⟩
 ·rw [Zo h,Zo h]
  refine ⟨ks++[kk],vs++[xv],ts++[t],Fs++[[]],?_,by simp [hl],?_,ra.append (.cons rv .nil),by simp⟩
  ·rw [List.zip_append hl];rfl
  ·rw [ZD,List.zip_append (by rw [Zt];exact hl.trans ra.len.1)];rfl
def B0:Aa:=fun o i v H Q=>Cb o i v H Q\/∃ a H4,o=.ref a/\ua H a i v H4/\Q H4
def zf (hu:X.A.units+1 < cLine):DE X B0:=by
 intro pins s J H o i v ov iv u Q I ro ri rv h
 rcases h with h | ⟨a,H4,rfl,g,q⟩
 ·exact set_list pins s J H o i v ov iv u Q I ro ri rv h
 ·cases ro
  exact wL hu I g ri rv fun s4 I4=>⟨H4,I4,q⟩
def jh {kr:Nat} (Jq:jW G) (hr:GH kr X.A) (ho:Jz G X o i way) (hk:PV G X b ck) (he:PV G X e ce)
  (ha:∀ v,assign (.Subscript o b pos') X.env v=(do
   let ov ← holding [v] (eval o X.env)
   let iv ← holding [v,ov] (eval b X.env)
   standAt pos'
   holding [v,ov,iv] (setItem ov iv v)
   release [v,ov,iv] []):=by exact fun _=>rfl) (hs:swapsWithSole [.Subscript o b pos'] e pos.line X.env=pure false:=by exact rfl) (hw:swappedStores [.Subscript o b pos'] e X.env=pure none:=by exact rfl)
  (h1:(assignEach [.Subscript o b pos'] X.env).map (·.2)=[assign (.Subscript o b pos') X.env]:=by exact rfl):PSV G X (.Assign [.Subscript o b pos'] e pos) (dA i way ck ce) :=
 PS.weak (tD he (tK ho hk (zf (kb hr)) ha) hs hw h1) fun D J H hq=>by
  obtain ⟨M,U,out,s,e,k⟩:=hq
  refine L2.jy fun P_ k_=>?_
  unfold dA at e
  obtain ⟨⟨mv,tv⟩,ev,e⟩:=Zz.mp e
  split at e
  ·rename_i t ht
   obtain ⟨ks,ek,e⟩:=Zz.mp e
   obtain ⟨⟨mk,tk⟩,LP,e⟩:=Zz.mp e
   obtain ⟨⟨t',y'⟩,e5,e6⟩:=Zy.mp e
   cases e6
   obtain ⟨v,g1,g2⟩:=s.rp _ _ ht
   obtain ⟨w,x,F1,x3,w1,w2,w3,w4,w5⟩:=ij ks Jq g2 (s.nd i t ht) e5
   refine k_ ?_
   refine ⟨M,U,mv,tv,s,ev,fun xv H1 Fv Im rv fv=>?_⟩
   refine ⟨M,U,t,ks,v,w,s.same Im,ht,g1,ek,w1.same Im,fun H2 Hy=>⟨M,U,mk,tk,(s.same Im).same Hy,LP,fun kv H3 Fk Jp rk fk=>?_⟩⟩
   have sm:aD H H3:=(Im.trans Hy).trans Jp
   have Lh:Rp G H3 xv tv Fv:=(rv.same Hy).same Jp
   have fin:∀ H4 F',Chg G H w F1 x3 H4 F'->D.nx J H4:=fun H4 F' g=>by
    obtain ⟨F2,Mg⟩:=w5 H4 F' g
    obtain ⟨z1,z2⟩:=s.mut ht g1 Mg
    exact k _ J H4 z1 z2
   refine L2.jy fun P_ k_=>?_
   cases x with
   | lst l =>
    cases tk with
    | int n =>
     obtain ⟨tt,et,e7⟩:=Zz.mp (show ((fit (mv,tv)).bind fun t=>(HH l.length n).map fun j=>(T.lst (l.set j t),()))=some (x3,y') from w4)
     obtain ⟨j,ej,e8⟩:=Zy.mp e7
     cases e8
     have em:=ki et
     cases em
     obtain ⟨a,vs,Fs,rfl,rfl,GT,ra⟩:=w2.lst_inv
     have Jw:H3 a=some (.lst vs):=sm a _ GT
     have nd:=Zh.mp w3
     have na:a ∉ Fv:=fun z=>by rw [fv.2 a z] at GT;cases GT
     have m3:GS (H3 a):=by rw [Jw];exact True.intro
     have off:∀ bb∈Fs.flatten,bb ∉ Fv:=fun bb hb hv=>GS.pe (ra.GZ bb hb) (fv.2 bb hv)
     refine k_ ?_
     refine .inl ⟨a,vs,n,j,rfl,rk.int_inv,Jw,by rw [← tq,ra.len.1];exact ej,fin _ (a :: (Fs.set j Fv).flatten) ?_⟩
     have keep:∀ {u:V} {x:T} {F:Xa},Rp G H3 u x F->a ∉ F->Rp G (upd H3 a (.lst (vs.set j xv))) u x F:=fun r hn=>r.keep (Kept.upd (.inl m3)) fun bb hb o' Ju=>by rw [aA (fun z=>hn (by rw [← z];exact hb))];exact Ju
     refine Chg.upd sm Zu m3 (.lst av ((((ra.same sm).off m3 nd.1)).putAt j (keep Lh na))) ?_ ?_
     ·rw [Zh]
      refine ⟨fun h=>?_,d8 nd.2 fv.1 fun i' F' _ hi bb hb=>off bb (cY hi hb)⟩
      rcases cF h with z | ⟨i',F',_,h1,h2⟩
      ·exact na z
      ·exact nd.1 (cY h1 h2)
     ·intro bb hb
      rcases Zj.mp hb with rfl | hb
      ·exact .inl Zu
      ·rcases cF hb with z | ⟨i',F',_,h1,h2⟩
       ·exact .inr (fv.2 bb z)
       ·exact .inl (Zw _ (cY h1 h2))
    | _=>cases w4
   | GL kd l =>
    cases kd with
    | zero =>
     have hc:(iG tk=true/\GO tv=true/\l.length < eD)/\x3=.GL 0 (dput l tk tv):=by
      have Mr:(if iG tk/\GO tv/\l.length < eD then some (T.GL 0 (dput l tk tv),()) else none)=some (x3,y'):=w4
      split at Mr
      ·rename_i hc
       cases Mr
       exact ⟨hc,rfl⟩
      ·cases Mr
     obtain ⟨⟨c1,c2,c3⟩,rfl⟩:=hc
     have eF:=Lh.GO c2
     subst eF
     obtain ⟨a,ns,vs,ts,Fs,rfl,rfl,GT,hl,rfl,ra⟩:=fg w2
     obtain ⟨kk,rfl,La⟩:=dI rk c1
     subst La
     have Jw:H3 a=some (.dK (ns.zip vs)):=sm a _ GT
     have m3:GS (H3 a):=by rw [Jw];exact True.intro
     have nd:=Zh.mp w3
     obtain ⟨MB,Iw,HF,Ij,q1,q2,q3,q4,q5⟩:=p6 (kk:=kk) Lh hl (ra.same sm)
     have ln:(ns.zip vs).length < sizeLine:=by
      have:((ns.map aP).zip ts).length < 16777216:=c3
      rw [Yq,Zt] at this
      rw [Yq]
      have:=ra.len.1
      have:(sizeLine:Nat)=16777216:=rfl
      lia
     refine k_ ?_
     refine .inr ⟨a,_,rfl,ua.k Jw ln,fin _ (a :: Ij.flatten) ?_⟩
     rw [q1,q3]
     refine Chg.upd sm Zu m3 (.GL av q2 (q4.off m3 fun z=>nd.1 (q5.subset z))) ?_ ?_
     ·exact Zh.mpr ⟨fun z=>nd.1 (q5.subset z),nd.2.sublist q5⟩
     ·intro bb hb
      rcases Zj.mp hb with rfl | hb
      ·exact .inl Zu
      ·exact .inl (Zw _ (q5.subset hb))
    | succ n=>cases w4
   | _=>cases w4
  ·cases e
end
def CD {K:Xj} {H:Hp} {a:Addr} {ns:Wg} (hO:xQ H) (hS:G2 K H a (ns.map V.int)):lQ K H a ns:=by
 rcases hS with h | h
 ·rcases h with h | h
  ·rcases hO a with z | ⟨o,xs,z⟩
   ·rw [z] at h;cases h
   ·rw [z] at h;cases h
  ·exact .inl h
 ·exact .inr h
def Cu {G:Gx} {g:Fn} {H:Hp} {a:Addr} {ns:Wg} {E:XK} (hg:g [.Hw ns]=some (.fr,.bl true)) (hO:xQ H) (hS:G2 G.K H a (ns.map V.int)):JB G g [.ref a] H (fun v _=>v=.bl true) E :=
 ⟨[.Hw ns],[[]],.fr,.bl true,.cons (.Hw (CD hO hS)) .nil,hg,fun v H' F _ r _=>r.HG⟩
def Of (K:Xj):Gx:=⟨K,fun _=>(0,fun k=>⟨#[k]⟩),fun _=>none⟩
end VS
end
section
namespace L2
open PySem PySem.Spec PyProof.Rows
section
variable {X:Cx}
def sO (hc:X.calm=true):dN X (.type "list") (fun xs H Q=>∃ x:Str,xs=[.str x]/\x.cps.size<=sizeLine/\∀ l,H l=none->Q (.ref l) (upd H l (.lst (x.cps.toList.map fun c=>V.str ⟨#[c]⟩)))):=by
 intro pins s J H xs us Q I rx h
 obtain ⟨x,rfl,hz,q⟩:=h
 obtain ⟨u,rfl,t,rfl⟩:=vals1 rx
 refine call_list_str (I.ok.hd hc) x t (fun h' tk acc c kp g ha=>?_) hz
 have hv:aM (x.cps.toList.map fun c=>V.str ⟨#[c]⟩) acc.toList:=by
  have key:∀ (cs:Wh) (vs:X8),cs.length=vs.length->(∀ (i:Nat) (v:Value),vs[i]?=some v->∃ c u,cs[i]?=some c/\v=.str ⟨#[c]⟩ u)->aM (cs.map fun c=>V.str ⟨#[c]⟩) vs:=by
   intro cs
   induction cs with
   | nil =>
    intro vs hl _
    cases vs with
    | nil=>exact .nil
    | cons v vs=>simp at hl
   | cons c cs ih =>
    intro vs hl hg
    cases vs with
    | nil=>simp at hl
    | cons v vs =>
     obtain ⟨d,u,e1,e2⟩:=hg 0 v rfl
     cases e1
     exact .cons ⟨u,e2⟩ (ih vs (by simpa using hl) fun i w hw=>by simpa using hg (i+1) w (by simpa using hw))
  refine key _ _ (by rw [YQ,YQ,ha.1]) fun i v hi=>?_
  rw [Yk] at hi
  obtain ⟨d,u,e1,e2⟩:=ha.2 i v hi
  exact ⟨d,u,by rw [Yk];exact e1,e2⟩
 refine ⟨.ref s.heap.objs.size,_,I.laid kp (Zp _) (show bR X.prog X.w _ h' _ (.lst (x.cps.toList.map fun c=>V.str ⟨#[c]⟩)) from ⟨by rw [Zt,YQ];exact hz,acc.toList,c,hv,g⟩),rfl,q _ (I.hok.fresh (Zp _))⟩
end
end L2
namespace VS
open PySem PySem.Spec PyProof.Rows L2
section
variable {G:Gx} {X:Cx} {a b c e tg:Expr} {es:List Expr} {ca cb cc ce ck:Ex} {cs:Hh} {pos p p1 p2 apos oe pos':Pos} {k k' kr:Nat}
@[simp] def pj:Wc->Wb
 | [(m,.lst l)]=>JT m l
 | [(m,.tup l)]=>JT m l
 | [(_,.str s)]=>JT .fr (s.map fun c=>.str [c])
 | _=>none
def xU:fH G (fun xs H Q=>BW G.K xs H Q\/∃ x:Str,xs=[.str x]/\x.cps.size<=sizeLine/\∀ l,H l=none->Q (.ref l) (upd H l (.lst (x.cps.toList.map fun c=>V.str ⟨#[c]⟩)))) pj:=by
 intro M U H0 H l vs Fs m t Q A e k
 unfold pj at e
 split at e
 ·exact .inl (uk M U H0 H _ vs Fs m t Q A e k)
 ·exact .inl (uk M U H0 H _ vs Fs m t Q A e k)
 ·rename_i mx x
  obtain ⟨v,F,rfl,rfl,rx⟩:=(show RpL G H vs [.str x] Fs from A.rp).one
  have ts:=rx.str_inv.2
  refine .inr ⟨sx x,by rw [rx.str_inv.1],?_,fun q hq=>?_⟩
  ·have:=ts.1
   simp only [sx,ZZ]
   exact this
  ·have ec:(sx x).cps.toList.map (fun c=>V.str ⟨#[c]⟩)=(x.map fun c=>[c]).map fun s=>V.str (sx s):=by
    simp [sx]
   have et:(x.map fun c=>T.str [c])=(x.map fun c=>[c]).map T.str:=by simp
   rw [ec]
   rw [et] at e
   have r0:=uc (G:=G) (H:=H) (ss:=x.map fun c=>[c]) fun s hs=>by
    obtain ⟨c,hc,rfl⟩:=Yg.mp hs
    exact ⟨by show 1<=eD;decide,fun y hy=>by rw [Zf.mp hy];exact ts.2 c hc⟩
   refine jo A.same e r0 ?_ k q hq
   rw [rZ]
   exact Fp.nil
 ·cases e
def BD (hm:X.mg "list" = none) (ha:HI G X [e] cs) (hg:Gl X "list" := by rfl) (hK:X.K=G.K:=by rfl) (hc:X.calm=true:=by rfl) (he:K1 e [] X:=by rfl):PV G X (.Call (.Name "list" p) [e] [] pos) (eN pj cs) :=
 ji (qi.or (sO hc)) (hK ▸ xU) hg hm BI ha (he:=he) (hpl:=rfl)
end
end VS
end
section
namespace ST
open PySem PySem.Spec PyProof.Rows
variable {prog:Program} {w:World} {A:Around} {E:Z2} {s:Shared}
abbrev dO (es:Array DictEntry) (ep:Nat):Obj:={ cls:=.type "dict",data:=.dict es ep }
abbrev kO (d:Addr) (i n ep:Nat):Obj:={ cls:=.type "dict_keyiterator",data:=.fields #[.ref d,.int i 0,.int n 0,.int ep 0] }
def zG {d:Addr} {es:Array DictEntry} {ep:Nat} {Q:Z2} (hd:(d == sysModules)=false) (hm:s.heap.get? d=some (dO es ep)) (q:Q (.ref s.heap.objs.size) { s with heap:=s.heap.push (kO d 0 es.size ep) }) :
  wpAny (model prog w) A (pyIter (.ref d)) Q E s:=by
 have ty:s.TypeIs (.ref d) "dict" := ⟨_,hm,rfl⟩
 refine wpAny_pyIter_slot ty F.slot_dict_iter (XJ F.slot_dict_iter ty F.entry_dict_iter (show wpAny _ _ (Builtin.«dict.__iter__» _) _ _ _ from ?_) (F.args_dict_iter_1 _))
 unfold Builtin.«dict.__iter__» Builtin.Dict.dictSlotNone Builtin.Dict.showsAll
 refine Zk (Zk (wpAny_notOrdered_dict ty (show wpAny _ _ (pure (Value.ref d)) _ _ s from ZV (Zk (m:=Builtin.Dict.addrOf (.ref d)) (ZV ?_)))))
 rw [Zo (by rw [hd];exact Zd)]
 exact Zk (ZV (Zk (wpAny_dictEntries hm rfl (Zk (wpAny_dictEpoch hm rfl (Zk (XR (ZV ⟨_,rfl, "dict_keyiterator",_,⟨_,ZR _ rfl,rfl⟩,YC.lookup,q⟩))))))))
def rW {I d:Addr} {i ep:Nat} {es:Array DictEntry} {Q:Wq->Shared->Prop} (hh:A.handled=none) (hI:s.heap.get? I=some (kO d i es.size ep)) (hm:s.heap.get? d=some (dO es ep))
  (h1:∀ e,es[i]?=some e->∀ h',Heap.SameBut I s.heap h'->h'.get? I=some (kO d (i+1) es.size ep)->Q (some e.key) { s with heap:=h' })
  (h2:es[i]?=none->∀ h',(∀ b o,b ≠ I->s.heap.get? b=some o->h'.get? b=some o)->Q none { s with heap:=h' }):wpAny (model prog w) A (pyNext (.ref I)) Q E s:=by
 have ty:s.TypeIs (.ref I) "dict_keyiterator" := ⟨_,hI,rfl⟩
 unfold pyNext
 refine Zk (wpAny_attempt (wpAny_callSpecial?_slot (name:=Str.ofString "__next__") ty YC (XJ YC ty F.entry_dict_keyiterator_next (YN
  (Q:=fun f s'=>∃ v,f=.done (.ret v)/\Q (some v) s') (E:=fun e s'=>∃ x,e=.ref x/\(∃ o,s'.heap.get? x=some o/\o.cls=.type "StopIteration")/\Q none s') ?_ (fun f s' ⟨v,e,q⟩=>⟨v,e,ZV q⟩) fun e s' ⟨x,e1,⟨o,g,c⟩,q⟩=>?_) (F.args_dict_keyiterator_next_1 _))))
 ·refine Zk (ZV (Zk (Zk (Zk (Xk ty (ZV (Zk (wpAny_fieldsOf hI rfl ?_))))))))
  have own:Builtin.Dict_items.ownsTuple "dict_keyiterator" = false:=rfl
  simp only [own,X7,↓reduceIte]
  refine (show wpAny _ _ (if (Value.ref d == Value.none)=true then _ else _) _ _ s from ?_)
  rw [Zo (fun e:(Value.ref d == Value.none)=true=>Zd e)]
  refine Zk (ZV (Zk (wpAny_dictEntries hm rfl ?_)))
  rw [Zo (by simp)]
  refine Zk (ZV (Zk (wpAny_dictEpoch hm rfl ?_)))
  rw [Zo (by simp)]
  refine ZV ?_
  simp only [show ¬ ((i:Int) < 0) from by lia,↓reduceIte,YF]
  cases he:es[i]? with
  | some e =>
   dsimp only
   have g1:(s.heap.update I (Obj.mapFields (·.setIfInBounds 1 (rawInt ((i:Int)+1))))).get? I=some (kO d (i+1) es.size ep):=Heap.get?_update_self _ hI rfl
   refine Zk (Zk (Xk ty (ZV (Zk (wpAny_isOneOf_keyiter ty ?_)))))
   refine (show wpAny _ _ (setField (.ref I) 1 (rawInt ((i:Int)+1)) >>= _) _ _ s from Zk (wpAny_setField hI rfl (by show 1 < 4;decide) (Zk (Y3 ?_))))
   refine Zk (wpAny_isOneOf_keyiter (s:={ s with heap:=s.heap.update I (Obj.mapFields (·.setIfInBounds 1 (rawInt ((i:Int)+1)))) }) ⟨_,g1,rfl⟩ ?_)
   refine (show wpAny _ _ (pure e.key) _ _ _ from ZV (ZV ⟨_,rfl,h1 e he _ (Heap.SameBut.update ..) g1⟩))
  | none =>
   dsimp only
   refine Zk (Zk (Xk ty (ZV ?_)))
   refine (show wpAny _ _ (setField (.ref I) 0 .none >>= _) _ _ s from Zk (wpAny_setField hI rfl (by show 0 < 4;decide) (Ew hh fun h' x kp hx=>⟨x,rfl,hx,h2 he h' fun b o hb e=>kp b o ?_⟩)))
   rw [XA _ _ (Ya hb)]
   exact e
 ·subst e1
  exact Zk (wpAny_isInstance (T := "StopIteration") (b:=true) ⟨o,g,c⟩ isSubtype_stop (ZV q))
end ST
end
section
namespace VS
open PySem PySem.Spec PyProof.Rows L2 TS
section
variable {G:Gx} {X:Cx} {a b c e o tg:Expr} {es:List Expr} {ca cb cc ce ck:Ex} {cs:Hh} {pos p p1 p2 apos oe pos':Pos} {k k' kr i:Nat}
abbrev Pr:=Int×Int
def kP (p:Pr):List Key:=[.inl p.1,.inl p.2]
end
end VS
namespace VS
open PySem PySem.Spec PyProof.Rows L2
def yO {G:Gx} {X:Cx} {i:Int} {j:Nat} {pos p:Pos}:PV G X (.UnaryOp .USub (.Constant (.int i) j p) pos) (Q2 (-i)) :=
 PE.weak (EE Dg qx) fun J H Q hq=>by
  obtain ⟨M,U,m,t,s,e,k⟩:=hq
  cases (show some (Md.fr,T.int (-i))=some (m,t) from e)
  exact ⟨i,rfl,k _ H [] (aD.refl _) (.int _) Fp.nil⟩
end VS
end
section
namespace VS
open PySem PySem.Spec PyProof.Rows L2
section
variable {G:Gx} {X:Cx} {a b c e o tg:Expr} {es:List Expr} {ca cb cc ce ck cv:Ex} {cs:Hh} {pos p p1 p2 apos oe pos' ap1 cp1 lp:Pos} {k k' kr i:Nat}
def Rp.Jl {H:Hp} {v:V} {ts:Wa} {F:Xa} (r:Rp G H v (.tup ts) F):∃ b vs Fs,v=.ref b/\H b=some (.tup vs)/\RpL G H vs ts Fs:=by
 cases r with
 | tup h q=>exact ⟨_,_,_,rfl,h,q⟩
end
end VS
end
section
namespace L2
open PySem PySem.Spec PyProof.Rows
section
variable {X:Cx} {tg:Expr} {pos:Pos}
def yP {o:Obj} {es:Array DictEntry} {ep:Nat} (h:o.ExactDict) (e:o.data=.dict es ep):o=ST.dO es ep:=by
 obtain ⟨c,d,dt,sl⟩:=o
 obtain ⟨h1,h2,h3⟩:=h
 simp only at h1 h2 h3 e
 subst h1 h2 h3 e
 rfl
end
end L2
end
section
namespace VS
open PySem PySem.Spec PyProof.Rows L2
section
variable {G:Gx} {X:Cx} {e b:Expr} {cs:Hh} {cb:Ex} {pos p p1 p2 kp apos oe:Pos} {k k' kr:Nat} {x:Str} {ps:List Str} {g:Fn}
def mU {a b c:Expr} {ca cb cc:Ex} (ha:PV G X a ca) (hb:PV G X b cb) (hc:PV G X c cc) (hm:lastMarks [.LtE,.Lt] [b,c]=false):Iq G X (.Compare a [.LtE,.Lt] [b,c] pos) (dW oLe oLt ca cb cc) :=
 PT.weak (sL tu qd ha hb hc hm) fun J H Q h=>ng h (fun U m r e=>by
  unfold dW at e
  obtain ⟨x,ea,e⟩:=Zz.mp e
  obtain ⟨y,eb,e⟩:=Zz.mp e
  obtain ⟨⟨mz,z⟩,ez,e⟩:=Zz.mp e
  cases z with
  | bl q =>
   cases q with
   | false=>cases e;exact ⟨_,rfl⟩
   | true =>
    obtain ⟨z2,ec,e⟩:=Zz.mp (show (cc U).bind (fun z=>oLt y z)=some (m,r) from e)
    exact kc y z2 m r e
  | _=>cases e) fun Q h=>nY zv uz h
def CB {ce:Ex} (h:PV G X e ce) (IV:swapsWith e none pos.line X.env=pure false):PSV G X (.Expr e pos) (sX (xP ce)) :=
 PS.weak (kN h IV) fun D J H hq=>by
  obtain ⟨M,U,out,s,e,k⟩:=hq
  unfold sX xP at e
  obtain ⟨⟨v,U'⟩,e1,e2⟩:=Zy.mp e
  obtain ⟨⟨m,t⟩,e3,e4⟩:=Zy.mp e1
  cases e4
  cases e2
  exact ⟨M,U,m,t,s,e3,fun v H' F e1 r1 f1=>k M J H' (s.same e1) (G0.same e1)⟩
end
section
variable {G:Gx} {X:Cx} {a b e:Expr} {ca ck ce:Ex} {pos pos' p1:Pos} {kr:Nat}
def kX {j pos'} (ha:PV G X a ca):Iq G X (.Compare a [.Is] [.Constant .none j pos'] pos) (jN ca) :=
 PT.weak (xq (zK ha)) fun J H Q h=>B3 h (fun U m r e=>by
  unfold jN at e
  obtain ⟨x,_,e⟩:=Zz.mp e
  cases e
  exact ⟨_,rfl⟩) fun Q hq=>by
   obtain ⟨M,U,m,r,s,e,q⟩:=hq
   unfold jN at e
   obtain ⟨⟨n,x⟩,ea,e⟩:=Zz.mp e
   cases e
   refine ⟨M,U,n,x,s,ea,fun v H' F e1 r1 f1=>?_⟩
   show Q (.bl (decide (v=.GJ))) H'
   rw [qu r1]
   exact q _ H' _ e1 (.bl _) Fp.nil
def kG {j pos'} (ha:PV G X a ca):Iq G X (.Compare a [.IsNot] [.Constant .none j pos'] pos) (fj ca) :=
 PT.weak (xq (Bh ha)) fun J H Q h=>B3 h (fun U m r e=>by
  unfold fj at e
  obtain ⟨x,_,e⟩:=Zz.mp e
  cases e
  exact ⟨_,rfl⟩) fun Q hq=>by
   obtain ⟨M,U,m,r,s,e,q⟩:=hq
   unfold fj at e
   obtain ⟨⟨n,x⟩,ea,e⟩:=Zz.mp e
   cases e
   refine ⟨M,U,n,x,s,ea,fun v H' F e1 r1 f1=>?_⟩
   show Q (.bl (!decide (v=.GJ))) H'
   rw [qu r1]
   exact q _ H' _ e1 (.bl _) Fp.nil
def rQ (i:Nat) (k e:Ex) (U:VS.Env):Option Out:=(e U).bind fun v=>match U[i]? with
 | some (some (.ow (.GL 0 l)))=>(k U).bind fun kv=>if iG kv.2/\GO v.2/\l.length < eD then some (.nx (U.set i (some (.ow (.GL 0 (dput l kv.2 v.2)))))) else none
 | _=>none
def CF (i:Nat) {x:Str} (hr:GH kr X.A) (hk:PV G X b ck) (he:PV G X e ce) (hN:X.N[i]?=some x) (hv:IB X.env.scope x) (hd:K3 x) (hcd:K4 x)
  (ha:∀ v,assign (.Subscript (.Name x p1) b pos') X.env v=(do
   let ov ← holding [v] (eval (.Name x p1) X.env)
   let iv ← holding [v,ov] (eval b X.env)
   standAt pos'
   holding [v,ov,iv] (setItem ov iv v)
   release [v,ov,iv] [])) (hs:swapsWithSole [.Subscript (.Name x p1) b pos'] e pos.line X.env=pure false) (hw:swappedStores [.Subscript (.Name x p1) b pos'] e X.env=pure none)
  (h1:(assignEach [.Subscript (.Name x p1) b pos'] X.env).map (·.2)=[assign (.Subscript (.Name x p1) b pos') X.env]):PSV G X (.Assign [.Subscript (.Name x p1) b pos'] e pos) (rQ i ck ce) :=
 PS.weak (tD he (tK (fK hN hv hd hcd) hk (zf (kb hr)) ha) hs hw h1) fun D J H hq=>by
  obtain ⟨M,U,out,s,e,k⟩:=hq
  unfold rQ at e
  obtain ⟨⟨mv,tv⟩,ev,e⟩:=Zz.mp e
  split at e
  ·rename_i l ht
   obtain ⟨⟨mk,tk⟩,LP,e⟩:=Zz.mp e
   split at e
   ·rename_i hc
    obtain ⟨c1,c2,c3⟩:=hc
    cases e
    obtain ⟨w,g1,w2⟩:=s.rp _ _ ht
    have w3:=s.nd i _ ht
    refine ⟨M,U,mv,tv,s,ev,fun xv H1 Fv Im rv fv=>⟨w,g1,M,U,mk,tk,s.same Im,LP,fun kv H3 Fk Jp rk fk=>?_⟩⟩
    have sm:aD H H3:=Im.trans Jp
    have Lh:Rp G H3 xv tv Fv:=rv.same Jp
    have eF:=Lh.GO c2
    subst eF
    obtain ⟨a,ns,vs,ts,Fs,rfl,TR,GT,hl,rfl,ra⟩:=fg w2
    rw [TR] at w3
    obtain ⟨kk,rfl,La⟩:=dI rk c1
    subst La
    have Jw:H3 a=some (.dK (ns.zip vs)):=sm a _ GT
    have m3:GS (H3 a):=by rw [Jw];exact True.intro
    have nd:=Zh.mp w3
    obtain ⟨MB,Iw,HF,Ij,q1,q2,q3,q4,q5⟩:=p6 (kk:=kk) Lh hl (ra.same sm)
    have ln:(ns.zip vs).length < sizeLine:=by
     have:((ns.map aP).zip ts).length < 16777216:=c3
     rw [Yq,Zt] at this
     rw [Yq]
     have:=ra.len.1
     have:(sizeLine:Nat)=16777216:=rfl
     lia
    refine .inr ⟨a,_,rfl,ua.k Jw ln,?_⟩
    have g:Chg G H (.ref a) (M i) (.GL 0 (dput ((ns.map aP).zip ts) (aP kk) tv)) (upd H3 a (.dK (putK (ns.zip vs) kk xv))) (a :: Ij.flatten):=by
     rw [TR,q1,q3]
     refine Chg.upd sm Zu m3 (.GL av q2 (q4.off m3 fun z=>nd.1 (q5.subset z))) ?_ ?_
     ·exact Zh.mpr ⟨fun z=>nd.1 (q5.subset z),nd.2.sublist q5⟩
     ·intro bb hb
      rcases Zj.mp hb with rfl | hb
      ·exact .inl Zu
      ·exact .inl (Zw _ (q5.subset hb))
    obtain ⟨z1,z2⟩:=s.mut ht g1 g
    exact k _ J _ z1 z2
   ·cases e
  ·cases e
end
end VS
end
section
namespace DP
open PySem PySem.Spec PyProof.Rows
variable {prog:Program} {w:World} {A:Around} {E:Z2}
def Bb:typeLookup (.type "tuple") "keys" = pure none:=by rw [typeLookup_type,builtinLookup_eq_fast];kernel_rfl
def Br {h:Heap} {g:Array GenState} {d:Drawn} {tk:Nat} {os} {a:Addr} {xs:Array Value} {k:Nat} {sl:Array (Wq)} {u:Tok} {Q:Z2} (hx:h.get? a=some { cls:=.type "tuple",dict:=none,data:=.seq xs k,slots:=sl }) (hA:A.handled=none)
  (hE:∀ h' tk' e,Heap.NewExcOf h h' e "AttributeError" → E (.ref e) ⟨h',g,d,tk',os⟩):wpAny (model prog w) A (getAttrBy (.ref a) (.str "keys" u) false) Q E ⟨h,g,d,tk,os⟩:=by
 have hT:∀ tk',(⟨h,g,d,tk',os⟩:Shared).TypeIs (.ref a) "tuple" := fun _=>⟨_,hx,rfl⟩
 have f1:=sub_AttributeError
 have f3:=XS.lookup
 have f4:=XS.bind (.ref a)
 have f5:=am_tuple_getattr_none
 unfold getAttrBy
 repeat (any_goals (first | assumption | exact hT _ | ((with_reducible show wpAny _ _ (call (Value.builtin "tuple.__getattribute__") _ _) _ _ _);refine call_meets XS (hT _) am_entry_tuple_getattribute (F.args_tuple_getattribute_2 _ _) (meets_getattribute_miss_tuple a xs k sl "keys" _ Bb (by decide +kernel)) ⟨hx,hA,fun h' tk' e hx'=>?_⟩) | wp_step))
 obtain ⟨t',u',he⟩:=hx'.there
 show wpAny _ _ (getattributeRaised _ _ _ _ _ _ _) _ _ _
 unfold getattributeRaised
 repeat (any_goals (first | assumption | wp_step))
 exact hE _ _ _ hx'.of
end DP
end
section
namespace DP
open PySem PySem.Spec PyProof.Rows L2
variable {prog:Program} {w:World} {A:Around} {E:Z2}
def wm {h:Heap} {g:Array GenState} {d:Drawn} {tk:Nat} {os} {a:Addr} {xs:Array Value} {k:Nat} {sl:Array (Wq)} {Q:Wq->Shared->Prop} (hx:h.get? a=some { cls:=.type "tuple",dict:=none,data:=.seq xs k,slots:=sl }) (hA:A.handled=none)
  (hQ:∀ h' tk' e,Heap.NewExcOf h h' e "AttributeError" → Q none ⟨h',g,d,tk',os⟩):wpAny (model prog w) A (getAttr? (.ref a) "keys") Q E ⟨h,g,d,tk,os⟩:=by
 have f1:=sub_AttributeError
 unfold getAttr? getAttrBy?
 repeat (any_goals (first | assumption | (with_reducible refine Br hx (by assumption) fun h' tk' e hx'=>?_) | wp_step))
 obtain ⟨⟨oc,od,So,JD⟩,vs,ge,ce,_,_⟩:=hx'.there
 dsimp only at ce
 subst ce
 repeat (any_goals (first | assumption | wp_step))
 exact hQ _ _ _ hx'
def mM:entryFor table "dict.update.loop" = some Builtin.«dict.update.loop» := entryFor_of_tree (by kernel_rfl)
def iA:plainId "dict.update.loop" = true:=by decide +kernel
section
variable {R:Result->Shared->Prop} {I:Addr} {fp wr:Xa} {G:Array GenState->Array GenState->Prop} {n:Nat} {P:Nat->Value->Prop} {St:Nat->Shared->Prop}
theorem loop (W:WalksS prog w A.in1 I fp wr G n P St) (d:Addr) (Mf:d ∉ fp) (h0:Heap) (kv:Nat->Key×Value)
  (hP:∀ i v,P i v->∃ p m sl kx,v=.ref p/\h0.get? p=some { cls:=.type "tuple",dict:=none,data:=.seq #[kx,(kv i).2] m,slots:=sl }/\(aK prog w).is (kv i).1 kx=true/\p ∉ d :: wr) (hb:n<=sizeLine) :
  ∀ (k i:Nat) (s:Shared),n - i=k->i<=n->St i s->(∀ b o,b ∉ d :: wr->h0.get? b=some o->s.heap.get? b=some o)->s.heap.DictOf (aK prog w) d (merged [] ((List.range i).map kv)) →
   (∀ s',Moved (d :: wr) G s s'->s'.heap.DictOf (aK prog w) d (merged [] ((List.range n).map kv))->R (.ok (.ret .none)) s') →
   codeAny (model prog w) A (.builtin "dict.update.loop" ⟨[.ref d,.ref I,rawInt i,.none],[]⟩) R s:=by
 have S9:d ∉ wr:=fun h=>Mf (W.sub _ h)
 have LK:∀ b∈wr,b∈d :: wr:=fun b hb=>Zw _ hb
 intro k
 induction k with
 | zero =>
  intro i s hk hi Io hh hS hR
  have IH:i=n:=by lia
  subst IH
  refine codeAny_builtin mM ?_
  rw [Wr iA _]
  show wpAny _ A.in1 (pyNext (.ref I) >>= _) _ _ s
  refine Zk (W.done s _ _ Io fun s' hm=>?_)
  show wpAny _ A.in1 (Builtin.Dict.addKeywords d [] >>= fun _=>ret Value.none) _ _ s'
  refine Zk (ZV ?_)
  exact ZV (hR s' (hm.mono LK) (by
   obtain ⟨o,es,ep,ho,rest⟩:=hS
   exact ⟨o,es,ep,hm.heap d _ S9 ho,rest⟩))
 | succ k ih =>
  intro i s hk hi Io hh hS hR
  have Ig:i < n:=by omega
  refine codeAny_builtin mM ?_
  rw [Wr iA _]
  show wpAny _ A.in1 (pyNext (.ref I) >>= _) _ _ s
  refine Zk (W.item i s _ _ Ig Io fun v s' VI QF hm=>?_)
  obtain ⟨p,m,sl,kx,rfl,hp,Vo,SQ⟩:=hP i v VI
  have N1:s'.heap.get? p=some { cls:=.type "tuple",dict:=none,data:=.seq #[kx,(kv i).2] m,slots:=sl }:=hm.heap p _ (fun z=>SQ (LK p z)) (hh p _ SQ hp)
  have VH:s'.heap.DictOf (aK prog w) d (merged [] ((List.range i).map kv)):=by
   obtain ⟨o,es,ep,ho,rest⟩:=hS
   exact ⟨o,es,ep,hm.heap d _ S9 ho,rest⟩
  show wpAny _ A.in1 (holding [Value.ref p] _ >>= _) _ _ s'
  refine Zk (Y3 ?_)
  have ty:s'.TypeIs (.ref p) "tuple" := ⟨_,N1,rfl⟩
  refine Zk (thn (Q:=fun r s2=>r=[kx,(kv i).2]/\s2=s') ?pair fun r s2 hr=>?rest)
  case pair =>
   refine wpAny_tryCatch ?_
   unfold Builtin.Dict.pairItems
   repeat (any_goals (first | assumption | wp_step))
   exact ⟨rfl,rfl⟩
  case rest =>
   obtain ⟨rfl,rfl⟩:=hr
   dsimp only
   refine Y3 ?_
   refine wpAny_dictSet_pairs Vo VH (fun h' dd sb=>?_) (by have:=merged_length_le (K:=Key) [] ((List.range i).map kv);simp at this;lia)
   have e1:((i:Int)+1)=((i+1:Nat):Int):=by lia
   rw [e1]
   have Lb:h'.DictOf (aK prog w) d (merged [] ((List.range (i+1)).map kv)):=by
    rw [List.range_succ,ZD,show merged ([]:List (Key×Value)) ((List.range i).map kv++[i].map kv)=stored (merged [] ((List.range i).map kv)) (kv i).1 (kv i).2 by unfold merged;rw [List.foldl_append];rfl]
    exact dd
   refine ZV ⟨plainId_quiet iA _,ih (i+1) _ (by omega) Ig (W.frame _ s2 _ _ QF (Xo _) fun b hb o e=>?_) (fun b o hb e=>?_) Lb fun NB QO Rm=>?_⟩
   ·rw [sb.2 b (fun h:b=d=>Mf (by rw [← h];exact hb))];exact e
   ·rw [sb.2 b (fun h:b=d=>hb (by rw [h];exact Zu))]
    exact hm.heap b _ (fun z=>hb (LK b z)) (hh b o hb e)
   ·refine hR NB (Moved.trans W.gtrans ((hm.mono LK).then_heap (Xo _) fun b o hb e=>?_) QO) Rm
    rw [sb.2 b (fun h:b=d=>hb (by rw [h];exact Zu))];exact e
end
end DP
end
section
namespace DP
open PySem PySem.Spec PyProof.Rows L2
variable {prog:Program} {w:World} {A:Around} {E:Z2} {s:Shared}
def nX:mroOf (.type "dict")=pure [.type "dict",.type "object"]:=by rw [mroOf_type];kernel_rfl
def lX:typeLookup (.type "dict") "__new__" = pure (some (.builtin "dict.__new__")):=by rw [typeLookup_type,builtinLookup_eq_fast];kernel_rfl
def rD:TypeCalled "dict" "dict.__new__" "dict.__init__" :=
 ⟨by decide +kernel,by decide +kernel,⟨_,_,nX⟩,madeBy_type nX lX (by decide +kernel),by decide +kernel,by rw [isSubtype_type];kernel_rfl,F.slot_dict_init⟩
def lW (a:Value):checkTypeCall "dict" ⟨[a],[]⟩=pure ():=by kernel_rfl
def nk (a:Value):checkBuiltinCall "dict.__new__" ⟨[.type "dict",a],[]⟩=pure ():=by kernel_rfl
def mQ:entryFor table "dict.__new__" = some Builtin.«dict.__new__» := entryFor_of_tree (by kernel_rfl)
def iU:plainId "dict.__new__" = true:=by decide +kernel
def oA:isSubtype (.type "dict") (.type "dict")=pure true:=by rw [isSubtype_type];kernel_rfl
def oz (a:Value) {Q₁:Z2} (h:Q₁ (.ref s.heap.objs.size) { s with heap:=s.heap.push { cls:=.type "dict",data:=.dict #[] } }) :
  codeAny (model prog w) A (.call (.builtin "dict.__new__") ⟨[.type "dict",a],[]⟩) (wants Q₁ E) s:=by
 refine codeAny_of_tree (Zk (m:=checkBuiltinCall "dict.__new__" ⟨[.type "dict",a],[]⟩) (wpAny_of_eq (nk a) (ZV ⟨plainId_quiet iU _,codeAny_builtin mQ ?_⟩)))
 rw [Wr iU]
 have own:=oA
 have mro:=nX
 cases s
 unfold Builtin.«dict.__new__»
 wp_walk
 exact h
def vL {a:Addr} {p0:Array Value} {m0:Nat} {Ur:Array (Wq)} {kv:Nat->Key×Value} {Q:Z2} (hh:A.handled=none) (ht:s.heap.get? a=some { cls:=.type "tuple",dict:=none,data:=.seq p0 m0,slots:=Ur }) (hz:p0.size<=sizeLine)
  (hp:∀ (i:Nat) (v:Value),p0[i]?=some v->∃ p m sl kx,v=.ref p/\s.heap.get? p=some { cls:=.type "tuple",dict:=none,data:=.seq #[kx,(kv i).2] m,slots:=sl }/\(aK prog w).is (kv i).1 kx=true)
  (h:∀ (h':Heap) (tk:Nat),h'.DictOf (aK prog w) s.heap.objs.size (merged [] ((List.range p0.size).map kv))->(∀ b o,s.heap.get? b=some o->h'.get? b=some o)->Q (.ref s.heap.objs.size) { s with heap:=h',toks:=tk }) :
  wpAny (model prog w) A (call (.type "dict") [.ref a]) Q E s:=by
 refine callType_codes (Q₁:=fun obj s₁=>obj=.ref s.heap.objs.size/\s₁={ s with heap:=s.heap.push { cls:=.type "dict",data:=.dict #[] } }) rD (lW _) F.entry_dict_init (oz _ ⟨rfl,rfl⟩) fun obj s₁ hq=>?_
 obtain ⟨rfl,rfl⟩:=hq
 have ty:Shared.TypeIs { s with heap:=s.heap.push { cls:=.type "dict",data:=.dict #[] } } (.ref s.heap.objs.size) "dict" := ⟨_,ZR _ rfl,rfl⟩
 refine ⟨ty,F.args_dict_init_2 _ _,?_⟩
 obtain ⟨L9,g,d,tk,os⟩:=s
 have TY:=Zi { cls:=.type "dict",data:=.dict #[] } ht
 unfold Builtin.«dict.__init__» Builtin.Dict.updateCommon Builtin.Dict.updateFrom
 generalize eP:pyIter=itr
 generalize eG:getAttr?=ga
 repeat (any_goals (first | assumption | wp_step))
 subst eG
 dsimp only at *
 refine wm TY (by simp [hh]) fun h1 tk1 e ne=>?_
 simp only [Option.isNone_none,if_true]
 refine Zk (wpAny_rule ?_)
 subst eP
 have at2:=ne.keeps _ _ TY
 have dat:=ne.keeps L9.objs.size { cls:=.type "dict",data:=.dict #[] } (ZR _ rfl)
 have Pj:=ZW dat
 have Qv:∀ {b:Addr} {o:Obj},L9.get? b=some o->b < L9.objs.size:=fun e=>ZW e
 have SG:∀ b o,L9.get? b=some o->h1.get? b=some o:=fun b o e=>ne.keeps _ _ (Zi _ e)
 have tup:h1.IsTuple a p0:=⟨_,at2,rfl,m0,rfl⟩
 refine Zk (wpAny_pyIter_tuple tup (ZV ⟨plainId_quiet iA _,?_⟩))
 have alt:=Qv ht
 have D0:(h1.push { cls:=.type "tuple_iterator",data:=.fields #[.ref a,.int 0 0] }).DictOf (aK prog w) L9.objs.size (merged [] ((List.range 0).map kv)):=by
  obtain ⟨o,es,ep,ho,rest⟩:=(Heap.DictOf.new (knd:=aK prog w) L9)
  exact ⟨o,es,ep,Zi _ (ne.keeps _ _ ho),rest⟩
 refine loop (A:=A.in1) ((Walks.tuple (by simp [hh]) h1.objs.size a (Zb (Wy alt Pj)) p0).toS) L9.objs.size (by simp only [Zj,Wk,or_false,not_or];exact ⟨Zb Pj,Wz alt⟩) L9 kv (fun i v hv=>?_) hz p0.size 0 _ (by lia) (Yt _) ?_ (fun b o hb e=>Zi _ (SG b o e)) D0 fun s' mv dd=>?_
 ·obtain ⟨p,m,sl,kx,rfl,g1,g2⟩:=hp i v hv
  have:=Qv g1
  exact ⟨p,m,sl,kx,rfl,g1,g2,by simp only [Zj,Wk,or_false,not_or];exact ⟨Zb this,Zb (Wy this Pj)⟩⟩
 ·exact ⟨⟨_,ZR _ rfl,rfl,rfl⟩,tup.push _⟩
 ·obtain ⟨h',g',d',tk',NI⟩:=s'
  have e1:g'=g:=mv.gens
  have e2:d'=d:=mv.drawn
  have e3:NI=os:=mv.os
  subst e1 e2 e3
  refine ⟨rfl,h h' tk' dd fun b o e=>mv.heap b o (fun IH=>?_) (Zi _ (SG b o e))⟩
  have:=Qv e
  simp only [Zj,Wk,or_false] at IH
  rcases IH with q | q
  ·exact Zb this q
  ·exact Zb (Wy this Pj) q
end DP
end
section
namespace L2
open PySem PySem.Spec PyProof.Rows
section
variable {X:Cx}
abbrev KC:=Addr×Key×V
def A8 {pins:Y1} {J:St} {H:Hp} {s:Shared} (I:Inv X pins J H s) {q:KC} (h:H q.1=some (.tup [kV q.2.1,q.2.2])):∃ vx m sl kx,RelV q.2.2 vx/\s.heap.get? q.1=some { cls:=.type "tuple",dict:=none,data:=.seq #[kx,vx] m,slots:=sl }/\(aK X.prog X.w).is q.2.1 kx=true:=by
 obtain ⟨_,p0,rv,nd,⟨oc,od,So,JD⟩,g,gc,n,gd⟩:=(show bR X.prog X.w H s.heap q.1 (.tup [kV q.2.1,q.2.2]) from I.hok _ _ h)
 have hd:=nd _ g
 dsimp only at gc gd hd
 subst gc gd hd
 obtain ⟨kx,vx,rfl,r1,r2⟩:=vals2 rv
 exact ⟨vx,n,JD,kx,r2,g,lP r1⟩
theorem rq {pins:Y1} {J:St} {H:Hp} {s:Shared} (I:Inv X pins J H s):∀ (ps:List KC),(∀ q∈ps,H q.1=some (.tup [kV q.2.1,q.2.2])) →
  ∃ gV:List (Key×Value),Paired (fun (q:KC) (kv:Key×Value)=>q.2.1=kv.1/\RelV q.2.2 kv.2/\∃ m sl kx,s.heap.get? q.1=some { cls:=.type "tuple",dict:=none,data:=.seq #[kx,kv.2] m,slots:=sl }/\(aK X.prog X.w).is kv.1 kx=true) ps gV
 | [],_=>⟨[],.nil⟩
 | q :: ps,h=>by
  obtain ⟨vx,m,sl,kx,r,g,k⟩:=A8 I (h q Zu)
  obtain ⟨gV,p⟩:=rq I ps fun x hx=>h x (Zw _ hx)
  exact ⟨(q.2.1,vx) :: gV,.cons ⟨rfl,r,m,sl,kx,g,k⟩ p⟩
theorem oF {R:KC->Key×Value->Prop} (hR:∀ q kv,R q kv->q.2.1=kv.1/\RelV q.2.2 kv.2):∀ {ps:List KC} {gV:List (Key×Value)},Paired R ps gV->∀ {a:List (Key×V)} {b:List (Key×Value)},KV a b->KV (ps.foldl (fun acc q=>putK acc q.2.1 q.2.2) a) (merged b gV)
 | _,_,.nil,_,_,r=>r
 | _,_,.cons (a:=q) (b:=kv) h t,a,b,r=>by
  obtain ⟨e1,e2⟩:=hR _ _ h
  have:=oF hR t (r.put kv.1 e2)
  simp only [YT,merged]
  rw [e1]
  exact this
theorem qX:∀ (ps:List KC) (a:List (Key×V)),(ps.foldl (fun acc q=>putK acc q.2.1 q.2.2) a).length<=a.length+ps.length
 | [],a=>Zp _
 | q :: ps,a=>by
  have h1:=qX ps (putK a q.2.1 q.2.2)
  have h2:=gD a q.2.1 q.2.2
  simp only [YT,Zm]
  lia
theorem Paired.at_ {α β:Type} {R:α->β->Prop}:∀ {l:List α} {m:List β},Paired R l m->∀ (i:Nat) {a:α},l[i]?=some a->∃ b,m[i]?=some b/\R a b
 | _,_,.nil,i,a,h=>by simp at h
 | _,_,.cons r t,0,a,h=>by simp at h;subst h;exact ⟨_,rfl,r⟩
 | _,_,.cons r t,i+1,a,h=>by simpa using Paired.at_ t i (by simpa using h)
def uf (hc:X.calm=true):dN X (.type "dict") (fun xs H Q=>∃ (p:Addr) (ps:List KC),xs=[.ref p]/\H p=some (.tup (ps.map fun q=>V.ref q.1))/\(∀ q∈ps,H q.1=some (.tup [kV q.2.1,q.2.2])) ∧
  ∀ l,H l=none->Q (.ref l) (upd H l (.dK (ps.foldl (fun acc q=>putK acc q.2.1 q.2.2) [])))):=by
 intro pins s J H xs us Q I rx h
 obtain ⟨p,ps,rfl,hp,hq,q⟩:=h
 obtain ⟨u,rfl,ru⟩:=rx.one
 cases ru
 obtain ⟨hz,p0,rv,nd,⟨oc,od,So,JD⟩,g,gc,n,gd⟩:=(show bR X.prog X.w H s.heap p (.tup (ps.map fun q=>V.ref q.1)) from I.hok _ _ hp)
 have hd:=nd _ g
 dsimp only at gc gd hd
 subst gc gd hd
 obtain ⟨gV,pr⟩:=rq I ps hq
 have l1:p0.length=ps.length:=by have:=rv.length;simpa using this.symm
 have l2:gV.length=ps.length:=pr.length.symm
 rw [Zt] at hz
 have Vp:(List.range p0.toArray.size).map (fun i=>(gV[i]?).getD (.inl 0,.none))=gV:=by
  apply List.ext_getElem?
  intro i
  rw [ZP]
  by_cases hi:i < gV.length
  ·rw [XC (by simp;lia),Zr hi]
   simp [hi]
  ·rw [Z0 (by simp;lia),Z0 (by exact ZE hi)]
   rfl
 refine DP.vL (kv:=fun i=>(gV[i]?).getD (.inl 0,.none)) (I.ok.hd hc) g (by simp;lia) (fun i v hv=>?_) fun h' tk dd kp=>?_
 ·rw [List.getElem?_toArray] at hv
  have hi:i < ps.length:=by have:=(Zg.mp hv).1;lia
  obtain ⟨w,e1,e2⟩:=Paired.at_ rv i (a:=V.ref ps[i].1) (by rw [ZP,Zr hi];rfl)
  rw [hv] at e1
  cases e1
  obtain ⟨kv,e3,e4,_,m,sl,kx,g1,g2⟩:=Paired.at_ pr i (Zr hi)
  rw [e3]
  exact ⟨ps[i].1,m,sl,kx,e2,g1,g2⟩
 ·rw [Vp] at dd
  have rel:=oF (fun _ _ h=>⟨h.1,h.2.1⟩) pr (.nil:KV [] [])
  have ln:=qX ps []
  exact ⟨.ref s.heap.objs.size,_,I.laid (t':=tk) kp (Zp _) (pf (by simp at ln;exact ZG ln hz) (ZM.mpr (Ya (Zb I.big))) rel dd),rfl,q _ (I.hok.fresh (Zp _))⟩
end
end L2
end
section
namespace VS
open PySem PySem.Spec PyProof.Rows L2
def pZ:Wa->Option (List (T×T))
 | []=>some []
 | .tup [k,v] :: r=>if iG k/\GO v then (pZ r).map ((k,v) :: ·) else none
 | _=>none
def lh:Wc->Wb
 | [(_,.tup l)]=>(pZ l).map fun ps=>(.fr,.GL 0 (ps.foldl (fun d q=>dput d q.1 q.2) []))
 | _=>none
section
variable {G:Gx} {X:Cx} {e:Expr} {cs:Hh} {p pos:Pos}
def Bx {t:T} {l:Wa} {ps:List (T×T)} (h:pZ (t :: l)=some ps):∃ k v qs,t=.tup [k,v]/\iG k=true/\GO v=true/\pZ l=some qs/\ps=(k,v) :: qs:=by
 unfold pZ at h
 split at h
 ·rename_i hh
  cases hh
 ·rename_i k v r hh
  cases hh
  split at h
  ·rename_i c
   obtain ⟨qs,e1,e2⟩:=Zy.mp h
   exact ⟨k,v,qs,rfl,c.1,c.2,e1,e2.symm⟩
  ·cases h
 ·cases h
theorem sI {H:Hp}:∀ {ts:Wa} {ws:List V} {Gs:Xm} {qs:List (T×T)},RpL G H ws ts Gs->pZ ts=some qs →
  ∃ ps:List KC,ws=ps.map (fun q=>V.ref q.1)/\(∀ q∈ps,H q.1=some (.tup [kV q.2.1,q.2.2]))/\Paired (fun (q:KC) (x:T×T)=>x.1=aP q.2.1/\Rp G H q.2.2 x.2 []) ps qs
 | [],_,_,qs,r,h=>by
  cases r
  cases (show some ([]:List (T×T))=some qs from h)
  exact ⟨[],rfl,fun q hq=>by simp at hq,.nil⟩
 | t :: ts,_,_,qs,r,h=>by
  obtain ⟨k,v,qs',rfl,hk,hv,h2,rfl⟩:=Bx h
  cases r with
  | cons r1 r2 =>
   obtain ⟨ps,e1,e2,e3⟩:=sI r2 h2
   obtain ⟨b,vs,Fs,rfl,hb,q⟩:=Rp.Jl r1
   cases q with
   | cons rk q =>
    cases q with
    | cons rv q =>
     cases q
     obtain ⟨kk,rfl,ek⟩:=dI rk hk
     have ei:=rv.GO hv
     subst ei
     refine ⟨(b,kk,_) :: ps,by rw [e1];rfl,fun x hx=>?_,.cons ⟨ek,rv⟩ e3⟩
     rcases Zj.mp hx with rfl | hx
     ·exact hb
     ·exact e2 x hx
theorem sE {H:Hp}:∀ {ps:List KC} {qs:List (T×T)},Paired (fun (q:KC) (x:T×T)=>x.1=aP q.2.1/\Rp G H q.2.2 x.2 []) ps qs->∀ {ns:List Key} {vs:List V} {ts:Wa} {Fs:Xm},ns.length=vs.length->RpL G H vs ts Fs->Fs.flatten=[] →
  ∃ (P4:List Key) (Iw:List V) (HF:Wa) (Ij:Xm),ps.foldl (fun acc q=>putK acc q.2.1 q.2.2) (ns.zip vs)=P4.zip Iw/\qs.foldl (fun d q=>dput d q.1 q.2) ((ns.map aP).zip ts)=(P4.map aP).zip HF/\P4.length=Iw.length/\RpL G H Iw HF Ij/\Ij.flatten=[]
 | _,_,.nil,ns,vs,ts,Fs,hl,r,hF=>⟨ns,vs,ts,Fs,rfl,rfl,hl,r,hF⟩
 | _,_,.cons (a:=q) (b:=x) h t,ns,vs,ts,Fs,hl,r,hF=>by
  obtain ⟨MB,Iw,HF,Ij,q1,q2,q3,q4,q5⟩:=p6 (kk:=q.2.1) h.2 hl r
  rw [hF] at q5
  have VL:Ij.flatten=[]:=List.sublist_nil.mp q5
  obtain ⟨n2,v2,t2,F2,a1,a2,a3,a4,a5⟩:=sE t q2 q4 VL
  refine ⟨n2,v2,t2,F2,?_,?_,a3,a4,a5⟩
  ·rw [YT,q1];exact a1
  ·rw [YT,h.1,q3];exact a2
def x5:fH G (fun xs H Q=>∃ (p:Addr) (ps:List KC),xs=[.ref p]/\H p=some (.tup (ps.map fun q=>V.ref q.1))/\(∀ q∈ps,H q.1=some (.tup [kV q.2.1,q.2.2])) ∧
  ∀ l,H l=none->Q (.ref l) (upd H l (.dK (ps.foldl (fun acc q=>putK acc q.2.1 q.2.2) [])))) lh:=by
 intro M U H0 H l vs Fs m t Q A e k
 unfold lh at e
 split at e
 ·rename_i mx ts
  obtain ⟨qs,e1,e2⟩:=Zy.mp e
  cases e2
  obtain ⟨v,F,rfl,rfl,r⟩:=(show RpL G H vs [.tup ts] Fs from A.rp).one
  obtain ⟨b,ws,Gs,rfl,hb,q⟩:=Rp.Jl r
  obtain ⟨ps,rfl,Va,pr⟩:=sI q e1
  refine ⟨b,ps,rfl,hb,Va,fun l hl=>?_⟩
  obtain ⟨ns,us,HF,Ij,a1,a2,a3,a4,a5⟩:=sE pr (ns:=[]) (vs:=[]) (ts:=[]) (Fs:=[]) rfl .nil rfl
  have a1':ps.foldl (fun acc q=>putK acc q.2.1 q.2.2) []=ns.zip us:=a1
  have WZ:qs.foldl (fun d q=>dput d q.1 q.2) []=(ns.map aP).zip HF:=a2
  rw [a1']
  have sm:aD H (upd H l (.dK (ns.zip us))):=cQ hl
  refine k _ _ (l :: Ij.flatten) sm (by rw [WZ];exact .GL av a3 (a4.same sm)) ?_
  rw [a5]
  exact Fp.new (A.same.free hl) (by simp) Fp.nil
 ·cases e
def ve:bootBuiltins ("dict" : Str)=some (.type "dict"):=by decide +kernel
def A2 (hm:X.mg "dict" = none) (ha:HI G X [e] cs) (hg:Gl X "dict" := by rfl) (hc:X.calm=true:=by rfl) (he:K1 e [] X:=by rfl):PV G X (.Call (.Name "dict" p) [e] [] pos) (eN lh cs) :=
 ji (uf hc) x5 hg hm ve ha (he:=he) (hpl:=rfl)
end
end VS
end
section
namespace L2
open PySem PySem.Spec PyProof.Rows
section
variable {X:Cx} {pins:Y1} {J:St} {H:Hp} {s:Shared}
def qh {d:Addr} {gV:List (Key×V)} {o:Obj} (I:Inv X pins J H s) (e:H d=some (.dK gV)) (g:s.heap.get? d=some o):Inv X pins J (upd H d (.Hv o (.dK gV))) s :=
 md (t':=s.toks) I (by rw [e];exact True.intro) ⟨rfl,fun _ _=>rfl⟩ ⟨o,g⟩ ⟨g,I.hok d _ e⟩
end
def R5 (d:Addr) (o:Obj) (gV:List (Key×V)):It :=
 ⟨fun i H=>H d=some (.Hv o (.dK gV))/\i < gV.length,fun i H x H'=>H'=H/\∃ p,gV[i]?=some p/\x=kV p.1,fun i H=>H d=some (.Hv o (.dK gV))/\gV.length<=i⟩
def Aw {k:Key} {v:Value} (h:lM k v=true):RelV (kV k) v:=by
 rcases bK h with ⟨i,t,rfl,rfl⟩ | ⟨x,t,rfl,rfl⟩
 ·exact ⟨t,rfl⟩
 ·exact ⟨t,rfl⟩
def o5 {P:Program} {w:World} {es:List DictEntry} {m:List (Key×Value)} (r:Pairs (aK P w) es m) {i:Nat} {e:DictEntry} (h:es[i]?=some e):∃ q,m[i]?=some q/\lM q.1 e.key=true:=by
 induction r generalizing i with
 | nil=>simp at h
 | @cons e' kv es gV h1 h2 _ ih =>
  cases i with
  | zero =>
   simp at h
   subst h
   exact ⟨kv,rfl,h1⟩
  | succ i=>simpa using ih (by simpa using h)
def CN {l:List (Key×V)} {m:List (Key×Value)} (r:KV l m) {i:Nat} {q:Key×Value} (h:m[i]?=some q):∃ p,l[i]?=some p/\p.1=q.1:=by
 induction r generalizing i with
 | nil=>simp at h
 | @cons p' q' ps qs hq t ih =>
  cases i with
  | zero=>simp at h;subst h;exact ⟨p',rfl,hq.1⟩
  | succ i=>simpa using ih (by simpa using h)
section
variable {X:Cx} {tg:Expr} {pos:Pos}
def Dy {P:Program} {w:World} {K:Xj} (d it:Addr) {gV:List (Key×V)} {es:Array DictEntry} {ep:Nat} {xs:List (Key×Value)} (rel:KV gV xs) (he:Pairs (aK P w) es.toList xs) :
  Turn P w K tg (R5 d (ST.dO es ep) gV) [it] it (fun i h=>h.get? it=some (ST.kO d i es.size ep)) where
 mem:=by simp
 obj:=fun i h st b hb=>by
  rw [Zf.mp hb]
  exact ⟨_,st,fun v z=>by cases z⟩
 keep:=fun i h h' st k=>k it (by simp) _ st
 item:=by
  intro X hP hw hK hc i pins s J H E I hf st hg
  subst hP hw hK
  obtain ⟨f0,f1,f2,f3,f4,f5⟩:=hf it (by simp)
  refine ST.rW (I.ok.hd hc) st (show s.heap.get? d=some (ST.dO es ep) from (I.hok d _ hg.1).1) (fun e hi h' sb g=>?_) fun hn=>?_
  ·have I1:Inv X pins J H { s with heap:=h' }:=I.turned (t':=s.toks) (fun b o hb e=>(sb.2 b hb).trans e) f0 f1 f3 f4 f5
   rw [← Yk] at hi
   obtain ⟨q,hq,hk⟩:=o5 he hi
   obtain ⟨p,hp,hb⟩:=CN rel hq
   exact ⟨_,rfl,qI (s:={ s with heap:=h' }) g rfl rfl rfl ⟨kV p.1,H,I1,by rw [hb];exact Aw hk,⟨rfl,p,hp,rfl⟩,g,fun b hb=>(hf b hb).1⟩⟩
  ·exfalso
   rw [← Yk,Yo,he.length,← Y4 rel] at hn
   exact absurd hg.2 (by lia)
 done:=by
  intro X hP hw hK hc i pins s J H E I hf st hg
  subst hP hw hK
  obtain ⟨f0,f1,f2,f3,f4,f5⟩:=hf it (by simp)
  refine ST.rW (I.ok.hd hc) st (show s.heap.get? d=some (ST.dO es ep) from (I.hok d _ hg.1).1) (fun e hi h' sb g=>?_) fun hn h' kp=>⟨rfl,I.turned (t':=s.toks) (fun b o hb e=>kp b o hb e) f0 f1 f3 f4 f5⟩
  exfalso
  rw [← Yk] at hi
  obtain ⟨q,hq,hk⟩:=o5 he hi
  have:=(Zg.mp hq).1
  have h2:=hg.2
  rw [Y4 rel] at h2
  lia
 self:=fun _ _ _ _ _ st hQ=>wpAny_pyIter_slot ⟨_,st,rfl⟩ F.slot_dict_keyiterator_iter (XJ F.slot_dict_keyiterator_iter ⟨_,st,rfl⟩ F.entry_dict_keyiterator_iter (show wpAny _ _ (ret (.ref it)) _ _ _ from ZV ⟨_,rfl, "dict_keyiterator",_,⟨_,st,rfl⟩,YC.lookup,hQ⟩) (F.args_dict_keyiterator_iter_1 _))
def UW (tl:TE):TI:=fun J H R=>tl J H fun x H1=>∃ d gV,x=.ref d/\H1 d=some (.dK gV)/\∀ o,R (R5 d o gV) (upd H1 d (.Hv o (.dK gV)))
def Ff {l:Expr} {tl:TE} (hl:PE X l tl):PI X tg l (UW tl):=by
 intro pins s J H R I h
 refine thn (hl pins s J H _ I h) fun v s1 ⟨x,H1,I1,r1,q1⟩=>?_
 obtain ⟨d,gV,ex,e,q⟩:=q1
 subst ex
 cases r1
 obtain ⟨z,y,xs,rel,o,es,ep,g,ex,hd,_,he,hn⟩:=rA I1.hok e
 have eo:=yP ex hd
 subst eo
 refine ST.zG y g ?_
 refine ⟨s1.heap.objs.size,[s1.heap.objs.size],_,_,_,rfl,(qh I1 e g).kept (t':=s1.toks) fun b o e=>Zi _ e,Dy d _ rel he,ZR _ rfl,fun b hb=>?_,q _⟩
 have eb:b=s1.heap.objs.size:=by simpa using hb
 subst eb
 exact (qh I1 e g).K9 (Zp _) ((qh I1 e g).hok.fresh (Zp _))
end
end L2
end
section
namespace L2
def CG {α:Type} {n:Nat} {us:List α} (hl:us.length=n+1):∃ a t,us=a :: t/\t.length=n:=by
 obtain ⟨a,t,e⟩:=List.exists_cons_of_length_eq_add_one hl
 subst e
 exact ⟨a,t,rfl,Nat.succ.inj hl⟩
def oq {α:Type} {us:List α} (hl:us.length=1):∃ a,us=[a]:=List.length_eq_one_iff.mp hl
def dR {α:Type} {us:List α} (hl:us.length=2):∃ a b,us=[a,b]:=by
 obtain ⟨a,t,rfl,ht⟩:=CG hl
 obtain ⟨b,rfl⟩:=oq ht
 exact ⟨a,b,rfl⟩
def pN {α:Type} {us:List α} (hl:us.length=3):∃ a b c,us=[a,b,c]:=by
 obtain ⟨a,t,rfl,ht⟩:=CG hl
 obtain ⟨b,c,rfl⟩:=dR ht
 exact ⟨a,b,c,rfl⟩
def Gi {α:Type} {us:List α} (hl:us.length=4):∃ a b c d,us=[a,b,c,d]:=by
 obtain ⟨a,t,rfl,ht⟩:=CG hl
 obtain ⟨b,c,d,rfl⟩:=pN ht
 exact ⟨a,b,c,d,rfl⟩
end L2
end
section
namespace VS
open PySem PySem.Spec PyProof.Rows L2
inductive Res where | ok (v:Val) | ex (x:Str)
inductive R1 where | ok (o:Out) | ex (x:Str) (U:VS.Env)
abbrev ExX:=VS.Env->Option Res
abbrev SxX:=VS.Env->Option R1
end VS
end
section
namespace VS
open PySem PySem.Spec PyProof.Rows L2
section
variable {G:Gx} {X:Cx} {a b:Expr} {ca cb:Ex} {pos apos oe:Pos}
def xk:Val->Val->Wb
 | (_,.str x),(_,.str y)=>some (.fr,.bl (Txt.contains (sx y) (sx x)))
 | _,_=>none
def Fo (n:Bool):V->V->Hp->VK->Prop:=fun x y H Q=>∃ u w,x=.str u/\y=.str w/\Q (.bl (n != Txt.contains w u)) H
def DS:OpR X (compareOp .In) (Fo false):=by
 intro pins s J H x y v u Q I rx ry h
 obtain ⟨z,w',rfl,rfl,q⟩:=h
 obtain ⟨t,rfl⟩:=rx
 obtain ⟨t',rfl⟩:=ry
 exact SB.contains (show EP X pins J Q _ s from ⟨.bl _,H,I,rfl,by simpa using q⟩)
def D3:eJ G (Fo false) xk:=by
 intro M U H0 H x y u w F1 F2 m t Q tw e k
 obtain ⟨m1,x⟩:=x
 obtain ⟨m2,y⟩:=y
 obtain ⟨same,r1,r2,f1,f2,nd⟩:=tw
 unfold xk at e
 split at e
 ·rename_i e1 e2
  cases e1
  cases e2
  cases e
  exact ⟨_,_,r1.str_inv.1,r2.str_inv.1,by rw [Bool.false_bne];exact bf k (.bl _)⟩
 ·cases e
def vZ:Tells xk:=by
 intro x y m t e
 unfold xk at e
 split at e
 ·cases e;exact ⟨_,rfl⟩
 ·cases e
end
end VS
end
section
namespace TS
open PySem PySem.Spec PyProof.Rows
variable {prog:Program} {w:World} {A:Around} {E:Z2} {s:Shared}
def vY {us:X8} (hv:∀ v∈us,∃ x t,v=Value.str x t) {xs:Array Keyed} (hp:xs.Perm (pairsOf us)) (hs:SortedToK strKind xs (pairsOf us).size):((xs.map (·.2)).toList.map strOf).Pairwise (fun a b=>¬ b.cps.toList < a.cps.toList):=by
 obtain ⟨p1,p2⟩:=oW hp
 rw [Wv,List.pairwise_iff_getElem]
 intro i j hi hj QW
 have key:∀ i (h:i < (xs.map (·.2)).toList.length),KK strKind xs i=(strOf (xs.map (·.2)).toList[i]).cps.toList:=fun i h=>by
  have e:xs[i]?=some ((xs.map (·.2)).toList[i],(xs.map (·.2)).toList[i]):=by
   rw [← Yk,← p2,ZP,Zr h]
   rfl
  obtain ⟨x,t,ex⟩:=hv _ (p1.mem_iff.mp (Yz h))
  unfold KK
  rw [e]
  rw [ex]
  rfl
 have q:=hs i j (XU QW) (by rw [← hp.size_eq];simpa using hj)
 rw [key i hi,key j hj] at q
 exact of_decide_eq_false q
def pS {x:Value} {Q:Z2}
  (Rg:∀ (A':Around) (E':Z2),A'.handled=A.handled->wpAny (model prog w) A' (collect x) (fun us s1=>(∀ v∈us,∃ x t,v=Value.str x t)/\us.length < 64/\∀ (out:X8) (h':Heap) (e:Nat),out.Perm us->(out.map strOf).Pairwise (fun a b=>¬ b.cps.toList < a.cps.toList)->(∀ b o,s1.heap.get? b=some o->h'.get? b=some o)->h'.get? s1.heap.objs.size=some (seqObj "list" out.toArray e)->Q (.ref s1.heap.objs.size) { s1 with heap:=h' }) E' s) :
  wpAny (model prog w) A (call (.builtin "sorted") [x]) Q E s:=by
 refine Calls.call_function_entry kind_sorted plain_sorted entry_sorted (args_sorted1 _) (show wpAny _ _ (Builtin.«sorted» _) _ _ _ from ?_)
 unfold Builtin.«sorted»
 refine Zk (m:=checkCount "sorted" 1 1 _) (ZV (Zk (YN (Rg A.in1 (fun _ _=>False) rfl) ?_ fun _ _ e=>e.elim)))
 rintro vs s1 ⟨hv,Tf,h⟩
 refine Zk (wpAny_newList ?_ (by show vs.length<=sizeLine;rw [Xz];omega))
 have N2:(s1.heap.push (seqObj "list" vs.toArray 0)).get? s1.heap.objs.size=some (seqObj "list" vs.toArray 0):=ZR _ rfl
 show wpAny _ _ _ _ _ { s1 with heap:=s1.heap.push (seqObj "list" vs.toArray 0) }
 refine Zk (Y3 (XJ slot_list_sort ⟨_,N2,rfl⟩ entry_list_sort (list_sort_treeK strKind_oneLt N2 (strsAre_map _ hv).keysOf (fun v₁ v₂ rest e=>keyKind_strs (by rw [← e];exact strsAre_map _ hv)) Tf fun JG a1 a2=>⟨_,rfl,?_⟩) (args_list_sort _)))
 obtain ⟨e,he⟩:=sortedHeap_at (out:=(arrOf JG).map (·.2)) N2
 exact ZV ⟨_,rfl,h ((arrOf JG).map (·.2)).toList _ e (oW a1).1 (vY hv a1 a2) (fun b o eb=>by
  have hb:=ZW eb
  show (sortedHeap (s1.heap.push (seqObj "list" vs.toArray 0)) s1.heap.objs.size vs ((arrOf JG).map (·.2))).get? b=some o
  rw [sortedHeap_old (Zb hb) (by rw [size_push'];exact Wx hb),Heap.get?_push_ne _ _ _ (Zb hb)]
  exact eb) he⟩
end TS
namespace L2
open PySem PySem.Spec PyProof.Rows TS
section
variable {X:Cx}
def jM (hc:X.calm=true):dN X (.builtin "sorted") (fun xs H Q=>∃ p,∃ (ss:List Str) (vs:List V),xs=[.ref p]/\ss.length < 64/\ss.length=vs.length/\H p=some (.dK ((ss.map Sum.inr).zip vs)) ∧
  ∀ (l:Addr) (Il:List Str),H l=none->Il.Perm ss->Il.Pairwise (fun a b=>¬ b.cps.toList < a.cps.toList)->Q (.ref l) (upd H l (.lst (Il.map V.str)))):=by
 intro pins s J H xs us Q I rx h
 obtain ⟨p,ss,vs,rfl,Tf,hl,hq,q⟩:=h
 obtain ⟨u,rfl,ru⟩:=rx.one
 cases ru
 obtain ⟨hz,hS,gV,rel,dd⟩:=rA I.hok hq
 obtain ⟨ep,dd⟩:=dd.dictAt
 have SW:gV.length=ss.length:=by
  have:=rel.length
  rw [Yq,Zt] at this
  lia
 have Vn:∀ i:Nat,(gV[i]?).map (fun x=>x.1)=(ss[i]?).map (Sum.inr:Str->Key):=fun i=>by
  have h1:((gV.map (·.1)))[i]?=(ss.map (Sum.inr:Str->Key))[i]?:=by
   rw [← rel.keys]
   rw [Wi (by rw [Zt];exact Ww hl)]
  rw [ZP,ZP] at h1
  exact h1
 refine TS.pS fun A' E' hA=>PySem.W.kdu_collect (PySem.W.kdl_dict hS) (hA.trans (I.ok.hd hc)) dd (by rw [Yq,Zt] at hz;lia) fun h' tk acc kp Oc=>?_
 have I1:Inv X pins J H { s with heap:=h',toks:=tk }:=I.kept kp
 have VF:acc.toList.length=ss.length:=by rw [YQ,Oc.1,SW]
 have each:∀ i v,acc.toList[i]?=some v->∃ x t,v=Value.str x t/\ss[i]?=some x:=fun i v hv=>by
  rw [Yk] at hv
  obtain ⟨k,x,e1,e2⟩:=Oc.2 i v hv
  have e3:=Vn i
  rw [e1] at e3
  cases e4:ss[i]? with
  | none=>rw [e4] at e3;cases e3
  | some y =>
   rw [e4] at e3
   have e5:k=Sum.inr y:=Zn e3
   subst e5
   obtain ⟨t,rfl⟩:=Value.isStrOf_shape (show Value.isStrOf y v=true from e2)
   exact ⟨y,t,rfl,e4⟩
 have hv:∀ v∈acc.toList,∃ x t,v=Value.str x t:=fun v hm=>by
  obtain ⟨i,hi,e⟩:=List.getElem_of_mem hm
  obtain ⟨x,t,e1,_⟩:=each i v (by rw [Zr hi,e])
  exact ⟨x,t,e1⟩
 have es:acc.toList.map strOf=ss:=by
  apply List.ext_getElem?
  intro i
  rw [ZP]
  cases e:acc.toList[i]? with
  | none =>
   have:acc.toList.length<=i:=Yo.mp e
   rw [Yo.mpr (by lia)]
   rfl
  | some v =>
   obtain ⟨x,t,rfl,e1⟩:=each i v e
   rw [e1]
   rfl
 refine ⟨hv,by omega,fun out h2 e o1 o2 O5 he=>?_⟩
 have QB:∀ v∈out,∃ x t,v=Value.str x t:=fun v hm=>hv v (o1.mem_iff.mp hm)
 have UX:((out.map strOf).map V.str).length<=sizeLine:=by rw [Zt,Zt,o1.length_eq,VF,Xz];omega
 exact ⟨.ref h'.objs.size,_,I1.laid (t':=tk) O5 (Zp _) (show bR X.prog X.w _ h2 _ (.lst ((out.map strOf).map V.str)) from ⟨UX,out,e,rY QB,he⟩),rfl,q _ _ (I1.hok.fresh (Zp _)) (by rw [← es];exact o1.map _) o2⟩
end
end L2
namespace VS
open PySem PySem.Spec PyProof.Rows L2
section
variable {G:Gx} {X:Cx} {e:Expr} {cs:Hh} {p pos:Pos}
noncomputable def gQ:Wc->Wb
 | [(_,.GL 0 l)]=>(strs? (l.map (·.1))).bind fun ss=>if ss.length < 64/\ss.all M6=true then some (.fr,.lst ((eR ss).map .str)) else none
 | _=>none
def yq:fH G (fun xs H Q=>∃ p,∃ (ss:List Str) (vs:List V),xs=[.ref p]/\ss.length < 64/\ss.length=vs.length/\H p=some (.dK ((ss.map Sum.inr).zip vs)) ∧
  ∀ (l:Addr) (Il:List Str),H l=none->Il.Perm ss->Il.Pairwise (fun a b=>¬ b.cps.toList < a.cps.toList)->Q (.ref l) (upd H l (.lst (Il.map V.str)))) gQ:=by
 intro M U H0 H l vs Fs m t Q A e k
 unfold gQ at e
 split at e
 ·rename_i mx x
  obtain ⟨ss,e1,e2⟩:=Zz.mp e
  split at e2
  ·rename_i hb
   cases e2
   obtain ⟨v,F,rfl,rfl,rx⟩:=(show RpL G H vs [.GL 0 x] Fs from A.rp).one
   obtain ⟨a,ks,ys,ts,Gs,rfl,rfl,ha,hl,rfl,ra⟩:=fg rx
   have Kh:ks.length=ts.length:=by rw [hl,ra.len.1]
   have e3:((ks.map aP).zip ts).map (·.1)=ks.map aP:=Wi (by rw [Zt];exact Ww Kh)
   rw [e3] at e1
   have e4:=keys_str e1
   refine ⟨a,ss.map sx,ys,rfl,by rw [Zt];exact hb.1,?_,by rw [← e4];exact ha,xy k A.same fun s hs=>DW (Yi.mp hb.2 s hs)⟩
   rw [← hl,e4,Zt,Zt,Zt]
  ·cases e2
 ·cases e
def uD (hm:X.mg "sorted" = none) (ha:HI G X [e] cs) (hg:Gl X "sorted" := by rfl) (hK:X.K=G.K:=by rfl) (hc:X.calm=true:=by rfl) (he:K1 e [] X:=by rfl):PV G X (.Call (.Name "sorted" p) [e] [] pos) (eN gQ cs) :=
 kC (jM hc) yq hg hm wu ha (he:=he) (hpl:=rfl)
end
@[simp] def L7:T->Bool
 | .bl true=>true
 | _=>false
mutual
@[simp] def dU:T->Bool
 | .tup l=>aZ l
 | .lst l=>aZ l
 | .GL _ l=>oM l
 | .obj _ l=>dP l
 | _=>true
@[simp] def aZ:Wa->Bool
 | []=>true
 | t :: r=>dU t && aZ r
@[simp] def oM:List (T×T)->Bool
 | []=>true
 | (_,v) :: r=>dU v && oM r
@[simp] def dP:List (Nat×T)->Bool
 | []=>true
 | (n,v) :: r=>(dU v && !(n == 0 && L7 v)) && dP r
end
theorem ie:∀ {ks:Wa} {ts:Wa},ks.length=ts.length->oM (ks.zip ts)=true->aZ ts=true
 | [],[],_,_=>rfl
 | _ :: _,[],h,_=>by simp at h
 | [],_ :: _,h,_=>by simp at h
 | k :: ks,t :: ts,h,e=>by
  rw [ZY,oM,Ze] at e
  rw [aZ,Ze]
  exact ⟨e.1,ie (by simpa using h) e.2⟩
theorem eV:∀ {ks:Wh} {ts:Wa},ks.length=ts.length->dP (ks.zip ts)=true->aZ ts=true
 | [],[],_,_=>rfl
 | _ :: _,[],h,_=>by simp at h
 | [],_ :: _,h,_=>by simp at h
 | k :: ks,t :: ts,h,e=>by
  rw [ZY,dP,Ze,Ze] at e
  rw [aZ,Ze]
  exact ⟨e.1.1,eV (by simpa using h) e.2⟩
section
variable {G:Gx} {H:Hp}
theorem Rp.at {v:V} {t:T} {F:Xa} (m:Me) (r:Rp G H v t F):dU t=true->Rp (G.at m) H v t F :=
 Rp.rec (G:=G) (H:=H) (motive_1:=fun v t F _=>dU t=true->Rp (G.at m) H v t F) (motive_2:=fun vs ts Fs _=>aZ ts=true->RpL (G.at m) H vs ts Fs)
  (fun _=>.GJ) (fun b _=>.bl b) (fun i _=>.int i) (fun s h _=>.str s h) (fun h _=>.Hw h) (fun h _ ih f=>.tup h (ih (by simpa using f))) (fun h _ ih f=>.lst h (ih (by simpa using f)))
  (fun h l q ih f=>.GL h l (ih (ie (by rw [Zt,l];exact q.len.1) (by simpa using f)))) (fun h l q ih f=>.Lc h l (ih (ie (by rw [Zt,l];exact q.len.1) (by simpa using f))))
  (fun h l n q ih f=>.Ld h l n (ih (ie (by rw [Zt,l];exact q.len.1) (by simpa using f)))) (fun h l q ih f=>.JN h l (ih (ie (by rw [Zt,l];exact q.len.1) (by simpa using f)))) (fun h hc _=>.exc h hc)
  (fun {c a dx b ks vs ts Fs} h l mm q ih f=>by
   rw [dU,dP,Ze] at f
   have hb:b=false:=by
    cases b with
    | false=>rfl
    | true=>simp at f
   refine .ins h l (fun z=>?_) (ih (eV (by rw [l];exact q.len.1) f.2))
   rw [hb] at z
   cases z)
  (fun _ _ _ f=>by simp [dU,dP,L7] at f)
  (fun _=>.nil) (fun _ _ i1 i2 f=>by
   rw [aZ,Ze] at f
   exact .cons (i1 f.1) (i2 f.2)) r
theorem RpL.at (m:Me):∀ {vs:List V} {ts:Wa} {Fs:Xm},RpL G H vs ts Fs->aZ ts=true->RpL (G.at m) H vs ts Fs
 | _,_,_,.nil,_=>.nil
 | _,_,_,.cons r q,f=>by
  rw [aZ,Ze] at f
  exact .cons (r.at m f.1) (RpL.at m q f.2)
mutual
theorem kR:∀ t:T,GO t=true->dU t=true
 | .GJ,_=>rfl
 | .bl _,_=>rfl
 | .int _,_=>rfl
 | .str _,_=>rfl
 | .Hw _,_=>rfl
 | .tup l,h=>by
  rw [dU]
  exact u9 l (by simpa using h)
 | .lst _,h=>by simp at h
 | .GL _ _,h=>by simp at h
 | .obj _ _,h=>by simp at h
theorem u9:∀ l:Wa,eO l=true->aZ l=true
 | [],_=>rfl
 | t :: l,h=>by
  rw [eO,Ze] at h
  rw [aZ,Ze]
  exact ⟨kR t h.1,u9 l h.2⟩
end
end
def qo (k:Nat):T->Option T
 | .obj (_+1) (_ :: fs)=>(fs.findIdx? fun p=>p.1 == k).bind fun i=>(fs[i]?).map (·.2)
 | _=>none
def aU (k:Nat) (a:Ex):Ex:=fun U=>(a U).bind fun x=>(qo k x.2).map fun t=>sub x.1 t
section
variable {G:Gx} {X:Cx} {a e o:Expr} {ca ce:Ex} {k i:Nat} {f x:Str} {pos pos' p1:Pos}
def w_fld (Jq:jW G) (F:HM G X.K k f) (ha:PV G X a ca) (hb:attributeBase a f X.env (eval a X.env)=eval a X.env:=by exact rfl):PV G X (.Attribute a f pos) (aU k ca) :=
 PE.weak (xN ha hb) fun J H Q hq=>by
  obtain ⟨M,U,m,t,s,e,kq⟩:=hq
  unfold aU at e
  obtain ⟨⟨mx,y⟩,ea,e1⟩:=Zz.mp e
  obtain ⟨z,ez,e2⟩:=Zy.mp e1
  refine ⟨M,U,mx,y,s,ea,fun v H' F' sm r1 f1=>?_⟩
  unfold qo at ez
  split at ez
  ·rename_i c q0 fs hy
   dsimp only at hy
   subst hy
   obtain ⟨j,h1,e3⟩:=Zz.mp ez
   obtain ⟨p,h2,e4⟩:=Zy.mp e3
   subst e4
   obtain ⟨c',a,dx,b,ns,vs,ts,Fs,ec,rfl,rfl,rfl,rfl,hA,hl,hb,ra⟩:=d6 r1
   cases ec
   have Kf:ns.length=ts.length:=hl.trans ra.len.1
   obtain ⟨k0,x0,g1,g2,g3,g4⟩:=ke (fun n=>n == k) Kf h1
   have ek:k0=k:=by simpa using g3
   subst ek
   have ep:p=(k0,x0):=by
    have:(ns.zip ts)[j]?=some (k0,x0):=by rw [YV];exact ⟨g1,g2⟩
    rw [this] at h2;exact (Zn h2).symm
   subst ep
   obtain ⟨u,Fi,u1,u2,u3⟩:=ra.get j g2
   have Ku:=sJ (G:=G) (c:=c+1) Jq hl h1 g1 u1
   rw [F.nm c] at Ku
   refine ⟨a,_,dx,_,u,rfl,hA,F.cl c,F.no c,Ku,?_⟩
   have fp:=((f1.sub (Yw _ _)).sub (cq u2)).up u3
   unfold VS.sub at e2
   rw [e2] at fp
   have et:x0=t:=congrArg Prod.snd e2
   rw [et] at u3
   exact kq u H' Fi sm u3 fp
  ·cases ez
def iZ (i k:Nat) (e:Ex) (U:VS.Env):Option Out:=(e U).bind fun v=>match U[i]? with
 | some (some (.ow (.obj (c+1) (q :: fs))))=>(fit v).bind fun t=>if fs.length < 900/\(fs.all fun p=>!(p.1 == k))=true then some (.nx (U.set i (some (.ow (.obj (c+1) (q :: (fs++[(k,t)]))))))) else none
 | _=>none
theorem rn {g:Nat->Str} {k:Nat} {v:V} (Jq:∀ k k':Nat,g k=g k'->k=k'):∀ {ks:Wh} {vs:List V} {ts:Wa},ks.length=vs.length->ks.length=ts.length->((ks.zip ts).all fun p=>!(p.1 == k))=true->iE (g k) v ((ks.map g).zip vs)=((ks++[k]).map g).zip (vs++[v])
 | [],[],_,_,_,_=>rfl
 | [],_ :: _,_,h,_,_=>by simp at h
 | _ :: _,[],_,h,_,_=>by simp at h
 | _ :: _,_ :: _,[],_,h,_=>by simp at h
 | k0 :: ks,v0 :: vs,t0 :: ts,h1,h2,h3=>by
  rw [ZY,Xq,Ze] at h3
  have ne:g k0 ≠ g k:=fun z=>by
   have:=Jq _ _ z
   subst this
   simp at h3
  rw [Zl,ZY,iE,Zo ne,rn Jq (by simpa using h1) (by simpa using h2) h3.2]
  rfl
def kZ (i k:Nat) (Jq:jW G) (F:HM G X.K k f) (he:PV G X e ce) (hN:X.N[i]?=some x:=by exact rfl) (hv:IB X.env.scope x:=by exact .inl rfl) (hd:K3 x:=by exact rfl) (hcd:K4 x:=by exact rfl)
  (hs:swapsWith e (some (.Attribute (.Name x p1) f pos')) pos.line X.env=pure false:=by exact rfl):PSV G X (.Assign [.Attribute (.Name x p1) f pos'] e pos) (iZ i k ce) :=
 PS.weak (Cp (fK hN hv hd hcd) he hs) fun D J H hq=>by
  obtain ⟨M,U,out,s,e,kq⟩:=hq
  unfold iZ at e
  obtain ⟨⟨mv,tv⟩,ev,e⟩:=Zz.mp e
  split at e
  ·rename_i c q0 fs ht
   obtain ⟨t,et,e⟩:=Zz.mp e
   have em:=ki et
   cases em
   split at e
   ·rename_i hc
    cases e
    obtain ⟨v,g1,g2⟩:=s.rp _ _ ht
    refine ⟨M,U,.fr,tv,s,ev,fun y H1 Fy sm ry fy=>⟨v,g1,?_⟩⟩
    obtain ⟨c',a,dx,b,ns,vs,ts,Fs,ec,rfl,rfl,rfl,eF,hA,hl,hb,ra⟩:=d6 g2
    cases ec
    have nd:=s.nd i _ ht
    rw [eF] at nd
    have Hx:=Zh.mp nd
    have Te:H1 a=some (.ins (G.ct (c+1)).1 dx ((ns.map (G.ct (c+1)).2).zip vs)):=sm a _ hA
    have m1:GS (H1 a):=by rw [Te];exact True.intro
    have Kf:ns.length=ts.length:=hl.trans ra.len.1
    have na:a ∉ Fy:=fun z=>by rw [fy.2 a z] at hA;cases hA
    have ln:((ns.map (G.ct (c+1)).2).zip vs).length < 1000:=by
     have:=hc.1
     rw [Yq] at this ⊢
     rw [Zt]
     lia
    refine ⟨a,_,dx,_,rfl,Te,F.cl c,F.no c,ln,?_⟩
    have ep:=rn (g:=(G.ct (c+1)).2) (k:=k) (v:=y) (Jq (c+1)) hl Kf hc.2
    rw [F.nm c] at ep
    rw [ep]
    have off:∀ bb∈Fs.flatten,bb ∉ Fy:=fun bb hb hw=>GS.pe (ra.GZ bb hb) (fy.2 bb hw)
    have g:Chg G H (.ref a) (M i) (.obj (c+1) ((0,.bl b) :: (ns.zip ts++[(k,tv)]))) (upd H1 a (.ins (G.ct (c+1)).1 dx (((ns++[k]).map (G.ct (c+1)).2).zip (vs++[y])))) (a :: (Fs++[Fy]).flatten):=by
     rw [eF,show ns.zip ts++[(k,tv)]=(ns++[k]).zip (ts++[tv]) from by rw [List.zip_append Kf];rfl]
     refine Chg.upd sm Zu m1 (.ins av (by simp [hl]) hb (((ra.same sm).off m1 Hx.1).append (.cons (ry.keep (Kept.upd (.inl m1)) fun bb hb o ho=>by rw [aA (fun z=>na (by rw [← z];exact hb))];exact ho) .nil))) ?_ ?_
     ·rw [Z5]
      refine Zh.mpr ⟨fun m=>?_,ZU.mpr ⟨Hx.2,by simpa using fy.1,fun b hb c hc z=>?_⟩⟩
      ·rcases Zc.mp m with m | m
       ·exact Hx.1 m
       ·exact na (by simpa using m)
      ·subst z;exact off b hb (by simpa using hc)
     ·intro bb hb
      rcases Zj.mp hb with rfl | hb
      ·exact .inl Zu
      ·rw [Z5] at hb
       rcases Zc.mp hb with hb | hb
       ·exact .inl (Zw _ hb)
       ·exact .inr (fy.2 bb (by simpa using hb))
    obtain ⟨z1,z2⟩:=s.mut ht g1 g
    exact kq _ J _ z1 z2
   ·cases e
  ·cases e
end
abbrev qS:=List (Nat×T)
def Jf (a:Addr):Me:=fun k=>if k=0 then some (.ref a) else none
abbrev Mt:=qS->Wa->Option (qS×T)
def Hu:List Bool->Xm->Xa
 | b :: bs,F :: Fs=>(if b then F else [])++Hu bs Fs
 | _,_=>[]
def JC:List Bool->Xm->Xa
 | b :: bs,F :: Fs=>(if b then [] else F)++JC bs Fs
 | _,_=>[]
theorem gK:∀ {mv:List Bool} {Fs:Xm} {j:Nat} {F:Xa},mv[j]?=some true->Fs[j]?=some F->F.Sublist (Hu mv Fs)
 | [],_,_,_,h,_=>by simp at h
 | _ :: _,[],_,_,_,h=>by simp at h
 | b :: bs,F0 :: Fs,0,F,h1,h2=>by
  simp at h1 h2
  subst h1 h2
  rw [Hu,Zq rfl]
  exact List.sublist_append_left _ _
 | b :: bs,F0 :: Fs,j+1,F,h1,h2=>by
  rw [Hu]
  exact (gK (by simpa using h1) (by simpa using h2)).trans (YW _ _)
theorem pF:∀ {mv:List Bool} {Fs:Xm} {j:Nat} {F:Xa},mv[j]?=some false->Fs[j]?=some F->F.Sublist (JC mv Fs)
 | [],_,_,_,h,_=>by simp at h
 | _ :: _,[],_,_,_,h=>by simp at h
 | b :: bs,F0 :: Fs,0,F,h1,h2=>by
  simp at h1 h2
  subst h1 h2
  rw [JC]
  exact List.sublist_append_left _ _
 | b :: bs,F0 :: Fs,j+1,F,h1,h2=>by
  rw [JC]
  exact (pF (by simpa using h1) (by simpa using h2)).trans (YW _ _)
theorem vb:∀ {mv:List Bool} {Fs:Xm} {i j:Nat} {F F':Xa},(Hu mv Fs).Nodup->mv[i]?=some true->mv[j]?=some true->Fs[i]?=some F->Fs[j]?=some F'->i ≠ j->∀ a∈F,a ∉ F'
 | [],_,_,_,_,_,_,h,_,_,_,_=>by simp at h
 | _ :: _,[],_,_,_,_,_,_,_,h,_,_=>by simp at h
 | b :: bs,F0 :: Fs,0,0,F,F',_,_,_,_,_,n=>absurd rfl n
 | b :: bs,F0 :: Fs,0,j+1,F,F',nd,h1,h2,h3,h4,n=>fun a ha GT=>by
  simp at h1 h3
  subst h1 h3
  rw [Hu,Zq rfl,ZU] at nd
  exact nd.2.2 a ha a ((gK (by simpa using h2) (by simpa using h4)).subset GT) rfl
 | b :: bs,F0 :: Fs,i+1,0,F,F',nd,h1,h2,h3,h4,n=>fun a ha GT=>by
  simp at h2 h4
  subst h2 h4
  rw [Hu,Zq rfl,ZU] at nd
  exact nd.2.2 a GT a ((gK (by simpa using h1) (by simpa using h3)).subset ha) rfl
 | b :: bs,F0 :: Fs,i+1,j+1,F,F',nd,h1,h2,h3,h4,n=>by
  rw [Hu,ZU] at nd
  exact vb nd.2.1 (by simpa using h1) (by simpa using h2) (by simpa using h3) (by simpa using h4) (by lia)
theorem uG:∀ {mv:List Bool} {Fs:Xm} {a:Addr},a∈Hu mv Fs->∃ (j:Nat) (F:Xa),mv[j]?=some true/\Fs[j]?=some F/\a∈F
 | [],_,_,h=>by simp [Hu] at h
 | _ :: _,[],_,h=>by simp [Hu] at h
 | b :: bs,F0 :: Fs,a,h=>by
  rw [Hu] at h
  rcases Zc.mp h with h | h
  ·cases b with
   | true=>exact ⟨0,F0,rfl,rfl,h⟩
   | false=>simp at h
  ·obtain ⟨j,F,h1,h2,h3⟩:=uG h
   exact ⟨j+1,F,by simpa using h1,by simpa using h2,h3⟩
def iO (b:Bool) (t:T):We:=some (if b then .ow t else .pu t)
def w6 (c:Nat) (U:VS.Env):Option qS:=match (U[(0:Nat)]?:Option (We)) with
 | some (some (.ow (.obj c' ((0,.bl true) :: fs))))=>if c'=c+1 then some fs else none
 | _=>none
noncomputable def Iy (c np nn:Nat) (mv:List Bool) (body:Sx):Mt:=fun fs ts=>if ts.length+1=np/\mv.length=ts.length then
 (body ((some (.ow (.obj (c+1) ((0,.bl true) :: fs))) :: List.zipWith iO mv ts)++List.replicate (nn - np) none)).bind fun o=>match o with
  | .rt v U=>(w6 c U).bind fun Ih=>if GO v.2 then some (Ih,v.2) else none
  | .nx U=>(w6 c U).map fun Ih=>(Ih,.GJ)
  | _=>none else none
noncomputable def J9 (G:Gx) (c:Nat) (mv:List Bool) (g:Mt):Sp:=fun vs H Q _=>∃ (a:Addr) (us:List V) (fs:qS) (ts:Wa) (F:Xa) (Fs:Xm) (Ih:qS) (x:T),vs=.ref a :: us/\Rp (G.at (Jf a)) H (.ref a) (.obj (c+1) ((0,.bl true) :: fs)) F ∧
 RpL (G.at (Jf a)) H us ts Fs/\mv.length=ts.length/\(F++Hu mv Fs).Nodup/\(∀ b∈F++Hu mv Fs,b ∉ JC mv Fs)/\g fs ts=some (Ih,x) ∧
 ∀ u H' F',Chg (G.at (Jf a)) H (.ref a) (F++Hu mv Fs) (.obj (c+1) ((0,.bl true) :: Ih)) H' F'->Rp (G.at (Jf a)) H' u x []->Q u H'
section
variable {G:Gx} {H:Hp}
def rC {v:V} {us:List V} {t:T} {ts:Wa} {F:Xa} {Fs:Xm} {mv:List Bool} (r0:Rp G H v t F) (r:RpL G H us ts Fs) (hm:mv.length=ts.length) (nd:(F++Hu mv Fs).Nodup) (sp:∀ b∈F++Hu mv Fs,b ∉ JC mv Fs) (n nv:Nat) (hn:nv=us.length+1) :
  SR G (fun i=>(F :: Fs).getD i []) ((some (.ow t) :: List.zipWith iO mv ts)++List.replicate (n - (ts.length+1)) none) ((v :: us).map some++List.replicate (n - nv) none) H ∧
  ∀ a,bC (fun i=>(F :: Fs).getD i []) ((some (.ow t) :: List.zipWith iO mv ts)++List.replicate (n - (ts.length+1)) none) a->a∈F++Hu mv Fs:=by
 subst hn
 have hl:=r.len
 have zl:(List.zipWith iO mv ts).length=ts.length:=by rw [List.length_zipWith,hm,Nat.min_self]
 have back:∀ {i:Nat} {c:Cell},((some (Cell.ow t) :: List.zipWith iO mv ts)++List.replicate (n - (ts.length+1)) none)[i]?=some (some c)->(i=0/\c=.ow t)\/∃ (j:Nat) (b:Bool) (u:T),i=j+1/\mv[j]?=some b/\ts[j]?=some u/\c=(if b then .ow u else .pu u):=fun {i c} h=>by
  cases i with
  | zero=>exact .inl ⟨rfl,(Zn (Zn h)).symm⟩
  | succ j =>
   rw [XY,List.getElem?_cons_succ] at h
   by_cases hj:j < ts.length
   ·rw [ZA (by rw [zl];exact hj),List.getElem?_zipWith] at h
    have e1:mv[j]?=some mv[j]:=Zr (by rw [hm];exact hj)
    have e2:ts[j]?=some ts[j]:=Zr hj
    rw [e1,e2] at h
    exact .inr ⟨j,_,_,rfl,e1,e2,(Zn (Zn h)).symm⟩
   ·rw [Yy (by rw [zl];exact ZE hj),Yc] at h
    split at h <;> cases h
 have fp:∀ {j:Nat} {u:T},ts[j]?=some u->∃ w Fj,us[j]?=some w/\Fs[j]?=some Fj/\Rp G H w u Fj:=fun {j u} h=>r.get j h
 have ow:∀ {i:Nat} {u:T},((some (Cell.ow t) :: List.zipWith iO mv ts)++List.replicate (n - (ts.length+1)) none)[i]?=some (some (.ow u))->i=0\/∃ j:Nat,i=j+1/\mv[j]?=some true/\ts[j]?=some u:=fun {i u} h=>by
  rcases back h with ⟨h1,h2⟩ | ⟨j,b,u',h1,h2,h3,h4⟩
  ·exact .inl h1
  ·cases b with
   | true=>cases h4;exact .inr ⟨j,h1,h2,h3⟩
   | false=>cases h4
 rw [ZU] at nd
 refine ⟨⟨?_,fun i c h=>?_,fun i u h=>?_,fun i j u c h1 h2 n=>?_⟩,fun a ⟨i,u,h1,h2⟩=>?_⟩
 ·simp [zl];lia
 ·rcases back h with ⟨rfl,rfl⟩ | ⟨j,b,u,rfl,h2,h3,h4⟩
  ·exact ⟨v,rfl,r0⟩
  ·obtain ⟨w,Fj,g1,g2,g3⟩:=fp h3
   refine ⟨w,?_,?_⟩
   ·rw [Zl,XY,List.getElem?_cons_succ,ZA (by rw [Zt];exact (Zg.mp g1).1),ZP,g1]
    rfl
   ·show Rp G H w (i5 c) ((F :: Fs).getD (j+1) [])
    rw [YR,Zs,g2,h4]
    cases b <;> exact g3
 ·rcases ow h with rfl | ⟨j,rfl,h2,h3⟩
  ·exact nd.1
  ·obtain ⟨w,Fj,g1,g2,g3⟩:=fp h3
   show ((F :: Fs).getD (j+1) []).Nodup
   rw [YR,Zs,g2]
   exact nd.2.1.sublist (gK h2 g2)
 ·rcases ow h1 with rfl | ⟨i',rfl,a2,a3⟩
  ·rcases back h2 with ⟨rfl,_⟩ | ⟨j',b,u',rfl,b2,b3,_⟩
   ·exact absurd rfl n
   ·obtain ⟨w,Fj,g1,g2,g3⟩:=fp b3
    intro a ha
    show a ∉ (F :: Fs).getD (j'+1) []
    rw [YR,Zs,g2]
    intro GT
    cases b with
    | true=>exact nd.2.2 a ha a ((gK b2 g2).subset GT) rfl
    | false=>exact sp a (Yx _ ha) ((pF b2 g2).subset GT)
  ·obtain ⟨w,Fi,g1,g2,g3⟩:=fp a3
   have ei:(F :: Fs).getD (i'+1) []=Fi:=by rw [YR,Zs,g2];rfl
   show ∀ a∈(F :: Fs).getD (i'+1) [],_
   rw [ei]
   rcases back h2 with ⟨rfl,_⟩ | ⟨j',b,u',rfl,b2,b3,_⟩
   ·exact fun a ha GT=>nd.2.2 a GT a ((gK a2 g2).subset ha) rfl
   ·obtain ⟨w',Fj,k1,k2,k3⟩:=fp b3
    intro a ha
    show a ∉ (F :: Fs).getD (j'+1) []
    rw [YR,Zs,k2]
    intro GT
    cases b with
    | true=>exact vb nd.2.1 a2 b2 g2 k2 (fun z=>n (by rw [z])) a ha GT
    | false=>exact sp a (ZL _ ((gK a2 g2).subset ha)) ((pF b2 k2).subset GT)
 ·rcases ow h1 with rfl | ⟨j,rfl,h3,h4⟩
  ·exact Yx _ h2
  ·obtain ⟨w,Fj,g1,g2,g3⟩:=fp h4
   have Iu:a∈(F :: Fs).getD (j+1) []:=h2
   rw [YR,Zs,g2] at Iu
   exact ZL _ ((gK h3 g2).subset Iu)
def xG {c:Nat} {U:VS.Env} {fs:qS} (h:w6 c U=some fs):U[0]?=some (some (.ow (.obj (c+1) ((0,.bl true) :: fs)))):=by
 unfold w6 at h
 split at h
 ·rename_i c' Ih e
  split at h
  ·rename_i hc
   cases h
   rw [e,hc]
  ·cases h
 ·cases h
end
section
variable {G:Gx} {P:Program} {w:World} {K:Xj} {mg:Xe} {base:Heap}
def El {qual:Str} {st:Stmt} {f:Addr} {fd:FuncData} {N ps:List Str} {k np nn c:Nat} {mv:List Bool} {body:Sx} (ok:∀ {sp:Sp},(∀ vs H Q E,sp vs H Q E->vs.length=ps.length)->(∀ (GP:Value) (A:Around) (outer:List PySem.Env) (s:Shared) (H:Hp) (vs:List V) (Q:VK) (E:XK),GH k (A.deeper (envOfC qual (ag st) s.heap.objs.size f GP))->sp vs H Q E →
   ∃ t,IC (iK Hq P w K mg base N qual (ag st) f GP A outer s H E).Jr (aR st) t/\t { nx:=fun _ H'=>Q .GJ H',rt:=Q } (L2.start N vs) H)->FnOk P w K mg base Hq (k+1) f fd ps sp) (hp:ps.length=np) (hn:N.length=nn)
  (hb:∀ (a:Addr) (GP:Value) (A:Around) (outer:List PySem.Env) (s:Shared) (H:Hp) (E:XK),GH k (A.deeper (envOfC qual (ag st) s.heap.objs.size f GP))->gz (G.at (Jf a)) (iK Hq P w K mg base N qual (ag st) f GP A outer s H E).Jr (aR st) body) :
  FnOk P w K mg base Hq (k+1) f fd ps (J9 G c mv (Iy c np nn mv body)):=by
 refine ok (fun vs H Q E h=>?_) fun GP A outer s H vs Q E hr h=>?_
 ·obtain ⟨a,us,fs,ts,F,Fs,Ih,y,rfl,r0,r,hm,nd,sp,e,q⟩:=h
  unfold Iy at e
  split at e
  ·rename_i hl
   rw [Zm,r.len.1,hl.1,hp]
  ·cases e
 ·obtain ⟨a,us,fs,ts,F,Fs,Ih,y,rfl,r0,r,hm,nd,sp,e,q⟩:=h
  refine ⟨_,hb a GP A outer s H E hr,?_⟩
  unfold Iy at e
  split at e
  ·rename_i hl
   obtain ⟨o,e1,e2⟩:=Zz.mp e
   obtain ⟨s0,Kc⟩:=rC r0 r hm nd sp nn (us.length+1) rfl
   rw [hl.1] at s0 Kc
   have e3:L2.start N (V.ref a :: us)=(V.ref a :: us).map some++List.replicate (nn - (us.length+1)) none:=by
    unfold L2.start
    rw [hn]
    rfl
   rw [e3]
   have fin:∀ {U':VS.Env} {M':GR} {J':L2.St} {H':Hp},w6 c U'=some Ih->SR (G.at (Jf a)) M' U' J' H'->G0 (fun i=>(F :: Fs).getD i []) ((some (.ow (.obj (c+1) ((0,.bl true) :: fs))) :: List.zipWith iO mv ts)++List.replicate (nn - np) none) H M' U' H' →
     Chg (G.at (Jf a)) H (.ref a) (F++Hu mv Fs) (.obj (c+1) ((0,.bl true) :: Ih)) H' (M' 0):=fun {U' M' J' H'} Vj s' fr=>by
    have h0:=xG Vj
    obtain ⟨v',g1,g2⟩:=s'.rp 0 _ h0
    have Mg:Rp (G.at (Jf a)) H' v' (.obj (c+1) ((0,.bl true) :: Ih)) (M' 0):=g2
    obtain ⟨c',a',dx,b,ns,vs,HF,Ij,ec,rfl,eb,_,eF,hA,hl',Hb,ra⟩:=d6 Mg
    have Ki:b=true:=by cases eb;rfl
    have ea:some (V.ref a)=some (V.ref a'):=Hb Ki
    cases ea
    refine ⟨fr.kept,fun b' o' Hb ho=>(fr.keep b' o' ho fun z=>Hb (Kc b' z)).1,fr.GZ,Mg,s'.nd 0 _ h0,fun b' Hb=>?_⟩
    rcases fr.ow b' ⟨0,_,h0,Hb⟩ with z | z
    ·exact .inl (Kc b' z)
    ·exact .inr z
   refine ⟨_,_,o,s0,e1,?_⟩
   cases o with
   | nx U' =>
    obtain ⟨VU,e4,e5⟩:=Zy.mp e2
    cases e5
    intro M' J' H' s' fr
    exact q .GJ H' _ (fin e4 s' fr) .GJ
   | rt v U' =>
    obtain ⟨VU,e4,e5⟩:=Zz.mp e2
    split at e5
    ·rename_i hi
     cases e5
     intro u H' F' M' J' s' fr r' rf
     have:=r'.GO hi
     subst this
     exact q u H' _ (fin e4 s' fr) r'
    ·cases e5
   | bk U'=>cases e2
   | ct U'=>cases e2
  ·cases e
def To {x qual:Str} {st:Stmt} {f:Addr} {fd:FuncData} {N ps:List Str} {k np nn c:Nat} {mv:List Bool} {body:Sx} (F:GX K x qual st f fd) (S:jj N ps (ag st)) (hp:ps.length=np) (hn:N.length=nn)
  (hb:∀ (a:Addr) (GP:Value) (A:Around) (outer:List PySem.Env) (s:Shared) (H:Hp) (E:XK),GH k (A.deeper (envOfC qual (ag st) s.heap.objs.size f GP))->gz (G.at (Jf a)) (iK Hq P w K mg base N qual (ag st) f GP A outer s H E).Jr (aR st) body) :
  FnOk P w K mg base Hq (k+1) f fd ps (J9 G c mv (Iy c np nn mv body)):=El (fun l b=>F.ok S l b) hp hn hb
structure Km (K:Xj) (x qual:Str) (st:Stmt) (f:Addr) (fd:FuncData):Prop where
 ex:∃ (T:Addr) (oc:Value) (od:Option Addr) (kV doc pm:Value) (an:Option Addr) (GP ct:Value) (JD:Array (Wq)) (o:Obj) (n:Nat),
  fd=PySem.W.fnOf x qual (cG st) (aR st) (ag st) (.ref T) kV doc pm an GP ct/\K.lookup f=some ⟨oc,od,.func fd,JD⟩/\PySem.W.codeIn K GP qual=true/\K.lookup T=some o/\o.data=.seq #[.none] n
 kp:PySem.W.keepIn K (.ref f)=true
def Km.ok {x qual:Str} {st:Stmt} {f:Addr} {fd:FuncData} {N ps:List Str} {k:Nat} {sp:Sp} (F:Km K x qual st f fd) (S:jj N ps (ag st)) (len:∀ vs H Q E,sp vs H Q E->vs.length=ps.length)
  (Jv:∀ (GP:Value) (A:Around) (outer:List PySem.Env) (s:Shared) (H:Hp) (vs:List V) (Q:VK) (E:XK),GH k (A.deeper (envOfC qual (ag st) s.heap.objs.size f GP))->sp vs H Q E →
   ∃ t,IC (iK Hq P w K mg base N qual (ag st) f GP A outer s H E).Jr (aR st) t/\t { nx:=fun _ H'=>Q .GJ H',rt:=Q } (L2.start N vs) H):FnOk P w K mg base Hq (k+1) f fd ps sp:=by
 obtain ⟨T,oc,od,kV,doc,pm,an,GP,ct,JD,o,n,rfl,lk,hcd,_⟩:=F.ex
 refine BS lk hcd S len fun A outer s H vs Q E hr Ll=>?_
 obtain ⟨t,h,q⟩:=Jv GP A outer s H vs Q E hr Ll
 exact ⟨t,h.Jr,q⟩
def Km.binds {x qual:Str} {st:Stmt} {f:Addr} {fd:FuncData} {ps:List Str} (F:Km K x qual st f fd)
  (h:∀ (s:Shared) (T:Addr) (kV doc pm:Value) (an:Option Addr) (GP ct:Value) (o:Obj) (n:Nat) (us:X8),K.In s.heap->K.lookup T=some o->o.data=.seq #[.none] n->us.length=ps.length->BindsTo s (PySem.W.fnOf x qual (cG st) (aR st) (ag st) (.ref T) kV doc pm an GP ct) ⟨us,[]⟩ (ps.zip us)):Binds K fd ps []:=by
 obtain ⟨T,oc,od,kV,doc,pm,an,GP,ct,JD,o,n,rfl,lk,hcd,l2,l3⟩:=F.ex
 intro s us X hl
 rw [ZS] at hl ⊢
 exact h s T kV doc pm an GP ct o n us X l2 l3 hl
end
def argsOk:List Bool->Wc->Bool
 | [],[]=>true
 | b :: bs,v :: vs=>(if b then v.1 == .fr else GO v.2) && argsOk bs vs
 | _,_=>false
def lN (c:Nat) (mv:List Bool) (g:Mt) (xs:Wc):T->Option (T×Val)
 | .obj c' ((0,.bl b) :: fs)=>if c'=c+1/\dP fs=true/\argsOk mv xs=true/\aZ (trees xs)=true then (g fs (trees xs)).bind fun z=>if dP z.1=true/\GO z.2=true then some (.obj c' ((0,.bl b) :: z.1),(.fr,z.2)) else none else none
 | _=>none
noncomputable def bx (i:Nat) (way:List Jh) (c:Nat) (mv:List Bool) (g:Mt) (as:Hh) (U:VS.Env):Option (Val×VS.Env):=match (U[i]?:Option (We)) with
 | some (some (.ow t))=>(keys way U).bind fun ks=>(as U).bind fun xs=>(pm (lN c mv g xs) ks t).map fun z=>(z.2,U.set i (some (.ow z.1)))
 | _=>none
def tX (G:Gx) (x:Xx):TE:=fun J H Q=>∃ M U v U',SR G M U J H/\x U=some (v,U')/\GO v.2=true/\∀ u H' M',SR G M' U' J H'->G0 M U H M' U' H'->Rp G H' u v.2 []->Q u H'
def PX (G:Gx) (X:Cx) (e:Expr) (x:Xx):Prop:=PE X e (tX G x)
theorem jS:∀ {mv:List Bool} {xs:Wc},argsOk mv xs=true->mv.length=xs.length
 | [],[],_=>rfl
 | [],_ :: _,h=>by simp [argsOk] at h
 | _ :: _,[],h=>by simp [argsOk] at h
 | b :: bs,v :: vs,h=>by
  rw [argsOk,Ze] at h
  rw [Zm,Zm,jS h.2]
theorem nG:∀ {mv:List Bool} {xs:Wc} {Fs:Xm},argsOk mv xs=true->(Hu mv Fs).Sublist (HQ xs Fs)
 | [],[],_,_=>by simp [Hu]
 | [],_ :: _,_,h=>by simp [argsOk] at h
 | _ :: _,[],_,h=>by simp [argsOk] at h
 | b :: bs,v :: vs,[],h=>by simp [Hu]
 | b :: bs,(m,t) :: vs,F :: Fs,h=>by
  rw [argsOk,Ze] at h
  have ih:=nG (Fs:=Fs) h.2
  rw [Hu]
  cases b with
  | true =>
   have:m=.fr:=by simpa using h.1
   subst this
   exact List.Sublist.append (Y7 _) ih
  | false =>
   rw [Zo Zd,Yv]
   cases m with
   | fr=>exact ih.trans (YW _ _)
   | pu=>exact ih
   | bo=>exact ih
theorem pz {G:Gx} {H:Hp}:∀ {mv:List Bool} {xs:Wc} {us:List V} {Fs:Xm},argsOk mv xs=true->RpL G H us (trees xs) Fs->JC mv Fs=[]
 | [],[],_,_,_,_=>by simp [JC]
 | [],_ :: _,_,_,h,_=>by simp [argsOk] at h
 | _ :: _,[],_,_,h,_=>by simp [argsOk] at h
 | b :: bs,(m,t) :: vs,_,_,h,r=>by
  rw [argsOk,Ze] at h
  cases r with
  | cons r0 q =>
   rw [JC,pz h.2 q,ZS]
   cases b with
   | true=>rfl
   | false=>exact r0.GO (by simpa using h.1)
def uX {M:GR} {U:VS.Env} {H:Hp} {mv:List Bool} {xs:Wc} {Fs:Xm} (h:argsOk mv xs=true) (f:Ls M U H xs Fs):∀ a∈Hu mv Fs,H a=none:=fun a ha=>by
 obtain ⟨j,F,h1,h2,h3⟩:=uG ha
 have key:∀ {mv:List Bool} {xs:Wc} {j:Nat},argsOk mv xs=true->mv[j]?=some true->∃ v,xs[j]?=some v/\v.1=.fr:=by
  intro mv
  induction mv with
  | nil=>intro xs j _ h;simp at h
  | cons b bs ih =>
   intro xs j h h1
   cases xs with
   | nil=>simp [argsOk] at h
   | cons v vs =>
    rw [argsOk,Ze] at h
    cases j with
    | zero =>
     simp at h1
     subst h1
     exact ⟨v,rfl,by simpa using h.1⟩
    | succ j =>
     obtain ⟨w,q1,q2⟩:=ih h.2 (by simpa using h1)
     exact ⟨w,by simpa using q1,q2⟩
 obtain ⟨v,q1,q2⟩:=key h h1
 have:=f.each j v F q1 h2
 rw [q2] at this
 exact this.2 a h3
section
variable {G:Gx} {X:Cx} {CX:KD} {i c k k':Nat} {way:List Jh} {o e:Expr} {es:List Expr} {cs:Hh} {m:Str} {f:Addr} {fd:FuncData} {ps:List Str} {mv:List Bool} {g:Mt} {apos pos:Pos}
def qN {J:L2.St} {H:Hp} {Q:VK} {E:XK} {t:TA} (Jq:jW G) (hn:∀ k,(G.ct (c+1)).2 k ≠ m) (ht:∀ M U xs J H (R:List V->Hp->Prop),SR G M U J H->cs U=some xs->(∀ vs H' Fs,aD H H'->RpL G H' vs (trees xs) Fs->Ls M U H xs Fs->R vs H')->t J H R)
  (h:tX G (bx i way c mv g cs) J H Q):u6 (G.ct (c+1)).1 m (J9 G c mv g) [] E (OR G i way) t J H Q:=by
 obtain ⟨M,U,v,U',s,e,Kw,kq⟩:=h
 unfold bx at e
 split at e
 ·rename_i t0 h0
  obtain ⟨ks,ek,e3⟩:=Zz.mp e
  obtain ⟨xs,el,e4⟩:=Zz.mp e3
  obtain ⟨⟨t',x2⟩,e5,e6⟩:=Zy.mp e4
  cases e6
  obtain ⟨v0,h1,h2⟩:=s.rp _ _ h0
  obtain ⟨w,x,F1,x3,w1,w2,w3,w4,w5⟩:=ij ks Jq h2 (s.nd i t0 h0) e5
  unfold lN at w4
  split at w4
  ·rename_i c1 b fs
   split at w4
   ·rename_i hc
    obtain ⟨rfl,Kg,K7,Ob⟩:=hc
    obtain ⟨⟨Ih,y⟩,eg,e7⟩:=Zz.mp w4
    split at e7
    ·rename_i KZ
     cases e7
     obtain ⟨c',a,dx,b',ns,vs,ts,Fs,ec,rfl,eb,rfl,eF,hA,hl,hb,ra⟩:=d6 w2
     cases ec
     cases eb
     have Kf:ns.length=ts.length:=hl.trans ra.len.1
     refine ⟨M,U,t0,ks,v0,.ref a,s,h0,h1,ek,w1,fun H1 sm=>⟨a,dx,_,rfl,sm a _ hA,?_,?_⟩⟩
     ·have key:∀ (ns:Wh) (vs:List V),((ns.map (G.ct (c+1)).2).zip vs).lookup m=none:=by
       intro ns
       induction ns with
       | nil=>intro vs;simp
       | cons n ns ih =>
        intro vs
        cases vs with
        | nil=>simp
        | cons v vs =>
         rw [Zl,ZY,Yu]
         have:(m == (G.ct (c+1)).2 n)=false:=by
          rw [ZM]
          exact fun z=>hn n z.symm
         rw [this]
         exact ih vs
      exact key ns vs
     ·refine ht M U xs J H1 _ (s.same sm) el fun us H2 Gs Hy M9 MP=>?_
      have Jp:aD H H2:=sm.trans Hy
      have VW:Ls M U H xs Gs:=⟨fun n v' F' a1 a2=>(MP.each n v' F' a1 a2).back sm,MP.nd⟩
      have Mz:=uX K7 VW
      have OW:RpL (G.at (Jf a)) H2 vs ts Fs:=(ra.same Jp).at (Jf a) (eV Kf Kg)
      refine ⟨a,us,ns.zip ts,trees xs,F1,Gs,Ih,y,by rw [ZS],?_,M9.at (Jf a) Ob,?_,?_,?_,eg,fun u H' F' gc ru=>?_⟩
      ·rw [eF]
       exact .ins (Jp a _ hA) hl (fun _=>rfl) OW
      ·rw [jS K7]
       simp [trees]
      ·refine ZU.mpr ⟨w3,MP.nd.sublist (nG K7),fun b1 Ki b2 MN z=>?_⟩
       subst z
       exact GS.pe (w2.GZ b1 Ki) (Mz b1 MN)
      ·rw [pz K7 M9]
       exact fun b1 _ z=>nomatch z
      ·have back:Rp G H' (.ref a) (.obj (c+1) ((0,.bl b) :: Ih)) F':=by
        obtain ⟨c2,a2,TV,b2,O2,R9,ON,T4,MR,Om,RT,RS,Oq,Oe,Kh,MN,KL⟩:=d6 gc.rp
        cases MR
        cases Om
        subst RS
        rw [Oq]
        exact .ins Oe Kh hb (KL.at G.me (eV (Kh.trans KL.len.1) KZ.1))
       have gG:Chg G H (.ref a) F1 (.obj (c+1) ((0,.bl b) :: Ih)) H' F':=⟨(Kept.of Jp).trans gc.kept,fun b1 o1 Ki ho=>gc.keep b1 o1 (fun z=>(Zc.mp z).elim Ki fun z=>by rw [Mz b1 z] at ho;cases ho) (Jp b1 o1 ho),fun b1 h=>gc.GZ b1 fun z=>h (Jp.free z),back,gc.nd,fun b1 Ki=>by
        rcases gc.sub b1 Ki with z | z
        ·rcases Zc.mp z with z | z
         ·exact .inl z
         ·exact .inr (Mz b1 z)
        ·exact .inr (Jp.free z)⟩
       obtain ⟨F2,g2⟩:=w5 H' F' gG
       obtain ⟨z1,z2⟩:=s.mut h0 h1 g2
       exact kq u H' _ z1 z2 (ru.at G.me (kR y KZ.2))
    ·cases e7
   ·cases w4
  ·cases w4
 ·cases e
def BJ {pl:Sem Bool} (Jq:jW G) (hn:∀ k,(G.ct (c+1)).2 k ≠ m) (ho:Jz G X o i way) (hc:HZ X.K (G.ct (c+1)).1) (hm:Meth X.K (G.ct (c+1)).1 m f) (F:FnOk X.prog X.w X.K X.mg X.base Hq k f fd ps (J9 G c mv g)) (hr:GH k' X.A) (hk:k<=k') (hb:Binds X.K fd ps []) (ha:HI G X (e :: es) cs)
  (Io:K1 e es X) (hpl:K2 pos es X)
  (ht:eval (.Call (.Attribute o m apos) (e :: es) [] pos) X.env=(do
   let ov ← eval o X.env
   standAt apos.atName
   let (f,first) ← holding [ov] (getMethod ov m pl)
   callWith pos f first (backTo pos (starEach (e :: es) X.env)) (backToKw pos (keywordEach [] X.env)))):PX G X (.Call (.Attribute o m apos) (e :: es) [] pos) (bx i way c mv g cs) :=
 PE.weak (qb (E:=E0) ho hc hm F (hr.mono hk) hb .nil jA ha Io hpl ht) fun J H Q h=>qN (t:=M8 G cs) Jq hn (fun M U xs J H R s e k=>⟨M,U,xs,s,e,k⟩) h
def y9 {pl:Sem Bool} (Jq:jW G) (hn:∀ k,(G.ct (c+1)).2 k ≠ m) (ho:Jz G X o i way) (hc:HZ X.K (G.ct (c+1)).1) (hm:Meth X.K (G.ct (c+1)).1 m f) (F:FnOk X.prog X.w X.K X.mg X.base Hq k f fd ps (J9 G c mv g)) (hr:GH k' X.A) (hk:k<=k') (hb:Binds X.K fd ps [])
  (ht:eval (.Call (.Attribute o m apos) [] [] pos) X.env=(do
   let ov ← eval o X.env
   standAt apos.atName
   let (f,first) ← holding [ov] (getMethod ov m pl)
   callWith pos f first (backTo pos (starEach [] X.env)) (backToKw pos (keywordEach [] X.env)))):PX G X (.Call (.Attribute o m apos) [] [] pos) (bx i way c mv g ai) :=
 PE.weak (qK (E:=E0) ho hc hm F (hr.mono hk) hb .nil jA ht) fun J H Q h=>qN (t:=tW) Jq hn (fun M U xs J H R s e k=>by
  cases (show some ([]:Wc)=some xs from e)
  exact k [] H [] (aD.refl _) .nil ⟨fun i v F h=>by simp at h,by simp [HQ]⟩) h
def NA (x:Xx):Sx:=fun U=>(x U).bind fun z=>if GO z.1.2 then some (.nx z.2) else none
def b7 (j:Nat) (x:Xx):Sx:=fun U=>(x U).bind fun z=>if GO z.1.2=true/\j < z.2.length then some (.nx (z.2.set j (some (.pu z.1.2)))) else none
def kL (x:Xx):Sx:=fun U=>(x U).bind fun z=>if GO z.1.2 then some (.rt (.fr,z.1.2) z.2) else none
variable {x:Xx}
def rh (h:PX G X e x) (IV:swapsWith e none pos.line X.env=pure false):PSV G X (.Expr e pos) (NA x) :=
 PS.weak (kN h IV) fun D J H hq=>by
  obtain ⟨M,U,out,s,e,k⟩:=hq
  unfold NA at e
  obtain ⟨⟨v,U'⟩,e1,e2⟩:=Zz.mp e
  split at e2
  ·rename_i hi
   cases e2
   exact ⟨M,U,v,U',s,e1,hi,fun u H' M' s' f r=>k M' J H' s' f⟩
  ·cases e2
def vk (h:PX G X e x):PSV G X (.Return (some e) pos) (kL x) :=
 PS.weak (pD h) fun D J H hq=>by
  obtain ⟨M,U,out,s,e,k⟩:=hq
  unfold kL at e
  obtain ⟨⟨v,U'⟩,e1,e2⟩:=Zz.mp e
  split at e2
  ·rename_i hi
   cases e2
   exact ⟨M,U,v,U',s,e1,hi,fun u H' M' s' f r=>k u H' [] M' J s' f r ⟨Z9,fun a h=>nomatch h⟩⟩
  ·cases e2
def cf {j:Nat} {nm:Str} {pos':Pos} (h:PX G X e x) (hN:X.N.Nodup) (hi:X.N[j]?=some nm) (hx:Loc X.env.scope nm) (hs:swapsWith e (some (.Name nm pos')) pos.line X.env=pure false:=by exact rfl) (hf:X.fn nm=true\/X.env.scope.names.lookup nm=some .local:=by exact .inl rfl) :
  PSV G X (.Assign [.Name nm pos'] e pos) (b7 j x) :=
 PS.weak (pY hN hi hx h hs hf) fun D J H hq=>by
  obtain ⟨M,U,out,s,e,k⟩:=hq
  unfold b7 at e
  obtain ⟨⟨v,U'⟩,e1,e2⟩:=Zz.mp e
  split at e2
  ·rename_i hi
   cases e2
   refine ⟨M,U,v,U',s,e1,hi.1,fun u H' M' s' f r=>?_⟩
   obtain ⟨q1,q2⟩:=s'.val (c:=.pu v.2) (m:=.fr) hi.2 (aD.refl H') r ⟨Z9,fun a h=>nomatch h⟩ (.inl ⟨rfl,by decide⟩)
   exact k _ _ H' q1 (f.trans q2)
  ·cases e2
noncomputable def i3 (i:Nat) (way:List Jh) (k:Ex) (x:Xx):Sx:=fun U=>(x U).bind fun z=>if GO z.1.2 then dA i way k (fun _=>some (.fr,z.1.2)) z.2 else none
def yf {M:GR} {U:VS.Env} {J:L2.St} {H H1:Hp} {t t':T} {ks:List Ky} {mk mv:Md} {tk tv:T} {y':Unit} {xv:V} {Fv:Xa} {ck:Ex} {D:L2.St->Hp->Prop} (Jq:jW G) (s:SR G M U J H) (ht:U[i]?=some (some (.ow t))) (ek:keys way U=some ks) (LP:ck U=some (mk,tk)) (e5:pm (jQ (mk,tk) (mv,tv)) ks t=some (t',y'))
  (Im:aD H H1) (rv:Rp G H1 xv tv Fv) (fv:Fp M U H mv Fv) (k:∀ M' H',SR G M' (U.set i (some (.ow t'))) J H'->G0 M U H M' (U.set i (some (.ow t'))) H'->D J H'):Fm (OR G i way) (tE G ck) B0 xv J H1 D:=by
   obtain ⟨v,g1,g2⟩:=s.rp _ _ ht
   obtain ⟨w,x,F1,x3,w1,w2,w3,w4,w5⟩:=ij ks Jq g2 (s.nd i t ht) e5
   refine ⟨M,U,t,ks,v,w,s.same Im,ht,g1,ek,w1.same Im,fun H2 Hy=>⟨M,U,mk,tk,(s.same Im).same Hy,LP,fun kv H3 Fk Jp rk fk=>?_⟩⟩
   have sm:aD H H3:=(Im.trans Hy).trans Jp
   have Lh:Rp G H3 xv tv Fv:=(rv.same Hy).same Jp
   have fin:∀ H4 F',Chg G H w F1 x3 H4 F'->D J H4:=fun H4 F' g=>by
    obtain ⟨F2,Mg⟩:=w5 H4 F' g
    obtain ⟨z1,z2⟩:=s.mut ht g1 Mg
    exact k _ H4 z1 z2
   refine L2.jy fun P_ k_=>?_
   cases x with
   | lst l =>
    cases tk with
    | int n =>
     obtain ⟨tt,et,e7⟩:=Zz.mp (show ((fit (mv,tv)).bind fun t=>(HH l.length n).map fun j=>(T.lst (l.set j t),()))=some (x3,y') from w4)
     obtain ⟨j,ej,e8⟩:=Zy.mp e7
     cases e8
     have em:=ki et
     cases em
     obtain ⟨a,vs,Fs,rfl,rfl,GT,ra⟩:=w2.lst_inv
     have Jw:H3 a=some (.lst vs):=sm a _ GT
     have nd:=Zh.mp w3
     have na:a ∉ Fv:=fun z=>by rw [fv.2 a z] at GT;cases GT
     have m3:GS (H3 a):=by rw [Jw];exact True.intro
     have off:∀ bb∈Fs.flatten,bb ∉ Fv:=fun bb hb hv=>GS.pe (ra.GZ bb hb) (fv.2 bb hv)
     refine k_ ?_
     refine .inl ⟨a,vs,n,j,rfl,rk.int_inv,Jw,by rw [← tq,ra.len.1];exact ej,fin _ (a :: (Fs.set j Fv).flatten) ?_⟩
     have keep:∀ {u:V} {x:T} {F:Xa},Rp G H3 u x F->a ∉ F->Rp G (upd H3 a (.lst (vs.set j xv))) u x F:=fun r hn=>r.keep (Kept.upd (.inl m3)) fun bb hb o' Ju=>by rw [aA (fun z=>hn (by rw [← z];exact hb))];exact Ju
     refine Chg.upd sm Zu m3 (.lst av ((((ra.same sm).off m3 nd.1)).putAt j (keep Lh na))) ?_ ?_
     ·rw [Zh]
      refine ⟨fun h=>?_,d8 nd.2 fv.1 fun i' F' _ hi bb hb=>off bb (cY hi hb)⟩
      rcases cF h with z | ⟨i',F',_,h1,h2⟩
      ·exact na z
      ·exact nd.1 (cY h1 h2)
     ·intro bb hb
      rcases Zj.mp hb with rfl | hb
      ·exact .inl Zu
      ·rcases cF hb with z | ⟨i',F',_,h1,h2⟩
       ·exact .inr (fv.2 bb z)
       ·exact .inl (Zw _ (cY h1 h2))
    | _=>cases w4
   | GL kd l =>
    cases kd with
    | zero =>
     have hc:(iG tk=true/\GO tv=true/\l.length < eD)/\x3=.GL 0 (dput l tk tv):=by
      have Mr:(if iG tk/\GO tv/\l.length < eD then some (T.GL 0 (dput l tk tv),()) else none)=some (x3,y'):=w4
      split at Mr
      ·rename_i hc
       cases Mr
       exact ⟨hc,rfl⟩
      ·cases Mr
     obtain ⟨⟨c1,c2,c3⟩,rfl⟩:=hc
     have eF:=Lh.GO c2
     subst eF
     obtain ⟨a,ns,vs,ts,Fs,rfl,rfl,GT,hl,rfl,ra⟩:=fg w2
     obtain ⟨kk,rfl,La⟩:=dI rk c1
     subst La
     have Jw:H3 a=some (.dK (ns.zip vs)):=sm a _ GT
     have m3:GS (H3 a):=by rw [Jw];exact True.intro
     have nd:=Zh.mp w3
     obtain ⟨MB,Iw,HF,Ij,q1,q2,q3,q4,q5⟩:=p6 (kk:=kk) Lh hl (ra.same sm)
     have ln:(ns.zip vs).length < sizeLine:=by
      have:((ns.map aP).zip ts).length < 16777216:=c3
      rw [Yq,Zt] at this
      rw [Yq]
      have:=ra.len.1
      have:(sizeLine:Nat)=16777216:=rfl
      lia
     refine k_ ?_
     refine .inr ⟨a,_,rfl,ua.k Jw ln,fin _ (a :: Ij.flatten) ?_⟩
     rw [q1,q3]
     refine Chg.upd sm Zu m3 (.GL av q2 (q4.off m3 fun z=>nd.1 (q5.subset z))) ?_ ?_
     ·exact Zh.mpr ⟨fun z=>nd.1 (q5.subset z),nd.2.sublist q5⟩
     ·intro bb hb
      rcases Zj.mp hb with rfl | hb
      ·exact .inl Zu
      ·exact .inl (Zw _ (q5.subset hb))
    | succ n=>cases w4
   | _=>cases w4
def pU {kr:Nat} {b:Expr} {ck:Ex} {pos':Pos} (Jq:jW G) (hr:GH kr X.A) (ho:Jz G X o i way) (hk:PV G X b ck) (he:PX G X e x)
  (ha:∀ v,assign (.Subscript o b pos') X.env v=(do
   let ov ← holding [v] (eval o X.env)
   let iv ← holding [v,ov] (eval b X.env)
   standAt pos'
   holding [v,ov,iv] (setItem ov iv v)
   release [v,ov,iv] [])) (hs:swapsWithSole [.Subscript o b pos'] e pos.line X.env=pure false) (hw:swappedStores [.Subscript o b pos'] e X.env=pure none)
  (h1:(assignEach [.Subscript o b pos'] X.env).map (·.2)=[assign (.Subscript o b pos') X.env]):PSV G X (.Assign [.Subscript o b pos'] e pos) (i3 i way ck x) :=
 PS.weak (tD he (tK ho hk (zf (kb hr)) ha) hs hw h1) fun D J H hq=>by
  obtain ⟨M,U,out,s,e,k⟩:=hq
  unfold i3 at e
  obtain ⟨⟨v,U'⟩,e1,e2⟩:=Zz.mp e
  split at e2
  ·rename_i hi
   refine ⟨M,U,v,U',s,e1,hi,fun u H' M' s' f r=>?_⟩
   unfold dA at e2
   obtain ⟨⟨mv,tv⟩,ev,e2⟩:=Zz.mp e2
   cases ev
   split at e2
   ·rename_i t ht
    obtain ⟨ks,ek,e2⟩:=Zz.mp e2
    obtain ⟨⟨mk,tk⟩,LP,e2⟩:=Zz.mp e2
    obtain ⟨⟨t',y'⟩,e5,e6⟩:=Zy.mp e2
    cases e6
    exact yf Jq s' ht ek LP e5 (aD.refl H') r (mv:=.fr) ⟨Z9,fun a h=>nomatch h⟩ fun M2 H2 z1 z2=>k _ J H2 z1 (f.trans z2)
   ·cases e2
  ·cases e2
end
end VS
end
section
namespace L2
open PySem PySem.Spec PyProof.Rows
def tM {X:Cx}:dN X (.type "dict") (fun xs H Q=>∃ (d:Addr) (gV:List (Key×V)),xs=[.ref d]/\H d=some (.dK gV)/\∀ l,H l=none->Q (.ref l) (upd H l (.dK gV))):=by
 intro pins s J H xs us Q I rx h
 obtain ⟨d,gV,rfl,hd,q⟩:=h
 obtain ⟨u,rfl,ru⟩:=rx.one
 cases ru
 obtain ⟨hz,Ie,vs,rel,dd⟩:=rA I.hok hd
 refine PySem.kt_call_dict Ie dd (by rw [← Y4 rel];exact hz) fun h' Lb sb=>?_
 exact ⟨.ref s.heap.objs.size,_,I.laid (t':=s.toks) (fun b o e=>(sb.2 b (Zb (ZW e))).trans (Zi _ e)) (Zp _) (pf hz (ZM.mpr (Ya (Zb I.big))) rel Lb),rfl,q _ (I.hok.fresh (Zp _))⟩
end L2
namespace VS
open PySem PySem.Spec PyProof.Rows L2
def lE:Wc->Wb
 | [(_,.GL 0 l)]=>if eO (l.map (·.2))=true then some (.fr,.GL 0 l) else none
 | _=>none
section
variable {G:Gx} {X:Cx} {a b e o:Expr} {ca cb ce:Ex} {cs:Hh} {p pos oe apos:Pos} {k kr:Nat}
def xT:fH G (fun xs H Q=>∃ (d:Addr) (gV:List (Key×V)),xs=[.ref d]/\H d=some (.dK gV)/\∀ l,H l=none->Q (.ref l) (upd H l (.dK gV))) lE:=by
 intro M U H0 H l vs Fs m t Q A e k
 unfold lE at e
 split at e
 ·rename_i mx l0
  split at e
  ·rename_i hi
   cases e
   obtain ⟨v,F,rfl,rfl,r⟩:=(show RpL G H vs [.GL 0 l0] Fs from A.rp).one
   obtain ⟨a,ns,us,ts,Gs,rfl,rfl,ha,hl,rfl,ra⟩:=fg r
   refine ⟨a,_,rfl,ha,fun q hq=>?_⟩
   have sm:aD H (upd H q (.dK (ns.zip us))):=cQ hq
   rw [List.map_snd_zip (by rw [Zt,hl,ra.len.1];exact Zp _)] at hi
   have eF:=ra.GO hi
   refine k _ _ (q :: Gs.flatten) sm (.GL av hl (ra.same sm)) ?_
   rw [eF]
   exact Fp.new (A.same.free hq) (by simp) Fp.nil
  ·cases e
 ·cases e
def Ad (hm:X.mg "dict" = none) (ha:HI G X [e] cs) (hg:Gl X "dict") (he:K1 e [] X):PV G X (.Call (.Name "dict" p) [e] [] pos) (eN lE cs) :=
 ji tM xT hg hm ve ha (he:=he) (hpl:=rfl)
def Cz {i i':Int} {j j':Nat} {q q':Pos}:PV G X (.Dict [some (.Constant (.int i) j q)] [.Constant (.int i') j' q'] pos) (qO 0 [(Q2 i,Q2 i')]) :=
 PE.weak (BL (yT qx qx zQ) rfl rfl (by simp) (by show 1<=15;decide)) fun J H Q hq=>by
  obtain ⟨M,U,m,r,s,e,k⟩:=hq
  cases (show some (Md.fr,T.GL 0 [(.int i,.int i')])=some (m,r) from e)
  intro p hp
  refine ⟨av,[(Sum.inl i,.int i')],rfl,(by show 1<=15;decide),?_⟩
  rw [Bz]
  have:Rp G (upd H p (.dK [(Sum.inl i,V.int i')])) (.ref p) (.GL 0 ((([Sum.inl i]:List Key).map aP).zip [.int i'])) (p :: ([[]]:Xm).flatten) :=
   .GL (ks:=[Sum.inl i]) (vs:=[V.int i']) av rfl (.cons (.int i') .nil)
  exact k _ _ _ (cQ hp) this ⟨by simp,fun b hb=>by simp at hb;rw [hb];exact hp⟩
def vN (x y:Val):Wb:=match x.2 with
 | .GL 0 l=>if iG y.2 then some (match fB l y.2 with | some t=>sub x.1 t | none=>(.fr,.GJ)) else none
 | _=>none
def w_get (hr:GH kr X.A) (ho:PV G X o ca) (he:PV G X e cb) (G1:attributeBase o "get" X.env (eval o X.env)=eval o X.env)
  (Hf:((backTo oe (starEach [e] X.env)).all (fun x=>!x.1) && (backToKw oe (keywordEach [] X.env)).all (fun x=>x.1.isSome)
   && decide (([e]:List Expr).length+([]:List Keyword).length+(if ([]:List Keyword).isEmpty then 0 else 1) < 30))=true)
  (GV:(apos.endLine == oe.line)=true) (UZ:backTo oe (starEach [e] X.env)=[(false,eval e X.env)]):PV G X (.Call (.Attribute o "get" apos) [e] [] oe) (e2 vN ca cb) :=
 PE.weak (yX (kb hr) ho he ⟨G1,Hf,GV,UZ⟩) fun J H Q hq=>by
  obtain ⟨M,U,m,r,s,e,kq⟩:=hq
  unfold e2 at e
  obtain ⟨⟨m1,x⟩,ea,e⟩:=Zz.mp e
  obtain ⟨⟨m2,y⟩,eb,e⟩:=Zz.mp e
  unfold vN at e
  split at e
  ·rename_i l hx
   dsimp only at hx
   subst hx
   split at e
   ·rename_i hk
    have e':=Zn e
    refine ⟨M,U,m1,_,s,ea,fun v H1 F1 Im r1 f1=>?_⟩
    obtain ⟨a,ks,vs,ts,Fs,rfl,rfl,ha,hl,rfl,q⟩:=fg r1
    refine ⟨a,rfl,.inl ⟨_,.inl ha⟩,M,U,m2,y,s.same Im,eb,fun v2 H2 F2 Hy r2 f2=>?_⟩
    obtain ⟨kk,rfl,ek⟩:=dI r2 hk
    dsimp only at e'
    rw [ek] at e'
    rcases kQ (k:=kk) hl (q.same Hy) with ⟨h1,h2⟩ | ⟨i,v,t2,F,a1,a2,a3,a4,a5⟩
    ·rw [h1] at e'
     cases e'
     refine ⟨_,hU.k (Hy a _ ha),?_⟩
     rw [h2]
     exact kq .GJ H2 [] (Im.trans Hy) .GJ Fp.nil
    ·rw [a1] at e'
     refine ⟨_,hU.k (Hy a _ ha),?_⟩
     rw [a2]
     have f:=((f1.sub (Yw _ _)).sub (cq a4)).up a5
     unfold VS.sub at e'
     dsimp only at e'
     rw [e'] at f
     have et:t2=r:=congrArg Prod.snd e'
     rw [et] at a5
     exact kq v H2 F (Im.trans Hy) a5 f
   ·cases e
  ·cases e
def pT (x y:Val):Wb:=match x.2 with
 | .GL 3 l=>if iG y.2 then (fB l y.2).map (sub x.1) else none
 | _=>none
def rj {H:Hp} {v:V} {l:List (T×T)} {F:Xa} (r:Rp G H v (.GL 3 l) F):∃ (a:Addr) (o:Obj) (ks:List Key) (vs:List V) (ts:Wa) (Fs:Xm),v=.ref a/\F=Fs.flatten/\H a=some (.Hv o (.dK (ks.zip vs)))/\ks.length=vs.length/\l=(ks.map aP).zip ts/\RpL G H vs ts Fs:=by
 generalize hz:T.GL 3 l=z at r
 cases r with
 | JN h hl q=>cases hz;exact ⟨_,_,_,_,_,_,rfl,rfl,h,hl,rfl,q⟩
 | _=>cases hz
def D1:eJ G (EN G.K) pT:=by
 intro M U H0 H x y u w F1 F2 m t Q tw e k
 obtain ⟨m1,x⟩:=x
 unfold pT at e
 split at e
 ·rename_i l hx
  dsimp only at hx
  subst hx
  split at e
  ·rename_i hk
   obtain ⟨t',e1,e2⟩:=Zy.mp e
   obtain ⟨a,o,ks,vs,ts,Fs,rfl,rfl,ha,hl,rfl,q⟩:=rj tw.r1
   obtain ⟨kk,rfl,ek⟩:=dI tw.r2 hk
   rw [ek] at e1
   rcases kQ (k:=kk) hl q with ⟨h1,_⟩ | ⟨i,v,t2,F,a1,a2,a3,a4,a5⟩
   ·rw [h1] at e1;cases e1
   ·rw [a1] at e1
    cases e1
    cases e2
    refine .inr ⟨a,v,rfl,.inl ⟨_,kk,.inr ⟨o,ha⟩,rfl,a2.symm⟩,?_⟩
    have f:=(tw.f1.sub (cq a4)).up a5
    exact k v H F (aD.refl _) a5 f
  ·cases e
 ·cases e
def Cf (hr:GH kr X.A) (ha:PV G X a ca) (hb:PV G X b cb) (hs:gI b) (hK:X.K=G.K):PV G X (.Subscript a b pos) (e2 pT ca cb) :=
 PE.weak (mP (Ir.or jY (pJ (kb hr))) ha hb hs) fun J H Q h=>by rw [hK];exact lB D1 h
end
def eNew (c:Nat) (g:Mt) (cs:Hh):Ex:=fun U=>(cs U).bind fun xs=>if aZ (trees xs)=true then (g [] (trees xs)).bind fun z=>if dP z.1=true/\Nd z.2=true then some (.fr,.obj (c+1) ((0,.bl false) :: z.1)) else none else none
def fh (c:Nat) (g:Fn) (ca:Ex) (cs:Hh):Ex:=fun U=>(ca U).bind fun x=>match x.2 with
 | .obj c' (_ :: _)=>if c'=c+1 then (cs U).bind fun xs=>(g (x.2 :: trees xs)).bind fun r=>match r.1 with
  | .fr=>some r
  | _=>none else none
 | _=>none
theorem yj {α:Type}:∀ (l:List α) (Fs:Xm),Hu (l.map fun _=>false) Fs=[]
 | [],_=>by simp [Hu]
 | _ :: _,[]=>by simp [Hu]
 | _ :: l,F :: Fs=>by
  rw [Zl,Hu,Zo Zd,Yv]
  exact yj l Fs
theorem zH:∀ (mv:List Bool) (Fs:Xm),∀ a∈JC mv Fs,a∈Fs.flatten
 | [],_,a,h=>by simp [JC] at h
 | _ :: _,[],a,h=>by simp [JC] at h
 | b :: bs,F :: Fs,a,h=>by
  rw [JC] at h
  rw [ZX]
  rcases Zc.mp h with h | h
  ·cases b with
   | true=>simp at h
   | false=>exact Yx _ (by simpa using h)
  ·exact ZL _ (zH bs Fs a h)
section
variable {G:Gx} {X:Cx} {i c k k':Nat} {o e:Expr} {es:List Expr} {cs:Hh} {ca:Ex} {m x:Str} {f:Addr} {fd:FuncData} {ps:List Str} {g:Mt} {h:Fn} {apos pos p:Pos}
def Aj {G:Gx} {H:Hp} {u:V} {t:T} {F:Xa} (r:Rp G H u t F) (h:Nd t=true):u=.GJ:=by
 cases r with
 | GJ=>rfl
 | _=>cases h
def xE {J:L2.St} {H:Hp} {Q:VK} {E:XK} {t:TA} (F:∀ n,FnOk X.prog X.w X.K X.mg X.base Hq k f fd ps (J9 G c (List.replicate n false) g)->True) (ht:∀ M U xs J H (R:List V->Hp->Prop),SR G M U J H->cs U=some xs->(∀ vs H' Fs,aD H H'->RpL G H' vs (trees xs) Fs->Ls M U H xs Fs->R vs H')->t J H R)
  (n:Nat) (hn:∀ U xs,cs U=some xs->xs.length=n) (hq:tE G (eNew c g cs) J H Q):za (G.ct (c+1)).1 (J9 G c (List.replicate n false) g) [] E t J H Q:=by
 obtain ⟨M,U,mo,r,s,e,kq⟩:=hq
 unfold eNew at e
 obtain ⟨xs,el,e1⟩:=Zz.mp e
 split at e1
 ·rename_i Ob
  obtain ⟨⟨Ih,y⟩,eg,e2⟩:=Zz.mp e1
  split at e2
  ·rename_i hc
   cases e2
   have lx:=hn U xs el
   refine ht M U xs J H _ s el fun vs H1 Gs Im Sh Ph a dx ha Vz ne=>?_
   have Tb:H a=none:=Im.free ha
   have Hy:aD H1 (upd (upd H1 dx (.own a)) a (.ins (G.ct (c+1)).1 dx [])):=fun b ob q=>by
    rw [aA (fun z=>by rw [z,ha] at q;cases q),aA (fun z=>by rw [z,Vz] at q;cases q)]
    exact q
   have em:List.replicate n false=(List.range n).map fun _=>false:=by rw [List.map_const',ZQ]
   have Qs:Hu (List.replicate n false) Gs=[]:=by rw [em];exact yj _ _
   have fresh:∀ b,(upd (upd H1 dx (.own a)) a (.ins (G.ct (c+1)).1 dx [])) b=none->H b=none:=fun b z=>Im.free (Hy.free z)
   refine ⟨a,vs,[],trees xs,[a],Gs,Ih,y,by rw [ZS],.ins (ks:=[]) (vs:=[]) (ts:=[]) (Fs:=[]) av rfl (fun _=>rfl) .nil,(Sh.same Hy).at (Jf a) Ob,?_,?_,?_,eg,fun u H' F' gc ru=>⟨Aj ru hc.2,?_⟩⟩
   ·simp [trees,lx]
   ·rw [Qs];simp
   ·rw [Qs]
    intro b hb Hb
    have:b=a:=by simpa using hb
    subst this
    exact GS.pe (Sh.GZ b (zH _ _ b Hb)) ha
   ·rw [Qs,ZS] at gc
    have back:Rp G H' (.ref a) (.obj (c+1) ((0,.bl false) :: Ih)) F':=by
     obtain ⟨c2,a2,TV,b2,O2,R9,ON,T4,MR,Om,RT,RS,Oq,Oe,Kh,MN,KL⟩:=d6 gc.rp
     cases MR
     cases Om
     subst RS
     rw [Oq]
     exact .ins Oe Kh (fun z=>nomatch z) (KL.at G.me (eV (Kh.trans KL.len.1) hc.1))
    refine kq (.ref a) H' F' (fun b ob q=>gc.keep b ob (fun z=>?_) (Hy b ob (Im b ob q))) back ⟨gc.nd,fun b hb=>?_⟩
    ·have:b=a:=by simpa using z
     rw [this,Tb] at q
     cases q
    ·rcases gc.sub b hb with z | z
     ·have:b=a:=by simpa using z
      rw [this]
      exact Tb
     ·exact fresh b z
  ·cases e2
 ·cases e1
def EO (n:Nat) (Mq:Mk X.K (G.ct (c+1)).1 f) (F:FnOk X.prog X.w X.K X.mg X.base Hq k f fd ps (J9 G c (List.replicate n false) g)) (hr:GH k' X.A) (hk:k+1<=k') (hg:Gl X x) (hm:X.mg x=some (.ref (G.ct (c+1)).1)) (hb:Binds X.K fd ps []) (ha:HI G X (e :: es) cs) (hn:∀ U xs,cs U=some xs->xs.length=n)
  (Hz:K3 x) (he:K1 e es X) (hpl:K2 pos es X):PV G X (.Call (.Name x p) (e :: es) [] pos) (eNew c g cs) :=
 PE.weak (Bf (E:=E0) Mq F (hr.mono hk) hg hm hb .nil jA ha Hz he hpl) fun J H Q h=>xE (X:=X) (k:=k) (f:=f) (fd:=fd) (ps:=ps) (t:=M8 G cs) (fun _ _=>True.intro) (fun M U xs J H R s e k=>⟨M,U,xs,s,e,k⟩) n hn h
def DV (Mq:Mk X.K (G.ct (c+1)).1 f) (F:FnOk X.prog X.w X.K X.mg X.base Hq k f fd ps (J9 G c [] g)) (hr:GH k' X.A) (hk:k+1<=k') (hg:Gl X x) (hm:X.mg x=some (.ref (G.ct (c+1)).1)) (hb:Binds X.K fd ps [])
  (Hz:K3 x):PV G X (.Call (.Name x p) [] [] pos) (eNew c g ai) :=
 PE.weak (wR (E:=E0) Mq F (hr.mono hk) hg hm hb .nil jA Hz) fun J H Q h=>xE (X:=X) (k:=k) (f:=f) (fd:=fd) (ps:=ps) (t:=tW) (fun _ _=>True.intro) (fun M U xs J H R s e k=>by
  cases (show some ([]:Wc)=some xs from e)
  exact k [] H [] (aD.refl _) .nil ⟨fun i v F h=>by simp at h,by simp [HQ]⟩) 0 (fun U xs e=>by
  cases (show some ([]:Wc)=some xs from e)
  rfl) h
theorem uL {g:Nat->Str} (hn:∀ k,g k ≠ m):∀ (ns:Wh) (vs:List V),((ns.map g).zip vs).lookup m=none
 | [],vs=>by simp
 | _ :: _,[]=>by simp
 | n :: ns,v :: vs=>by
  rw [Zl,ZY,Yu]
  have:(m == g n)=false:=by
   rw [ZM]
   exact fun z=>hn n z.symm
  rw [this]
  exact uL hn ns vs
def vt {J:L2.St} {H:Hp} {Q:VK} {E:XK} {t:TA} (hn:∀ k,(G.ct (c+1)).2 k ≠ m) (ht:∀ M U xs J H (R:List V->Hp->Prop),SR G M U J H->cs U=some xs->(∀ vs H' Fs,aD H H'->RpL G H' vs (trees xs) Fs->Ls M U H xs Fs->R vs H')->t J H R)
  (hq:tE G (fh c h ca cs) J H Q):u6 (G.ct (c+1)).1 m (JB G h) [] E (tE G ca) t J H Q:=by
 obtain ⟨M,U,mo,r,s,e,kq⟩:=hq
 unfold fh at e
 obtain ⟨⟨mx,y⟩,ea,e1⟩:=Zz.mp e
 split at e1
 ·rename_i c' q0 fs hy
  dsimp only at hy
  subst hy
  split at e1
  ·rename_i hc
   subst hc
   obtain ⟨xs,el,e2⟩:=Zz.mp e1
   obtain ⟨⟨n,r'⟩,eg,e3⟩:=Zz.mp e2
   refine ⟨M,U,mx,_,s,ea,fun v H1 F1 Im r1 f1=>?_⟩
   obtain ⟨c2,a,dx,b,ns,vs,ts,Fs,ec,rfl,eb,ef,eF,hA,hl,hb,ra⟩:=d6 r1
   cases ec
   refine ⟨a,dx,_,rfl,hA,uL hn _ _,ht M U xs J H1 _ (s.same Im) el fun us H2 Gs Hy M9 MP=>?_⟩
   rw [ZS]
   refine ⟨_ :: trees xs,F1 :: Gs,n,r',.cons (r1.same Hy) M9,eg,fun u H' F' Jp r3 f3=>?_⟩
   cases n with
   | fr =>
    cases e3
    exact kq u H' F' ((Im.trans Hy).trans Jp) r3 ⟨f3.1,fun b hb=>Im.free (Hy.free (f3.2 b hb))⟩
   | pu=>cases e3
   | bo=>cases e3
  ·cases e1
 ·cases e1
def C0 {pl:Sem Bool} (hn:∀ k,(G.ct (c+1)).2 k ≠ m) (ho:PV G X o ca) (hc:HZ X.K (G.ct (c+1)).1) (hm:Meth X.K (G.ct (c+1)).1 m f) (F:FnOk X.prog X.w X.K X.mg X.base Hq k f fd ps (JB G h)) (hr:GH k' X.A) (hk:k<=k') (hb:Binds X.K fd ps []) (ha:HI G X (e :: es) cs)
  (Io:K1 e es X) (hpl:K2 pos es X)
  (ht:eval (.Call (.Attribute o m apos) (e :: es) [] pos) X.env=(do
   let ov ← eval o X.env
   standAt apos.atName
   let (f,first) ← holding [ov] (getMethod ov m pl)
   callWith pos f first (backTo pos (starEach (e :: es) X.env)) (backToKw pos (keywordEach [] X.env)))):PV G X (.Call (.Attribute o m apos) (e :: es) [] pos) (fh c h ca cs) :=
 PE.weak (qb (E:=E0) ho hc hm F (hr.mono hk) hb .nil jA ha Io hpl ht) fun J H Q q=>vt (t:=M8 G cs) hn (fun M U xs J H R s e k=>⟨M,U,xs,s,e,k⟩) q
def BE {pl:Sem Bool} (hn:∀ k,(G.ct (c+1)).2 k ≠ m) (ho:PV G X o ca) (hc:HZ X.K (G.ct (c+1)).1) (hm:Meth X.K (G.ct (c+1)).1 m f) (F:FnOk X.prog X.w X.K X.mg X.base Hq k f fd ps (JB G h)) (hr:GH k' X.A) (hk:k<=k') (hb:Binds X.K fd ps [])
  (ht:eval (.Call (.Attribute o m apos) [] [] pos) X.env=(do
   let ov ← eval o X.env
   standAt apos.atName
   let (f,first) ← holding [ov] (getMethod ov m pl)
   callWith pos f first (backTo pos (starEach [] X.env)) (backToKw pos (keywordEach [] X.env)))):PV G X (.Call (.Attribute o m apos) [] [] pos) (fh c h ca ai) :=
 PE.weak (qK (E:=E0) ho hc hm F (hr.mono hk) hb .nil jA ht) fun J H Q q=>vt (t:=tW) hn (fun M U xs J H R s e k=>by
  cases (show some ([]:Wc)=some xs from e)
  exact k [] H [] (aD.refl _) .nil ⟨fun i v F h=>by simp at h,by simp [HQ]⟩) q
end
noncomputable def nH (i:Nat) (way:List Jh) (j:Nat) (U:VS.Env):Option Out:=match (U[i]?:Option (We)),(U[j]?:Option (We)) with
 | some (some (.ow t)),some (some (.ow u))=>if i ≠ j then (keys way U).bind fun ks=>(pm (fun x=>aE x [(.fr,u)]) ks t).map fun z=>.nx ((U.set j none).set i (some (.ow z.1))) else none
 | _,_=>none
open Classical in
def less (H:Hp) (F:Xa):Hp:=fun b=>if b∈F then none else H b
section
variable {G:Gx} {X:Cx} {i j:Nat} {way:List Jh} {o:Expr} {y:Str} {apos oe pos p1:Pos}
def pE {H:Hp} {F:Xa} {b:Addr} (h:b∈F):less H F b=none:=Zq h
def gU {H:Hp} {F:Xa} {b:Addr} (h:b ∉ F):less H F b=H b:=Zo h
def gR {H:Hp} {F:Xa} {b:Addr} {o:HO} (h:less H F b=some o):H b=some o/\b ∉ F:=by
 by_cases q:b∈F
 ·rw [pE q] at h;cases h
 ·rw [gU q] at h;exact ⟨h,q⟩
def wb {H:Hp} {F:Xa} (h:∀ b∈F,GS (H b)):Kept H (less H F) :=
 ⟨fun b xs e=>by
  rw [gU (fun z=>by have:=h b z;rw [e] at this;exact this)]
  exact e,fun b o u e=>by
  rw [gU (fun z=>by have:=h b z;rw [e] at this;exact this)]
  exact e⟩
def Ao (Jq:jW G) (ho:Jz G X o i way) (hK:X.K=G.K) (hN:X.N[j]?=some y) (hv:IB X.env.scope y) (hd:K3 y) (hcd:K4 y)
  (G1:attributeBase o "append" X.env (eval o X.env)=eval o X.env)
  (Hf:((backTo oe (starEach [.Name y p1] X.env)).all (fun x=>!x.1) && (backToKw oe (keywordEach [] X.env)).all (fun x=>x.1.isSome)
   && decide ([Expr.Name y p1].length+([]:List Keyword).length+(if ([]:List Keyword).isEmpty then 0 else 1) < 30))=true)
  (GV:(apos.endLine == oe.line)=true) (hs:starEach [.Name y p1] X.env=(false,eval (.Name y p1) X.env) :: starEach [] X.env) (GU:(backTo oe (starEach [] X.env)).any (·.1)=false)
  (IV:swapsWith (.Call (.Attribute o "append" apos) [.Name y p1] [] oe) none pos.line X.env=pure false) :
  PSV G X (.Expr (.Call (.Attribute o "append" apos) [.Name y p1] [] oe) pos) (nH i way j) :=
 PS.weak (kN (sy Y2 Xb Xc jr ho (bZ (fK hN hv hd hcd) fE hs) G1 Hf GV hs GU) IV) fun D J H hq=>by
  obtain ⟨M,U,out,s,e,k⟩:=hq
  unfold nH at e
  split at e
  ·rename_i t u ht hu
   split at e
   ·rename_i QW
    obtain ⟨ks,ek,e3⟩:=Zz.mp e
    obtain ⟨⟨t',x2⟩,e5,e6⟩:=Zy.mp e3
    cases e6
    obtain ⟨vj,j1,j2⟩:=s.rp _ _ hu
    have SH:Rp G H vj u (M j):=j2
    have UJ:=s.nd j u hu
    have mj:∀ b∈M j,GS (H b):=SH.GZ
    have kp:=wb mj
    have PF:∀ i' c',i' ≠ j->U[i']?=some (some c')->∀ b∈M i',b ∉ M j:=fun i' c' n h b hb Hb=>s.sep j i' u c' hu h (Ya n) b Hb hb
    have s0:SR G M (U.set j none) J (less H (M j)):=⟨(s.drop j).len,fun i' c' h=>by
     obtain ⟨n,h'⟩:=cL h
     obtain ⟨v,h1,h2⟩:=s.rp i' c' h'
     exact ⟨v,h1,h2.keep kp fun b hb ob Nf=>by rw [gU (PF i' c' n h' b hb)];exact Nf⟩,(s.drop j).nd,(s.drop j).sep⟩
    have QD:(U.set j none)[i]?=some (some (.ow t)):=by
     rw [Yr (Ya QW)]
     exact ht
    obtain ⟨v,h1,h2⟩:=s0.rp _ _ QD
    obtain ⟨w,x,F1,x3,w1,w2,w3,w4,w5⟩:=ij ks Jq h2 (s0.nd i t QD) e5
    unfold aE at w4
    split at w4
    ·rename_i l yv heq
     cases heq
     obtain ⟨z,ez,e7⟩:=Zz.mp w4
     cases (show some u=some z from ez)
     split at e7
     ·rename_i hl
      cases e7
      obtain ⟨a,us,Gs,rfl,rfl,ha,ra⟩:=w2.lst_inv
      obtain ⟨Rk,S7⟩:=gR ha
      have Ud:Ii G H ks v (.ref a):=by
       have:∀ {ks:List Ky} {v w:V},Ii G (less H (M j)) ks v w->Ii G H ks v w:=by
        intro ks v w p
        induction p with
        | nil v=>exact .nil v
        | fld h l _ ih=>exact .fld (gR h).1 l ih
        | ix h l m _ ih=>exact .ix (gR h).1 l m ih
        | key h l _ ih=>exact .key (gR h).1 l ih
        | un _ ih=>exact .un ih
       exact this w1
      refine ⟨M,U,t,ks,v,.ref a,s,ht,h1,ek,Ud,fun H0 Kq=>⟨.inl ⟨rfl,us,by rw [hK];exact G2.of (Kq a _ Rk)⟩,vj,j1,a,us,vj,rfl,rfl,Kq a _ Rk,by rw [ra.len.1];exact hl,?_⟩⟩
      have m0:GS (H0 a):=by rw [Kq a _ Rk];exact True.intro
      have NP:=Zh.mp w3
      have PU:∀ b∈Gs.flatten,b ∉ M j:=fun b hb Hb=>by
       have:=ra.GZ b hb
       rw [pE Hb] at this
       exact this
      have NR:∀ b ob,less H (M j) b=some ob->H0 b=some ob:=fun b ob h=>Kq b ob (gR h).1
      have kl:Kept (less H (M j)) H0:=⟨fun b xs h=>NR b _ h,fun b ob u h=>NR b _ h⟩
      have g:Chg G (less H (M j)) (.ref a) (a :: Gs.flatten) (.lst (l++[u])) (upd H0 a (.lst (us++[vj]))) (a :: (Gs++[M j]).flatten):=by
       refine ⟨kl.trans (Kept.upd (.inl m0)),fun b ob hb h=>by rw [aA (fun z=>hb (by rw [z];exact Zu))];exact NR b ob h,fun b h z=>?_,.lst av ((RpL.off (ra.keep kl fun b hb ob h=>NR b ob h) m0 NP.1).append (.cons (((SH.same Kq)).keep (Kept.upd (.inl m0)) fun b hb ob ho=>by rw [aA (fun z=>S7 (by rw [← z];exact hb))];exact ho) .nil)),?_,fun b hb=>?_⟩
       ·by_cases q:b=a
        ·rw [q,av] at z;cases z
        ·rw [aA q] at z
         cases e:less H (M j) b with
         | none=>exact h e
         | some ob=>rw [NR b ob e] at z;cases z
       ·rw [Z5]
        refine Zh.mpr ⟨fun m=>?_,ZU.mpr ⟨NP.2,by simpa using UJ,fun b hb c hc z=>?_⟩⟩
        ·rcases Zc.mp m with m | m
         ·exact NP.1 m
         ·exact S7 (by simpa using m)
        ·subst z;exact PU b hb (by simpa using hc)
       ·rcases Zj.mp hb with rfl | hb
        ·exact .inl Zu
        ·rw [Z5] at hb
         rcases Zc.mp hb with hb | hb
         ·exact .inl (Zw _ hb)
         ·exact .inr (pE (by simpa using hb))
      obtain ⟨F2,g2⟩:=w5 _ _ g
      obtain ⟨z1,z2⟩:=s0.mut QD h1 g2
      have back:∀ b,less H (M j) b=none->bC M U b\/H b=none:=fun b h=>by
       by_cases q:b∈M j
       ·exact .inl ⟨j,u,hu,q⟩
       ·rw [gU q] at h;exact .inr h
      have Kc:∀ b,bC M (U.set j none) b->bC M U b:=fun b ⟨j',t',q1,q2⟩=>⟨j',t',(cL q1).2,q2⟩
      have UA:∀ b,cM M (U.set j none) b->cM M U b:=fun b ⟨j',t',q1,q2⟩=>⟨j',t',(cL q1).2,q2⟩
      refine k _ J _ z1 ⟨fun b ob h n=>?_,fun b h z=>?_,fun b h=>?_,fun b h=>?_,(Kept.of Kq).trans (Kept.upd (.inl m0))⟩
      ·have nj:b ∉ M j:=fun z=>n ⟨j,u,hu,z⟩
       exact z2.keep b ob (by rw [gU nj];exact h) fun z=>n (Kc b z)
      ·by_cases q:b=a
       ·rw [q,av] at z;cases z
       ·rw [aA q] at z;exact h (Kq.free z)
      ·rcases z2.ow b h with h | h
       ·exact .inl (Kc b h)
       ·exact back b h
      ·rcases z2.pu b h with h | h | h
       ·exact .inl (UA b h)
       ·exact .inr (.inl (Kc b h))
       ·exact (back b h).elim (fun z=>.inr (.inl z)) fun z=>.inr (.inr z)
     ·cases e7
    ·cases w4
   ·cases e
  ·cases e
end
end VS
end
section
namespace VS
open PySem PySem.Spec PyProof.Rows L2
def isInt:T->Bool
 | .int _=>true
 | _=>false
def su (i:Nat):JA:=fun U=>match (U[i]?:Option (We)) with
 | some (some (.pu (.GL 3 l)))=>if (l.all fun p=>isInt p.1)=true then some (.fr,l.map (·.1)) else none
 | _=>none
def zx (i:Nat) (tg:Tg) (ce:Ex):Sx:=fun U=>match (U[i]?:Option (We)) with
 | some (some (.ow (.GL 0 l)))=>(dQ 1 tg (su i) none ce (U.set i (some (.pu (.GL 3 l))))).bind fun v=>match v.1 with
  | .fr=>some (.rt v (U.set i none))
  | _=>none
 | _=>none
theorem zip_inj {α β:Type}:∀ {a c:List α} {b d:List β},a.length=b.length->c.length=d.length->a.zip b=c.zip d->a=c
 | [],[],_,_,_,_,_=>rfl
 | [],_ :: _,_,[],_,h,_=>by simp at h
 | [],_ :: _,[],_ :: _,_,_,h=>by simp at h
 | [],_ :: _,_ :: _,_ :: _,h,_,_=>by simp at h
 | _ :: _,_,[],_,h,_,_=>by simp at h
 | _ :: _,[],_ :: _,[],_,_,h=>by simp at h
 | _ :: _,[],_ :: _,_ :: _,_,h,_=>by simp at h
 | _ :: _,_ :: _,_ :: _,[],_,h,_=>by simp at h
 | x :: a,y :: c,z :: b,w :: d,h1,h2,h=>by
  rw [ZY,ZY] at h
  obtain ⟨e1,e2⟩:=X1 h
  rw [zip_inj (by simpa using h1) (by simpa using h2) e2,(Xd e1).1]
section
variable {G:Gx} {X:Cx} {i:Nat} {elt tg:Expr} {sc:Scope} {pos pos' p1:Pos} {N:List Str} {x:Str} {g:Tg} {ce:Ex}
def Cs (i:Nat) (N:List Str) (G3:X.calm=true) (hN:X.N[i]?=some x) (hv:IB X.env.scope x) (hd:K3 x) (hcd:K4 x) (IH:vK 1 g)
  (hg:∀ cl C s H fp,PVG G (bD X N sc cl C s H fp) tg g) (he:∀ cl C s H fp,PV G (bD X N sc cl C s H fp) elt ce)
  (Iz:l5 X.env sc=true) (I0:jR sc (N.drop 1) X.N=true) (Ja:1<=N.length) (hs:∀ y,foldedSetIterable (.Name x p1) X.env y=pure y) :
  PSV G X (.Return (some (.ListComp elt [⟨tg,.Name x p1,[],0⟩] sc pos)) pos') (zx i g ce) :=
 PS.weak (pD (mw G3 (Ff (fK hN hv hd hcd)) Iz I0 Ja (fun cl C s H fp=>⟨hg cl C s H fp,kH,he cl C s H fp⟩) hs)) fun D J H hq=>by
  obtain ⟨M,U,out,s,e,k⟩:=hq
  unfold zx at e
  split at e
  ·rename_i l hl
   obtain ⟨⟨mv,tv⟩,ev,e1⟩:=Zz.mp e
   have Mc:mv=.fr/\out=.rt (.fr,tv) (U.set i none):=by
    cases mv with
    | fr=>cases e1;exact ⟨rfl,rfl⟩
    | pu=>cases e1
    | bo=>cases e1
   obtain ⟨rfl,rfl⟩:=Mc
   obtain ⟨v,g1,g2⟩:=s.rp _ _ hl
   obtain ⟨a,ns,vs,ts,Fs,rfl,eF,ha,QP,rfl,ra⟩:=fg g2
   have Ig:i < U.length:=(Zg.mp hl).1
   have nd:=s.nd i _ hl
   rw [eF] at nd
   have Hx:=Zh.mp nd
   refine ⟨.ref a,g1,a,ns.zip vs,rfl,ha,fun o=>?_⟩
   have mu:GS (H a):=by rw [ha];exact True.intro
   have kp:Kept H (upd H a (.Hv o (.dK (ns.zip vs)))):=Kept.upd (.inl mu)
   have es:J.set i (some (.ref a))=J:=by
    obtain ⟨h,e⟩:=Zg.mp g1
    rw [← e]
    exact XO h
   have aΦ:a∈M i:=by rw [eF];exact Zu
   have sub:∀ b∈Fs.flatten,b∈M i:=fun b hb=>by rw [eF];exact Zw _ hb
   have s1:SR G (lU M i Fs.flatten) (U.set i (some (.pu (.GL 3 ((ns.map aP).zip ts))))) J (upd H a (.Hv o (.dK (ns.zip vs)))):=by
    have:=s.put (c:=.pu (.GL 3 ((ns.map aP).zip ts))) (v:=.ref a) (F:=Fs.flatten) (H':=upd H a (.Hv o (.dK (ns.zip vs)))) Ig (.JN av QP (ra.off mu Hx.1)) (fun j c' n hj w q=>q.keep kp fun b hb ob ho=>by
     rw [aA (fun z=>s.sep i j _ c' hl hj (Ya n) a aΦ (by rw [← z];exact hb))];exact ho) (fun _ z=>nomatch z) (fun _ z=>nomatch z) fun j u n hj b hb Hb=>s.sep j i u _ hj hl n b hb (sub b Hb)
    rw [es] at this
    exact this
   have hT:tE G (dQ 1 g (su i) none ce) J (upd H a (.Hv o (.dK (ns.zip vs)))) D.rt:=by
    refine ⟨_,_,.fr,tv,s1,ev,fun u H' F sm r f=>?_⟩
    have ee:(U.set i (some (.pu (.GL 3 ((ns.map aP).zip ts))))).set i none=U.set i none:=by rw [List.set_set]
    have sd:=(s1.drop i).same sm
    rw [ee] at sd
    have Kc:∀ b,bC (lU M i Fs.flatten) (U.set i none) b->bC M U b:=fun b ⟨j,t,q1,q2⟩=>by
     obtain ⟨n,ND⟩:=cL q1
     rw [fe n] at q2
     exact ⟨j,t,ND,q2⟩
    refine k u H' F _ J sd ⟨fun b ob h n=>?_,fun b h z=>?_,fun b h=>.inl (Kc b h),fun b ⟨j,t,q1,q2⟩=>?_,kp.trans (Kept.of sm)⟩ r ⟨f.1,fun b hb=>.inl ?_⟩
    ·have nb:b ≠ a:=fun z=>n ⟨i,_,hl,by rw [z];exact aΦ⟩
     exact ⟨sm b ob (by rw [aA nb];exact h),fun z=>n (Kc b z)⟩
    ·have z1:=sm.free z
     by_cases q:b=a
     ·rw [q,av] at z1;cases z1
     ·rw [aA q] at z1;exact h z1
    ·obtain ⟨n,ND⟩:=cL q1
     rw [fe n] at q2
     exact .inl ⟨j,t,ND,q2⟩
    ·have:=f.2 b hb
     by_cases q:b=a
     ·rw [q,av] at this;cases this
     ·rw [aA q] at this;exact this
   obtain ⟨M2,U2,m2,l2,s2,e2,k2⟩:=mF (cond:=none) IH hT
   refine k2 (R5 a o (ns.zip vs)) _ [] (aD.refl _) ?_ (fun b hb=>nomatch hb)
   unfold su at e2
   split at e2
   ·rename_i l3 h3
    split at e2
    ·rename_i hint
     cases e2
     obtain ⟨v3,q1,q2⟩:=s2.rp _ _ h3
     rw [g1] at q1
     cases q1
     obtain ⟨a3,o3,UR,R8,Py,Fs3,RU,_,Jw,Nh,rfl,KL⟩:=rj q2
     cases RU
     rw [av] at Jw
     have hz:ns.zip vs=UR.zip R8:=HO.dK.inj (HO.Hv.inj (Zn Jw)).2
     have ek:=zip_inj QP Nh hz
     subst ek
     have em:((ns.map aP).zip Py).map (·.1)=ns.map aP:=Wi (by rw [Zt,Nh,KL.len.1];exact Zp _)
     have zl:(ns.zip vs).length=ns.length:=by rw [Yq,QP,Nat.min_self]
     refine ⟨fun H2 O5 _=>⟨fun n t hn=>?_,fun n hn=>?_⟩,fun b hb=>nomatch hb⟩
     ·rw [em,ZP] at hn
      obtain ⟨kk,Ni,Lm⟩:=Zy.mp hn
      have N4:=(Zg.mp Ni).1
      refine ⟨⟨O5.Hv _ _ _ av,by rw [zl];exact N4⟩,fun y H3 hy=>?_⟩
      obtain ⟨rfl,p,hp,rfl⟩:=hy
      refine ⟨aD.refl _,[],?_,fun b hb=>nomatch hb⟩
      have Vd:p.1=kk:=by
       have MD:(ns.zip vs)[n]?=some p:=hp
       rw [YV] at MD
       rw [Ni] at MD
       exact (Zn MD.1).symm
      have hi:isInt t=true:=by
       have:=Yi.mp hint (t,Py[n]'(by rw [← KL.len.1,← Nh];exact N4)) (by
        refine YS (i:=n) ?_
        rw [YV]
        exact ⟨by rw [ZP,Ni];exact congrArg some Lm,Zr _⟩)
       exact this
      rw [Vd,← Lm]
      rw [← Lm] at hi
      cases kk with
      | inl n=>exact .int n
      | inr z=>cases hi
     ·refine ⟨O5.Hv _ _ _ av,?_⟩
      rw [em,Zt] at hn
      rw [zl]
      exact hn
    ·cases e2
   ·cases e2
  ·cases e
end
def DO (c:Nat):Option (We)->Bool
 | some (some (.ow (.obj c' (_ :: _))))=>c' == c+1
 | _=>false
def oX (i c:Nat) (mv:List Bool) (g:Mt) (x:Xx) (cs:Hh) (U:VS.Env):Option (Val×VS.Env):=if DO c (U[i]?:Option (We))=true then (x U).bind fun z=>if GO z.1.2=true then (match (z.2[i]?:Option (We)) with
 | some (some (.ow t))=>(cs z.2).bind fun xs=>(lN c mv g ((.fr,z.1.2) :: xs) t).map fun r=>(r.2,z.2.set i (some (.ow r.1)))
 | _=>none) else none else none
section
variable {G:Gx} {X:Cx} {i c k k':Nat} {e:Expr} {es:List Expr} {cs:Hh} {m y:Str} {f:Addr} {fd:FuncData} {ps:List Str} {mv:List Bool} {g:Mt} {x:Xx} {apos pos p1:Pos}
def Bg {pl:Sem Bool} (hn:∀ k,(G.ct (c+1)).2 k ≠ m) (hN:X.N[i]?=some y) (hv:IB X.env.scope y) (hd:K3 y) (hcd:K4 y) (hc:HZ X.K (G.ct (c+1)).1) (hm:Meth X.K (G.ct (c+1)).1 m f) (F:FnOk X.prog X.w X.K X.mg X.base Hq k f fd ps (J9 G c mv g)) (hr:GH k' X.A) (hk:k<=k') (hb:Binds X.K fd ps []) (h1:PX G X e x) (ha:HI G X es cs)
  (Io:K1 e es X) (hpl:K2 pos es X)
  (ht:eval (.Call (.Attribute (.Name y p1) m apos) (e :: es) [] pos) X.env=(do
   let ov ← eval (.Name y p1) X.env
   standAt apos.atName
   let (f,first) ← holding [ov] (getMethod ov m pl)
   callWith pos f first (backTo pos (starEach (e :: es) X.env)) (backToKw pos (keywordEach [] X.env)))):PX G X (.Call (.Attribute (.Name y p1) m apos) (e :: es) [] pos) (oX i c mv g x cs) :=
 PE.weak (qb (E:=E0) (fK hN hv hd hcd) hc hm F (hr.mono hk) hb .nil jA (bZ h1 ha Io) Io hpl ht) fun J H Q h=>by
  obtain ⟨M,U,v,U',s,e,Kw,kq⟩:=h
  unfold oX at e
  split at e
  ·rename_i Nf
   obtain ⟨⟨v1,U1⟩,e1,e2⟩:=Zz.mp e
   split at e2
   ·rename_i QV
    unfold DO at Nf
    split at Nf
    ·rename_i c0 q0 Rv h0
     have WG:c0=c+1:=by simpa using Nf
     subst WG
     obtain ⟨v0,g1,g2⟩:=s.rp _ _ h0
     have Mg:Rp G H v0 (.obj (c+1) (q0 :: Rv)) (M i):=g2
     obtain ⟨c',a,dx,b,ns,vs,ts,Fs,ec,rfl,eb,ef,eF,hA,hl,Pe,ra⟩:=d6 Mg
     cases ec
     have key:∀ (ns:Wh) (vs:List V),((ns.map (G.ct (c+1)).2).zip vs).lookup m=none:=by
      intro ns
      induction ns with
      | nil=>intro vs;simp
      | cons n ns ih =>
       intro vs
       cases vs with
       | nil=>simp
       | cons v vs =>
        rw [Zl,ZY,Yu]
        have:(m == (G.ct (c+1)).2 n)=false:=by
         rw [ZM]
         exact fun z=>hn n z.symm
        rw [this]
        exact ih vs
     refine ⟨.ref a,g1,a,dx,_,rfl,hA,key _ _,M,U,v1,U1,s,e1,QV,fun u1 H1 M1 s1 f1 r1=>?_⟩
     dsimp only at e2
     split at e2
     ·rename_i t1 QC
      obtain ⟨xs,el,e3⟩:=Zz.mp e2
      obtain ⟨⟨x3,y3⟩,w4,e4⟩:=Zy.mp e3
      cases e4
      obtain ⟨va,q1,w2⟩:=s1.rp _ _ QC
      rw [g1] at q1
      cases q1
      have w3:=s1.nd i t1 QC
      refine ⟨M1,U1,xs,s1,el,fun us H2 Gs Hy M9 MP=>?_⟩
      show J9 G c mv g (V.ref a :: ((u1 :: us)++[])) H2 Q E0
      rw [ZS]
      unfold lN at w4
      split at w4
      ·rename_i c1 b1 fs
       split at w4
       ·rename_i Pc
        obtain ⟨rfl,Kg,K7,Ob⟩:=Pc
        obtain ⟨⟨Ih,z⟩,eg,e7⟩:=Zz.mp w4
        split at e7
        ·rename_i KZ
         cases e7
         have Pw:Rp G H1 (.ref a) (.obj (c+1) ((0,.bl b1) :: fs)) (M1 i):=w2
         obtain ⟨c2,a2,TV,b2,O2,R9,ON,T4,MR,Om,RT,rfl,Oq,Oe,Kh,MN,OW⟩:=d6 Pw
         cases MR
         cases Om
         cases RT
         have Kf:O2.length=ON.length:=Kh.trans OW.len.1
         have Tn:Ls M1 U1 H1 ((.fr,v1.2) :: xs) ([] :: Gs):=⟨fun n v' F' a1 a2=>by
          cases n with
          | zero=>cases a1;cases a2;exact Fp.nil
          | succ n=>exact MP.each n v' F' (by simpa using a1) (by simpa using a2),by
          show ([]++HQ xs Gs).Nodup
          exact MP.nd⟩
         have Mz:=uX K7 Tn
         have Sg:RpL G H2 (u1 :: us) (trees ((.fr,v1.2) :: xs)) ([] :: Gs):=.cons (r1.same Hy) M9
         refine ⟨a,u1 :: us,O2.zip ON,trees ((.fr,v1.2) :: xs),M1 i,[] :: Gs,Ih,z,rfl,?_,Sg.at (Jf a) Ob,?_,?_,?_,eg,fun u H' F' gc ru=>?_⟩
         ·rw [Oq]
          exact .ins (Hy a _ Oe) Kh (fun _=>rfl) ((OW.same Hy).at (Jf a) (eV Kf Kg))
         ·rw [jS K7]
          simp [trees]
         ·refine ZU.mpr ⟨w3,Tn.nd.sublist (nG K7),fun b1 Ki b2 MN z=>?_⟩
          subst z
          exact GS.pe (w2.GZ b1 Ki) (Mz b1 MN)
         ·rw [pz K7 Sg]
          exact fun b1 _ z=>nomatch z
         ·have back:Rp G H' (.ref a) (.obj (c+1) ((0,.bl b1) :: Ih)) F':=by
           obtain ⟨c3,a3,dx3,b3,ns3,R8,Py,Fs3,WD,RU,eb3,WB,WH,VP,Nh,hb3,KL⟩:=d6 gc.rp
           cases WD
           cases RU
           subst WB
           rw [WH]
           exact .ins VP Nh MN (KL.at G.me (eV (Nh.trans KL.len.1) KZ.1))
          have gG:Chg G H1 (.ref a) (M1 i) (.obj (c+1) ((0,.bl b1) :: Ih)) H' F':=⟨(Kept.of Hy).trans gc.kept,fun b1 o1 Ki ho=>gc.keep b1 o1 (fun z=>(Zc.mp z).elim Ki fun z=>by rw [Mz b1 z] at ho;cases ho) (Hy b1 o1 ho),fun b1 h=>gc.GZ b1 fun z=>h (Hy.free z),back,gc.nd,fun b1 Ki=>by
           rcases gc.sub b1 Ki with z | z
           ·rcases Zc.mp z with z | z
            ·exact .inl z
            ·exact .inr (Mz b1 z)
           ·exact .inr (Hy.free z)⟩
          obtain ⟨z1,z2⟩:=s1.mut QC g1 gG
          exact kq u H' _ z1 (f1.trans z2) (ru.at G.me (kR z KZ.2))
        ·cases e7
       ·cases w4
      ·cases w4
     ·cases e2
    ·cases Nf
   ·cases e2
  ·cases e
end
def Mh (ns:List Str) (k:Nat):Str:=match ns[k]? with
 | some x=>x
 | none=>⟨#[k]⟩
def Lp (ns:List Str) (K:Xj) (C D:Addr):Gx:=⟨K,fun c=>(if c=2 then D else C,Mh ns),fun _=>none⟩
def zN {ns:List Str} (nd:ns.Nodup) (h:∀ x∈ns,x.cps.size ≠ 1) (k k':Nat) (e:Mh ns k=Mh ns k'):k=k':=by
 unfold Mh at e
 by_cases h1:k < ns.length
 ·by_cases h2:k' < ns.length
  ·rw [Zr h1,Zr h2] at e
   exact (List.getElem_inj nd).mp e
  ·rw [Zr h1,Z0 (ZE h2)] at e
   have e':ns[k]=(⟨#[k']⟩:Str):=e
   exact absurd (by rw [e'];rfl) (h _ (Yz h1))
 ·by_cases h2:k' < ns.length
  ·rw [Z0 (ZE h1),Zr h2] at e
   have e':(⟨#[k]⟩:Str)=ns[k']:=e
   exact absurd (by rw [← e'];rfl) (h _ (Yz h2))
  ·rw [Z0 (ZE h1),Z0 (ZE h2)] at e
   have e':(⟨#[k]⟩:Str)=⟨#[k']⟩:=e
   cases e'
   rfl
def Ap {ns:List Str} {K:Xj} {C D:Addr} {m:Me} (nd:ns.Nodup) (h:∀ x∈ns,x.cps.size ≠ 1):jW ((Lp ns K C D).at m):=fun _ k k' e=>zN nd h k k' e
def gb {ns:List Str} {x:Str} (h:x ∉ ns) (h1:x.cps.size ≠ 1) (k:Nat):Mh ns k ≠ x:=fun e=>by
 unfold Mh at e
 split at e
 ·rename_i y hy
  exact h (e ▸ YS hy)
 ·exact h1 (by rw [← e];rfl)
def wj {ns:List Str} {K:Xj} {C D:Addr} {m:Me} {k:Nat} {f:Str} (hk:ns[k]?=some f) (cC:HZ K C) (cD:HZ K D) (nC:aT K C f) (nD:aT K D f):HM ((Lp ns K C D).at m) K k f :=
 ⟨fun c=>by show Mh ns k=f;unfold Mh;rw [hk],fun c=>by show HZ K (if c+1=2 then D else C);split <;> assumption,fun c=>by show aT K (if c+1=2 then D else C) f;split <;> assumption⟩
structure MtAt (P:Program) (w:World) (K:Xj) (mg:Xe) (base:Heap) (k:Nat) (G:Gx) (c:Nat) (x:Str) (ps:List Str) (mv:List Bool) (g:Mt):Prop where
 ex:∃ f fd,FnOk P w K mg base Hq k f fd ps (J9 G c mv g)/\Meth K (G.ct (c+1)).1 x f/\Binds K fd ps []
 cl:HZ K (G.ct (c+1)).1
 no:∀ k,(G.ct (c+1)).2 k ≠ x
structure MpAt (P:Program) (w:World) (K:Xj) (mg:Xe) (base:Heap) (k:Nat) (G:Gx) (c:Nat) (x:Str) (ps:List Str) (h:Fn):Prop where
 ex:∃ f fd,FnOk P w K mg base Hq k f fd ps (JB G h)/\Meth K (G.ct (c+1)).1 x f/\Binds K fd ps []
 cl:HZ K (G.ct (c+1)).1
 no:∀ k,(G.ct (c+1)).2 k ≠ x
structure InAt (P:Program) (w:World) (K:Xj) (mg:Xe) (base:Heap) (k:Nat) (G:Gx) (c n:Nat) (x:Str) (ps:List Str) (g:Mt):Prop where
 ex:∃ f fd,FnOk P w K mg base Hq k f fd ps (J9 G c (List.replicate n false) g)/\Mk K (G.ct (c+1)).1 f/\Binds K fd ps []
 mg:mg x=some (.ref (G.ct (c+1)).1)
section
variable {P:Program} {w:World} {K:Xj} {mg:Xe} {base:Heap} {k c n:Nat} {G:Gx} {x:Str} {ps:List Str} {mv:List Bool} {g:Mt}
theorem MtAt.at {m:Me} (h:MtAt P w K mg base k G c x ps mv g):MtAt P w K mg base k (G.at m) c x ps mv g:=⟨h.ex,h.cl,h.no⟩
theorem InAt.at {m:Me} (h:InAt P w K mg base k G c n x ps g):InAt P w K mg base k (G.at m) c n x ps g:=⟨h.ex,h.mg⟩
def lC {qual:Str} {st:Stmt} {f:Addr} {fd:FuncData} {N:List Str} {np nn:Nat} {body:Sx} (F:GX K x qual st f fd) (hm:Meth K (G.ct (c+1)).1 x f) (hc:HZ K (G.ct (c+1)).1) (Kg:∀ k,(G.ct (c+1)).2 k ≠ x) (S:jj N ps (ag st)) (hp:ps.length=np) (hn:N.length=nn)
  (K6:∀ (kV doc pm:Value) (an:Option Addr) (GP ct:Value) (us:X8),us.length=ps.length->bindArgs (PySem.W.fnOf x qual (cG st) (aR st) (ag st) .none kV doc pm an GP ct) ⟨us,[]⟩=pure (ps.zip us))
  (hb:∀ (a:Addr) (GP:Value) (A:Around) (outer:List PySem.Env) (s:Shared) (H:Hp) (E:XK),GH k (A.deeper (envOfC qual (ag st) s.heap.objs.size f GP))->gz (G.at (Jf a)) (iK Hq P w K mg base N qual (ag st) f GP A outer s H E).Jr (aR st) body) :
  MtAt P w K mg base (k+1) G c x ps mv (Iy c np nn mv body):=⟨⟨f,fd,To F S hp hn hb,hm,F.binds K6⟩,hc,Kg⟩
def Dx {y qual:Str} {st:Stmt} {f:Addr} {fd:FuncData} {N:List Str} {np nn:Nat} {body:Sx} (F:GX K y qual st f fd) (hm:Mk K (G.ct (c+1)).1 f) (hg:mg x=some (.ref (G.ct (c+1)).1)) (S:jj N ps (ag st)) (hp:ps.length=np) (hn:N.length=nn)
  (K6:∀ (kV doc pm:Value) (an:Option Addr) (GP ct:Value) (us:X8),us.length=ps.length->bindArgs (PySem.W.fnOf y qual (cG st) (aR st) (ag st) .none kV doc pm an GP ct) ⟨us,[]⟩=pure (ps.zip us))
  (hb:∀ (a:Addr) (GP:Value) (A:Around) (outer:List PySem.Env) (s:Shared) (H:Hp) (E:XK),GH k (A.deeper (envOfC qual (ag st) s.heap.objs.size f GP))->gz (G.at (Jf a)) (iK Hq P w K mg base N qual (ag st) f GP A outer s H E).Jr (aR st) body) :
  InAt P w K mg base (k+1) G c n x ps (Iy c np nn (List.replicate n false) body):=⟨⟨f,fd,To F S hp hn hb,hm,F.binds K6⟩,hg⟩
def A6 {y qual:Str} {st:Stmt} {f:Addr} {fd:FuncData} {N:List Str} {np nn:Nat} {body:Sx} (F:Km K y qual st f fd) (hm:Mk K (G.ct (c+1)).1 f) (hg:mg x=some (.ref (G.ct (c+1)).1)) (S:jj N ps (ag st)) (hp:ps.length=np) (hn:N.length=nn)
  (K6:∀ (s:Shared) (T:Addr) (kV doc pm:Value) (an:Option Addr) (GP ct:Value) (o:Obj) (n:Nat) (us:X8),K.In s.heap->K.lookup T=some o->o.data=.seq #[.none] n->us.length=ps.length->BindsTo s (PySem.W.fnOf y qual (cG st) (aR st) (ag st) (.ref T) kV doc pm an GP ct) ⟨us,[]⟩ (ps.zip us))
  (hb:∀ (a:Addr) (GP:Value) (A:Around) (outer:List PySem.Env) (s:Shared) (H:Hp) (E:XK),GH k (A.deeper (envOfC qual (ag st) s.heap.objs.size f GP))->gz (G.at (Jf a)) (iK Hq P w K mg base N qual (ag st) f GP A outer s H E).Jr (aR st) body) :
  InAt P w K mg base (k+1) G c n x ps (Iy c np nn (List.replicate n false) body):=⟨⟨f,fd,El (fun l b=>F.ok S l b) hp hn hb,hm,F.binds K6⟩,hg⟩
def nQ {qual:Str} {st:Stmt} {f:Addr} {fd:FuncData} {N:List Str} {np nn:Nat} {body:Sx} (F:GX K x qual st f fd) (hm:Meth K (G.ct (c+1)).1 x f) (hc:HZ K (G.ct (c+1)).1) (Kg:∀ k,(G.ct (c+1)).2 k ≠ x) (S:jj N ps (ag st)) (hp:ps.length=np) (hn:N.length=nn)
  (K6:∀ (kV doc pm:Value) (an:Option Addr) (GP ct:Value) (us:X8),us.length=ps.length->bindArgs (PySem.W.fnOf x qual (cG st) (aR st) (ag st) .none kV doc pm an GP ct) ⟨us,[]⟩=pure (ps.zip us))
  (hb:∀ (GP:Value) (A:Around) (outer:List PySem.Env) (s:Shared) (H:Hp) (E:XK),GH k (A.deeper (envOfC qual (ag st) s.heap.objs.size f GP))->gz G (iK Hq P w K mg base N qual (ag st) f GP A outer s H E).Jr (aR st) body) :
  MpAt P w K mg base (k+1) G c x ps (fn np nn body):=⟨⟨f,fd,Rx F S hp hn hb,hm,F.binds K6⟩,hc,Kg⟩
end
section
variable {G:Gx} {X:Cx} {i j c k k' kr n:Nat} {way:List Jh} {o e b:Expr} {es:List Expr} {cs:Hh} {ca ck ce:Ex} {m x:Str} {ps:List Str} {mv:List Bool} {g:Mt} {h:Fn} {xc:Xx} {f:Str} {apos oe pos pos' p p1:Pos}
def iB {pl:Sem Bool} (Jq:jW G) (F:MtAt X.prog X.w X.K X.mg X.base k G c m ps mv g) (hr:GH k' X.A) (hk:k<=k') (ho:Jz G X o i way) (ha:HI G X (e :: es) cs)
  (Io:K1 e es X:=by exact rfl) (hpl:K2 pos es X:=by exact rfl)
  (ht:eval (.Call (.Attribute o m apos) (e :: es) [] pos) X.env=(do
   let ov ← eval o X.env
   standAt apos.atName
   let (f,first) ← holding [ov] (getMethod ov m pl)
   callWith pos f first (backTo pos (starEach (e :: es) X.env)) (backToKw pos (keywordEach [] X.env))):=by exact rfl):PX G X (.Call (.Attribute o m apos) (e :: es) [] pos) (bx i way c mv g cs):=by
 obtain ⟨f,fd,h1,h2,h3⟩:=F.ex
 exact BJ Jq F.no ho F.cl h2 h1 hr hk h3 ha Io hpl ht
def zI {pl:Sem Bool} (Jq:jW G) (F:MtAt X.prog X.w X.K X.mg X.base k G c m ps mv g) (hr:GH k' X.A) (hk:k<=k') (ho:Jz G X o i way)
  (ht:eval (.Call (.Attribute o m apos) [] [] pos) X.env=(do
   let ov ← eval o X.env
   standAt apos.atName
   let (f,first) ← holding [ov] (getMethod ov m pl)
   callWith pos f first (backTo pos (starEach [] X.env)) (backToKw pos (keywordEach [] X.env)))):PX G X (.Call (.Attribute o m apos) [] [] pos) (bx i way c mv g ai):=by
 obtain ⟨f,fd,h1,h2,h3⟩:=F.ex
 exact y9 Jq F.no ho F.cl h2 h1 hr hk h3 ht
def DC {pl:Sem Bool} (F:MtAt X.prog X.w X.K X.mg X.base k G c m ps mv g) (hr:GH k' X.A) (hk:k<=k') (hN:X.N[i]?=some x) (hv:IB X.env.scope x) (hd:K3 x) (hcd:K4 x) (h1:PX G X e xc) (ha:HI G X es cs)
  (Io:K1 e es X) (hpl:K2 pos es X)
  (ht:eval (.Call (.Attribute (.Name x p1) m apos) (e :: es) [] pos) X.env=(do
   let ov ← eval (.Name x p1) X.env
   standAt apos.atName
   let (f,first) ← holding [ov] (getMethod ov m pl)
   callWith pos f first (backTo pos (starEach (e :: es) X.env)) (backToKw pos (keywordEach [] X.env)))):PX G X (.Call (.Attribute (.Name x p1) m apos) (e :: es) [] pos) (oX i c mv g xc cs):=by
 obtain ⟨f,fd,h2,h3,h4⟩:=F.ex
 exact Bg F.no hN hv hd hcd F.cl h3 h2 hr hk h4 h1 ha Io hpl ht
def Bi {pl:Sem Bool} (F:MpAt X.prog X.w X.K X.mg X.base k G c m ps h) (hr:GH k' X.A) (hk:k<=k') (ho:PV G X o ca) (ha:HI G X (e :: es) cs)
  (Io:K1 e es X) (hpl:K2 pos es X)
  (ht:eval (.Call (.Attribute o m apos) (e :: es) [] pos) X.env=(do
   let ov ← eval o X.env
   standAt apos.atName
   let (f,first) ← holding [ov] (getMethod ov m pl)
   callWith pos f first (backTo pos (starEach (e :: es) X.env)) (backToKw pos (keywordEach [] X.env)))):PV G X (.Call (.Attribute o m apos) (e :: es) [] pos) (fh c h ca cs):=by
 obtain ⟨f,fd,h1,h2,h3⟩:=F.ex
 exact C0 F.no ho F.cl h2 h1 hr hk h3 ha Io hpl ht
def ny {pl:Sem Bool} (F:MpAt X.prog X.w X.K X.mg X.base k G c m ps h) (hr:GH k' X.A) (hk:k<=k') (ho:PV G X o ca)
  (ht:eval (.Call (.Attribute o m apos) [] [] pos) X.env=(do
   let ov ← eval o X.env
   standAt apos.atName
   let (f,first) ← holding [ov] (getMethod ov m pl)
   callWith pos f first (backTo pos (starEach [] X.env)) (backToKw pos (keywordEach [] X.env)))):PV G X (.Call (.Attribute o m apos) [] [] pos) (fh c h ca ai):=by
 obtain ⟨f,fd,h1,h2,h3⟩:=F.ex
 exact BE F.no ho F.cl h2 h1 hr hk h3 ht
def Ek {e:Ex}:∀ (U:VS.Env) (xs:Wc),ab e ai U=some xs->xs.length=1:=fun U xs h=>by
 obtain ⟨a,_,h⟩:=Zz.mp h
 cases h
 rfl
def Da (F:InAt X.prog X.w X.K X.mg X.base k G c n x ps g) (hr:GH k' X.A) (hk:k+1<=k') (ha:HI G X (e :: es) cs) (hn:∀ U xs,cs U=some xs->xs.length=n) (hg:Gl X x)
  (Hz:K3 x) (he:K1 e es X) (hpl:K2 pos es X):PV G X (.Call (.Name x p) (e :: es) [] pos) (eNew c g cs):=by
 obtain ⟨f,fd,h1,h2,h3⟩:=F.ex
 exact EO n h2 h1 hr hk hg F.mg h3 ha hn Hz he hpl
def zW (F:InAt X.prog X.w X.K X.mg X.base k G c 0 x ps g) (hr:GH k' X.A) (hk:k+1<=k') (hg:Gl X x) (Hz:K3 x):PV G X (.Call (.Name x p) [] [] pos) (eNew c g ai):=by
 obtain ⟨f,fd,h1,h2,h3⟩:=F.ex
 exact DV h2 h1 hr hk hg F.mg h3 Hz
def pB (Jq:jW G) (ho:Jz G X o i way) (ha:HI G X [e] cs) (hK:X.K=G.K:=by exact rfl)
  (G1:attributeBase o "append" X.env (eval o X.env)=eval o X.env:=by exact rfl)
  (Hf:((backTo oe (starEach [e] X.env)).all (fun x=>!x.1) && (backToKw oe (keywordEach [] X.env)).all (fun x=>x.1.isSome)
   && decide ([e].length+([]:List Keyword).length+(if ([]:List Keyword).isEmpty then 0 else 1) < 30))=true:=by exact rfl)
  (GV:(apos.endLine == oe.line)=true:=by exact rfl) (hs:K1 e [] X:=by exact rfl) (GU:(backTo oe (starEach [] X.env)).any (·.1)=false:=by exact rfl)
  (IV:swapsWith (.Call (.Attribute o "append" apos) [e] [] oe) none pos.line X.env=pure false:=by exact rfl) :
  PSV G X (.Expr (.Call (.Attribute o "append" apos) [e] [] oe) pos) (sX (iC i way aE cs)) :=
 zy Jq Y2 Xb Xc jr oU (fun H v t F l z r h=>lJ r h) ho ha hK G1 Hf GV hs GU IV
end
def Lj (m:Nat) (t:T):T:=.obj 0 [(0,.bl true),(m,t)]
def KI:T->Option (Nat×T)
 | .obj 0 [(0,.bl true),(m,t)]=>some (m,t)
 | _=>none
def kj {t u:T} {m:Nat} (h:KI t=some (m,u)):t=Lj m u:=by
 unfold KI at h
 split at h
 ·cases h;rfl
 ·cases h
def qV (vs:List V):Me:=fun k=>match k with
 | 0=>none
 | k+1=>vs[k]?
def markL:Nat->List Bool->Wa->Wa
 | k,b :: bs,t :: ts=>(if b then Lj (k+1) t else t) :: markL (k+1) bs ts
 | _,_,_=>[]
def lH (U:VS.Env):Nat->List Bool->Option (Wa)
 | _,[]=>some []
 | k,true :: bs=>match (U[k]?:Option (We)) with
  | some (some (.ow t))=>(KI t).bind fun z=>if z.1=k+1 then (lH U (k+1) bs).map (z.2 :: ·) else none
  | _=>none
 | k,false :: bs=>lH U (k+1) bs
def dC {α:Type}:List Bool->List α->List α
 | true :: bs,x :: xs=>x :: dC bs xs
 | false :: bs,_ :: xs=>dC bs xs
 | _,_=>[]
def L8 (M:GR):Nat->List Bool->Xm
 | _,[]=>[]
 | k,true :: bs=>M k :: L8 M (k+1) bs
 | k,false :: bs=>L8 M (k+1) bs
def zj:T->Bool
 | .str _=>true
 | _=>false
def vO (os:Wa) (v:Val):Bool:=GO v.2 || (match os,v with
 | [.lst [.int _]],(.fr,.lst ts)=>ts.all zj
 | _,_=>false)
def zT {os:Wa} {v:Val} (h:vO os v=true):GO v.2=true\/∃ n ts,os=[.lst [.int n]]/\v=(.fr,.lst ts)/\ts.all zj=true:=by
 unfold vO at h
 rcases Bool.or_eq_true_iff.mp h with h | h
 ·exact .inl h
 ·split at h
  ·exact .inr ⟨_,_,rfl,rfl,h⟩
  ·cases h
def sj {ts:Wa} (h:ts.all zj=true):eO ts=true/\aZ ts=true:=by
 induction ts with
 | nil=>exact ⟨rfl,rfl⟩
 | cons t ts ih =>
  rw [Xq,Ze] at h
  cases t <;> first | exact ih h.2 | cases h.1
noncomputable def Ks (np nn:Nat) (mv:List Bool) (body:Sx):Wa->Option (Wa×T)
 | t0 :: ts=>if ts.length+1=np/\mv.length=ts.length then
  (body ((some (.ow (Lj 1 t0)) :: List.zipWith iO mv (markL 1 mv ts))++List.replicate (nn - np) none)).bind fun o=>match o with
   | .rt v U=>(lH U 0 (true :: mv)).bind fun os=>if vO os v=true/\aZ os=true then some (os,v.2) else none
   | .nx U=>(lH U 0 (true :: mv)).bind fun os=>if aZ os=true then some (os,.GJ) else none
   | _=>none else none
 | []=>none
structure ChI (G:Gx) (H:Hp) (mv:List Bool) (vs:List V) (Fs:Xm) (os:Wa) (H2:Hp) (Gs:Xm):Prop where
 kept:Kept H H2
 keep:∀ b o,b ∉ Hu mv Fs->H b=some o->H2 b=some o
 GZ:∀ b,H b ≠ none->H2 b ≠ none
 rp:RpL G H2 (dC mv vs) os Gs
 nd:Gs.flatten.Nodup
 sub:∀ a∈Gs.flatten,a∈Hu mv Fs\/H a=none
noncomputable def Mv (G:Gx) (mv:List Bool) (g:Wa->Option (Wa×T)):Sp:=fun vs H Q _=>∃ (a:Addr) (us:List V) (t0:T) (ts:Wa) (F:Xa) (Fs:Xm) (os:Wa) (x:T),vs=.ref a :: us/\Rp G H (.ref a) t0 F/\RpL G H us ts Fs/\(∀ v∈dC mv us,∃ b,v=.ref b)/\dU t0=true/\aZ ts=true/\mv.length=ts.length ∧
 (F++Hu mv Fs).Nodup/\(∀ b∈F++Hu mv Fs,b ∉ JC mv Fs)/\g (t0 :: ts)=some (os,x)/\∀ u H' Gs Fu,ChI G H (true :: mv) vs (F :: Fs) os H' Gs->Rp G H' u x Fu->Fu.Nodup->(∀ a∈Fu,a ∉ Gs.flatten)->(∀ a∈Fu,H a=none\/a∈F++Hu mv Fs)->Q u H'
section
variable {G:Gx} {H:Hp}
def new_apart {G':Gx} {vs:List V} {n:Int} {Gs:Xm} {u:V} {ts:Wa} {F:Xa} (r:RpL G H vs [.lst [.int n]] Gs) (q:Rp G' H u (.lst ts) F) (hs:ts.all zj=true):∀ a∈F,a ∉ Gs.flatten:=by
 cases r with
 | cons r0 r1 =>
  cases r1
  obtain ⟨a,vs,Fs,rfl,rfl,h1,h2⟩:=r0.lst_inv
  obtain ⟨p,ws,Hs,rfl,rfl,g1,g2⟩:=q.lst_inv
  rw [g2.GO (sj hs).1]
  intro b hb Hb
  rw [Zf] at hb
  subst hb
  cases h2 with
  | cons i0 i1 =>
   cases i1
   cases i0
   have:b=a:=by simpa using Hb
   subst this
   rw [h1] at g1
   cases g1
   cases g2 with
   | cons k0 k1 =>
    cases k1
    cases k0
    cases hs
theorem ui {m:Me}:∀ {bs:List Bool} {us:List V} {ts:Wa} {Fs:Xm} (k:Nat),RpL (G.at m) H us ts Fs->(∀ v∈dC bs us,∃ b,v=.ref b)->(∀ j,m (k+1+j)=us[j]?)->bs.length=ts.length->RpL (G.at m) H us (markL k bs ts) Fs
 | [],_,_,_,k,.nil,_,_,_=>.nil
 | [],_,_,_,k,.cons _ _,_,_,h=>by simp at h
 | _ :: _,_,_,_,k,.nil,_,_,h=>by simp at h
 | b :: bs,v :: us,t :: ts,F :: Fs,k,.cons r q,hr,hm,hl=>by
  have ih:=ui (bs:=bs) (k+1) q (fun w hw=>hr w (by cases b <;> simp [dC,hw])) (fun j=>by rw [show k+1+1+j=k+1+(j+1) by omega,hm (j+1)];rfl) (by simpa using hl)
  cases b with
  | false=>exact .cons r ih
  | true =>
   obtain ⟨a,rfl⟩:=hr v (by simp [dC])
   exact .cons (.mk (hm 0) r) ih
theorem tY {vs:List V} {M:GR} {U:VS.Env} {J:L2.St} (s:SR (G.at (qV vs)) M U J H):∀ (bs:List Bool) (k:Nat) (os:Wa),lH U k bs=some os->aZ os=true →
  RpL G H (dC bs (vs.drop k)) os (L8 M k bs)/\(L8 M k bs).flatten.Nodup/\∀ a∈(L8 M k bs).flatten,∃ j t,k<=j/\U[j]?=some (some (.ow t))/\a∈M j
 | [],k,os,h,_=>by
  cases h
  refine ⟨?_,Z9,fun a h=>nomatch h⟩
  cases vs.drop k <;> exact .nil
 | false :: bs,k,os,h,hn=>by
  obtain ⟨h1,h2,h3⟩:=tY s bs (k+1) os h hn
  refine ⟨?_,h2,fun a ha=>?_⟩
  ·rw [← YD,List.drop_one] at h1
   cases hv:vs.drop k with
   | nil=>rw [hv] at h1;cases bs <;> (try rename_i b _;cases b) <;> exact h1
   | cons v r=>rw [hv] at h1;exact h1
  ·obtain ⟨j,t,a1,a2⟩:=h3 a ha
   exact ⟨j,t,by omega,a2⟩
 | true :: bs,k,os,h,hn=>by
  unfold lH at h
  split at h
  ·rename_i t ht
   obtain ⟨⟨m,u⟩,e1,e2⟩:=Zz.mp h
   split at e2
   ·rename_i hm
    obtain ⟨NI,e3,rfl⟩:=Zy.mp e2
    rw [aZ,Ze] at hn
    obtain ⟨h1,h2,h3⟩:=tY s bs (k+1) NI e3 hn.2
    have et:=kj e1
    subst et
    have Ip:m=k+1:=hm
    subst Ip
    obtain ⟨v,g1,g2⟩:=s.rp k _ ht
    obtain ⟨a,rfl,g3,g4⟩:=kW (show Rp (G.at (qV vs)) H v (.obj 0 [(0,.bl true),(k+1,u)]) (M k) from g2)
    have g5:vs[k]?=some (.ref a):=g3
    have hd:vs.drop k=.ref a :: vs.drop (k+1):=by
     obtain ⟨hk,e⟩:=Zg.mp g5
     rw [Xf hk,e]
    refine ⟨?_,?_,fun b hb=>?_⟩
    ·rw [hd]
     exact .cons (g4.at G.me hn.1) h1
    ·show (M k++(L8 M (k+1) bs).flatten).Nodup
     refine ZU.mpr ⟨s.nd k _ ht,h2,fun b hb c hc z=>?_⟩
     subst z
     obtain ⟨j,t',a1,a2,a3⟩:=h3 b hc
     exact s.sep k j _ _ ht a2 (by omega) b hb a3
    ·rcases Zc.mp (show b∈M k++(L8 M (k+1) bs).flatten from hb) with z | z
     ·exact ⟨k,_,Zp _,ht,z⟩
     ·obtain ⟨j,t',a1,a2⟩:=h3 b z
      exact ⟨j,t',by omega,a2⟩
   ·cases e2
  ·cases h
end
section
variable {G:Gx} {P:Program} {w:World} {K:Xj} {mg:Xe} {base:Heap}
def VZ {x qual:Str} {st:Stmt} {f:Addr} {fd:FuncData} {N ps:List Str} {k np nn:Nat} {mv:List Bool} {body:Sx} (F:GX K x qual st f fd) (S:jj N ps (ag st)) (hp:ps.length=np) (hn:N.length=nn)
  (hb:∀ (m:Me) (GP:Value) (A:Around) (outer:List PySem.Env) (s:Shared) (H:Hp) (E:XK),GH k (A.deeper (envOfC qual (ag st) s.heap.objs.size f GP))->gz (G.at m) (iK Hq P w K mg base N qual (ag st) f GP A outer s H E).Jr (aR st) body) :
  FnOk P w K mg base Hq (k+1) f fd ps (Mv G mv (Ks np nn mv body)):=by
 refine F.ok S (fun vs H Q E h=>?_) fun GP A outer s H vs Q E hr h=>?_
 ·obtain ⟨a,us,t0,ts,F0,Fs,os,y,rfl,r0,r,rf,no,Su,hm,nd,sp,e,q⟩:=h
  dsimp only [Ks] at e
  split at e
  ·rename_i hl
   rw [Zm,r.len.1,hl.1,hp]
  ·cases e
 ·obtain ⟨a,us,t0,ts,F0,Fs,os,y,rfl,r0,r,rf,no,Su,hm,nd,sp,e,q⟩:=h
  refine ⟨_,hb (qV (.ref a :: us)) GP A outer s H E hr,?_⟩
  dsimp only [Ks] at e
  split at e
  ·rename_i hl
   obtain ⟨o,e1,e2⟩:=Zz.mp e
   have SU:∀ (bs:List Bool) (ts:Wa) (k:Nat),bs.length=ts.length->(markL k bs ts).length=ts.length:=by
    intro bs
    induction bs with
    | nil=>intro ts k h;cases ts <;> simp_all [markL]
    | cons b bs ih =>
     intro ts k h
     cases ts with
     | nil=>simp at h
     | cons t ts=>simp only [markL,Zm];rw [ih ts (k+1) (by simpa using h)]
   have m1:=ui (m:=qV (.ref a :: us)) (bs:=mv) 1 (r.at (qV (.ref a :: us)) Su) rf (fun j=>by rw [show 1+1+j=(1+j)+1 by omega];show (V.ref a :: us)[1+j]?=_;rw [Nat.add_comm 1 j];rfl) hm
   obtain ⟨s0,Kc⟩:=rC (mv:=mv) (Rp.mk (m:=1) (show (G.at (qV (.ref a :: us))).me 1=some (.ref a) from rfl) (r0.at (qV (.ref a :: us)) no)) m1 (by rw [SU mv ts 1 hm];exact hm) nd sp nn (us.length+1) rfl
   rw [SU mv ts 1 hm,hl.1] at s0 Kc
   have e3:L2.start N (V.ref a :: us)=(V.ref a :: us).map some++List.replicate (nn - (us.length+1)) none:=by
    unfold L2.start
    rw [hn]
    rfl
   rw [e3]
   have Na:∀ b,bC (fun i=>(F0 :: Fs).getD i []) ((some (.ow (Lj 1 t0)) :: List.zipWith iO mv (markL 1 mv ts))++List.replicate (nn - np) none) b->b∈Hu (true :: mv) (F0 :: Fs):=Kc
   have fin:∀ {U':VS.Env} {M':GR} {J':L2.St} {H':Hp} {os:Wa},lH U' 0 (true :: mv)=some os->aZ os=true->SR (G.at (qV (.ref a :: us))) M' U' J' H'->G0 (fun i=>(F0 :: Fs).getD i []) ((some (.ow (Lj 1 t0)) :: List.zipWith iO mv (markL 1 mv ts))++List.replicate (nn - np) none) H M' U' H' →
     ChI G H (true :: mv) (.ref a :: us) (F0 :: Fs) os H' (L8 M' 0 (true :: mv)):=fun {U' M' J' H' os} ho Kg s' fr=>by
    obtain ⟨h1,h2,h3⟩:=tY s' (true :: mv) 0 os ho Kg
    refine ⟨fr.kept,fun b' o' Hb ho=>(fr.keep b' o' ho fun z=>Hb (Na b' z)).1,fr.GZ,h1,h2,fun b' Hb=>?_⟩
    obtain ⟨j,t,_,a2,a3⟩:=h3 b' Hb
    rcases fr.ow b' ⟨j,t,a2,a3⟩ with z | z
    ·exact .inl (Na b' z)
    ·exact .inr z
   refine ⟨_,_,o,s0,e1,?_⟩
   cases o with
   | nx U' =>
    obtain ⟨UB,e4,e5⟩:=Zz.mp e2
    split at e5
    ·rename_i hi
     cases e5
     intro M' J' H' s' fr
     exact q .GJ H' _ [] (fin e4 hi s' fr) .GJ Z9 (fun a h=>nomatch h) fun a h=>nomatch h
    ·cases e5
   | rt v U' =>
    obtain ⟨UB,e4,e5⟩:=Zz.mp e2
    split at e5
    ·rename_i hi
     cases e5
     intro u H' F' M' J' s' fr r' rf
     rcases zT hi.1 with z | ⟨n,HF,rfl,rfl,z⟩
     ·have:=r'.GO z
      subst this
      exact q u H' _ [] (fin e4 hi.2 s' fr) (r'.at G.me (kR _ z)) Z9 (fun a h=>nomatch h) fun a h=>nomatch h
     ·have ch:=fin e4 hi.2 s' fr
      exact q u H' _ F' ch (r'.at G.me (sj z).2) rf.1 (new_apart ch.rp r' z) fun a ha=>(rf.2 a ha).imp id (Na a)
    ·cases e5
   | bk U'=>cases e2
   | ct U'=>cases e2
  ·cases e
end
section
variable {G:Gx}
def SR.Qt {M M':GR} {U U':VS.Env} {J:L2.St} {H H2:Hp} {S:Nat->Prop} (s:SR G M U J H) (hl:U'.length=U.length) (off:∀ j,¬ S j->U'[j]?=U[j]?/\M' j=M j) (on:∀ j,S j->∃ t t' v,U[j]?=some (some (.ow t))/\U'[j]?=some (some (.ow t'))/\J[j]?=some (some v)/\Rp G H2 v t' (M' j)/\(M' j).Nodup)
  (ap:∀ i j,S i->S j->i ≠ j->∀ a∈M' i,a ∉ M' j) (kept:Kept H H2) (keep:∀ b o,(∀ j,S j->b ∉ M j)->H b=some o->H2 b=some o) (GZ:∀ b,H b ≠ none->H2 b ≠ none) (sub:∀ j,S j->∀ a∈M' j,(∃ i,S i/\a∈M i)\/H a=none) :
  SR G M' U' J H2/\G0 M U H M' U' H2:=by
 have Tp:∀ j c,¬ S j->U[j]?=some (some c)->∀ a∈M j,∀ i,S i->a ∉ M i:=fun j c hj hc a ha i hi GT=>by
  obtain ⟨t,_,_,h1,_⟩:=on i hi
  exact s.sep i j t c h1 hc (fun e=>hj (e ▸ hi)) a GT ha
 have new:∀ i,S i->∀ a∈M' i,∀ j c,¬ S j->U[j]?=some (some c)->a ∉ M j:=fun i hi a ha j c hj hc GT=>by
  rcases sub i hi a ha with ⟨k,hk,z⟩ | z
  ·exact Tp j c hj hc a GT k hk z
  ·obtain ⟨w,_,q⟩:=s.rp j c hc
   exact GS.pe (q.GZ a GT) z
 refine ⟨⟨hl.trans s.len,fun i c h=>?_,fun i t h=>?_,fun i j t c h1 h2 n=>?_⟩,⟨fun a o h n=>⟨keep a o (fun j hj z=>?_) h,fun z=>?_⟩,GZ,fun a h=>?_,fun a h=>?_,kept⟩⟩
 ·by_cases hi:S i
  ·obtain ⟨t,t',v,g1,g2,g3,g4,_⟩:=on i hi
   rw [g2] at h
   cases h
   exact ⟨v,g3,g4⟩
  ·obtain ⟨g1,g2⟩:=off i hi
   rw [g1] at h
   obtain ⟨v,q1,q2⟩:=s.rp i c h
   rw [g2]
   exact ⟨v,q1,q2.keep kept fun a ha o ho=>keep a o (fun j hj=>Tp i c hi h a ha j hj) ho⟩
 ·by_cases hi:S i
  ·exact (on i hi).choose_spec.choose_spec.choose_spec.2.2.2.2
  ·obtain ⟨g1,g2⟩:=off i hi
   rw [g1] at h
   rw [g2]
   exact s.nd i t h
 ·by_cases hi:S i
  ·by_cases hj:S j
   ·exact ap i j hi hj n
   ·obtain ⟨g1,g2⟩:=off j hj
    rw [g1] at h2
    rw [g2]
    exact fun a ha=>new i hi a ha j c hj h2
  ·obtain ⟨g1,g2⟩:=off i hi
   rw [g1] at h1
   rw [g2]
   by_cases hj:S j
   ·exact fun a ha GT=>new j hj a GT i _ hi h1 ha
   ·obtain ⟨g3,g4⟩:=off j hj
    rw [g3] at h2
    rw [g4]
    exact s.sep i j t c h1 h2 n
 ·obtain ⟨t,_,_,h1,_⟩:=on j hj
  exact n ⟨j,t,h1,z⟩
 ·obtain ⟨j,t,h1,h2⟩:=z
  by_cases hj:S j
  ·rcases sub j hj a h2 with ⟨i,hi,z⟩ | z
   ·obtain ⟨t,_,_,g1,_⟩:=on i hi
    exact n ⟨i,t,g1,z⟩
   ·rw [z] at h;cases h
  ·obtain ⟨g1,g2⟩:=off j hj
   rw [g1] at h1
   rw [g2] at h2
   exact n ⟨j,t,h1,h2⟩
 ·obtain ⟨j,t,h1,h2⟩:=h
  by_cases hj:S j
  ·rcases sub j hj a h2 with ⟨i,hi,z⟩ | z
   ·obtain ⟨t,_,_,g1,_⟩:=on i hi
    exact .inl ⟨i,t,g1,z⟩
   ·exact .inr z
  ·obtain ⟨g1,g2⟩:=off j hj
   rw [g1] at h1
   rw [g2] at h2
   exact .inl ⟨j,t,h1,h2⟩
 ·obtain ⟨j,t,h1,h2⟩:=h
  by_cases hj:S j
  ·obtain ⟨t,t',v,g1,g2,_⟩:=on j hj
   rw [g2] at h1
   cases h1
  ·obtain ⟨g1,g2⟩:=off j hj
   rw [g1] at h1
   rw [g2] at h2
   exact .inl ⟨j,t,h1,h2⟩
end
inductive Ia where | io (i:Nat) (un:Bool) | ex (c:Ex)
def LJ (un:Bool):Option (We)->Option T
 | some (some (.ow t))=>if un then (KI t).map (·.2) else if pb t then some t else none
 | _=>none
def MQ (v:Val):Option T:=match v.1 with
 | .bo=>if GO v.2 then some v.2 else none
 | _=>some v.2
def iI (U:VS.Env):List Ia->Option (Wa)
 | []=>some []
 | .io i un :: as=>(LJ un U[i]?).bind fun t=>(iI U as).map (t :: ·)
 | .ex c :: as=>(c U).bind fun v=>(MQ v).bind fun t=>(iI U as).map (t :: ·)
def HC:List Ia->List Bool
 | []=>[]
 | .io _ _ :: as=>true :: HC as
 | .ex _ :: as=>false :: HC as
def Hi:List Ia->Wh
 | []=>[]
 | .io i _ :: as=>i :: Hi as
 | .ex _ :: as=>Hi as
def oZ (un:Bool) (c:Option (We)) (o:T):T:=if un then (match c with
 | some (some (.ow t))=>(match KI t with
  | some z=>Lj z.1 o
  | none=>o)
 | _=>o) else o
def iD:List Ia->Wa->VS.Env->VS.Env
 | .io i un :: as,o :: os,U=>iD as os (U.set i (some (.ow (oZ un U[i]? o))))
 | .ex _ :: as,os,U=>iD as os U
 | _,_,U=>U
def fD (as:List Ia) (g:Wa->Option (Wa×T)):Xx:=fun U=>(iI U as).bind fun ts=>if aZ ts=true/\(Hi as).Nodup then (g ts).map fun z=>((.fr,z.2),iD as z.1 U) else none
inductive Kl (M:GR) (U:VS.Env) (J:L2.St) (H:Hp):List Ia->List V->Xm->Prop
 | nil:Kl M U J H [] [] []
 | io {i:Nat} {un:Bool} {a:Addr} {as:List Ia} {vs:List V} {Fs:Xm}:J[i]?=some (some (.ref a))->Kl M U J H as vs Fs->Kl M U J H (.io i un :: as) (.ref a :: vs) (M i :: Fs)
 | ex {c:Ex} {v:V} {F:Xa} {as:List Ia} {vs:List V} {Fs:Xm}:(∀ a∈F,H a=none\/cM M U a)->Kl M U J H as vs Fs->Kl M U J H (.ex c :: as) (v :: vs) (F :: Fs)
def Um (G:Gx) (as:List Ia):TA:=fun J H Q=>∃ M U ts,SR G M U J H/\iI U as=some ts/\∀ vs H' Fs,aD H H'->RpL G H' vs ts Fs->Kl M U J H as vs Fs->Q vs H'
def MZ (G:Gx) (X:Cx) (es:List Expr) (as:List Ia):Prop:=PA X es (Um G as)
section
variable {G:Gx} {X:Cx} {e:Expr} {es:List Expr} {as:List Ia} {c:Ex} {pos:Pos}
def yD {H:Hp} {v:V} {t:T} {F:Xa} (r:Rp G H v t F) (h:pb t=true):∃ a,v=.ref a:=by
 cases r <;> first | exact ⟨_,rfl⟩ | (simp at h)
def Kl.mono {M:GR} {U:VS.Env} {J:L2.St} {H H1:Hp} (e:aD H H1) {as:List Ia} {vs:List V} {Fs:Xm} (h:Kl M U J H1 as vs Fs):Kl M U J H as vs Fs:=by
 induction h with
 | nil=>exact .nil
 | io h _ ih=>exact .io h ih
 | ex h _ ih=>exact .ex (fun a ha=>(h a ha).imp e.free id) ih
def zO:MZ G X [] []:=PA.weak fE fun J H Q hq=>by
 obtain ⟨M,U,ts,s,e,k⟩:=hq
 cases e
 exact k [] H [] (aD.refl _) .nil .nil
def C3 (i:Nat) (un:Bool) {x:Str} (hN:X.N[i]?=some x) (hv:IB X.env.scope x) (hd:K3 x) (hcd:K4 x) (hr:MZ G X es as)
  (hs:starEach (.Name x pos :: es) X.env=(false,eval (.Name x pos) X.env) :: starEach es X.env):MZ G X (.Name x pos :: es) (.io i un :: as) :=
 PA.weak (bZ (fK hN hv hd hcd) hr hs) fun J H Q hq=>by
  obtain ⟨M,U,ts,s,e,k⟩:=hq
  obtain ⟨t,e1,e2⟩:=Zz.mp (show (LJ un U[i]?).bind (fun t=>(iI U as).map (t :: ·))=some ts from e)
  obtain ⟨HF,e3,rfl⟩:=Zy.mp e2
  unfold LJ at e1
  split at e1
  ·rename_i t0 h0
   obtain ⟨v,h1,h2⟩:=s.rp _ _ h0
   have Iu:Rp G H v t0 (M i):=h2
   have key:∃ a,v=.ref a/\Rp G H (.ref a) t (M i):=by
    split at e1
    ·obtain ⟨⟨m,u⟩,g1,g2⟩:=Zy.mp e1
     cases g2
     rw [kj g1] at Iu
     obtain ⟨a,q1,_,q2⟩:=kW Iu
     exact ⟨a,q1,q2⟩
    ·split at e1
     ·rename_i hm
      cases e1
      obtain ⟨a,rfl⟩:=yD Iu hm
      exact ⟨a,rfl,Iu⟩
     ·cases e1
   obtain ⟨a,rfl,r⟩:=key
   exact ⟨_,h1,M,U,HF,s,e3,fun vs H' Fs sm rp ia=>k _ H' _ sm (.cons (r.same sm) rp) (.io h1 ia)⟩
  ·cases e1
def xY (h:PV G X e c) (hr:MZ G X es as) (hs:K1 e es X):MZ G X (e :: es) (.ex c :: as) :=
 PA.weak (bZ h hr hs) fun J H Q hq=>by
  obtain ⟨M,U,ts,s,e,k⟩:=hq
  obtain ⟨⟨m,t⟩,e1,e2⟩:=Zz.mp (show (c U).bind (fun v=>(MQ v).bind fun t=>(iI U as).map (t :: ·))=some ts from e)
  obtain ⟨t',e3,e4⟩:=Zz.mp e2
  obtain ⟨HF,e5,rfl⟩:=Zy.mp e4
  refine ⟨M,U,m,t,s,e1,fun v H1 F sm r f=>⟨M,U,HF,s.same sm,e5,fun vs H2 Fs Hy rp ia=>?_⟩⟩
  have key:t'=t/\∀ a∈F,H a=none\/cM M U a:=by
   unfold MQ at e3
   cases m with
   | fr=>cases e3;exact ⟨rfl,fun a ha=>.inl (f.2 a ha)⟩
   | pu=>cases e3;exact ⟨rfl,f⟩
   | bo =>
    dsimp only at e3
    split at e3
    ·rename_i hi
     cases e3
     rw [r.GO hi]
     exact ⟨rfl,fun a ha=>nomatch ha⟩
    ·cases e3
  obtain ⟨rfl,hf⟩:=key
  exact k _ H2 _ (sm.trans Hy) (.cons (r.same Hy) rp) (.ex hf (ia.mono sm))
end
section
variable {G:Gx} {M:GR} {U:VS.Env} {J:L2.St} {H:Hp}
structure IaF (G:Gx) (M:GR) (U:VS.Env) (J:L2.St) (H:Hp) (as:List Ia) (ts:Wa) (vs:List V) (Fs:Xm):Prop where
 ref:∀ v∈dC (HC as) vs,∃ b,v=.ref b
 len:(HC as).length=ts.length
 mv:∀ a,a∈Hu (HC as) Fs ↔ ∃ j∈Hi as,a∈M j
 pu:∀ a∈JC (HC as) Fs,H a=none\/cM M U a
 ow:∀ i un,Ia.io i un∈as->∃ t a,U[i]?=some (some (.ow t))/\J[i]?=some (some (.ref a))/\(un=true->∃ m u,KI t=some (m,u)/\G.me m=some (.ref a))
 nd:(Hi as).Nodup->(Hu (HC as) Fs).Nodup
theorem jl:∀ {as:List Ia} {i:Nat},i∈Hi as ↔ ∃ un,Ia.io i un∈as
 | [],i=>⟨(fun h=>nomatch h),fun ⟨_,h⟩=>nomatch h⟩
 | .io j un :: as,i=>by
  show i∈j :: Hi as ↔ _
  rw [Zj,jl]
  constructor
  ·rintro (rfl | ⟨u,h⟩)
   ·exact ⟨un,Zu⟩
   ·exact ⟨u,Zw _ h⟩
  ·rintro ⟨u,h⟩
   rcases Zj.mp h with h | h
   ·cases h;exact .inl rfl
   ·exact .inr ⟨u,h⟩
 | .ex c :: as,i=>by
  show i∈Hi as ↔ _
  rw [jl]
  exact ⟨fun ⟨u,h⟩=>⟨u,Zw _ h⟩,fun ⟨u,h⟩=>by
   rcases Zj.mp h with h | h
   ·cases h
   ·exact ⟨u,h⟩⟩
def yC (s:SR G M U J H):∀ {as:List Ia} {ts:Wa} {vs:List V} {Fs:Xm},iI U as=some ts->Kl M U J H as vs Fs->IaF G M U J H as ts vs Fs:=by
 intro as
 induction as with
 | nil =>
  intro ts vs Fs e r
  cases e
  cases r
  exact ⟨(fun v h=>nomatch h),rfl,fun a=>⟨(fun h=>nomatch h),fun ⟨_,h,_⟩=>nomatch h⟩,(fun a h=>nomatch h),(fun i un h=>nomatch h),fun _=>Z9⟩
 | cons x as ih =>
  intro ts vs Fs e r
  cases r with
  | @io i un a _ vs Fs h r =>
   obtain ⟨t,e1,e2⟩:=Zz.mp (show (LJ un U[i]?).bind (fun t=>(iI U as).map (t :: ·))=some ts from e)
   obtain ⟨HF,e3,rfl⟩:=Zy.mp e2
   have f:=ih e3 r
   have hi:∃ t0,U[i]?=some (some (.ow t0))/\(un=true->∃ m u,KI t0=some (m,u)/\G.me m=some (.ref a)):=by
    unfold LJ at e1
    split at e1
    ·rename_i t0 h0
     refine ⟨t0,h0,fun hu=>?_⟩
     rw [hu,Zq rfl] at e1
     obtain ⟨⟨m,u⟩,g1,g2⟩:=Zy.mp e1
     obtain ⟨v,h1,h2⟩:=s.rp _ _ h0
     rw [h] at h1
     cases h1
     have Iu:Rp G H (.ref a) t0 (M i):=h2
     rw [kj g1] at Iu
     obtain ⟨a',q1,q2,_⟩:=kW Iu
     cases q1
     exact ⟨m,u,g1,q2⟩
    ·cases e1
   obtain ⟨t0,h0,hu⟩:=hi
   have UL:∀ b,b∈M i++Hu (HC as) Fs ↔ ∃ j∈i :: Hi as,b∈M j:=fun b=>by
    rw [Zc,f.mv]
    constructor
    ·rintro (z | ⟨j,hj,z⟩)
     ·exact ⟨i,Zu,z⟩
     ·exact ⟨j,Zw _ hj,z⟩
    ·rintro ⟨j,hj,z⟩
     rcases Zj.mp hj with rfl | hj
     ·exact .inl z
     ·exact .inr ⟨j,hj,z⟩
   refine ⟨fun v hv=>?_,?_,UL,?_,fun i' JZ h'=>?_,fun nd=>?_⟩
   ·rcases Zj.mp (show v∈V.ref a :: dC (HC as) vs from hv) with rfl | hv
    ·exact ⟨a,rfl⟩
    ·exact f.ref v hv
   ·show (HC as).length+1=HF.length+1
    rw [f.len]
   ·exact fun b hb=>f.pu b hb
   ·rcases Zj.mp h' with h' | h'
    ·cases h'
     exact ⟨t0,a,h0,h,hu⟩
    ·exact f.ow i' JZ h'
   ·have Hx:=Zh.mp (show (i :: Hi as).Nodup from nd)
    show (M i++Hu (HC as) Fs).Nodup
    refine ZU.mpr ⟨s.nd i _ h0,f.nd Hx.2,fun b hb b' Hb z=>?_⟩
    subst z
    obtain ⟨j,hj,z⟩:=(f.mv b).mp Hb
    obtain ⟨JZ,Kv⟩:=jl.mp hj
    obtain ⟨t',_,g1,_⟩:=f.ow j JZ Kv
    exact s.sep i j _ _ h0 g1 (fun e=>Hx.1 (e ▸ hj)) b hb z
  | @ex c v F _ vs Fs h r =>
   obtain ⟨⟨m,t⟩,e1,e2⟩:=Zz.mp (show (c U).bind (fun v=>(MQ v).bind fun t=>(iI U as).map (t :: ·))=some ts from e)
   obtain ⟨t',_,e4⟩:=Zz.mp e2
   obtain ⟨HF,e5,rfl⟩:=Zy.mp e4
   have f:=ih e5 r
   refine ⟨f.ref,?_,f.mv,fun a ha=>?_,fun i' JZ h'=>?_,f.nd⟩
   ·show (HC as).length+1=HF.length+1
    rw [f.len]
   ·rcases Zc.mp (show a∈F++JC (HC as) Fs from ha) with z | z
    ·exact h a z
    ·exact f.pu a z
   ·rcases Zj.mp h' with h' | h'
    ·cases h'
    ·exact f.ow i' JZ h'
def wA {H2:Hp}:∀ {as:List Ia} {vs:List V} {Fs:Xm} {os:Wa} {Gs:Xm} {U:VS.Env},(∀ i un,Ia.io i un∈as->∃ t a,U[i]?=some (some (.ow t))/\J[i]?=some (some (.ref a))/\(un=true->∃ m u,KI t=some (m,u)/\G.me m=some (.ref a)))->(Hi as).Nodup →
  (∀ (n:Nat) (v:V),(dC (HC as) vs)[n]?=some v->∃ i:Nat,(Hi as)[n]?=some i/\J[i]?=some (some v))->RpL G H2 (dC (HC as) vs) os Gs->(dC (HC as) vs).length=(Hi as).length →
  (iD as os U).length=U.length/\(∀ j:Nat,j ∉ Hi as->(iD as os U)[j]?=U[j]?)/\∀ (n j:Nat),(Hi as)[n]?=some j->∃ (t t':T) (v:V) (F:Xa),U[j]?=some (some (Cell.ow t))/\(iD as os U)[j]?=some (some (Cell.ow t'))/\J[j]?=some (some v)/\Gs[n]?=some F/\Rp G H2 v t' F:=by
 intro as
 induction as with
 | nil=>intro vs Fs os Gs U _ _ _ r _;exact ⟨rfl,fun _ _=>rfl,fun n j h=>by simp [Hi] at h⟩
 | cons x as ih =>
  intro vs Fs os Gs U ow nd al r hl
  cases x with
  | ex c =>
   cases vs with
   | nil =>
    have e:(dC (HC (.ex c :: as)) ([]:List V))=[]:=rfl
    have e2:Hi as=[]:=Ys.mp (by rw [e] at hl;exact hl.symm)
    rw [e] at r
    cases r
    obtain ⟨a1,a2,a3⟩:=ih (vs:=[]) (os:=[]) (Gs:=[]) (Fs:=Fs) (U:=U) (fun i un h=>ow i un (Zw _ h)) nd (fun n v h=>by cases HC as <;> (try rename_i b _;cases b) <;> simp [dC] at h) (by cases HC as <;> (try rename_i b _;cases b) <;> exact .nil) (by rw [e2];cases HC as <;> (try rename_i b _;cases b) <;> rfl)
    exact ⟨a1,a2,a3⟩
   | cons v vs=>exact ih (Fs:=Fs) (fun i un h=>ow i un (Zw _ h)) nd al r hl
  | io i un =>
   have Hx:=Zh.mp (show (i :: Hi as).Nodup from nd)
   cases vs with
   | nil=>simp [HC,dC,Hi] at hl
   | cons v vs =>
    cases r with
    | @cons _ o F _ os Gs r0 r =>
     obtain ⟨t,a,h0,h1,hu⟩:=ow i un Zu
     have Vr:i < U.length:=(Zg.mp h0).1
     have hv:v=.ref a:=by
      obtain ⟨i',g1,g2⟩:=al 0 v rfl
      cases (show some i=some i' from g1)
      rw [h1] at g2
      cases g2
      rfl
     subst hv
     obtain ⟨a1,a2,a3⟩:=ih (vs:=vs) (os:=os) (Gs:=Gs) (Fs:=Fs) (U:=U.set i (some (.ow (oZ un U[i]? o)))) (fun i' JZ h=>by
      obtain ⟨t',a',g1,g2⟩:=ow i' JZ (Zw _ h)
      have ne:i ≠ i':=fun e=>Hx.1 (e ▸ jl.mpr ⟨JZ,h⟩)
      exact ⟨t',a',by rw [Yr ne];exact g1,g2⟩) Hx.2 (fun n w h=>by
      obtain ⟨i',g1,g2⟩:=al (n+1) w h
      exact ⟨i',g1,g2⟩) r (by simpa [HC,dC,Hi] using hl)
     refine ⟨by rw [show iD (.io i un :: as) (o :: os) U=iD as os (U.set i (some (.ow (oZ un U[i]? o)))) from rfl,a1,Z6],fun j hj=>?_,fun n j hn=>?_⟩
     ·have Kv:j ≠ i/\j ∉ Hi as:=⟨fun e=>hj (e ▸ Zu),fun z=>hj (Zw _ z)⟩
      exact (a2 j Kv.2).trans (Yr (Ya Kv.1))
     ·cases n with
      | zero =>
       cases (show some i=some j from hn)
       refine ⟨t,_,.ref a,F,h0,(a2 i Hx.1).trans (Y5 Vr),h1,rfl,?_⟩
       cases un with
       | false=>exact r0
       | true =>
        obtain ⟨m,u,g1,g2⟩:=hu rfl
        have:oZ true U[i]? o=Lj m o:=by
         unfold oZ
         rw [Zq rfl,h0]
         show (match KI t with | some z=>Lj z.1 o | none=>o)=_
         rw [g1]
        rw [this]
        exact .mk g2 r0
      | succ n =>
       obtain ⟨t',t2,v',F',g1,g2,g3,g4,g5⟩:=a3 n j hn
       have ne:i ≠ j:=fun e=>Hx.1 (e ▸ YS (show (Hi as)[n]?=some j from hn))
       rw [Yr ne] at g1
       exact ⟨t',t2,v',F',g1,g2,g3,g4,g5⟩
def E4 {H1:Hp}:∀ {as:List Ia} {vs:List V} {Fs:Xm},Kl M U J H1 as vs Fs->(∀ (n:Nat) (v:V),(dC (HC as) vs)[n]?=some v->∃ i:Nat,(Hi as)[n]?=some i/\J[i]?=some (some v))/\(dC (HC as) vs).length=(Hi as).length:=by
 intro as vs Fs r
 induction r with
 | nil=>exact ⟨fun n v h=>by simp [HC,dC] at h,rfl⟩
 | @io i un a as vs Fs h _ ih =>
  refine ⟨fun n v hn=>?_,by simpa [HC,dC,Hi] using ih.2⟩
  cases n with
  | zero=>cases (show some (V.ref a)=some v from hn);exact ⟨i,rfl,h⟩
  | succ n=>exact ih.1 n v hn
 | ex _ _ ih=>exact ih
end
section
variable {G:Gx} {X:Cx} {k:Nat} {f:Addr} {fd:FuncData} {ps:List Str} {x:Str} {p pos:Pos} {e:Expr} {es:List Expr} {as:List Ia} {i:Nat} {un:Bool} {g:Wa->Option (Wa×T)}
structure OG (M:GR) (U:VS.Env) (H:Hp) (M':GR) (U':VS.Env) (F:Xa):Prop where
 nd:F.Nodup
 ap:∀ j c,U'[j]?=some (some c)->∀ a∈F,a ∉ M' j
 of:∀ a∈F,H a=none\/bC M U a
def Pz (G:Gx) (x:Xx):TE:=fun J H Q=>∃ M U v U',SR G M U J H/\x U=some (v,U')/\∀ u H' M' F,SR G M' U' J H'->G0 M U H M' U' H'->Rp G H' u v.2 F->OG M U H M' U' F->Q u H'
def PXN (G:Gx) (X:Cx) (e:Expr) (x:Xx):Prop:=PE X e (Pz G x)
def PXN.px {x:Xx} (h:PXN G X e x):PX G X e x:=PE.weak h fun J H Q hq=>by
 obtain ⟨M,U,v,U',s,e,hi,k⟩:=hq
 exact ⟨M,U,v,U',s,e,fun u H' M' F s' f r _=>k u H' M' s' f (r.GO hi ▸ r)⟩
def OG.back {M M1 M':GR} {U U1 U':VS.Env} {H H1:Hp} {F:Xa} (f:G0 M U H M1 U1 H1) (n:OG M1 U1 H1 M' U' F):OG M U H M' U' F :=
 ⟨n.nd,n.ap,fun a ha=>(n.of a ha).elim (fun z=>.inl (f.none z)) fun z=>(f.ow a z).elim .inr .inl⟩
def nA {M:GR} {U U':VS.Env} {J:L2.St} {H H1:Hp} {v:Val} {ts:Wa} {vs:List V} {Fs:Xm} {Q:VK} {E:XK} (s:SR G M U J H) (e:fD (.io i un :: as) g U=some (v,U')) (e0:iI U (.io i un :: as)=some ts) (sm:aD H H1) (rp:RpL G H1 vs ts Fs) (ia:Kl M U J H (.io i un :: as) vs Fs)
  (kq:∀ u H' M' F,SR G M' U' J H'->G0 M U H M' U' H'->Rp G H' u v.2 F->OG M U H M' U' F->Q u H'):Mv G (HC as) g vs H1 Q E:=by
 unfold fD at e
 rw [e0,Zx] at e
 have e2:=e
 have e1:=e0
 split at e2
 ·rename_i hc
  obtain ⟨⟨os,y⟩,eg,e3⟩:=Zy.mp e2
  ·cases e3
   have ff:=yC s e1 ia
   have al:=E4 ia
   cases ia with
   | @io _ _ a _ us Fs hσ ia =>
    cases rp with
    | @cons _ t0 _ _ HF _ r0 rp =>
     have no:dU t0=true/\aZ HF=true:=by
      have:=hc.1
      rw [aZ,Ze] at this
      exact this
     refine ⟨a,us,t0,HF,M i,Fs,os,y,rfl,r0,rp,fun v hv=>ff.ref v (Zw _ hv),no.1,no.2,by simpa [HC] using ff.len,ff.nd hc.2,fun b hb Hb=>?_,eg,fun u H' Gs Fu ch ru VY fap VX=>?_⟩
     ·obtain ⟨j,hj,z⟩:=(ff.mv b).mp hb
      obtain ⟨JZ,Kv⟩:=jl.mp hj
      obtain ⟨t,_,g1,_⟩:=ff.ow j JZ Kv
      rcases ff.pu b Hb with q | ⟨j2,t2,q1,q2⟩
      ·exact GS.pe (s.Hj ⟨j,t,g1,z⟩) q
      ·refine s.sep j j2 t _ g1 q1 (fun e=>?_) b z q2
       rw [e,q1] at g1
       cases g1
     ·obtain ⟨p1,p2,p3⟩:=wA (Fs:=[]) (U:=U) ff.ow hc.2 al.1 ch.rp al.2
      have at_:∀ j,j∈Hi (.io i un :: as)->∃ n F,(Hi (.io i un :: as))[n]?=some j/\n=(Hi (.io i un :: as)).idxOf j/\Gs[n]?=some F:=fun j hj=>by
       have hn:=List.idxOf_lt_length_iff.mpr hj
       have:(Hi (.io i un :: as))[(Hi (.io i un :: as)).idxOf j]?=some j:=by
        rw [Zr hn,List.getElem_idxOf]
       obtain ⟨_,_,_,F,_,_,_,q,_⟩:=p3 _ j this
       exact ⟨_,F,this,rfl,q⟩
      have Φe:∀ j,j∈Hi (.io i un :: as)->(if j∈Hi (.io i un :: as) then Gs.getD ((Hi (.io i un :: as)).idxOf j) [] else M j)=Gs.getD ((Hi (.io i un :: as)).idxOf j) []:=fun j hj=>Zq hj
      obtain ⟨z1,z2⟩:=s.Qt (S:=fun j=>j∈Hi (.io i un :: as)) (H2:=H') (U':=iD (.io i un :: as) os U) (M':=fun j=>if j∈Hi (.io i un :: as) then Gs.getD ((Hi (.io i un :: as)).idxOf j) [] else M j) p1 (fun j hj=>⟨p2 j hj,Zo hj⟩) (fun j hj=>by
       obtain ⟨n,F,q1,q2,q3⟩:=at_ j hj
       obtain ⟨t,t',v,F',w1,w2,w3,w4,w5⟩:=p3 n j q1
       rw [q3] at w4
       cases w4
       have eF:(if j∈Hi (.io i un :: as) then Gs.getD ((Hi (.io i un :: as)).idxOf j) [] else M j)=F:=by rw [Φe j hj,← q2,Zs,q3];rfl
       refine ⟨t,t',v,w1,w2,w3,?_,?_⟩
       ·rw [eF];exact w5
       ·rw [eF];exact ch.nd.sublist (cq q3)) (fun j j' hj Kv n a ha GT=>by
       rw [Φe j hj] at ha
       rw [Φe j' Kv] at GT
       obtain ⟨n1,F,q1,q2,q3⟩:=at_ j hj
       obtain ⟨n2,F',ND,PL,Sl⟩:=at_ j' Kv
       rw [← q2,Zs,q3] at ha
       rw [← PL,Zs,Sl] at GT
       exact pK ch.nd q3 Sl (fun e=>n (by rw [e,ND] at q1;exact (Zn q1).symm)) ha GT) ((Kept.of sm).trans ch.kept) (fun b o hb ho=>ch.keep b o (fun z=>by
       obtain ⟨j,hj,z'⟩:=(ff.mv b).mp z
       exact hb j hj z') (sm b o ho)) (fun b h=>ch.GZ b fun z=>h (sm.free z)) (fun j hj a ha=>by
       rw [Φe j hj] at ha
       obtain ⟨n1,F,q1,q2,q3⟩:=at_ j hj
       rw [← q2,Zs,q3] at ha
       rcases ch.sub a ((cq q3).subset ha) with z | z
       ·exact .inl ((ff.mv a).mp z)
       ·exact .inr (sm.free z))
      have Oh:∀ a∈Fu,H a=none\/∃ j t,j∈Hi (.io i un :: as)/\U[j]?=some (some (.ow t))/\a∈M j:=fun a ha=>by
       rcases VX a ha with z | z
       ·exact .inl (sm.free z)
       ·obtain ⟨j,hj,z'⟩:=(ff.mv a).mp z
        obtain ⟨JZ,Kv⟩:=jl.mp hj
        obtain ⟨t,_,g1,_⟩:=ff.ow j JZ Kv
        exact .inr ⟨j,t,hj,g1,z'⟩
      refine kq u H' _ Fu z1 z2 ru ⟨VY,fun j c hc a ha GT=>?_,fun a ha=>(Oh a ha).imp id fun ⟨j,t,_,g1,g2⟩=>⟨j,t,g1,g2⟩⟩
      by_cases hj:j∈Hi (.io i un :: as)
      ·rw [Φe j hj] at GT
       obtain ⟨n1,F,q1,q2,q3⟩:=at_ j hj
       rw [← q2,Zs,q3] at GT
       exact fap a ha ((cq q3).subset GT)
      ·rw [Zo hj] at GT
       rw [p2 j hj] at hc
       rcases Oh a ha with z | ⟨j2,t,g0,g1,g2⟩
       ·obtain ⟨w,_,q⟩:=s.rp j c hc
        exact GS.pe (q.GZ a GT) z
       ·exact s.sep j2 j t c g1 hc (fun e=>hj (e ▸ g0)) a g2 GT
 ·cases e2
def yM (F:FnOk X.prog X.w X.K X.mg X.base Hq k f fd ps (Mv G (HC as) g)) (hr:GH k X.A) (hg:Gl X x) (hm:X.mg x=some (.ref f)) (hk:PySem.W.keepIn X.K (.ref f)=true) (hb:Binds X.K fd ps []) (ha:MZ G X (e :: es) (.io i un :: as))
  (Hz:K3 x) (he:K1 e es X) (hpl:K2 pos es X):PX G X (.Call (.Name x p) (e :: es) [] pos) (fD (.io i un :: as) g) :=
 PE.weak (pP (E:=E0) F hr hg hm hk hb .nil jA ha Hz he hpl) fun J H Q h=>by
  obtain ⟨M,U,v,U',s,e,Kw,kq⟩:=h
  have e':=e
  unfold fD at e'
  obtain ⟨ts,e1,_⟩:=Zz.mp e'
  refine ⟨M,U,ts,s,e1,fun vs H1 Fs sm rp ia=>?_⟩
  show Mv G (HC as) g (vs++[]) H1 Q _
  rw [ZS]
  exact nA s e e1 sm rp ia fun u H' M' F s' f r _=>kq u H' M' s' f (r.GO Kw ▸ r)
end
def Nl (c:Ex):Ex:=fun U=>(c U).bind fun v=>(KI v.2).map fun z=>(v.1,z.2)
abbrev Xt:=VS.Env->Option (Bool×VS.Env)
def Sa (G:Gx) (x:Xt):TT:=fun J H Q=>∃ M U b U',SR G M U J H/\x U=some (b,U')/\∀ H' M',SR G M' U' J H'->G0 M U H M' U' H'->Q b H'
def Nn (G:Gx) (X:Cx) (e:Expr) (x:Xt):Prop:=PT X e (Sa G x)
def OF (G:Gx) (X:Cx) (e:Expr) (x:Xt):Prop:=PW X e (Sa G x)
def Lx (x:Xx):Xt:=fun U=>(x U).bind fun z=>match z.1.2 with
 | .bl b=>some (b,z.2)
 | _=>none
def sP (x:Xt) (a b:Sx):Sx:=fun U=>(x U).bind fun z=>if z.1 then a z.2 else b z.2
section
variable {G:Gx} {X:Cx} {e a b:Expr} {rest:List Expr} {c cb:Ex} {x:Xx} {xt:Xt} {pos pos':Pos} {c1 c2:Sx}
def Ee (h:PV G X e c):PV G X e (Nl c):=PE.weak h fun J H Q hq=>by
 obtain ⟨M,U,m,t,s,e,k⟩:=hq
 obtain ⟨⟨mx,y⟩,e1,e2⟩:=Zz.mp e
 obtain ⟨⟨n,u⟩,e3,e4⟩:=Zy.mp e2
 cases e4
 refine ⟨M,U,mx,y,s,e1,fun v H' F sm r f=>k v H' F sm ?_ f⟩
 have r':Rp G H' v y F:=r
 rw [kj (show KI y=some (n,u) from e3)] at r'
 obtain ⟨a,rfl,_,q⟩:=kW r'
 exact q
def OF.Uy (h:OF G X e xt):Nn G X e xt:=PW.pt h
def yK {as bs:List Stmt} (hc:Nn G X e xt) (ha:gz G X as c1) (hb:gz G X bs c2):PSV G X (.If e as bs pos) (sP xt c1 c2):=PS.weak (BZ hc ha hb) fun D J H hq=>by
 obtain ⟨M,U,o,s,e,k⟩:=hq
 obtain ⟨⟨b0,U1⟩,e1,e2⟩:=Zz.mp e
 refine ⟨M,U,b0,U1,s,e1,fun H1 M1 s1 f1=>?_⟩
 cases b0 with
 | true=>exact vR ⟨M1,U1,o,s1,e2,k.back f1⟩
 | false=>exact wJ ⟨M1,U1,o,s1,e2,k.back f1⟩
end
structure IoAt (P:Program) (w:World) (K:Xj) (mg:Xe) (base:Heap) (k:Nat) (x:Str) (ps:List Str) (G:Gx) (mv:List Bool) (g:Wa->Option (Wa×T)):Prop where
 ex:∃ f fd,FnOk P w K mg base Hq k f fd ps (Mv G mv g)/\mg x=some (.ref f)/\PySem.W.keepIn K (.ref f)=true/\Binds K fd ps []
section
variable {P:Program} {w:World} {K:Xj} {mg:Xe} {base:Heap} {k:Nat} {G:Gx} {x:Str} {ps:List Str} {mv:List Bool}
def mW {st:Stmt} {f:Addr} {fd:FuncData} {N:List Str} {np nn:Nat} {body:Sx} (F:GX K x x st f fd) (hm:mg x=some (.ref f)) (S:jj N ps (ag st)) (hp:ps.length=np) (hn:N.length=nn)
  (K6:∀ (kV doc pm:Value) (an:Option Addr) (GP ct:Value) (us:X8),us.length=ps.length->bindArgs (PySem.W.fnOf x x (cG st) (aR st) (ag st) .none kV doc pm an GP ct) ⟨us,[]⟩=pure (ps.zip us))
  (hb:∀ (m:Me) (GP:Value) (A:Around) (outer:List PySem.Env) (s:Shared) (H:Hp) (E:XK),GH k (A.deeper (envOfC x (ag st) s.heap.objs.size f GP))->gz (G.at m) (iK Hq P w K mg base N x (ag st) f GP A outer s H E).Jr (aR st) body) :
  IoAt P w K mg base (k+1) x ps G mv (Ks np nn mv body):=⟨f,fd,VZ F S hp hn hb,hm,F.kp,F.binds K6⟩
end
section
variable {G:Gx} {X:Cx} {e a b:Expr} {es rest:List Expr} {as:List Ia} {c cb:Ex} {xc:Xx} {xt:Xt} {p pos pos':Pos} {c1 c2:Sx} {i k k':Nat} {un:Bool} {x:Str} {ps:List Str} {g:Wa->Option (Wa×T)} {way:List Jh}
def AG (F:IoAt X.prog X.w X.K X.mg X.base k x ps G (HC as) g) (hr:GH k' X.A) (ha:MZ G X (e :: es) (.io i un :: as)) (hk:k<=k') (hg:Gl X x) (Hz:K3 x) (he:K1 e es X) (hpl:K2 pos es X) :
  PX G X (.Call (.Name x p) (e :: es) [] pos) (fD (.io i un :: as) g):=by
 obtain ⟨f,fd,h1,h2,h3,h4⟩:=F.ex
 exact yM h1 (hr.mono hk) hg h2 h3 h4 ha Hz he hpl
end
end VS
end
section
namespace VS
open PySem PySem.Spec PyProof.Rows L2
section
variable {G:Gx} {X:Cx} {e b:Expr} {ck ce:Ex} {pos pos' p1:Pos} {kr:Nat}
def mK {a b c:Expr} {ca cb cc:Ex} (ha:PV G X a ca) (hb:PV G X b cb) (hc:PV G X c cc) (hm:lastMarks [.Lt,.Lt] [b,c]=false):Iq G X (.Compare a [.Lt,.Lt] [b,c] pos) (dW oLt oLt ca cb cc) :=
 PT.weak (sL qd qd ha hb hc hm) fun J H Q h=>ng h (fun U m r e=>by
  unfold dW at e
  obtain ⟨x,ea,e⟩:=Zz.mp e
  obtain ⟨y,eb,e⟩:=Zz.mp e
  obtain ⟨⟨mz,z⟩,ez,e⟩:=Zz.mp e
  cases z with
  | bl q =>
   cases q with
   | false=>cases e;exact ⟨_,rfl⟩
   | true =>
    obtain ⟨z2,ec,e⟩:=Zz.mp (show (cc U).bind (fun z=>oLt y z)=some (m,r) from e)
    exact kc y z2 m r e
  | _=>cases e) fun Q h=>nY uz uz h
end
def xI (c:Ex):Xx:=fun U=>(c U).bind fun v=>if GO v.2=true then some ((.fr,v.2),U) else none
def x2 (f:Val->Val->Wb) (a b:Xx):Xx:=fun U=>(a U).bind fun z=>(b z.2).bind fun w=>(f (.fr,z.1.2) (.fr,w.1.2)).bind fun v=>if GO z.1.2=true/\GO w.1.2=true/\GO v.2=true then some ((.fr,v.2),w.2) else none
def jd (c:Ex) (x:Xt):Xt:=fun U=>(c U).bind fun v=>(Lg v.2).bind fun b=>if b then x U else some (false,U)
def lR (c:Ex) (b:Xx):Xx:=fun U=>(c U).bind fun x=>match x with
 | (.fr,.lst ts)=>(b U).bind fun z=>match z.1.2 with
  | .int i=>(HH ts.length i).bind fun j=>(ts[j]?).bind fun t=>if eO ts=true/\GO t=true then some ((.fr,t),z.2) else none
  | _=>none
 | _=>none
def o6 (n:Nat) (b:Xx):Xx:=fun U=>match (U[n]?:Option (We)) with
 | some (some _)=>(b U).bind fun z=>match z.1.2,(z.2[n]?:Option (We)) with
  | .int i,some (some c)=>(match i5 c with
   | .lst ts=>(HH ts.length i).bind fun j=>(ts[j]?).bind fun t=>if GO t=true then some ((.fr,t),z.2) else none
   | _=>none)
  | _,_=>none
 | _=>none
section
variable {G:Gx} {X:Cx} {e a b:Expr} {rest:List Expr} {ca cb:Ex} {xa xb:Xx} {xt:Xt} {pos:Pos} {f:Val->Val->Wb} {r:R2}
def ax (h:PV G X e ca):PX G X e (xI ca):=PE.weak h fun J H Q hq=>by
 obtain ⟨M,U,v,U',s,e,hi,k⟩:=hq
 obtain ⟨⟨m,t⟩,e1,e2⟩:=Zz.mp e
 split at e2
 ·rename_i Kw
  cases e2
  refine ⟨M,U,m,t,s,e1,fun u H' F sm r f=>k u H' M (s.same sm) (G0.same sm) ?_⟩
  have:=r.GO Kw
  subst this
  exact r
 ·cases e2
def zE (ok:eJ G r f) {J:L2.St} {H:Hp} {Q:VK} (h:tX G (x2 f xa xb) J H Q):M7 r (tX G xa) (tX G xb) J H Q:=by
 obtain ⟨M,U,v,U',s,e,hi,k⟩:=h
 obtain ⟨z,ea,e1⟩:=Zz.mp e
 obtain ⟨w,eb,e2⟩:=Zz.mp e1
 obtain ⟨⟨m,t⟩,ef,e3⟩:=Zz.mp e2
 split at e3
 ·rename_i hc
  cases e3
  refine ⟨M,U,z.1,z.2,s,ea,hc.1,fun u1 H1 M1 s1 f1 r1=>⟨M1,z.2,w.1,w.2,s1,eb,hc.2.1,fun u2 H2 M2 s2 f2 r2=>?_⟩⟩
  refine ok M2 w.2 H2 H2 (.fr,z.1.2) (.fr,w.1.2) u1 u2 [] [] m t Q ⟨aD.refl _,r1.keep f2.kept (fun a h=>nomatch h),r2,Fp.nil,Fp.nil,fun _ _=>Z9⟩ ef fun v' H' F sm r' f'=>k v' H' M2 (s2.same sm) ((f1.trans f2).trans (G0.same sm)) ?_
  have:=r'.GO hc.2.2
  subst this
  exact r'
 ·cases e3
def B4 {op:Operator} (ho:OpR X (binaryOp op) r) (ok:eJ G r f) (ha:PX G X a xa) (hb:PX G X b xb):PX G X (.BinOp a op b pos) (x2 f xa xb):=PE.weak (Cj ho ha hb) fun J H Q h=>zE ok h
def vB {op:CmpOp} (ho:OpR X (compareOp op) r) (ok:eJ G r f) (ha:PX G X a xa) (hb:PX G X b xb) (hm:behindInMarks op b=false):Nn G X (.Compare a [op] [b] pos) (Lx (x2 f xa xb)):=PT.weak (ux ho ha hb hm) fun J H Q h=>by
 obtain ⟨M,U,b,U',s,e,k⟩:=h
 obtain ⟨⟨⟨m,t⟩,U1⟩,e1,e2⟩:=Zz.mp e
 dsimp only at e2
 split at e2
 ·cases e2
  exact zE (Q:=fun x H'=>∃ k,x=.bl k/\Q k H') ok ⟨M,U,_,_,s,e1,rfl,fun u H' M' s' f r=>⟨b,r.HG,k H' M' s' f⟩⟩
 ·cases e2
def BN (ha:PX G X a xa) (hb:PX G X b xb) (hs:gI b) (hK:X.K=G.K):PX G X (.Subscript a b pos) (x2 ay xa xb):=PE.weak (mP jY ha hb hs) fun J H Q h=>by
 rw [hK]
 exact zE uh h
def yr (h:Nn G X e xt):OF G X (.BoolOp .And [e] pos) xt:=ky h
def zP (ha:Iq G X a ca) (hb:OF G X (.BoolOp .And (b :: rest) pos) xt):OF G X (.BoolOp .And (a :: b :: rest) pos) (jd ca xt):=PW.weak (zF ha hb) fun J H Q hq=>by
 obtain ⟨M,U,r,U',s,e,k⟩:=hq
 obtain ⟨⟨m,t⟩,e1,e2⟩:=Zz.mp e
 obtain ⟨b0,e3,e4⟩:=Zz.mp e2
 refine ⟨M,U,m,t,b0,s,e1,e3,fun H1 sm=>?_⟩
 cases b0 with
 | true=>exact vR ⟨M,U,r,U',s.same sm,e4,fun H' M' s' f=>k H' M' s' ((G0.same sm).trans f)⟩
 | false =>
  cases e4
  exact wJ (k H1 M (s.same sm) (G0.same sm))
def p8 (ha:PV G X a ca) (hb:PX G X b xb) (hs:gI b:=by exact fun _ _=>rfl) (hK:X.K=G.K:=by exact rfl):PX G X (.Subscript a b pos) (lR ca xb):=PE.weak (mP jY ha hb hs) fun J H Q hq=>by
 obtain ⟨M,U,v,U',s,e,hi,k⟩:=hq
 obtain ⟨x,ea,e1⟩:=Zz.mp e
 split at e1
 ·rename_i ts
  obtain ⟨z,eb,e2⟩:=Zz.mp e1
  split at e2
  ·rename_i i0 hz
   obtain ⟨j,ej,e3⟩:=Zz.mp e2
   obtain ⟨t,et,e4⟩:=Zz.mp e3
   split at e4
   ·rename_i hc
    cases e4
    refine ⟨M,U,.fr,.lst ts,s,ea,fun u H1 F1 sm r1 f1=>⟨M,U,z.1,z.2,s.same sm,eb,by rw [hz];rfl,fun w H2 M2 s2 f2 r2=>?_⟩⟩
    obtain ⟨a,vs,Fs,rfl,rfl,LM,ra⟩:=r1.lst_inv
    have hn:¬ bC M U a:=fun z=>GS.pe (s.Hj z) (f1.2 a Zu)
    have Kj:=(f2.keep a _ LM hn).1
    obtain ⟨x,Fx,u1,u2,u3⟩:=ra.get j et
    have hx:=u3.GO hc.2
    subst hx
    rw [hz] at r2
    refine .inl ⟨a,vs,i0,x,rfl,r2.int_inv,by rw [hK];exact G2.of Kj,jO (by rw [ra.len.1];exact ej) u1,?_⟩
    exact k x H2 M2 s2 ((G0.same sm).trans f2) (u3.keep f2.kept (fun a h=>nomatch h))
   ·cases e4
  ·cases e2
 ·cases e1
end
section
variable {G:Gx} {M M5:GR} {U U5:VS.Env} {J:L2.St} {H H5:Hp}
def NF (M:GR):GR:=fun i=>match i with
 | 0=>[]
 | i+1=>M i
def wY {t:T} {a:Addr}:bC (NF M) (some (.pu t) :: U) a ↔ bC M U a:=by
 constructor
 ·rintro ⟨j,u,h1,h2⟩
  cases j with
  | zero=>cases (show some (some (Cell.pu t))=some (some (Cell.ow u)) from h1)
  | succ j=>exact ⟨j,u,h1,h2⟩
 ·rintro ⟨j,u,h1,h2⟩
  exact ⟨j+1,u,h1,h2⟩
def Fq {t:T} {a:Addr} (h:cM (NF M) (some (.pu t) :: U) a):cM M U a:=by
 obtain ⟨j,u,h1,h2⟩:=h
 cases j with
 | zero=>exact nomatch h2
 | succ j=>exact ⟨j,u,h1,h2⟩
def SR.ps {v:V} {t:T} (s:SR G M U J H) (r:Rp G H v t []):SR G (NF M) (some (.pu t) :: U) (some v :: J) H:=by
 refine ⟨by rw [Zm,Zm,s.len],fun i c h=>?_,fun i u h=>?_,fun i j u c h1 h2 n=>?_⟩
 ·cases i with
  | zero=>cases (show some (some (Cell.pu t))=some (some c) from h);exact ⟨v,rfl,r⟩
  | succ i=>exact s.rp i c h
 ·cases i with
  | zero=>cases (show some (some (Cell.pu t))=some (some (Cell.ow u)) from h)
  | succ i=>exact s.nd i u h
 ·cases i with
  | zero=>cases (show some (some (Cell.pu t))=some (some (Cell.ow u)) from h1)
  | succ i =>
   cases j with
   | zero=>exact fun a _ h=>nomatch h
   | succ j=>exact s.sep i j u c h1 h2 (fun e=>n (by rw [e]))
def SR.pop {c:We} {v:Option V} (s:SR G M5 (c :: U5) (v :: J) H):SR G (fun i=>M5 (i+1)) U5 J H :=
 ⟨by have:=s.len;simpa using this,fun i c h=>s.rp (i+1) c h,fun i u h=>s.nd (i+1) u h,fun i j u c h1 h2 n=>s.sep (i+1) (j+1) u c h1 h2 (fun e=>n (by omega))⟩
def G0.pop {t:T} {c:We} (f:G0 (NF M) (some (.pu t) :: U) H M5 (c :: U5) H5):G0 M U H (fun i=>M5 (i+1)) U5 H5:=by
 have ow:∀ a,bC (fun i=>M5 (i+1)) U5 a->bC M5 (c :: U5) a:=fun a ⟨j,u,h1,h2⟩=>⟨j+1,u,h1,h2⟩
 refine ⟨fun a o h n=>?_,f.GZ,fun a h=>?_,fun a h=>?_,f.kept⟩
 ·obtain ⟨h1,h2⟩:=f.keep a o h fun z=>n (wY.mp z)
  exact ⟨h1,fun z=>h2 (ow a z)⟩
 ·exact (f.ow a (ow a h)).imp wY.mp id
 ·obtain ⟨j,u,h1,h2⟩:=h
  rcases f.pu a ⟨j+1,u,h1,h2⟩ with z | z | z
  ·exact .inl (Fq z)
  ·exact .inr (.inl (wY.mp z))
  ·exact .inr (.inr z)
end
def gC (x:Xx):Wg->VS.Env->Option (Wa×VS.Env)
 | [],U=>some ([],U)
 | i :: r,U=>(x (some (.pu (.int i)) :: U)).bind fun z=>match z.2 with
  | _ :: U'=>if GO z.1.2=true then (gC x r U').map fun w=>(z.1.2 :: w.1,w.2) else none
  | []=>none
def Lk (i n:Nat):Wg:=(List.range' i n).map fun (k:Nat)=>(k:Int)
def j8 (xa x:Xx) (U:VS.Env):Option (Wa×VS.Env):=(xa U).bind fun z=>match z.1.2 with
 | .int j=>if 0<=j/\j < 1000000 then gC x (Lk 0 j.toNat) z.2 else none
 | _=>none
def OQ (G:Gx) (y:VS.Env->Option (Wa×VS.Env)):TE:=fun J H Q=>∃ M U ts U',SR G M U J H/\y U=some (ts,U')/\∀ D vs H' M',SR G M' U' J H'->G0 M U H M' U' H'->H' D=some (.lst vs)->RpL G H' vs ts (List.replicate ts.length [])->H D=none->¬ bC M' U' D->¬ cM M' U' D->Q (.ref D) H'
theorem mD {α:Type}:∀ n:Nat,(List.replicate n ([]:List α)).flatten=[]
 | 0=>rfl
 | n+1=>by rw [YA,ZX,mD n];rfl
section
variable {G:Gx} {X:Cx} {elt a:Expr} {sc:Scope} {pos p p2 p3:Pos} {N:List Str} {nm:Str} {xa x:Xx} {g:TG}
def qM {J:L2.St} {H:Hp} {Q:VK} (hg:∀ v J H (R:L2.St->Hp->Prop),R (J.set 0 (some v)) H->g v J H R) (h:OQ G (j8 xa x) J H Q):rB 1 (Ce (BX (tX G xa) tW)) g (fun J H Q=>Q true H) (tX G x) J H Q:=by
 obtain ⟨M,U,ts,U',s,e,kq⟩:=h
 obtain ⟨z,ea,e1⟩:=Zz.mp e
 split at e1
 ·rename_i j hj
  split at e1
  ·rename_i hb
   obtain ⟨n,hn⟩:∃ n:Nat,n=j.toNat:=⟨_,rfl⟩
   rw [← hn] at e1
   refine ⟨M,U,z.1,z.2,s,ea,by rw [hj];rfl,fun u H1 M1 s1 f1 r1=>⟨j,by rw [hj] at r1;rw [r1.int_inv],by omega,by omega,fun D hD=>?_⟩⟩
   have Kx:H D=none:=f1.none hD
   rw [← hn]
   refine ⟨fun i m J' H'=>m=n - i/\i<=n/\∃ M2 U2 vs xs rest c0,J'=c0 :: J/\SR G M2 U2 J H'/\G0 M1 z.2 H1 M2 U2 H'/\H' D=some (.lst xs)/\¬ bC M2 U2 D/\¬ cM M2 U2 D/\RpL G H' xs vs (List.replicate vs.length [])/\gC x (Lk i (n - i)) U2=some (rest,U')/\vs++rest=ts,⟨n,by omega,Yt _,M1,z.2,[],[],ts,none,rfl,?_,G0.same (cQ hD),av,?_,?_,.nil,e1,rfl⟩,?_⟩
   ·exact s1.off (.inr hD) (fun q=>GS.pe (s1.IU q) hD) fun q=>GS.pe (s1.Hj q) hD
   ·exact fun q=>GS.pe (s1.Hj q) hD
   ·exact fun q=>GS.pe (s1.IU q) hD
   ·rintro i m J' H' ⟨rfl,IH,M2,U2,vs,xs,rest,c0,rfl,s2,f2,Rr,P7,Ss,rp,er,ev⟩
    by_cases Ig:i < n
    ·right
     refine ⟨Ig,fun y H2 yl=>hg _ _ _ _ ?_⟩
     obtain ⟨rfl,rfl⟩:=yl
     rw [show n - i=(n - (i+1))+1 by omega] at er
     unfold Lk at er
     rw [Wm,Zl,gC] at er
     obtain ⟨w,ex,Oj⟩:=Zz.mp er
     split at Oj
     ·rename_i c3 U3 hw
      split at Oj
      ·rename_i Kw
       obtain ⟨q,eq,e3⟩:=Zy.mp Oj
       cases e3
       show (if true=true then _ else _)
       rw [Zq rfl]
       have s3:=s2.ps (v:=.int ((0:Int)+(i:Int))) (t:=.int (i:Int)) (by rw [Int.zero_add];exact .int _)
       refine ⟨NF M2,some (.pu (.int (i:Int))) :: U2,w.1,w.2,s3,ex,Kw,fun u5 H5 M5 s5 f5 r5=>?_⟩
       rw [hw] at s5 f5
       have s6:=s5.pop
       have f6:=f5.pop
       obtain ⟨Od,Sv⟩:=f6.keep D _ Rr P7
       have Sr:¬ cM (fun i=>M5 (i+1)) U3 D:=fun q=>by
        rcases f6.pu D q with q | q | q
        ·exact Ss q
        ·exact P7 q
        ·rw [Rr] at q;cases q
       have LI:GS (H5 D):=by rw [Od];exact True.intro
       have lx:xs.length=vs.length:=rp.len.1
       refine ⟨xs,Od,?_,n - (i+1),by omega,rfl,Ig,fun i=>M5 (i+1),U3,vs++[w.1.2],xs++[u5],q.1,_,rfl,s6.off (.inl LI) Sr Sv,?_,av,Sv,Sr,?_,eq,?_⟩
       ·have:vs.length<=n:=by
         have hc:∀ (l:Wg) (U:VS.Env) (r:Wa) (U':VS.Env),gC x l U=some (r,U')->r.length=l.length:=by
          intro l
          induction l with
          | nil=>intro U r U' h;cases h;rfl
          | cons a l ih =>
           intro U r U' h
           rw [gC] at h
           obtain ⟨w',_,h2⟩:=Zz.mp h
           split at h2
           ·split at h2
            ·obtain ⟨q',h3,h4⟩:=Zy.mp h2
             cases h4
             rw [Zm,Zm,ih _ _ _ h3]
            ·cases h2
           ·cases h2
         have h1:=hc _ _ _ _ e1
         have h2:=hc _ _ _ _ eq
         unfold Lk at h1
         rw [Zt,Xh] at h1
         rw [← ev,Zv] at h1
         omega
        have hs:(sizeLine:Nat)=16777216:=rfl
        omega
       ·have ff:=f2.trans f6
        refine ⟨fun a o h1 h2=>?_,fun a h1 h2=>?_,ff.ow,ff.pu,ff.kept.trans (Kept.upd (.inl LI))⟩
        ·obtain ⟨q1,q2⟩:=ff.keep a o h1 h2
         exact ⟨by rw [aA (fun z=>by rw [z,hD] at h1;cases h1)];exact q1,q2⟩
        ·by_cases q:a=D
         ·rw [q,av] at h2;cases h2
         ·rw [aA q] at h2
          exact ff.GZ a h1 h2
       ·have r1:RpL G (upd H5 D (.lst (xs++[u5]))) xs vs (List.replicate vs.length []):=(rp.keep f6.kept (by rw [mD];exact fun a h=>nomatch h)).keep (Kept.upd (.inl LI)) (by rw [mD];exact fun a h=>nomatch h)
        have r2:Rp G (upd H5 D (.lst (xs++[u5]))) u5 w.1.2 []:=r5.keep (Kept.upd (.inl LI)) (fun a h=>nomatch h)
        have:=r1.append (.cons r2 .nil)
        rw [Zv,ZK,List.replicate_succ']
        exact this
       ·rw [ZF]
        exact ev
      ·cases Oj
     ·cases Oj
    ·left
     have Vg:n - i=0:=by omega
     rw [Vg] at er
     cases (show some (([]:Wa),U2)=some (rest,U') from er)
     rw [ZS] at ev
     subst ev
     refine ⟨by show n<=i;omega,kq D xs H' M2 s2 (f1.trans f2) Rr rp Kx P7 Ss⟩
  ·cases e1
 ·cases e1
end
def uU (sep:Tx) (y:VS.Env->Option (Wa×VS.Env)):Xx:=fun U=>(y U).bind fun z=>(iY (.fr,.str sep) [(.fr,.lst z.1)]).map fun v=>((.fr,v.2),z.2)
section
variable {G:Gx} {X:Cx} {e a:Expr} {y:VS.Env->Option (Wa×VS.Env)} {sep:Tx} {elt:Expr} {sc:Scope} {pos p p2 p3:Pos} {N:List Str} {nm:Str} {xa x:Xx}
def Bw {apos oe:Pos} (ho:PV G X a (eC (.str sep))) (hc:PE X e (OQ G y)) (hK:X.K=G.K)
  (G1:attributeBase a "join" X.env (eval a X.env)=eval a X.env)
  (Hf:((backTo oe (starEach [e] X.env)).all (fun x=>!x.1) && (backToKw oe (keywordEach [] X.env)).all (fun x=>x.1.isSome)
   && decide ([e].length+([]:List Keyword).length+(if ([]:List Keyword).isEmpty then 0 else 1) < 30))=true)
  (GV:(apos.endLine == oe.line)=true) (hs:K1 e [] X) (GU:(backTo oe (starEach [] X.env)).any (·.1)=false) :
  PX G X (.Call (.Attribute a "join" apos) [e] [] oe) (uU sep y) :=
 PE.weak (sy XW PySem.F.slot_str_join PySem.F.type_str_join u7 ho (bZ hc fE hs) G1 Hf GV hs GU) fun J H Q h=>by
  obtain ⟨M,U,v,U',s,e,hi,k⟩:=h
  obtain ⟨z,ey,e1⟩:=Zz.mp e
  obtain ⟨v0,e2,e3⟩:=Zy.mp e1
  cases e3
  unfold iY at e2
  obtain ⟨ss,LO,e4⟩:=Zz.mp e2
  split at e4
  ·rename_i hl
   cases e4
   refine ⟨M,U,.fr,.str sep,s,rfl,fun u H1 F1 sm r1 f1=>⟨by rw [hK];exact oa r1 ⟨_,rfl⟩,M,U,z.1,z.2,s.same sm,ey,fun D vs H2 M2 s2 f2 hD rp Kx no np=>?_⟩⟩
   rw [pX rp LO] at hD
   refine ⟨sep,D,ss,r1.str_inv.1,rfl,by rw [hK];exact G2.of hD,hl,k _ H2 M2 s2 ((G0.same sm).trans f2) (.str _ ⟨ZG (jZ sep ss) hl,fun c hc=>(jV sep ss c hc).elim (r1.str_inv.2.2 c) fun ⟨s',HJ,HX⟩=>jK rp LO s' HJ c HX⟩)⟩
  ·cases e4
end
inductive Ix where | io (i:Nat) (un:Bool) | px (x:Xx)
def ju:List Ix->VS.Env->Option (List Ia×VS.Env)
 | [],U=>some ([],U)
 | .io i un :: r,U=>match (U[i]?:Option (We)) with
  | some (some _)=>(ju r U).map fun w=>(.io i un :: w.1,w.2)
  | _=>none
 | .px x :: r,U=>(x U).bind fun z=>if GO z.1.2=true then (ju r z.2).map fun w=>(.ex (eC z.1.2) :: w.1,w.2) else none
def KW:List Ix->List Bool
 | []=>[]
 | .io _ _ :: r=>true :: KW r
 | .px _ :: r=>false :: KW r
def aO (as:List Ix) (g:Wa->Option (Wa×T)):Xx:=fun U=>(ju as U).bind fun w=>fD w.1 g w.2
inductive Ir (G:Gx) (J:L2.St) (H:Hp):List Ia->List V->Prop
 | nil:Ir G J H [] []
 | io {i:Nat} {un:Bool} {v:V} {as:List Ia} {vs:List V}:J[i]?=some (some v)->Ir G J H as vs->Ir G J H (.io i un :: as) (v :: vs)
 | ex {t:T} {v:V} {as:List Ia} {vs:List V}:GO t=true->Rp G H v t []->Ir G J H as vs->Ir G J H (.ex (eC t) :: as) (v :: vs)
def Ul (G:Gx) (as:List Ix):TA:=fun J H Q=>∃ M U ias U',SR G M U J H/\ju as U=some (ias,U')/\∀ vs H' M',SR G M' U' J H'->G0 M U H M' U' H'->Ir G J H' ias vs->Q vs H'
def Mm (G:Gx) (X:Cx) (es:List Expr) (as:List Ix):Prop:=PA X es (Ul G as)
section
variable {G:Gx} {X:Cx} {e:Expr} {es:List Expr} {as:List Ix} {x:Xx} {pos p:Pos} {i:Nat} {un:Bool} {g:Wa->Option (Wa×T)} {mv:List Bool}
theorem tZ:∀ {as:List Ix} {U U':VS.Env} {ias:List Ia},ju as U=some (ias,U')->HC ias=KW as
 | [],_,_,_,h=>by cases h;rfl
 | .io i un :: as,U,U',ias,h=>by
  unfold ju at h
  split at h
  ·obtain ⟨w,h1,h2⟩:=Zy.mp h
   cases h2
   show true :: HC w.1=true :: KW as
   rw [tZ (ias:=w.1) (U':=w.2) h1]
  ·cases h
 | .px x :: as,U,U',ias,h=>by
  unfold ju at h
  obtain ⟨z,_,h0⟩:=Zz.mp h
  split at h0
  ·obtain ⟨w,h1,h2⟩:=Zy.mp h0
   cases h2
   show false :: HC w.1=false :: KW as
   rw [tZ (ias:=w.1) (U':=w.2) h1]
  ·cases h0
theorem Ir.keep {J:L2.St} {H H':Hp} (k:Kept H H') {as:List Ia} {vs:List V} (h:Ir G J H as vs):Ir G J H' as vs:=by
 induction h with
 | nil=>exact .nil
 | io h _ ih=>exact .io h ih
 | ex hi r _ ih=>exact .ex hi (r.keep k (fun a h=>nomatch h)) ih
def Eg {M:GR} {U:VS.Env} {J:L2.St} {H:Hp} (s:SR G M U J H) {as:List Ia} {vs:List V} (h:Ir G J H as vs):∀ {ts:Wa},iI U as=some ts->∃ Fs,RpL G H vs ts Fs/\Kl M U J H as vs Fs:=by
 induction h with
 | nil=>intro ts e;cases e;exact ⟨[],.nil,.nil⟩
 | @io i un v as vs hv _ ih =>
  intro ts e
  obtain ⟨t,e1,e2⟩:=Zz.mp (show (LJ un U[i]?).bind (fun t=>(iI U as).map (t :: ·))=some ts from e)
  obtain ⟨HF,e3,rfl⟩:=Zy.mp e2
  obtain ⟨Fs,r,q⟩:=ih e3
  unfold LJ at e1
  split at e1
  ·rename_i t0 h0
   obtain ⟨v0,h1,h2⟩:=s.rp _ _ h0
   rw [hv] at h1
   cases h1
   have Iu:Rp G H v t0 (M i):=h2
   have key:∃ a,v=.ref a/\Rp G H (.ref a) t (M i):=by
    split at e1
    ·obtain ⟨⟨m,u⟩,g1,g2⟩:=Zy.mp e1
     cases g2
     rw [kj g1] at Iu
     obtain ⟨a,q1,_,q2⟩:=kW Iu
     exact ⟨a,q1,q2⟩
    ·split at e1
     ·rename_i hm
      cases e1
      obtain ⟨a,rfl⟩:=yD Iu hm
      exact ⟨a,rfl,Iu⟩
     ·cases e1
   obtain ⟨a,rfl,r0⟩:=key
   exact ⟨M i :: Fs,.cons r0 r,.io hv q⟩
  ·cases e1
 | @ex t v as vs hi rv _ ih =>
  intro ts e
  obtain ⟨v0,e1,e2⟩:=Zz.mp (show (eC t U).bind (fun v=>(MQ v).bind fun t=>(iI U as).map (t :: ·))=some ts from e)
  have ev:v0.2=t:=by
   unfold eC at e1
   cases e1
   rfl
  obtain ⟨t',e3,e4⟩:=Zz.mp e2
  obtain ⟨HF,e5,rfl⟩:=Zy.mp e4
  have et:t'=t:=by
   unfold MQ at e3
   split at e3
   ·split at e3
    ·cases e3;exact ev
    ·cases e3
   ·cases e3;exact ev
  subst et
  obtain ⟨Fs,r,q⟩:=ih e5
  exact ⟨[] :: Fs,.cons rv r,.ex (fun a h=>nomatch h) q⟩
def bg:Mm G X [] []:=PA.weak fE fun J H Q hq=>by
 obtain ⟨M,U,ias,U',s,e,k⟩:=hq
 cases e
 exact k [] H M s (G0.refl _ _ _) .nil
def bU (i:Nat) (un:Bool) {n:Str} (hN:X.N[i]?=some n) (hv:IB X.env.scope n) (hd:K3 n) (hcd:K4 n) (hr:Mm G X es as)
  (hs:starEach (.Name n pos :: es) X.env=(false,eval (.Name n pos) X.env) :: starEach es X.env:=by exact rfl):Mm G X (.Name n pos :: es) (.io i un :: as) :=
 PA.weak (bZ (fK hN hv hd hcd) hr hs) fun J H Q hq=>by
  obtain ⟨M,U,ias,U',s,e,k⟩:=hq
  unfold ju at e
  split at e
  ·rename_i c hc
   obtain ⟨w,e1,e2⟩:=Zy.mp e
   cases e2
   obtain ⟨v,h1,_⟩:=s.rp _ _ hc
   exact ⟨v,h1,M,U,w.1,w.2,s,e1,fun vs H' M' s' f ix=>k _ H' M' s' f (.io h1 ix)⟩
  ·cases e
def bE (h:PX G X e x) (hr:Mm G X es as) (hs:K1 e es X:=by exact rfl):Mm G X (e :: es) (.px x :: as) :=
 PA.weak (bZ h hr hs) fun J H Q hq=>by
  obtain ⟨M,U,ias,U',s,e,k⟩:=hq
  unfold ju at e
  obtain ⟨z,e1,e2⟩:=Zz.mp e
  split at e2
  ·rename_i Kw
   obtain ⟨w,e3,e4⟩:=Zy.mp e2
   cases e4
   exact ⟨M,U,z.1,z.2,s,e1,Kw,fun u H1 M1 s1 f1 r1=>⟨M1,z.2,w.1,w.2,s1,e3,fun vs H' M' s' f' ix=>k _ H' M' s' (f1.trans f') (.ex Kw (r1.keep f'.kept (fun a h=>nomatch h)) ix)⟩⟩
  ·cases e2
def oG {k:Nat} {f:Addr} {fd:FuncData} {ps:List Str} {n:Str} (F:FnOk X.prog X.w X.K X.mg X.base Hq k f fd ps (Mv G (KW as) g)) (hr:GH k X.A) (hg:Gl X n) (hm:X.mg n=some (.ref f)) (hk:PySem.W.keepIn X.K (.ref f)=true) (hb:Binds X.K fd ps []) (ha:Mm G X (e :: es) (.io i un :: as))
  (Hz:K3 n) (he:K1 e es X) (hpl:K2 pos es X):PXN G X (.Call (.Name n p) (e :: es) [] pos) (aO (.io i un :: as) g) :=
 PE.weak (pP (E:=E0) F hr hg hm hk hb .nil jA ha Hz he hpl) fun J H Q h=>by
  obtain ⟨M,U,v,U',s,e,kq⟩:=h
  obtain ⟨⟨ias,U1⟩,e1,e2⟩:=Zz.mp e
  have eB:=tZ e1
  refine ⟨M,U,ias,U1,s,e1,fun vs H1 M1 s1 f1 ix=>?_⟩
  show Mv G (KW as) g (vs++[]) H1 Q _
  rw [ZS]
  cases ix with
  | nil=>cases eB
  | ex _ _ _=>cases eB
  | @io i' JZ v' TZ Iw h0 UU =>
   have WI:HC TZ=KW as:=(X1 (show true :: HC TZ=true :: KW as from eB)).2
   have HN:=e2
   unfold fD at HN
   obtain ⟨ts,e3,_⟩:=Zz.mp HN
   obtain ⟨Fs,rp,ia⟩:=Eg s1 (.io h0 UU) e3
   rw [← WI]
   exact nA s1 e2 e3 (aD.refl _) rp ia fun u H' M' F s' f' r n=>kq u H' M' F s' (f1.trans f') r (n.back f1)
end
def qZ (j:Nat) (x:Xx):Sx:=fun U=>(x U).bind fun z=>if j < z.2.length then some (.nx (z.2.set j (some (.ow z.1.2)))) else none
section
variable {G:Gx} {X:Cx} {e:Expr} {x:Xx} {pos pos':Pos} {j:Nat} {nm:Str}
def A5 {D:Ends} {J:L2.St} {H:Hp} (hq:tS G (qZ j x) D J H):Pz G x J H fun u H1=>D.nx (J.set j (some u)) H1:=by
 obtain ⟨M,U,o,s,e,k⟩:=hq
 obtain ⟨z,e1,e2⟩:=Zz.mp e
 split at e2
 ·rename_i hc
  cases e2
  refine ⟨M,U,z.1,z.2,s,e1,fun u H1 M1 F s1 f1 r1 n1=>?_⟩
  refine k _ _ _ (s1.put (c:=.ow z.1.2) (H':=H1) hc r1 (fun _ _ _ _ _ q=>q) (fun _ _=>n1.nd) (fun _ _ j' c' _ hj a ha=>n1.ap j' c' hj a ha) fun j' t _ hj a ha GT=>n1.ap j' _ hj a GT ha) ⟨fun a o h n=>⟨(f1.keep a o h n).1,fun z=>?_⟩,f1.GZ,fun a h=>?_,fun a h=>?_,f1.kept⟩
  ·rcases iu z with ⟨_,_,ha⟩ | z
   ·rcases n1.of a ha with q | q
    ·rw [q] at h;cases h
    ·exact n q
   ·exact (f1.keep a o h n).2 z
  ·rcases iu h with ⟨_,_,ha⟩ | z
   ·exact (n1.of a ha).symm
   ·exact f1.ow a z
  ·rcases nV h with ⟨_,q,_⟩ | z
   ·cases q
   ·exact f1.pu a z
 ·cases e2
end
def lT (o:Option Xx) (U:VS.Env):Option (Option Int×VS.Env):=match o with
 | none=>some (none,U)
 | some x=>(x U).bind fun z=>match z.1.2 with
  | .int i=>some (some i,z.2)
  | _=>none
def Ly (a:Xx) (lo hi:Option Xx):Xx:=fun U=>(a U).bind fun z=>match z.1.2 with
 | .str t=>(lT lo z.2).bind fun l=>(lT hi l.2).map fun h=>((.fr,.str (cut t l.1 h.1)),h.2)
 | _=>none
def OP (G:Gx) (o:Option Xx):TO:=fun J H Q=>∃ M U i U',SR G M U J H/\lT o U=some (i,U')/\∀ H' M',SR G M' U' J H'->G0 M U H M' U' H'->Q i H'
section
variable {G:Gx} {X:Cx} {e a b:Expr} {lo hi:Option Expr} {xl xh:Option Xx} {xa x xb:Xx} {pos p2:Pos} {i:Nat} {n:Str}
def nI:PO X none (OP G none):=PO.weak uF fun J H Q hq=>by
 obtain ⟨M,U,o,U',s,e,k⟩:=hq
 cases e
 exact k H M s (G0.refl _ _ _)
def iQ (h:PX G X e x):PO X (some e) (OP G (some x)):=PO.weak (vp h) fun J H Q hq=>by
 obtain ⟨M,U,o,U',s,e,k⟩:=hq
 obtain ⟨z,e1,e2⟩:=Zz.mp e
 split at e2
 ·rename_i j hj
  cases e2
  refine ⟨M,U,z.1,z.2,s,e1,by rw [hj];rfl,fun u H' M' s' f r=>⟨j,?_,k H' M' s' f⟩⟩
  rw [hj] at r
  exact r.int_inv
 ·cases e2
def uo (ha:PX G X a xa) (hl:PO X lo (OP G xl)) (hh:PO X hi (OP G xh)):PX G X (.Subscript a (.Slice lo hi none p2) pos) (Ly xa xl xh) :=
 PE.weak (rE xO ha hl hh) fun J H Q hq=>by
  obtain ⟨M,U,v,U',s,e,Kw,k⟩:=hq
  obtain ⟨z,e1,e2⟩:=Zz.mp e
  split at e2
  ·rename_i t ht
   obtain ⟨l,e3,e4⟩:=Zz.mp e2
   obtain ⟨h,e5,e6⟩:=Zy.mp e4
   cases e6
   refine ⟨M,U,z.1,z.2,s,e1,by rw [ht];rfl,fun u H1 M1 s1 f1 r1=>⟨M1,z.2,l.1,l.2,s1,e3,fun H2 M2 s2 f2=>⟨M2,l.2,h.1,h.2,s2,e5,fun H3 M3 s3 f3=>?_⟩⟩⟩
   rw [ht] at r1
   obtain ⟨rfl,hz⟩:=r1.str_inv
   refine ⟨_,rfl,by rw [cX,← fO];exact hz.1,?_⟩
   rw [jB]
   exact k _ H3 M3 s3 ((f1.trans f2).trans f3) (.str _ ⟨ZG (uu _ _ _) hz.1,fun c hc=>hz.2 c ((pA _ _ _).subset hc)⟩)
  ·cases e2
def x8 (i:Nat) (hN:X.N[i]?=some n) (hv:IB X.env.scope n) (hd:K3 n) (hcd:K4 n) (hb:PX G X b xb) (hs:gI b) (hK:X.K=G.K):PX G X (.Subscript (.Name n p2) b pos) (o6 i xb) :=
 PE.weak (mP jY (fK hN hv hd hcd) hb hs) fun J H Q hq=>by
  obtain ⟨M,U,v,U',s,e,Kw,k⟩:=hq
  unfold o6 at e
  split at e
  ·rename_i c0 VC
   obtain ⟨v0,h0,_⟩:=s.rp _ _ VC
   obtain ⟨z,e1,e2⟩:=Zz.mp e
   split at e2
   ·rename_i i0 c hz hc
    split at e2
    ·rename_i ts UY
     obtain ⟨j,ej,e3⟩:=Zz.mp e2
     obtain ⟨t,et,e4⟩:=Zz.mp e3
     split at e4
     ·rename_i hit
      cases e4
      refine ⟨v0,h0,M,U,z.1,z.2,s,e1,by rw [hz];rfl,fun w H2 M2 s2 f2 r2=>?_⟩
      obtain ⟨v1,h1,r1⟩:=s2.rp _ _ hc
      rw [h0] at h1
      cases h1
      rw [UY] at r1
      rw [hz] at r2
      obtain ⟨a,vs,Fs,rfl,eF,LM,ra⟩:=r1.lst_inv
      obtain ⟨x,Fx,u1,u2,u3⟩:=ra.get j et
      have hx:=u3.GO hit
      subst hx
      exact .inl ⟨a,vs,i0,x,rfl,r2.int_inv,by rw [hK];exact G2.of LM,jO (by rw [ra.len.1];exact ej) u1,k x H2 M2 s2 f2 u3⟩
     ·cases e4
    ·cases e2
   ·cases e2
  ·cases e
end
section
variable {G:Gx} {X:Cx} {elt a:Expr} {sc:Scope} {pos p p2 p3:Pos} {N:List Str} {nm:Str} {xa x:Xx}
def yc (N:List Str) (G3:X.calm=true) (hg:Gl X "range") (hm:X.mg "range" = none) (ha:PX G X a xa) (QY:∀ cl C s H fp,PG (bD X N sc cl C s H fp) (.Name nm p2) (oC 0)) (he:∀ cl C s H fp,PX G (bD X N sc cl C s H fp) elt x)
  (hs:K1 a [] X) (HJ:starEach [a] X.env=[(false,eval a X.env)]) (Iz:l5 X.env sc=true) (I0:jR sc (N.drop 1) X.N=true) (Ja:1<=N.length) (hf:∀ x,foldedSetIterable (.Call (.Name "range" p) [a] [] p3) X.env x=pure x) :
  PE X (.ListComp elt [⟨.Name nm p2,.Call (.Name "range" p) [a] [] p3,[],0⟩] sc pos) (OQ G (j8 xa x)) :=
 PE.weak (mw G3 (jk hg hm (bZ ha fE hs) HJ) Iz I0 Ja (fun cl C s H fp=>⟨QY cl C s H fp,kH,he cl C s H fp⟩) hf) fun J H Q h=>qM (g:=oC 0) (fun v J H R r=>r) h
end
section
variable {G:Gx} {X:Cx} {e a b elt:Expr} {es rest:List Expr} {ca cb:Ex} {xa xb xc:Xx} {xt:Xt} {as:List Ix} {lo hi:Option Expr} {xl xh:Option Xx} {y:VS.Env->Option (Wa×VS.Env)} {sep:Tx} {sc:Scope} {N:List Str} {p pos pos' p1 p2 p3 apos oe:Pos} {i j k k':Nat} {un:Bool} {n nm x:Str} {ps:List Str} {g:Wa->Option (Wa×T)}
def iw (ha:PX G X a xa) (hb:PX G X b xb):PX G X (.BinOp a .Add b pos) (x2 aN xa xb):=B4 ur yu ha hb
def uP (ha:Iq G X a ca) (hb:Nn G X b xt):Nn G X (.BoolOp .And [a,b] pos) (jd ca xt):=(zP ha (yr hb)).Uy
def bq (F:IoAt X.prog X.w X.K X.mg X.base k x ps G (KW as) g) (hr:GH k' X.A) (ha:Mm G X (e :: es) (.io i un :: as)) (hk:k<=k':=by decide) (hg:Gl X x:=by exact rfl) (Hz:K3 x:=by exact rfl) (he:K1 e es X:=by exact rfl) (hpl:K2 pos es X:=by exact rfl) :
  PX G X (.Call (.Name x p) (e :: es) [] pos) (aO (.io i un :: as) g):=by
 obtain ⟨f,fd,h1,h2,h3,h4⟩:=F.ex
 exact (oG h1 (hr.mono hk) hg h2 h3 h4 ha Hz he hpl).px
def Bp (F:IoAt X.prog X.w X.K X.mg X.base k x ps G (KW as) g) (hr:GH k' X.A) (ha:Mm G X (e :: es) (.io i un :: as)) (hk:k<=k') (hg:Gl X x) (Hz:K3 x) (he:K1 e es X) (hpl:K2 pos es X) :
  PXN G X (.Call (.Name x p) (e :: es) [] pos) (aO (.io i un :: as) g):=by
 obtain ⟨f,fd,h1,h2,h3,h4⟩:=F.ex
 exact oG h1 (hr.mono hk) hg h2 h3 h4 ha Hz he hpl
end
def qk (j:Nat) (x:Xx):Sx:=fun U=>(x U).bind fun z=>if j < z.2.length then some (.nx (z.2.set j (some (.pu z.1.2)))) else none
def uZ (g:Tg) (x:Xx) (b:Sx):Sx:=fun U=>(x U).bind fun z=>if GO z.1.2=true then gA g (cp (eC z.1.2)) b z.2 else none
section
variable {G:Gx} {X:Cx} {e a b:Expr} {ca:Ex} {xc:Xx} {y:VS.Env->Option (Wa×VS.Env)} {pos pos':Pos} {j:Nat} {nm:Str}
def zp (h:PXN G X e xc) (hN:X.N.Nodup) (hi:X.N[j]?=some nm) (hx:Loc X.env.scope nm) (IV:swapsWith e (some (.Name nm pos')) pos.line X.env=pure false) (hf:X.fn nm=true\/X.env.scope.names.lookup nm=some .local) :
  PSV G X (.Assign [.Name nm pos'] e pos) (qk j xc) :=
 PS.weak (pY hN hi hx h IV hf) fun D J H hq=>by
  obtain ⟨M,U,o,s,e,k⟩:=hq
  obtain ⟨z,e1,e2⟩:=Zz.mp e
  split at e2
  ·rename_i hc
   cases e2
   refine ⟨M,U,z.1,z.2,s,e1,fun u H1 M1 F s1 f1 r1 n1=>?_⟩
   refine k _ _ _ (s1.put (c:=.pu z.1.2) (H':=H1) hc r1 (fun _ _ _ _ _ q=>q) (fun _ h=>nomatch h) (fun _ h=>nomatch h) fun j' t _ hj a ha GT=>n1.ap j' _ hj a GT ha) ⟨fun a o h n=>⟨(f1.keep a o h n).1,fun z=>?_⟩,f1.GZ,fun a h=>?_,fun a h=>?_,f1.kept⟩
   ·rcases iu z with ⟨_,q,_⟩ | z
    ·cases q
    ·exact (f1.keep a o h n).2 z
   ·rcases iu h with ⟨_,q,_⟩ | z
    ·cases q
    ·exact f1.ow a z
   ·rcases nV h with ⟨_,_,ha⟩ | z
    ·rcases n1.of a ha with q | q
     ·exact .inr (.inr q)
     ·exact .inr (.inl q)
    ·exact f1.pu a z
  ·cases e2
def DZ {tg:Expr} {body:List Stmt} {g:Tg} {cb:Sx} {p p2:Pos} (hp:PassesOwn (model X.prog X.w) X.A X.env X.xe) (hc:X.calm=true) (QZ:Gl X "range") (hm:X.mg "range" = none) (hx:PX G X a xc) (hg:PVG G X tg g) (hb:gz G X body cb)
  (hs:K1 a [] X) (HJ:starEach [a] X.env=[(false,eval a X.env)]) (hf:∀ x,foldedSetIterable (.Call (.Name "range" p) [a] [] p2) X.env x=pure x):PSV G X (.For tg (.Call (.Name "range" p) [a] [] p2) body [] pos) (uZ g xc cb) :=
 PS.weak (xu hp hc (jk QZ hm (bZ hx fE hs) HJ) hg hb hf) fun D J H hq=>by
  obtain ⟨M,U,o,s,e,k⟩:=hq
  obtain ⟨z,e1,e2⟩:=Zz.mp e
  split at e2
  ·rename_i hi
   refine ⟨M,U,z.1,z.2,s,e1,hi,fun u H1 M1 s1 f1 r1=>?_⟩
   obtain ⟨M3,U3,m,l,s3,e3,k3⟩:=yb (g:=g) (cb:=cb) ⟨M1,z.2,o,s1,e2,k.back f1⟩
   unfold cp at e3
   obtain ⟨⟨mx,x⟩,ea,e4⟩:=Zz.mp e3
   obtain ⟨j,ej,e5⟩:=Zz.mp e4
   cases (show some ((Md.fr,z.1.2):Val)=some (mx,x) from ea)
   split at e5
   ·rename_i hj
    cases e5
    generalize z.1.2=t at *
    cases t with
    | int j' =>
     cases ej
     refine ⟨j,by rw [r1.int_inv],?_,?_,k3 _ H1 [] (aD.refl _) (og H1 0 j.toNat) fun a h=>nomatch h⟩
     ·have:=hj.1;unfold JY at this;omega
     ·have:=hj.2;unfold JY at this;omega
    | _=>cases ej
   ·cases e5
  ·cases e2
end
def Bj (y:VS.Env->Option (Wa×VS.Env)):Xx:=fun U=>(y U).map fun z=>((.fr,.lst z.1),z.2)
section
variable {G:Gx} {X:Cx} {e:Expr} {y:VS.Env->Option (Wa×VS.Env)}
def Dd {J:L2.St} {H:Hp} {Q:VK} (hq:Pz G (Bj y) J H Q):OQ G y J H Q:=by
 obtain ⟨M,U,v,U',s,e,k⟩:=hq
 obtain ⟨z,e1,e2⟩:=Zy.mp e
 cases e2
 refine ⟨M,U,z.1,z.2,s,e1,fun D vs H' M' s' f hD rp hn no np=>k (.ref D) H' M' [D] s' f ?_ ⟨by simp,fun j c hj a ha GT=>?_,fun a ha=>.inl ?_⟩⟩
 ·have rl:Rp G H' (.ref D) (.lst z.1) (D :: (List.replicate z.1.length []).flatten):=.lst hD rp
  rwa [mD] at rl
 ·cases Zf.mp ha
  cases c with
  | ow t=>exact no ⟨j,t,hj,GT⟩
  | pu t=>exact np ⟨j,t,hj,GT⟩
 ·cases Zf.mp ha
  exact hn
def AI {elt a:Expr} {sc:Scope} {pos pos' Jo p p2 p3:Pos} {nm x:Str} {xa xc:Xx} {j:Nat} (N:List Str) (G3:X.calm=true) (hg:Gl X "range") (hm:X.mg "range" = none) (ha:PX G X a xa) (QY:∀ cl C s H fp,PG (bD X N sc cl C s H fp) (.Name nm p2) (oC 0)) (he:∀ cl C s H fp,PX G (bD X N sc cl C s H fp) elt xc)
  (hs:K1 a [] X) (HJ:starEach [a] X.env=[(false,eval a X.env)]) (Iz:l5 X.env sc=true) (I0:jR sc (N.drop 1) X.N=true) (Ja:1<=N.length) (hf:∀ x,foldedSetIterable (.Call (.Name "range" p) [a] [] p3) X.env x=pure x)
  (hN:X.N.Nodup) (hi:X.N[j]?=some x) (hx:Loc X.env.scope x) (IV:swapsWith (.ListComp elt [⟨.Name nm p2,.Call (.Name "range" p) [a] [] p3,[],0⟩] sc pos) (some (.Name x pos')) Jo.line X.env=pure true) (N8:X.fn x=true\/X.env.scope.names.lookup x=some .local) :
  PSV G X (.Assign [.Name x pos'] (.ListComp elt [⟨.Name nm p2,.Call (.Name "range" p) [a] [] p3,[],0⟩] sc pos) Jo) (qZ j (Bj (j8 xa xc))) :=
 PS.weak (m9 hN hi hx G3 (jk hg hm (bZ ha fE hs) HJ) Iz I0 Ja (fun cl C s H fp=>⟨QY cl C s H fp,kH,he cl C s H fp⟩) IV N8 hf) fun D J H h=>qM (g:=oC 0) (fun v J H R r=>r) (Dd (A5 h))
end
def xi:Fn:=fun ts=>match ts with
 | [.Hw ns]=>if ns.length<=63 then some (.fr,.bl true) else none
 | _=>none
section
variable {P:Program} {w:World} {K:Xj} {mg:Xe} {base:Heap} {G:Gx}
def Ar {k:Nat} {f:Addr} {fd:FuncData} {y:Str} {g:Fn} (hK:G.K=K) (F:FnOk P w K mg base Hq k f fd [y] (JB G g)) (hg:∀ ns:Wg,ns.length<=63->g [.Hw ns]=some (.fr,.bl true)) :
  FnOk P w K mg base Hq k f fd [y] (JB (Of K) xi):=F.imp fun vs H Q E h=>by
 obtain ⟨ts,Fs,m,r,h1,h2,q⟩:=h
 unfold xi at h2
 split at h2
 ·rename_i ns
  split at h2
  ·rename_i hn
   cases h2
   cases h1 with
   | cons r1 r2 =>
    cases r2
    cases r1 with
    | Hw hs=>exact ⟨[.Hw ns],[[]],.fr,.bl true,.cons (.Hw (by rw [hK];exact hs)) .nil,hg ns hn,fun v H' F e1 r f1=>q v H' F e1 (by cases r;exact .bl _) f1⟩
  ·cases h2
 ·cases h2
end
def zM {l:PySem.W.OpenLaw} {q:Program} {loose:List Str} {XP:(Xe)->Heap->Prop} {d:DefRec} {K:Params->Xj} {x:Str} {k:Nat} (hn:l.most=some 63) (Mf:d.params.defaults=[]) (hr:GH k callerA)
  (F:∀ (w:World) (mg:Xe) (fa:Addr) (h:Heap),(K w.params).In h->h.Ns mainGlobals mg->mg d.name=some (.ref fa) →
   ∃ fd:FuncData,(∀ (s:Shared) (u:Value),BindsTo s fd ⟨[u],[]⟩ [(x,u)])/\∀ base:Heap,(K w.params).In base->base.Ns mainGlobals mg->FnOk l.prog w (K w.params) mg base Hq k fa fd [x] (JB (Of (K w.params)) xi)) :
  PySem.W.WalkO q loose XP (fun w h=>(K w.params).In h) l.row.toRowW d [] (fun f vs=>PySem.call f vs) :=
 L2.AS (n:=63) (k:=k) (x:=x) (CX:=fun _=>Hq) (sp:=fun w=>JB (Of (K w.params)) xi) hn (by decide) Mf hr (fun _ _ h=>h) F (fun w H a ns hl hO hS=>Cu (G:=Of (K w.params)) (Zq hl) hO hS) fun _ _ _ _ _ z=>z
end VS
end
section
namespace T42
open VS
noncomputable def aF:Mt:=Iy 0 4 4 [false,false,true]
  (ak (sX (iC 0 [.fld 1] aE (ab (aa 1) ai)))
  (ak (sX (iC 0 [.fld 2] aE (ab (aa 2) ai)))
  (ak (nH 0 [.fld 3] 3)
  (fm (e2 p7 (eN bt (ab (aU 1 (aa 0)) ai)) (Q2 1))))))
noncomputable def dc:Mt:=Iy 0 1 1 (List.replicate 0 false)
  (ak (iZ 0 1 (di ai))
  (ak (iZ 0 2 (di ai))
  (ak (iZ 0 3 (di ai))
  (NA (bx 0 [] 0 [false,false,true] aF (ab (Q2 0) (ab (eC .GJ) (ab (qO 0 []) ai))))))))
noncomputable def bH:Sx :=
  (ak (dA 0 [.fld 3,.ix (aa 1)] (aa 2) (aa 5))
  (aH 1 (e2 ay (aU 2 (aa 0)) (aa 1))))
noncomputable def au:Mt:=Iy 0 3 6 [false,false]
  (ak (aH 3 (e2 IF (e2 ay (aU 3 (aa 0)) (aa 1)) (aa 2)))
  (ak (aH 4 (e2 aN (e2 ay (aU 1 (aa 0)) (aa 1)) (Q2 1)))
  (ak (HB (e2 oEq (e2 ay (aU 1 (aa 0)) (aa 3)) (aa 4)) (eu 3) dn)
  (ak (b7 5 (bx 0 [] 0 [false,false,true] aF (ab (aa 4) (ab (e2 ay (aU 2 (aa 0)) (aa 3)) (ab (eN lE (ab (e2 ay (aU 3 (aa 0)) (aa 3)) ai)) ai)))))
  (ak (dA 0 [.fld 2] (aa 3) (aa 5))
  (ak (lq (iJ (fj (aa 1)) (e2 oEq (e2 vN (e2 ay (aU 3 (aa 0)) (aa 1)) (aa 2)) (aa 3))) bH)
  (eu 5)))))))
noncomputable def bI:Sx :=
  (ak (dA 0 [.fld 3,.ix (aa 4)] (aa 2) (aa 3))
  (aH 4 (e2 ay (aU 2 (aa 0)) (aa 4))))
noncomputable def bG:Mt:=Iy 0 3 5 [false,false]
  (ak (HB (e2 oi (aa 2) (e2 ay (aU 3 (aa 0)) (aa 1))) (kL (bx 0 [] 0 [false,false] au (ab (aa 1) (ab (aa 2) ai)))) dn)
  (ak (b7 3 (bx 0 [] 0 [false,false,true] aF (ab (e2 aN (e2 ay (aU 1 (aa 0)) (aa 1)) (Q2 1)) (ab (Q2 0) (ab (qO 0 []) ai)))))
  (ak (aH 4 (aa 1))
  (ak (lq (iJ (fj (aa 4)) (e2 cP (aa 2) (e2 ay (aU 3 (aa 0)) (aa 4)))) bI)
  (ak (HB (fj (aa 4)) (i3 0 [.fld 2] (aa 3) (bx 0 [] 0 [false,false] au (ab (aa 4) (ab (aa 2) ai)))) dn)
  (eu 3))))))
noncomputable def bV:Sx :=
  (b7 1 (bx 0 [] 0 [false,false] bG (ab (aa 1) (ab (aa 3) ai))))
noncomputable def aL:Mt:=Iy 0 3 4 [false,false]
  (ak (gA (bc 3) (ik (aa 2)) bV)
  (eu 1))
noncomputable def ba:Sx :=
  (HB (e2 cP (e2 IF (aa 4) (aa 5)) (aa 1)) (ak (rQ 1 (e2 IF (aa 4) (aa 5)) (eN bt (ab (aa 2) ai)))
  (sX (j6 2 [] aE (ab (e2 IF (aa 4) (aa 5)) ai)))) dn)
noncomputable def bT:Sx :=
  (ak (aH 4 (e2 ay (aU 3 (aa 0)) (e2 ay (aa 2) (aa 3))))
  (ak (gA (bc 5) (ik (eN gQ (ab (aa 4) ai))) ba)
  (aH 3 (e2 aN (aa 3) (Q2 1)))))
noncomputable def aC:Fn:=fn 1 6
  (ak (jX 1 (qO 0 [((Q2 0),(Q2 0))]))
  (ak (jX 2 (di (ab (Q2 0) ai)))
  (ak (aH 3 (Q2 0))
  (ak (lq (e2 oLt (aa 3) (eN bt (ab (aa 2) ai))) bT)
  (ak (tH 2)
  (eu 1))))))
noncomputable def bL:Fn:=fn 3 6
  (ak (aH 3 (e2 ay (aU 2 (aa 0)) (aa 1)))
  (ak (aH 4 (e2 ay (aU 3 (aa 0)) (aa 1)))
  (ak (aH 5 (eN kh (ab (dQ 1 (bc 0) (ik (eN gQ (ab (aa 4) ai))) none (n9 (ab (aa 0) (ab (e2 pT (aa 3) (e2 IF (aa 5) (aa 0))) ai)))) ai)))
  (ak (HB (jN (aa 3)) (fm (n9 (ab (Q2 0) (ab (Q2 0) (ab (eC .GJ) (ab (aa 5) ai)))))) dn)
  (fm (n9 (ab (e2 aN (e2 ay (aU 1 (aa 0)) (aa 3)) (Q2 1)) (ab (e2 ay (aU 1 (aa 0)) (aa 1)) (ab (e2 pT (aa 2) (aa 3)) (ab (aa 5) ai))))))))))
noncomputable def dw:Fn:=fn 1 2
  (ak (jX 1 (fh 0 aC (aa 0) ai))
  (zx 1 (bc 0) (fh 0 bL (aa 1) (ab (aa 0) (ab (aa 2) ai)))))
noncomputable def bp:Mt:=Iy 1 1 1 []
  (ak (HB (e2 Nb (eN bt (ab (aU 4 (aa 0)) ai)) (Q2 8)) OV dn)
  (ak (sX (iC 0 [.fld 4] aE (ab (eC (.str [])) ai)))
  (ak (sX (iC 0 [.fld 5] aE (ab (Q2 0) ai)))
  (fm (e2 p7 (eN bt (ab (aU 4 (aa 0)) ai)) (Q2 1))))))
def jG:Fn:=fn 1 1
  (fm (iJ (Oo .int (aa 0)) (qB (Oo .bool (aa 0)))))
def bw:Fn:=fn 2 2
  (HB (Kz (qB (bW jG (ab (aa 1) ai))) (qB (dW oLe oLt (Q2 0) (aa 1) (eN bt (ab (aa 0) ai))))) OV dn)
def gk:Fn:=fn 1 1
  (fm (eN zV (ab (dQ 1 (bc 0) (ik (aa 0)) none (eN bt (ab (aa 0) ai))) ai)))
noncomputable def bh:Mt:=Iy 1 3 3 [false,false]
  (ak (sX (xP (bW bw (ab (aU 4 (aa 0)) (ab (aa 1) ai)))))
  (ak (HB (e2 Ke (e2 aN (bW gk (ab (aU 4 (aa 0)) ai)) (eN bt (ab (aa 2) ai))) (Q2 120)) OV dn)
  (ak (i3 0 [.fld 5] (aa 1) (bx 0 [.fld 6] 0 [false,false] aL (ab (e2 ay (aU 5 (aa 0)) (aa 1)) (ab (aa 2) ai))))
  (dA 0 [.fld 4] (aa 1) (e2 aN (e2 ay (aU 4 (aa 0)) (aa 1)) (aa 2))))))
noncomputable def bu:Sx :=
  (NA (oX 0 1 [false,false] bh (bx 0 [] 1 [] bp ai) (ab (aa 2) ai)))
noncomputable def aS:Mt:=Iy 1 2 3 (List.replicate 1 false)
  (ak (iZ 0 4 (di ai))
  (ak (iZ 0 5 (di ai))
  (ak (iZ 0 6 (eNew 0 dc ai))
  (HB (fj (aa 1)) (gA (bc 2) (ik (aa 1)) bu) dn))))
def mY:Fn:=fn 1 1
  (fm (eN pj (ab (aU 4 (aa 0)) ai)))
noncomputable def bX:Fn:=fn 1 1
  (fm (fh 0 dw (aU 6 (aa 0)) ai))
noncomputable def lS:Sx :=
  (ak (aH 5 (dQ 1 (bc 0) (cp (e2 aN (eN bt (ab (aa 4) ai)) (Q2 1))) (some (eM oO (Jg (aa 5) none (some (aa 0))) (ab (aa 2) ai))) (aa 0)))
  (sX (j6 2 [] dY (ab (dQ 1 (bc 0) (ik (aa 5)) none (n9 (ab (aa 4) (ab (aa 0) ai)))) ai))))
noncomputable def hZ:Fn:=fn 2 6
  (ak (jX 2 (di ai))
  (ak (gA (qJ [(bc 3),(bc 4)]) (uV (aa 0)) lS)
  (eu 2)))
noncomputable def fU:Sx :=
  (ak (aH 4 (eN lh (ab (e2 ay (e2 ay (aa 0) (e2 ay (aa 2) (Q2 (-1)))) (Q2 3)) ai)))
  (ak (HB (e2 cP (aa 3) (aa 4)) (eu 2) dn)
  (sX (j6 2 [] aE (ab (e2 IF (aa 4) (aa 3)) ai)))))
noncomputable def k8:Fn:=fn 2 5
  (ak (jX 2 (di (ab (Q2 0) ai)))
  (ak (gA (bc 3) (ik (aa 1)) fU)
  (eu 2)))
noncomputable def lL:Sx :=
  (ak (aH 4 (e2 p7 (eN bt (ab (bW k8 (ab (aa 0) (ab (Jg (aa 1) (some (aa 3)) none) ai))) ai)) (Q2 1)))
  (ak (HB (e2 oEq (aa 4) (Q2 0)) (fm (eC .GJ)) dn)
  (ak (sX (j6 2 [] aE (ab (Jg (aa 1) (some (aa 3)) (some (e2 aN (aa 3) (aa 4)))) ai)))
  (aH 3 (e2 aN (aa 3) (aa 4))))))
noncomputable def dr:Fn:=fn 2 5
  (ak (jX 2 (di ai))
  (ak (aH 3 (Q2 0))
  (ak (lq (e2 oLt (aa 3) (eN bt (ab (aa 1) ai))) lL)
  (eu 2))))
def fI:Sx :=
  (ak (aH 3 (e2 oMod (e2 aN (e2 aN (e2 gy (aa 3) (Q2 69621)) (e2 gy (Q2 7) (aa 5))) (Q2 1)) (Q2 2147483647)))
  (ak (aH 6 (e2 oMod (e2 gy (aa 3) (aa 3)) (Q2 2147483629)))
  (aH 4 (e2 aN (e2 gy (aa 4) (Q2 999983)) (e2 oMod (e2 gy (aa 6) (e2 aN (e2 oMod (aa 6) (Q2 65521)) (Q2 3))) (Q2 999983))))))
noncomputable def b9:Fn:=fn 2 7
  (ak (aH 2 (e2 aN (e2 gy (aa 1) (Q2 7919)) (Q2 104729)))
  (ak (HB (e2 Ke (eN bt (ab (aa 0) ai)) (Q2 0)) (aH 2 (e2 aN (e2 ay (aa 0) (e2 oMod (aa 1) (eN bt (ab (aa 0) ai)))) (e2 gy (e2 jx (aa 1) (eN bt (ab (aa 0) ai))) (Q2 48271)))) dn)
  (ak (HB (e2 oEq (e2 oMod (aa 2) (Q2 2)) (Q2 0)) (fm (di (ab (e2 jx (aa 2) (Q2 2)) ai))) dn)
  (ak (aH 3 (e2 oMod (e2 aN (e2 jx (aa 2) (Q2 2)) (e2 gy (Q2 40503) (aa 1))) (Q2 2147483629)))
  (ak (aH 4 (Q2 0))
  (ak (gA (bc 5) (cp (Q2 24)) fI)
  (fm (di (ab (aa 4) ai)))))))))
noncomputable def ar:Wa->Option (Wa×T):=Ks 2 3 [false]
  (ak (aH 2 (e2 oMod (e2 ay (Nl (aa 0)) (Q2 0)) (aa 1)))
  (ak (dA 0 [.un] (Q2 0) (e2 jx (e2 ay (Nl (aa 0)) (Q2 0)) (aa 1)))
  (eu 2)))
noncomputable def cZ:Wa->Option (Wa×T):=Ks 3 3 [false,false]
  (kL (uU [] (j8 (aO [(.io 0 true),(.px (xI (e2 aN (aa 2) (Q2 1))))] ar) (x2 ay (xI (aa 2)) (aO [(.io 1 true),(.px (xI (eN bt (ab (aa 2) ai))))] ar)))))
noncomputable def gE:Wa->Option (Wa×T):=Ks 1 5 []
  (ak (aH 1 (eC (.str [97,98,99,100,101,102,103,104,105,106,107,108,109,110,111,112,113,114,115,116,117,118,119,120,121,122])))
  (ak (b7 2 (lR (di (ab (Q2 2) (ab (Q2 1) (ab (Q2 3) (ab (Q2 2) (ab (Q2 4) (ab (Q2 2) (ab (Q2 3) (ab (Q2 26) ai))))))))) (aO [(.io 0 true),(.px (xI (Q2 8)))] ar)))
  (ak (b7 3 (aO [(.io 0 true),(.px (xI (Q2 26)))] ar))
  (ak (b7 4 (lR (di (ab (Q2 1) (ab (Q2 3) (ab (Q2 25) (ab (Q2 7) ai))))) (aO [(.io 0 true),(.px (xI (Q2 4)))] ar)))
  (fm (eM iY (eC (.str [])) (ab (dQ 1 (bc 0) (cp (aa 2)) none (e2 ay (aa 2) (e2 oMod (e2 aN (aa 4) (e2 gy (aa 5) (aa 0))) (Q2 26)))) ai)))))))
noncomputable def du:Sx :=
  (ak (b7 5 (aO [(.io 0 true),(.px (xI (aa 1))),(.px (lR (di (ab (Q2 6) (ab (Q2 3) (ab (Q2 10) (ab (Q2 8) ai))))) (aO [(.io 0 true),(.px (xI (Q2 4)))] ar)))] cZ))
  (ak (sP (jd (e2 Ke (aa 4) (Q2 0)) (Lx (x2 oEq (aO [(.io 0 true),(.px (xI (Q2 4)))] ar) (xI (Q2 1))))) (ak (b7 6 (o6 3 (aO [(.io 0 true),(.px (xI (aa 4)))] ar)))
  (b7 5 (Ly (x2 aN (Ly (xI (aa 6)) (some (aO [(.io 0 true),(.px (xI (e2 aN (eN bt (ab (aa 6) ai)) (Q2 1))))] ar)) none) (xI (aa 5))) none (some (xI (Q2 14)))))) dn)
  (sX (j6 3 [] aE (ab (aa 5) ai)))))
noncomputable def ip:Wa->Option (Wa×T):=Ks 2 7 [false]
  (ak (b7 2 (lR (di (ab (Q2 2) (ab (Q2 1) (ab (Q2 3) (ab (Q2 2) (ab (Q2 4) (ab (Q2 0) (ab (Q2 1) (ab (Q2 8) ai))))))))) (aO [(.io 0 true),(.px (xI (Q2 8)))] ar)))
  (ak (jX 3 (di ai))
  (ak (gA (bc 4) (cp (aa 2)) du)
  (ak (sP (jd (dW oLt oLt (Q2 0) (aa 2) (Q2 3)) (Lx (x2 oEq (aO [(.io 0 true),(.px (xI (Q2 6)))] ar) (xI (Q2 1))))) (i3 3 [] (Q2 0) (x2 vC (x2 aN (x2 aN (xI (e2 ay (aa 3) (Q2 0))) (aO [(.io 0 true),(.px (xI (aa 1))),(.px (xI (Q2 24)))] cZ)) (xI (e2 ay (aa 3) (Q2 (-1))))) (x2 aN (xI (Q2 1)) (aO [(.io 0 true),(.px (xI (Q2 2)))] ar)))) dn)
  (eu 3)))))
noncomputable def eY:Sx :=
  (ak (b7 5 (aO [(.io 0 true),(.px (xI (Q2 6)))] ar))
  (HB (e2 oLt (aa 5) (Q2 2)) (b7 3 (x2 aN (xI (aa 3)) (aO [(.io 0 true),(.px (xI (aa 2))),(.px (xI (Q2 7)))] cZ))) (HB (e2 oEq (aa 5) (Q2 2)) (b7 3 (x2 aN (xI (aa 3)) (x2 ay (xI (eC (.str [97,98,99,100,101,102,103,104,105,106,107,108,109,110,111,112,113,114,115,116,117,118,119,120,121,122]))) (aO [(.io 0 true),(.px (xI (Q2 26)))] ar)))) (HB (e2 Kd (aa 1) (di ai)) (ak (b7 6 (o6 1 (aO [(.io 0 true),(.px (xI (eN bt (ab (aa 1) ai))))] ar)))
  (ak (b7 7 (aO [(.io 0 true),(.px (xI (e2 aN (eN bt (ab (aa 6) ai)) (Q2 1))))] ar))
  (b7 3 (x2 aN (xI (aa 3)) (Ly (xI (aa 6)) (some (xI (aa 7))) (some (x2 aN (xI (e2 aN (aa 7) (Q2 1))) (aO [(.io 0 true),(.px (xI (Q2 40)))] ar)))))))) dn))))
noncomputable def eI:Wa->Option (Wa×T):=Ks 3 8 [false,false]
  (ak (aH 3 (eC (.str [])))
  (ak (uZ (bc 4) (x2 aN (xI (Q2 1)) (aO [(.io 0 true),(.px (xI (Q2 5)))] ar)) eY)
  (eu 3)))
def dq:Fn:=fn 2 2
  (fm (e2 Ke (eN bt (ab (dQ 1 (bc 0) (ik (aa 0)) (some (e2 xk (aa 2) (aa 0))) (aa 0)) ai)) (Q2 0)))
def gq:Sx :=
  (HB (iJ (fj (e2 ay (aa 2) (aa 5))) (bW dq (ab (aa 0) (ab (Jg (aa 1) (some (aa 5)) (some (aa 3))) ai)))) (HB (Kz (jN (aa 4)) (e2 oLt (e2 aN (e2 ay (aa 2) (aa 5)) (Q2 1)) (aa 4))) (aH 4 (e2 aN (e2 ay (aa 2) (aa 5)) (Q2 1))) dn) dn)
noncomputable def iP:Sx :=
  (ak (aH 4 (eC .GJ))
  (ak (gA (bc 5) (cp (aa 3)) gq)
  (sX (j6 2 [] aE (ab (aa 4) ai)))))
noncomputable def gB:Fn:=fn 2 6
  (ak (jX 2 (di (ab (Q2 0) ai)))
  (ak (gA (bc 3) (kM (Q2 1) (e2 aN (eN bt (ab (aa 1) ai)) (Q2 1))) iP)
  (ak (tH 2)
  (fm (e2 ay (aa 2) (Q2 (-1)))))))
noncomputable def iN:Sx :=
  (ak (HB (Kz (e2 oEq (aa 6) (eC (.str []))) (e2 oEq (bW hZ (ab (aa 0) (ab (aa 6) ai))) (di ai))) (fm (eC (.bl false))) dn)
  (HB (iJ (e2 oLt (e2 aN (aa 5) (Q2 1)) (eN bt (ab (aa 3) ai))) (e2 Kd (bW hZ (ab (aa 0) (ab (e2 aN (aa 6) (e2 ay (e2 ay (aa 3) (e2 aN (aa 5) (Q2 1))) (Q2 0))) ai))) (di ai))) (fm (eC (.bl false))) dn))
noncomputable def gF:Fn:=fn 3 7
  (ak (aH 3 (bW dr (ab (aa 1) (ab (aa 2) ai))))
  (ak (aH 4 (bW gB (ab (aa 0) (ab (aa 2) ai))))
  (ak (HB (Kz (jN (aa 3)) (jN (aa 4))) (fm (iJ (jN (aa 3)) (jN (aa 4)))) dn)
  (ak (HB (Kz (e2 Kd (eM iY (eC (.str [])) (ab (aa 3) ai)) (aa 2)) (e2 Kd (eN bt (ab (aa 3) ai)) (aa 4))) (fm (eC (.bl false))) dn)
  (ak (gA (qJ [(bc 5),(bc 6)]) (uV (aa 3)) iN)
  (fm (eC (.bl true))))))))
noncomputable def rK:Sx :=
  (HB (qB (bW gF (ab (aa 3) (ab (aa 4) (ab (aa 7) ai))))) (fm (eC (.bl false))) dn)
noncomputable def yx:Fn:=fn 1 11
  (ak (jX 1 (bW b9 (ab (aa 0) (ab (Q2 0) ai))))
  (ak (b7 2 (aO [(.io 1 false)] gE))
  (ak (qk 3 (aO [(.io 1 false),(.px (xI (aa 2)))] ip))
  (ak (tH 1)
  (ak (aH 4 (fh 1 bX (eNew 1 aS (ab (aa 3) ai)) ai))
  (ak (jX 5 (bW b9 (ab (aa 0) (ab (Q2 1) ai))))
  (ak (qZ 6 (Bj (j8 (xI (Q2 3)) (Ly (fD [(.io 6 false),(.ex (aa 4)),(.ex (aa 3))] eI) none (some (xI (Q2 60)))))))
  (ak (tH 6)
  (ak (tH 5)
  (ak (gA (bc 7) (ik (aa 6)) rK)
  (ak (aH 8 (bW dr (ab (aa 4) (ab (e2 ay (aa 6) (Q2 0)) ai))))
  (ak (aH 9 (bW dr (ab (aa 4) (ab (e2 ay (aa 6) (Q2 1)) ai))))
  (ak (aH 10 (bW dr (ab (aa 4) (ab (e2 aN (e2 ay (aa 6) (Q2 0)) (e2 ay (aa 6) (Q2 1))) ai))))
  (ak (HB (Kz (jN (aa 8)) (jN (aa 9))) (fm (jN (aa 10))) dn)
  (fm (dW oLe oLe (eN uB (ab (eN bt (ab (aa 8) ai)) (ab (eN bt (ab (aa 9) ai)) ai))) (eN bt (ab (aa 10) ai)) (e2 aN (eN bt (ab (aa 8) ai)) (eN bt (ab (aa 9) ai)))))))))))))))))))
end T42
end
section
namespace AU
structure St where
 lg:Wh
 lk:List (Option Nat)
 wy:List (List (Nat×Nat))
def gW (w:List (Nat×Nat)) (c:Nat):Option Nat:=(w.find? fun p=>p.1 == c).map (·.2)
def pW (w:List (Nat×Nat)) (c m:Nat):List (Nat×Nat):=if w.any (fun p=>p.1 == c) then w.map (fun p=>if p.1 == c then (p.1,m) else p) else w++[(c,m)]
structure WF (S:St):Prop where
 lk:S.lk.length=S.lg.length
 wy:S.wy.length=S.lg.length
 pos:0 < S.lg.length
 up:∀ i n,S.lk.getD i none=some n->n < S.lg.length
 on:∀ i c n,gW (S.wy.getD i []) c=some n->n < S.lg.length
 nd:∀ w∈S.wy,(w.map (·.1)).Nodup
 az:∀ w∈S.wy,∀ p∈w,97<=p.1/\p.1<=122
theorem sub_len {α:Type} [DecidableEq α]:∀ (l r:List α),l.Nodup->(∀ x∈l,x∈r)->l.length<=r.length
 | [],_,_,_=>Yt _
 | a :: l,r,nd,h=>by
  obtain ⟨h1,h2⟩:=Zh.mp nd
  have hr:a∈r:=h a Zu
  have:=sub_len l (r.erase a) h2 fun x hx=>(List.mem_erase_of_ne (show x ≠ a from fun e=>h1 (by rw [← e];exact hx))).mpr (h x (Zw _ hx))
  rw [List.length_erase_of_mem hr] at this
  have:0 < r.length:=List.length_pos_of_mem hr
  rw [Zm]
  omega
def WF.small {S:St} (W:WF S) (i:Nat):(S.wy.getD i []).length < 16777216:=by
 by_cases h:i < S.wy.length
 ·have hm:S.wy.getD i []∈S.wy:=by
   rw [Zs,Zr h]
   exact Yz h
  have:=sub_len ((S.wy.getD i []).map (·.1)) (List.range 123) (W.nd _ hm) fun x hx=>by
   obtain ⟨p,hp,rfl⟩:=Yg.mp hx
   have:=(W.az _ hm p hp).2
   exact Ye.mpr (by omega)
  rw [Zt,ZQ] at this
  omega
 ·rw [Zs,Z0 (ZE h)]
  decide
def CH (w:List (Nat×Nat)) (c:Nat):(w.any fun p=>p.1 == c)=(gW w c).isSome:=by
 unfold gW
 rw [Yd,YI,Yj,List.find?_isSome]
def BU (w:List (Nat×Nat)) (c m d:Nat):gW (pW w c m) d=if d=c then some m else gW w d:=by
 unfold pW
 split
 ·rename_i h
  induction w with
  | nil=>simp at h
  | cons p w ih =>
   rw [Zl]
   unfold gW
   rw [Z7,Z7]
   by_cases q:p.1=c
   ·rw [Zq (by simpa using q)]
    by_cases r:p.1=d
    ·have:(p.1 == d)=true:=by simpa using r
     simp only [this]
     rw [Zq (by rw [← r,q])]
     rfl
    ·have r':(p.1 == d)=false:=by simpa using r
     have:d ≠ c:=fun e=>r (by rw [e,q])
     simp only [r',Zo this]
     have key:∀ w:List (Nat×Nat),(w.map fun p=>if p.1 == c then (p.1,m) else p).find? (fun p=>p.1 == d)=w.find? fun p=>p.1 == d:=by
      intro w
      induction w with
      | nil=>rfl
      | cons x w ih =>
       rw [Zl,Z7,Z7,ih]
       by_cases y:x.1=c
       ·rw [Zq (by simpa using y)]
        have:(x.1 == d)=false:=by simpa using fun e=>this (by rw [← e,y])
        simp only [this]
       ·rw [Zo (by simpa using y)]
     rw [key w]
   ·rw [Zo (by simpa using q)]
    have h':(w.any fun p=>p.1 == c)=true:=by
     rw [Yf] at h
     simpa [q] using h
    have SJ:=ih h'
    unfold gW at SJ
    by_cases r:p.1=d
    ·have r':(p.1 == d)=true:=by simpa using r
     simp only [r']
     rw [Zo (fun e=>q (by rw [r,e]))]
    ·have r':(p.1 == d)=false:=by simpa using r
     simp only [r']
     exact SJ
 ·rename_i h
  unfold gW
  rw [List.find?_append]
  by_cases q:d=c
  ·subst q
   have:w.find? (fun p=>p.1 == d)=none:=by
    rw [List.find?_eq_none]
    intro p hp e
    exact h (Yj.mpr ⟨p,hp,e⟩)
   rw [this,Zq rfl]
   simp
  ·rw [Zo q]
   have:((c == d)=false):=by simpa using fun e=>q e.symm
   simp [this]
def Bn (w:List (Nat×Nat)) (c m:Nat) (nd:(w.map (·.1)).Nodup):((pW w c m).map (·.1)).Nodup:=by
 unfold pW
 split
 ·rw [Z4]
  have:((fun p:Nat×Nat=>p.1) ∘ fun p=>if (p.1 == c)=true then (p.1,m) else p)=fun p=>p.1:=by
   funext p
   simp only [Function.comp]
   split <;> rfl
  rw [this]
  exact nd
 ·rename_i h
  rw [ZD,ZU]
  refine ⟨nd,by simp,fun a ha b hb e=>?_⟩
  have Hb:b=c:=by simpa using hb
  subst e Hb
  obtain ⟨p,hp,e⟩:=Yg.mp ha
  exact h (Yj.mpr ⟨p,hp,by simpa using e⟩)
def C8 {w:List (Nat×Nat)} {c m:Nat} {p:Nat×Nat} (h:p∈pW w c m):p.1=c\/p∈w:=by
 unfold pW at h
 split at h
 ·obtain ⟨q,hq,rfl⟩:=Yg.mp h
  by_cases r:(q.1 == c)=true
  ·rw [Zq r];exact .inl (by simpa using r)
  ·rw [Zo r];exact .inr hq
 ·rcases Zc.mp h with h | h
  ·exact .inr h
  ·rw [Zf.mp h];exact .inl rfl
def hJ {α:Type} (l:List α) (i j:Nat) (x d:α):(l.set i x).getD j d=if i=j/\i < l.length then x else l.getD j d:=by
 rw [Zs,Zs,Wu]
 by_cases h:i=j
 ·subst h
  by_cases h2:i < l.length
  ·rw [Zq rfl,Zq h2,Zq ⟨rfl,h2⟩];rfl
  ·rw [Zq rfl,Zo h2,Zo (fun z=>h2 z.2),Z0 (ZE h2)]
 ·rw [Zo h,Zo (fun z=>h z.1)]
def bN {α:Type} (l:List α) (x d:α) (j:Nat):(l++[x]).getD j d=if j=l.length then x else l.getD j d:=by
 rw [Zs,Zs]
 by_cases h:j < l.length
 ·rw [ZA h,Zo (Zb h)]
 ·rw [Yy (ZE h)]
  by_cases h2:j=l.length
  ·rw [Zq h2,h2,Nat.sub_self];rfl
  ·rw [Zo h2,Z0 (ZE h),Z0 (by simp;omega)]
def WF.way {S:St} (W:WF S) {n c v:Nat} (hv:v < S.lg.length) (hc:97<=c/\c<=122):WF ⟨S.lg,S.lk,S.wy.set n (pW (S.wy.getD n []) c v)⟩:=by
 refine ⟨W.lk,by rw [Z6];exact W.wy,W.pos,W.up,fun i d m h=>?_,fun w hw=>?_,fun w hw p hp=>?_⟩
 ·show m < S.lg.length
  have h':gW ((S.wy.set n (pW (S.wy.getD n []) c v)).getD i []) d=some m:=h
  rw [hJ] at h'
  split at h'
  ·rw [BU] at h'
   split at h'
   ·cases h';exact hv
   ·exact W.on n d m h'
  ·exact W.on i d m h'
 ·by_cases hn:n < S.wy.length
  ·rcases List.mem_or_eq_of_mem_set hw with h | h
   ·exact W.nd w h
   ·rw [h]
    refine Bn _ c v (W.nd _ ?_)
    rw [Zs,Zr hn]
    exact Yz hn
  ·rw [List.set_eq_of_length_le (ZE hn)] at hw
   exact W.nd w hw
 ·by_cases hn:n < S.wy.length
  ·rcases List.mem_or_eq_of_mem_set hw with h | h
   ·exact W.az w h p hp
   ·rw [h] at hp
    rcases C8 hp with e | e
    ·rw [e];exact hc
    ·refine W.az _ ?_ p e
     rw [Zs,Zr hn]
     exact Yz hn
  ·rw [List.set_eq_of_length_le (ZE hn)] at hw
   exact W.az w hw p hp
def WF.link {S:St} (W:WF S) {n v:Nat} (hv:v < S.lg.length):WF ⟨S.lg,S.lk.set n (some v),S.wy⟩:=by
 refine ⟨by rw [Z6];exact W.lk,W.wy,W.pos,fun i m h=>?_,W.on,W.nd,W.az⟩
 have h':(S.lk.set n (some v)).getD i none=some m:=h
 rw [hJ] at h'
 split at h'
 ·cases h';exact hv
 ·exact W.up i m h'
def WF.more {S:St} (W:WF S) {l:Nat} {o:Option Nat} {w:List (Nat×Nat)} (ho:∀ n,o=some n->n < S.lg.length) (hw:∀ c n,gW w c=some n->n < S.lg.length) (nd:(w.map (·.1)).Nodup) (az:∀ p∈w,97<=p.1/\p.1<=122):WF ⟨S.lg++[l],S.lk++[o],S.wy++[w]⟩:=by
 have hs:∀ {n},n < S.lg.length->n < (S.lg++[l]).length:=fun h=>by rw [Zv,ZK];omega
 refine ⟨by rw [Zv,Zv,W.lk];rfl,by rw [Zv,Zv,W.wy];rfl,by rw [Zv];exact ZO W.pos (YO _ _),fun i n h=>?_,fun i c n h=>?_,fun x hx=>?_,fun x hx=>?_⟩
 ·have h':(S.lk++[o]).getD i none=some n:=h
  rw [bN] at h'
  split at h'
  ·exact hs (ho n h')
  ·exact hs (W.up i n h')
 ·have h':gW ((S.wy++[w]).getD i []) c=some n:=h
  rw [bN] at h'
  split at h'
  ·exact hs (hw c n h')
  ·exact hs (W.on i c n h')
 ·rcases Zc.mp hx with h | h
  ·exact W.nd x h
  ·rw [Zf.mp h];exact nd
 ·rcases Zc.mp hx with h | h
  ·exact W.az x h
  ·rw [Zf.mp h];exact az
def up1 (c v:Nat):Nat->St->Option Nat->Option (St×Option Nat)
 | _,S,none=>some (S,none)
 | 0,_,some _=>none
 | k+1,S,some n=>if (gW (S.wy.getD n []) c).isSome then some (S,some n) else up1 c v k ⟨S.lg,S.lk,S.wy.set n (pW (S.wy.getD n []) c v)⟩ (S.lk.getD n none)
def LW (c old v:Nat):Nat->St->Option Nat->Option St
 | _,S,none=>some S
 | 0,_,some _=>none
 | k+1,S,some n=>if gW (S.wy.getD n []) c=some old then LW c old v k ⟨S.lg,S.lk,S.wy.set n (pW (S.wy.getD n []) c v)⟩ (S.lk.getD n none) else some S
def LG (S:St) (n c:Nat):Option (St×Nat):=(gW (S.wy.getD n []) c).bind fun old=>if S.lg.getD old 0=S.lg.getD n 0+1 then some (S,old) else
 (LW c old S.lg.length 1000 ⟨S.lg++[S.lg.getD n 0+1],(S.lk++[S.lk.getD old none]).set old (some S.lg.length),S.wy++[S.wy.getD old []]⟩ (some n)).map fun S'=>(S',S.lg.length)
def hb (S:St) (h c:Nat):Option (St×Nat):=if (gW (S.wy.getD h []) c).isSome then LG S h c else
 (up1 c S.lg.length 1000 ⟨S.lg++[S.lg.getD h 0+1],S.lk++[some 0],S.wy++[[]]⟩ (some h)).bind fun z=>match z.2 with
  | none=>some (z.1,S.lg.length)
  | some n=>(LG z.1 n c).map fun y=>(⟨y.1.lg,y.1.lk.set S.lg.length (some y.2),y.1.wy⟩,S.lg.length)
def hg (S:St) (h:Nat):Wh->Option (St×Nat)
 | []=>some (S,h)
 | c :: r=>(hb S h c).bind fun z=>hg z.1 z.2 r
def Sm (S:St):Prop:=S.lg.length<=100001
def WF.Nv {S:St} (W:WF S) (i:Nat):((S.wy.getD i []).map (·.1)).Nodup/\∀ p∈S.wy.getD i [],97<=p.1/\p.1<=122:=by
 by_cases h:i < S.wy.length
 ·have hm:S.wy.getD i []∈S.wy:=by
   rw [Zs,Zr h]
   exact Yz h
  exact ⟨W.nd _ hm,W.az _ hm⟩
 ·rw [Zs,Z0 (ZE h)]
  exact ⟨Z9,fun p hp=>nomatch hp⟩
def S0:St:=⟨[0],[none],[[]]⟩
def B1:WF S0:=by
 refine ⟨rfl,rfl,by decide,fun i n h=>?_,fun i c n h=>?_,fun w hw=>?_,fun w hw p hp=>?_⟩
 ·cases i with
  | zero=>cases h
  | succ i=>cases h
 ·cases i with
  | zero=>cases h
  | succ i=>cases h
 ·rw [Zf.mp hw];exact Z9
 ·rw [Zf.mp hw] at hp;cases hp
end AU
end
section
namespace VS
def e2v {f:Val->Val->Wb} {a b:Ex} {U:Env} {x y z:Val} (h1:a U=some x) (h2:b U=some y) (h3:f x y=some z):e2 f a b U=some z:=by
 show (a U).bind _=_
 rw [h1,Zx,h2]
 exact h3
def xv {a:Ex} {r:Hh} {U:Env} {x:Val} {xs:Wc} (h1:a U=some x) (h2:r U=some xs):ab a r U=some (x :: xs):=by
 show (a U).bind _=_
 rw [h1,Zx,h2]
 rfl
def Gv {c:Ex} {a b:Sx} {U:Env} {m:Md} (h:c U=some (m,.bl true)):HB c a b U=a U:=by
 show (c U).bind _=_
 rw [h]
 rfl
def Gg {c:Ex} {a b:Sx} {U:Env} {m:Md} (h:c U=some (m,.bl false)):HB c a b U=b U:=by
 show (c U).bind _=_
 rw [h]
 rfl
def jv {f:Wc->Wb} {as:Hh} {U:Env} {xs:Wc} {v:Val} (h:as U=some xs) (h2:f xs=some v):eN f as U=some v:=by
 show (as U).bind f=_
 rw [h,Zx,h2]
def fJ {e:Ex} {U:Env} {t:T} (h:e U=some (.fr,t)):fm e U=some (.rt (.fr,t) U):=by
 show (e U).bind _=_
 rw [h]
 rfl
def dX {a b:Sx} {U U1:Env} {v:Val} (h:a U=some (.rt v U1)):ak a b U=some (.rt v U1):=by
 show (a U).bind _=_
 rw [h]
 rfl
def qq {a b:Sx} {U U1:Env} (h:a U=some (.nx U1)):ak a b U=b U1:=by
 show (a U).bind _=_
 rw [h]
 rfl
def sq {a b:Sx} {U U1:Env} {r:Option Out} (h:a U=some (.nx U1)) (q:b U1=r):ak a b U=r:=(qq h).trans q
def IG {c:Ex} {a b:Sx} {U:Env} {m:Md} {r:Option Out} (h:c U=some (m,.bl true)) (q:a U=r):HB c a b U=r:=(Gv h).trans q
def eK {c:Ex} {a b:Sx} {U:Env} {m:Md} {r:Option Out} (h:c U=some (m,.bl false)) (q:b U=r):HB c a b U=r:=(Gg h).trans q
def fM {np nn:Nat} {b:Sx} {ts:Wa} {v:Val} {U:Env} (hl:ts.length=np) (h:b (ts.map (fun t=>some (.pu t))++List.replicate (nn - np) none)=some (.rt v U)):fn np nn b ts=some v:=by
 unfold fn
 rw [Zq hl,h]
 rfl
def ED {np nn:Nat} {b:Sx} {ts:Wa} {U:Env} (hl:ts.length=np) (h:b (ts.map (fun t=>some (.pu t))++List.replicate (nn - np) none)=some (.nx U)):fn np nn b ts=some (.fr,.GJ):=by
 unfold fn
 rw [Zq hl,h]
 rfl
def qA {a b:Ex} {U:Env} {m:Md} {x:Bool} {v:Val} (h1:a U=some (m,.bl x)) (h2:x=true->b U=some v) (h3:x=false->v=(.fr,.bl false)):iJ a b U=some v:=by
 show (a U).bind _=_
 rw [h1,Zx]
 cases x with
 | true=>exact h2 rfl
 | false=>exact congrArg some (h3 rfl).symm
def vz {a b:Ex} {U:Env} {m:Md} {x:Bool} {v:Val} (h1:a U=some (m,.bl x)) (h2:x=false->b U=some v) (h3:x=true->v=(.fr,.bl true)):Kz a b U=some v:=by
 show (a U).bind _=_
 rw [h1,Zx]
 cases x with
 | false=>exact h2 rfl
 | true=>exact congrArg some (h3 rfl).symm
def GA {a b:Ex} {U:Env} {m n:Md} {x y:Bool} (h1:a U=some (m,.bl x)) (h2:b U=some (.fr,.bl y)):iJ a b U=some (.fr,.bl (x && y)):=qA h1 (fun e=>by rw [e];exact h2) (fun e=>by rw [e];rfl)
def NJ {a b:Ex} {U:Env} {m n:Md} {x y:Bool} (h1:a U=some (m,.bl x)) (h2:b U=some (.fr,.bl y)):Kz a b U=some (.fr,.bl (x || y)):=vz h1 (fun e=>by rw [e];exact h2) (fun e=>by rw [e];rfl)
def t9 {a:Ex} {U:Env} {m:Md} {b:Bool} (h:a U=some (m,.bl b)):qB a U=some (.fr,.bl (!b)):=by
 show (a U).bind _=_
 rw [h]
 rfl
def mf {f g:Val->Val->Wb} {a b c:Ex} {U:Env} {x y z v:Val} (h1:a U=some x) (h2:b U=some y) (h3:f x y=some (.fr,.bl true)) (h4:c U=some z) (h5:g y z=some v):dW f g a b c U=some v:=by
 show (a U).bind _=_
 rw [h1,Zx,h2,Zx,h3,Zx]
 show (c U).bind _=_
 rw [h4]
 exact h5
def Al {f g:Val->Val->Wb} {a b c:Ex} {U:Env} {x y:Val} (h1:a U=some x) (h2:b U=some y) (h3:f x y=some (.fr,.bl false)):dW f g a b c U=some (.fr,.bl false):=by
 show (a U).bind _=_
 rw [h1,Zx,h2,Zx,h3]
 rfl
def vc {n:Nat} {i:Int} (h0:0<=i) (h1:i < n):HH n i=some i.toNat:=by rw [HH,Zq h0,Zq h1]
def vM {n:Nat} {i:Nat} (h1:i < n):HH n (i:Int)=some i:=by
 rw [HH,Zq (Int.natCast_nonneg i),Zq (Int.ofNat_lt.mpr h1)]
 rfl
def Bl {m n:Md} (l:Wg) (i:Int) (h0:0<=i) (h1:i < l.length):ay (m,.Hw l) (n,.int i)=some (.fr,.int (l.getD i.toNat 0)):=by
 have b2:i.toNat < l.length:=by lia
 show (HH l.length i).bind _=_
 rw [vc h0 h1,Zx,Zs,Zr b2]
 rfl
def ql {m n:Md} (t:Tx) (i:Int) (h0:0<=i) (h1:i < t.length):ay (m,.str t) (n,.int i)=some (.fr,.str [t.getD i.toNat 0]):=by
 have b2:i.toNat < t.length:=by lia
 show (HH t.length i).bind _=_
 rw [vc h0 h1,Zx,Zs,Zr b2]
 rfl
def mN {m n:Md} {a b:T} {r:Bool} (ha:HY 60 a=true) (hb:HY 60 b=true) (h:eqT a b=r):oEq (m,a) (n,b)=some (.fr,.bl r):=by
 show (if HY 60 a/\HY 60 b then some (Md.fr,T.bl (eqT a b)) else none)=_
 rw [Zq ⟨ha,hb⟩,h]
def vo {m n:Md} {a b:T} {r:Bool} (ha:HY 60 a=true) (hb:HY 60 b=true) (h:eqT a b=r):Kd (m,a) (n,b)=some (.fr,.bl (!r)):=by
 show (if HY 60 a/\HY 60 b then some (Md.fr,T.bl (!eqT a b)) else none)=_
 rw [Zq ⟨ha,hb⟩,h]
def nM {i:Nat} {e:Ex} {U:Env} {l:Wa} {v:T} (h0:U[i]?=some (some (.ow (.lst l)))) (h1:e U=some (.fr,v)) (h2:l.length < 16777216):sX (j6 i [] aE (ab e ai)) U=some (.nx (U.set i (some (.ow (.lst (l++[v])))))):=by
 have h3:ab e ai U=some [(.fr,v)]:=xv h1 rfl
 unfold sX j6
 rw [h0]
 show ((some ([]:List Ky)).bind _ |>.map _)=_
 rw [Zx,h3,Zx]
 show ((aE (.lst l) [(.fr,v)]).map _ |>.map _)=_
 rw [eT h2]
 rfl
def zd {a b:Ex} {U:Env} {m n:Md} {x y:Tx} (h1:a U=some (m,.str x)) (h2:b U=some (n,.str y)) (h:x.length+y.length<=16777216):e2 aN a b U=some (.fr,.str (x++y)):=e2v h1 h2 (g8 h)
end VS
end
section
namespace T42
open VS AU
abbrev pc (t:T):We:=some (.pu t)
abbrev Q0 (i:Int):Option Cell:=some (.pu (.int i))
abbrev Q1 (t:Tx):Option Cell:=some (.pu (.str t))
abbrev oc (t:T):We:=some (.ow t)
def G4 (w:List (Nat×Nat)):T:=.GL 0 (w.map fun p=>(T.str [p.1],T.int (p.2:Int)))
def GY:Option Nat->T
 | none=>.GJ
 | some n=>.int (n:Int)
def Jx (S:St):qS:=[(1,.lst (S.lg.map fun (n:Nat)=>T.int (n:Int))),(2,.lst (S.lk.map GY)),(3,.lst (S.wy.map G4))]
def GI (S:St) (b:Bool):T:=.obj 1 ((0,.bl b) :: Jx S)
def lj (o:Option Nat):GO (GY o)=true:=by cases o <;> rfl
theorem dM {α:Type} (f:α->T) (h:∀ a,dU (f a)=true):∀ l:List α,aZ (l.map f)=true
 | []=>rfl
 | a :: l=>by rw [Zl,aZ,h a,dM f h l];rfl
def xp (w:List (Nat×Nat)):dU (G4 w)=true:=by
 show oM (w.map fun p=>(T.str [p.1],T.int (p.2:Int)))=true
 induction w with
 | nil=>rfl
 | cons p w ih=>rw [Zl,oM,ih];rfl
def j5 (S:St):dP (Jx S)=true:=by
 have h1:dU (.lst (S.lg.map fun (n:Nat)=>T.int (n:Int)))=true:=dM _ (fun _=>rfl) _
 have h2:dU (.lst (S.lk.map GY))=true:=dM _ (fun o=>kR _ (lj o)) _
 have h3:dU (.lst (S.wy.map G4))=true:=dM _ xp _
 show ((dU _ && !(1 == 0 && L7 _)) && ((dU _ && !(2 == 0 && L7 _)) && ((dU _ && !(3 == 0 && L7 _)) && true)))=true
 rw [h1,h2,h3]
 rfl
def E9 (S:St) (b:Bool):qo 1 (GI S b)=some (.lst (S.lg.map fun (n:Nat)=>T.int (n:Int))):=rfl
def GF (S:St) (b:Bool):qo 2 (GI S b)=some (.lst (S.lk.map GY)):=rfl
def Gn (S:St) (b:Bool):qo 3 (GI S b)=some (.lst (S.wy.map G4)):=rfl
def gO {k:Nat} {a:Ex} {U:Env} {m:Md} {t u:T} (h:a U=some (m,t)) (h2:qo k t=some u):aU k a U=some (sub m u):=by
 unfold aU
 rw [h,Zx,h2]
 rfl
def jE {α:Type} {m n:Md} (f:α->T) (l:List α) (i:Nat) (d:α) (h:i < l.length):ay (m,.lst (l.map f)) (n,.int (i:Int))=some (sub m (f (l.getD i d))):=by
 show (HH (l.map f).length (i:Int)).bind _=_
 rw [Zt,vM h,Zx,ZP,Zr h,Zs,Zr h]
 rfl
section
variable {U:Env} {m n:Md} {S:St} {b:Bool} {a e:Ex} {i:Nat}
def sr (h:a U=some (m,GI S b)) (he:e U=some (n,.int (i:Int))) (hi:i < S.lg.length):e2 ay (aU 1 a) e U=some (.fr,.int ((S.lg.getD i 0:Nat):Int)):=e2v (gO h (E9 S b)) he (jE _ _ i 0 hi)
def vd (h:a U=some (m,GI S b)) (he:e U=some (n,.int (i:Int))) (hi:i < S.lk.length):e2 ay (aU 2 a) e U=some (.fr,GY (S.lk.getD i none)):=(e2v (gO h (GF S b)) he (jE _ _ i none hi)).trans (by
 show some (up _ _)=_
 unfold up
 rw [lj]
 rfl)
def mL (h:a U=some (m,GI S b)) (he:e U=some (n,.int (i:Int))) (hi:i < S.wy.length):e2 ay (aU 3 a) e U=some (m,G4 (S.wy.getD i [])):=e2v (gO h (Gn S b)) he (jE _ _ i [] hi)
def Dp (h:a U=some (m,GI S b)):eN bt (ab (aU 1 a) ai) U=some (.fr,.int (S.lg.length:Nat)):=jv (xv (gO h (E9 S b)) rfl) (by
 show some (Md.fr,T.int (((S.lg.map fun (n:Nat)=>T.int (n:Int)).length:Nat):Int))=_
 rw [Zt])
end
def C6 (a c:Nat):eqT (.str [a]) (.str [c])=(a == c):=by
 simp only [eqT]
 by_cases h:a=c
 ·simp [h]
 ·simp [h]
def qz (w:List (Nat×Nat)) (c:Nat):fB (w.map fun p=>(T.str [p.1],T.int (p.2:Int))) (.str [c])=(gW w c).map fun (n:Nat)=>T.int (n:Int):=by
 unfold fB gW
 rw [List.find?_map]
 have:((fun p:T×T=>eqT p.1 (.str [c])) ∘ fun p:Nat×Nat=>(T.str [p.1],T.int (p.2:Int)))=fun p:Nat×Nat=>p.1 == c:=by
  funext p
  exact C6 p.1 c
 rw [this]
 cases w.find? fun p=>p.1 == c with
 | none=>rfl
 | some p=>rfl
def Fh (w:List (Nat×Nat)) (c m:Nat):dput (w.map fun p=>(T.str [p.1],T.int (p.2:Int))) (.str [c]) (.int (m:Int))=(pW w c m).map fun p=>(T.str [p.1],T.int (p.2:Int)):=by
 have h1:(w.map fun p=>(T.str [p.1],T.int (p.2:Int))).any (fun p=>eqT p.1 (.str [c]))=w.any fun p=>p.1 == c:=by
  rw [List.any_map]
  congr 1
  funext p
  exact C6 p.1 c
 unfold dput pW
 rw [h1]
 split
 ·rw [Z4,Z4]
  apply XE
  intro p _
  simp only [Function.comp,C6]
  split <;> rfl
 ·rw [ZD]
  rfl
section
variable {U:Env} {m n k:Md} {S:St} {b:Bool} {a e ec ev:Ex} {i c v:Nat} {w:List (Nat×Nat)}
def FY (h:a U=some (m,G4 w)) (he:e U=some (n,.str [c])):e2 oi e a U=some (.fr,.bl (gW w c).isSome):=e2v he h (by
 show (if true=true then some (Md.fr,T.bl (fB _ _).isSome) else none)=_
 rw [Zq rfl,qz,Yd])
def BM (h:a U=some (m,G4 w)) (he:e U=some (n,.str [c])):e2 cP e a U=some (.fr,.bl (!(gW w c).isSome)):=e2v he h (by
 show (match (if true=true then some (Md.fr,T.bl (fB (w.map fun p=>(T.str [p.1],T.int (p.2:Int))) (.str [c])).isSome) else none) with | some (_,.bl b)=>some (Md.fr,T.bl (!b)) | _=>none)=_
 rw [Zq rfl,qz,Yd])
def wa (h:a U=some (m,G4 w)) (he:e U=some (n,.str [c])) (hv:gW w c=some v):e2 IF a e U=some (.fr,.int (v:Int)):=e2v h he (by
 show (if true=true then (fB _ _).map (sub m) else none)=_
 rw [Zq rfl,qz,hv]
 rfl)
def FF (h:a U=some (m,G4 w)) (he:e U=some (n,.str [c])):e2 vN a e U=some (.fr,GY (gW w c)):=e2v h he (by
 show (if true=true then some (match fB (w.map fun p=>(T.str [p.1],T.int (p.2:Int))) (.str [c]) with | some t=>sub m t | none=>(.fr,.GJ)) else none)=_
 rw [Zq rfl,qz]
 cases gW w c with
 | none=>rfl
 | some v=>rfl)
def yw {r:List (We)} (hi:i < S.wy.length) (he:e (oc (GI S b) :: r)=some (n,.int (i:Int))) (hc:ec (oc (GI S b) :: r)=some (m,.str [c])) (hv:ev (oc (GI S b) :: r)=some (k,.int (v:Int))) (hl:(S.wy.getD i []).length < 16777216) :
  dA 0 [.fld 3,.ix e] ec ev (oc (GI S b) :: r)=some (.nx (oc (GI ⟨S.lg,S.lk,S.wy.set i (pW (S.wy.getD i []) c v)⟩ b) :: r)):=by
 unfold dA
 rw [hv,Zx]
 show ((keys [.fld 3,.ix e] (oc (GI S b) :: r)).bind _)=_
 have hk:keys [.fld 3,.ix e] (oc (GI S b) :: r)=some [.fld 3,.at (.int (i:Int))]:=by
  show ((e _).bind _).map _=_
  rw [he]
  rfl
 rw [hk,Zx,hc,Zx]
 have hp:pm (jQ (m,.str [c]) (k,.int (v:Int))) [.fld 3,.at (.int (i:Int))] (GI S b)=some (GI ⟨S.lg,S.lk,S.wy.set i (pW (S.wy.getD i []) c v)⟩ b,()):=by
  show ((pm (jQ (m,.str [c]) (k,.int (v:Int))) [.at (.int (i:Int))] (.lst (S.wy.map G4))).map _)=_
  have:pm (jQ (m,.str [c]) (k,.int (v:Int))) [.at (.int (i:Int))] (.lst (S.wy.map G4))=some (.lst ((S.wy.set i (pW (S.wy.getD i []) c v)).map G4),()):=by
   show ((HH (S.wy.map G4).length (i:Int)).bind _)=_
   rw [Zt,vM hi,Zx,ZP,Zr hi]
   show ((jQ (m,.str [c]) (k,.int (v:Int)) (G4 S.wy[i])).map _)=_
   have e1:S.wy.getD i []=S.wy[i]:=by rw [Zs,Zr hi];rfl
   rw [e1] at hl ⊢
   show ((if true=true/\true=true/\(S.wy[i].map _).length < eD then some (T.GL 0 (dput _ _ _),()) else none).map _)=_
   rw [Zq ⟨rfl,rfl,by rw [Zt];exact hl⟩,Fh,XT]
   rfl
  rw [this]
  rfl
 rw [hp]
 rfl
def xC {r:List (We)} (hi:i < S.lk.length) (he:e (oc (GI S b) :: r)=some (n,.int (i:Int))) (hv:ev (oc (GI S b) :: r)=some (.fr,.int (v:Int))) :
  dA 0 [.fld 2] e ev (oc (GI S b) :: r)=some (.nx (oc (GI ⟨S.lg,S.lk.set i (some v),S.wy⟩ b) :: r)):=by
 unfold dA
 rw [hv,Zx]
 show ((keys [.fld 2] (oc (GI S b) :: r)).bind _)=_
 have hk:keys [.fld 2] (oc (GI S b) :: r)=some [.fld 2]:=rfl
 rw [hk,Zx,he,Zx]
 have hp:pm (jQ (n,.int (i:Int)) (.fr,.int (v:Int))) [.fld 2] (GI S b)=some (GI ⟨S.lg,S.lk.set i (some v),S.wy⟩ b,()):=by
  show ((jQ (n,.int (i:Int)) (.fr,.int (v:Int)) (.lst (S.lk.map GY))).map _)=_
  have:jQ (n,.int (i:Int)) (.fr,.int (v:Int)) (.lst (S.lk.map GY))=some (.lst ((S.lk.set i (some v)).map GY),()):=by
   show ((HH (S.lk.map GY).length (i:Int)).map _)=_
   rw [Zt,vM hi,XT]
   rfl
  rw [this]
  rfl
 rw [hp]
 rfl
end
end T42
end
section
namespace VS
def wr (un:Bool) (k:Nat) (t:T):T:=if un then Lj k t else t
def Mj (l:Wa):List Ia:=l.map fun t=>Ia.ex (eC t)
theorem y8 (U:Env):∀ l:Wa,iI U (Mj l)=some l
 | []=>rfl
 | t :: l=>by
  show ((some (Md.fr,t):Wb).bind fun v=>(MQ v).bind fun t=>(iI U (Mj l)).map (t :: ·))=_
  rw [y8 U l]
  rfl
theorem vv (U:Env):∀ l:Wa,iD (Mj l) [] U=U
 | []=>rfl
 | t :: l=>vv U l
theorem B2:∀ l:Wa,Hi (Mj l)=[]
 | []=>rfl
 | t :: l=>B2 l
section
variable {i k j:Nat} {un:Bool} {r:List Ix} {l:Wa} {U U1 U2 U3:Env} {c0:Cell} {s t t0 t1 u y:T} {g:Wa->Option (Wa×T)} {x a b:Xx} {c:Ex} {m:Md} {f:Val->Val->Wb}
def ci {r:List Ia} (h1:U[i]?=some (some (.ow (wr un k t0)))) (hr:iI U r=some l) (hS:Hi r=[]) (hp:∀ U,iD r [] U=U) (hm:pb t0=true) (hn:dU t0=true) (hl:aZ l=true) (hg:g (t0 :: l)=some ([t1],y)) :
  fD (.io i un :: r) g U=some ((.fr,y),U.set i (some (.ow (wr un k t1)))):=by
 have e2:iI U (.io i un :: r)=some (t0 :: l):=by
  show (LJ un U[i]?).bind _=_
  rw [h1]
  have:LJ un (some (some (.ow (wr un k t0))))=some t0:=by
   cases un
   ·show (if pb t0 then some t0 else none)=_
    rw [Zq hm]
   ·rfl
  rw [this]
  show (iI U r).map _=_
  rw [hr]
  rfl
 unfold fD
 rw [e2,Zx,Zq ⟨by rw [aZ,hn,hl];rfl,by show (i :: Hi r).Nodup;rw [hS];exact Zh.mpr ⟨(fun h=>nomatch h),Z9⟩⟩,hg]
 show some ((Md.fr,y),iD r [] (U.set i (some (.ow (oZ un U[i]? t1)))))=_
 rw [hp,h1]
 cases un <;> rfl
def cx (h0:U[i]?=some (some c0)) (hr:ju r U=some (Mj l,U1)) (h1:U1[i]?=some (some (.ow (wr un k t0)))) (hm:pb t0=true) (hn:dU t0=true) (hl:aZ l=true) (hg:g (t0 :: l)=some ([t1],y)) :
  aO (.io i un :: r) g U=some ((.fr,y),U1.set i (some (.ow (wr un k t1)))):=by
 have e1:ju (.io i un :: r) U=some (.io i un :: Mj l,U1):=by
  unfold ju
  rw [h0]
  show (ju r U).map _=_
  rw [hr]
  rfl
 unfold aO
 rw [e1]
 exact ci h1 (y8 U1 l) (B2 l) (fun U=>vv U l) hm hn hl hg
def oI (hx:x U=some ((.fr,t),U1)) (hi:GO t=true) (hr:ju r U1=some (Mj l,U2)):ju (.px x :: r) U=some (Mj (t :: l),U2):=by
 unfold ju
 rw [hx,Zx,Zq hi,hr]
 rfl
def bS (h:c U=some (m,t)) (hi:GO t=true):xI c U=some ((.fr,t),U):=by
 unfold xI
 rw [h,Zx,Zq hi]
def jg (h1:a U=some ((.fr,s),U1)) (h2:b U1=some ((.fr,t),U2)) (h3:f (.fr,s) (.fr,t)=some (m,u)) (hs:GO s=true) (ht:GO t=true) (hu:GO u=true):x2 f a b U=some ((.fr,u),U2):=by
 unfold x2
 rw [h1,Zx,h2,Zx,h3,Zx,Zq ⟨hs,ht,hu⟩]
def dE (h:x U=some ((.fr,t),U1)) (hi:GO t=true) (hj:j < U1.length):b7 j x U=some (.nx (U1.set j (some (.pu t)))):=by
 unfold b7
 rw [h,Zx,Zq ⟨hi,hj⟩]
def AQ (h:x U=some ((.fr,t),U1)) (hi:GO t=true):kL x U=some (.rt (.fr,t) U1):=by
 unfold kL
 rw [h,Zx,Zq hi]
def wG (l:Wg):eO (l.map .int)=true:=by
 induction l with
 | nil=>rfl
 | cons a l ih=>exact ih
def mE {i:Int} (l:Wg) (h1:c U=some (.fr,.lst (l.map .int))) (h2:b U=some ((.fr,.int i),U1)) (h0:0<=i) (hi:i < l.length):lR c b U=some ((.fr,.int (l.getD i.toNat 0)),U1):=by
 unfold lR
 rw [h1,Zx]
 show (b U).bind _=_
 rw [h2,Zx]
 show (HH (l.map T.int).length i).bind _=_
 rw [Zt,vc h0 hi,Zx,ZP,Zr (by omega)]
 show (if eO (l.map .int)=true/\GO (T.int (l[i.toNat]'(by omega)))=true then some ((Md.fr,T.int (l[i.toNat]'(by omega))),U1) else none)=_
 rw [Zq ⟨wG l,rfl⟩,Zs,Zr (by omega)]
 rfl
def vw {n:Nat} {c c':Cell} {i:Int} (l:List Tx) (hc:U[n]?=some (some c)) (h2:b U=some ((.fr,.int i),U1)) (h3:U1[n]?=some (some c')) (h4:i5 c'=.lst (l.map .str)) (h0:0<=i) (hi:i < l.length):o6 n b U=some ((.fr,.str (l.getD i.toNat [])),U1):=by
 unfold o6
 rw [hc]
 show (b U).bind _=_
 rw [h2,Zx]
 dsimp only
 rw [h3]
 dsimp only
 rw [h4]
 show (HH (l.map T.str).length i).bind _=_
 rw [Zt,vc h0 hi,Zx,ZP,Zr (by omega)]
 show some ((Md.fr,T.str (l[i.toNat]'(by omega))),U1)=_
 rw [Zs,Zr (by omega)]
 rfl
def kD {i:Int} (h:x U=some ((.fr,.int i),U1)):lT (some x) U=some (some i,U1):=by
 show (x U).bind _=_
 rw [h]
 rfl
def uA {lo hi:Option Xx} {w:Tx} {p q:Option Int} (h:a U=some ((.fr,.str w),U1)) (h1:lT lo U1=some (p,U2)) (h2:lT hi U2=some (q,U3)):Ly a lo hi U=some ((.fr,.str (cut w p q)),U3):=by
 unfold Ly
 rw [h,Zx]
 show (lT lo U1).bind _=_
 rw [h1,Zx]
 show (lT hi U2).map _=_
 rw [h2]
 rfl
def mR {np nn:Nat} {mv:List Bool} {body:Sx} {ts os:Wa} {v:Val} (hl:ts.length+1=np/\mv.length=ts.length) (hb:body ((some (.ow (Lj 1 t0)) :: List.zipWith iO mv (markL 1 mv ts))++List.replicate (nn - np) none)=some (.rt v U)) (ho:lH U 0 (true :: mv)=some os) (ha:vO os v=true) (hn:aZ os=true):Ks np nn mv body (t0 :: ts)=some (os,v.2):=by
 dsimp only [Ks]
 rw [Zq hl,hb,Zx]
 dsimp only
 rw [ho,Zx,Zq ⟨ha,hn⟩]
def B9 {xt:Xt} {p q:Sx} (h:xt U=some (true,U1)):sP xt p q U=p U1:=by
 unfold sP
 rw [h]
 rfl
def uC {xt:Xt} {p q:Sx} (h:xt U=some (false,U1)):sP xt p q U=q U1:=by
 unfold sP
 rw [h]
 rfl
def yI {xt:Xt} (h:c U=some (m,.bl false)):jd c xt U=some (false,U):=by
 unfold jd
 rw [h]
 rfl
def xA {xt:Xt} (h:c U=some (m,.bl true)):jd c xt U=xt U:=by
 unfold jd
 rw [h]
 rfl
def Ep {b:Bool} (h:x U=some ((.fr,.bl b),U1)):Lx x U=some (b,U1):=by
 unfold Lx
 rw [h]
 rfl
def um {i j:Int} (h1:a U=some ((.fr,.int i),U1)) (h2:b U1=some ((.fr,.int j),U2)):Lx (x2 oEq a b) U=some (i == j,U2):=Ep (jg h1 h2 (mN rfl rfl (by simp only [eqT])) rfl rfl rfl)
def t6 {f:Val->Wc->Wb} {o:Ex} {as:Hh} {x v:Val} {xs:Wc} (h1:o U=some x) (h2:as U=some xs) (h3:f x xs=some v):eM f o as U=some v:=by
 unfold eM
 rw [h1,Zx,h2]
 exact h3
def BH (h:x U=some ((m,t),U1)) (hj:j < U1.length):qZ j x U=some (.nx (U1.set j (some (.ow t)))):=by
 unfold qZ
 rw [h,Zx,Zq hj]
end
end VS
end
section
namespace T42
open VS
abbrev sp (un:Bool) (n:Int):We:=oc (wr un 1 (.lst [.int n]))
def C7 (n m:Int) (h:0 < m/\m < 1073741824):ar [.lst [.int n],.int m]=some ([.lst [.int (n / m)]],.int (n % m)):=by
 have s1:aH 2 (e2 oMod (e2 ay (Nl (aa 0)) (Q2 0)) (aa 1)) [sp true n,Q0 m,none]=some (.nx [sp true n,Q0 m,Q0 (n % m)]) :=
  aI (m:=.fr) (e2v (x:=(.fr,.int n)) (y:=(.fr,.int m)) rfl rfl (fQ h.1)) (by decide) (by show 2 < 3;decide)
 have s2:dA 0 [.un] (Q2 0) (e2 jx (e2 ay (Nl (aa 0)) (Q2 0)) (aa 1)) [sp true n,Q0 m,Q0 (n % m)]=some (.nx [sp true (n / m),Q0 m,Q0 (n % m)]):=by
  unfold dA
  rw [e2v (f:=jx) (x:=(.fr,.int n)) (y:=(.fr,.int m)) (U:=[sp true n,Q0 m,Q0 (n % m)]) (a:=e2 ay (Nl (aa 0)) (Q2 0)) (b:=aa 1) rfl rfl (j7 h)]
  rfl
 exact mR (v:=(.fr,.int (n % m))) ⟨rfl,rfl⟩ (sq s1 (sq s2 rfl)) rfl rfl rfl
section
variable {i:Nat} {un:Bool} {U U1:Env} {c0:Cell} {n m:Int} {x:Xx}
def nx (hm:0 < m/\m < 1073741824) (h0:U[i]?=some (some c0)) (hx:x U=some ((.fr,.int m),U1)) (h1:U1[i]?=some (sp un n)):∃ d n',0<=d/\d < m/\aO [.io i un,.px x] ar U=some ((.fr,.int d),U1.set i (sp un n')) :=
 ⟨n % m,n / m,YJ _ (by omega),YX _ hm.1,cx h0 (oI hx rfl rfl) h1 rfl rfl rfl (C7 n m hm)⟩
end
def nc {x:Xx} {i:Int} {r:Wg} {U U1 U2:Env} {c:We} {t:T} {ts:Wa} (h:x (Q0 i :: U)=some ((.fr,t),c :: U1)) (hi:GO t=true) (hr:gC x r U1=some (ts,U2)):gC x (i :: r) U=some (t :: ts,U2):=by
 unfold gC
 rw [h,Zx]
 show (if GO t=true then (gC x r U1).map _ else _)=_
 rw [Zq hi,hr]
 rfl
def AY {y:Env->Option (Wa×Env)} {U U2:Env} {s:Tx} (h:y U=some (s.map fun c=>T.str [c],U2)) (hl:s.length<=100000):uU [] y U=some ((.fr,.str s),U2):=by
 unfold uU
 rw [h,Zx]
 have:=lu (m:=.fr) (n:=.fr) (strs_map (fun x=>[x]) s) (by rw [fS];omega)
 rw [fS] at this
 show (iY (.fr,.str []) [(.fr,.lst (s.map fun c=>T.str [c]))]).map _=_
 rw [this]
 rfl
def vg {xa x:Xx} {j:Int} {U U1 U2:Env} {ts:Wa} (ha:xa U=some ((.fr,.int j),U1)) (hj:0<=j/\j < 1000000) (h:gC x (Lk 0 j.toNat) U1=some (ts,U2)):j8 xa x U=some (ts,U2):=by
 unfold j8
 rw [ha,Zx]
 show (if 0<=j/\j < 1000000 then gC x (Lk 0 j.toNat) U1 else none)=_
 rw [Zq hj]
 exact h
def A4 (n:Nat):(Lk 0 n).length=n:=by unfold Lk;rw [Zt,Xh]
def yN (L:Tx) (most n:Int) (hl:0 < L.length) (Kh:L.length < 1000) (h0:0<=most) (h1:most < 1000):∃ (n':Int) (t:Tx),cZ [.lst [.int n],.str L,.int most]=some ([.lst [.int n']],.str t)/\t.length<=most.toNat/\∀ c∈t,c∈L:=by
 have loop:∀ (r:Wg) (n:Int),∃ (n':Int) (s:Tx),gC (x2 ay (xI (aa 2)) (aO [(.io 1 true),(.px (xI (eN bt (ab (aa 2) ai))))] ar)) r [sp true n,Q1 L,Q0 most]=some (s.map fun c=>T.str [c],[sp true n',Q1 L,Q0 most])/\s.length=r.length/\∀ c∈s,c∈L:=by
  intro r
  induction r with
  | nil=>intro n;exact ⟨n,[],rfl,rfl,fun _ h=>nomatch h⟩
  | cons i r ih =>
   intro n
   obtain ⟨d,n1,d0,d1,e⟩:=nx (i:=1) (un:=true) (m:=(L.length:Int)) (n:=n) (x:=xI (eN bt (ab (aa 2) ai))) (U:=[Q0 i,sp true n,Q1 L,Q0 most]) (U1:=[Q0 i,sp true n,Q1 L,Q0 most]) (by omega) rfl (bS (m:=.fr) rfl rfl) rfl
   obtain ⟨n',s,HN,hs,hc⟩:=ih n1
   have hd:d.toNat < L.length:=by omega
   refine ⟨n',L.getD d.toNat 0 :: s,nc (jg (bS (m:=.fr) rfl rfl) e (ql L d d0 d1) rfl rfl rfl) rfl HN,by rw [Zm,Zm,hs],fun c HX=>?_⟩
   rcases Zj.mp HX with rfl | h
   ·rw [Zs,Zr hd]
    exact Yz hd
   ·exact hc c h
 obtain ⟨d,n1,d0,d1,e⟩:=nx (i:=0) (un:=true) (m:=most+1) (n:=n) (x:=xI (e2 aN (aa 2) (Q2 1))) (U:=[sp true n,Q1 L,Q0 most]) (by omega) rfl (bS (m:=.fr) rfl rfl) rfl
 obtain ⟨n',s,HN,hs,hc⟩:=loop (Lk 0 d.toNat) n1
 have hsl:s.length=d.toNat:=by rw [hs,A4]
 exact ⟨n',s,mR (v:=(.fr,.str s)) (U:=[sp true n',Q1 L,Q0 most]) ⟨rfl,rfl⟩ (AQ (AY (vg e ⟨d0,by omega⟩ HN) (by omega)) rfl) rfl rfl rfl,by omega,hc⟩
def az:Tx:=[97,98,99,100,101,102,103,104,105,106,107,108,109,110,111,112,113,114,115,116,117,118,119,120,121,122]
def yJ:∀ c∈az,97<=c/\c<=122:=by decide
def getD_mem' {l:Tx} {i:Nat} (h:i < l.length):l.getD i 0∈l:=by
 rw [Zs,Zr h]
 exact Yz h
def Ae (n:Int):∃ (n':Int) (s:Tx),gE [.lst [.int n]]=some ([.lst [.int n']],.str s)/\0 < s.length/\s.length<=26/\∀ c∈s,97<=c/\c<=122:=by
 obtain ⟨d,n1,d0,d1,e⟩:=nx (i:=0) (un:=true) (m:=8) (n:=n) (x:=xI (Q2 8)) (U:=[sp true n,Q1 az,none,none,none]) (by decide) rfl (bS (m:=.fr) rfl rfl) rfl
 have hf:∀ k,k < 8->1<=([2,1,3,2,4,2,3,26]:Wg).getD k 0/\([2,1,3,2,4,2,3,26]:Wg).getD k 0<=26:=by decide
 have f1:=hf d.toNat (by omega)
 have s2:=dE (j:=2) (mE (c:=(di (ab (Q2 2) (ab (Q2 1) (ab (Q2 3) (ab (Q2 2) (ab (Q2 4) (ab (Q2 2) (ab (Q2 3) (ab (Q2 26) ai)))))))))) ([2,1,3,2,4,2,3,26]:Wg) rfl e d0 d1) rfl (by show 2 < 5;decide)
 generalize ([2,1,3,2,4,2,3,26]:Wg).getD d.toNat 0=Jc at f1 s2
 obtain ⟨d',n2,a0,a1,e3⟩:=nx (i:=0) (un:=true) (m:=26) (n:=n1) (x:=xI (Q2 26)) (U:=[sp true n1,Q1 az,Q0 Jc,none,none]) (by decide) rfl (bS (m:=.fr) rfl rfl) rfl
 obtain ⟨d2,n3,b0,b1,e4⟩:=nx (i:=0) (un:=true) (m:=4) (n:=n2) (x:=xI (Q2 4)) (U:=[sp true n2,Q1 az,Q0 Jc,Q0 d',none]) (by decide) rfl (bS (m:=.fr) rfl rfl) rfl
 have s4:=dE (j:=4) (mE (c:=(di (ab (Q2 1) (ab (Q2 3) (ab (Q2 25) (ab (Q2 7) ai)))))) ([1,3,25,7]:Wg) rfl e4 b0 b1) rfl (by show 4 < 5;decide)
 have hs:∀ k,k < 4->0<=([1,3,25,7]:Wg).getD k 0/\([1,3,25,7]:Wg).getD k 0<=26:=by decide
 have g1:=hs d2.toNat (by omega)
 generalize ([1,3,25,7]:Wg).getD d2.toNat 0=st at g1 s4
 have c1:=gS (k:=1) (tg:=bc 0) (it:=cp (aa 2)) (elt:=e2 ay (aa 2) (e2 oMod (e2 aN (aa 4) (e2 gy (aa 5) (aa 0))) (Q2 26))) (m:=.fr) (U:=[sp true n3,Q1 az,Q0 Jc,Q0 d',Q0 st]) (fun (j:Nat)=>T.int (j:Int)) (fun j=>T.str [az.getD ((d'+st * (j:Int)) % 26).toNat 0]) (List.range Jc.toNat) (by
   rw [eE (m:=.fr) (j:=Jc) rfl (by omega),gY]) rfl (by rw [ZQ];omega) fun j hj=>⟨_,rfl,by
   refine e2v (x:=(.fr,.str az)) rfl (e2v (x:=(.fr,.int (d'+st * (j:Int)))) (y:=(.fr,.int 26)) (e2v (x:=(.fr,.int d')) rfl (e2v (x:=(.fr,.int st)) (y:=(.fr,.int (j:Int))) rfl rfl (jF (by omega))) rfl) rfl (fQ (by decide))) (ql az _ (YJ _ (by decide)) (YX _ (by decide)))⟩
 have j1:=lu (m:=.fr) (n:=.fr) (strs_map (fun (j:Nat)=>[az.getD ((d'+st * (j:Int)) % 26).toNat 0]) (List.range Jc.toNat)) (by rw [show (List.range Jc.toNat).map (fun (j:Nat)=>[az.getD ((d'+st * (j:Int)) % 26).toNat 0])=((List.range Jc.toNat).map fun (j:Nat)=>az.getD ((d'+st * (j:Int)) % 26).toNat 0).map (fun x=>[x]) from by rw [Z4];rfl,fS,Zt,ZQ];omega)
 rw [show (List.range Jc.toNat).map (fun (j:Nat)=>[az.getD ((d'+st * (j:Int)) % 26).toNat 0])=((List.range Jc.toNat).map fun (j:Nat)=>az.getD ((d'+st * (j:Int)) % 26).toNat 0).map (fun x=>[x]) from by rw [Z4];rfl,fS] at j1
 refine ⟨n3,(List.range Jc.toNat).map fun (j:Nat)=>az.getD ((d'+st * (j:Int)) % 26).toNat 0,mR (v:=(.fr,.str _)) ⟨rfl,rfl⟩ (sq (U1:=[sp true n,Q1 az,none,none,none]) rfl (sq s2 (sq (dE e3 rfl (by show 3 < 5;decide)) (sq s4 (fJ ?_))))) rfl rfl rfl,by rw [Zt,ZQ];omega,by rw [Zt,ZQ];omega,fun c hc=>?_⟩
 ·exact t6 rfl (xv c1 rfl) j1
 ·obtain ⟨j,_,rfl⟩:=Yg.mp hc
  have:=YJ (d'+st * (j:Int)) (b:=26) (by decide)
  have:=YX (d'+st * (j:Int)) (b:=26) (by decide)
  exact yJ _ (getD_mem' (by show _ < 26;omega))
theorem fq {β:Type} {tg:Tg} {body:Sx} (g:β->T) (Inv:List β->Env->Prop) (h:∀ t r U,Inv (t :: r) U->∃ U1 U2,tg (g t) U=some U1/\body U1=some (.nx U2)/\Inv r U2):∀ (l:List β) (U:Env),Inv l U->∃ U',forL tg body (l.map g) U=some (.nx U')/\Inv [] U'
 | [],U,hi=>⟨U,rfl,hi⟩
 | t :: l,U,hi=>by
  obtain ⟨U1,U2,e1,e2,Vt⟩:=h t l U hi
  obtain ⟨U',e3,Vs⟩:=fq g Inv h l U2 Vt
  exact ⟨U',(iy e1 e2).trans e3,Vs⟩
def Az (t:Tx):Prop:=∀ c∈t,97<=c/\c<=122
abbrev EB (n:Int) (L:Tx) (many:Int) (bk:List Tx) (z4 z5 z6:We):Env:=[sp true n,Q1 L,Q0 many,oc (.lst (bk.map .str)),z4,z5,z6]
section
variable {L:Tx} {many:Int} {bk:List Tx} {z4 z5 z6:We}
def Nc (n m:Int) (hm:0 < m/\m < 1073741824) {c:Ex} (hc:c (EB n L many bk z4 z5 z6)=some (.fr,.int m)):∃ d n',0<=d/\d < m/\aO [.io 0 true,.px (xI c)] ar (EB n L many bk z4 z5 z6)=some ((.fr,.int d),EB n' L many bk z4 z5 z6) :=
 nx (i:=0) (un:=true) (n:=n) hm rfl (bS hc rfl) rfl
def M6 (hL:0 < L.length/\L.length<=26/\Az L) (n n1 most:Int) (hm:0<=most/\most < 1000) {x:Xx} (hc:x (EB n L many bk z4 z5 z6)=some ((.fr,.int most),EB n1 L many bk z4 z5 z6)):∃ (n':Int) (t:Tx),t.length<=most.toNat/\Az t/\aO [.io 0 true,.px (xI (aa 1)),.px x] cZ (EB n L many bk z4 z5 z6)=some ((.fr,.str t),EB n' L many bk z4 z5 z6):=by
 obtain ⟨n',t,e,h1,h2⟩:=yN L most n1 hL.1 (by omega) hm.1 hm.2
 exact ⟨n',t,h1,fun c h=>hL.2.2 c (h2 c h),cx (i:=0) (un:=true) (k:=1) (r:=[.px (xI (aa 1)),.px x]) (l:=[.str L,.int most]) (U1:=EB n1 L many bk z4 z5 z6) rfl (oI (t:=.str L) (bS (m:=.fr) rfl rfl) rfl (oI hc rfl rfl)) rfl rfl rfl rfl e⟩
end
def qg {t:Tx} {p q:Option Int} (h:Az t):Az (cut t p q):=fun c hc=>h c (BC t p q hc)
def jH {s t:Tx} (h:Az s) (g:Az t):Az (s++t):=fun c hc=>(Zc.mp hc).elim (h c) (g c)
def qU (t:Tx) (k:Nat):(cut t none (some (k:Int))).length<=k:=by
 rw [xo]
 exact List.length_take_le _ _
def Au:∀ k,k < 8->0<=([2,1,3,2,4,0,1,8]:Wg).getD k 0/\([2,1,3,2,4,0,1,8]:Wg).getD k 0<=8:=by decide
def A9:∀ k,k < 4->0<=([6,3,10,8]:Wg).getD k 0/\([6,3,10,8]:Wg).getD k 0<=10:=by decide
def fW {l:List Tx} {i:Nat} (h:i < l.length):l.getD i []∈l:=by
 rw [Zs,Zr h]
 exact Yz h
def wD {L:Tx} (hL:0 < L.length/\L.length<=26/\Az L) {many:Int} {bk:List Tx} (hb:∀ t∈bk,t.length<=14/\Az t) (h8:bk.length < 8) (n:Int) (z5 z6:We) :
  ∃ (n':Int) (t:Tx) (Lw LV:We),du (EB n L many bk (Q0 (bk.length:Int)) z5 z6)=some (.nx (EB n' L many (bk++[t]) (Q0 (bk.length:Int)) Lw LV))/\t.length<=14/\Az t:=by
 obtain ⟨d,n1,d0,d1,e⟩:=Nc (L:=L) (many:=many) (bk:=bk) (z4:=Q0 (bk.length:Int)) (z5:=z5) (z6:=z6) n 4 (by decide) (c:=Q2 4) rfl
 have g:=A9 d.toNat (by omega)
 obtain ⟨n2,t,ht,hz,HN⟩:=M6 hL n n1 _ ⟨g.1,by omega⟩ (mE (c:=di (ab (Q2 6) (ab (Q2 3) (ab (Q2 10) (ab (Q2 8) ai))))) ([6,3,10,8]:Wg) rfl e d0 d1)
 have NZ:t.length<=14:=by omega
 have s1:=dE (j:=5) HN rfl (by show 5 < 7;decide)
 have fin:∀ (n':Int) (t:Tx) (LV:We),t.length<=14->Az t->∃ (UK:Int) (t':Tx) (Lw Pn:We),sX (j6 3 [] aE (ab (aa 5) ai)) (EB n' L many bk (Q0 (bk.length:Int)) (Q1 t) LV)=some (.nx (EB UK L many (bk++[t']) (Q0 (bk.length:Int)) Lw Pn))/\t'.length<=14/\Az t':=fun n' t LV h1 h2=>by
  refine ⟨n',t,Q1 t,LV,?_,h1,h2⟩
  rw [nM (i:=3) (l:=bk.map T.str) (v:=.str t) rfl rfl (by rw [Zt];omega)]
  show some (Out.nx [sp true n',Q1 L,Q0 many,oc (.lst (bk.map T.str++[.str t])),Q0 (bk.length:Int),Q1 t,LV])=_
  rw [show bk.map T.str++[.str t]=(bk++[t]).map T.str from by rw [ZD];rfl]
 by_cases hk:bk.length=0
 ·obtain ⟨n3,t3,a,b,f1,f2⟩:=fin n2 t z6 NZ hz
  refine ⟨n3,t3,a,b,sq s1 (sq ((uC (yI (m:=.fr) ?_)).trans rfl) f1),f2⟩
  refine e2v (x:=(.fr,.int (bk.length:Int))) (y:=(.fr,.int 0)) rfl rfl ?_
  show some (Md.fr,T.bl (decide ((0:Int) < (bk.length:Int))))=_
  rw [Za (by omega)]
 ·obtain ⟨d2,n3,a0,a1,e3⟩:=Nc (L:=L) (many:=many) (bk:=bk) (z4:=Q0 (bk.length:Int)) (z5:=Q1 t) (z6:=z6) n2 4 (by decide) (c:=Q2 4) rfl
  have tt:jd (e2 Ke (aa 4) (Q2 0)) (Lx (x2 oEq (aO [(.io 0 true),(.px (xI (Q2 4)))] ar) (xI (Q2 1)))) (EB n2 L many bk (Q0 (bk.length:Int)) (Q1 t) z6)=some (d2 == 1,EB n3 L many bk (Q0 (bk.length:Int)) (Q1 t) z6):=by
   refine (xA (m:=.fr) ?_).trans (um e3 (bS (m:=.fr) rfl rfl))
   refine e2v (x:=(.fr,.int (bk.length:Int))) (y:=(.fr,.int 0)) rfl rfl ?_
   show some (Md.fr,T.bl (decide ((0:Int) < (bk.length:Int))))=_
   rw [decide_eq_true (by omega)]
  cases hd:(d2 == 1) with
  | false =>
   rw [hd] at tt
   obtain ⟨n4,t3,a,b,f1,f2⟩:=fin n3 t z6 NZ hz
   exact ⟨n4,t3,a,b,sq s1 (sq ((uC tt).trans rfl) f1),f2⟩
  | true =>
   rw [hd] at tt
   obtain ⟨d3,n4,b0,b1,e4⟩:=Nc (L:=L) (many:=many) (bk:=bk) (z4:=Q0 (bk.length:Int)) (z5:=Q1 t) (z6:=z6) n3 (bk.length:Int) (by omega) (c:=aa 4) rfl
   have s5:=dE (j:=6) (vw (n:=3) bk rfl e4 rfl rfl b0 b1) rfl (by show 6 < 7;decide)
   have ho:=hb _ (fW (l:=bk) (i:=d3.toNat) (by omega))
   generalize bk.getD d3.toNat []=old at s5 ho
   obtain ⟨d4,n5,_,_,e5⟩:=Nc (L:=L) (many:=many) (bk:=bk) (z4:=Q0 (bk.length:Int)) (z5:=Q1 t) (z6:=Q1 old) n4 ((old.length:Int)+1) (by omega) (c:=e2 aN (eN bt (ab (aa 6) ai)) (Q2 1)) rfl
   have Ri:(cut old (some d4) none).length<=old.length:=xD old (some d4) none
   have y1:xI (aa 6) (EB n4 L many bk (Q0 (bk.length:Int)) (Q1 t) (Q1 old))=some ((.fr,.str old),_):=bS (m:=.fr) rfl rfl
   have y2:xI (aa 5) (EB n5 L many bk (Q0 (bk.length:Int)) (Q1 t) (Q1 old))=some ((.fr,.str t),_):=bS (m:=.fr) rfl rfl
   have y3:xI (Q2 14) (EB n5 L many bk (Q0 (bk.length:Int)) (Q1 t) (Q1 old))=some ((.fr,.int 14),_):=bS (m:=.fr) rfl rfl
   have s6:=dE (j:=5) (uA (jg (f:=aN) (uA (hi:=none) y1 (kD e5) rfl) y2 (g8 (by omega)) rfl rfl rfl) (lo:=none) rfl (kD y3)) rfl (by show 5 < 7;decide)
   obtain ⟨n6,t3,a,b,f1,f2⟩:=fin n5 (cut (cut old (some d4) none++t) none (some 14)) (Q1 old) (qU _ 14) (qg (jH (qg ho.2) hz))
   exact ⟨n6,t3,a,b,sq s1 (sq ((B9 tt).trans (sq s5 s6)) f1),f2⟩
def Dw {bk:List Tx} (h:∀ t∈bk,t.length<=14):(bk.map List.length).sum<=14 * bk.length:=by
 induction bk with
 | nil=>exact Zp _
 | cons a l ih =>
  have:=ih fun t ht=>h t (Zw _ ht)
  have:=h a Zu
  rw [Zl,Y0,Zm]
  omega
def xB (n:Int) (bk:List Tx):vO [.lst [.int n]] (.fr,.lst (bk.map .str))=true:=by
 unfold vO
 rw [Bool.or_eq_true]
 refine .inr ?_
 show (bk.map T.str).all zj=true
 rw [List.all_map]
 exact Yi.mpr fun _ _=>rfl
def mJ {α:Type} {m n:Md} (f:α->T) (l:List α) (d:α) (h:0 < l.length):ay (m,.lst (l.map f)) (n,.int (-1))=some (sub m (f (l.getD (l.length - 1) d))):=by
 show ((HH (l.map f).length (-1)).bind _)=_
 have:HH (l.map f).length (-1)=some (l.length - 1):=by
  unfold HH
  rw [Zt,Zo (by decide),Zq (by omega)]
  congr 1
  omega
 rw [this,Zx,ZP,Zs,Zr (by omega)]
 rfl
theorem uR (w:Tx):∀ k,(List.replicate k w).flatten.length=k * w.length
 | 0=>by rw [Nat.zero_mul];rfl
 | k+1=>by rw [YA,ZX,Zv,uR w k,Nat.succ_mul,Nat.add_comm]
def Co {L:Tx} (hL:0 < L.length/\L.length<=26/\Az L) (n:Int):∃ (n':Int) (bk:List Tx),ip [.lst [.int n],.str L]=some ([.lst [.int n']],.lst (bk.map .str))/\bk.length<=8/\(bk.map List.length).sum<=120/\∀ t∈bk,Az t:=by
 obtain ⟨d,n1,d0,d1,e⟩:=nx (i:=0) (un:=true) (m:=8) (n:=n) (x:=xI (Q2 8)) (U:=[sp true n,Q1 L,none,none,none,none,none]) (by decide) rfl (bS (m:=.fr) rfl rfl) rfl
 have hf:=Au d.toNat (by omega)
 have s1:=dE (j:=2) (mE (c:=(di (ab (Q2 2) (ab (Q2 1) (ab (Q2 3) (ab (Q2 2) (ab (Q2 4) (ab (Q2 0) (ab (Q2 1) (ab (Q2 8) ai)))))))))) ([2,1,3,2,4,0,1,8]:Wg) rfl e d0 d1) rfl (by show 2 < 7;decide)
 generalize ([2,1,3,2,4,0,1,8]:Wg).getD d.toNat 0=many at hf s1
 obtain ⟨U',f1,n2,bk,z4,z5,z6,rfl,_,hb,hlen⟩:=fq (tg:=bc 4) (body:=du) (fun (k:Nat)=>T.int (k:Int)) (fun r U=>∃ (n:Int) (bk:List Tx) (z4 z5 z6:We),U=EB n L many bk z4 z5 z6/\r=List.range' bk.length r.length/\(∀ t∈bk,t.length<=14/\Az t)/\bk.length+r.length=many.toNat) (by
  rintro k r _ ⟨n,bk,z4,z5,z6,rfl,hr,hb,hl⟩
  rw [Zm] at hl
  rw [Zm,Wm] at hr
  obtain ⟨rfl,QG⟩:=X1 hr
  obtain ⟨n',t,Lw,LV,e,h1,h2⟩:=wD (many:=many) hL hb (by omega) n z5 z6
  refine ⟨EB n L many bk (Q0 (bk.length:Int)) z5 z6,_,rfl,e,n',bk++[t],_,Lw,LV,rfl,by rw [Zv];exact QG,fun u hu=>?_,by rw [Zv,ZK];omega⟩
  rcases Zc.mp hu with h | h
  ·exact hb u h
  ·rw [Zf.mp h]
   exact ⟨h1,h2⟩) (List.range many.toNat) (EB n1 L many [] none none none) ⟨n1,[],none,none,none,rfl,by rw [ZQ];exact List.range_eq_range',(fun _ h=>nomatch h),by rw [ZQ];exact Xl _⟩
 have N7:bk.length=many.toNat:=hlen
 have s3:gA (bc 4) (cp (aa 2)) du (EB n1 L many [] none none none)=some (.nx (EB n2 L many bk z4 z5 z6)):=by
  refine (dF (m:=.fr) ?_ rfl).trans f1
  rw [eE (m:=.fr) (j:=many) rfl (by omega),gY]
 have fin:∀ {n3:Int} {TX:List Tx} (b:Sx),b (EB n2 L many bk z4 z5 z6)=some (.nx (EB n3 L many TX z4 z5 z6))->Ks 2 7 [false] (ak (b7 2 (lR (di (ab (Q2 2) (ab (Q2 1) (ab (Q2 3) (ab (Q2 2) (ab (Q2 4) (ab (Q2 0) (ab (Q2 1) (ab (Q2 8) ai))))))))) (aO [(.io 0 true),(.px (xI (Q2 8)))] ar))) (ak (jX 3 (di ai)) (ak (gA (bc 4) (cp (aa 2)) du) (ak b (eu 3))))) [.lst [.int n],.str L]=some ([.lst [.int n3]],.lst (TX.map .str)):=fun b hb =>
  mR (v:=(.fr,.lst (_:Wa))) ⟨rfl,rfl⟩ (sq s1 (sq (U1:=EB n1 L many [] none none none) rfl (sq s3 (sq hb rfl)))) rfl (xB _ _) rfl
 have Oi:bk.length<=8/\(bk.map List.length).sum<=120/\∀ t∈bk,Az t:=⟨by omega,by have:=Dw fun t ht=>(hb t ht).1;omega,fun t ht=>(hb t ht).2⟩
 obtain ⟨d2,n3,a0,a1,e3⟩:=Nc (L:=L) (many:=many) (bk:=bk) (z4:=z4) (z5:=z5) (z6:=z6) n2 6 (by decide) (c:=Q2 6) rfl
 by_cases hm:0 < many/\many < 3
 ·have tt:jd (dW oLt oLt (Q2 0) (aa 2) (Q2 3)) (Lx (x2 oEq (aO [(.io 0 true),(.px (xI (Q2 6)))] ar) (xI (Q2 1)))) (EB n2 L many bk z4 z5 z6)=some (d2 == 1,EB n3 L many bk z4 z5 z6):=by
   refine (xA (m:=.fr) (mf (x:=(.fr,.int 0)) (y:=(.fr,.int many)) (z:=(.fr,.int 3)) rfl rfl ?_ rfl ?_)).trans (um e3 (bS (m:=.fr) rfl rfl))
   ·show some (Md.fr,T.bl (decide ((0:Int) < many)))=_
    rw [decide_eq_true hm.1]
   ·show some (Md.fr,T.bl (decide (many < 3)))=_
    rw [decide_eq_true hm.2]
  cases hd:(d2 == 1) with
  | false =>
   rw [hd] at tt
   exact ⟨n3,bk,fin _ ((uC tt).trans rfl),Oi⟩
  | true =>
   rw [hd] at tt
   have LL:0 < bk.length:=by omega
   obtain ⟨n4,t,ht,hz,e4⟩:=M6 (bk:=bk) (z4:=z4) (z5:=z5) (z6:=z6) (many:=many) hL n3 n3 24 (by decide) (x:=xI (Q2 24)) (bS (m:=.fr) rfl rfl)
   obtain ⟨d3,n5,b0,b1,e5⟩:=Nc (L:=L) (many:=many) (bk:=bk) (z4:=z4) (z5:=z5) (z6:=z6) n4 2 (by decide) (c:=Q2 2) rfl
   have i0:e2 ay (aa 3) (Q2 0) (EB n3 L many bk z4 z5 z6)=some (.fr,.str (bk.getD 0 [])):=e2v (x:=(.bo,.lst (bk.map .str))) (y:=(.fr,.int ((0:Nat):Int))) rfl rfl (jE T.str bk 0 [] LL)
   have i1:e2 ay (aa 3) (Q2 (-1)) (EB n4 L many bk z4 z5 z6)=some (.fr,.str (bk.getD (bk.length - 1) [])):=e2v (x:=(.bo,.lst (bk.map .str))) (y:=(.fr,.int (-1))) rfl rfl (mJ T.str bk [] LL)
   have q0:=hb _ (fW (l:=bk) LL)
   have q1:=hb _ (fW (l:=bk) (i:=bk.length - 1) (by omega))
   generalize hA:bk.getD 0 []=A at i0 q0
   generalize bk.getD (bk.length - 1) []=B at i1 q1
   have xl:=jg (jg (bS i0 rfl) e4 (g8 (by omega)) rfl rfl rfl) (bS i1 rfl) (g8 (by rw [Zv];omega)) rfl rfl rfl
   have xr:=jg (f:=aN) (bS (c:=Q2 1) (m:=.fr) rfl rfl) e5 (u:=.int (1+d3)) rfl rfl rfl rfl
   have K5:(A++t++B).length<=52:=by rw [Zv,Zv];omega
   have Oa:Az (A++t++B):=jH (jH q0.2 hz) q1.2
   generalize A++t++B=w at xl K5 Oa
   have xx:=jg xl xr (f:=vC) (m:=.fr) (u:=.str (List.replicate (1+d3).toNat w).flatten) (by
    show (if w.length * (1+d3).toNat<=16777216/\-4611686018427387904<=1+d3/\1+d3 < 4611686018427387904 then _ else _)=_
    rw [Zq ⟨by
     have:w.length * (1+d3).toNat<=52 * 2:=Nat.mul_le_mul K5 (by omega)
     omega,by omega,by omega⟩]) rfl rfl rfl
   have hwl:(List.replicate (1+d3).toNat w).flatten.length<=104:=by
    rw [uR]
    have:(1+d3).toNat * w.length<=2 * 52:=Nat.mul_le_mul (by omega) K5
    omega
   have QA:Az (List.replicate (1+d3).toNat w).flatten:=fun c hc=>by
    obtain ⟨u,hu,HX⟩:=Wj.mp hc
    rw [(List.mem_replicate.mp hu).2] at HX
    exact Oa c HX
   generalize (List.replicate (1+d3).toNat w).flatten=W at xx hwl QA
   refine ⟨n5,bk.set 0 W,fin _ ((B9 tt).trans ?_),?_⟩
   ·refine (congrArg (fun z=>Option.bind z _) xx).trans ?_
    show dA 3 [] (Q2 0) (fun _=>some (.fr,.str W)) (EB n5 L many bk z4 z5 z6)=_
    show ((((HH (bk.map T.str).length 0).map fun j=>(T.lst ((bk.map T.str).set j (.str W)),())).map _):Option Out)=_
    rw [Zt,show HH bk.length 0=some 0 from vM (i:=0) LL]
    show some (Out.nx [sp true n5,Q1 L,Q0 many,oc (.lst ((bk.map T.str).set 0 (.str W))),z4,z5,z6])=_
    rw [show (bk.map T.str).set 0 (.str W)=(bk.set 0 W).map T.str from by rw [XT]]
   ·have:bk.length=1\/bk.length=2:=by omega
    rcases this with h | h
    ·obtain ⟨a,rfl⟩:=List.length_eq_one_iff.mp h
     refine ⟨by show 1<=8;decide,by show W.length+0<=120;omega,fun t ht=>?_⟩
     rw [Zf.mp (show t∈[W] from ht)]
     exact QA
    ·match bk,h with
     | [a,b],_ =>
      have Pe:=hb b (by simp)
      refine ⟨by show 2<=8;decide,by show W.length+(b.length+0)<=120;omega,fun t ht=>?_⟩
      rcases Zj.mp (show t∈[W,b] from ht) with rfl | ht
      ·exact QA
      ·rw [Zf.mp ht]
       exact Pe.2
 ·have tt:jd (dW oLt oLt (Q2 0) (aa 2) (Q2 3)) (Lx (x2 oEq (aO [(.io 0 true),(.px (xI (Q2 6)))] ar) (xI (Q2 1)))) (EB n2 L many bk z4 z5 z6)=some (false,EB n2 L many bk z4 z5 z6):=by
   refine yI (m:=.fr) ?_
   by_cases h0:0 < many
   ·refine mf (x:=(.fr,.int 0)) (y:=(.fr,.int many)) (z:=(.fr,.int 3)) rfl rfl ?_ rfl ?_
    ·show some (Md.fr,T.bl (decide ((0:Int) < many)))=_
     rw [decide_eq_true h0]
    ·show some (Md.fr,T.bl (decide (many < 3)))=_
     rw [Za (by omega)]
   ·refine Al (x:=(.fr,.int 0)) (y:=(.fr,.int many)) rfl rfl ?_
    show some (Md.fr,T.bl (decide ((0:Int) < many)))=_
    rw [Za h0]
  exact ⟨n2,bk,fin _ ((uC tt).trans rfl),Oi⟩
abbrev s1 (c:Nat):T:=.str [c]
def eq_int {a:Ex} {U:Env} {m:Md} {i:Int} (k:Int) (h:a U=some (m,.int i)):e2 oEq a (Q2 k) U=some (.fr,.bl (i == k)):=e2v h rfl (mN rfl rfl (by simp only [eqT]))
def mul_r {m n:Md} {i j:Int} (h:-18446744073709551616 < j/\j < 18446744073709551616):gy (m,.int i) (n,.int j)=some (.fr,.int (i * j)):=Zq (.inr h)
abbrev ES (ns:Wg) (k:Nat) (c:Int) (z3 z4 z5 z6:We):Env:=[pc (.Hw ns),Q0 k,Q0 c,z3,z4,z5,z6]
def rO (ns:Wg) (Ma:ns.length<=63) (k:Nat) (hk:k < 1000):∃ n,b9 [.Hw ns,.int k]=some (.fr,.lst [.int n]):=by
 have s1:aH 2 (e2 aN (e2 gy (aa 1) (Q2 7919)) (Q2 104729)) [pc (.Hw ns),Q0 k,none,none,none,none,none]=some (.nx (ES ns k (((k:Int) * 7919+104729)) none none none none)) :=
  aI (m:=.fr) (e2v (e2v (x:=(.fr,.int k)) (y:=(.fr,.int 7919)) rfl rfl (jF (by omega))) (y:=(.fr,.int 104729)) rfl rfl) (by decide) (by show 2 < 7;decide)
 have q2:∃ c,HB (e2 Ke (eN bt (ab (aa 0) ai)) (Q2 0)) (aH 2 (e2 aN (e2 ay (aa 0) (e2 oMod (aa 1) (eN bt (ab (aa 0) ai)))) (e2 gy (e2 jx (aa 1) (eN bt (ab (aa 0) ai))) (Q2 48271)))) dn (ES ns k (((k:Int) * 7919+104729)) none none none none)=some (.nx (ES ns k c none none none none)):=by
  have cg:e2 Ke (eN bt (ab (aa 0) ai)) (Q2 0) (ES ns k (((k:Int) * 7919+104729)) none none none none)=some (.fr,.bl (decide ((0:Int) < (ns.length:Int)))):=e2v (x:=(.fr,.int (ns.length:Int))) (y:=(.fr,.int 0)) rfl rfl rfl
  by_cases h:0 < ns.length
  ·have m0:=YJ (k:Int) (b:=(ns.length:Int)) (by omega)
   have m1:=YX (k:Int) (b:=(ns.length:Int)) (by omega)
   exact ⟨_,IG (cg.trans (by rw [decide_eq_true (by omega)])) (aI (m:=.fr) (e2v (e2v (x:=(.fr,.Hw ns)) rfl (e2v (x:=(.fr,.int k)) (y:=(.fr,.int (ns.length:Int))) rfl rfl (fQ (by omega))) (Bl ns _ m0 m1)) (e2v (e2v (x:=(.fr,.int k)) (y:=(.fr,.int (ns.length:Int))) rfl rfl (j7 (by omega))) (y:=(.fr,.int 48271)) rfl (mul_r (by decide))) rfl) (by decide) (by show 2 < 7;decide))⟩
  ·exact ⟨_,eK (cg.trans (by rw [Za (by omega)])) rfl⟩
 obtain ⟨c,q2⟩:=q2
 have c3:e2 oEq (e2 oMod (aa 2) (Q2 2)) (Q2 0) (ES ns k c none none none none)=some (.fr,.bl (c % 2 == 0)):=eq_int 0 (m:=.fr) (e2v (x:=(.fr,.int c)) (y:=(.fr,.int 2)) rfl rfl (fQ (by decide)))
 cases hb:(c % 2 == 0) with
 | true =>
  rw [hb] at c3
  refine ⟨c / 2,fM rfl (sq s1 (sq q2 (dX (IG c3 (fJ ?_)))))⟩
  unfold di
  rw [xv (r:=ai) (e2v (x:=(.fr,.int c)) (y:=(.fr,.int 2)) rfl rfl (j7 (by decide))) rfl]
  rfl
 | false =>
  rw [hb] at c3
  have q4:=aI (U:=(ES ns k c none none none none)) (i:=3) (m:=.fr) (e2v (e2v (f:=aN) (z:=(.fr,.int (c / 2+40503 * (k:Int)))) (e2v (x:=(.fr,.int c)) (y:=(.fr,.int 2)) (a:=aa 2) (b:=Q2 2) rfl rfl (j7 (by decide))) (e2v (x:=(.fr,.int 40503)) (y:=(.fr,.int k)) (a:=Q2 40503) (b:=aa 1) rfl rfl (jF (by decide))) rfl) (y:=(.fr,.int 2147483629)) (b:=Q2 2147483629) rfl (fQ (by decide))) (by decide) (by show 3 < 7;decide)
  have l0:=YJ (c / 2+40503 * (k:Int)) (b:=2147483629) (by decide)
  have l1:=YX (c / 2+40503 * (k:Int)) (b:=2147483629) (by decide)
  generalize (c / 2+40503 * (k:Int)) % 2147483629=left at q4 l0 l1
  obtain ⟨U',f1,l,n,z5,z6,rfl,_⟩:=fq (tg:=bc 5) (body:=fI) (fun (j:Nat)=>T.int (j:Int)) (fun r U=>∃ (l n:Int) (z5 z6:We),U=(ES ns k c (Q0 l) (Q0 n) z5 z6)/\0<=l/\l < 2147483647/\∀ j∈r,j < 24) (by
   rintro j r _ ⟨l,n,z5,z6,rfl,h0,h1,hj⟩
   have Kv:=hj j Zu
   have a1:aH 3 (e2 oMod (e2 aN (e2 aN (e2 gy (aa 3) (Q2 69621)) (e2 gy (Q2 7) (aa 5))) (Q2 1)) (Q2 2147483647)) (ES ns k c (Q0 l) (Q0 n) (Q0 (j:Int)) z6)=some (.nx (ES ns k c (Q0 ((l * 69621+7 * (j:Int)+1) % 2147483647)) (Q0 n) (Q0 (j:Int)) z6)) :=
    aI (m:=.fr) (e2v (e2v (e2v (e2v (x:=(.fr,.int l)) (y:=(.fr,.int 69621)) rfl rfl (jF (by omega))) (e2v (x:=(.fr,.int 7)) (y:=(.fr,.int (j:Int))) rfl rfl (jF (by decide))) rfl) (y:=(.fr,.int 1)) rfl rfl) (y:=(.fr,.int 2147483647)) rfl (fQ (by decide))) (by decide) (by show 3 < 7;decide)
   have g0:=YJ (l * 69621+7 * (j:Int)+1) (b:=2147483647) (by decide)
   have g1:=YX (l * 69621+7 * (j:Int)+1) (b:=2147483647) (by decide)
   generalize (l * 69621+7 * (j:Int)+1) % 2147483647=l2 at a1 g0 g1
   have a2:aH 6 (e2 oMod (e2 gy (aa 3) (aa 3)) (Q2 2147483629)) (ES ns k c (Q0 l2) (Q0 n) (Q0 (j:Int)) z6)=some (.nx (ES ns k c (Q0 l2) (Q0 n) (Q0 (j:Int)) (Q0 (l2 * l2 % 2147483629)))) :=
    aI (m:=.fr) (e2v (e2v (x:=(.fr,.int l2)) (y:=(.fr,.int l2)) rfl rfl (jF (by omega))) (y:=(.fr,.int 2147483629)) rfl (fQ (by decide))) (by decide) (by show 6 < 7;decide)
   have k0:=YJ (l2 * l2) (b:=2147483629) (by decide)
   have k1:=YX (l2 * l2) (b:=2147483629) (by decide)
   generalize l2 * l2 % 2147483629=mo at a2 k0 k1
   have a3:aH 4 (e2 aN (e2 gy (aa 4) (Q2 999983)) (e2 oMod (e2 gy (aa 6) (e2 aN (e2 oMod (aa 6) (Q2 65521)) (Q2 3))) (Q2 999983))) (ES ns k c (Q0 l2) (Q0 n) (Q0 (j:Int)) (Q0 mo))=some (.nx (ES ns k c (Q0 l2) (Q0 (n * 999983+mo * (mo % 65521+3) % 999983)) (Q0 (j:Int)) (Q0 mo))) :=
    aI (m:=.fr) (e2v (e2v (x:=(.fr,.int n)) (y:=(.fr,.int 999983)) rfl rfl (mul_r (by decide))) (e2v (e2v (x:=(.fr,.int mo)) rfl (e2v (e2v (x:=(.fr,.int mo)) (y:=(.fr,.int 65521)) rfl rfl (fQ (by decide))) (y:=(.fr,.int 3)) rfl rfl) (jF (by omega))) (y:=(.fr,.int 999983)) rfl (fQ (by decide))) rfl) (by decide) (by show 4 < 7;decide)
   exact ⟨_,_,rfl,sq a1 (sq a2 a3),l2,_,_,_,rfl,g0,g1,fun i hi=>hj i (Zw _ hi)⟩) (List.range 24) (ES ns k c (Q0 left) (Q0 0) none none) ⟨left,0,none,none,rfl,l0,by omega,fun j hj=>Ye.mp hj⟩
  have q6:gA (bc 5) (cp (Q2 24)) fI (ES ns k c (Q0 left) (Q0 0) none none)=some (.nx (ES ns k c (Q0 l) (Q0 n) z5 z6)):=by
   refine (dF (m:=.fr) ?_ rfl).trans f1
   rw [eE (m:=.fr) (j:=24) rfl (by decide),gY]
   rfl
  refine ⟨n,fM rfl (sq s1 (sq q2 (sq (eK c3 rfl) (sq q4 (sq (U1:=(ES ns k c (Q0 left) (Q0 0) none none)) rfl (sq q6 (fJ ?_)))))))⟩
  rfl
def zm (l:List Tx):HY 60 (.lst (l.map .str))=true:=by
 show ((l.map T.str).all (HY 59))=true
 rw [List.all_map]
 exact Yi.mpr fun _ _=>rfl
def ne_nil {U:Env} {a b:Ex} {m n:Md} {l:List Tx} (h1:a U=some (m,.lst (l.map .str))) (h2:b U=some (n,.lst [])):e2 Kd a b U=some (.fr,.bl (!l.isEmpty)):=e2v h1 h2 (vo (zm l) rfl (by cases l <;> rfl))
abbrev EV (n:Int) (bk:List Tx) (L w:Tx) (z4 z5 z6 z7:We):Env:=[sp true n,pc (.lst (bk.map .str)),Q1 L,Q1 w,z4,z5,z6,z7]
section
variable {L:Tx} {bk:List Tx} (hL:0 < L.length/\L.length<=26/\Az L) (hb:∀ t∈bk,t.length<=120/\Az t) (h8:bk.length<=8)
include hL hb h8
theorem wN {w:Tx} (hw:Az w) (hl:w.length<=10000) (n:Int) (z4 z5 z6 z7:We):∃ n' w' y5 y6 y7,eY (EV n bk L w z4 z5 z6 z7)=some (.nx (EV n' bk L w' z4 y5 y6 y7))/\Az w'/\w'.length<=w.length+120:=by
 have nv:∀ (n m:Int) (z5 z6 z7:We) (c:Ex),0 < m/\m < 1073741824->c (EV n bk L w z4 z5 z6 z7)=some (.fr,.int m)->∃ d n',0<=d/\d < m/\aO [.io 0 true,.px (xI c)] ar (EV n bk L w z4 z5 z6 z7)=some ((.fr,.int d),EV n' bk L w z4 z5 z6 z7):=fun n m z5 z6 z7 c hm hc=>nx (i:=0) (un:=true) (n:=n) hm rfl (bS hc rfl) rfl
 obtain ⟨d,n1,d0,d1,e⟩:=nv n 6 z5 z6 z7 (Q2 6) (by decide) rfl
 have q1:=dE (j:=5) e rfl (by show 5 < 8;decide)
 have ad:∀ (n2 n3:Int) (z6 z7:We) (x:Xx) (t:Tx),x (EV n2 bk L w z4 (Q0 d) z6 z7)=some ((.fr,.str t),EV n3 bk L w z4 (Q0 d) z6 z7)->t.length<=120->b7 3 (x2 aN (xI (aa 3)) x) (EV n2 bk L w z4 (Q0 d) z6 z7)=some (.nx (EV n3 bk L (w++t) z4 (Q0 d) z6 z7)):=fun n2 n3 z6 z7 x t h ht=>dE (j:=3) (jg (bS (m:=.fr) (t:=.str w) rfl rfl) h (g8 (by omega)) rfl rfl rfl) rfl (by show 3 < 8;decide)
 have le:∀ t:Tx,t.length<=120->(w++t).length<=w.length+120:=fun t h=>by rw [Zv];omega
 have c2:e2 oLt (aa 5) (Q2 2) (EV n1 bk L w z4 (Q0 d) z6 z7)=some (.fr,.bl (decide (d < 2))):=e2v (x:=(.fr,.int d)) (y:=(.fr,.int 2)) rfl rfl rfl
 by_cases h2:d < 2
 ·obtain ⟨n2,t,HN,ht,hz⟩:=yN L 7 n1 hL.1 (by omega) (by decide) (by decide)
  have NZ:t.length<=120:=ZG ht (by decide)
  exact ⟨n2,w++t,_,z6,z7,sq q1 (IG (c2.trans (by rw [decide_eq_true h2])) (ad n1 n2 z6 z7 _ t (cx (i:=0) (un:=true) (k:=1) (r:=[.px (xI (aa 2)),.px (xI (Q2 7))]) (l:=[.str L,.int 7]) (U1:=EV n1 bk L w z4 (Q0 d) z6 z7) rfl (oI (t:=.str L) (bS (m:=.fr) rfl rfl) rfl (oI (t:=.int 7) (bS (m:=.fr) rfl rfl) rfl rfl)) rfl rfl rfl rfl HN) NZ)),jH hw fun c h=>hL.2.2 c (hz c h),le t NZ⟩
 ·have c2:=c2.trans (by rw [Za h2])
  have c3:e2 oEq (aa 5) (Q2 2) (EV n1 bk L w z4 (Q0 d) z6 z7)=some (.fr,.bl (d == 2)):=eq_int 2 (m:=.fr) rfl
  by_cases h3:d=2
  ·obtain ⟨d',n2,a0,a1,e3⟩:=nv n1 26 (Q0 d) z6 z7 (Q2 26) (by decide) rfl
   have hm:=yJ _ (getD_mem' (l:=az) (i:=d'.toNat) (by show _ < 26;omega))
   exact ⟨n2,w++[az.getD d'.toNat 0],_,z6,z7,sq q1 (eK c2 (IG (c3.trans (by rw [h3];rfl)) (ad n1 n2 z6 z7 _ _ (jg (bS (m:=.fr) (t:=.str az) rfl rfl) e3 (ql az d' a0 a1) rfl rfl rfl) (by show 1<=120;decide)))),jH hw fun c h=>by rw [Zf.mp h];exact hm,le _ (by show 1<=120;decide)⟩
  ·have c3:=c3.trans (by rw [ZM.mpr h3])
   have c4:e2 Kd (aa 1) (di ai) (EV n1 bk L w z4 (Q0 d) z6 z7)=some (.fr,.bl (!bk.isEmpty)):=ne_nil (m:=.pu) (n:=.fr) rfl rfl
   cases Rj:bk.isEmpty with
   | true =>
    rw [Rj] at c4
    exact ⟨n1,w,_,z6,z7,sq q1 (eK c2 (eK c3 (eK c4 rfl))),hw,YO _ _⟩
   | false =>
    rw [Rj] at c4
    have hp:0 < bk.length:=by cases bk with
     | nil=>cases Rj
     | cons=>exact X9 _
    obtain ⟨d2,n2,a0,a1,e3⟩:=nv n1 (bk.length:Int) (Q0 d) z6 z7 (eN bt (ab (aa 1) ai)) (by omega) (jv (xv (r:=ai) (x:=(.pu,.lst (bk.map .str))) rfl rfl) (by show some (Md.fr,T.int (((bk.map T.str).length:Nat):Int))=_;rw [Zt]))
    have q5:=dE (j:=6) (vw (n:=1) bk rfl e3 rfl rfl a0 a1) rfl (by show 6 < 8;decide)
    have ho:=hb _ (fW (l:=bk) (i:=d2.toNat) (by omega))
    generalize bk.getD d2.toNat []=old at q5 ho
    obtain ⟨d3,n3,b0,b1,e4⟩:=nv n2 ((old.length:Int)+1) (Q0 d) (Q1 old) z7 (e2 aN (eN bt (ab (aa 6) ai)) (Q2 1)) (by omega) rfl
    have q6:=dE (j:=7) e4 rfl (by show 7 < 8;decide)
    obtain ⟨d4,n4,g0,g1,e5⟩:=nv n3 40 (Q0 d) (Q1 old) (Q0 d3) (Q2 40) (by decide) rfl
    have Ri:=xD old (some d3) (some (d3+1+d4))
    exact ⟨n4,w++cut old (some d3) (some (d3+1+d4)),_,_,_,sq q1 (eK c2 (eK c3 (IG c4 (sq q5 (sq q6 (ad n3 n4 _ _ _ _ (uA (bS (m:=.fr) (t:=.str old) rfl rfl) (kD (bS (m:=.fr) (t:=.int d3) rfl rfl)) (kD (jg (f:=aN) (bS (m:=.fr) (t:=.int (d3+1)) rfl rfl) e5 (u:=.int (d3+1+d4)) rfl rfl rfl rfl))) (by omega))))))),jH hw (qg ho.2),le _ (by omega)⟩
theorem Df (n:Int):∃ (n':Int) (w:Tx),eI [.lst [.int n],.lst (bk.map .str),.str L]=some ([.lst [.int n']],.str w)/\Az w/\w.length<=1000:=by
 obtain ⟨d,n1,d0,d1,e⟩:=nx (i:=0) (un:=true) (m:=5) (n:=n) (x:=xI (Q2 5)) (U:=EV n bk L [] none none none none) (by decide) rfl (bS (m:=.fr) rfl rfl) rfl
 obtain ⟨U',f1,n2,w,z4,z5,z6,z7,rfl,hw,hl⟩:=fq (tg:=bc 4) (body:=eY) (fun (k:Nat)=>T.int (k:Int)) (fun r U=>∃ (n:Int) (w:Tx) (z4 z5 z6 z7:We),U=EV n bk L w z4 z5 z6 z7/\Az w/\w.length+120 * r.length<=1000) (by
  rintro k r _ ⟨n,w,z4,z5,z6,z7,rfl,hw,hl⟩
  rw [Zm] at hl
  obtain ⟨n',w',y5,y6,y7,e,h1,h2⟩:=wN hL hb h8 hw (by omega) n (Q0 (k:Int)) z5 z6 z7
  exact ⟨_,_,rfl,e,n',w',_,y5,y6,y7,rfl,h1,by omega⟩) (List.range (1+d).toNat) (EV n1 bk L [] none none none none) ⟨n1,[],none,none,none,none,rfl,(fun _ h=>nomatch h),by rw [ZQ];show 0+_<=1000;omega⟩
 have q2:uZ (bc 4) (x2 aN (xI (Q2 1)) (aO [(.io 0 true),(.px (xI (Q2 5)))] ar)) eY (EV n bk L [] none none none none)=some (.nx (EV n2 bk L w z4 z5 z6 z7)):=by
  unfold uZ
  rw [jg (f:=aN) (bS (c:=Q2 1) (m:=.fr) rfl rfl) e (u:=.int (1+d)) rfl rfl rfl rfl]
  refine (dF (m:=.fr) ?_ rfl).trans f1
  rw [eE (m:=.fr) (j:=1+d) rfl (by omega),gY]
 exact ⟨n2,w,mR (v:=(.fr,.str w)) ⟨rfl,rfl⟩ (sq (U1:=EV n bk L [] none none none none) rfl (sq q2 rfl)) rfl rfl rfl,hw,by simpa using hl⟩
end
end T42
end
section
namespace T42
open VS AU
def l8 {c:Ex} {body:Sx} {n:Nat} {U U':Env} {m:Md} (h1:c U=some (m,.bl true)) (h2:body U=some (.nx U')):dH c body (n+1) U=dH c body n U':=by
 show (c U).bind _=_
 rw [h1]
 show (if true=true then (body U).bind _ else some (.nx U))=_
 rw [Zq rfl,h2]
 rfl
def fP {c:Ex} {body:Sx} {n:Nat} {U:Env} {m:Md} (h1:c U=some (m,.bl false)):dH c body (n+1) U=some (.nx U):=by
 show (c U).bind _=_
 rw [h1]
 rfl
def i6 {mv:List Bool} {g:Mt} {as:Hh} {xs:Wc} {S S':St} {v:T} {b:Bool} {r:List (We)} (ha:as (oc (GI S b) :: r)=some xs) (K7:argsOk mv xs=true) (Kg:aZ (trees xs)=true) (hg:g (Jx S) (trees xs)=some (Jx S',v)) (hv:GO v=true) :
  bx 0 [] 0 mv g as (oc (GI S b) :: r)=some ((.fr,v),oc (GI S' b) :: r):=by
 show ((some ([]:List Ky)).bind fun ks=>(as (oc (GI S b) :: r)).bind fun xs=>(pm (lN 0 mv g xs) ks (GI S b)).map fun z=>(z.2,(oc (GI S b) :: r).set 0 (oc z.1)))=_
 rw [Zx,ha,Zx]
 show ((if 1=0+1/\dP (Jx S)=true/\argsOk mv xs=true/\aZ (trees xs)=true then (g (Jx S) (trees xs)).bind fun z=>if dP z.1=true/\GO z.2=true then some (T.obj 1 ((0,.bl b) :: z.1),(Md.fr,z.2)) else none else none).map _)=_
 rw [Zq ⟨rfl,j5 S,K7,Kg⟩,hg,Zx,Zq ⟨j5 S',hv⟩]
 rfl
def CO {e:Ex} {S:St} {b:Bool} {r:List (We)} {v:Nat} (h:e (oc (GI S b) :: r)=some (.fr,.int (v:Int))) (hl:S.lg.length < 16777216):sX (iC 0 [.fld 1] aE (ab e ai)) (oc (GI S b) :: r)=some (.nx (oc (GI ⟨S.lg++[v],S.lk,S.wy⟩ b) :: r)):=by
 show (((some [Ky.fld 1]).bind fun ks=>(ab e ai (oc (GI S b) :: r)).bind fun xs=>(pm (fun x=>aE x xs) ks (GI S b)).map _).map _)=_
 rw [Zx,xv (r:=ai) h rfl,Zx]
 show (((aE (.lst (S.lg.map fun (n:Nat)=>T.int (n:Int))) [(.fr,.int (v:Int))]).map _).map _ |>.map _)=_
 rw [eT (by rw [Zt];exact hl),show (S.lg.map fun (n:Nat)=>T.int (n:Int))++[.int (v:Int)]=(S.lg++[v]).map fun (n:Nat)=>T.int (n:Int) from by rw [ZD];rfl]
 rfl
def Ck {e:Ex} {S:St} {b:Bool} {r:List (We)} {v:Option Nat} (h:e (oc (GI S b) :: r)=some (.fr,GY v)) (hl:S.lk.length < 16777216):sX (iC 0 [.fld 2] aE (ab e ai)) (oc (GI S b) :: r)=some (.nx (oc (GI ⟨S.lg,S.lk++[v],S.wy⟩ b) :: r)):=by
 show (((some [Ky.fld 2]).bind fun ks=>(ab e ai (oc (GI S b) :: r)).bind fun xs=>(pm (fun x=>aE x xs) ks (GI S b)).map _).map _)=_
 rw [Zx,xv (r:=ai) h rfl,Zx]
 show (((aE (.lst (S.lk.map GY)) [(.fr,GY v)]).map _).map _ |>.map _)=_
 rw [eT (by rw [Zt];exact hl),show (S.lk.map GY)++[GY v]=(S.lk++[v]).map GY from by rw [ZD];rfl]
 rfl
def Cw (o:Option Nat):up .pu (GY o)=(.fr,GY o):=by
 unfold up
 rw [lj]
 rfl
def yG (S:St) (l:Nat) (o:Option Nat) (w:List (Nat×Nat)) (h1:S.lg.length < 16777216) (h2:S.lk.length < 16777216) (h3:S.wy.length < 16777216):aF (Jx S) [.int (l:Int),GY o,G4 w]=some (Jx ⟨S.lg++[l],S.lk++[o],S.wy++[w]⟩,.int (S.lg.length:Int)):=by
 have a1:=CO (S:=S) (b:=true) (r:=[Q0 (l:Int),pc (GY o),oc (G4 w)]) (e:=aa 1) (v:=l) rfl h1
 have a2:=Ck (S:=⟨S.lg++[l],S.lk,S.wy⟩) (b:=true) (r:=[Q0 (l:Int),pc (GY o),oc (G4 w)]) (e:=aa 2) (v:=o) (congrArg some (Cw o)) h2
 have a3:nH 0 [.fld 3] 3 [oc (GI ⟨S.lg++[l],S.lk++[o],S.wy⟩ true),Q0 (l:Int),pc (GY o),oc (G4 w)]=some (.nx [oc (GI ⟨S.lg++[l],S.lk++[o],S.wy++[w]⟩ true),Q0 (l:Int),pc (GY o),none]):=by
  show ((aE (.lst (S.wy.map G4)) [(.fr,G4 w)]).map _ |>.map _)=_
  rw [eT (by rw [Zt];exact h3),show (S.wy.map G4)++[G4 w]=(S.wy++[w]).map G4 from by rw [ZD];rfl]
  rfl
 have a4:=fJ (e:=e2 p7 (eN bt (ab (aU 1 (aa 0)) ai)) (Q2 1)) (U:=[oc (GI ⟨S.lg++[l],S.lk++[o],S.wy++[w]⟩ true),Q0 (l:Int),pc (GY o),none]) (t:=.int (S.lg.length:Int)) (e2v (Dp (m:=.bo) rfl) rfl (by
  show some (Md.fr,T.int ((((S.lg++[l]).length:Nat):Int) - 1))=_
  rw [Zv,ZK,show (((S.lg.length+1:Nat)):Int) - 1=(S.lg.length:Int) by omega]))
 unfold aF Iy
 rw [Zq ⟨rfl,rfl⟩]
 have body:=sq (b:=ak (sX (iC 0 [.fld 2] aE (ab (aa 2) ai))) (ak (nH 0 [.fld 3] 3) (fm (e2 p7 (eN bt (ab (aU 1 (aa 0)) ai)) (Q2 1))))) a1 (sq a2 (sq a3 a4))
 exact congrArg (fun z:Option Out=>z.bind _) body
def C2 {c old v:Nat} (hc:97<=c/\c<=122):∀ (k:Nat) (S S':St) (o:Option Nat),WF S->v < S.lg.length->(∀ n,o=some n->n < S.lg.length)->LW c old v k S o=some S'->WF S'/\S'.lg=S.lg/\∃ o',∀ N,k < N->∀ z:We,
  dH (iJ (fj (aa 1)) (e2 oEq (e2 vN (e2 ay (aU 3 (aa 0)) (aa 1)) (aa 2)) (aa 3))) bH N [oc (GI S true),pc (GY o),Q1 ([c]),Q0 (old:Int),z,Q0 (v:Int)] =
   some (.nx [oc (GI S' true),pc (GY o'),Q1 ([c]),Q0 (old:Int),z,Q0 (v:Int)]):=by
 intro k
 induction k with
 | zero =>
  intro S S' o W hv ho e
  cases o with
  | none =>
   cases (show some S=some S' from e)
   refine ⟨W,rfl,none,fun N hN z=>?_⟩
   obtain ⟨N,rfl⟩:∃ Mq,N=Mq+1:=⟨N - 1,by omega⟩
   exact fP (m:=.fr) rfl
  | some n=>cases e
 | succ k ih =>
  intro S S' o W hv ho e
  cases o with
  | none =>
   cases (show some S=some S' from e)
   refine ⟨W,rfl,none,fun N hN z=>?_⟩
   obtain ⟨N,rfl⟩:∃ Mq,N=Mq+1:=⟨N - 1,by omega⟩
   exact fP (m:=.fr) rfl
  | some n =>
   have hn:=ho n rfl
   have IA:n < S.wy.length:=by rw [W.wy];exact hn
   have cond:∀ z:We,iJ (fj (aa 1)) (e2 oEq (e2 vN (e2 ay (aU 3 (aa 0)) (aa 1)) (aa 2)) (aa 3)) [oc (GI S true),Q0 (n:Int),Q1 ([c]),Q0 (old:Int),z,Q0 (v:Int)]=some (.fr,.bl (decide (gW (S.wy.getD n []) c=some old))):=fun z=>by
    refine qA (m:=.fr) (x:=true) rfl (fun _=>?_) (fun h=>by cases h)
    refine e2v (FF (m:=.bo) (mL (m:=.bo) (n:=.fr) rfl rfl IA) (n:=.fr) rfl) (y:=(.fr,.int (old:Int))) rfl ?_
    cases hg:gW (S.wy.getD n []) c with
    | none=>rw [Za (by simp)];exact mN rfl rfl rfl
    | some q =>
     refine (mN rfl rfl (show eqT (.int (q:Int)) (.int (old:Int))=decide (some q=some old) from ?_))
     simp only [eqT]
     by_cases h:q=old
     ·subst h;simp
     ·have h1:¬ (q:Int)=(old:Int):=by omega
      have h2:¬ some q=some old:=fun z=>h (Zn z)
      rw [Za h2]
      exact ZM.mpr h1
   unfold LW at e
   split at e
   ·rename_i hq
    have W':=W.way (n:=n) (c:=c) (v:=v) hv hc
    obtain ⟨w1,w2,o',w3⟩:=ih _ S' (S.lk.getD n none) W' hv (fun m hm=>W.up n m hm) e
    refine ⟨w1,w2,o',fun N hN z=>?_⟩
    obtain ⟨N,rfl⟩:∃ Mq,N=Mq+1:=⟨N - 1,by omega⟩
    refine (l8 (m:=.fr) ((cond z).trans (by rw [decide_eq_true hq])) ?_).trans (w3 N (by omega) z)
    unfold bH
    refine sq (yw (S:=S) (i:=n) (n:=.fr) (m:=.fr) (k:=.fr) (c:=c) (v:=v) IA rfl rfl rfl (W.small n)) ?_
    have Ku:n < S.lk.length:=by rw [W.lk];exact hn
    exact aI (m:=.fr) (t:=GY (S.lk.getD n none)) (vd (S:=⟨S.lg,S.lk,S.wy.set n (pW (S.wy.getD n []) c v)⟩) (m:=.bo) (n:=.fr) rfl rfl Ku) (by decide) (by decide:1 < 6)
   ·rename_i hq
    cases e
    refine ⟨W,rfl,some n,fun N hN z=>?_⟩
    obtain ⟨N,rfl⟩:∃ Mq,N=Mq+1:=⟨N - 1,by omega⟩
    exact fP (m:=.fr) ((cond z).trans (by rw [Za hq]))
def CL {c v:Nat} (hc:97<=c/\c<=122):∀ (k:Nat) (S S':St) (o o':Option Nat),WF S->v < S.lg.length->(∀ n,o=some n->n < S.lg.length)->up1 c v k S o=some (S',o')->WF S'/\S'.lg=S.lg/\(∀ n,o'=some n->n < S.lg.length)/\∀ N,k < N->∀ z:We,
  dH (iJ (fj (aa 4)) (e2 cP (aa 2) (e2 ay (aU 3 (aa 0)) (aa 4)))) bI N [oc (GI S true),z,Q1 ([c]),Q0 (v:Int),pc (GY o)] =
   some (.nx [oc (GI S' true),z,Q1 ([c]),Q0 (v:Int),pc (GY o')]):=by
 intro k
 induction k with
 | zero =>
  intro S S' o o' W hv ho e
  cases o with
  | none =>
   cases (show some (S,none)=some (S',o') from e)
   refine ⟨W,rfl,(fun n h=>nomatch h),fun N hN z=>?_⟩
   obtain ⟨N,rfl⟩:∃ Mq,N=Mq+1:=⟨N - 1,by omega⟩
   exact fP (m:=.fr) rfl
  | some n=>cases e
 | succ k ih =>
  intro S S' o o' W hv ho e
  cases o with
  | none =>
   cases (show some (S,none)=some (S',o') from e)
   refine ⟨W,rfl,(fun n h=>nomatch h),fun N hN z=>?_⟩
   obtain ⟨N,rfl⟩:∃ Mq,N=Mq+1:=⟨N - 1,by omega⟩
   exact fP (m:=.fr) rfl
  | some n =>
   have hn:=ho n rfl
   have IA:n < S.wy.length:=by rw [W.wy];exact hn
   have cond:∀ z:We,iJ (fj (aa 4)) (e2 cP (aa 2) (e2 ay (aU 3 (aa 0)) (aa 4))) [oc (GI S true),z,Q1 ([c]),Q0 (v:Int),Q0 (n:Int)]=some (.fr,.bl (!(gW (S.wy.getD n []) c).isSome)):=fun z =>
    qA (m:=.fr) (x:=true) rfl (fun _=>BM (m:=.bo) (n:=.fr) (mL (m:=.bo) (n:=.fr) rfl rfl IA) rfl) (fun h=>by cases h)
   unfold up1 at e
   split at e
   ·rename_i hq
    cases e
    refine ⟨W,rfl,ho,fun N hN z=>?_⟩
    obtain ⟨N,rfl⟩:∃ Mq,N=Mq+1:=⟨N - 1,by omega⟩
    exact fP (m:=.fr) ((cond z).trans (by rw [hq];rfl))
   ·rename_i hq
    have W':=W.way (n:=n) (c:=c) (v:=v) hv hc
    obtain ⟨w1,w2,w4,w3⟩:=ih _ S' (S.lk.getD n none) o' W' hv (fun m hm=>W.up n m hm) e
    refine ⟨w1,w2,w4,fun N hN z=>?_⟩
    obtain ⟨N,rfl⟩:∃ Mq,N=Mq+1:=⟨N - 1,by omega⟩
    have JK:(gW (S.wy.getD n []) c).isSome=false:=by simpa using hq
    refine (l8 (m:=.fr) ((cond z).trans (by rw [JK];rfl)) ?_).trans (w3 N (by omega) z)
    unfold bI
    refine sq (yw (S:=S) (i:=n) (n:=.fr) (m:=.fr) (k:=.fr) (c:=c) (v:=v) IA rfl rfl rfl (W.small n)) ?_
    have Ku:n < S.lk.length:=by rw [W.lk];exact hn
    exact aI (m:=.fr) (t:=GY (S.lk.getD n none)) (vd (S:=⟨S.lg,S.lk,S.wy.set n (pW (S.wy.getD n []) c v)⟩) (m:=.bo) (n:=.fr) rfl rfl Ku) (by decide) (by decide:4 < 5)
def Dh (a b:Nat) {m n:Md}:oEq (m,.int (a:Int)) (n,.int (b:Int))=some (.fr,.bl (decide (a=b))):=mN rfl rfl (by
 simp only [eqT]
 by_cases h:a=b
 ·subst h;simp
 ·rw [Za h]
  exact ZM.mpr (by omega))
def yQ {S S':St} {n c r:Nat} (W:WF S) (hs:Sm S) (hn:n < S.lg.length) (hc:97<=c/\c<=122) (e:LG S n c=some (S',r)):WF S'/\r < S'.lg.length/\S.lg.length<=S'.lg.length/\S'.lg.length<=S.lg.length+1/\au (Jx S) [.int (n:Int),.str [c]]=some (Jx S',.int (r:Int)):=by
 unfold LG at e
 obtain ⟨old,ho,e⟩:=Zz.mp e
 have hold:=W.on n c old ho
 have IA:n < S.wy.length:=by rw [W.wy];exact hn
 have how:old < S.wy.length:=by rw [W.wy];exact hold
 have hok:old < S.lk.length:=by rw [W.lk];exact hold
 have O7:S.lg.length<=100001:=hs
 unfold au Iy
 rw [Zq ⟨rfl,rfl⟩]
 have s1:=aI (i:=3) (m:=.fr) (e:=e2 IF (e2 ay (aU 3 (aa 0)) (aa 1)) (aa 2)) (U:=[oc (GI S true),Q0 (n:Int),Q1 ([c]),none,none,none]) (wa (m:=.bo) (n:=.fr) (mL (m:=.bo) (n:=.fr) rfl rfl IA) rfl ho) (by decide) (by decide:3 < 6)
 have s2:=aI (i:=4) (m:=.fr) (e:=e2 aN (e2 ay (aU 1 (aa 0)) (aa 1)) (Q2 1)) (U:=[oc (GI S true),Q0 (n:Int),Q1 ([c]),Q0 (old:Int),none,none]) (t:=.int ((S.lg.getD n 0+1:Nat):Int)) (e2v (sr (m:=.bo) (n:=.fr) rfl rfl hn) rfl rfl) (by decide) (by decide:4 < 6)
 have cd:e2 oEq (e2 ay (aU 1 (aa 0)) (aa 3)) (aa 4) [oc (GI S true),Q0 (n:Int),Q1 ([c]),Q0 (old:Int),Q0 ((S.lg.getD n 0+1:Nat):Int),none]=some (.fr,.bl (decide (S.lg.getD old 0=S.lg.getD n 0+1))):=e2v (sr (m:=.bo) (n:=.fr) rfl rfl hold) (y:=(.fr,.int ((S.lg.getD n 0+1:Nat):Int))) rfl (Dh _ _)
 split at e
 ·rename_i hq
  obtain ⟨rfl,rfl⟩:=Xd (Zn e)
  rw [decide_eq_true hq] at cd
  refine ⟨W,hold,Zp _,Xo _,?_⟩
  have body:∀ b:Sx,ak (aH 3 (e2 IF (e2 ay (aU 3 (aa 0)) (aa 1)) (aa 2))) (ak (aH 4 (e2 aN (e2 ay (aU 1 (aa 0)) (aa 1)) (Q2 1))) (ak (HB (e2 oEq (e2 ay (aU 1 (aa 0)) (aa 3)) (aa 4)) (eu 3) dn) b)) [oc (GI S true),Q0 (n:Int),Q1 ([c]),none,none,none]=some (.rt (.fr,.int (old:Int)) [oc (GI S true),Q0 (n:Int),Q1 ([c]),Q0 (old:Int),Q0 ((S.lg.getD n 0+1:Nat):Int),none]):=fun b =>
   sq s1 (sq s2 (dX (IG cd rfl)))
  exact congrArg (fun z:Option Out=>z.bind _) (body _)
 ·rename_i hq
  rw [Za hq] at cd
  obtain ⟨S2,HN,e3⟩:=Zy.mp e
  obtain ⟨rfl,rfl⟩:=Xd e3
  have wn:=W.Nv old
  have W1:=W.more (l:=S.lg.getD n 0+1) (o:=S.lk.getD old none) (w:=S.wy.getD old []) (fun m hm=>W.up old m hm) (fun d m hm=>W.on old d m hm) wn.1 wn.2
  have hlen:(S.lg++[S.lg.getD n 0+1]).length=S.lg.length+1:=by rw [Zv];rfl
  have W2:=W1.link (n:=old) (v:=S.lg.length) (by show S.lg.length < (S.lg++[S.lg.getD n 0+1]).length;omega)
  obtain ⟨w1,w2,o',w3⟩:=C2 hc 1000 _ S2 (some n) W2 (by show S.lg.length < (S.lg++[S.lg.getD n 0+1]).length;omega) (fun m hm=>by cases hm;show n < (S.lg++[S.lg.getD n 0+1]).length;omega) HN
  have Pw:S2.lg.length=S.lg.length+1:=by rw [w2];exact hlen
  refine ⟨w1,by omega,by omega,by omega,?_⟩
  have nw:=yG S (S.lg.getD n 0+1) (S.lk.getD old none) (S.wy.getD old []) (by omega) (by rw [W.lk];omega) (by rw [W.wy];omega)
  have args:ab (aa 4) (ab (e2 ay (aU 2 (aa 0)) (aa 3)) (ab (eN lE (ab (e2 ay (aU 3 (aa 0)) (aa 3)) ai)) ai)) [oc (GI S true),Q0 (n:Int),Q1 ([c]),Q0 (old:Int),Q0 ((S.lg.getD n 0+1:Nat):Int),none]=some [(.fr,.int ((S.lg.getD n 0+1:Nat):Int)),(.fr,GY (S.lk.getD old none)),(.fr,G4 (S.wy.getD old []))] :=
   xv rfl (xv (vd (m:=.bo) (n:=.fr) rfl rfl hok) (xv (jv (xv (mL (m:=.bo) (n:=.fr) rfl rfl how) rfl) (by
    show (if eO (((S.wy.getD old []).map fun p=>(T.str [p.1],T.int (p.2:Int))).map (·.2))=true then some (Md.fr,G4 (S.wy.getD old [])) else none)=_
    rw [Zq (by rw [Z4];exact rM _ (fun _=>rfl) _)])) rfl))
  have ao:argsOk [false,false,true] [(.fr,.int ((S.lg.getD n 0+1:Nat):Int)),(.fr,GY (S.lk.getD old none)),(.fr,G4 (S.wy.getD old []))]=true:=by
   show (true && (GO (GY (S.lk.getD old none)) && true))=true
   rw [lj]
   rfl
  have an:aZ (trees [(Md.fr,T.int ((S.lg.getD n 0+1:Nat):Int)),(.fr,GY (S.lk.getD old none)),(.fr,G4 (S.wy.getD old []))])=true:=by
   show (true && (dU (GY (S.lk.getD old none)) && (dU (G4 (S.wy.getD old [])) && true)))=true
   rw [kR _ (lj _),xp]
   rfl
  have cm:=i6 (b:=true) args ao an nw rfl
  have s3:b7 5 (bx 0 [] 0 [false,false,true] aF (ab (aa 4) (ab (e2 ay (aU 2 (aa 0)) (aa 3)) (ab (eN lE (ab (e2 ay (aU 3 (aa 0)) (aa 3)) ai)) ai)))) [oc (GI S true),Q0 (n:Int),Q1 ([c]),Q0 (old:Int),Q0 ((S.lg.getD n 0+1:Nat):Int),none]=some (.nx [oc (GI ⟨S.lg++[S.lg.getD n 0+1],S.lk++[S.lk.getD old none],S.wy++[S.wy.getD old []]⟩ true),Q0 (n:Int),Q1 ([c]),Q0 (old:Int),Q0 ((S.lg.getD n 0+1:Nat):Int),Q0 (S.lg.length:Int)]):=by
   unfold b7
   rw [cm]
   rfl
  have s4:=xC (S:=⟨S.lg++[S.lg.getD n 0+1],S.lk++[S.lk.getD old none],S.wy++[S.wy.getD old []]⟩) (b:=true) (r:=[Q0 (n:Int),Q1 ([c]),Q0 (old:Int),Q0 ((S.lg.getD n 0+1:Nat):Int),Q0 (S.lg.length:Int)]) (i:=old) (v:=S.lg.length) (n:=.fr) (e:=aa 3) (ev:=aa 5) (by show old < (S.lk++[S.lk.getD old none]).length;rw [Zv];omega) rfl rfl
  have s5:=w3 wq (by decide) (Q0 ((S.lg.getD n 0+1:Nat):Int))
  exact congrArg (fun z:Option Out=>z.bind _) (sq s1 (sq s2 (sq (eK cd rfl) (sq s3 (sq s4 (sq s5 rfl))))))
def Fe {S S':St} {h c r:Nat} (W:WF S) (O7:S.lg.length<=100000) (hh:h < S.lg.length) (hc:97<=c/\c<=122) (e:hb S h c=some (S',r)):WF S'/\r < S'.lg.length/\S.lg.length<=S'.lg.length/\S'.lg.length<=S.lg.length+2/\bG (Jx S) [.int (h:Int),.str [c]]=some (Jx S',.int (r:Int)):=by
 have hw:h < S.wy.length:=by rw [W.wy];exact hh
 unfold hb at e
 unfold bG Iy
 rw [Zq ⟨rfl,rfl⟩]
 have cd:e2 oi (aa 2) (e2 ay (aU 3 (aa 0)) (aa 1)) [oc (GI S true),Q0 (h:Int),Q1 ([c]),none,none]=some (.fr,.bl (gW (S.wy.getD h []) c).isSome):=FY (m:=.bo) (n:=.fr) (mL (m:=.bo) (n:=.fr) rfl rfl hw) rfl
 split at e
 ·rename_i hq
  rw [hq] at cd
  obtain ⟨w1,w2,w3,w4,w5⟩:=yQ W (Nat.le_succ_of_le O7) hh hc e
  refine ⟨w1,w2,w3,by omega,?_⟩
  have cm:=i6 (mv:=[false,false]) (as:=ab (aa 1) (ab (aa 2) ai)) (xs:=[(.fr,.int (h:Int)),(.fr,.str [c])]) (b:=true) (r:=[Q0 (h:Int),Q1 ([c]),none,none]) rfl rfl rfl w5 rfl
  have s1:kL (bx 0 [] 0 [false,false] au (ab (aa 1) (ab (aa 2) ai))) [oc (GI S true),Q0 (h:Int),Q1 ([c]),none,none]=some (.rt (.fr,.int (r:Int)) [oc (GI S' true),Q0 (h:Int),Q1 ([c]),none,none]):=by
   unfold kL
   rw [cm]
   rfl
  exact congrArg (fun z:Option Out=>z.bind _) (dX (IG cd s1))
 ·rename_i hq
  have JK:(gW (S.wy.getD h []) c).isSome=false:=by simpa using hq
  rw [JK] at cd
  obtain ⟨⟨S2,o⟩,e1,HN⟩:=Zz.mp e
  have W1:=W.more (l:=S.lg.getD h 0+1) (o:=some 0) (w:=[]) (fun m hm=>by cases hm;exact W.pos) (fun d m hm=>by cases hm) Z9 (fun p hp=>nomatch hp)
  have hlen:(S.lg++[S.lg.getD h 0+1]).length=S.lg.length+1:=by rw [Zv];rfl
  obtain ⟨w1,w2,w3,w4⟩:=CL hc 1000 _ S2 (some h) o W1 (by show S.lg.length < (S.lg++[S.lg.getD h 0+1]).length;omega) (fun m hm=>by cases hm;show h < (S.lg++[S.lg.getD h 0+1]).length;omega) e1
  have Pw:S2.lg.length=S.lg.length+1:=by rw [w2];exact hlen
  have nw:=yG S (S.lg.getD h 0+1) (some 0) [] (by omega) (by rw [W.lk];omega) (by rw [W.wy];omega)
  have args:ab (e2 aN (e2 ay (aU 1 (aa 0)) (aa 1)) (Q2 1)) (ab (Q2 0) (ab (qO 0 []) ai)) [oc (GI S true),Q0 (h:Int),Q1 ([c]),none,none]=some [(.fr,.int ((S.lg.getD h 0+1:Nat):Int)),(.fr,.int 0),(.fr,.GL 0 [])] :=
   xv (e2v (sr (m:=.bo) (n:=.fr) rfl rfl hh) rfl rfl) (xv rfl (xv rfl rfl))
  have cm:=i6 (mv:=[false,false,true]) (b:=true) args rfl rfl nw rfl
  have s1:b7 3 (bx 0 [] 0 [false,false,true] aF (ab (e2 aN (e2 ay (aU 1 (aa 0)) (aa 1)) (Q2 1)) (ab (Q2 0) (ab (qO 0 []) ai)))) [oc (GI S true),Q0 (h:Int),Q1 ([c]),none,none]=some (.nx [oc (GI ⟨S.lg++[S.lg.getD h 0+1],S.lk++[some 0],S.wy++[[]]⟩ true),Q0 (h:Int),Q1 ([c]),Q0 (S.lg.length:Int),none]):=by
   unfold b7
   rw [cm]
   rfl
  have s2:=w4 wq (by decide) (Q0 (h:Int))
  have hd:∀ b:Sx,ak (HB (e2 oi (aa 2) (e2 ay (aU 3 (aa 0)) (aa 1))) (kL (bx 0 [] 0 [false,false] au (ab (aa 1) (ab (aa 2) ai)))) dn)
    (ak (b7 3 (bx 0 [] 0 [false,false,true] aF (ab (e2 aN (e2 ay (aU 1 (aa 0)) (aa 1)) (Q2 1)) (ab (Q2 0) (ab (qO 0 []) ai)))))
    (ak (aH 4 (aa 1)) (ak (lq (iJ (fj (aa 4)) (e2 cP (aa 2) (e2 ay (aU 3 (aa 0)) (aa 4)))) bI) b))) [oc (GI S true),Q0 (h:Int),Q1 ([c]),none,none] =
    b [oc (GI S2 true),Q0 (h:Int),Q1 ([c]),Q0 (S.lg.length:Int),pc (GY o)]:=fun b =>
   sq (eK cd rfl) (sq s1 (sq rfl (qq s2)))
  cases o with
  | none =>
   obtain ⟨rfl,rfl⟩:=Xd (Zn HN)
   have fin:ak (HB (fj (aa 4)) (i3 0 [.fld 2] (aa 3) (bx 0 [] 0 [false,false] au (ab (aa 4) (ab (aa 2) ai)))) dn) (eu 3) [oc (GI S2 true),Q0 (h:Int),Q1 ([c]),Q0 (S.lg.length:Int),pc (GY none)] =
     some (.rt (.fr,.int (S.lg.length:Int)) [oc (GI S2 true),Q0 (h:Int),Q1 ([c]),Q0 (S.lg.length:Int),pc (GY none)]):=sq (eK (m:=.fr) rfl rfl) rfl
   refine ⟨w1,by show S.lg.length < S2.lg.length;omega,by show S.lg.length<=S2.lg.length;omega,by show S2.lg.length<=_;omega,?_⟩
   exact congrArg (fun z:Option Out=>z.bind _) ((hd _).trans fin)
  | some n =>
   obtain ⟨⟨S3,m⟩,e3,e4⟩:=Zy.mp HN
   obtain ⟨rfl,rfl⟩:=Xd e4
   have hn:n < S2.lg.length:=by
    have:=w3 n rfl
    rw [w2]
    exact this
   obtain ⟨v1,v2,v3,v4,v5⟩:=yQ w1 (by show S2.lg.length<=100001;omega) hn hc e3
   have v6:=v1.link (n:=S.lg.length) (v:=m) v2
   have cm:=i6 (mv:=[false,false]) (as:=ab (aa 4) (ab (aa 2) ai)) (xs:=[(.fr,.int (n:Int)),(.fr,.str [c])]) (b:=true) (r:=[Q0 (h:Int),Q1 ([c]),Q0 (S.lg.length:Int),Q0 (n:Int)]) rfl rfl rfl v5 rfl
   have pl:=xC (S:=S3) (b:=true) (r:=[Q0 (h:Int),Q1 ([c]),Q0 (S.lg.length:Int),Q0 (n:Int)]) (i:=S.lg.length) (v:=m) (n:=.fr) (e:=aa 3) (ev:=fun _=>some (.fr,.int (m:Int))) (by rw [v1.lk];omega) rfl rfl
   have s3:i3 0 [.fld 2] (aa 3) (bx 0 [] 0 [false,false] au (ab (aa 4) (ab (aa 2) ai))) [oc (GI S2 true),Q0 (h:Int),Q1 ([c]),Q0 (S.lg.length:Int),Q0 (n:Int)]=some (.nx [oc (GI ⟨S3.lg,S3.lk.set S.lg.length (some m),S3.wy⟩ true),Q0 (h:Int),Q1 ([c]),Q0 (S.lg.length:Int),Q0 (n:Int)]):=by
    unfold i3
    rw [cm]
    exact pl
   have fin:ak (HB (fj (aa 4)) (i3 0 [.fld 2] (aa 3) (bx 0 [] 0 [false,false] au (ab (aa 4) (ab (aa 2) ai)))) dn) (eu 3) [oc (GI S2 true),Q0 (h:Int),Q1 ([c]),Q0 (S.lg.length:Int),Q0 (n:Int)] =
     some (.rt (.fr,.int (S.lg.length:Int)) [oc (GI ⟨S3.lg,S3.lk.set S.lg.length (some m),S3.wy⟩ true),Q0 (h:Int),Q1 ([c]),Q0 (S.lg.length:Int),Q0 (n:Int)]):=sq (IG (m:=.fr) rfl s3) rfl
   refine ⟨v6,by show S.lg.length < S3.lg.length;omega,by show S.lg.length<=S3.lg.length;omega,by show S3.lg.length<=_;omega,?_⟩
   exact congrArg (fun z:Option Out=>z.bind _) ((hd _).trans fin)
theorem yd {S S':St}:∀ {word:Wh} {h r:Nat},WF S->S.lg.length+2 * word.length<=100000->h < S.lg.length->(∀ c∈word,97<=c/\c<=122)->hg S h word=some (S',r) →
  WF S'/\r < S'.lg.length/\S'.lg.length<=S.lg.length+2 * word.length/\∀ z3:We,∀ z2:T,∃ Po,forL (bc 3) bV (word.map fun c=>T.str [c]) [oc (GI S true),Q0 (h:Int),pc z2,z3]=some (.nx [oc (GI S' true),Q0 (r:Int),pc z2,Po])
 | [],h,r,W,hl,hh,hc,e=>by
  obtain ⟨rfl,rfl⟩:=Xd (Zn e)
  exact ⟨W,hh,by simp,fun z3 z2=>⟨z3,rfl⟩⟩
 | c :: word,h,r,W,hl,hh,hc,e=>by
  obtain ⟨⟨S1,h1⟩,e1,HN⟩:=Zz.mp e
  rw [Zm] at hl
  obtain ⟨w1,w2,w3,w4,w5⟩:=Fe W (by omega) hh (hc c Zu) e1
  obtain ⟨v1,v2,v3,v4⟩:=yd (S:=S1) (S':=S') (word:=word) w1 (by omega) w2 (fun d hd=>hc d (Zw _ hd)) HN
  refine ⟨v1,v2,by rw [Zm];omega,fun z3 z2=>?_⟩
  obtain ⟨Po,q⟩:=v4 (Q1 ([c])) z2
  refine ⟨Po,?_⟩
  rw [Zl]
  refine (iy (U1:=[oc (GI S true),Q0 (h:Int),pc z2,Q1 ([c])]) rfl ?_).trans q
  have cm:=i6 (mv:=[false,false]) (as:=ab (aa 1) (ab (aa 3) ai)) (xs:=[(.fr,.int (h:Int)),(.fr,.str [c])]) (b:=true) (r:=[Q0 (h:Int),pc z2,Q1 ([c])]) rfl rfl rfl w5 rfl
  unfold bV b7
  rw [cm]
  rfl
def B8 {S S':St} {word:Tx} {h r:Nat} (W:WF S) (hl:S.lg.length+2 * word.length<=100000) (hh:h < S.lg.length) (hc:∀ c∈word,97<=c/\c<=122) (e:hg S h word=some (S',r)) :
  WF S'/\r < S'.lg.length/\S'.lg.length<=S.lg.length+2 * word.length/\aL (Jx S) [.int (h:Int),.str word]=some (Jx S',.int (r:Int)):=by
 obtain ⟨w1,w2,w3,w4⟩:=yd W hl hh hc e
 obtain ⟨z3,q⟩:=w4 none (.str word)
 refine ⟨w1,w2,w3,?_⟩
 unfold aL Iy
 rw [Zq ⟨rfl,rfl⟩]
 have s1:=(dF (tg:=bc 3) (it:=ik (aa 2)) (body:=bV) (U:=[oc (GI S true),Q0 (h:Int),Q1 word,none]) (m:=.fr) (l:=word.map fun c=>T.str [c]) rfl rfl).trans q
 exact congrArg (fun z:Option Out=>z.bind _) (sq s1 rfl)
end T42
end
section
namespace AU
abbrev Wd:=Wh
abbrev W (wd:List Wd) (n:Nat):Wd:=wd.getD n []
structure I (fr:Option Nat) (S:St) (nd:Wd->Option Nat) (wd:List Wd):Prop where
 wf:WF S
 len:wd.length=S.lg.length
 lg:∀ n,n < wd.length->S.lg.getD n 0=(W wd n).length
 z:nd []=some 0
 wz:W wd 0=[]
 lt:∀ {x n},nd x=some n->n < wd.length
 sf:∀ {x n},nd x=some n->x <:+ W wd n
 top:∀ {n},n < wd.length->nd (W wd n)=some n
 iv:∀ {x y n},nd x=some n->x <:+ y->y <:+ W wd n->nd y=some n
 pre:∀ {x c n},nd (x++[c])=some n->∃ m,nd x=some m
 Kp:∀ {x y n},nd y=some n->x <:+ y->∃ m,nd x=some m
 NT:S.lk.getD 0 none=none
 lk:∀ {n},0 < n->n < wd.length->some n ≠ fr->∃ m,S.lk.getD n none=some m/\(m < wd.length/\some m ≠ fr)/\W wd m <:+ W wd n/\(W wd m).length < (W wd n).length/\∀ y,y <:+ W wd n->(W wd m).length < y.length->nd y=some n
 wy:∀ {x n},nd x=some n->∀ c,gW (S.wy.getD n []) c=nd (x++[c])
def df {α:Type} {x y w:List α} (h1:x <:+ w) (h2:y <:+ w) (hl:x.length<=y.length):x <:+ y:=List.suffix_of_suffix_length_le h1 h2 hl
section
variable {fr:Option Nat} {S:St} {nd:Wd->Option Nat} {wd:List Wd}
def I.up (H:I fr S nd wd):∀ (k n:Nat) (x:Wd),(W wd n).length<=k->n < wd.length->some n ≠ fr->x <:+ W wd n->∃ m,nd x=some m/\W wd m <:+ W wd n:=by
 intro k
 induction k with
 | zero =>
  intro n x hk hn hf hx
  have e:W wd n=[]:=Ys.mp (Xp.mp hk)
  rw [e] at hx
  have:x=[]:=YU.mp hx
  subst this
  exact ⟨0,H.z,by rw [H.wz];exact Xn⟩
 | succ k ih =>
  intro n x hk hn hf hx
  by_cases h0:n=0
  ·subst h0
   rw [H.wz] at hx
   have:x=[]:=YU.mp hx
   subst this
   exact ⟨0,H.z,Z8 _⟩
  ·obtain ⟨m,h1,⟨h2,Iu⟩,h3,h4,h5⟩:=H.lk (Xi h0) hn hf
   by_cases hl:(W wd m).length < x.length
   ·exact ⟨n,h5 x hx hl,Z8 _⟩
   ·obtain ⟨q,q1,q2⟩:=ih m x (by omega) h2 Iu (df hx h3 (by omega))
    exact ⟨q,q1,q2.trans h3⟩
def I.OM (H:I fr S nd wd) {n:Nat} {x:Wd} (hn:n < wd.length) (hf:some n ≠ fr) (hx:x <:+ W wd n):∃ m,nd x=some m/\W wd m <:+ W wd n:=H.up _ n x (Zp _) hn hf hx
def I.all (H:I fr S nd wd) {n q:Nat} {x y:Wd} (hq:q < wd.length) (hf:some q ≠ fr) (hx:nd x=some n) (hy:nd y=some n) (h:x <:+ W wd q):y <:+ W wd q:=by
 obtain ⟨m,h1,h2⟩:=H.OM hq hf h
 rw [hx] at h1
 cases h1
 exact (H.sf hy).trans h2
def I.inj (H:I fr S nd wd) {m n:Nat} (hm:m < wd.length) (hn:n < wd.length) (h:W wd m=W wd n):m=n:=by
 have:=H.top hm
 rw [h,H.top hn] at this
 exact (Zn this).symm
def I.way (H:I fr S nd wd) {n c old:Nat} (hn:n < wd.length) (h:gW (S.wy.getD n []) c=some old):nd (W wd n++[c])=some old:=by
 rw [← H.wy (H.top hn) c]
 exact h
def I.zero (H:I fr S nd wd) {x:Wd} (h:nd x=some 0):x=[]:=by
 have:=H.sf h
 rw [H.wz] at this
 exact YU.mp this
def I.low (H:I fr S nd wd) {n m:Nat} {y:Wd} (hf:some n ≠ fr) (hl:S.lk.getD n none=some m) (hy:nd y=some n):(W wd m).length < y.length/\m < wd.length/\W wd m <:+ W wd n/\some m ≠ fr:=by
 have hn:=H.lt hy
 by_cases h0:n=0
 ·subst h0;rw [H.NT] at hl;cases hl
 ·obtain ⟨m',h1,⟨h2,Iu⟩,h3,h4,h5⟩:=H.lk (Xi h0) hn hf
  rw [h1] at hl
  cases hl
  refine ⟨XZ fun hle=>?_,h2,h3,Iu⟩
  have:=H.iv hy (df (H.sf hy) h3 hle) h3
  rw [H.top h2] at this
  cases this
  exact Yh _ h4
def I.below (H:I fr S nd wd) {n q m:Nat} (hn:n < wd.length) (hf:some n ≠ fr) (hl:S.lk.getD n none=some q) (hm:m < wd.length) (hs:W wd m <:+ W wd n) (Ie:m ≠ n):W wd m <:+ W wd q:=by
 by_cases h0:n=0
 ·subst h0;rw [H.NT] at hl;cases hl
 ·obtain ⟨q',h1,⟨h2,_⟩,h3,h4,h5⟩:=H.lk (Xi h0) hn hf
  rw [h1] at hl
  cases hl
  refine df hs h3 (ZE fun Ig=>Ie ?_)
  have:=h5 _ hs Ig
  rw [H.top hm] at this
  exact Zn this
def I.root (H:I fr S nd wd) {n m:Nat} (hn:n < wd.length) (hf:some n ≠ fr) (hl:S.lk.getD n none=none) (hm:m < wd.length) (hs:W wd m <:+ W wd n):m=n:=by
 have h0:n=0:=Nat.eq_zero_of_not_pos fun hp=>by
  obtain ⟨q,h1,_⟩:=H.lk hp hn hf
  rw [h1] at hl
  cases hl
 subst h0
 rw [H.wz] at hs
 exact H.inj hm hn (by rw [H.wz,YU.mp hs])
def gv (wy:List (List (Nat×Nat))) (n m c v d:Nat) (hn:n < wy.length):gW ((wy.set n (pW (wy.getD n []) c v)).getD m []) d=if m=n/\d=c then some v else gW (wy.getD m []) d:=by
 rw [hJ]
 by_cases h:n=m
 ·subst h
  rw [Zq ⟨rfl,hn⟩,BU]
  by_cases hd:d=c
  ·rw [Zq hd,Zq ⟨rfl,hd⟩]
  ·rw [Zo hd,Zo (fun z=>hd z.2)]
 ·rw [Zo (fun z=>h z.1),Zo (fun z=>h z.1.symm)]
def I.MT (H:I fr S nd wd) {c old v:Nat}:∀ (k:Nat) (T:St) (n:Nat),n < wd.length->some n ≠ fr->(W wd n).length < k->(∀ m,m < wd.length->W wd m <:+ W wd n->T.lk.getD m none=S.lk.getD m none)->wd.length<=T.wy.length →
  (∀ m m',m < wd.length->m' < wd.length->W wd m <:+ W wd m'->W wd m' <:+ W wd n->gW (T.wy.getD m []) c=some old->gW (T.wy.getD m' []) c=some old) →
  ∃ Jj,LW c old v k T (some n)=some ⟨T.lg,T.lk,Jj⟩/\Jj.length=T.wy.length/\∀ m d,gW (Jj.getD m []) d=if d=c/\m < wd.length/\W wd m <:+ W wd n/\gW (T.wy.getD m []) c=some old then some v else gW (T.wy.getD m []) d:=by
 intro k
 induction k with
 | zero=>intro T n _ _ h;omega
 | succ k ih =>
  intro T n hn hf hk Ku hw mono
  have IA:n < T.wy.length:=ZO hn hw
  unfold LW
  by_cases hq:gW (T.wy.getD n []) c=some old
  ·rw [Zq hq,Ku n hn (Z8 _)]
   cases hl:S.lk.getD n none with
   | none =>
    refine ⟨T.wy.set n (pW (T.wy.getD n []) c v),by cases k <;> rfl,Z6,fun m d=>?_⟩
    rw [gv _ _ _ _ _ _ IA]
    by_cases hm:m=n/\d=c
    ·rw [Zq hm,Zq ⟨hm.2,by rw [hm.1];exact hn,by rw [hm.1];exact Z8 _,by rw [hm.1];exact hq⟩]
    ·rw [Zo hm,Zo fun z=>hm ⟨H.root hn hf hl z.2.1 z.2.2.1,z.1⟩]
   | some q =>
    obtain ⟨l1,l2,l3,l4⟩:=H.low hf hl (H.top hn)
    have ne:∀ m,W wd m <:+ W wd q->m ≠ n:=fun m hm e=>by
     rw [e] at hm
     have:=hm.length_le
     omega
    obtain ⟨Jj,e1,e2,e3⟩:=ih ⟨T.lg,T.lk,T.wy.set n (pW (T.wy.getD n []) c v)⟩ q l2 l4 (by omega) (fun m hm hs=>Ku m hm (hs.trans l3)) (by show _<=(T.wy.set _ _).length;rw [Z6];exact hw) (fun m m' hm Ip hs HJ h=>by
     have h':gW ((T.wy.set n (pW (T.wy.getD n []) c v)).getD m []) c=some old:=h
     show gW ((T.wy.set n (pW (T.wy.getD n []) c v)).getD m' []) c=some old
     rw [gv _ _ _ _ _ _ IA,Zo (fun z=>ne m (hs.trans HJ) z.1)] at h'
     rw [gv _ _ _ _ _ _ IA,Zo (fun z=>ne m' HJ z.1)]
     exact mono m m' hm Ip hs (HJ.trans l3) h')
    refine ⟨Jj,e1,by rw [e2];exact Z6,fun m d=>?_⟩
    rw [e3 m d]
    show (if d=c/\m < wd.length/\W wd m <:+ W wd q/\gW ((T.wy.set n (pW (T.wy.getD n []) c v)).getD m []) c=some old then some v else gW ((T.wy.set n (pW (T.wy.getD n []) c v)).getD m []) d)=_
    by_cases hm:m=n
    ·subst hm
     rw [Zo (fun z=>ne m z.2.2.1 rfl),gv _ _ _ _ _ _ IA]
     by_cases hd:d=c
     ·rw [Zq ⟨rfl,hd⟩,Zq ⟨hd,hn,Z8 _,hq⟩]
     ·rw [Zo (fun z=>hd z.2),Zo (fun z=>hd z.1)]
    ·have g1:∀ d,gW ((T.wy.set n (pW (T.wy.getD n []) c v)).getD m []) d=gW (T.wy.getD m []) d:=fun d=>by rw [gv _ _ _ _ _ _ IA,Zo (fun z=>hm z.1)]
     rw [g1,g1]
     by_cases hc:d=c/\m < wd.length/\W wd m <:+ W wd n/\gW (T.wy.getD m []) c=some old
     ·rw [Zq hc,Zq ⟨hc.1,hc.2.1,H.below hn hf hl hc.2.1 hc.2.2.1 hm,hc.2.2.2⟩]
     ·rw [Zo hc,Zo fun z=>hc ⟨z.1,z.2.1,z.2.2.1.trans l3,z.2.2.2⟩]
  ·rw [Zo hq]
   refine ⟨T.wy,rfl,rfl,fun m d=>?_⟩
   rw [Zo fun z=>hq (mono m n z.2.1 hn z.2.2.1 (Z8 _) z.2.2.2)]
def I.MU (H:I fr S nd wd) {c v:Nat}:∀ (k:Nat) (T:St) (n:Nat),n < wd.length->some n ≠ fr->(W wd n).length < k->(∀ m,m < wd.length->W wd m <:+ W wd n->T.lk.getD m none=S.lk.getD m none)->wd.length<=T.wy.length →
  (∀ m m',m < wd.length->m' < wd.length->W wd m <:+ W wd m'->W wd m' <:+ W wd n->(gW (T.wy.getD m' []) c).isSome->(gW (T.wy.getD m []) c).isSome) →
  ∃ Jj o',up1 c v k T (some n)=some (⟨T.lg,T.lk,Jj⟩,o')/\Jj.length=T.wy.length/\(∀ m d,gW (Jj.getD m []) d=if d=c/\m < wd.length/\W wd m <:+ W wd n/\gW (T.wy.getD m []) c=none then some v else gW (T.wy.getD m []) d) ∧
   (o'=none->∀ m,m < wd.length->W wd m <:+ W wd n->gW (T.wy.getD m []) c=none) ∧
   ∀ p,o'=some p->p < wd.length/\W wd p <:+ W wd n/\(gW (T.wy.getD p []) c).isSome/\∀ m,m < wd.length->W wd m <:+ W wd n->(W wd p).length < (W wd m).length->gW (T.wy.getD m []) c=none:=by
 intro k
 induction k with
 | zero=>intro T n _ _ h;omega
 | succ k ih =>
  intro T n hn hf hk Ku hw mono
  have IA:n < T.wy.length:=ZO hn hw
  unfold up1
  by_cases hq:(gW (T.wy.getD n []) c).isSome=true
  ·rw [Zq hq]
   refine ⟨T.wy,some n,rfl,rfl,fun m d=>?_,(fun h=>nomatch h),fun p hp=>?_⟩
   ·rw [Zo fun z=>?_]
    have:=mono m n z.2.1 hn z.2.2.1 (Z8 _) hq
    rw [z.2.2.2] at this
    cases this
   ·cases hp
    refine ⟨hn,Z8 _,hq,fun m hm hs hl=>?_⟩
    have:=hs.length_le
    omega
  ·have JK:gW (T.wy.getD n []) c=none:=by
    cases h:gW (T.wy.getD n []) c with
    | none=>rfl
    | some x=>rw [h] at hq;exact absurd rfl hq
   rw [Zo hq,Ku n hn (Z8 _)]
   cases hl:S.lk.getD n none with
   | none =>
    refine ⟨T.wy.set n (pW (T.wy.getD n []) c v),none,by cases k <;> rfl,Z6,fun m d=>?_,fun _ m hm hs=>?_,(fun p hp=>nomatch hp)⟩
    ·rw [gv _ _ _ _ _ _ IA]
     by_cases hm:m=n/\d=c
     ·rw [Zq hm,Zq ⟨hm.2,by rw [hm.1];exact hn,by rw [hm.1];exact Z8 _,by rw [hm.1];exact JK⟩]
     ·rw [Zo hm,Zo fun z=>hm ⟨H.root hn hf hl z.2.1 z.2.2.1,z.1⟩]
    ·rw [H.root hn hf hl hm hs];exact JK
   | some q =>
    obtain ⟨l1,l2,l3,l4⟩:=H.low hf hl (H.top hn)
    have ne:∀ m,W wd m <:+ W wd q->m ≠ n:=fun m hm e=>by
     rw [e] at hm
     have:=hm.length_le
     omega
    obtain ⟨Jj,o',e1,e2,e3,e4,e5⟩:=ih ⟨T.lg,T.lk,T.wy.set n (pW (T.wy.getD n []) c v)⟩ q l2 l4 (by omega) (fun m hm hs=>Ku m hm (hs.trans l3)) (by show _<=(T.wy.set _ _).length;rw [Z6];exact hw) (fun m m' hm Ip hs HJ h=>by
     have h':(gW ((T.wy.set n (pW (T.wy.getD n []) c v)).getD m' []) c).isSome:=h
     show (gW ((T.wy.set n (pW (T.wy.getD n []) c v)).getD m []) c).isSome
     rw [gv _ _ _ _ _ _ IA,Zo (fun z=>ne m' HJ z.1)] at h'
     rw [gv _ _ _ _ _ _ IA,Zo (fun z=>ne m (hs.trans HJ) z.1)]
     exact mono m m' hm Ip hs (HJ.trans l3) h')
    have old:∀ m,W wd m <:+ W wd q->gW ((T.wy.set n (pW (T.wy.getD n []) c v)).getD m []) c=gW (T.wy.getD m []) c:=fun m hm=>by rw [gv _ _ _ _ _ _ IA,Zo (fun z=>ne m hm z.1)]
    refine ⟨Jj,o',e1,by rw [e2];exact Z6,fun m d=>?_,fun ho m hm hs=>?_,fun p hp=>?_⟩
    ·rw [e3 m d]
     show (if d=c/\m < wd.length/\W wd m <:+ W wd q/\gW ((T.wy.set n (pW (T.wy.getD n []) c v)).getD m []) c=none then some v else gW ((T.wy.set n (pW (T.wy.getD n []) c v)).getD m []) d)=_
     by_cases hm:m=n
     ·subst hm
      rw [Zo (fun z=>ne m z.2.2.1 rfl),gv _ _ _ _ _ _ IA]
      by_cases hd:d=c
      ·rw [Zq ⟨rfl,hd⟩,Zq ⟨hd,hn,Z8 _,JK⟩]
      ·rw [Zo (fun z=>hd z.2),Zo (fun z=>hd z.1)]
     ·have g1:∀ d,gW ((T.wy.set n (pW (T.wy.getD n []) c v)).getD m []) d=gW (T.wy.getD m []) d:=fun d=>by rw [gv _ _ _ _ _ _ IA,Zo (fun z=>hm z.1)]
      rw [g1,g1]
      by_cases hc:d=c/\m < wd.length/\W wd m <:+ W wd n/\gW (T.wy.getD m []) c=none
      ·rw [Zq hc,Zq ⟨hc.1,hc.2.1,H.below hn hf hl hc.2.1 hc.2.2.1 hm,hc.2.2.2⟩]
      ·rw [Zo hc,Zo fun z=>hc ⟨z.1,z.2.1,z.2.2.1.trans l3,z.2.2.2⟩]
    ·by_cases N5:m=n
     ·rw [N5];exact JK
     ·have hb:=H.below hn hf hl hm hs N5
      rw [← old m hb]
      exact e4 ho m hm hb
    ·obtain ⟨p1,p2,p3,p4⟩:=e5 p hp
     have NH:(gW ((T.wy.set n (pW (T.wy.getD n []) c v)).getD p []) c).isSome:=p3
     rw [old p p2] at NH
     refine ⟨p1,p2.trans l3,NH,fun m hm hs Ig=>?_⟩
     by_cases N5:m=n
     ·rw [N5];exact JK
     ·have hb:=H.below hn hf hl hm hs N5
      rw [← old m hb]
      exact p4 m hm hb Ig
end
def Cy {c old v:Nat} (hc:97<=c/\c<=122):∀ (k:Nat) (S S':St) (o:Option Nat),WF S->v < S.lg.length->LW c old v k S o=some S'->WF S':=by
 intro k
 induction k with
 | zero =>
  intro S S' o H hv e
  cases o with
  | none=>cases (show some S=some S' from e);exact H
  | some n=>cases e
 | succ k ih =>
  intro S S' o H hv e
  cases o with
  | none=>cases (show some S=some S' from e);exact H
  | some n =>
   unfold LW at e
   split at e
   ·exact ih ⟨S.lg,S.lk,S.wy.set n (pW (S.wy.getD n []) c v)⟩ S' _ (H.way (n:=n) hv hc) hv e
   ·cases e;exact H
def CV {c v:Nat} (hc:97<=c/\c<=122):∀ (k:Nat) (S S':St) (o o':Option Nat),WF S->v < S.lg.length->up1 c v k S o=some (S',o')->WF S':=by
 intro k
 induction k with
 | zero =>
  intro S S' o o' H hv e
  cases o with
  | none=>cases (show some (S,none)=some (S',o') from e);exact H
  | some n=>cases e
 | succ k ih =>
  intro S S' o o' H hv e
  cases o with
  | none=>cases (show some (S,none)=some (S',o') from e);exact H
  | some n =>
   unfold up1 at e
   split at e
   ·cases e;exact H
   ·exact ih ⟨S.lg,S.lk,S.wy.set n (pW (S.wy.getD n []) c v)⟩ S' _ o' (H.way (n:=n) hv hc) hv e
def iS {α:Type} {x y:List α} {a b:α} (h:x++[a] <:+ y++[b]):a=b/\x <:+ y:=by
 obtain ⟨t,e⟩:=h
 rw [← ZF] at e
 obtain ⟨e1,e2⟩:=List.append_inj' e rfl
 exact ⟨by simpa using e2,⟨t,e1⟩⟩
def ic {α:Type} {x y:List α} (a:α) (h:x <:+ y):x++[a] <:+ y++[a]:=by
 obtain ⟨t,e⟩:=h
 exact ⟨t,by rw [← e,ZF]⟩
def iF (nd:Wd->Option Nat) (old l h:Nat) (x:Wd):Option Nat:=if nd x=some old/\x.length<=l then some h else nd x
theorem I.split {fr:Option Nat} {S:St} {nd:Wd->Option Nat} {wd:List Wd} (H:I fr S nd wd) {n c old:Nat} (hn:n < wd.length) (hf:some n ≠ fr) (hc:97<=c/\c<=122) (ho:gW (S.wy.getD n []) c=some old) (MH:some old ≠ fr) (Mc:fr ≠ some wd.length) (Ie:S.lg.getD old 0 ≠ S.lg.getD n 0+1) (hk:(W wd n).length < 1000) :
  ∃ S',LG S n c=some (S',S.lg.length)/\I fr S' (iF nd old ((W wd n).length+1) wd.length) (wd++[W wd n++[c]]):=by
 have hL:S.lg.length=wd.length:=H.len.symm
 have hw:=H.way hn ho
 have hold:=H.lt hw
 have Kt:=H.sf hw
 have lw:(W wd n++[c]).length=(W wd n).length+1:=by rw [Zv];rfl
 rw [H.lg old hold,H.lg n hn] at Ie
 have Ig:(W wd n).length+1 < (W wd old).length:=by
  have:=Kt.length_le
  rw [lw] at this
  omega
 have o0:old ≠ 0:=fun e=>by
  rw [e,H.wz] at Ig
  simp at Ig
 have Rn:0 < wd.length:=by rw [H.len];exact H.wf.pos
 have l1:S.lk.length=wd.length:=by rw [H.wf.lk,hL]
 have l2:S.wy.length=wd.length:=by rw [H.wf.wy,hL]
 have L6:∀ m,((S.lk++[S.lk.getD old none]).set old (some S.lg.length)).getD m none=if m=old then some wd.length else if m=wd.length then S.lk.getD old none else S.lk.getD m none:=fun m=>by
  rw [hJ,bN,l1,hL]
  by_cases h:m=old
  ·rw [Zq ⟨h.symm,by rw [Zv,l1];omega⟩,Zq h]
  ·rw [Zo (fun z=>h z.1.symm),Zo h]
 have Jj:∀ m,(S.wy++[S.wy.getD old []]).getD m []=if m=wd.length then S.wy.getD old [] else S.wy.getD m []:=fun m=>by rw [bN,l2]
 have KH:∀ m,m < wd.length->(S.wy++[S.wy.getD old []]).getD m []=S.wy.getD m []:=fun m hm=>by rw [Jj,Zo (Zb hm)]
 obtain ⟨w2,e1,e2,e3⟩:=H.MT (c:=c) (old:=old) (v:=S.lg.length) 1000 ⟨S.lg++[S.lg.getD n 0+1],(S.lk++[S.lk.getD old none]).set old (some S.lg.length),S.wy++[S.wy.getD old []]⟩ n hn hf hk (fun m hm hs=>by
   have:=hs.length_le
   show ((S.lk++[S.lk.getD old none]).set old (some S.lg.length)).getD m none=_
   rw [L6,Zo (fun e=>by rw [e] at this;omega),Zo (Zb hm)])
  (by show _<=(S.wy++[S.wy.getD old []]).length;rw [Zv,l2];omega)
  (fun m m' hm Ip hs HJ h=>by
   have h':gW ((S.wy++[S.wy.getD old []]).getD m []) c=some old:=h
   show gW ((S.wy++[S.wy.getD old []]).getD m' []) c=some old
   rw [KH m hm] at h'
   rw [KH m' Ip,H.wy (H.top Ip) c]
   rw [H.wy (H.top hm) c] at h'
   exact H.iv h' (ic c hs) ((ic c HJ).trans Kt))
 have wn:=H.wf.Nv old
 have W1:=H.wf.more (l:=S.lg.getD n 0+1) (o:=S.lk.getD old none) (w:=S.wy.getD old []) (fun m hm=>H.wf.up old m hm) (fun d m hm=>H.wf.on old d m hm) wn.1 wn.2
 have hlen:(S.lg++[S.lg.getD n 0+1]).length=S.lg.length+1:=by rw [Zv];rfl
 have W2:=W1.link (n:=old) (v:=S.lg.length) (by show S.lg.length < (S.lg++[S.lg.getD n 0+1]).length;omega)
 have Pp:=Cy hc 1000 _ _ _ W2 (by show S.lg.length < (S.lg++[S.lg.getD n 0+1]).length;omega) e1
 refine ⟨⟨S.lg++[S.lg.getD n 0+1],(S.lk++[S.lk.getD old none]).set old (some S.lg.length),w2⟩,?_,?_⟩
 ·unfold LG
  rw [ho,Zx,Zo (by rw [H.lg old hold,H.lg n hn];exact Ie),e1]
  rfl
 have Wn:∀ m,W (wd++[W wd n++[c]]) m=if m=wd.length then W wd n++[c] else W wd m:=fun m=>bN wd _ _ m
 have WL:W (wd++[W wd n++[c]]) wd.length=W wd n++[c]:=by rw [Wn,Zq rfl]
 have Wl:∀ {m},m < wd.length->W (wd++[W wd n++[c]]) m=W wd m:=fun {m} hm=>by rw [Wn,Zo (Zb hm)]
 have dR:(wd++[W wd n++[c]]).length=wd.length+1:=by rw [Zv];rfl
 have tell:∀ {x m},iF nd old ((W wd n).length+1) wd.length x=some m->(m=wd.length/\nd x=some old/\x.length<=(W wd n).length+1)\/(m < wd.length/\nd x=some m/\¬ (m=old/\x.length<=(W wd n).length+1)):=fun {x m} h=>by
  unfold iF at h
  split at h
  ·rename_i q
   cases h
   exact .inl ⟨rfl,q.1,q.2⟩
  ·rename_i q
   exact .inr ⟨H.lt h,h,fun z=>q ⟨by rw [h,z.1],z.2⟩⟩
 have tL:∀ {x},nd x=some old->x.length<=(W wd n).length+1->iF nd old ((W wd n).length+1) wd.length x=some wd.length:=fun {x} h1 h2=>Zq ⟨h1,h2⟩
 have tO:∀ {x m},nd x=some m->¬ (m=old/\x.length<=(W wd n).length+1)->iF nd old ((W wd n).length+1) wd.length x=some m:=fun {x m} h1 h2=>by
  unfold iF
  rw [Zo (fun z=>h2 ⟨by rw [h1] at z;exact Zn z.1,z.2⟩),h1]
 have LZ:∀ {x m},nd x=some m->∃ m',iF nd old ((W wd n).length+1) wd.length x=some m':=fun {x m} h=>by
  unfold iF
  split
  ·exact ⟨_,rfl⟩
  ·exact ⟨m,h⟩
 have un:∀ {x m},iF nd old ((W wd n).length+1) wd.length x=some m->∃ m',nd x=some m':=fun {x m} h=>(tell h).elim (fun z=>⟨_,z.2.1⟩) fun z=>⟨_,z.2.1⟩
 refine ⟨Pp,by rw [dR,hlen,hL],fun m hm=>?_,tO H.z (fun z=>o0 z.1.symm),by rw [Wl Rn];exact H.wz,fun {x m} h=>by rcases tell h with z | z <;> omega,fun {x m} h=>?_,fun {m} hm=>?_,fun {x y m} h KY hy=>?_,fun {x d m} h=>?_,fun {x y m} h KY=>?_,?_,fun {m} h0 hm QL=>?_,fun {x m} h d=>?_⟩
 ·rw [dR] at hm
  show (S.lg++[S.lg.getD n 0+1]).getD m 0=_
  rw [bN,hL]
  by_cases e:m=wd.length
  ·rw [Zq e,e,WL,H.lg n hn,lw]
  ·rw [Zo e,Wl (by omega),H.lg m (by omega)]
 ·rcases tell h with ⟨rfl,z1,z2⟩ | ⟨z0,z1,_⟩
  ·rw [WL]
   exact df (H.sf z1) Kt (by rw [lw];exact z2)
  ·rw [Wl z0]
   exact H.sf z1
 ·rw [dR] at hm
  by_cases e:m=wd.length
  ·rw [e,WL]
   exact tL hw (by rw [lw];exact Zp _)
  ·rw [Wl (by omega)]
   exact tO (H.top (by omega)) (fun z=>by have:=z.2;rw [z.1] at this;omega)
 ·rcases tell h with ⟨rfl,z1,z2⟩ | ⟨z0,z1,z2⟩
  ·rw [WL] at hy
   have:=hy.length_le
   rw [lw] at this
   exact tL (H.iv z1 KY (hy.trans Kt)) this
  ·rw [Wl z0] at hy
   exact tO (H.iv z1 KY hy) (fun z=>z2 ⟨z.1,ZG KY.length_le z.2⟩)
 ·obtain ⟨m',h'⟩:=un h
  obtain ⟨q,hq⟩:=H.pre h'
  exact LZ hq
 ·obtain ⟨m',h'⟩:=un h
  obtain ⟨q,hq⟩:=H.Kp h' KY
  exact LZ hq
 ·show ((S.lk++[S.lk.getD old none]).set old (some S.lg.length)).getD 0 none=none
  rw [L6,Zo (Ya o0),Zo (by omega)]
  exact H.NT
 ·rw [dR] at hm
  show ∃ q,((S.lk++[S.lk.getD old none]).set old (some S.lg.length)).getD m none=some q/\_
  rw [L6,dR]
  obtain ⟨q,q1,⟨q2,PL⟩,q3,q4,q5⟩:=H.lk (Xi o0) hold MH
  obtain ⟨lo,_⟩:=H.low MH q1 hw
  rw [lw] at lo
  by_cases e:m=old
  ·subst e
   rw [Zq rfl]
   refine ⟨wd.length,rfl,⟨by omega,fun z=>Mc z.symm⟩,?_,?_,fun y hy hl=>?_⟩
   ·rw [WL,Wl hold];exact Kt
   ·rw [WL,Wl hold,lw];exact Ig
   ·rw [WL,lw] at hl
    rw [Wl hold] at hy
    exact tO (H.iv hw (df Kt hy (by rw [lw];omega)) hy) (fun z=>by have:=z.2;omega)
  ·rw [Zo e]
   by_cases eL:m=wd.length
   ·subst eL
    rw [Zq rfl,q1]
    refine ⟨q,rfl,⟨by omega,PL⟩,?_,?_,fun y hy hl=>?_⟩
    ·rw [WL,Wl q2];exact df q3 Kt (by rw [lw];omega)
    ·rw [WL,Wl q2,lw];exact lo
    ·rw [WL] at hy
     rw [Wl q2] at hl
     have:=hy.length_le
     rw [lw] at this
     exact tL (q5 y (hy.trans Kt) hl) this
   ·rw [Zo eL]
    have Ip:m < wd.length:=by omega
    obtain ⟨r,r1,⟨r2,Ux⟩,r3,r4,r5⟩:=H.lk h0 Ip QL
    rw [r1]
    refine ⟨r,rfl,⟨by omega,Ux⟩,by rw [Wl r2,Wl Ip];exact r3,by rw [Wl r2,Wl Ip];exact r4,fun y hy hl=>?_⟩
    rw [Wl Ip] at hy
    rw [Wl r2] at hl
    exact tO (r5 y hy hl) (fun z=>e z.1)
 ·show gW (w2.getD m []) d=_
  rw [e3 m d]
  show (if d=c/\m < wd.length/\W wd m <:+ W wd n/\gW ((S.wy++[S.wy.getD old []]).getD m []) c=some old then some S.lg.length else gW ((S.wy++[S.wy.getD old []]).getD m []) d)=_
  rcases tell h with ⟨rfl,z1,z2⟩ | ⟨z0,z1,z2⟩
  ·rw [Zo (fun z=>Yh _ z.2.1),Jj,Zq rfl,H.wy z1 d]
   unfold iF
   rw [Zo]
   intro z
   have h1:=z.1
   rw [← H.wy z1 d,H.wy (H.top hold) d] at h1
   have:=(H.sf h1).length_le
   rw [Zv,ZK] at this
   omega
  ·rw [KH m z0,H.wy z1 c,H.wy z1 d]
   unfold iF
   by_cases hq:nd (x++[d])=some old/\(x++[d]).length<=(W wd n).length+1
   ·have IZ:=df (H.sf hq.1) Kt (by rw [lw];exact hq.2)
    obtain ⟨rfl,hx⟩:=iS IZ
    obtain ⟨m',m1,m2⟩:=H.OM hn hf hx
    rw [z1] at m1
    cases m1
    rw [Zq ⟨rfl,z0,m2,hq.1⟩,Zq hq,hL]
   ·rw [Zo hq,Zo]
    rintro ⟨rfl,_,a3,a4⟩
    refine hq ⟨a4,?_⟩
    have b1:=(H.sf z1).length_le
    have b2:=a3.length_le
    rw [Zv,ZK]
    omega
end AU
end
section
namespace AU
open Classical in
def il (nd:Wd->Option Nat) (w:Wd) (f:Nat) (x:Wd):Option Nat:=match nd x with
 | some m=>some m
 | none=>if x <:+ w then some f else none
def dm {nd:Wd->Option Nat} {w:Wd} {f m:Nat} {x:Wd} (h:nd x=some m):il nd w f x=some m:=by
 unfold il
 rw [h]
def gg {nd:Wd->Option Nat} {w:Wd} {f:Nat} {x:Wd} (h:nd x=none) (hx:x <:+ w):il nd w f x=some f:=by
 unfold il
 rw [h]
 exact Zq hx
def cK {nd:Wd->Option Nat} {w:Wd} {f m:Nat} {x:Wd} (h:il nd w f x=some m):nd x=some m\/(m=f/\nd x=none/\x <:+ w):=by
 unfold il at h
 split at h
 ·rename_i q e
  cases h
  exact .inl e
 ·rename_i e
  split at h
  ·rename_i hx
   cases h
   exact .inr ⟨rfl,e,hx⟩
  ·cases h
def yh {α:Type} {y t:List α} {c:α} (h:y <:+ t++[c]) (hy:y ≠ []):∃ y',y=y'++[c]/\y' <:+ t:=by
 rcases List.eq_nil_or_concat y with e | ⟨y',b,e⟩
 ·exact absurd e hy
 ·rw [List.concat_eq_append] at e
  subst e
  obtain ⟨e1,e2⟩:=iS h
  exact ⟨y',by rw [e1],e2⟩
section
variable {S:St} {nd:Wd->Option Nat} {wd:List Wd}
def I.fresh (H:I none S nd wd) {h c:Nat} (hh:h < wd.length) (hc:97<=c/\c<=122) (hn:gW (S.wy.getD h []) c=none) (hk:(W wd h).length < 1000) :
  ∃ S2 o',up1 c S.lg.length 1000 ⟨S.lg++[S.lg.getD h 0+1],S.lk++[some 0],S.wy++[[]]⟩ (some h)=some (S2,o')/\I (some wd.length) S2 (il nd (W wd h++[c]) wd.length) (wd++[W wd h++[c]])/\S2.lk.getD wd.length none=some 0/\S2.lg.length=S.lg.length+1 ∧
   (∀ m,m < wd.length->(gW (S.wy.getD m []) c).isSome->gW (S2.wy.getD m []) c=gW (S.wy.getD m []) c) ∧
   (o'=none->∀ m,m < wd.length->W wd m <:+ W wd h->gW (S.wy.getD m []) c=none) ∧
   ∀ p,o'=some p->p < wd.length/\W wd p <:+ W wd h/\(gW (S.wy.getD p []) c).isSome/\∀ m,m < wd.length->W wd m <:+ W wd h->(W wd p).length < (W wd m).length->gW (S.wy.getD m []) c=none:=by
 have hL:S.lg.length=wd.length:=H.len.symm
 have l1:S.lk.length=wd.length:=by rw [H.wf.lk,hL]
 have l2:S.wy.length=wd.length:=by rw [H.wf.wy,hL]
 have Rn:0 < wd.length:=by rw [H.len];exact H.wf.pos
 have L6:∀ m,(S.lk++[some 0]).getD m none=if m=wd.length then some 0 else S.lk.getD m none:=fun m=>by rw [bN,l1]
 have Jj:∀ m,(S.wy++[[]]).getD m []=if m=wd.length then [] else S.wy.getD m []:=fun m=>by rw [bN,l2]
 have KH:∀ m,m < wd.length->(S.wy++[[]]).getD m []=S.wy.getD m []:=fun m hm=>by rw [Jj,Zo (Zb hm)]
 have nt:nd (W wd h++[c])=none:=by rw [← H.wy (H.top hh) c];exact hn
 obtain ⟨w2,o',e1,e2,e3,e4,e5⟩:=H.MU (c:=c) (v:=S.lg.length) 1000 ⟨S.lg++[S.lg.getD h 0+1],S.lk++[some 0],S.wy++[[]]⟩ h hh (fun z=>nomatch z) hk (fun m hm _=>by
   show (S.lk++[some 0]).getD m none=_
   rw [L6,Zo (Zb hm)])
  (by show _<=(S.wy++[[]]).length;rw [Zv,l2];omega)
  (fun m m' hm Ip hs HJ q=>by
   have q':(gW ((S.wy++[[]]).getD m' []) c).isSome:=q
   show (gW ((S.wy++[[]]).getD m []) c).isSome
   rw [KH m' Ip,H.wy (H.top Ip) c] at q'
   rw [KH m hm,H.wy (H.top hm) c]
   obtain ⟨r,hr⟩:=Yn.mp q'
   obtain ⟨r',U8⟩:=H.Kp hr (ic c hs)
   rw [U8]
   rfl)
 have hlen:(S.lg++[S.lg.getD h 0+1]).length=S.lg.length+1:=by rw [Zv];rfl
 have W1:=H.wf.more (l:=S.lg.getD h 0+1) (o:=some 0) (w:=[]) (fun m hm=>by cases hm;exact H.wf.pos) (fun d m hm=>by cases hm) Z9 (fun p hp=>nomatch hp)
 have Pp:=CV hc 1000 _ _ _ _ W1 (by show S.lg.length < (S.lg++[S.lg.getD h 0+1]).length;omega) e1
 have lw:(W wd h++[c]).length=(W wd h).length+1:=by rw [Zv];rfl
 have Wn:∀ m,W (wd++[W wd h++[c]]) m=if m=wd.length then W wd h++[c] else W wd m:=fun m=>bN wd _ _ m
 have WL:W (wd++[W wd h++[c]]) wd.length=W wd h++[c]:=by rw [Wn,Zq rfl]
 have Wl:∀ {m},m < wd.length->W (wd++[W wd h++[c]]) m=W wd m:=fun {m} hm=>by rw [Wn,Zo (Zb hm)]
 have dR:(wd++[W wd h++[c]]).length=wd.length+1:=by rw [Zv];rfl
 refine ⟨⟨S.lg++[S.lg.getD h 0+1],S.lk++[some 0],w2⟩,o',e1,?_,by show (S.lk++[some 0]).getD wd.length none=_;rw [L6,Zq rfl],hlen,fun m hm hs=>?_,fun ho m hm hs=>?_,fun p hp=>?_⟩
 rotate_left
 ·show gW (w2.getD m []) c=_
  rw [e3 m c]
  show (if c=c/\m < wd.length/\W wd m <:+ W wd h/\gW ((S.wy++[[]]).getD m []) c=none then some S.lg.length else gW ((S.wy++[[]]).getD m []) c)=_
  rw [KH m hm,Zo (fun z=>by rw [z.2.2.2] at hs;cases hs)]
 ·have:=e4 ho m hm hs
  have Jm:gW ((S.wy++[[]]).getD m []) c=none:=this
  rw [KH m hm] at Jm
  exact Jm
 ·obtain ⟨p1,p2,p3,p4⟩:=e5 p hp
  have NH:(gW ((S.wy++[[]]).getD p []) c).isSome:=p3
  rw [KH p p1] at NH
  refine ⟨p1,p2,NH,fun m hm hs hl=>?_⟩
  have:=p4 m hm hs hl
  have Jm:gW ((S.wy++[[]]).getD m []) c=none:=this
  rw [KH m hm] at Jm
  exact Jm
 refine ⟨Pp,by rw [dR];show _=(S.lg++[S.lg.getD h 0+1]).length;rw [hlen,hL],fun m hm=>?_,dm H.z,by rw [Wl Rn];exact H.wz,fun {x m} q=>?_,fun {x m} q=>?_,fun {m} hm=>?_,fun {x y m} q KY hy=>?_,fun {x d m} q=>?_,fun {x y m} q KY=>?_,?_,fun {m} h0 hm QL=>?_,fun {x m} q d=>?_⟩
 ·rw [dR] at hm
  show (S.lg++[S.lg.getD h 0+1]).getD m 0=_
  rw [bN,hL]
  by_cases e:m=wd.length
  ·rw [Zq e,e,WL,H.lg h hh,lw]
  ·rw [Zo e,Wl (by omega),H.lg m (by omega)]
 ·rw [dR]
  rcases cK q with z | z
  ·have:=H.lt z;omega
  ·omega
 ·rcases cK q with z | ⟨rfl,_,z⟩
  ·rw [Wl (H.lt z)];exact H.sf z
  ·rw [WL];exact z
 ·rw [dR] at hm
  by_cases e:m=wd.length
  ·rw [e,WL];exact gg nt (Z8 _)
  ·rw [Wl (by omega)];exact dm (H.top (by omega))
 ·rcases cK q with z | ⟨rfl,z1,z2⟩
  ·rw [Wl (H.lt z)] at hy
   exact dm (H.iv z KY hy)
  ·rw [WL] at hy
   refine gg ?_ hy
   cases e:nd y with
   | none=>rfl
   | some r =>
    obtain ⟨r',hr⟩:=H.Kp e KY
    rw [z1] at hr
    cases hr
 ·rcases cK q with z | ⟨_,_,z⟩
  ·obtain ⟨r,hr⟩:=H.pre z
   exact ⟨r,dm hr⟩
  ·obtain ⟨_,hx⟩:=iS z
   obtain ⟨r,hr⟩:=H.Kp (H.top hh) hx
   exact ⟨r,dm hr⟩
 ·rcases cK q with z | ⟨_,_,z⟩
  ·obtain ⟨r,hr⟩:=H.Kp z KY
   exact ⟨r,dm hr⟩
  ·cases e:nd x with
   | none=>exact ⟨_,gg e (KY.trans z)⟩
   | some r=>exact ⟨r,dm e⟩
 ·show (S.lk++[some 0]).getD 0 none=none
  rw [L6,Zo (by omega)]
  exact H.NT
 ·rw [dR] at hm
  have Ip:m < wd.length:=by
   have:m ≠ wd.length:=fun e=>QL (by rw [e])
   omega
  show ∃ q,(S.lk++[some 0]).getD m none=some q/\_
  rw [L6,Zo (Zb Ip),dR]
  obtain ⟨r,r1,⟨r2,_⟩,r3,r4,r5⟩:=H.lk h0 Ip (fun z=>nomatch z)
  refine ⟨r,r1,⟨by omega,fun z=>?_⟩,by rw [Wl r2,Wl Ip];exact r3,by rw [Wl r2,Wl Ip];exact r4,fun y hy hl=>?_⟩
  ·have:=Zn z
   omega
  ·rw [Wl Ip] at hy
   rw [Wl r2] at hl
   exact dm (r5 y hy hl)
 ·show gW (w2.getD m []) d=_
  rw [e3 m d]
  show (if d=c/\m < wd.length/\W wd m <:+ W wd h/\gW ((S.wy++[[]]).getD m []) c=none then some S.lg.length else gW ((S.wy++[[]]).getD m []) d)=_
  rcases cK q with z | ⟨rfl,z1,z2⟩
  ·have hm:=H.lt z
   rw [KH m hm,H.wy z c,H.wy z d]
   cases e:nd (x++[d]) with
   | some r =>
    rw [dm e,Zo]
    rintro ⟨rfl,_,_,a⟩
    rw [e] at a
    cases a
   | none =>
    by_cases hs:x++[d] <:+ W wd h++[c]
    ·obtain ⟨rfl,hx⟩:=iS hs
     obtain ⟨m',m1,m2⟩:=H.OM hh (fun z=>nomatch z) hx
     rw [z] at m1
     cases m1
     rw [gg e hs,Zq ⟨rfl,hm,m2,e⟩,hL]
    ·have:il nd (W wd h++[c]) wd.length (x++[d])=none:=by
      unfold il
      rw [e]
      exact Zo hs
     rw [this,Zo]
     rintro ⟨rfl,_,a,_⟩
     exact hs (ic d ((H.sf z).trans a))
  ·rw [Zo (fun a=>Yh _ a.2.1),Jj,Zq rfl]
   have e:nd (x++[d])=none:=by
    cases e:nd (x++[d]) with
    | none=>rfl
    | some r =>
     obtain ⟨r',hr⟩:=H.pre e
     rw [z1] at hr
     cases hr
   have:il nd (W wd h++[c]) wd.length (x++[d])=none:=by
    unfold il
    rw [e]
    refine Zo fun hs=>?_
    obtain ⟨_,hx⟩:=iS hs
    obtain ⟨r,hr⟩:=H.Kp (H.top hh) hx
    rw [z1] at hr
    cases hr
   rw [this]
   rfl
def I.fix {f m:Nat} (H:I (some f) S nd wd) (hf:f < wd.length) (hm:m < wd.length) (hs:W wd m <:+ W wd f) (hl:(W wd m).length < (W wd f).length) (hy:∀ y,y <:+ W wd f->(W wd m).length < y.length->nd y=some f):I none ⟨S.lg,S.lk.set f (some m),S.wy⟩ nd wd:=by
 have f0:f ≠ 0:=fun e=>by
  rw [e,H.wz] at hl
  simp at hl
 have lf:f < S.lk.length:=by rw [H.wf.lk,← H.len];exact hf
 refine ⟨H.wf.link (by rw [← H.len];exact hm),H.len,H.lg,H.z,H.wz,H.lt,H.sf,H.top,H.iv,H.pre,H.Kp,?_,fun {n} h0 hn _=>?_,H.wy⟩
 ·show (S.lk.set f (some m)).getD 0 none=none
  rw [hJ,Zo (fun z=>f0 z.1)]
  exact H.NT
 ·show ∃ q,(S.lk.set f (some m)).getD n none=some q/\_
  rw [hJ]
  by_cases e:f=n
  ·subst e
   rw [Zq ⟨rfl,lf⟩]
   exact ⟨m,rfl,⟨hm,fun z=>nomatch z⟩,hs,hl,hy⟩
  ·rw [Zo (fun z=>e z.1)]
   obtain ⟨r,r1,⟨r2,_⟩,r3⟩:=H.lk h0 hn (fun z=>e (Zn z).symm)
   exact ⟨r,r1,⟨r2,fun z=>nomatch z⟩,r3⟩
end
end AU
end
section
namespace AU
structure OJ (nd Hx:Wd->Option Nat) (w:Wd):Prop where
 eq:∀ {x y m n},Hx x=some m->Hx y=some n->(m=n ↔ nd x=nd y/\(x <:+ w ↔ y <:+ w))
section
variable {fr:Option Nat} {S:St} {nd:Wd->Option Nat} {wd:List Wd}
def I.NW (H:I fr S nd wd) {n c old:Nat} (hn:n < wd.length) (hf:some n ≠ fr) (hc:97<=c/\c<=122) (ho:gW (S.wy.getD n []) c=some old) (MH:some old ≠ fr) (Mc:fr ≠ some wd.length) (hk:(W wd n).length < 1000) :
  ∃ S' r Hx Ha,LG S n c=some (S',r)/\I fr S' Hx Ha/\r < Ha.length/\some r ≠ fr/\W Ha r=W wd n++[c]/\(∀ m,m < wd.length->W Ha m=W wd m)/\wd.length<=Ha.length/\Ha.length<=wd.length+1 ∧
   (∀ x,(∃ m,Hx x=some m) ↔ ∃ m,nd x=some m)/\OJ nd Hx (W wd n++[c])/\∀ x f,f ≠ old->nd x=some f->Hx x=some f:=by
 have hw:=H.way hn ho
 have hold:=H.lt hw
 have Kt:=H.sf hw
 have lw:(W wd n++[c]).length=(W wd n).length+1:=by rw [Zv];rfl
 by_cases Ie:S.lg.getD old 0=S.lg.getD n 0+1
 ·have Rl:W wd old=W wd n++[c]:=by
   have:=Ie
   rw [H.lg old hold,H.lg n hn] at this
   exact (Kt.eq_of_length (by rw [lw,this])).symm
  refine ⟨S,old,nd,wd,?_,H,hold,MH,Rl,fun m _=>rfl,Zp _,Xo _,fun x=>Iff.rfl,⟨fun {x y m k} h1 h2=>?_⟩,fun x f _ h=>h⟩
  ·unfold LG
   rw [ho,Zx,Zq Ie]
  ·constructor
   ·rintro rfl
    exact ⟨by rw [h1,h2],fun h=>by rw [← Rl] at h ⊢;exact H.all hold MH h1 h2 h,fun h=>by rw [← Rl] at h ⊢;exact H.all hold MH h2 h1 h⟩
   ·rintro ⟨h,_⟩
    rw [h1,h2] at h
    exact Zn h
 ·obtain ⟨S',e1,H'⟩:=H.split hn hf hc ho MH Mc Ie hk
  have WL:W (wd++[W wd n++[c]]) wd.length=W wd n++[c]:=(bN wd _ _ _).trans (Zq rfl)
  have Wl:∀ m,m < wd.length->W (wd++[W wd n++[c]]) m=W wd m:=fun m hm=>(bN wd _ _ m).trans (Zo (Zb hm))
  have dR:(wd++[W wd n++[c]]).length=wd.length+1:=by rw [Zv];rfl
  have inv:∀ {x m},iF nd old ((W wd n).length+1) wd.length x=some m->(m=wd.length/\nd x=some old/\x.length<=(W wd n).length+1)\/nd x=some m:=fun {x m} h=>by
   unfold iF at h
   split at h
   ·rename_i q;cases h;exact .inl ⟨rfl,q.1,q.2⟩
   ·exact .inr h
  have Sf:∀ {x},nd x=some old->(x.length<=(W wd n).length+1 ↔ x <:+ W wd n++[c]):=fun {x} h=>⟨fun hl=>df (H.sf h) Kt (by rw [lw];exact hl),fun hs=>by have:=hs.length_le;rw [lw] at this;exact this⟩
  refine ⟨S',S.lg.length,_,_,e1,H',by rw [dR,← H.len];exact Yp _,by rw [← H.len];exact fun z=>Mc z.symm,by rw [← H.len];exact WL,Wl,by omega,by omega,fun x=>⟨fun ⟨m,h⟩=>(inv h).elim (fun z=>⟨_,z.2.1⟩) fun z=>⟨_,z⟩,fun ⟨m,h⟩=>?_⟩,⟨fun {x y m k} h1 h2=>?_⟩,fun x f Vv h=>?_⟩
  ·unfold iF
   split
   ·exact ⟨_,rfl⟩
   ·exact ⟨m,h⟩
  ·constructor
   ·rintro rfl
    have hq:wd.length < (wd++[W wd n++[c]]).length:=by omega
    have a1:=fun h=>H'.all hq (fun z=>Mc z.symm) h1 h2 h
    have a2:=fun h=>H'.all hq (fun z=>Mc z.symm) h2 h1 h
    rw [WL] at a1 a2
    refine ⟨?_,a1,a2⟩
    rcases inv h1 with ⟨z1,z2,_⟩ | z
    ·rcases inv h2 with ⟨_,y2,_⟩ | y
     ·rw [z2,y2]
     ·have:=H.lt y;omega
    ·rcases inv h2 with ⟨y1,_,_⟩ | y
     ·have:=H.lt z;omega
     ·rw [z,y]
   ·rintro ⟨h,hs⟩
    have:iF nd old ((W wd n).length+1) wd.length x=iF nd old ((W wd n).length+1) wd.length y:=by
     unfold iF
     rw [h]
     by_cases q:nd y=some old
     ·have e1:=Sf (show nd x=some old by rw [h,q])
      have e2:=Sf q
      by_cases l:y.length<=(W wd n).length+1
      ·rw [Zq ⟨q,e1.mpr (hs.mpr (e2.mp l))⟩,Zq ⟨q,l⟩]
      ·rw [Zo (fun z=>l (e2.mpr (hs.mp (e1.mp z.2)))),Zo (fun z=>l z.2)]
     ·rw [Zo (fun z=>q z.1),Zo (fun z=>q z.1)]
    rw [h1,h2] at this
    exact Zn this
  ·unfold iF
   rw [Zo (fun z=>Vv (by rw [h] at z;exact Zn z.1))]
   exact h
end
section
variable {S:St} {nd:Wd->Option Nat} {wd:List Wd}
def I.step (H:I none S nd wd) {h c:Nat} (hh:h < wd.length) (hc:97<=c/\c<=122) (hk:(W wd h).length+1 < 1000) :
  ∃ S' r Hx Ha,hb S h c=some (S',r)/\I none S' Hx Ha/\r < Ha.length/\W Ha r=W wd h++[c]/\(∀ m,m < wd.length->W Ha m=W wd m)/\wd.length<=Ha.length/\Ha.length<=wd.length+2 ∧
   (∀ x,(∃ m,Hx x=some m) ↔ (∃ m,nd x=some m)\/x <:+ W wd h++[c])/\OJ nd Hx (W wd h++[c]):=by
 cases hg:gW (S.wy.getD h []) c with
 | some old =>
  obtain ⟨S',r,Hx,Ha,e,H',h1,_,h2,h3,h4,h5,h6,h7,_⟩:=H.NW hh (fun z=>nomatch z) hc hg (fun z=>nomatch z) (fun z=>nomatch z) (by omega)
  refine ⟨S',r,Hx,Ha,?_,H',h1,h2,h3,h4,by omega,fun x=>(h6 x).trans ⟨.inl,fun z=>z.elim id fun z=>H.Kp (H.way hh hg) z⟩,h7⟩
  unfold hb
  rw [hg]
  exact e
 | none =>
  have hL:S.lg.length=wd.length:=H.len.symm
  obtain ⟨S2,o',e1,H2,k0,k1,k2,k3,k4⟩:=H.fresh hh hc hg (by omega)
  have WL:W (wd++[W wd h++[c]]) wd.length=W wd h++[c]:=(bN wd _ _ _).trans (Zq rfl)
  have Wl:∀ m,m < wd.length->W (wd++[W wd h++[c]]) m=W wd m:=fun m hm=>(bN wd _ _ m).trans (Zo (Zb hm))
  have dR:(wd++[W wd h++[c]]).length=wd.length+1:=by rw [Zv];rfl
  have lw:(W wd h++[c]).length=(W wd h).length+1:=by rw [Zv];rfl
  have nt:nd (W wd h++[c])=none:=by rw [← H.wy (H.top hh) c];exact hg
  have ex:∀ x,(∃ m,il nd (W wd h++[c]) wd.length x=some m) ↔ (∃ m,nd x=some m)\/x <:+ W wd h++[c]:=fun x=>⟨fun ⟨m,q⟩=>(cK q).elim (fun z=>.inl ⟨_,z⟩) fun z=>.inr z.2.2,fun q=>by
   cases e:nd x with
   | some m=>exact ⟨m,dm e⟩
   | none=>exact q.elim (fun ⟨m,z⟩=>by rw [e] at z;cases z) fun z=>⟨_,gg e z⟩⟩
  have same:∀ {x y m n},il nd (W wd h++[c]) wd.length x=some m->il nd (W wd h++[c]) wd.length y=some n->(m=n ↔ nd x=nd y):=fun {x y m n} q1 q2=>by
   rcases cK q1 with z | ⟨z1,z2,_⟩
   ·rcases cK q2 with y' | ⟨y1,y2,_⟩
    ·rw [z,y'];exact ⟨fun e=>by rw [e],fun e=>Zn e⟩
    ·have:=H.lt z
     refine ⟨fun e=>by omega,fun e=>?_⟩
     rw [z,y2] at e;cases e
   ·rcases cK q2 with y' | ⟨y1,y2,_⟩
    ·have:=H.lt y'
     refine ⟨fun e=>by omega,fun e=>?_⟩
     rw [z2,y'] at e;cases e
    ·exact ⟨fun _=>by rw [z2,y2],fun _=>by rw [z1,y1]⟩
  have LX:∀ {y},y <:+ W wd h++[c]->y ≠ []->∀ {q},nd y=some q->∃ y' m,y=y'++[c]/\y' <:+ W wd h/\nd y'=some m/\m < wd.length/\W wd m <:+ W wd h/\(gW (S.wy.getD m []) c).isSome:=fun {y} hy Ie {q} hq=>by
   obtain ⟨y',rfl,SK⟩:=yh hy Ie
   obtain ⟨m,m1,m2⟩:=H.OM hh (fun z=>nomatch z) SK
   exact ⟨y',m,rfl,SK,m1,H.lt m1,m2,by rw [H.wy m1 c,hq];rfl⟩
  unfold hb
  rw [hg,Zo (by simp),e1]
  cases o' with
  | none =>
   have kn:=k3 rfl
   have none_:∀ {y},y <:+ W wd h++[c]->y ≠ []->nd y=none:=fun {y} hy Ie=>by
    cases e:nd y with
    | none=>rfl
    | some q =>
     obtain ⟨y',m,_,_,_,m3,m4,m5⟩:=LX hy Ie e
     rw [kn m m3 m4] at m5
     cases m5
   have H3:=H2.fix (f:=wd.length) (m:=0) (by omega) (by omega) (by rw [H2.wz];exact Xn) (by rw [H2.wz,WL,lw];exact X9 _) (fun y hy hl=>by
    rw [WL] at hy
    rw [H2.wz] at hl
    exact gg (none_ hy (fun e=>by rw [e] at hl;cases hl)) hy)
   have eS:(⟨S2.lg,S2.lk.set wd.length (some 0),S2.wy⟩:St)=S2:=by
    have hl:wd.length < S2.lk.length:=by rw [H2.wf.lk,← H2.len,dR];exact Yp _
    have:S2.lk.set wd.length (some 0)=S2.lk:=by
     rw [Zs,Zr hl,Xu] at k0
     rw [← k0]
     exact XO hl
    rw [this]
   rw [eS] at H3
   refine ⟨S2,S.lg.length,_,_,rfl,H3,by rw [dR,hL];exact Yp _,by rw [hL];exact WL,Wl,by omega,by omega,ex,⟨fun {x y m n} q1 q2=>?_⟩⟩
   rw [same q1 q2]
   refine ⟨fun e=>⟨e,?_⟩,fun e=>e.1⟩
   have key:∀ {x y m n},il nd (W wd h++[c]) wd.length x=some m->il nd (W wd h++[c]) wd.length y=some n->nd x=nd y->x <:+ W wd h++[c]->y <:+ W wd h++[c]:=fun {x y m n} q1 q2 e hx=>by
    rcases cK q2 with z | z
    ·rw [z] at e
     by_cases SM:x=[]
     ·subst SM
      rw [H.z] at e
      cases e
      rw [H.zero z]
      exact Xn
     ·rw [none_ hx SM] at e
      cases e
    ·exact z.2.2
   exact ⟨key q1 q2 e,key q2 q1 e.symm⟩
  | some p =>
   obtain ⟨p1,p2,p3,p4⟩:=k4 p rfl
   obtain ⟨old,ho⟩:=Yn.mp p3
   have Vf:gW (S2.wy.getD p []) c=some old:=by rw [k2 p p1 p3];exact ho
   have SA:=H.way p1 ho
   have hold:=H.lt SA
   have ph:(W wd p).length < (W wd h).length:=by
    rcases Nat.lt_or_eq_of_le p2.length_le with l | l
    ·exact l
    ·have:=H.inj p1 hh (p2.eq_of_length l)
     rw [this,hg] at ho
     cases ho
   obtain ⟨S3,r,Hx,Ha,f1,H3,f2,f2',f3,f4,f5,f6,f7,f8,f9⟩:=H2.NW (n:=p) (c:=c) (old:=old) (by omega) (fun z=>by have:=Zn z;omega) hc Vf (fun z=>by have:=Zn z;omega) (fun z=>by have:=Zn z;omega) (by rw [Wl p p1];omega)
   rw [Wl p p1] at f3 f8
   have Qu:(W wd p++[c]).length=(W wd p).length+1:=by rw [Zv];rfl
   have Pk:W Ha wd.length=W wd h++[c]:=by rw [f4 _ (by omega),WL]
   have none_:∀ {y},y <:+ W wd h++[c]->(W wd p).length+1 < y.length->nd y=none:=fun {y} hy hl=>by
    cases e:nd y with
    | none=>rfl
    | some q =>
     obtain ⟨y',m,rfl,m1,m2,m3,m4,m5⟩:=LX hy (fun e=>by rw [e] at hl;cases hl) e
     have l1:=(H.sf m2).length_le
     rw [Zv,ZK] at hl
     rw [p4 m m3 m4 (by omega)] at m5
     cases m5
   have H4:=H3.fix (f:=wd.length) (m:=r) (by omega) f2 (by rw [f3,Pk];exact ic c p2) (by rw [f3,Pk,Qu,lw];omega) (fun y hy hl=>by
    rw [Pk] at hy
    rw [f3,Qu] at hl
    exact f9 y wd.length (by omega) (gg (none_ hy hl) hy))
   refine ⟨⟨S3.lg,S3.lk.set S.lg.length (some r),S3.wy⟩,S.lg.length,Hx,Ha,?_,by rw [hL];exact H4,by rw [hL];omega,by rw [hL];exact Pk,fun m hm=>by rw [f4 m (by omega),Wl m hm],by omega,by omega,fun x=>(f7 x).trans (ex x),⟨fun {x y m n} q1 q2=>?_⟩⟩
   ·show (LG S2 p c).map _=_
    rw [f1]
    rfl
   ·rw [f8.eq q1 q2]
    obtain ⟨m1,g1⟩:=(f7 x).mp ⟨m,q1⟩
    obtain ⟨n1,g2⟩:=(f7 y).mp ⟨n,q2⟩
    have e1:il nd (W wd h++[c]) wd.length x=il nd (W wd h++[c]) wd.length y ↔ nd x=nd y:=by
     rw [g1,g2]
     exact ⟨fun e=>(same g1 g2).mp (Zn e),fun e=>by rw [(same g1 g2).mpr e]⟩
    rw [e1]
    have sw:W wd p++[c] <:+ W wd h++[c]:=ic c p2
    have kn:∀ {z q},nd z=some q->(z <:+ W wd h++[c] ↔ z <:+ W wd p++[c]):=fun {z q} hz=>⟨fun a=>df a sw (by
     rw [Qu]
     refine ZE fun b=>?_
     rw [none_ a b] at hz
     cases hz),fun a=>a.trans sw⟩
    have un:∀ {z q},nd z=none->il nd (W wd h++[c]) wd.length z=some q->z <:+ W wd h++[c]/\¬ z <:+ W wd p++[c]:=fun {z q} hz a=>by
     rcases cK a with b | b
     ·rw [hz] at b;cases b
     ·refine ⟨b.2.2,fun a=>?_⟩
      obtain ⟨q',hq⟩:=H.Kp SA a
      rw [hz] at hq
      cases hq
    refine ⟨fun ⟨a,b⟩=>⟨a,?_⟩,fun ⟨a,b⟩=>⟨a,?_⟩⟩
    ·cases ez:nd x with
     | some q=>rw [kn ez,kn (show nd y=some q by rw [← a,ez])];exact b
     | none =>
      have u1:=un ez g1
      have u2:=un (show nd y=none by rw [← a,ez]) g2
      exact ⟨fun _=>u2.1,fun _=>u1.1⟩
    ·cases ez:nd x with
     | some q=>rw [← kn ez,← kn (show nd y=some q by rw [← a,ez])];exact b
     | none =>
      have u1:=un ez g1
      have u2:=un (show nd y=none by rw [← a,ez]) g2
      exact ⟨fun z=>absurd z u1.2,fun z=>absurd z u2.2⟩
end
structure K (P:Wd->Prop) (S:St) (nd:Wd->Option Nat) (wd:List Wd):Prop where
 i:I none S nd wd
 nil:P []
 some:∀ x,(∃ m,nd x=some m) ↔ ∃ p,P p/\x <:+ p
 eq:∀ {x y m n},nd x=.some m->nd y=.some n->(m=n ↔ ∀ p,P p->(x <:+ p ↔ y <:+ p))
def K.congr {P Q:Wd->Prop} {S:St} {nd:Wd->Option Nat} {wd:List Wd} (H:K P S nd wd) (h:∀ p,P p ↔ Q p):K Q S nd wd:=by
 have:P=Q:=funext fun p=>propext (h p)
 rw [← this]
 exact H
def Qr (x:Wd):Option Nat:=if x=[] then some 0 else none
def fT {x:Wd} {n:Nat} (h:Qr x=some n):x=[]/\n=0:=by
 unfold Qr at h
 split at h
 ·exact ⟨by assumption,(Zn h).symm⟩
 ·cases h
def K0:K (fun p=>p=[]) S0 Qr [[]]:=by
 refine ⟨⟨B1,rfl,fun n hn=>?_,rfl,rfl,fun {x n} h=>?_,fun {x n} h=>?_,fun {n} hn=>?_,fun {x y n} h h1 h2=>?_,fun {x c n} h=>?_,fun {x y n} h h1=>?_,rfl,fun {n} h1 h2=>?_,fun {x n} h c=>?_⟩,rfl,fun x=>?_,fun {x y m n} h1 h2=>?_⟩
 ·have:n=0:=Nat.lt_one_iff.mp hn
  subst this;rfl
 ·rw [(fT h).2];exact Nat.one_pos
 ·rw [(fT h).1];exact Xn
 ·have:n=0:=Nat.lt_one_iff.mp hn
  subst this;rfl
 ·have e:=(fT h).2
  subst e
  have:y=[]:=YU.mp h2
  subst this;rfl
 ·have:=(fT h).1
  exact absurd this (by simp)
 ·have e:=(fT h).1
  subst e
  have:x=[]:=YU.mp h1
  subst this
  exact ⟨0,rfl⟩
 ·have:n < 1:=h2
  omega
 ·have e:=fT h
  obtain ⟨rfl,rfl⟩:=e
  rfl
 ·constructor
  ·rintro ⟨m,h⟩
   exact ⟨[],rfl,by rw [(fT h).1];exact Xn⟩
  ·rintro ⟨p,rfl,h⟩
   have:x=[]:=YU.mp h
   subst this
   exact ⟨0,rfl⟩
 ·obtain ⟨rfl,rfl⟩:=fT h1
  obtain ⟨rfl,rfl⟩:=fT h2
  exact ⟨fun _ _ _=>Iff.rfl,fun _=>rfl⟩
section
variable {P:Wd->Prop} {S:St} {nd:Wd->Option Nat} {wd:List Wd}
theorem K.step (H:K P S nd wd) {h c:Nat} (hh:h < wd.length) (hc:97<=c/\c<=122) (hk:(W wd h).length+1 < 1000) :
  ∃ S' r Hx Ha,hb S h c=.some (S',r)/\K (fun p=>P p\/p=W wd h++[c]) S' Hx Ha/\r < Ha.length/\W Ha r=W wd h++[c]/\(∀ m,m < wd.length->W Ha m=W wd m)/\wd.length<=Ha.length/\Ha.length<=wd.length+2:=by
 obtain ⟨S',r,Hx,Ha,e,H',h1,h2,h3,h4,h5,h6,h7⟩:=H.i.step hh hc hk
 refine ⟨S',r,Hx,Ha,e,⟨H',.inl H.nil,fun x=>?_,fun {x y m n} g1 g2=>?_⟩,h1,h2,h3,h4,h5⟩
 ·rw [h6,H.some]
  constructor
  ·rintro (⟨p,a,b⟩ | a)
   ·exact ⟨p,.inl a,b⟩
   ·exact ⟨_,.inr rfl,a⟩
  ·rintro ⟨p,a | rfl,b⟩
   ·exact .inl ⟨p,a,b⟩
   ·exact .inr b
 ·rw [h7.eq g1 g2]
  have un:∀ {z q},Hx z=.some q->nd z=none->z <:+ W wd h++[c]/\∀ p,P p->¬ z <:+ p:=fun {z q} a b=>⟨((h6 z).mp ⟨q,a⟩).elim (fun ⟨m,x⟩=>by rw [b] at x;cases x) id,fun p hp hz=>by
   obtain ⟨m,x⟩:=(H.some z).mpr ⟨p,hp,hz⟩
   rw [b] at x
   cases x⟩
  have old:nd x=nd y ↔ ∀ p,P p->(x <:+ p ↔ y <:+ p):=by
   cases ex:nd x with
   | some a =>
    cases ey:nd y with
    | some b=>exact ⟨fun e=>(H.eq ex ey).mp (Zn e),fun e=>by rw [(H.eq ex ey).mpr e]⟩
    | none =>
     refine ⟨fun e=>(nomatch e),fun e=>?_⟩
     obtain ⟨p,hp,hx⟩:=(H.some x).mp ⟨a,ex⟩
     exact absurd ((e p hp).mp hx) ((un g2 ey).2 p hp)
   | none =>
    cases ey:nd y with
    | some b =>
     refine ⟨fun e=>(nomatch e),fun e=>?_⟩
     obtain ⟨p,hp,hx⟩:=(H.some y).mp ⟨b,ey⟩
     exact absurd ((e p hp).mpr hx) ((un g1 ex).2 p hp)
    | none=>exact ⟨fun _ p hp=>⟨fun z=>absurd z ((un g1 ex).2 p hp),fun z=>absurd z ((un g2 ey).2 p hp)⟩,fun _=>rfl⟩
  rw [old]
  constructor
  ·rintro ⟨a,b⟩ p (hp | rfl)
   ·exact a p hp
   ·exact b
  ·intro a
   exact ⟨fun p hp=>a p (.inl hp),a _ (.inr rfl)⟩
end
def K.grow:∀ (w:Wh) {P:Wd->Prop} {S:St} {nd:Wd->Option Nat} {wd:List Wd} (H:K P S nd wd) {h:Nat},h < wd.length->P (W wd h)->(∀ c∈w,97<=c/\c<=122)->(W wd h).length+w.length < 1000 →
  ∃ S' r Hx Ha,hg S h w=.some (S',r)/\K (fun p=>P p\/∃ v,v <+: w/\p=W wd h++v) S' Hx Ha/\r < Ha.length/\W Ha r=W wd h++w/\(∀ m,m < wd.length->W Ha m=W wd m)/\wd.length<=Ha.length/\Ha.length<=wd.length+2 * w.length:=by
 intro w
 induction w with
 | nil =>
  intro P S nd wd H h hh hp hw hk
  refine ⟨S,h,nd,wd,rfl,H.congr fun p=>⟨.inl,?_⟩,hh,(ZS _).symm,fun _ _=>rfl,Zp _,Zp _⟩
  rintro (a | ⟨v,a,rfl⟩)
  ·exact a
  ·rw [List.prefix_nil.mp a,ZS]
   exact hp
 | cons c w ih =>
  intro P S nd wd H h hh hp hw hk
  rw [Zm] at hk
  obtain ⟨S1,r1,NP,Uc,e1,H1,a1,a2,a3,a4,a5⟩:=H.step hh (hw c Zu) (by omega)
  obtain ⟨S2,r2,P9,Pq,e2,H2,b1,b2,b3,b4,b5⟩:=ih H1 a1 (.inr a2) (fun d hd=>hw d (Zw _ hd)) (by rw [a2,Zv,ZK];omega)
  refine ⟨S2,r2,P9,Pq,?_,H2.congr fun p=>?_,b1,?_,fun m hm=>by rw [b3 m (by omega),a3 m hm],by omega,by rw [Zm];omega⟩
  ·show (hb S h c).bind _=_
   rw [e1]
   exact e2
  ·rw [a2]
   constructor
   ·rintro ((a | rfl) | ⟨v,a,rfl⟩)
    ·exact .inl a
    ·exact .inr ⟨[c],XM.mpr ⟨rfl,List.nil_prefix⟩,rfl⟩
    ·exact .inr ⟨c :: v,XM.mpr ⟨rfl,a⟩,by rw [ZF];rfl⟩
   ·rintro (a | ⟨v,a,rfl⟩)
    ·exact .inl (.inl a)
    ·cases v with
     | nil=>rw [ZS];exact .inl (.inl hp)
     | cons d v =>
      obtain ⟨rfl,a'⟩:=XM.mp a
      exact .inr ⟨v,a',by rw [ZF];rfl⟩
  ·rw [b2,a2,ZF];rfl
def mB (S:St):List Wd->Option St
 | []=>some S
 | t :: b=>(hg S 0 t).bind fun z=>mB z.1 b
def K.book:∀ (b:List Wd) {P:Wd->Prop} {S:St} {nd:Wd->Option Nat} {wd:List Wd} (H:K P S nd wd),(∀ t∈b,∀ c∈t,97<=c/\c<=122)->(∀ t∈b,t.length < 1000) →
  ∃ S' Hx Ha,mB S b=.some S'/\K (fun p=>P p\/∃ t∈b,p <+: t) S' Hx Ha/\wd.length<=Ha.length/\Ha.length<=wd.length+2 * (b.map List.length).sum:=by
 intro b
 induction b with
 | nil =>
  intro P S nd wd H _ _
  refine ⟨S,nd,wd,rfl,H.congr fun p=>⟨.inl,?_⟩,Zp _,YO _ _⟩
  rintro (a | ⟨t,ht,_⟩)
  ·exact a
  ·cases ht
 | cons t b ih =>
  intro P S nd wd H ha hl
  have hz:0 < wd.length:=H.i.lt H.i.z
  obtain ⟨S1,r1,NP,Uc,e1,H1,a1,a2,a3,a4,a5⟩:=H.grow t hz (by rw [H.i.wz];exact H.nil) (ha t Zu) (by rw [H.i.wz];have:=hl t Zu;simpa using this)
  obtain ⟨S2,P9,Pq,e2,H2,b1,b2⟩:=ih H1 (fun t ht=>ha t (Zw _ ht)) (fun t ht=>hl t (Zw _ ht))
  refine ⟨S2,P9,Pq,?_,H2.congr fun p=>?_,by omega,by rw [Zl,Y0];omega⟩
  ·show (hg S 0 t).bind _=_
   rw [e1]
   exact e2
  ·rw [H.i.wz]
   constructor
   ·rintro ((a | ⟨v,a,rfl⟩) | ⟨u,hu,a⟩)
    ·exact .inl a
    ·exact .inr ⟨t,Zu,a⟩
    ·exact .inr ⟨u,Zw _ hu,a⟩
   ·rintro (a | ⟨u,hu,a⟩)
    ·exact .inl (.inl a)
    ·rcases Zj.mp hu with rfl | hu
     ·exact .inl (.inr ⟨p,a,rfl⟩)
     ·exact .inr ⟨u,hu,a⟩
def Hd (b:List Wd) (p:Wd):Prop:=p=[]\/∃ t∈b,p <+: t
def K.of (b:List Wd) (ha:∀ t∈b,∀ c∈t,97<=c/\c<=122) (hl:∀ t∈b,t.length < 1000):∃ S nd wd,mB S0 b=.some S/\K (Hd b) S nd wd/\wd.length<=1+2 * (b.map List.length).sum:=by
 obtain ⟨S,nd,wd,e,H,_,l⟩:=K0.book b ha hl
 exact ⟨S,nd,wd,e,H,l⟩
def sk (w:List (Nat×Nat)):Wh:=(List.range' 97 26).filter fun c=>(gW w c).isSome
def visit (w:List (Nat×Nat)):Wh->Wh->Wh
 | [],met=>met
 | c :: r,met=>visit w r (if (gW w c).getD 0∈met then met else met++[(gW w c).getD 0])
def JW (S:St):Nat->Wh->Nat->Option (Wh)
 | k,met,d=>if d < met.length then (match k with
  | 0=>none
  | k+1=>JW S k (visit (S.wy.getD (met.getD d 0) []) (sk (S.wy.getD (met.getD d 0) [])) met) (d+1)) else some met
def steps (S:St) (met:Wh) (n:Nat):List (Nat×Nat):=(sk (S.wy.getD n [])).map fun c=>(c,met.idxOf ((gW (S.wy.getD n []) c).getD 0))
abbrev Row:=Nat×Nat×Option Nat×List (Nat×Nat)
def row (S:St) (met:Wh) (n:Nat):Row:=match S.lk.getD n none with
 | none=>(0,0,none,steps S met n)
 | some l=>(S.lg.getD l 0+1,S.lg.getD n 0,some (met.idxOf l),steps S met n)
def tab (S:St) (met:Wh):List Row:=met.map (row S met)
section
variable {S T:St} {f:Nat->Nat}
def nu {w:List (Nat×Nat)} {c:Nat} (h:c∈sk w):∃ m,gW w c=some m:=Yn.mp (YK.mp h).2
theorem nU {w:List (Nat×Nat)} {N:Nat} (hw:∀ c m,gW w c=some m->m < N):∀ (r met:Wh),(∀ c∈r,∃ m,gW w c=some m)->(∀ x∈met,x < N)->∀ x∈visit w r met,x < N
 | [],met,_,hm=>hm
 | c :: r,met,hr,hm=>by
  refine nU hw r _ (fun d hd=>hr d (Zw _ hd)) ?_
  obtain ⟨m,e⟩:=hr c Zu
  rw [e,Xu]
  split
  ·exact hm
  ·intro x hx
   rcases Zc.mp hx with h | h
   ·exact hm x h
   ·rw [Zf.mp h];exact hw c m e
def getD_mem {l:Wh} {d:Nat} (h:d < l.length):l.getD d 0∈l:=by
 rw [Zs,Zr h]
 exact Yz h
end
theorem lA {w:List (Nat×Nat)}:∀ (r met:Wh),∃ l,visit w r met=met++l
 | [],met=>⟨[],(ZS _).symm⟩
 | c :: r,met=>by
  obtain ⟨l,e⟩:=lA (w:=w) r (if (gW w c).getD 0∈met then met else met++[(gW w c).getD 0])
  show ∃ l,visit w r _=_
  rw [e]
  split
  ·exact ⟨l,rfl⟩
  ·exact ⟨_,ZF _ _ _⟩
theorem nz {w:List (Nat×Nat)}:∀ (r met:Wh),met.Nodup->(visit w r met).Nodup
 | [],met,h=>h
 | c :: r,met,h=>by
  refine nz (w:=w) r _ ?_
  split
  ·exact h
  ·rename_i q
   rw [ZU]
   refine ⟨h,by simp,fun a ha b hb e=>q ?_⟩
   rw [Zf.mp hb] at e
   rw [← e]
   exact ha
theorem oP {w:List (Nat×Nat)}:∀ (r met:Wh),∀ c∈r,(gW w c).getD 0∈visit w r met
 | d :: r,met,c,hc=>by
  rcases Zj.mp hc with rfl | hc
  ·obtain ⟨l,e⟩:=lA (w:=w) r (if (gW w c).getD 0∈met then met else met++[(gW w c).getD 0])
   show _∈visit w r _
   rw [e]
   refine Yx _ ?_
   split
   ·assumption
   ·exact ZL _ Zu
  ·exact oP r _ c hc
def yS {w:List (Nat×Nat)} (az:∀ p∈w,97<=p.1/\p.1<=122) {c m:Nat} (h:gW w c=some m):c∈sk w:=by
 refine YK.mpr ⟨?_,by rw [h];rfl⟩
 unfold gW at h
 obtain ⟨p,hp,_⟩:=Zy.mp h
 have e:=List.find?_some hp
 have:=az p (List.mem_of_find?_eq_some hp)
 have e':p.1=c:=by simpa using e
 rw [e'] at this
 rw [List.mem_range'_1]
 omega
def CU {S:St} (WS:WF S):∀ (k:Nat) (met:Wh) (d:Nat),met.Nodup->(∀ x∈met,x < S.lg.length)->d<=met.length->S.lg.length<=k+d->(∀ i,i < d->∀ c m,gW (S.wy.getD (met.getD i 0) []) c=some m->m∈met) →
  ∃ l,JW S k met d=some (met++l)/\(met++l).Nodup/\(∀ x∈met++l,x < S.lg.length)/\∀ n∈met++l,∀ c m,gW (S.wy.getD n []) c=some m->m∈met++l:=by
 intro k
 have fin:∀ (met:Wh) (d:Nat),¬ d < met.length->d<=met.length->(∀ i,i < d->∀ c m,gW (S.wy.getD (met.getD i 0) []) c=some m->m∈met)->∀ n∈met,∀ c m,gW (S.wy.getD n []) c=some m->m∈met:=by
  intro met d h1 h2 h n hn c m e
  obtain ⟨i,hi,q⟩:=List.mem_iff_getElem.mp hn
  refine h i (by omega) c m ?_
  have:met.getD i 0=n:=by rw [Zs,Zr hi,q];rfl
  rw [this]
  exact e
 induction k with
 | zero =>
  intro met d nd lt hd hk h
  have hl:met.length<=S.lg.length:=by
   have:=sub_len met (List.range S.lg.length) nd fun x hx=>Ye.mpr (lt x hx)
   rwa [ZQ] at this
  have Ig:¬ d < met.length:=by omega
  refine ⟨[],?_,?_⟩
  ·unfold JW
   rw [Zo Ig,ZS]
  ·rw [ZS]
   exact ⟨nd,lt,fin met d Ig hd h⟩
 | succ k ih =>
  intro met d nd lt hd hk h
  by_cases Ig:d < met.length
  ·obtain ⟨l1,e1⟩:=lA (w:=S.wy.getD (met.getD d 0) []) (sk (S.wy.getD (met.getD d 0) [])) met
   obtain ⟨l,e,h1,h2,h3⟩:=ih (visit (S.wy.getD (met.getD d 0) []) (sk (S.wy.getD (met.getD d 0) [])) met) (d+1) (nz _ _ nd) (nU (fun c m e=>WS.on _ c m e) _ _ (fun c hc=>nu hc) lt) (by rw [e1,Zv];omega) (by omega) (fun i hi c m e=>by
    have gi:(visit (S.wy.getD (met.getD d 0) []) (sk (S.wy.getD (met.getD d 0) [])) met).getD i 0=met.getD i 0:=by
     rw [e1,Zs,Zs,ZA (by omega)]
    rw [gi] at e
    by_cases q:i=d
    ·subst q
     have:=oP (w:=S.wy.getD (met.getD i 0) []) (sk (S.wy.getD (met.getD i 0) [])) met c (yS (WS.Nv _).2 e)
     rw [e] at this
     exact this
    ·rw [e1]
     exact Yx _ (h i (by omega) c m e))
   rw [e1,ZF] at h1 h2 h3
   refine ⟨l1++l,?_,h1,h2,h3⟩
   unfold JW
   rw [Zq Ig]
   show JW S k _ (d+1)=_
   rw [e,e1,ZF]
  ·refine ⟨[],?_,?_⟩
   ·unfold JW
    rw [Zo Ig,ZS]
   ·rw [ZS]
    exact ⟨nd,lt,fin met d Ig hd h⟩
def Bs {α:Type} {p:List α->Prop} (h0:p []) (h1:∀ l a,p l->p (l++[a])) (l:List α):p l:=by
 have:∀ l:List α,p l.reverse:=by
  intro l
  induction l with
  | nil=>exact h0
  | cons a l ih=>rw [List.reverse_cons];exact h1 _ a ih
 rw [← List.reverse_reverse l]
 exact this _
def K.met {P:Wd->Prop} {S:St} {nd:Wd->Option Nat} {wd:List Wd} (H:K P S nd wd) {k:Nat} (hk:wd.length<=k):∃ l,JW S k [0] 0=Option.some (0 :: l)/\(0 :: l).Nodup/\(∀ x,x∈0 :: l ↔ x < wd.length)/\(0 :: l).length=wd.length:=by
 have L:S.lg.length=wd.length:=H.i.len.symm
 obtain ⟨l,e,h1,h2,h3⟩:=CU H.i.wf k [0] 0 (by simp) (fun x hx=>by rw [Zf.mp hx];exact H.i.wf.pos) (Yt _) (by omega) (fun i hi=>absurd hi (Nat.not_lt_zero _))
 have h0:∀ (x:Wd) n,nd x=Option.some n->n∈0 :: l:=by
  intro x
  induction x using Bs with
  | h0=>intro n e;rw [H.i.z] at e;cases e;exact Zu
  | h1 x c ih =>
   intro n e
   obtain ⟨m,hm⟩:=H.i.pre e
   exact h3 m (ih m hm) c n (by rw [H.i.wy hm];exact e)
 have hx:∀ x,x∈0 :: l ↔ x < wd.length:=fun x=>⟨fun z=>by rw [← L];exact h2 x z,fun z=>h0 _ x (H.i.top z)⟩
 refine ⟨l,e,h1,hx,Nat.le_antisymm ?_ ?_⟩
 ·have:=sub_len (0 :: l) (List.range wd.length) h1 fun x z=>Ye.mpr ((hx x).mp z)
  rwa [ZQ] at this
 ·have:=sub_len (List.range wd.length) (0 :: l) List.nodup_range fun x z=>(hx x).mpr (Ye.mp z)
  rwa [ZQ] at this
end AU
end
section
namespace T42
open VS AU
def AF (w:List (Nat×Nat)) (c:Nat):c∈w.map (·.1) ↔ (gW w c).isSome=true:=by
 rw [← CH,Yj,Yg]
 exact ⟨fun ⟨p,h1,h2⟩=>⟨p,h1,by rw [h2];exact beq_self_eq_true c⟩,fun ⟨p,h1,h2⟩=>⟨p,h1,by simpa using h2⟩⟩
def vi {w:List (Nat×Nat)} (nd:(w.map (·.1)).Nodup) (az:∀ p∈w,97<=p.1/\p.1<=122):(sk w).Perm (w.map (·.1)):=by
 refine (List.perm_ext_iff_of_nodup ?_ nd).mpr fun c=>?_
 ·exact List.Nodup.sublist List.filter_sublist List.nodup_range'
 ·rw [AF]
  constructor
  ·intro h
   exact (YK.mp h).2
  ·intro h
   obtain ⟨m,e⟩:=Yn.mp h
   exact yS az e
def xm {m:Md} {w:List (Nat×Nat)} (nd:(w.map (·.1)).Nodup) (az:∀ p∈w,97<=p.1/\p.1<=122):gQ [(m,G4 w)]=some (.fr,.lst ((sk w).map fun c=>T.str [c])):=by
 show ((strs? ((w.map fun p=>(T.str [p.1],T.int (p.2:Int))).map (·.1))).bind _)=_
 have e1:(w.map fun p=>(T.str [p.1],T.int (p.2:Int))).map (·.1)=(w.map (·.1)).map fun c=>T.str [c]:=by
  rw [Z4,Z4]
  rfl
 rw [e1,strs_map (fun c=>[c]),Zx,Zq]
 ·have:(sk w).map (fun c=>[c])=eR ((w.map (·.1)).map fun c=>[c]):=by
   refine pd ((vi nd az).map _) ?_
   rw [Wv]
   refine List.Pairwise.imp ?_ (List.Pairwise.filter _ (List.pairwise_lt_range' (s:=97) (n:=26)))
   intro a b hab h
   rcases Xv.mp h with h | ⟨_,h⟩
   ·omega
   ·exact absurd h (List.not_lt_nil _)
  rw [← this,Z4]
  rfl
 ·refine ⟨?_,Yi.mpr ?_⟩
  ·rw [Zt,← (vi nd az).length_eq]
   have:(sk w).length<=(List.range' 97 26).length:=Xw _ _
   rw [Xh] at this
   omega
  intro s hs
  obtain ⟨c,hc,rfl⟩:=Yg.mp hs
  obtain ⟨p,hp,rfl⟩:=Yg.mp hc
  have:=az p hp
  show (decide (1<=eD) && (decide (p.1 < 1114112) && true))=true
  rw [decide_eq_true (show p.1 < 1114112 by omega)]
  rfl
def nE:Nat->Wh->List (T×T)
 | _,[]=>[]
 | k,n :: r=>(T.int (n:Int),T.int (k:Int)) :: nE (k+1) r
theorem xw:∀ (met:Wh) (k:Nat),(nE k met).length=met.length
 | [],_=>rfl
 | _ :: r,k=>by rw [nE,Zm,Zm,xw r]
theorem pO:∀ (met:Wh) (k:Nat),(nE k met).map (·.1)=met.map fun (n:Nat)=>T.int (n:Int)
 | [],_=>rfl
 | _ :: r,k=>by rw [nE,Zl,Zl,pO r]
theorem zA:∀ (met:Wh) (k n:Nat),nE k (met++[n])=nE k met++[(T.int (n:Int),T.int ((k+met.length:Nat):Int))]
 | [],k,n=>rfl
 | m :: r,k,n=>by
  rw [XY,nE,nE,zA r (k+1) n,Zm,XY]
  rw [show k+1+r.length=k+(r.length+1) by omega]
def Gr (a b:Nat):eqT (.int (a:Int)) (.int (b:Int))=(a == b):=by
 simp only [eqT]
 by_cases h:a=b
 ·simp [h]
 ·have h1:¬ (a:Int)=(b:Int):=by omega
  rw [ZM.mpr h,ZM.mpr h1]
theorem pk:∀ (met:Wh) (k n:Nat),fB (nE k met) (.int (n:Int))=if n∈met then some (T.int ((k+met.idxOf n:Nat):Int)) else none
 | [],_,_=>rfl
 | m :: r,k,n=>by
  show ((((T.int (m:Int),T.int (k:Int)) :: nE (k+1) r).find? fun p=>eqT p.1 (.int (n:Int))).map (·.2))=_
  rw [Z7]
  simp only [Gr]
  by_cases h:m=n
  ·subst h
   simp [List.idxOf_cons]
  ·have hb:(m == n)=false:=ZM.mpr h
   have ih:=pk r (k+1) n
   unfold fB at ih
   simp only [hb]
   rw [ih,List.idxOf_cons,hb]
   by_cases q:n∈r
   ·rw [Zq q,Zq (Zw _ q)]
    show some (T.int ((k+1+r.idxOf n:Nat):Int))=some (T.int ((k+(r.idxOf n+1):Nat):Int))
    rw [show k+1+r.idxOf n=k+(r.idxOf n+1) by omega]
   ·rw [Zo q,Zo (fun z=>(Zj.mp z).elim (fun e=>h e.symm) q)]
def Dt (met:Wh) (n:Nat) (h:n ∉ met):dput (nE 0 met) (.int (n:Int)) (.int (met.length:Int))=nE 0 (met++[n]):=by
 unfold dput
 rw [Zo,zA]
 ·rw [Xl]
 ·intro z
  obtain ⟨p,hp,e⟩:=Yj.mp z
  have:(fB (nE 0 met) (.int (n:Int))).isSome=true:=by
   unfold fB
   rw [Yd,List.find?_isSome]
   exact ⟨p,hp,e⟩
  rw [pk,Zo h] at this
  cases this
def nT (met:Wh):T:=.GL 0 (nE 0 met)
def mT (met:Wh):T:=.lst (met.map fun (n:Nat)=>T.int (n:Int))
def BQ {U:Env} {m k:Md} {met:Wh} {n:Nat} {a e:Ex} (h:a U=some (m,nT met)) (he:e U=some (k,.int (n:Int))):e2 cP e a U=some (.fr,.bl (decide (n ∉ met))):=e2v he h (by
 show (match (if true=true then some (Md.fr,T.bl (fB (nE 0 met) (.int (n:Int))).isSome) else none) with | some (_,.bl b)=>some (Md.fr,T.bl (!b)) | _=>none)=_
 rw [Zq rfl,pk]
 by_cases q:n∈met
 ·rw [Zq q,Za (fun z=>z q)];rfl
 ·rw [Zo q,decide_eq_true q];rfl)
section
variable {S:St} {w:List (Nat×Nat)}
theorem zz {d:Nat} {ob:We}:∀ (r met:Wh) (z:We),(∀ c∈r,∃ m,gW w c=some m)->met.length+r.length < 16777216->∃ z',forL (bc 5) ba (r.map fun c=>T.str [c]) [ob,oc (nT met),oc (mT met),Q0 (d:Int),pc (G4 w),z]=some (.nx [ob,oc (nT (visit w r met)),oc (mT (visit w r met)),Q0 (d:Int),pc (G4 w),z'])
 | [],met,z,_,_=>⟨z,rfl⟩
 | c :: r,met,z,hr,hl=>by
  obtain ⟨m,e⟩:=hr c Zu
  rw [Zm] at hl
  have hlen:(nE 0 met).length=met.length:=xw met 0
  by_cases q:m∈met
  ·obtain ⟨z',ih⟩:=zz r met (Q1 ([c])) (fun d hd=>hr d (Zw _ hd)) (by omega)
   refine ⟨z',?_⟩
   have ev:visit w (c :: r) met=visit w r met:=by
    show visit w r (if (gW w c).getD 0∈met then met else met++[(gW w c).getD 0])=_
    rw [e,Xu,Zq q]
   rw [ev,Zl]
   refine (iy (U1:=[ob,oc (nT met),oc (mT met),Q0 (d:Int),pc (G4 w),Q1 ([c])]) rfl ?_).trans ih
   unfold ba
   refine eK (m:=.fr) ?_ rfl
   refine (BQ (m:=.bo) (k:=.fr) (met:=met) (n:=m) rfl (wa (m:=.pu) (n:=.fr) (c:=c) (w:=w) rfl rfl e)).trans ?_
   rw [Za (fun z=>z q)]
  ·obtain ⟨z',ih⟩:=zz r (met++[m]) (Q1 ([c])) (fun d hd=>hr d (Zw _ hd)) (by rw [Zv,ZK];omega)
   refine ⟨z',?_⟩
   have ev:visit w (c :: r) met=visit w r (met++[m]):=by
    show visit w r (if (gW w c).getD 0∈met then met else met++[(gW w c).getD 0])=_
    rw [e,Xu,Zo q]
   rw [ev,Zl]
   refine (iy (U1:=[ob,oc (nT met),oc (mT met),Q0 (d:Int),pc (G4 w),Q1 ([c])]) rfl ?_).trans ih
   unfold ba
   refine IG (m:=.fr) ?_ ?_
   ·refine (BQ (m:=.bo) (k:=.fr) (met:=met) (n:=m) rfl (wa (m:=.pu) (n:=.fr) (c:=c) (w:=w) rfl rfl e)).trans ?_
    rw [decide_eq_true q]
   ·have SI:∀ nn mm:We,e2 IF (aa 4) (aa 5) [ob,nn,mm,Q0 (d:Int),pc (G4 w),Q1 ([c])]=some (.fr,.int (m:Int)):=fun nn mm=>wa (m:=.pu) (n:=.fr) (c:=c) (w:=w) rfl rfl e
    have p1:rQ 1 (e2 IF (aa 4) (aa 5)) (eN bt (ab (aa 2) ai)) [ob,oc (nT met),oc (mT met),Q0 (d:Int),pc (G4 w),Q1 ([c])]=some (.nx [ob,oc (nT (met++[m])),oc (mT met),Q0 (d:Int),pc (G4 w),Q1 ([c])]):=by
     have l1:eN bt (ab (aa 2) ai) [ob,oc (nT met),oc (mT met),Q0 (d:Int),pc (G4 w),Q1 ([c])]=some (.fr,.int (met.length:Int)):=jv (xv (x:=(.bo,mT met)) rfl rfl) (by
      show some (Md.fr,T.int (((met.map fun (n:Nat)=>T.int (n:Int)).length:Nat):Int))=_
      rw [Zt])
     unfold rQ
     rw [l1,Zx]
     show ((e2 IF (aa 4) (aa 5) [ob,oc (nT met),oc (mT met),Q0 (d:Int),pc (G4 w),Q1 ([c])]).bind _)=_
     rw [SI,Zx]
     show (if true=true/\true=true/\(nE 0 met).length < eD then some (Out.nx [ob,oc (.GL 0 (dput (nE 0 met) (.int (m:Int)) (.int (met.length:Int)))),oc (mT met),Q0 (d:Int),pc (G4 w),Q1 ([c])]) else none)=_
     rw [Zq ⟨rfl,rfl,by rw [hlen];show met.length < 16777216;omega⟩,Dt met m q]
     rfl
    refine sq p1 ?_
    refine (nM (i:=2) (l:=met.map fun (n:Nat)=>T.int (n:Int)) (v:=.int (m:Int)) rfl (SI _ _) (by rw [Zt];omega)).trans ?_
    rw [show (met.map fun (n:Nat)=>T.int (n:Int))++[.int (m:Int)]=(met++[m]).map fun (n:Nat)=>T.int (n:Int) from by rw [ZD];rfl]
    rfl
end
def sT (w:List (Nat×Nat)):(sk w).length<=26:=by
 refine ZG (Xw _ _) ?_
 rw [Xh]
 exact Zp _
def Ac {S:St} {met:Wh} (nd:met.Nodup) (lt:∀ x∈met,x < S.lg.length):met.length<=S.lg.length:=by
 have:=sub_len met (List.range S.lg.length) nd fun x hx=>Ye.mpr (lt x hx)
 rwa [ZQ] at this
def FB {S:St} (WS:WF S) (hs:S.lg.length<=100001):∀ (k:Nat) (met:Wh) (d:Nat) (Mq:Wh),met.Nodup->(∀ x∈met,x < S.lg.length)->JW S k met d=some Mq->∀ N,k < N->∀ z4 z5:We,∃ d' T9 Lw,
  dH (e2 oLt (aa 3) (eN bt (ab (aa 2) ai))) bT N [pc (GI S false),oc (nT met),oc (mT met),Q0 ((d:Nat):Int),z4,z5] =
   some (.nx [pc (GI S false),oc (nT Mq),oc (mT Mq),pc d',T9,Lw]):=by
 have cond:∀ (met:Wh) (d:Nat) (z4 z5:We),e2 oLt (aa 3) (eN bt (ab (aa 2) ai)) [pc (GI S false),oc (nT met),oc (mT met),Q0 ((d:Nat):Int),z4,z5]=some (.fr,.bl (decide (d < met.length))):=fun met d z4 z5 =>
  e2v (x:=(.fr,.int (d:Int))) rfl (jv (v:=(.fr,.int (met.length:Int))) (xv (x:=(.bo,mT met)) rfl rfl) (by
   show some (Md.fr,T.int (((met.map fun (n:Nat)=>T.int (n:Int)).length:Nat):Int))=_
   rw [Zt])) (by
   show some (Md.fr,T.bl (decide ((d:Int) < (met.length:Int))))=_
   rw [show decide ((d:Int) < (met.length:Int))=decide (d < met.length) from decide_eq_decide.mpr (by omega)])
 intro k
 induction k with
 | zero =>
  intro met d Mq nd lt e N hN z4 z5
  obtain ⟨N,rfl⟩:∃ Mq,N=Mq+1:=⟨N - 1,by omega⟩
  unfold JW at e
  split at e
  ·cases e
  ·rename_i h
   cases e
   exact ⟨_,z4,z5,fP (m:=.fr) ((cond _ _ _ _).trans (by rw [Za h]))⟩
 | succ k ih =>
  intro met d Mq nd lt e N hN z4 z5
  obtain ⟨N,rfl⟩:∃ Mq,N=Mq+1:=⟨N - 1,by omega⟩
  unfold JW at e
  split at e
  ·rename_i h
   have hn:=lt _ (getD_mem h)
   have IA:met.getD d 0 < S.wy.length:=by rw [WS.wy];exact hn
   have ml:=Ac nd lt
   have sl:=sT (S.wy.getD (met.getD d 0) [])
   obtain ⟨z',l1⟩:=zz (w:=S.wy.getD (met.getD d 0) []) (d:=d) (ob:=pc (GI S false)) (sk (S.wy.getD (met.getD d 0) [])) met z5 (fun c hc=>nu hc) (by omega)
   obtain ⟨d',y4,y5,q⟩:=ih _ (d+1) Mq (nz _ _ nd) (nU (fun c m e=>WS.on _ c m e) _ _ (fun c hc=>nu hc) lt) e N (by omega) (pc (G4 (S.wy.getD (met.getD d 0) []))) z'
   refine ⟨d',y4,y5,(l8 (m:=.fr) ((cond _ _ _ _).trans (by rw [decide_eq_true h])) ?_).trans q⟩
   unfold bT
   have ix:e2 ay (aa 2) (aa 3) [pc (GI S false),oc (nT met),oc (mT met),Q0 ((d:Nat):Int),z4,z5]=some (.fr,.int ((met.getD d 0:Nat):Int)):=e2v (x:=(.bo,mT met)) (y:=(.fr,.int (d:Int))) rfl rfl (jE _ met d 0 h)
   have s1:aH 4 (e2 ay (aU 3 (aa 0)) (e2 ay (aa 2) (aa 3))) [pc (GI S false),oc (nT met),oc (mT met),Q0 ((d:Nat):Int),z4,z5]=some (.nx [pc (GI S false),oc (nT met),oc (mT met),Q0 ((d:Nat):Int),pc (G4 (S.wy.getD (met.getD d 0) [])),z5]) :=
    aI (m:=.pu) (mL (S:=S) (b:=false) (m:=.pu) (n:=.fr) rfl ix IA) (by decide) (by decide:4 < 6)
   refine sq s1 ?_
   have nw:=WS.Nv (met.getD d 0)
   refine sq ((dF (m:=.fr) (l:=(sk (S.wy.getD (met.getD d 0) [])).map fun c=>T.str [c]) ?_ rfl).trans l1) ?_
   ·show (eN gQ (ab (aa 4) ai) _).bind De=_
    rw [jv (xv (x:=(.pu,G4 (S.wy.getD (met.getD d 0) []))) rfl rfl) (xm nw.1 nw.2)]
    rfl
   ·exact aI (m:=.fr) (t:=.int (((d+1:Nat)):Int)) rfl (by decide) (by decide:3 < 6)
  ·rename_i h
   cases e
   exact ⟨_,z4,z5,fP (m:=.fr) ((cond _ _ _ _).trans (by rw [Za h]))⟩
def Di {S:St} (WS:WF S) (hs:S.lg.length<=100001) {Mq:Wh} {k:Nat} (hk:k < 1000000) (e:JW S k [0] 0=some Mq):aC [GI S false]=some (.fr,nT Mq):=by
 obtain ⟨d',z4,z5,q⟩:=FB WS hs k [0] 0 Mq (by simp) (fun x hx=>by rw [Zf.mp hx];exact WS.pos) e wq (by show k < 1000000;exact hk) none none
 refine fM (U:=[pc (GI S false),none,pc (mT Mq),pc d',z4,z5]) rfl ?_
 exact sq rfl (sq rfl (sq rfl (sq q (sq rfl rfl))))
def J8 (l:List (Nat×Nat)):T:=.tup (l.map fun p=>T.tup [.str [p.1],.int (p.2:Int)])
def pG (r:Row):T:=.tup [.int (r.1:Int),.int (r.2.1:Int),GY r.2.2.1,J8 r.2.2.2]
theorem uQ:∀ l:List (Nat×Nat),eO (l.map fun p=>T.tup [.str [p.1],.int (p.2:Int)])=true
 | []=>rfl
 | p :: l=>by
  rw [Zl]
  show (true && eO _)=true
  rw [uQ l]
  rfl
def p5 (l:List (Nat×Nat)):GO (J8 l)=true:=uQ l
def Ax (r:Row):GO (pG r)=true:=by
 show (true && (true && (GO (GY r.2.2.1) && (GO (J8 r.2.2.2) && true))))=true
 rw [lj,p5]
 rfl
def E8 {a b c d:Ex} {U:Env} {x y z w:T} (h1:a U=some (.fr,x)) (h2:b U=some (.fr,y)) (h3:c U=some (.fr,z)) (h4:d U=some (.fr,w)):n9 (ab a (ab b (ab c (ab d ai)))) U=some (.fr,.tup [x,y,z,w]):=by
 show (ab a (ab b (ab c (ab d ai))) U).bind uN=_
 rw [xv h1 (xv h2 (xv h3 (xv (r:=ai) h4 rfl))),Zx]
 show some (up .fr _)=_
 unfold up
 split <;> rfl
def DL {S:St} (WS:WF S) {met:Wh} (all:∀ x,x < S.lg.length->x∈met) {n:Nat} (hn:n < S.lg.length):bL [GI S false,.int (n:Int),.GL 3 (nE 0 met)]=some (.fr,pG (row S met n)):=by
 have hw:n < S.wy.length:=by rw [WS.wy];exact hn
 have hk:n < S.lk.length:=by rw [WS.lk];exact hn
 have nw:=WS.Nv n
 have get:∀ v,v < S.lg.length->fB (nE 0 met) (.int (v:Int))=some (T.int ((met.idxOf v:Nat):Int)):=fun v hv=>by rw [pk,Zq (all v hv),Xl]
 have s1:aH 3 (e2 ay (aU 2 (aa 0)) (aa 1)) [pc (GI S false),Q0 (n:Int),pc (.GL 3 (nE 0 met)),none,none,none]=some (.nx [pc (GI S false),Q0 (n:Int),pc (.GL 3 (nE 0 met)),pc (GY (S.lk.getD n none)),none,none]):=aI (m:=.fr) (vd (S:=S) (b:=false) (m:=.pu) (n:=.fr) rfl rfl hk) (by decide) (by decide:3 < 6)
 have s2:aH 4 (e2 ay (aU 3 (aa 0)) (aa 1)) [pc (GI S false),Q0 (n:Int),pc (.GL 3 (nE 0 met)),pc (GY (S.lk.getD n none)),none,none]=some (.nx [pc (GI S false),Q0 (n:Int),pc (.GL 3 (nE 0 met)),pc (GY (S.lk.getD n none)),pc (G4 (S.wy.getD n [])),none]):=aI (m:=.pu) (mL (S:=S) (b:=false) (m:=.pu) (n:=.fr) rfl rfl hw) (by decide) (by decide:4 < 6)
 have c5:eN kh (ab (dQ 1 (bc 0) (ik (eN gQ (ab (aa 4) ai))) none (n9 (ab (aa 0) (ab (e2 pT (aa 3) (e2 IF (aa 5) (aa 0))) ai)))) ai) [pc (GI S false),Q0 (n:Int),pc (.GL 3 (nE 0 met)),pc (GY (S.lk.getD n none)),pc (G4 (S.wy.getD n [])),none]=some (.fr,J8 (steps S met n)):=by
  have c1:=gS (k:=1) (tg:=bc 0) (it:=ik (eN gQ (ab (aa 4) ai))) (elt:=n9 (ab (aa 0) (ab (e2 pT (aa 3) (e2 IF (aa 5) (aa 0))) ai))) (m:=.fr) (U:=[pc (GI S false),Q0 (n:Int),pc (.GL 3 (nE 0 met)),pc (GY (S.lk.getD n none)),pc (G4 (S.wy.getD n [])),none]) (fun c=>T.str [c]) (fun c=>T.tup [.str [c],.int ((met.idxOf ((gW (S.wy.getD n []) c).getD 0):Nat):Int)]) (sk (S.wy.getD n [])) (by
   show (eN gQ (ab (aa 4) ai) _).bind De=_
   rw [jv (xv (x:=(.pu,G4 (S.wy.getD n []))) rfl rfl) (xm nw.1 nw.2)]
   rfl) rfl (ZG (sT _) (by decide)) (fun c hc=>by
   obtain ⟨v,ev⟩:=nu hc
   refine ⟨[Q1 ([c]),pc (GI S false),Q0 (n:Int),pc (.GL 3 (nE 0 met)),pc (GY (S.lk.getD n none)),pc (G4 (S.wy.getD n [])),none],rfl,?_⟩
   have i1:e2 pT (aa 3) (e2 IF (aa 5) (aa 0)) [Q1 ([c]),pc (GI S false),Q0 (n:Int),pc (.GL 3 (nE 0 met)),pc (GY (S.lk.getD n none)),pc (G4 (S.wy.getD n [])),none]=some (.fr,.int ((met.idxOf v:Nat):Int)) :=
    e2v (x:=(.pu,.GL 3 (nE 0 met))) rfl (wa (m:=.pu) (n:=.fr) (c:=c) (w:=S.wy.getD n []) rfl rfl ev) (by
     show (if true=true then (fB (nE 0 met) (.int (v:Int))).map (sub .pu) else none)=_
     rw [Zq rfl,get v (WS.on n c v ev)]
     rfl)
   rw [ev,Xu]
   show (ab (aa 0) (ab (e2 pT (aa 3) (e2 IF (aa 5) (aa 0))) ai) _).bind uN=_
   rw [xv (x:=(.fr,.str [c])) rfl (xv (r:=ai) i1 rfl)]
   rfl)
  refine jv (xv (r:=ai) c1 rfl) ?_
  show (if _<=eD then some (up .fr (.tup _)) else none)=_
  rw [Zq (by rw [Zt];exact ZG (sT _) (by decide))]
  have:T.tup ((sk (S.wy.getD n [])).map fun c=>T.tup [.str [c],.int ((met.idxOf ((gW (S.wy.getD n []) c).getD 0):Nat):Int)])=J8 (steps S met n):=by
   unfold J8 steps
   rw [Z4]
   rfl
  rw [this]
  unfold up
  rw [p5]
  rfl
 have s3:=aI (i:=5) c5 (by decide) (by decide:5 < 6)
 have v5:∀ U:Env,U[5]?=some (pc (J8 (steps S met n)))->aa 5 U=some (.fr,J8 (steps S met n)):=fun U h=>by
  show (match U[5]? with | some (some (.pu t))=>some (up .pu t) | some (some (.ow t))=>some (.bo,t) | _=>none)=_
  rw [h]
  show some (up .pu _)=_
  unfold up
  rw [p5]
  rfl
 unfold row
 cases el:S.lk.getD n none with
 | none =>
  rw [el] at s1 s2 s3
  refine fM (v:=(.fr,pG (0,0,none,steps S met n))) (U:=[pc (GI S false),Q0 (n:Int),pc (.GL 3 (nE 0 met)),pc (GY none),pc (G4 (S.wy.getD n [])),pc (J8 (steps S met n))]) rfl ?_
  refine sq s1 (sq s2 (sq s3 (dX (IG (m:=.fr) rfl (fJ (E8 rfl rfl rfl (v5 _ rfl)))))))
 | some l =>
  rw [el] at s1 s2 s3
  have hl:=WS.up n l el
  refine fM (v:=(.fr,pG (S.lg.getD l 0+1,S.lg.getD n 0,some (met.idxOf l),steps S met n))) (U:=[pc (GI S false),Q0 (n:Int),pc (.GL 3 (nE 0 met)),pc (GY (some l)),pc (G4 (S.wy.getD n [])),pc (J8 (steps S met n))]) rfl ?_
  refine sq s1 (sq s2 (sq s3 (sq (eK (m:=.fr) rfl rfl) (fJ (E8 ?_ ?_ ?_ (v5 _ rfl))))))
  ·exact e2v (sr (S:=S) (b:=false) (m:=.pu) (n:=.fr) (i:=l) rfl rfl hl) rfl rfl
  ·exact sr (S:=S) (b:=false) (m:=.pu) (n:=.fr) (i:=n) rfl rfl hn
  ·exact e2v (x:=(.pu,.GL 3 (nE 0 met))) (y:=(.fr,.int (l:Int))) rfl rfl (by
    show (if true=true then (fB (nE 0 met) (.int (l:Int))).map (sub .pu) else none)=_
    rw [Zq rfl,get l hl]
    rfl)
def Ik (t:List Row):T:=.lst (t.map pG)
def CZ {S:St} (WS:WF S) (hs:S.lg.length<=100001) {Mq:Wh} {k:Nat} (hk:k < 1000000) (e:JW S k [0] 0=some Mq) (all:∀ x,x∈Mq ↔ x < S.lg.length) (hl:Mq.length<=16777216):dw [GI S false]=some (.fr,Ik (tab S Mq)):=by
 have n1:=Di WS hs hk e
 refine fM (U:=[pc (GI S false),none]) rfl ?_
 have s1:jX 1 (fh 0 aC (aa 0) ai) [pc (GI S false),none]=some (.nx [pc (GI S false),oc (nT Mq)]):=by
  show (fh 0 aC (aa 0) ai [pc (GI S false),none]).bind _=_
  have:fh 0 aC (aa 0) ai [pc (GI S false),none]=some (.fr,nT Mq):=by
   show ((aC [GI S false]).bind _)=_
   rw [n1]
   rfl
  rw [this]
  rfl
 refine sq s1 ?_
 have c1:=gS (k:=1) (tg:=bc 0) (it:=su 1) (elt:=fh 0 bL (aa 1) (ab (aa 0) (ab (aa 2) ai))) (m:=.fr) (U:=[pc (GI S false),pc (.GL 3 (nE 0 Mq))]) (fun (n:Nat)=>T.int (n:Int)) (fun n=>pG (row S Mq n)) Mq (by
  show (if ((nE 0 Mq).all fun p=>isInt p.1)=true then some (Md.fr,(nE 0 Mq).map (·.1)) else none)=_
  rw [Zq,pO]
  rw [Yi]
  intro p hp
  have:p.1∈(nE 0 Mq).map (·.1):=List.mem_map_of_mem hp
  rw [pO] at this
  obtain ⟨n,_,e⟩:=Yg.mp this
  rw [← e]
  rfl) rfl hl (fun n hn=>by
  refine ⟨[Q0 (n:Int),pc (GI S false),pc (.GL 3 (nE 0 Mq))],rfl,?_⟩
  show ((bL [GI S false,.int (n:Int),.GL 3 (nE 0 Mq)]).bind _)=_
  rw [DL WS (fun x hx=>(all x).mpr hx) ((all n).mp hn)]
  rfl)
 show ((dQ 1 (bc 0) (su 1) none (fh 0 bL (aa 1) (ab (aa 0) (ab (aa 2) ai))) [pc (GI S false),pc (.GL 3 (nE 0 Mq))]).bind _)=_
 rw [c1]
 unfold Ik tab
 rw [Z4]
 rfl
def K8 (tx:List Tx) (hd:Wh) (S:St):qS:=[(4,.lst (tx.map .str)),(5,.lst (hd.map fun (n:Nat)=>T.int (n:Int))),(6,GI S false)]
def GW (tx:List Tx) (hd:Wh) (S:St) (b:Bool):T:=.obj 2 ((0,.bl b) :: K8 tx hd S)
def AZ (S:St):dU (GI S false)=true:=by
 show ((true && !(0 == 0 && false)) && dP (Jx S))=true
 rw [j5]
 rfl
def kg (tx:List Tx) (hd:Wh) (S:St):dP (K8 tx hd S)=true:=by
 have h1:dU (.lst (tx.map T.str))=true:=dM _ (fun _=>rfl) _
 have h2:dU (.lst (hd.map fun (n:Nat)=>T.int (n:Int)))=true:=dM _ (fun _=>rfl) _
 show ((dU _ && !(4 == 0 && L7 _)) && ((dU _ && !(5 == 0 && L7 _)) && ((dU _ && !(6 == 0 && L7 _)) && true)))=true
 rw [h1,h2,AZ]
 rfl
def BF (tx:List Tx) (hd:Wh) (S:St) (b:Bool):qo 4 (GW tx hd S b)=some (.lst (tx.map .str)):=rfl
def FW (tx:List Tx) (hd:Wh) (S:St) (b:Bool):qo 5 (GW tx hd S b)=some (.lst (hd.map fun (n:Nat)=>T.int (n:Int))):=rfl
def FV (tx:List Tx) (hd:Wh) (S:St) (b:Bool):qo 6 (GW tx hd S b)=some (GI S false):=rfl
section
variable {tx:List Tx} {hd:Wh} {S S':St} {b:Bool} {r:List (We)}
def wZ {a:Ex} {U:Env} {m:Md} (h:a U=some (m,GW tx hd S b)):eN bt (ab (aU 4 a) ai) U=some (.fr,.int (tx.length:Nat)):=jv (xv (gO h (BF tx hd S b)) rfl) (by
 show some (Md.fr,T.int (((tx.map T.str).length:Nat):Int))=_
 rw [Zt])
def DR {e:Ex} {v:Tx} (h:e (oc (GW tx hd S b) :: r)=some (.fr,.str v)) (hl:tx.length < 16777216):sX (iC 0 [.fld 4] aE (ab e ai)) (oc (GW tx hd S b) :: r)=some (.nx (oc (GW (tx++[v]) hd S b) :: r)):=by
 show (((some [Ky.fld 4]).bind fun ks=>(ab e ai (oc (GW tx hd S b) :: r)).bind fun xs=>(pm (fun x=>aE x xs) ks (GW tx hd S b)).map _).map _)=_
 rw [Zx,xv (r:=ai) h rfl,Zx]
 show (((aE (.lst (tx.map T.str)) [(.fr,.str v)]).map _).map _ |>.map _)=_
 rw [eT (by rw [Zt];exact hl),show (tx.map T.str)++[.str v]=(tx++[v]).map T.str from by rw [ZD];rfl]
 rfl
def DA {e:Ex} {v:Nat} (h:e (oc (GW tx hd S b) :: r)=some (.fr,.int (v:Int))) (hl:hd.length < 16777216):sX (iC 0 [.fld 5] aE (ab e ai)) (oc (GW tx hd S b) :: r)=some (.nx (oc (GW tx (hd++[v]) S b) :: r)):=by
 show (((some [Ky.fld 5]).bind fun ks=>(ab e ai (oc (GW tx hd S b) :: r)).bind fun xs=>(pm (fun x=>aE x xs) ks (GW tx hd S b)).map _).map _)=_
 rw [Zx,xv (r:=ai) h rfl,Zx]
 show (((aE (.lst (hd.map fun (n:Nat)=>T.int (n:Int))) [(.fr,.int (v:Int))]).map _).map _ |>.map _)=_
 rw [eT (by rw [Zt];exact hl),show (hd.map fun (n:Nat)=>T.int (n:Int))++[.int (v:Int)]=(hd++[v]).map fun (n:Nat)=>T.int (n:Int) from by rw [ZD];rfl]
 rfl
def ze (hl:tx.length < 8) (hh:hd.length=tx.length):bp (K8 tx hd S) []=some (K8 (tx++[[]]) (hd++[0]) S,.int (tx.length:Int)):=by
 unfold bp Iy
 rw [Zq ⟨rfl,rfl⟩]
 have c1:e2 Nb (eN bt (ab (aU 4 (aa 0)) ai)) (Q2 8) [oc (GW tx hd S true)]=some (.fr,.bl false):=e2v (wZ (m:=.bo) rfl) rfl (by
  show some (Md.fr,T.bl (decide ((8:Int)<=(tx.length:Int))))=_
  rw [Za (by omega)])
 have a1:=DR (tx:=tx) (hd:=hd) (S:=S) (b:=true) (r:=[]) (e:=eC (.str [])) (v:=[]) rfl (by omega)
 have a2:=DA (tx:=tx++[[]]) (hd:=hd) (S:=S) (b:=true) (r:=[]) (e:=Q2 0) (v:=0) rfl (by omega)
 have a4:=fJ (e:=e2 p7 (eN bt (ab (aU 4 (aa 0)) ai)) (Q2 1)) (U:=[oc (GW (tx++[[]]) (hd++[0]) S true)]) (t:=.int (tx.length:Int)) (e2v (wZ (m:=.bo) rfl) rfl (by
  show some (Md.fr,T.int ((((tx++[[]]).length:Nat):Int) - 1))=_
  rw [Zv,ZK,show (((tx.length+1:Nat)):Int) - 1=(tx.length:Int) by omega]))
 exact congrArg (fun z:Option Out=>z.bind _) (sq (eK c1 rfl) (sq a1 (sq a2 a4)))
def vW {i:Nat} (hi:i < tx.length):bw [.lst (tx.map .str),.int (i:Int)]=some (.fr,.GJ):=by
 refine ED (U:=[pc (.lst (tx.map .str)),Q0 (i:Int)]) rfl ?_
 refine eK (m:=.fr) (vz (m:=.fr) (x:=false) ?_ (fun _=>?_) (fun h=>by cases h)) rfl
 ·exact t9 (m:=.fr) (b:=true) rfl
 ·refine t9 (m:=.fr) (b:=true) (mf (x:=(.fr,.int 0)) (y:=(.fr,.int (i:Int))) (z:=(.fr,.int (tx.length:Int))) rfl rfl ?_ ?_ ?_)
  ·show some (Md.fr,T.bl (decide ((0:Int)<=(i:Int))))=_
   rw [decide_eq_true (by omega)]
  ·exact jv (xv (x:=(.pu,.lst (tx.map T.str))) (by
    show some (up .pu (.lst (tx.map T.str)))=_
    rfl) rfl) (by
    show some (Md.fr,T.int (((tx.map T.str).length:Nat):Int))=_
    rw [Zt])
  ·show some (Md.fr,T.bl (decide ((i:Int) < (tx.length:Int))))=_
   rw [decide_eq_true (by omega)]
end
def eW (tx:List Tx):Nat:=(tx.map List.length).sum
theorem vy:∀ tx:List Tx,(tx.map fun t=>(t.length:Int)).sum=(eW tx:Int)
 | []=>rfl
 | t :: tx=>by
  rw [Zl,Y0,vy tx]
  unfold eW
  rw [Zl,Y0]
  omega
def ye (tx:List Tx) (hl:tx.length<=16777216):gk [.lst (tx.map .str)]=some (.fr,.int (eW tx:Int)):=by
 refine fM (U:=[pc (.lst (tx.map .str))]) rfl ?_
 refine fJ (jv (xv (r:=ai) (gS (m:=.pu) T.str (fun (t:Tx)=>T.int (t.length:Int)) tx rfl rfl hl (fun t ht=>⟨[Q1 t,pc (.lst (tx.map .str))],rfl,rfl⟩)) rfl) ?_)
 show (nP (tx.map fun (t:Tx)=>T.int (t.length:Int))).bind _=_
 rw [ints_map (fun (t:Tx)=>(t.length:Int)),Zx,vy]
section
variable {tx:List Tx} {hd:Wh} {S S':St} {b:Bool}
def DB {i v:Nat} {e ev:Ex} {n:Md} {r:List (We)} (hi:i < hd.length) (he:e (oc (GW tx hd S b) :: r)=some (n,.int (i:Int))) (hv:ev (oc (GW tx hd S b) :: r)=some (.fr,.int (v:Int))) :
  dA 0 [.fld 5] e ev (oc (GW tx hd S b) :: r)=some (.nx (oc (GW tx (hd.set i v) S b) :: r)):=by
 unfold dA
 rw [hv,Zx]
 show ((keys [.fld 5] (oc (GW tx hd S b) :: r)).bind _)=_
 have hk:keys [.fld 5] (oc (GW tx hd S b) :: r)=some [.fld 5]:=rfl
 rw [hk,Zx,he,Zx]
 have hp:pm (jQ (n,.int (i:Int)) (.fr,.int (v:Int))) [.fld 5] (GW tx hd S b)=some (GW tx (hd.set i v) S b,()):=by
  show ((jQ (n,.int (i:Int)) (.fr,.int (v:Int)) (.lst (hd.map fun (n:Nat)=>T.int (n:Int)))).map _)=_
  have:jQ (n,.int (i:Int)) (.fr,.int (v:Int)) (.lst (hd.map fun (n:Nat)=>T.int (n:Int)))=some (.lst ((hd.set i v).map fun (n:Nat)=>T.int (n:Int)),()):=by
   show ((HH (hd.map fun (n:Nat)=>T.int (n:Int)).length (i:Int)).map _)=_
   rw [Zt,vM hi,XT]
   rfl
  rw [this]
  rfl
 rw [hp]
 rfl
def Dr {i:Nat} {v:Tx} {e ev:Ex} {n:Md} {r:List (We)} (hi:i < tx.length) (he:e (oc (GW tx hd S b) :: r)=some (n,.int (i:Int))) (hv:ev (oc (GW tx hd S b) :: r)=some (.fr,.str v)) :
  dA 0 [.fld 4] e ev (oc (GW tx hd S b) :: r)=some (.nx (oc (GW (tx.set i v) hd S b) :: r)):=by
 unfold dA
 rw [hv,Zx]
 show ((keys [.fld 4] (oc (GW tx hd S b) :: r)).bind _)=_
 have hk:keys [.fld 4] (oc (GW tx hd S b) :: r)=some [.fld 4]:=rfl
 rw [hk,Zx,he,Zx]
 have hp:pm (jQ (n,.int (i:Int)) (.fr,.str v)) [.fld 4] (GW tx hd S b)=some (GW (tx.set i v) hd S b,()):=by
  show ((jQ (n,.int (i:Int)) (.fr,.str v) (.lst (tx.map T.str))).map _)=_
  have:jQ (n,.int (i:Int)) (.fr,.str v) (.lst (tx.map T.str))=some (.lst ((tx.set i v).map T.str),()):=by
   show ((HH (tx.map T.str).length (i:Int)).map _)=_
   rw [Zt,vM hi,XT]
   rfl
  rw [this]
  rfl
 rw [hp]
 rfl
def zY {i r:Nat} {w:Tx} (W:WF S) (hh:hd.length=tx.length) (hi:i < tx.length) (h8:tx.length<=8) (hs:eW tx+w.length<=120) (hl:S.lg.length+2 * w.length<=100000) (hn:hd.getD i 0 < S.lg.length) (hc:∀ c∈w,97<=c/\c<=122) (ht:(tx.getD i []).length<=120) (e:hg S (hd.getD i 0) w=some (S',r)) :
  bh (K8 tx hd S) [.int (i:Int),.str w]=some (K8 (tx.set i (tx.getD i []++w)) (hd.set i r) S',.GJ):=by
 obtain ⟨w1,w2,w3,w4⟩:=B8 W hl hn hc e
 unfold bh Iy
 rw [Zq ⟨rfl,rfl⟩]
 have s1:sX (xP (bW bw (ab (aU 4 (aa 0)) (ab (aa 1) ai)))) [oc (GW tx hd S true),Q0 (i:Int),Q1 w]=some (.nx [oc (GW tx hd S true),Q0 (i:Int),Q1 w]):=by
  have:bW bw (ab (aU 4 (aa 0)) (ab (aa 1) ai)) [oc (GW tx hd S true),Q0 (i:Int),Q1 w]=some (.fr,.GJ):=cN (xv (gO (m:=.bo) (t:=GW tx hd S true) rfl (BF tx hd S true)) (xv (x:=(.fr,.int (i:Int))) rfl rfl)) (vW hi)
  show (((bW bw _ _).map _).map _)=_
  rw [this]
  rfl
 have c2:e2 Ke (e2 aN (bW gk (ab (aU 4 (aa 0)) ai)) (eN bt (ab (aa 2) ai))) (Q2 120) [oc (GW tx hd S true),Q0 (i:Int),Q1 w]=some (.fr,.bl false) :=
  e2v (x:=(.fr,.int ((eW tx:Int)+(w.length:Int)))) (e2v (cN (xv (r:=ai) (gO (m:=.bo) (t:=GW tx hd S true) rfl (BF tx hd S true)) rfl) (ye tx (by omega))) (y:=(.fr,.int (w.length:Int))) rfl rfl) rfl (by
   show some (Md.fr,T.bl (decide ((120:Int) < (eW tx:Int)+(w.length:Int))))=_
   rw [Za (by omega)])
 have x3:bx 0 [.fld 6] 0 [false,false] aL (ab (e2 ay (aU 5 (aa 0)) (aa 1)) (ab (aa 2) ai)) [oc (GW tx hd S true),Q0 (i:Int),Q1 w]=some ((.fr,.int (r:Int)),[oc (GW tx hd S' true),Q0 (i:Int),Q1 w]):=by
  show ((some [Ky.fld 6]).bind fun ks=>(ab (e2 ay (aU 5 (aa 0)) (aa 1)) (ab (aa 2) ai) [oc (GW tx hd S true),Q0 (i:Int),Q1 w]).bind fun xs=>(pm (lN 0 [false,false] aL xs) ks (GW tx hd S true)).map fun z=>(z.2,[oc z.1,Q0 (i:Int),Q1 w]))=_
  rw [Zx,xv (x:=(.fr,.int ((hd.getD i 0:Nat):Int))) (e2v (gO (m:=.bo) (t:=GW tx hd S true) rfl (FW tx hd S true)) (y:=(.fr,.int (i:Int))) rfl (jE _ hd i 0 (by omega))) (xv (r:=ai) (x:=(.fr,.str w)) rfl rfl),Zx]
  show (((if 1=0+1/\dP (Jx S)=true/\argsOk [false,false] [(Md.fr,T.int ((hd.getD i 0:Nat):Int)),(Md.fr,T.str w)]=true/\aZ (trees [(Md.fr,T.int ((hd.getD i 0:Nat):Int)),(Md.fr,T.str w)])=true then (aL (Jx S) [.int ((hd.getD i 0:Nat):Int),.str w]).bind fun z=>if dP z.1=true/\GO z.2=true then some (T.obj 1 ((0,.bl false) :: z.1),(Md.fr,z.2)) else none else none).map _).map _)=_
  rw [Zq ⟨rfl,j5 S,rfl,rfl⟩,w4,Zx,Zq ⟨j5 S',rfl⟩]
  rfl
 have s3:i3 0 [.fld 5] (aa 1) (bx 0 [.fld 6] 0 [false,false] aL (ab (e2 ay (aU 5 (aa 0)) (aa 1)) (ab (aa 2) ai))) [oc (GW tx hd S true),Q0 (i:Int),Q1 w]=some (.nx [oc (GW tx (hd.set i r) S' true),Q0 (i:Int),Q1 w]):=by
  unfold i3
  rw [x3]
  exact DB (tx:=tx) (hd:=hd) (S:=S') (b:=true) (r:=[Q0 (i:Int),Q1 w]) (e:=aa 1) (ev:=fun _=>some (.fr,.int (r:Int))) (i:=i) (v:=r) (n:=.fr) (by omega) rfl rfl
 have s4:dA 0 [.fld 4] (aa 1) (e2 aN (e2 ay (aU 4 (aa 0)) (aa 1)) (aa 2)) [oc (GW tx (hd.set i r) S' true),Q0 (i:Int),Q1 w]=some (.nx [oc (GW (tx.set i (tx.getD i []++w)) (hd.set i r) S' true),Q0 (i:Int),Q1 w]) :=
  Dr (n:=.fr) hi rfl (e2v (gO (m:=.bo) (t:=GW tx (hd.set i r) S' true) rfl (BF tx (hd.set i r) S' true) |> fun h=>e2v h (y:=(.fr,.int (i:Int))) rfl (jE T.str tx i [] hi)) (y:=(.fr,.str w)) rfl (g8 (by omega)))
 exact congrArg (fun z:Option Out=>z.bind _) (sq s1 (sq (eK c2 rfl) (sq s3 s4)))
end
def iR {α:Type} (l:List α) (x d:α):(l++[x]).getD l.length d=x:=(bN l x d l.length).trans (Zq rfl)
def uJ {α:Type} (l:List α) (x y:α):(l++[x]).set l.length y=l++[y]:=by
 rw [List.set_append_right _ _ (Zp _),Nat.sub_self]
 rfl
def qC (a b:List Tx):eW (a++b)=eW a+eW b:=by
 unfold eW
 rw [ZD,List.sum_append]
def Ds:∀ (rest:List Tx) {tx:List Tx} {hd:Wh} {S S':St} {B:T} {z:We},WF S->hd.length=tx.length->tx.length+rest.length<=8->eW tx+eW rest<=120->S.lg.length+2 * eW rest<=100000->(∀ t∈rest,∀ c∈t,97<=c/\c<=122)->mB S rest=some S' →
  ∃ MK z',forL (bc 2) bu (rest.map .str) [oc (GW tx hd S true),pc B,z]=some (.nx [oc (GW (tx++rest) MK S' true),pc B,z']):=by
 intro rest
 induction rest with
 | nil =>
  intro tx hd S S' B z W hh h8 hs hl hc e
  cases (show some S=some S' from e)
  exact ⟨hd,z,by rw [ZS];rfl⟩
 | cons t rest ih =>
  intro tx hd S S' B z W hh h8 hs hl hc e
  obtain ⟨⟨S1,r⟩,e1,HN⟩:=Zz.mp (show (hg S 0 t).bind _=some S' from e)
  rw [Zm] at h8
  have QE:eW (t :: rest)=t.length+eW rest:=by unfold eW;rw [Zl,Y0]
  rw [QE] at hs hl
  have RV:hg S ((hd++[0]).getD tx.length 0) t=some (S1,r):=by rw [← hh,iR];exact e1
  have S4:=B8 W (by omega) W.pos (hc t Zu) e1
  have g:=zY (tx:=tx++[[]]) (hd:=hd++[0]) (S:=S) (S':=S1) (i:=tx.length) (r:=r) (w:=t) W (by rw [Zv,Zv,hh];rfl) (by rw [Zv];exact Yp _) (by rw [Zv];show tx.length+1<=8;omega) (by rw [qC];show eW tx+0+t.length<=120;omega) (by omega) (by rw [← hh,iR];exact W.pos) (hc t Zu) (by rw [iR];exact Yt _) RV
  rw [iR,uJ,Yv] at g
  have g2:(hd++[0]).set tx.length r=hd++[r]:=by rw [← hh];exact uJ hd 0 r
  rw [g2] at g
  have b:=ze (tx:=tx) (hd:=hd) (S:=S) (by omega) hh
  obtain ⟨MK,z',q⟩:=ih (tx:=tx++[t]) (hd:=hd++[r]) (S:=S1) (S':=S') (B:=B) (z:=Q1 t) S4.1 (by rw [Zv,Zv,hh];rfl) (by rw [Zv,ZK];omega) (by rw [qC];show eW tx+(t.length+0)+eW rest<=120;omega) (by have:=S4.2.2.1;omega) (fun u hu=>hc u (Zw _ hu)) HN
  refine ⟨MK,z',?_⟩
  rw [Zl]
  refine (iy (U1:=[oc (GW tx hd S true),pc B,Q1 t]) rfl ?_).trans (q.trans (by rw [ZF];rfl))
  have x1:bx 0 [] 1 [] bp ai [oc (GW tx hd S true),pc B,Q1 t]=some ((.fr,.int (tx.length:Int)),[oc (GW (tx++[[]]) (hd++[0]) S true),pc B,Q1 t]):=by
   show (((if 2=1+1/\dP (K8 tx hd S)=true/\argsOk [] []=true/\aZ (trees [])=true then (bp (K8 tx hd S) (trees [])).bind fun z=>if dP z.1=true/\GO z.2=true then some (T.obj 2 ((0,.bl true) :: z.1),(Md.fr,z.2)) else none else none).map _))=_
   rw [Zq ⟨rfl,kg tx hd S,rfl,rfl⟩,show trees []=[] from rfl,b,Zx,Zq ⟨kg _ _ _,rfl⟩]
   rfl
  have x2:oX 0 1 [false,false] bh (bx 0 [] 1 [] bp ai) (ab (aa 2) ai) [oc (GW tx hd S true),pc B,Q1 t]=some ((.fr,.GJ),[oc (GW (tx++[t]) (hd++[r]) S1 true),pc B,Q1 t]):=by
   unfold oX
   rw [Zq (show DO 1 [oc (GW tx hd S true),pc B,pc (T.str t)][0]?=true from rfl),x1,Zx,Zq (show GO (T.int (tx.length:Int))=true from rfl)]
   have ct:lN 1 [false,false] bh [(Md.fr,T.int (tx.length:Int)),(Md.fr,T.str t)] (GW (tx++[[]]) (hd++[0]) S true)=some (GW (tx++[t]) (hd++[r]) S1 true,(Md.fr,T.GJ)):=by
    show (if 2=1+1/\dP (K8 (tx++[[]]) (hd++[0]) S)=true/\argsOk [false,false] [(Md.fr,T.int (tx.length:Int)),(Md.fr,T.str t)]=true/\aZ (trees [(Md.fr,T.int (tx.length:Int)),(Md.fr,T.str t)])=true then (bh (K8 (tx++[[]]) (hd++[0]) S) (trees [(Md.fr,T.int (tx.length:Int)),(Md.fr,T.str t)])).bind fun z=>if dP z.1=true/\GO z.2=true then some (T.obj 2 ((0,.bl true) :: z.1),(Md.fr,z.2)) else none else none)=_
    rw [Zq ⟨rfl,kg _ _ _,rfl,rfl⟩,show trees [(Md.fr,T.int (tx.length:Int)),(Md.fr,T.str t)]=[T.int (tx.length:Int),T.str t] from rfl,g,Zx,Zq ⟨kg _ _ _,rfl⟩]
    rfl
   show ((lN 1 [false,false] bh [(Md.fr,T.int (tx.length:Int)),(Md.fr,T.str t)] (GW (tx++[[]]) (hd++[0]) S true)).map _)=_
   rw [ct]
   rfl
  unfold bu NA
  rw [x2]
  rfl
structure Kn (bk:List Tx):Prop where
 Jc:bk.length<=8
 sum:eW bk<=120
 az:∀ t∈bk,∀ c∈t,97<=c/\c<=122
theorem Kn.LC {t:Tx}:∀ {l:List Tx},t∈l->t.length<=eW l
 | a :: l,h=>by
  have e:eW (a :: l)=a.length+eW l:=by unfold eW;rw [Zl,Y0]
  rw [e]
  rcases Zj.mp h with rfl | h
  ·omega
  ·have:=Kn.LC h;omega
def Kn.len {bk:List Tx} (h:Kn bk):∀ t∈bk,t.length < 1000:=fun t ht=>X3 (Kn.LC ht) (X3 h.sum (by decide))
def dz (bk:List Tx):St:=(mB S0 bk).getD S0
def cO (bk:List Tx):Wh:=(JW (dz bk) 1000 [0] 0).getD []
def tabOf (bk:List Tx):List Row:=tab (dz bk) (cO bk)
theorem Kn.k {bk:List Tx} (h:Kn bk):mB S0 bk=some (dz bk)/\∃ nd wd,K (Hd bk) (dz bk) nd wd/\wd.length<=241/\JW (dz bk) 1000 [0] 0=some (cO bk)/\(∀ x,x∈cO bk ↔ x < (dz bk).lg.length)/\(cO bk).length=wd.length/\(cO bk).idxOf 0=0:=by
 obtain ⟨S,nd,wd,e,H,l⟩:=K.of bk h.az h.len
 have eS:dz bk=S:=by unfold dz;rw [e];rfl
 rw [eS]
 have l':wd.length<=241:=by
  have:=h.sum
  unfold eW at this
  omega
 obtain ⟨m,e2,_,e3,e4⟩:=H.met (k:=1000) (by omega)
 have eM:cO bk=0 :: m:=by unfold cO;rw [eS,e2];rfl
 rw [eM]
 exact ⟨e,nd,wd,H,l',e2,fun x=>by rw [e3,H.i.len],e4,List.idxOf_cons_self⟩
def Dc {bk:List Tx} (h:Kn bk):∃ hd,aS [] [.lst (bk.map .str)]=some (K8 bk hd (dz bk),.GJ):=by
 obtain ⟨e,_⟩:=h.k
 have hsm:=h.sum
 obtain ⟨hd,z,q⟩:=Ds bk (tx:=[]) (hd:=[]) (S:=S0) (S':=dz bk) (B:=.lst (bk.map .str)) (z:=none) B1 rfl (by have:=h.Jc;simpa using this) (by show 0+eW bk<=120;omega) (by show 1+2 * eW bk<=100000;omega) h.az e
 rw [Yv] at q
 refine ⟨hd,?_⟩
 unfold aS Iy
 rw [Zq ⟨rfl,rfl⟩]
 have f:=(dF (tg:=bc 2) (it:=ik (aa 1)) (body:=bu) (U:=[oc (GW [] [] S0 true),pc (.lst (bk.map .str)),none]) (m:=.pu) (l:=bk.map .str) rfl rfl).trans q
 have body:=(qq (a:=iZ 0 4 (di ai)) (b:=ak (iZ 0 5 (di ai)) (ak (iZ 0 6 (eNew 0 dc ai)) (HB (fj (aa 1)) (gA (bc 2) (ik (aa 1)) bu) dn))) (U:=[oc (.obj 2 [(0,.bl true)]),pc (.lst (bk.map .str)),none]) (U1:=[oc (.obj 2 [(0,.bl true),(4,.lst [])]),pc (.lst (bk.map .str)),none]) rfl).trans
  (sq (U1:=[oc (.obj 2 [(0,.bl true),(4,.lst []),(5,.lst [])]),pc (.lst (bk.map .str)),none]) rfl (sq (U1:=[oc (GW [] [] S0 true),pc (.lst (bk.map .str)),none]) rfl (IG (m:=.fr) rfl f)))
 exact congrArg (fun z:Option Out=>z.bind _) body
def A3 {bk:List Tx} (h:Kn bk) {arg:Ex} {U:Env} {m:Md} (ha:arg U=some (m,.lst (bk.map .str))):fh 1 bX (eNew 1 aS (ab arg ai)) ai U=some (.fr,Ik (tabOf bk)):=by
 obtain ⟨hd,e⟩:=Dc h
 obtain ⟨_,nd,wd,H,l,e2,e3,e4,_⟩:=h.k
 have hlen:(dz bk).lg.length<=100001:=by rw [← H.i.len];omega
 have t1:=CZ H.i.wf hlen (k:=1000) (by decide) e2 e3 (by omega)
 have n1:eNew 1 aS (ab arg ai) U=some (.fr,GW bk hd (dz bk) false):=by
  unfold eNew
  rw [xv (r:=ai) ha rfl,Zx]
  have Kg:aZ (trees [(m,T.lst (bk.map .str))])=true:=by
   show (aZ (bk.map T.str) && true)=true
   rw [dM _ (fun _=>rfl)]
   rfl
  rw [Zq Kg,show trees [(m,T.lst (bk.map .str))]=[T.lst (bk.map .str)] from rfl,e,Zx,Zq ⟨kg _ _ _,rfl⟩]
  rfl
 have t2:bX [GW bk hd (dz bk) false]=some (.fr,Ik (tabOf bk)):=by
  refine fM (U:=[pc (GW bk hd (dz bk) false)]) rfl (fJ ?_)
  have f6:aU 6 (aa 0) [pc (GW bk hd (dz bk) false)]=some (.pu,GI (dz bk) false):=gO (m:=.pu) (t:=GW bk hd (dz bk) false) rfl (FV bk hd (dz bk) false)
  unfold fh
  show ((aU 6 (aa 0) [pc (GW bk hd (dz bk) false)]).bind _)=_
  rw [f6]
  show ((dw [GI (dz bk) false]).bind _)=_
  rw [t1]
  rfl
 show ((eNew 1 aS (ab arg ai) U).bind _)=_
 rw [n1]
 show ((bX [GW bk hd (dz bk) false]).bind _)=_
 rw [t2]
 rfl
abbrev Ha (ws:List (Nat×Nat)):List (T×T):=ws.map fun p=>(T.str [p.1],T.int (p.2:Int))
abbrev Pu (p:Nat×Nat):T:=.tup [.str [p.1],.int (p.2:Int)]
def E7 (ws:List (Nat×Nat)):pZ (ws.map Pu)=some (Ha ws):=by
 induction ws with
 | nil=>rfl
 | cons w ws ih =>
  show (if iG (T.str [w.1])/\GO (T.int (w.2:Int)) then (pZ (ws.map Pu)).map _ else none)=_
  rw [Zq ⟨rfl,rfl⟩,ih]
  rfl
theorem rz:∀ (ws acc:List (Nat×Nat)),((acc++ws).map (·.1)).Nodup->(Ha ws).foldl (fun d q=>dput d q.1 q.2) (Ha acc)=Ha (acc++ws)
 | [],acc,_=>by rw [ZS];rfl
 | w :: ws,acc,h=>by
  have hn:w.1 ∉ acc.map (·.1):=fun z=>by
   rw [ZD,Zl] at h
   exact (ZU.mp h).2.2 w.1 z w.1 Zu rfl
  have e:dput (Ha acc) (T.str [w.1]) (T.int (w.2:Int))=Ha (acc++[w]):=by
   unfold dput
   rw [Zo (by
    simp only [Yj,not_exists,not_and]
    intro p hp
    obtain ⟨q,hq,rfl⟩:=Yg.mp hp
    simp only [eqT,beq_iff_eq,List.cons.injEq,and_true]
    intro z
    exact hn (Yg.mpr ⟨q,hq,z⟩))]
   simp [Ha]
  show (Ha ws).foldl _ (dput (Ha acc) (T.str [w.1]) (T.int (w.2:Int)))=_
  rw [e,rz ws (acc++[w]) (by rw [ZF];exact h),ZF]
  rfl
def xM (w:List (Nat×Nat)):(sk w).Nodup:=by
 unfold sk
 exact List.Nodup.sublist List.filter_sublist (by decide)
def tf (S:St) (Mq:Wh) (n:Nat):(steps S Mq n).map (·.1)=sk (S.wy.getD n []):=by
 unfold steps
 rw [Z4]
 exact List.map_id' _
def Gy {m:Md} (S:St) (Mq:Wh) (n:Nat):lh [(m,J8 (steps S Mq n))]=some (.fr,.GL 0 (Ha (steps S Mq n))):=by
 show (pZ ((steps S Mq n).map Pu)).map _=_
 rw [E7,Option.map_some]
 have:=rz (steps S Mq n) [] (by rw [Yv,tf];exact xM _)
 rw [Yv] at this
 exact congrArg (fun z=>some (Md.fr,T.GL 0 z)) this
def x9 (S:St) (Mq:Wh) (n c:Nat) (hc:97<=c/\c<=122):gW (steps S Mq n) c=(gW (S.wy.getD n []) c).map fun m=>Mq.idxOf m:=by
 have key:∀ l:Wh,gW (l.map fun c=>(c,Mq.idxOf ((gW (S.wy.getD n []) c).getD 0))) c=if c∈l then some (Mq.idxOf ((gW (S.wy.getD n []) c).getD 0)) else none:=by
  intro l
  induction l with
  | nil=>rfl
  | cons a l ih =>
   unfold gW at ih ⊢
   rw [Zl,Z7]
   by_cases h:a=c
   ·subst h
    simp
   ·have:(a == c)=false:=by simpa using h
    rw [this]
    show (List.map _ l |>.find? _).map _=_
    rw [ih]
    simp [Ya h]
 unfold steps
 rw [key]
 cases hg:gW (S.wy.getD n []) c with
 | none =>
  rw [Zo fun z=>by
   obtain ⟨m,hm⟩:=nu z
   rw [hg] at hm
   cases hm]
  rfl
 | some m =>
  rw [Zq (by
   unfold sk
   refine YK.mpr ⟨List.mem_range'_1.mpr (by omega),by rw [hg];rfl⟩)]
  rfl
def v7 (S:St) (Mq:Wh) (n:Nat):(row S Mq n).2.2.2=steps S Mq n:=by
 unfold row
 split <;> rfl
def Pt (bk:List Tx) (w:Tx):Prop:=w=[]\/∃ t∈bk,w <:+: t
def Fc {bk:List Tx} {w:Tx}:Pt bk w ↔ ∃ p,Hd bk p/\w <:+ p:=by
 constructor
 ·rintro (rfl | ⟨t,ht,a,b,rfl⟩)
  ·exact ⟨[],.inl rfl,Z8 _⟩
  ·exact ⟨a++w,.inr ⟨_,ht,⟨b,rfl⟩⟩,⟨a,rfl⟩⟩
 ·rintro ⟨p,rfl | ⟨t,ht,hp⟩,hs⟩
  ·exact .inl (YU.mp hs)
  ·exact .inr ⟨t,ht,hs.isInfix.trans hp.isInfix⟩
def num (bk:List Tx) (nd:Wd->Option Nat) (w:Tx):Nat:=(cO bk).idxOf ((nd w).getD 0)
def xH {α:Type} (l:List α) (k:Nat) (h:k<=l.length):cut l (some (k:Int)) none=l.drop k:=by
 have h1:clip l.length (k:Int)=k:=by
  unfold clip
  rw [Zo (by omega),YF,Yb h]
 show (l.drop (clip l.length (k:Int))).take (l.length - clip l.length (k:Int))=_
 rw [h1]
 exact Yl (by rw [ZJ];exact Zp _)
def EM {a b:Ex} {U:Env} {m n:Md} {t:Tx} {k:Nat} (ha:a U=some (m,.str t)) (hb:b U=some (n,.int (k:Int))):Jg a none (some b) U=some (.fr,.str (t.take k)):=by
 unfold Jg mV
 dsimp only
 rw [ha,hb]
 show some (Md.fr,T.str (cut t none (some (k:Int))))=_
 rw [xo]
def AC {a b:Ex} {U:Env} {m n:Md} {t:Tx} {k:Nat} (ha:a U=some (m,.str t)) (hb:b U=some (n,.int (k:Int))) (h:k<=t.length):Jg a (some b) none U=some (.fr,.str (t.drop k)):=by
 unfold Jg mV
 dsimp only
 rw [ha,hb]
 show some (Md.fr,T.str (cut t (some (k:Int)) none))=_
 rw [xH t k h]
def AX {a b c:Ex} {U:Env} {m n n':Md} {t:Tx} {k j:Nat} (ha:a U=some (m,.str t)) (hb:b U=some (n,.int (k:Int))) (hc:c U=some (n',.int ((k:Int)+(j:Int)))) (h:k+j<=t.length):Jg a (some b) (some c) U=some (.fr,.str ((t.drop k).take j)):=by
 unfold Jg mV
 dsimp only
 rw [ha,hb,hc]
 show some (Md.fr,T.str ((t.drop (clip t.length (k:Int))).take (clip t.length ((k:Int)+(j:Int)) - clip t.length (k:Int))))=_
 have h1:clip t.length (k:Int)=k:=by
  unfold clip
  rw [Zo (by omega),YF,Yb (by omega)]
 have h2:clip t.length ((k:Int)+(j:Int))=k+j:=by
  unfold clip
  rw [Zo (by omega),show ((k:Int)+(j:Int)).toNat=k+j by omega,Yb h]
 rw [h1,h2,Nat.add_sub_cancel_left]
def Hg (P:Tx->Bool) (p:Tx):Tx->Nat
 | []=>0
 | c :: r=>if P (p++[c]) then Hg P (p++[c]) r+1 else 0
theorem je {P:Tx->Bool}:∀ (v p:Tx),Hg P p v<=v.length
 | [],_=>Zp _
 | c :: r,p=>by
  unfold Hg
  split
  ·have:=je (P:=P) r (p++[c])
   rw [Zm]
   omega
  ·exact Yt _
abbrev NL (l:Wh):T:=.lst (l.map fun (n:Nat)=>T.int (n:Int))
abbrev EK (bk:List Tx) (W:Tx) (st:Wh) (z3 z4:We):Env:=[pc (Ik (tabOf bk)),Q1 W,oc (NL st),z3,z4]
section
variable {bk:List Tx} {nd:Wd->Option Nat} {wd:List Wd} (H:K (Hd bk) (dz bk) nd wd) (hM:∀ x,x∈cO bk ↔ x < (dz bk).lg.length) (h0:(cO bk).idxOf 0=0)
include H hM
theorem wk (W:Tx):∀ (v p:Tx) (st:Wh) (z3 z4:We),(nd p).isSome=true->Az v->st.length+v.length < 16000000->∃ l:Wh,l.length=st.length+1+Hg (fun w=>(nd w).isSome) p v/\((∃ U',forL (bc 3) fU (v.map s1) (EK bk W (st++[num bk nd p]) z3 z4)=some (.rt (.fr,NL l) U'))\/∃ y3 y4,forL (bc 3) fU (v.map s1) (EK bk W (st++[num bk nd p]) z3 z4)=some (.nx (EK bk W l y3 y4))):=by
 intro v
 induction v with
 | nil=>exact fun p st z3 z4 _ _ _=>⟨st++[num bk nd p],by rw [Zv];rfl,.inr ⟨z3,z4,rfl⟩⟩
 | cons c v ih =>
  intro p st z3 z4 hp hz hl
  rw [Zm] at hl
  obtain ⟨m0,hn⟩:=Yn.mp hp
  have QM:=(hM m0).mpr (by rw [← H.i.len];exact H.i.lt hn)
  have N3:num bk nd p=(cO bk).idxOf m0:=by unfold num;rw [hn];rfl
  have N4:num bk nd p < (cO bk).length:=by rw [N3];exact List.idxOf_lt_length_iff.mpr QM
  have Ra:(cO bk).getD (num bk nd p) 0=m0:=by
   rw [Zs,Zr N4]
   show (cO bk)[num bk nd p]=m0
   simp only [N3]
   exact List.getElem_idxOf _
  have i1:e2 ay (aa 2) (Q2 (-1)) (EK bk W (st++[num bk nd p]) (pc (s1 c)) z4)=some (.fr,.int (num bk nd p:Int)):=by
   refine e2v (x:=(.bo,NL (st++[num bk nd p]))) (y:=(.fr,.int (-1))) rfl rfl ?_
   rw [mJ (fun (n:Nat)=>T.int (n:Int)) (st++[num bk nd p]) 0 (by rw [Zv];exact X9 _),Zv,ZK,YM,iR]
   rfl
  have r1:e2 ay (aa 0) (e2 ay (aa 2) (Q2 (-1))) (EK bk W (st++[num bk nd p]) (pc (s1 c)) z4)=some (.fr,pG (row (dz bk) (cO bk) m0)):=by
   refine e2v (x:=(.pu,Ik (tabOf bk))) rfl i1 ?_
   unfold Ik tabOf tab
   rw [Z4,jE (pG ∘ row (dz bk) (cO bk)) (cO bk) (num bk nd p) 0 N4,Ra]
   show some (up .pu (pG (row (dz bk) (cO bk) m0)))=_
   unfold up
   rw [Ax]
   rfl
  have b1:aH 4 (eN lh (ab (e2 ay (e2 ay (aa 0) (e2 ay (aa 2) (Q2 (-1)))) (Q2 3)) ai)) (EK bk W (st++[num bk nd p]) (pc (s1 c)) z4)=some (.nx (EK bk W (st++[num bk nd p]) (pc (s1 c)) (pc (G4 (steps (dz bk) (cO bk) m0))))):=by
   refine aI (m:=.fr) (jv (xv (r:=ai) (x:=(.fr,J8 (steps (dz bk) (cO bk) m0))) (e2v r1 (y:=(.fr,.int 3)) rfl ?_) rfl) (Gy _ _ _)) (by decide) (by show 4 < 5;decide)
   rw [← v7]
   show some (up .fr (J8 _))=_
   unfold up
   rw [p5]
   rfl
  have hs:=(x9 (dz bk) (cO bk) m0 c (hz c Zu)).trans (congrArg (Option.map _) (H.i.wy hn c))
  generalize steps (dz bk) (cO bk) m0=ws at b1 hs
  have ni:e2 cP (aa 3) (aa 4) (EK bk W (st++[num bk nd p]) (pc (s1 c)) (pc (G4 ws)))=some (.fr,.bl (!(nd (p++[c])).isSome)):=by
   rw [show (nd (p++[c])).isSome=(gW ws c).isSome from by rw [hs,Yd]]
   exact BM (m:=.pu) (n:=.fr) rfl rfl
  unfold Hg
  cases O8:nd (p++[c]) with
  | none =>
   rw [O8] at ni
   exact ⟨st++[num bk nd p],by rw [Zv];rfl,.inl ⟨_,AV rfl (sq b1 (dX (IG ni rfl)))⟩⟩
  | some m1 =>
   rw [O8] at ni hs
   have hs:gW ws c=some (num bk nd (p++[c])):=hs.trans (by unfold num;rw [O8];rfl)
   have ap:=nM (i:=2) (U:=EK bk W (st++[num bk nd p]) (pc (s1 c)) (pc (G4 ws))) (e:=e2 IF (aa 4) (aa 3)) (l:=(st++[num bk nd p]).map fun (n:Nat)=>T.int (n:Int)) rfl (wa (m:=.pu) (n:=.fr) rfl rfl hs) (by rw [Zt,Zv];show st.length+1 < 16777216;omega)
   rw [show (st++[num bk nd p]).map (fun (n:Nat)=>T.int (n:Int))++[T.int (num bk nd (p++[c]):Int)]=((st++[num bk nd p])++[num bk nd (p++[c])]).map fun (n:Nat)=>T.int (n:Int) from by rw [ZD,ZD,ZD];rfl] at ap
   obtain ⟨l,Vm,i2⟩:=ih (p++[c]) (st++[num bk nd p]) (pc (s1 c)) (pc (G4 ws)) (by rw [O8];rfl) (fun x hx=>hz x (Zw _ hx)) (by rw [Zv,ZK];omega)
   have Io:forL (bc 3) fU ((c :: v).map s1) (EK bk W (st++[num bk nd p]) z3 z4)=forL (bc 3) fU (v.map s1) (EK bk W ((st++[num bk nd p])++[num bk nd (p++[c])]) (pc (s1 c)) (pc (G4 ws))):=iy rfl (sq b1 (sq (eK ni rfl) ap))
   rw [Io]
   refine ⟨l,Vm.trans ?_,i2⟩
   rw [Zv,ZK,Zq (show (some m1).isSome=true from rfl)]
   omega
include h0
theorem Dm {v:Tx} (hz:Az v) (hl:v.length < 1000000):∃ l:Wh,l.length=Hg (fun w=>(nd w).isSome) [] v+1/\k8 [Ik (tabOf bk),.str v]=some (.fr,NL l):=by
 have n0:num bk nd []=0:=by unfold num;rw [H.i.z];exact h0
 obtain ⟨l,e,h⟩:=wk H hM v v [] [] none none (by rw [H.i.z];rfl) hz (by show 0+v.length < _;omega)
 refine ⟨l,by rw [e];show 0+1+_=_;omega,?_⟩
 have f0:gA (bc 3) (ik (aa 1)) fU (EK bk v [0] none none)=_:=dF (m:=.fr) rfl rfl
 rw [← n0] at f0
 rcases h with ⟨U',h⟩ | ⟨y3,y4,h⟩
 ·exact fM (U:=U') rfl (sq (U1:=EK bk v [0] none none) rfl (dX (by rw [← n0];exact f0.trans h)))
 ·exact fM rfl (sq (U1:=EK bk v [0] none none) rfl (sq (by rw [← n0];exact f0.trans h) rfl))
end
def Kb (P:Tx->Bool):Nat->Tx->Option (List Tx)
 | 0,_=>some []
 | n+1,v=>if v=[] then some [] else if Hg P [] v=0 then none else (Kb P n (v.drop (Hg P [] v))).map (v.take (Hg P [] v) :: ·)
abbrev EP (bk:List Tx) (W:Tx) (acc:List Tx) (k:Nat) (z4:We):Env:=[pc (Ik (tabOf bk)),Q1 W,oc (.lst (acc.map .str)),Q0 (k:Int),z4]
def D5:Option (List Tx)->T
 | none=>.GJ
 | some l=>.lst (l.map .str)
def zL {c:Ex} {body:Sx} {n:Nat} {U U':Env} {m:Md} {v:Val} (h1:c U=some (m,.bl true)) (h2:body U=some (.rt v U')):dH c body (n+1) U=some (.rt v U'):=by
 unfold dH
 rw [h1]
 show (body U).bind _=_
 rw [h2]
 rfl
def An (l:List Tx) (t:Tx):l.map T.str++[.str t]=(l++[t]).map T.str:=by rw [ZD];rfl
noncomputable abbrev WP:=dH (e2 oLt (aa 3) (eN bt (ab (aa 1) ai))) lL
def pw {bk:List Tx} {P:Tx->Bool} {W:Tx} (hW:W.length < 1000000) (hw:∀ k,∃ l:Wh,l.length=Hg P [] (W.drop k)+1/\k8 [Ik (tabOf bk),.str (W.drop k)]=some (.fr,NL l)):∀ (n k:Nat) (acc:List Tx) (F:Nat) (z4:We),k<=W.length->W.length - k<=n->n < F->acc.length+n < 10000000 →
  (Kb P n (W.drop k)=none->∃ U',WP F (EP bk W acc k z4)=some (.rt (.fr,.GJ) U')) ∧
  ∀ l,Kb P n (W.drop k)=some l->∃ k' y4,WP F (EP bk W acc k z4)=some (.nx (EP bk W (acc++l) k' y4)):=by
 have cd:∀ (acc:List Tx) (k:Nat) (z4:We),e2 oLt (aa 3) (eN bt (ab (aa 1) ai)) (EP bk W acc k z4)=some (.fr,.bl (decide ((k:Int) < (W.length:Int)))):=fun acc k z4=>e2v (x:=(.fr,.int (k:Int))) (y:=(.fr,.int (W.length:Int))) rfl rfl rfl
 have ed:∀ (acc:List Tx) (F k:Nat) (z4:We),W.length<=k->WP (F+1) (EP bk W acc k z4)=some (.nx (EP bk W acc k z4)):=fun acc F k z4 h=>fP ((cd acc k z4).trans (by rw [Za (by omega)]))
 intro n
 induction n with
 | zero =>
  intro k acc F z4 hk hn hF ha
  obtain ⟨F,rfl⟩:∃ j,F=j+1:=⟨F - 1,by omega⟩
  refine ⟨(fun h=>nomatch h),fun l h=>⟨k,z4,?_⟩⟩
  cases h
  rw [ZS]
  exact ed acc F k z4 (by omega)
 | succ n ih =>
  intro k acc F z4 hk hn hF ha
  obtain ⟨F,rfl⟩:∃ j,F=j+1:=⟨F - 1,by omega⟩
  unfold Kb
  by_cases hv:W.drop k=[]
  ·have:W.length<=k:=by simpa using hv
   rw [Zq hv]
   refine ⟨(fun h=>nomatch h),fun l h=>⟨k,z4,?_⟩⟩
   cases h
   rw [ZS]
   exact ed acc F k z4 this
  ·have SW:k < W.length:=XZ fun z=>hv (Y6 z)
   rw [Zo hv]
   obtain ⟨l,hl,e⟩:=hw k
   have hle:=je (P:=P) (W.drop k) []
   rw [ZJ] at hle
   have q1:aH 4 (e2 p7 (eN bt (ab (bW k8 (ab (aa 0) (ab (Jg (aa 1) (some (aa 3)) none) ai))) ai)) (Q2 1)) (EP bk W acc k z4)=some (.nx (EP bk W acc k (Q0 (Hg P [] (W.drop k):Int)))):=by
    refine aI (m:=.fr) (e2v (x:=(.fr,.int ((l.length:Nat):Int))) (jv (xv (r:=ai) (cN (xv (x:=(.pu,Ik (tabOf bk))) rfl (xv (r:=ai) (AC (m:=.fr) (n:=.fr) rfl rfl hk) rfl)) e) rfl) (by show some (Md.fr,T.int (((l.map fun (n:Nat)=>T.int (n:Int)).length:Nat):Int))=_;rw [Zt])) (y:=(.fr,.int 1)) rfl ?_) (by decide) (by show 4 < 5;decide)
    show some (Md.fr,T.int (((l.length:Nat):Int) - 1))=_
    rw [hl,show (((Hg P [] (W.drop k)+1:Nat)):Int) - 1=(Hg P [] (W.drop k):Int) by omega]
   have c2:e2 oEq (aa 4) (Q2 0) (EP bk W acc k (Q0 (Hg P [] (W.drop k):Int)))=some (.fr,.bl ((Hg P [] (W.drop k):Int) == 0)):=eq_int 0 (m:=.fr) rfl
   have cT:=(cd acc k z4).trans (by rw [decide_eq_true (by omega)])
   generalize hj:Hg P [] (W.drop k)=j at *
   by_cases h0:j=0
   ·rw [Zq h0]
    refine ⟨fun _=>⟨_,zL cT (sq q1 (dX (IG (c2.trans (by rw [h0];rfl)) rfl)))⟩,fun l h=>by cases h⟩
   ·rw [Zo h0]
    have a1:=nM (i:=2) (U:=EP bk W acc k (Q0 (j:Int))) (e:=Jg (aa 1) (some (aa 3)) (some (e2 aN (aa 3) (aa 4)))) (l:=acc.map T.str) rfl (AX (m:=.fr) (n:=.fr) (n':=.fr) rfl rfl rfl (by omega)) (by rw [Zt];omega)
    rw [An] at a1
    have a2:aH 3 (e2 aN (aa 3) (aa 4)) (EP bk W (acc++[(W.drop k).take j]) k (Q0 (j:Int)))=some (.nx (EP bk W (acc++[(W.drop k).take j]) (k+j) (Q0 (j:Int)))):=aI (m:=.fr) (t:=.int ((k+j:Nat):Int)) (e2v (x:=(.fr,.int (k:Int))) (y:=(.fr,.int (j:Int))) rfl rfl rfl) (by decide) (by show 3 < 5;decide)
    have st:WP (F+1) (EP bk W acc k z4)=WP F (EP bk W (acc++[(W.drop k).take j]) (k+j) (Q0 (j:Int))):=l8 cT (sq q1 (sq (eK (c2.trans (by rw [ZM.mpr (by omega)])) rfl) (sq a1 a2)))
    rw [st,YD]
    obtain ⟨i1,i2⟩:=ih (k+j) (acc++[(W.drop k).take j]) F (Q0 (j:Int)) (by omega) (by omega) (by omega) (by rw [Zv,ZK];omega)
    refine ⟨fun h=>i1 (Option.map_eq_none_iff.mp h),fun l h=>?_⟩
    obtain ⟨l',h1,rfl⟩:=Zy.mp h
    obtain ⟨k',y4,e⟩:=i2 l' h1
    exact ⟨k',y4,e.trans (by rw [ZF];rfl)⟩
def zg {bk:List Tx} {nd:Wd->Option Nat} {wd:List Wd} (H:K (Hd bk) (dz bk) nd wd) (hM:∀ x,x∈cO bk ↔ x < (dz bk).lg.length) (h0:(cO bk).idxOf 0=0) {W:Tx} (hz:Az W) (hl:W.length<=1000):dr [Ik (tabOf bk),.str W]=some (.fr,D5 (Kb (fun w=>(nd w).isSome) W.length W)):=by
 obtain ⟨i1,i2⟩:=pw (bk:=bk) (P:=fun w=>(nd w).isSome) (W:=W) (by omega) (fun k=>Dm H hM h0 (fun c hc=>hz c (XI hc)) (by rw [ZJ];omega)) W.length 0 [] wq none (Yt _) (Zp _) (by show _ < 1000000;omega) (by show 0+_ < _;omega)
 rw [XG] at i1 i2
 cases h:Kb (fun w=>(nd w).isSome) W.length W with
 | none =>
  obtain ⟨U',e⟩:=i1 h
  exact fM (U:=U') rfl (sq (U1:=[pc (Ik (tabOf bk)),Q1 W,oc (.lst []),none,none]) rfl (sq (U1:=EP bk W [] 0 none) rfl (dX e)))
 | some l =>
  obtain ⟨k',y4,e⟩:=i2 l h
  exact fM rfl (sq (U1:=[pc (Ik (tabOf bk)),Q1 W,oc (.lst []),none,none]) rfl (sq (U1:=EP bk W [] 0 none) rfl (sq e rfl)))
section
variable {P:Tx->Bool}
theorem om:∀ (v p:Tx),P p=true->P (p++v.take (Hg P p v))=true
 | [],p,h=>by rw [List.take_nil,ZS];exact h
 | c :: r,p,h=>by
  unfold Hg
  by_cases hc:P (p++[c])=true
  ·rw [Zq hc,List.take_succ_cons,List.append_cons]
   exact om r (p++[c]) hc
  ·rw [Zo hc,List.take_zero,ZS]
   exact h
theorem qw (hp:∀ a b,P (a++b)=true->P a=true):∀ (v p:Tx) (j:Nat),Hg P p v < j->j<=v.length->¬ P (p++v.take j)=true
 | [],p,j,h,hj,_=>absurd (ZO h hj) (Nat.not_lt_zero _)
 | c :: r,p,0,h,hj,_=>absurd h (Nat.not_lt_zero _)
 | c :: r,p,j+1,h,hj,z=>by
  rw [List.take_succ_cons,List.append_cons] at z
  unfold Hg at h
  rw [Zq (hp _ _ z)] at h
  exact qw hp r (p++[c]) j (Nat.lt_of_succ_lt_succ h) (Nat.le_of_succ_le_succ hj) z
def yk:∀ (n:Nat) (v:Tx),v.length<=n->Kb P n v=Kb P v.length v:=by
 intro n
 induction n using Nat.strongRecOn with
 | ind n ih =>
  intro v h
  cases n with
  | zero=>rw [Xp.mp h]
  | succ n =>
   cases v with
   | nil=>rfl
   | cons c r =>
    rw [Zm] at h ⊢
    unfold Kb
    split
    ·rfl
    ·split
     ·rfl
     ·rename_i h0
      have hd:((c :: r).drop (Hg P [] (c :: r))).length<=r.length:=by rw [ZJ,Zm];omega
      rw [ih n (Yp _) _ (by omega)]
      by_cases hr:r.length < n+1
      ·rw [ih r.length hr _ hd]
      ·omega
def gp (P:Tx->Bool) (v:Tx):Option (List Tx):=Kb P v.length v
def pL {v:Tx} (hv:v ≠ []):gp P v=if Hg P [] v=0 then none else (gp P (v.drop (Hg P [] v))).map (v.take (Hg P [] v) :: ·):=by
 have hl:0 < v.length:=XD.mpr hv
 obtain ⟨n,hn⟩:∃ n,v.length=n+1:=⟨v.length - 1,by omega⟩
 unfold gp
 rw [hn]
 conv=>lhs;unfold Kb
 rw [Zo hv]
 split
 ·rfl
 ·rw [yk n _ (by rw [ZJ];omega)]
def cn (P:Tx->Bool) (v:Tx):Option Nat:=(gp P v).map List.length
def mh {v:Tx} {a:Nat} (hv:v ≠ []) (h:cn P v=some a):Hg P [] v ≠ 0/\∃ b,cn P (v.drop (Hg P [] v))=some b/\a=b+1:=by
 unfold cn at h ⊢
 rw [pL hv] at h
 split at h
 ·cases h
 ·rename_i h0
  refine ⟨h0,?_⟩
  rw [Option.map_map] at h
  obtain ⟨l,e,rfl⟩:=Zy.mp h
  exact ⟨l.length,by rw [e];rfl,rfl⟩
def uT {v:Tx} {b:Nat} (hv:v ≠ []) (h0:Hg P [] v ≠ 0) (h:cn P (v.drop (Hg P [] v))=some b):cn P v=some (b+1):=by
 unfold cn at h ⊢
 rw [pL hv,Zo h0,Option.map_map]
 obtain ⟨l,e,rfl⟩:=Zy.mp h
 rw [e]
 rfl
variable (h1:P []=true) (hi:∀ u v,v <:+: u->P u=true->P v=true)
include h1 hi
theorem qL {v:Tx} {k:Nat} (hk:k<=v.length) (h:P (v.take k)=true):k<=Hg P [] v:=ZE fun z=>qw (fun a b h=>hi _ _ (X4 a b).isInfix h) v [] k z hk h
theorem zu:∀ (n:Nat) (v:Tx) (a j:Nat),v.length<=n->cn P v=some a->∃ b,b<=a/\cn P (v.drop j)=some b:=by
 intro n
 induction n with
 | zero=>exact fun v a j h e=>by cases Ys.mp (Xp.mp h);exact ⟨a,Zp _,by rw [List.drop_nil];exact e⟩
 | succ n ih =>
  intro v a j h e
  by_cases hv:v=[]
  ·subst hv;exact ⟨a,Zp _,by rw [List.drop_nil];exact e⟩
  obtain ⟨k0,b,HN,rfl⟩:=mh hv e
  have kl:=je (P:=P) v []
  have kP:=om v [] h1
  rw [Yv] at kP
  generalize Hg P [] v=k at *
  have hd:(v.drop k).length<=n:=by rw [ZJ];omega
  by_cases hj:k<=j
  ·obtain ⟨c,h2,h3⟩:=ih (v.drop k) b (j - k) hd HN
   rw [YD,show k+(j - k)=j by omega] at h3
   exact ⟨c,by omega,h3⟩
  ·have Ie:v.drop j ≠ []:=fun z=>by have:=congrArg List.length z;rw [ZJ] at this;simp at this;omega
   have O9:k - j<=Hg P [] (v.drop j):=qL h1 hi (by rw [ZJ];omega) (hi _ _ (by rw [← List.drop_take];exact (List.drop_suffix _ _).isInfix) kP)
   have Lm:=je (P:=P) (v.drop j) []
   obtain ⟨c,h2,h3⟩:=ih (v.drop k) b (j+Hg P [] (v.drop j) - k) hd HN
   rw [YD,show k+(j+Hg P [] (v.drop j) - k)=j+Hg P [] (v.drop j) by omega,← YD] at h3
   exact ⟨c+1,by omega,uT Ie (by omega) h3⟩
theorem vf {q v:Tx} {a:Nat} (hq:P q=true) (e:cn P v=some a):∃ b,b<=a+1/\cn P (q++v)=some b:=by
 by_cases hn:q=[]
 ·subst hn;exact ⟨a,Xo _,e⟩
 have Ie:q++v ≠ []:=fun z=>hn (List.append_eq_nil_iff.mp z).1
 have hk:q.length<=Hg P [] (q++v):=qL h1 hi (by rw [Zv];omega) (by rw [List.take_left];exact hq)
 have:=XD.mpr hn
 obtain ⟨b,h2,h3⟩:=zu h1 hi v.length v a (Hg P [] (q++v) - q.length) (Zp _) e
 refine ⟨b+1,by omega,uT Ie (by omega) ?_⟩
 rw [List.drop_append,Y6 hk,Yv]
 exact h3
theorem zB:∀ (n:Nat) (u v:Tx) (a b:Nat),u.length<=n->cn P u=some a->cn P v=some b->∃ c,c<=a+b/\cn P (u++v)=some c:=by
 intro n
 induction n with
 | zero=>exact fun u v a b h e e'=>by cases Ys.mp (Xp.mp h);exact ⟨b,by omega,e'⟩
 | succ n ih =>
  intro u v a b h e e'
  by_cases hu:u=[]
  ·subst hu;exact ⟨b,by omega,e'⟩
  obtain ⟨k0,c,HN,rfl⟩:=mh hu e
  have kP:=om u [] h1
  obtain ⟨d,h2,h3⟩:=ih (u.drop (Hg P [] u)) v c b (by rw [ZJ];omega) HN e'
  obtain ⟨x,h4,h5⟩:=vf h1 hi kP h3
  rw [Yv,← ZF,Xy] at h5
  exact ⟨x,by omega,h5⟩
theorem zD {q:Tx} (hn:q ≠ []) (hq:P q=true):cn P q=some 1:=by
 have hk:Hg P [] q=q.length:=Nat.le_antisymm (je _ _) (qL h1 hi (Zp _) (by rw [Wo];exact hq))
 exact uT hn (by rw [hk];exact fun z=>hn (Ys.mp z)) (by rw [hk,List.drop_length];rfl)
theorem yL:∀ (n:Nat) (u v:Tx) (c:Nat),u.length<=n->cn P (u++v)=some c->∃ a,a<=c/\cn P u=some a:=by
 intro n
 induction n with
 | zero=>exact fun u v c h e=>by cases Ys.mp (Xp.mp h);exact ⟨0,Yt _,rfl⟩
 | succ n ih =>
  intro u v c h e
  by_cases hu:u=[]
  ·subst hu;exact ⟨0,Yt _,rfl⟩
  obtain ⟨k0,b,HN,rfl⟩:=mh (fun z=>hu (List.append_eq_nil_iff.mp z).1) e
  have kP:=om (u++v) [] h1
  rw [Yv] at kP
  by_cases hk:u.length<=Hg P [] (u++v)
  ·refine ⟨1,by omega,zD h1 hi hu (hi _ _ ?_ kP)⟩
   rw [List.take_append,Yl hk]
   exact (X4 _ _).isInfix
  ·have O9:Hg P [] u=Hg P [] (u++v):=by
    refine Nat.le_antisymm (qL h1 hi (ZG (je _ _) (by rw [Zv];omega)) ?_) (qL h1 hi (by omega) ?_)
    ·have:=om u [] h1
     rw [List.take_append_of_le_length (je _ _)]
     exact this
    ·rw [List.take_append_of_le_length (by omega)] at kP
     exact kP
   rw [List.drop_append_of_le_length (by omega)] at HN
   obtain ⟨a,h2,h3⟩:=ih (u.drop (Hg P [] (u++v))) v b (by rw [ZJ];omega) HN
   exact ⟨a+1,by omega,uT hu (by omega) (by rw [O9];exact h3)⟩
theorem AL:∀ (n:Nat) (v:Tx) (b:Nat),v.length<=n->v ≠ []->cn P v=some b->∃ u q a,v=u++q/\q ≠ []/\P q=true/\a+1<=b/\cn P u=some a:=by
 intro n
 induction n with
 | zero=>exact fun v b h hv=>absurd (Ys.mp (Xp.mp h)) hv
 | succ n ih =>
  intro v b h hv e
  obtain ⟨k0,c,HN,rfl⟩:=mh hv e
  have kP:=om v [] h1
  rw [Yv] at kP
  by_cases hd:v.drop (Hg P [] v)=[]
  ·refine ⟨[],v,0,rfl,hv,?_,by omega,rfl⟩
   rwa [Yl (List.drop_eq_nil_iff.mp hd)] at kP
  ·obtain ⟨u,q,a,g1,g2,g3,g4,g5⟩:=ih _ c (by rw [ZJ];omega) hd HN
   obtain ⟨x,g6,g7⟩:=vf h1 hi kP g5
   exact ⟨v.take (Hg P [] v)++u,q,x,by rw [ZF,← g1,Xy],g2,g3,by omega,g7⟩
end
def sV (x y:Tx):PySem.Txt.contains (sx y) (sx x)=true ↔ x <:+: y:=by
 refine (PySem.StrLaws.found_iff (sx y) (sx x)).trans ⟨fun ⟨i,h,h2⟩=>?_,fun ⟨a,b,e⟩=>⟨a.length,?_,?_⟩⟩
 ·rw [XX] at h2
  have:(y.drop i).take x.length=x:=by simpa [sx,PySem.Str.length] using h2
  rw [← this]
  exact ((List.take_prefix _ _).isInfix).trans (List.drop_suffix _ _).isInfix
 ·show a.length+x.length<=y.length
  rw [← e,Zv,Zv]
  omega
 ·rw [XX]
  have:(y.drop a.length).take x.length=x:=by rw [← e,ZF,List.drop_left,List.take_left]
  simpa [sx,PySem.Str.length] using this
def Ai {α:Type} (q:α->Bool) (l:List α):decide ((0:Int) < ((l.filter q).length:Int))=l.any q:=by
 cases h:l.any q with
 | false =>
  rw [List.filter_eq_nil_iff.mpr fun a ha z=>by rw [Yj.mpr ⟨a,ha,z⟩] at h;cases h]
  rfl
 | true =>
  obtain ⟨a,ha,z⟩:=Yj.mp h
  have:=List.length_pos_of_mem (YK.mpr ⟨ha,z⟩)
  exact decide_eq_true (by omega)
def rg (bk:List Tx):∀ k,gT k (bk.map .str)=(bk.zipIdx k).map fun p=>T.tup [.int (p.2:Int),.str p.1]:=by
 induction bk with
 | nil=>exact fun k=>rfl
 | cons t r ih=>exact fun k=>by rw [Zl,gT,ih,List.zipIdx_cons,Zl]
def A0 (w t:Tx):((List.range (t.length+1)).filter fun e=>w.isSuffixOf (t.take e)).isEmpty=!PySem.Txt.contains (sx t) (sx w):=by
 rw [YI,List.isEmpty_iff,List.filter_eq_nil_iff,Bool.not_eq_true',Bool.eq_false_iff,ne_eq,sV]
 constructor
 ·rintro h ⟨a,b,e⟩
  refine h (a++w).length (Ye.mpr (by rw [← e,Zv (as:=a++w)];omega)) (Xg.mpr ?_)
  rw [← e,List.take_left]
  exact List.suffix_append a w
 ·exact fun h e _ z=>h ((Xg.mp z).isInfix.trans (List.take_prefix _ _).isInfix)
section
variable {bk:List Tx} {P:Tx->Bool} (hP:∀ w,P w=true ↔ Pt bk w) (h8:bk.length<=8)
include h8
theorem DI (u:Tx):dq [.lst (bk.map .str),.str u]=some (.fr,.bl (bk.any fun t=>PySem.Txt.contains (sx t) (sx u))):=by
 refine fM (U:=[pc (.lst (bk.map .str)),Q1 u]) rfl (fJ ?_)
 rw [← Ai]
 refine e2v (x:=(.fr,.int ((bk.filter fun t=>PySem.Txt.contains (sx t) (sx u)).length:Int))) (y:=(.fr,.int 0)) (jv (xv (r:=ai) (ka (k:=1) (tg:=bc 0) (m:=.pu) T.str (fun t=>PySem.Txt.contains (sx t) (sx u)) T.str bk rfl rfl (by omega) fun t ht=>⟨_,_,rfl,e2v (x:=(.fr,.str u)) (y:=(.fr,.str t)) rfl rfl rfl,rfl,fun _=>rfl⟩) rfl) ?_) rfl rfl
 show some (Md.fr,T.int ((((bk.filter _).map T.str).length:Nat):Int))=_
 rw [Zt]
include hP
theorem BY {u:Tx} (hu:u ≠ []):(bk.any fun t=>PySem.Txt.contains (sx t) (sx u))=P u:=by
 rw [YI,hP,Yj]
 constructor
 ·rintro ⟨t,ht,h⟩
  exact .inr ⟨t,ht,(sV u t).mp h⟩
 ·rintro (h | ⟨t,ht,h⟩)
  ·exact absurd h hu
  ·exact ⟨t,ht,(sV u t).mpr h⟩
omit hP
abbrev tP (p:Nat×Nat):T:=.tup [.int (p.1:Int),.int (p.2:Int)]
abbrev EL (bk:List Tx) (w:Tx) (fo:List (Nat×Nat)) (z3 z4 z5:We):Env:=[pc (.lst (bk.map .str)),Q1 w,oc (.lst (fo.map tP)),z3,z4,z5]
theorem yy (hb:∀ t∈bk,t.length<=120) (w:Tx):∃ ps:List (Nat×Nat),hZ [.lst (bk.map .str),.str w]=some (.fr,.lst (ps.map tP))/\ps.isEmpty=!bk.any fun t=>PySem.Txt.contains (sx t) (sx w):=by
 obtain ⟨U',f1,fo,z3,z4,z5,rfl,_,_,he⟩:=fq (tg:=qJ [bc 3,bc 4]) (body:=lS) (fun (p:Tx×Nat)=>T.tup [.int (p.2:Int),.str p.1]) (fun r U=>∃ fo z3 z4 z5,U=EL bk w fo z3 z4 z5/\(∀ p∈r,p.1.length<=120)/\fo.length+121 * r.length<=968/\(!fo.isEmpty || r.any fun p=>PySem.Txt.contains (sx p.1) (sx w))=bk.any fun t=>PySem.Txt.contains (sx t) (sx w)) (by
  rintro ⟨t,n⟩ r _ ⟨fo,z3,z4,z5,rfl,hr,hl,he⟩
  rw [Zm] at hl
  have ht:t.length<=120:=hr (t,n) Zu
  have sh:=A0 w t
  have Vw:=Xw (fun e=>w.isSuffixOf (t.take e)) (List.range (t.length+1))
  rw [ZQ] at Vw
  have c1:=ka (k:=1) (tg:=bc 0) (it:=cp (e2 aN (eN bt (ab (aa 4) ai)) (Q2 1))) (c:=eM oO (Jg (aa 5) none (some (aa 0))) (ab (aa 2) ai)) (elt:=aa 0) (U:=EL bk w fo (Q0 (n:Int)) (Q1 t) z5) (m:=.fr) (fun (e:Nat)=>T.int (e:Int)) (fun e=>w.isSuffixOf (t.take e)) (fun e=>T.int (e:Int)) (List.range (t.length+1)) (by
    rw [eE (m:=.fr) (j:=(t.length:Int)+1) rfl (by omega),show ((t.length:Int)+1).toNat=t.length+1 by omega,gY]) rfl (by rw [ZQ];omega) fun e _=>⟨_,(.fr,.bl (w.isSuffixOf (t.take e))),rfl,t6 (EM (m:=.fr) (n:=.fr) rfl rfl) (xv (r:=ai) (x:=(.fr,.str w)) rfl rfl) rfl,rfl,fun _=>rfl⟩
  generalize (List.range (t.length+1)).filter (fun e=>w.isSuffixOf (t.take e))=es at *
  have c2:=gS (k:=1) (tg:=bc 0) (it:=ik (aa 5)) (elt:=n9 (ab (aa 4) (ab (aa 0) ai))) (U:=EL bk w fo (Q0 (n:Int)) (Q1 t) (pc (.lst (es.map fun (e:Nat)=>T.int (e:Int))))) (m:=.pu) (fun (e:Nat)=>T.int (e:Int)) (fun e=>tP (n,e)) es rfl rfl (by omega) fun e _=>⟨_,rfl,rfl⟩
  have ex:sX (j6 2 [] dY (ab (dQ 1 (bc 0) (ik (aa 5)) none (n9 (ab (aa 4) (ab (aa 0) ai)))) ai)) (EL bk w fo (Q0 (n:Int)) (Q1 t) (pc (.lst (es.map fun (e:Nat)=>T.int (e:Int)))))=some (.nx (EL bk w (fo++es.map fun e=>(n,e)) (Q0 (n:Int)) (Q1 t) (pc (.lst (es.map fun (e:Nat)=>T.int (e:Int)))))):=by
   show (((some ([]:List Ky)).bind fun ks=>(ab _ ai _).bind fun xs=>(pm (fun x=>dY x xs) ks (.lst (fo.map tP))).map _).map _)=_
   rw [Zx,xv (r:=ai) c2 rfl,Zx]
   show ((dY (.lst (fo.map tP)) [(.fr,.lst (es.map fun e=>tP (n,e)))]).map _ |>.map _)=_
   rw [sY (by rw [Zt,Zt];omega),show fo.map tP++es.map (fun e=>tP (n,e))=(fo++es.map fun e=>(n,e)).map tP from by rw [ZD,Z4];rfl]
   rfl
  refine ⟨_,_,rfl,sq (aI (m:=.fr) c1 (by decide) (by show 5 < 6;decide)) ex,_,_,_,_,rfl,fun p hp=>hr p (Zw _ hp),by rw [Zv,Zt];omega,?_⟩
  rw [← he,Yf]
  have:PySem.Txt.contains (sx t) (sx w)=!es.isEmpty:=by rw [sh,Bool.not_not]
  show _=(!fo.isEmpty || (PySem.Txt.contains (sx t) (sx w) || _))
  rw [this]
  cases fo <;> cases es <;> rfl) (bk.zipIdx 0) (EL bk w [] none none none) ⟨[],_,_,_,rfl,fun p hp=>hb _ (List.fst_mem_of_mem_zipIdx hp),by rw [List.length_zipIdx];show 0+_<=_;omega,by
   show (false || _)=_
   rw [Bool.false_or,show (fun p:Tx×Nat=>PySem.Txt.contains (sx p.1) (sx w))=(fun t=>PySem.Txt.contains (sx t) (sx w)) ∘ Prod.fst from rfl,← List.any_map,List.zipIdx_map_fst]⟩
 refine ⟨fo,fM rfl (sq (U1:=EL bk w [] none none none) rfl (sq ((dF (m:=.pu) ?_ rfl).trans f1) rfl)),?_⟩
 ·show some (Md.pu,gT 0 (bk.map .str))=_
  rw [rg]
 ·rw [← he]
  show _=!(!fo.isEmpty || false)
  cases fo <;> rfl
end
def Dq {a b c:Ex} {U:Env} {m n n':Md} {t:Tx} {k j i:Nat} (ha:a U=some (m,.str t)) (hb:b U=some (n,.int (k:Int))) (hc:c U=some (n',.int (i:Int))) (hi:i=k+j) (h:i<=t.length):Jg a (some b) (some c) U=some (.fr,.str ((t.drop k).take j)):=by
 unfold Jg mV
 dsimp only
 rw [ha,hb,hc]
 show some (Md.fr,T.str ((t.drop (clip t.length (k:Int))).take (clip t.length (i:Int) - clip t.length (k:Int))))=_
 have h1:clip t.length (k:Int)=k:=by
  unfold clip
  rw [Zo (by omega),YF,Yb (by omega)]
 have h2:clip t.length (i:Int)=i:=by
  unfold clip
  rw [Zo (by omega),YF,Yb h]
 rw [h1,h2,hi,Nat.add_sub_cancel_left]
def t8 {a b:Ex} {U:Env} {m n:Md} {i j:Int} (ea:a U=some (m,.int i)) (eb:b U=some (n,.int j)) (h:(-4611686018427387904<=i/\i < 4611686018427387904)/\-4611686018427387904<=j/\j < 4611686018427387904):kM a b U=some (.fr,Ka i (j - i).toNat):=by
 simp only [kM,ea,eb,Zx,int?]
 exact Zq h
def rS (W:Tx) {s e:Nat} (h:s<=e):W.take e=W.take s++(W.drop s).take (e - s):=by
 rw [← List.take_add,Nat.add_sub_cancel' h]
section
variable {P:Tx->Bool} (h1:P []=true) (hi:∀ u v,v <:+: u->P u=true->P v=true)
def pM (P:Tx->Bool) (W:Tx) (e s:Nat):Option Nat:=if P ((W.drop s).take (e - s))=true then (cn P (W.take s)).map (·+1) else none
include h1 hi
theorem vD {W:Tx} {e s x:Nat} (hs:s < e) (he:e<=W.length) (h:pM P W e s=some x):∃ y,y<=x/\cn P (W.take e)=some y:=by
 unfold pM at h
 split at h
 ·rename_i hq
  obtain ⟨a,e1,rfl⟩:=Zy.mp h
  rw [rS W (XU hs)]
  exact zB h1 hi _ _ _ a 1 (Zp _) e1 (zD h1 hi (fun z=>by have:=congrArg List.length z;rw [YY,ZJ] at this;simp at this;omega) hq)
 ·cases h
theorem wV {W:Tx} {e y:Nat} (h0:0 < e) (he:e<=W.length) (h:cn P (W.take e)=some y):∃ s x,s < e/\x<=y/\pM P W e s=some x:=by
 have hl:(W.take e).length=e:=by rw [YY];omega
 obtain ⟨u,q,a,g1,g2,g3,g4,g5⟩:=AL h1 hi _ _ y (Zp _) (fun z=>by rw [z] at hl;simp at hl;omega) h
 have hle:u.length+q.length=e:=by rw [← Zv,← g1,hl]
 have:=XD.mpr g2
 have Ti:=g1
 rw [rS W (show u.length<=e by omega)] at Ti
 obtain ⟨k1,k2⟩:=List.append_inj Ti (by rw [YY];omega)
 refine ⟨u.length,a+1,by omega,g4,?_⟩
 unfold pM
 rw [k2,Zq g3,k1,g5]
 rfl
end
abbrev L5 (P:Tx->Bool) (W:Tx) (e:Nat):T:=.lst ((List.range e).map fun s=>GY (cn P (W.take s)))
abbrev KA (P:Tx->Bool) (bk:List Tx) (W:Tx) (e:Nat) (b:Option Nat) (z5:We):Env:=[pc (.lst (bk.map .str)),Q1 W,oc (L5 P W e),Q0 (e:Int),pc (GY b),z5]
section
variable {P:Tx->Bool} {bk:List Tx} (hP:∀ w,P w=true ↔ Pt bk w) (h8:bk.length<=8)
include hP h8
theorem CQ (u v:Tx) (h:v <:+: u) (hu:P u=true):P v=true:=by
 rw [hP] at hu ⊢
 rcases hu with rfl | ⟨t,ht,z⟩
 ·exact .inl (List.infix_nil.mp h)
 ·exact .inr ⟨t,ht,h.trans z⟩
theorem BA (o:Option Nat):sub .bo (GY o)=(.fr,GY o):=by cases o <;> rfl
theorem Gq {W:Tx} {e s:Nat} (hs:s < e) (he:e<=W.length) (hW:W.length<=1000) (b:Option Nat):∃ b',gq (KA P bk W e b (Q0 (s:Int)))=some (.nx (KA P bk W e b' (Q0 (s:Int))))/\(∀ y,b'=some y->b=some y\/pM P W e s=some y)/\(∀ y,b=some y->∃ x,x<=y/\b'=some x)/\∀ y,pM P W e s=some y->∃ x,x<=y/\b'=some x:=by
 have i1:e2 ay (aa 2) (aa 5) (KA P bk W e b (Q0 (s:Int)))=some (.fr,GY (cn P (W.take s))):=by
  refine e2v (x:=(.bo,L5 P W e)) (y:=(.fr,.int (s:Int))) rfl rfl ?_
  rw [jE (fun s=>GY (cn P (W.take s))) (List.range e) s 0 (by rw [ZQ];exact hs),BA hP h8,Zs,XC hs]
  rfl
 have Ie:(W.drop s).take (e - s) ≠ []:=fun z=>by have:=congrArg List.length z;rw [YY,ZJ] at this;simp at this;omega
 have c1:iJ (fj (e2 ay (aa 2) (aa 5))) (bW dq (ab (aa 0) (ab (Jg (aa 1) (some (aa 5)) (some (aa 3))) ai))) (KA P bk W e b (Q0 (s:Int)))=some (.fr,.bl ((cn P (W.take s)).isSome && P ((W.drop s).take (e - s)))):=by
  refine GA (m:=.fr) (n:=.fr) ?_ ?_
  ·show (e2 ay _ _ _).bind _=_
   rw [i1]
   cases cn P (W.take s) <;> rfl
  ·rw [← BY hP h8 Ie]
   exact cN (xv (x:=(.pu,.lst (bk.map .str))) rfl (xv (r:=ai) (Dq (m:=.fr) (n:=.fr) (n':=.fr) (k:=s) (j:=e - s) (i:=e) rfl rfl rfl (by omega) he) rfl)) (DI h8 _)
 unfold pM
 cases hq:P ((W.drop s).take (e - s)) with
 | false =>
  rw [hq,Bool.and_false] at c1
  exact ⟨b,eK c1 rfl,fun y h=>.inl h,fun y h=>⟨y,Zp _,h⟩,fun y h=>by cases h⟩
 | true =>
  rw [hq,Bool.and_true] at c1
  cases hc:cn P (W.take s) with
  | none =>
   rw [hc] at c1
   exact ⟨b,eK c1 rfl,fun y h=>.inl h,fun y h=>⟨y,Zp _,h⟩,fun y h=>by cases h⟩
  | some a =>
   rw [hc] at c1 i1
   have ad:e2 aN (e2 ay (aa 2) (aa 5)) (Q2 1) (KA P bk W e b (Q0 (s:Int)))=some (.fr,.int ((a+1:Nat):Int)):=e2v i1 (y:=(.fr,.int 1)) rfl rfl
   have st:aH 4 (e2 aN (e2 ay (aa 2) (aa 5)) (Q2 1)) (KA P bk W e b (Q0 (s:Int)))=some (.nx (KA P bk W e (some (a+1)) (Q0 (s:Int)))):=aI (m:=.fr) ad (by decide) (by show 4 < 6;decide)
   cases b with
   | none=>exact ⟨some (a+1),IG c1 (IG (vz (m:=.fr) (x:=true) (v:=(.fr,.bl true)) rfl (fun z=>nomatch z) fun _=>rfl) st),fun y h=>.inr h,(fun y h=>by cases h),fun y h=>⟨y,Zp _,h⟩⟩
   | some b =>
    have lt:Kz (jN (aa 4)) (e2 oLt (e2 aN (e2 ay (aa 2) (aa 5)) (Q2 1)) (aa 4)) (KA P bk W e (some b) (Q0 (s:Int)))=some (.fr,.bl (false || decide (((a+1:Nat):Int) < (b:Int)))):=NJ (m:=.fr) (n:=.fr) rfl (e2v ad (y:=(.fr,.int (b:Int))) rfl rfl)
    by_cases h:a+1 < b
    ·rw [decide_eq_true (by omega)] at lt
     exact ⟨some (a+1),IG c1 (IG lt st),fun y h=>.inr h,fun y hy=>⟨a+1,by cases hy;omega,rfl⟩,fun y h=>⟨y,Zp _,h⟩⟩
    ·rw [Za (by omega)] at lt
     exact ⟨some b,IG c1 (eK lt rfl),fun y h=>.inl h,fun y h=>⟨y,Zp _,h⟩,fun y h=>by
      have:a+1=y:=Zn h
      exact ⟨b,by omega,rfl⟩⟩
theorem A7 {W:Tx} (hW:W.length<=1000):gB [.lst (bk.map .str),.str W]=some (.fr,GY (cn P W)):=by
 have h1:P []=true:=(hP []).mpr (.inl rfl)
 have hi:=CQ hP h8
 obtain ⟨U',f1,n,z3,z4,z5,rfl,hn⟩:=fq (tg:=bc 3) (body:=iP) (fun (k:Nat)=>T.int ((1:Int)+(k:Int))) (fun r U=>∃ (n:Nat) (z3 z4 z5:We),U=[pc (.lst (bk.map .str)),Q1 W,oc (L5 P W (n+1)),z3,z4,z5]/\(r=List.range' n r.length/\n+r.length=W.length)) (by
  rintro k r _ ⟨n,z3,z4,z5,rfl,hr,hl⟩
  rw [Zm] at hl
  rw [Zm,Wm] at hr
  obtain ⟨rfl,QG⟩:=X1 hr
  obtain ⟨U',f1,b,Lw,rfl,_,g1,g2⟩:=fq (tg:=bc 5) (body:=gq) (fun (k:Nat)=>T.int (k:Int)) (fun r U=>∃ (b:Option Nat) (z5:We),U=KA P bk W (k+1) b z5/\(∀ s∈r,s < k+1)/\(∀ y,b=some y->∃ s,s < k+1/\pM P W (k+1) s=some y)/\∀ s y,s < k+1->s ∉ r->pM P W (k+1) s=some y->∃ x,x<=y/\b=some x) (by
   rintro s r _ ⟨b,z5,rfl,hr,g1,g2⟩
   have hs:=hr s Zu
   obtain ⟨b',e,k1,k2,k3⟩:=Gq hP h8 (W:=W) hs (by omega) hW b
   refine ⟨_,_,rfl,e,b',_,rfl,fun x hx=>hr x (Zw _ hx),fun y hy=>(k1 y hy).elim (g1 y) fun z=>⟨s,hs,z⟩,fun s' y HJ hn hc=>?_⟩
   by_cases SO:s'=s
   ·subst SO;exact k3 y hc
   ·obtain ⟨x,x1,x2⟩:=g2 s' y HJ (fun z=>(Zj.mp z).elim SO hn) hc
    obtain ⟨x',x3,x4⟩:=k2 x x2
    exact ⟨x',by omega,x4⟩) (List.range (k+1)) (KA P bk W (k+1) none z5) ⟨none,z5,rfl,fun s h=>Ye.mp h,(fun y h=>nomatch h),fun s y hs hn=>absurd (Ye.mpr hs) hn⟩
  have hb:b=cn P (W.take (k+1)):=by
   cases hc:cn P (W.take (k+1)) with
   | none =>
    cases b with
    | none=>rfl
    | some y =>
     obtain ⟨s,hs,q⟩:=g1 y rfl
     obtain ⟨y',_,q'⟩:=vD h1 hi hs (by omega) q
     rw [hc] at q'
     cases q'
   | some y =>
    obtain ⟨s,x,hs,hx,q⟩:=wV h1 hi (X9 k) (by omega) hc
    obtain ⟨x',q1,rfl⟩:=g2 s x hs (fun h=>nomatch h) q
    obtain ⟨s2,IZ,q2⟩:=g1 x' rfl
    obtain ⟨y',q3,q4⟩:=vD h1 hi IZ (by omega) q2
    rw [hc] at q4
    cases q4
    rw [show x'=y by omega]
  subst hb
  have a3:=nM (i:=2) (U:=KA P bk W (k+1) (cn P (W.take (k+1))) Lw) (e:=aa 4) (l:=(List.range (k+1)).map fun s=>GY (cn P (W.take s))) (v:=GY (cn P (W.take (k+1)))) rfl (by cases cn P (W.take (k+1)) <;> rfl) (by rw [Zt,ZQ];omega)
  rw [show (List.range (k+1)).map (fun s=>GY (cn P (W.take s)))++[GY (cn P (W.take (k+1)))]=(List.range (k+1+1)).map fun s=>GY (cn P (W.take s)) from by rw [List.range_succ (n:=k+1),ZD];rfl] at a3
  refine ⟨[pc (.lst (bk.map .str)),Q1 W,oc (L5 P W (k+1)),Q0 ((1:Int)+(k:Int)),z4,z5],_,rfl,sq (U1:=KA P bk W (k+1) none z5) ?_ (sq ((dF (m:=.fr) ?_ rfl).trans f1) a3),k+1,_,_,_,rfl,QG,by omega⟩
  ·show some (Out.nx [_,_,_,Q0 ((1:Int)+(k:Int)),_,_])=_
   rw [show (1:Int)+(k:Int)=((k+1:Nat):Int) by omega]
   rfl
  ·rw [eE (m:=.fr) (j:=((k+1:Nat):Int)) rfl (by omega),YF,gY]) (List.range W.length) [pc (.lst (bk.map .str)),Q1 W,oc (L5 P W 1),none,none,none] ⟨0,none,none,none,rfl,by rw [ZQ];exact List.range_eq_range',by rw [ZQ];exact Xl _⟩
 have Ng:n=W.length:=hn.2
 refine fM rfl (sq (U1:=[pc (.lst (bk.map .str)),Q1 W,oc (L5 P W 1),none,none,none]) rfl (sq ((dF (m:=.fr) ?_ rfl).trans f1) (sq (U1:=[pc (.lst (bk.map .str)),Q1 W,pc (L5 P W (n+1)),z3,z4,z5]) rfl (fJ ?_))))
 ·rw [t8 (m:=.fr) (n:=.fr) (i:=1) (j:=(W.length:Int)+1) rfl rfl (by omega),show ((W.length:Int)+1 - 1).toNat=W.length by omega]
  rfl
 ·refine e2v (x:=(.pu,L5 P W (n+1))) (y:=(.fr,.int (-1))) rfl rfl ?_
  rw [mJ (fun s=>GY (cn P (W.take s))) (List.range (n+1)) 0 (by rw [ZQ];omega),ZQ,YM,Zs,XC (by omega)]
  show some (sub .pu (GY (cn P (W.take n))))=_
  rw [Ng,Wo]
  cases cn P W <;> rfl
end
def yZ {j:Nat} {x:Xx} {U U1:Env} {m:Md} {t:T} (h:x U=some ((m,t),U1)) (hj:j < U1.length):qk j x U=some (.nx (U1.set j (some (.pu t)))):=by
 unfold qk
 rw [h,Zx,Zq hj]
theorem uv {P:Tx->Bool}:∀ (n:Nat) (v:Tx) (l:List Tx),Kb P n v=some l->l.length<=n
 | 0,v,l,h=>by cases h;exact Zp _
 | n+1,v,l,h=>by
  unfold Kb at h
  split at h
  ·cases h;exact Yt _
  ·split at h
   ·cases h
   ·obtain ⟨l',h1,rfl⟩:=Zy.mp h
    exact Xs (uv n _ l' h1)
def Cd {np nn:Nat} {b:Sx} {ts:Wa} {v:Val} (hl:ts.length=np) (h:∃ U,b (ts.map (fun t=>some (.pu t))++List.replicate (nn - np) none)=some (.rt v U)):fn np nn b ts=some v:=by
 obtain ⟨U,h⟩:=h
 exact fM hl h
def eA {a b:Sx} {U U1:Env} {v:Val} (h:a U=some (.nx U1)) (q:∃ z,b U1=some (.rt v z)):∃ z,ak a b U=some (.rt v z):=by
 obtain ⟨z,q⟩:=q
 exact ⟨z,sq h q⟩
def Sd {ns:Wg} {j k:Nat} {n:Int} {U:Env} (e:b9 [.Hw ns,.int k]=some (.fr,.lst [.int n])) (h0:U[0]?=some (pc (.Hw ns))) (hj:j < U.length):jX j (bW b9 (ab (aa 0) (ab (Q2 k) ai))) U=some (.nx (U.set j (oc (.lst [.int n])))):=by
 show (bW b9 _ _).bind _=_
 rw [cN (xv (x:=(.fr,.Hw ns)) (by unfold aa;rw [h0];rfl) (xv (r:=ai) (x:=(.fr,.int (k:Int))) rfl rfl)) e,Zx]
 exact Zq hj
def PC (P:Tx->Bool):List Tx->Prop
 | []=>True
 | p :: r=>p ≠ []/\P p=true/\(∀ q r',r=q :: r'->∃ c q',q=c :: q'/\¬ P (p++[c])=true)/\PC P r
def E2 {P:Tx->Bool} (h1:P []=true) (hi:∀ u v,v <:+: u->P u=true->P v=true):∀ (n:Nat) (v:Tx) (l:List Tx),v.length<=n->gp P v=some l->l.flatten=v/\PC P l:=by
 intro n
 induction n with
 | zero=>intro v l h e;cases Ys.mp (Xp.mp h);cases e;exact ⟨rfl,trivial⟩
 | succ n ih =>
  intro v l h e
  by_cases hv:v=[]
  ·subst hv;cases e;exact ⟨rfl,trivial⟩
  rw [pL hv] at e
  split at e
  ·cases e
  ·rename_i h0
   obtain ⟨l',e',rfl⟩:=Zy.mp e
   have kl:=je (P:=P) v []
   have kP:=om v [] h1
   have km:=qw (fun a b h=>hi _ _ (X4 a b).isInfix h) v []
   generalize Hg P [] v=k at *
   obtain ⟨g1,g2⟩:=ih (v.drop k) l' (by rw [ZJ];omega) e'
   refine ⟨by rw [ZX,g1,Xy],fun z=>?_,kP,fun q r' hr=>?_,g2⟩
   ·rcases List.take_eq_nil_iff.mp z with z | z
    ·exact h0 z
    ·exact hv z
   ·subst hr
    obtain ⟨hq,_⟩:=g2
    cases q with
    | nil=>exact absurd rfl hq
    | cons c q' =>
     refine ⟨c,q',rfl,fun z=>?_⟩
     have hd:v.drop k=c :: (q'++r'.flatten):=g1.symm
     have hk:k < v.length:=XZ fun y=>by rw [Y6 y] at hd;cases hd
     refine km (k+1) (Yp _) hk ?_
     have:v.take (k+1)=v.take k++[c]:=by rw [List.take_add,hd];rfl
     rw [Yv,this]
     exact z
abbrev ER (bk:List Tx) (W:Tx) (l:List Tx) (z5 z6:We):Env:=[pc (.lst (bk.map .str)),pc (Ik (tabOf bk)),Q1 W,pc (.lst (l.map .str)),Q0 (l.length:Int),z5,z6]
def yz {U:Env} {a b:Ex} {m n:Md} {l:List Tx} {i:Nat} (ha:a U=some (m,.lst (l.map .str))) (hb:b U=some (n,.int (i:Int))) (h:i < l.length):e2 ay a b U=some (.fr,.str (l.getD i [])):=e2v ha hb ((jE T.str l i [] h).trans rfl)
def m7 {U:Env} {a:Ex} {m:Md} {l:List Tx} (ha:a U=some (m,.lst (l.map .str))):eN bt (ab a ai) U=some (.fr,.int (l.length:Int)):=jv (xv (r:=ai) ha rfl) (by show some (Md.fr,T.int (((l.map T.str).length:Nat):Int))=_;rw [Zt])
section
variable {bk:List Tx} (h:Kn bk) {W:Tx} {P:Tx->Bool} (hP:∀ w,P w=true ↔ Pt bk w)
include h hP
theorem BV {U:Env} {a b:Ex} {m n:Md} {u:Tx} (ha:a U=some (.pu,.lst (bk.map .str))) (hb:b U=some (.fr,.str u)) (hu:u ≠ []) (f:Val->Val->Wb) (x:Bool->Bool) (hf:∀ ps:List (Nat×Nat),f (.fr,.lst (ps.map tP)) (.fr,.lst [])=some (.fr,.bl (x ps.isEmpty))):e2 f (bW hZ (ab a (ab b ai))) (di ai) U=some (.fr,.bl (x (!P u))):=by
 obtain ⟨ps,e,he⟩:=yy h.Jc (fun t ht=>ZG (Kn.LC ht) h.sum) u
 rw [BY hP h.Jc hu] at he
 rw [← he]
 exact e2v (cN (xv ha (xv (r:=ai) hb rfl)) e) (y:=(.fr,.lst [])) rfl (hf ps)
theorem y0 (ps:List (Nat×Nat)):HY 60 (.lst (ps.map tP))=true:=by
 show (ps.map tP).all (HY 59)=true
 rw [List.all_map]
 exact Yi.mpr fun _ _=>rfl
abbrev EQ (bk:List Tx) (W:Tx) (l:List Tx) (k:Nat) (p:Tx):Env:=ER bk W l (Q0 (k:Int)) (Q1 p)
theorem wO:∀ (r:List Tx) (k:Nat) (l:List Tx) (z5 z6:We),l.drop k=r->l.length<=1000->(∀ p∈l,p.length<=1000)->PC P r->∃ y5 y6,forL (qJ [bc 5,bc 6]) iN ((r.zipIdx k).map fun p=>T.tup [.int (p.2:Int),.str p.1]) (ER bk W l z5 z6)=some (.nx (ER bk W l y5 y6)):=by
 intro r
 induction r with
 | nil=>exact fun k l z5 z6 _ _ _ _=>⟨z5,z6,rfl⟩
 | cons p r ih =>
  rintro k l z5 z6 hd hl hp ⟨p1,p2,p3,p4⟩
  have hk:k < l.length:=XZ fun y=>by rw [Y6 y] at hd;cases hd
  have hpl:p∈l:=XI (i:=k) (by rw [hd];exact Zu)
  obtain ⟨y5,y6,e⟩:=ih (k+1) l (Q0 (k:Int)) (Q1 p) (by rw [← YD,hd];rfl) hl hp p4
  refine ⟨y5,y6,(iy (U1:=EQ bk W l k p) rfl ?_).trans e⟩
  have lt:e2 oLt (e2 aN (aa 5) (Q2 1)) (eN bt (ab (aa 3) ai)) (EQ bk W l k p)=some (.fr,.bl (decide (((k+1:Nat):Int) < (l.length:Int)))):=e2v (x:=(.fr,.int ((k+1:Nat):Int))) rfl (m7 (m:=.pu) rfl) rfl
  refine sq (eK (m:=.fr) ?_ rfl) (eK (m:=.fr) ?_ rfl)
  ·refine NJ (m:=.fr) (n:=.fr) (x:=false) (y:=false) (e2v (x:=(.fr,.str p)) (y:=(.fr,.str [])) rfl rfl (mN rfl rfl (by simp only [eqT];exact ZM.mpr p1))) ?_
   have:=BV h hP (m:=.fr) (n:=.fr) (U:=EQ bk W l k p) (a:=aa 0) (b:=aa 6) rfl rfl p1 oEq id fun ps=>mN (y0 h hP ps) rfl (by cases ps <;> rfl)
   rw [p2] at this
   exact this
  ·refine qA lt (fun hb=>?_) fun _=>rfl
   have Lm:k+1 < l.length:=by have:=of_decide_eq_true hb;omega
   have hd2:l.drop (k+1)=r:=by rw [← YD,hd];rfl
   rw [Xf Lm] at hd2
   obtain ⟨c,q',hq,hn⟩:=p3 _ _ hd2.symm
   have hg:l.getD (k+1) []=c :: q':=by rw [Zs,Zr Lm,← hq];rfl
   have i1:=yz (U:=EQ bk W l k p) (a:=aa 3) (b:=e2 aN (aa 5) (Q2 1)) (m:=.pu) (n:=.fr) (i:=k+1) rfl rfl Lm
   rw [hg] at i1
   have:=BV h hP (m:=.fr) (n:=.fr) (U:=EQ bk W l k p) (a:=aa 0) (b:=e2 aN (aa 6) (e2 ay (e2 ay (aa 3) (e2 aN (aa 5) (Q2 1))) (Q2 0))) (u:=p++[c]) rfl (zd (m:=.fr) (n:=.fr) rfl (e2v i1 (y:=(.fr,.int 0)) rfl ((ql (c :: q') 0 (by decide) (by rw [Zm];omega)).trans rfl)) (by have:=hp p hpl;show p.length+1<=_;omega)) (by simp) Kd (!·) fun ps=>vo (y0 h hP ps) rfl (by cases ps <;> rfl)
   rw [Bool.eq_false_iff.mpr hn] at this
   exact this
theorem zZ (hl:W.length<=1000) (hp:dr [Ik (tabOf bk),.str W]=some (.fr,D5 (gp P W))):gF [.lst (bk.map .str),Ik (tabOf bk),.str W]=some (.fr,.bl true):=by
 have h1:P []=true:=(hP []).mpr (.inl rfl)
 have le:=A7 hP h.Jc hl
 have QZ:=uv (P:=P) W.length W
 unfold cn at le
 refine Cd rfl (eA (aI (m:=.fr) (cN (xv (x:=(.pu,Ik (tabOf bk))) rfl (xv (r:=ai) (x:=(.fr,.str W)) rfl rfl)) hp) (by decide) (by show 3 < 7;decide)) (eA (aI (m:=.fr) (cN (xv (x:=(.pu,.lst (bk.map .str))) rfl (xv (r:=ai) (x:=(.fr,.str W)) rfl rfl)) le) (by decide) (by show 4 < 7;decide)) ?_))
 cases hg:gp P W with
 | none=>exact ⟨_,dX (IG (m:=.fr) rfl rfl)⟩
 | some l =>
  have hll:=QZ l hg
  obtain ⟨g1,g2⟩:=E2 h1 (CQ hP h.Jc) W.length W l (Zp _) hg
  obtain ⟨y5,y6,f1⟩:=wO h hP (W:=W) l 0 l none none (XG) (by omega) (fun p hp=>by rw [← g1] at hl;exact ZG (List.Sublist.length_le (List.sublist_flatten_of_mem hp)) hl) g2
  have j1:=lu (m:=.fr) (n:=.pu) (strs_map id l) (by rw [XH,g1];omega)
  rw [XH,g1] at j1
  refine eA (U1:=ER bk W l none none) (eK (m:=.fr) rfl rfl) (eA (eK (m:=.fr) (NJ (m:=.fr) (n:=.fr) (x:=false) (y:=false) (e2v (t6 rfl (xv (r:=ai) (x:=(.pu,.lst (l.map .str))) rfl rfl) j1) (y:=(.fr,.str W)) rfl (vo (r:=true) rfl rfl (by simp only [eqT,beq_self_eq_true]))) (e2v (m7 (m:=.pu) rfl) (y:=(.fr,.int (l.length:Int))) rfl (vo (r:=true) rfl rfl (by simp only [eqT,beq_self_eq_true])))) rfl) (eA ((dF (m:=.pu) ?_ rfl).trans f1) ⟨_,rfl⟩))
  show some (Md.pu,gT 0 (l.map .str))=_
  rw [rg]
end
abbrev EY (ns:Wg) (c1 c2 c3 c4 c5 c6 c7 c8 c9 RZ:We):Env:=[pc (.Hw ns),c1,c2,c3,c4,c5,c6,c7,c8,c9,RZ]
abbrev EZ (ns:Wg) (n:Int) (L:Tx) (bk:List Tx) (c5 c6 c7 c8 c9 RZ:We):Env:=EY ns (pc (.lst [.int n])) (Q1 L) (pc (.lst (bk.map .str))) (pc (Ik (tabOf bk))) c5 c6 c7 c8 c9 RZ
def xS (ns:Wg) (Ma:ns.length<=63):yx [.Hw ns]=some (.fr,.bl true):=by
 obtain ⟨n,e1⟩:=rO ns Ma 0 (by decide)
 obtain ⟨n1,L,HN,l0,UP,lz⟩:=Ae n
 have hL:0 < L.length/\L.length<=26/\Az L:=⟨l0,UP,lz⟩
 obtain ⟨n2,bk,e3,b8,bs,bz⟩:=Co hL n1
 have h:Kn bk:=⟨b8,bs,bz⟩
 obtain ⟨m,e5⟩:=rO ns Ma 1 (by decide)
 obtain ⟨_,nd,wd,H,_,_,k3,k4,k0⟩:=h.k
 obtain ⟨P,hP,pi⟩:∃ P:Tx->Bool,(∀ w,P w=true ↔ Pt bk w)/\∀ {W:Tx},Az W->W.length<=1000->dr [Ik (tabOf bk),.str W]=some (.fr,D5 (gp P W)):=⟨fun w=>(nd w).isSome,fun w=>by rw [Fc,← H.some,Yn],fun hz hl=>zg H k3 k0 hz hl⟩
 have h1:P []=true:=(hP []).mpr (.inl rfl)
 have hi:=CQ hP b8
 have q2:=dE (j:=2) (cx (i:=1) (un:=false) (k:=0) (r:=[]) (l:=[]) (U:=EY ns (oc (.lst [.int n])) none none none none none none none none none) rfl rfl rfl rfl rfl rfl HN) rfl (by show 2 < 11;decide)
 have q3:=yZ (j:=3) (cx (i:=1) (un:=false) (k:=0) (r:=[.px (xI (aa 2))]) (l:=[.str L]) (U:=EY ns (oc (.lst [.int n1])) (Q1 L) none none none none none none none none) rfl (oI (t:=.str L) (bS (m:=.fr) rfl rfl) rfl rfl) rfl rfl rfl rfl e3) (by show 3 < 11;decide)
 have Ub:∀ (r:Wg) (m:Int),∃ (m':Int) (ws:List Tx),gC (Ly (fD [(.io 6 false),(.ex (aa 4)),(.ex (aa 3))] eI) none (some (xI (Q2 60)))) r (EZ ns n2 L bk (oc (.lst [.int m])) none none none none none)=some (ws.map .str,EZ ns n2 L bk (oc (.lst [.int m'])) none none none none none)/\ws.length=r.length/\∀ w∈ws,Az w/\w.length<=60:=by
  intro r
  induction r with
  | nil=>exact fun m=>⟨m,[],rfl,rfl,fun _ h=>nomatch h⟩
  | cons i r ih =>
   intro m
   obtain ⟨m1,w,e,g1,g2⟩:=Df hL (fun t ht=>⟨ZG (Kn.LC ht) bs,bz t ht⟩) b8 m
   obtain ⟨m',ws,e',g3,g4⟩:=ih m1
   have x1:=ci (i:=6) (un:=false) (k:=0) (r:=[.ex (aa 4),.ex (aa 3)]) (l:=[.lst (bk.map .str),.str L]) (U:=Q0 i :: EZ ns n2 L bk (oc (.lst [.int m])) none none none none none) rfl rfl rfl (fun _=>rfl) rfl rfl (by
    show (aZ (bk.map T.str) && true)=true
    rw [dM _ (fun _=>rfl)]
    rfl) e
   refine ⟨m',cut w none (some 60) :: ws,nc (uA (lo:=none) x1 rfl (kD (bS (m:=.fr) rfl rfl))) rfl e',by rw [Zm,Zm,g3],fun u hu=>?_⟩
   rcases Zj.mp hu with rfl | hu
   ·exact ⟨qg g1,qU w 60⟩
   ·exact g4 u hu
 obtain ⟨m',ws,e7,h7,hw⟩:=Ub (Lk 0 3) m
 have q6:=BH (j:=6) (m:=.fr) (x:=Bj (j8 (xI (Q2 3)) (Ly (fD [(.io 6 false),(.ex (aa 4)),(.ex (aa 3))] eI) none (some (xI (Q2 60)))))) (t:=.lst (ws.map .str)) (U:=EZ ns n2 L bk (oc (.lst [.int m])) none none none none none) (by
  show (j8 _ _ _).map _=_
  rw [vg (bS (m:=.fr) (t:=.int 3) rfl rfl) (by decide) e7]
  rfl) (by show 6 < 11;decide)
 obtain ⟨U',f1,z7,rfl,_⟩:=fq (tg:=bc 7) (body:=rK) T.str (fun r U=>∃ z7,U=EZ ns n2 L bk (pc (.lst [.int m'])) (pc (.lst (ws.map .str))) z7 none none none/\∀ w∈r,w∈ws) (by
  rintro w r _ ⟨z7,rfl,hr⟩
  obtain ⟨g1,g2⟩:=hw w (hr w Zu)
  exact ⟨_,_,rfl,eK (t9 (m:=.fr) (cN (xv (x:=(.pu,.lst (bk.map .str))) rfl (xv (x:=(.pu,Ik (tabOf bk))) rfl (xv (r:=ai) (x:=(.fr,.str w)) rfl rfl))) (zZ h hP (by omega) (pi g1 (by omega))))) rfl,_,rfl,fun u hu=>hr u (Zw _ hu)⟩) ws (EZ ns n2 L bk (pc (.lst [.int m'])) (pc (.lst (ws.map .str))) none none none none) ⟨none,rfl,fun w h=>h⟩
 have hlen:ws.length=3:=h7
 obtain ⟨a1,a2⟩:=hw _ (fW (l:=ws) (i:=0) (by omega))
 obtain ⟨b1,b2⟩:=hw _ (fW (l:=ws) (i:=1) (by omega))
 have i0:∀ {z8 z9},e2 ay (aa 6) (Q2 0) (EZ ns n2 L bk (pc (.lst [.int m'])) (pc (.lst (ws.map .str))) z7 z8 z9 none)=_:=fun {z8 z9}=>yz (m:=.pu) (n:=.fr) (i:=0) rfl rfl (by omega)
 have i1:∀ {z8 z9},e2 ay (aa 6) (Q2 1) (EZ ns n2 L bk (pc (.lst [.int m'])) (pc (.lst (ws.map .str))) z7 z8 z9 none)=_:=fun {z8 z9}=>yz (m:=.pu) (n:=.fr) (i:=1) rfl rfl (by omega)
 generalize ws.getD 0 []=A at a1 a2 i0
 generalize ws.getD 1 []=B at b1 b2 i1
 have VO:Az (A++B):=jH a1 b1
 have lAB:(A++B).length<=120:=by rw [Zv];omega
 refine Cd rfl (eA (Sd (k:=0) e1 rfl (by show 1 < 11;decide)) (eA q2 (eA q3 (eA (U1:=EY ns (pc (.lst [.int n2])) (Q1 L) (pc (.lst (bk.map .str))) none none none none none none none) rfl (eA (aI (m:=.fr) (A3 h (m:=.pu) rfl) (by decide) (by show 4 < 11;decide)) (eA (Sd (k:=1) e5 rfl (by show 5 < 11;decide)) (eA q6 (eA (U1:=EZ ns n2 L bk (oc (.lst [.int m'])) (pc (.lst (ws.map .str))) none none none none) rfl (eA (U1:=EZ ns n2 L bk (pc (.lst [.int m'])) (pc (.lst (ws.map .str))) none none none none) rfl (eA ((dF (m:=.pu) rfl rfl).trans f1) (eA (aI (m:=.fr) (cN (xv (x:=(.pu,Ik (tabOf bk))) rfl (xv (r:=ai) i0 rfl)) (pi a1 (by omega))) (by decide) (by show 8 < 11;decide)) (eA (aI (m:=.fr) (cN (xv (x:=(.pu,Ik (tabOf bk))) rfl (xv (r:=ai) i1 rfl)) (pi b1 (by omega))) (by decide) (by show 9 < 11;decide)) (eA (aI (m:=.fr) (cN (xv (x:=(.pu,Ik (tabOf bk))) rfl (xv (r:=ai) (zd i0 i1 (by omega)) rfl)) (pi VO (by omega))) (by decide) (by show 10 < 11;decide)) ?_)))))))))))))
 have nB:gp P (A++B)=none->∀ v,cn P (A++B)=some v->False:=fun z v y=>by unfold cn at y;rw [z] at y;cases y
 have Kp:∀ {c},cn P (A++B)=some c->∃ b,b<=c/\cn P B=some b:=fun {c} e=>by
  have:=zu h1 hi _ (A++B) c A.length (Zp _) e
  rwa [List.drop_left] at this
 cases hA:gp P A with
 | none =>
  have:gp P (A++B)=none:=by
   cases hx:gp P (A++B) with
   | none=>rfl
   | some l =>
    obtain ⟨a,_,z⟩:=yL h1 hi _ A B l.length (Zp _) (by unfold cn;rw [hx];rfl)
    unfold cn at z
    rw [hA] at z
    cases z
  rw [this]
  exact ⟨_,dX (IG (m:=.fr) (vz (m:=.fr) (x:=true) (v:=(.fr,.bl true)) rfl (fun z=>nomatch z) fun _=>rfl) rfl)⟩
 | some la =>
  cases Td:gp P B with
  | none =>
   have:gp P (A++B)=none:=by
    cases hx:gp P (A++B) with
    | none=>rfl
    | some l =>
     obtain ⟨a,_,z⟩:=Kp (c:=l.length) (by unfold cn;rw [hx];rfl)
     unfold cn at z
     rw [Td] at z
     cases z
   rw [this]
   exact ⟨_,dX (IG (m:=.fr) (NJ (m:=.fr) (n:=.fr) (x:=false) (y:=true) rfl rfl) rfl)⟩
  | some lb =>
   have ca:cn P A=some la.length:=by unfold cn;rw [hA];rfl
   have cb:cn P B=some lb.length:=by unfold cn;rw [Td];rfl
   obtain ⟨c,c1,c2⟩:=zB h1 hi _ A B _ _ (Zp _) ca cb
   obtain ⟨a,c3,c4⟩:=yL h1 hi _ A B _ (Zp _) c2
   obtain ⟨b,c5,c6⟩:=Kp c2
   rw [ca] at c4
   rw [cb] at c6
   cases c4
   cases c6
   obtain ⟨lc,hx,rfl⟩:=Zy.mp c2
   rw [hx]
   refine ⟨_,sq (eK (m:=.fr) (NJ (m:=.fr) (n:=.fr) (x:=false) (y:=false) rfl rfl) rfl) (fJ (mf (x:=(.fr,.int (if (lb.length:Int) > (la.length:Int) then (lb.length:Int) else (la.length:Int)))) (y:=(.fr,.int (lc.length:Int))) (z:=(.fr,.int ((la.length:Int)+(lb.length:Int)))) (jv (xv (m7 (m:=.pu) rfl) (xv (r:=ai) (m7 (m:=.pu) rfl) rfl)) rfl) (m7 (m:=.pu) rfl) ?_ (e2v (m7 (m:=.pu) rfl) (m7 (m:=.pu) rfl) rfl) ?_))⟩
   ·show some (Md.fr,T.bl (decide ((if (lb.length:Int) > (la.length:Int) then (lb.length:Int) else (la.length:Int))<=(lc.length:Int))))=_
    rw [decide_eq_true (by split <;> omega)]
   ·show some (Md.fr,T.bl (decide ((lc.length:Int)<=(la.length:Int)+(lb.length:Int))))=_
    rw [decide_eq_true (by omega)]
end T42
end
section
namespace T42
open PySem PySem.Spec PyProof.Rows L2 VS
def qv {G:Gx} {X:Cx} {x:Str} {p:Pos} (i:Nat) (a:X.N[i]?=some x:=by exact rfl) (b:IB X.env.scope x:=by exact Or.inl rfl) (c:K3 x:=by rfl) (d:K4 x:=by rfl):PV G X (.Name x p) (aa i):=bM i a b c d
def Q3 {α:Sort _} {x:α} {b:Prop}:x=x∨b:=.inl rfl
abbrev Q4:List Str:=["_law_book_here", "_law_table", "_law_word_here"]
abbrev Q5:List Str:=["_law_book_here", "_law_word_here"]
abbrev Q6:List Str:=["_law_k", "_law_spring_here", "_law_letters", "_law_few", "_law_start", "_law_step"]
abbrev Q7:List Str:=["_law_k", "_law_spring_here", "_law_signs_here", "_law_most"]
abbrev Q8:List Str:=["_law_script", "_law_k"]
abbrev Q9:List Str:=["_law_spring_here", "_law_book_here", "_law_signs_here"]
abbrev Qa:List Str:=["_law_spring_here", "_law_most"]
abbrev Qb:List Str:=["_law_spring_here", "_law_signs_here", "_law_most"]
abbrev Qc:List Str:=["_law_spring_here", "_law_signs_here"]
abbrev Qd:List Str:=["_law_spring_here"]
abbrev Qe:List Str:=["_law_text_here", "_law_book_here", "_law_word_here"]
abbrev Qf:List Str:=["_law_turn", "_law_script", "_law_spring_here", "_law_signs_here", "_law_book_here", "_law_table", "_law_more", "_law_asked", "_law_word_here", "_law_one", "_law_other", "_law_both"]
abbrev Qg:List Str:=["book", "number"]
abbrev Qh:List Str:=["end", "book", "word", "found", "number", "text", "ends"]
abbrev Qi:List Str:=["self", "head", "sign"]
abbrev Qj:List Str:=["self", "head", "word"]
abbrev Qk:List Str:=["self", "long", "link", "ways"]
abbrev Ql:List Str:=["self", "node", "numbers"]
abbrev Qm:List Str:=["self", "node", "sign"]
abbrev Qn:List Str:=["self", "text", "word"]
abbrev Qo:List Str:=["self"]
abbrev Qp:List Str:=["sign", "self", "node", "numbers", "link", "ways", "steps"]
abbrev Qq:List Str:=["table", "word"]
def top (i:Nat):Stmt:=PySem.Challenge.pw_allparts_k42_whole_the_fewest.main.body.getD i (.Pass ⟨0,0,0,0⟩)
structure HR (mg:Xe):Prop where
 MX:mg "bool" = none
 Le:mg "dict" = none
 Ic:mg "enumerate" = none
 OC:mg "int" = none
 HV:mg "isinstance" = none
 GQ:mg "len" = none
 MW:mg "list" = none
 OB:mg "max" = none
 Hc:mg "range" = none
 Jy:mg "sorted" = none
 OA:mg "sum" = none
 LR:mg "tuple" = none
 Je:∃ t,mg "MOST_SIGNS" = some (.int 120 t)
 Jd:∃ t,mg "MOST_TEXTS" = some (.int 8 t)
abbrev L3:List Str:=["  ", "longs", "links", "ways", "texts", "heads", "nodes"]
abbrev gX (K:Xj) (C D:Addr):Gx:=Lp L3 K C D
def gJ {K:Xj} {C D:Addr} {m:Me}:jW ((Lp L3 K C D).at m):=Ap (by decide +kernel) (by decide +kernel)
structure HD (K:Xj) (mg:Xe) (C D:Addr):Prop where
 GN:HZ K C
 KR:mg "Nodes" = some (.ref C)
 Hm:aT K C "longs"
 Hn:aT K C "links"
 Ht:aT K C "ways"
 Hk:aT K C "texts"
 Ho:aT K C "heads"
 Hl:aT K C "nodes"
 GK:HZ K D
 JI:mg "Machine" = some (.ref D)
 G7:aT K D "longs"
 G8:aT K D "links"
 He:aT K D "ways"
 G5:aT K D "texts"
 G9:aT K D "heads"
 G6:aT K D "nodes"
def fi {K:Xj} {mg:Xe} {C D:Addr} {m:Me} (O:HD K mg C D):HM ((Lp L3 K C D).at m) K 1 "longs" := wj rfl O.GN O.GK O.Hm O.G7
def ft {K:Xj} {mg:Xe} {C D:Addr} {m:Me} (O:HD K mg C D):HM ((Lp L3 K C D).at m) K 2 "links" := wj rfl O.GN O.GK O.Hn O.G8
def dS {K:Xj} {mg:Xe} {C D:Addr} {m:Me} (O:HD K mg C D):HM ((Lp L3 K C D).at m) K 3 "ways" := wj rfl O.GN O.GK O.Ht O.He
def d9 {K:Xj} {mg:Xe} {C D:Addr} {m:Me} (O:HD K mg C D):HM ((Lp L3 K C D).at m) K 4 "texts" := wj rfl O.GN O.GK O.Hk O.G5
def kF {K:Xj} {mg:Xe} {C D:Addr} {m:Me} (O:HD K mg C D):HM ((Lp L3 K C D).at m) K 5 "heads" := wj rfl O.GN O.GK O.Ho O.G9
def nJ {K:Xj} {mg:Xe} {C D:Addr} {m:Me} (O:HD K mg C D):HM ((Lp L3 K C D).at m) K 6 "nodes" := wj rfl O.GN O.GK O.Hl O.G6
section
variable (P:Program) (w:World) (base:Heap) {K:Xj} {mg:Xe} {C D:Addr}
abbrev eU:Stmt:=inClass (top 16) 1
def ku:jj Qk Qk (ag eU):=by constructor <;> first | rfl | decide +kernel
def aJ {f:Addr} {fd:FuncData} (F:GX K "new_node" "Nodes.new_node" eU f fd) (hm:Meth K C "new_node" f) (B:HR mg) (O:HD K mg C D) :
  MtAt P w K mg base 1 (gX K C D) 0 "new_node" Qk [false,false,true] aF:=lC F hm O.GN (gb (by decide +kernel) (by decide +kernel)) ku rfl rfl (fun _ _ _ _ _ _ us hl=>by obtain ⟨_,_,_,_,rfl⟩:=L2.Gi hl;rfl) fun _ _ _ _ _ _ _ hr =>
  (af (pB gJ (fF 1 (fi O) (bA 0)) (ae (qv 1) ah))
  (af (pB gJ (fF 2 (ft O) (bA 0)) (ae (qv 2) ah))
  (af (Ao gJ (fF 3 (dS O) (bA 0)) rfl rfl Q3 rfl rfl rfl rfl rfl rfl rfl rfl)
  (aq (br (jC tJ t5 (cz B.GQ (ae (w_fld gJ (fi O) (qv 0)) ah)) aj))))))
abbrev eQ:Stmt:=inClass (top 16) 0
def j4:jj Qo Qo (ag eQ):=by constructor <;> first | rfl | decide +kernel
def cA {f:Addr} {fd:FuncData} (F:GX K "__init__" "Nodes.__init__" eQ f fd) (hm:Mk K C f) (B:HR mg) (O:HD K mg C D) (aJ:MtAt P w K mg base 1 (gX K C D) 0 "new_node" Qk [false,false,true] aF) :
  InAt P w K mg base 2 (gX K C D) 0 0 "Nodes" Qo dc:=Dx F hm O.KR j4 rfl rfl (fun _ _ _ _ _ _ us hl=>by obtain ⟨_,rfl⟩:=L2.oq hl;rfl) fun _ _ _ _ _ _ _ hr =>
  (af (kZ 0 1 gJ (fi O) (cy ah))
  (af (kZ 0 2 gJ (ft O) (cy ah))
  (af (kZ 0 3 gJ (dS O) (cy ah))
  (aq (rh (iB gJ aJ.at hr (by decide) (bA 0) (ae aj (ae pR (ae xV ah)))) rfl)))))
abbrev cj:Stmt:=inClass (top 16) 4
def aV:jj ["self", "node", "sign", "old", "long", "half"] Qm (ag cj):=by constructor <;> first | rfl | decide +kernel
def aQ {f:Addr} {fd:FuncData} (F:GX K "node_just_behind" "Nodes.node_just_behind" cj f fd) (hm:Meth K C "node_just_behind" f) (B:HR mg) (O:HD K mg C D) (aJ:MtAt P w K mg base 1 (gX K C D) 0 "new_node" Qk [false,false,true] aF) :
  MtAt P w K mg base 2 (gX K C D) 0 "node_just_behind" Qm [false,false] au:=lC F hm O.GN (gb (by decide +kernel) (by decide +kernel)) aV rfl rfl (fun _ _ _ _ _ _ us hl=>by obtain ⟨_,_,_,rfl⟩:=L2.pN hl;rfl) fun _ _ _ _ _ _ _ hr =>
  (af (aB (vS hr (bj (w_fld gJ (dS O) (qv 0)) (qv 1) (fun _ _=>rfl)) (qv 2) (fun _ _=>rfl)) aV.nd rfl Q3)
  (af (aB (w_add (bj (w_fld gJ (fi O) (qv 0)) (qv 1) (fun _ _=>rfl)) aj) aV.nd rfl Q3)
  (af (bJ (nN hr (bj (w_fld gJ (fi O) (qv 0)) (qv 3) (fun _ _=>rfl)) (qv 4)) (aq (cJ 3 rfl (Or.inl rfl) rfl rfl)) aY)
  (af (cf (iB gJ aJ.at hr (by decide) (bA 0) (ae (qv 4) (ae (bj (w_fld gJ (ft O) (qv 0)) (qv 3) (fun _ _=>rfl)) (ae (Ad B.Le (ae (bj (w_fld gJ (dS O) (qv 0)) (qv 3) (fun _ _=>rfl)) ah) rfl rfl) ah)))) aV.nd rfl Q3)
  (af (jh gJ hr (fF 2 (ft O) (bA 0)) (qv 3) (qv 5))
  (af (jt Z1 (JE.Li (mn (kG (qv 1)) (ky (nN hr (w_get hr (bj (w_fld gJ (dS O) (qv 0)) (qv 1) (fun _ _=>rfl)) (qv 2) rfl rfl rfl rfl) (qv 3)))))
  (af (jh gJ hr (Ca hr (fF 3 (dS O) (bA 0)) (qv 1) (fun _ _=>rfl) rfl) (qv 2) (qv 5))
  (aq (aB (bj (w_fld gJ (ft O) (qv 0)) (qv 1) (fun _ _=>rfl)) aV.nd rfl Q3))))
  (aq (cJ 5 rfl (Or.inl rfl) rfl rfl))))))))
abbrev dj:Stmt:=inClass (top 16) 3
def bY:jj ["self", "head", "sign", "fresh", "node"] Qi (ag dj):=by constructor <;> first | rfl | decide +kernel
def bF {f:Addr} {fd:FuncData} (F:GX K "head_behind" "Nodes.head_behind" dj f fd) (hm:Meth K C "head_behind" f) (B:HR mg) (O:HD K mg C D) (aJ:MtAt P w K mg base 1 (gX K C D) 0 "new_node" Qk [false,false,true] aF) (aQ:MtAt P w K mg base 2 (gX K C D) 0 "node_just_behind" Qm [false,false] au) :
  MtAt P w K mg base 3 (gX K C D) 0 "head_behind" Qi [false,false] bG:=lC F hm O.GN (gb (by decide +kernel) (by decide +kernel)) bY rfl rfl (fun _ _ _ _ _ _ us hl=>by obtain ⟨_,_,_,rfl⟩:=L2.pN hl;rfl) fun _ _ _ _ _ _ _ hr =>
  (af (bJ (FM hr (qv 2) (bj (w_fld gJ (dS O) (qv 0)) (qv 1) (fun _ _=>rfl)) (by with_unfolding_all rfl) rfl) (aq (vk (iB gJ aQ.at hr (by decide) (bA 0) (ae (qv 1) (ae (qv 2) ah))))) aY)
  (af (cf (iB gJ aJ.at hr (by decide) (bA 0) (ae (w_add (bj (w_fld gJ (fi O) (qv 0)) (qv 1) (fun _ _=>rfl)) aj) (ae aj (ae xV ah)))) bY.nd rfl Q3)
  (af (aB (qv 1) bY.nd rfl Q3)
  (af (jt Z1 (JE.Li (mn (kG (qv 4)) (ky (tQ hr (qv 2) (bj (w_fld gJ (dS O) (qv 0)) (qv 4) (fun _ _=>rfl)) (by with_unfolding_all rfl)))))
  (af (jh gJ hr (Ca hr (fF 3 (dS O) (bA 0)) (qv 4) (fun _ _=>rfl) rfl) (qv 2) (qv 3))
  (aq (aB (bj (w_fld gJ (ft O) (qv 0)) (qv 4) (fun _ _=>rfl)) bY.nd rfl Q3))))
  (af (bJ (kG (qv 4)) (aq (pU gJ hr (fF 2 (ft O) (bA 0)) (qv 3) (iB gJ aQ.at hr (by decide) (bA 0) (ae (qv 4) (ae (qv 2) ah))) (fun _=>rfl) rfl rfl rfl)) aY)
  (aq (cJ 3 rfl (Or.inl rfl) rfl rfl)))))))
abbrev dJ:Stmt:=inClass (top 16) 2
def dk:jj ["self", "head", "word", "sign"] Qj (ag dJ):=by constructor <;> first | rfl | decide +kernel
def bQ {f:Addr} {fd:FuncData} (F:GX K "head_grown" "Nodes.head_grown" dJ f fd) (hm:Meth K C "head_grown" f) (B:HR mg) (O:HD K mg C D) (bF:MtAt P w K mg base 3 (gX K C D) 0 "head_behind" Qi [false,false] bG) :
  MtAt P w K mg base 4 (gX K C D) 0 "head_grown" Qj [false,false] aL:=lC F hm O.GN (gb (by decide +kernel) (by decide +kernel)) dk rfl rfl (fun _ _ _ _ _ _ us hl=>by obtain ⟨_,_,_,rfl⟩:=L2.pN hl;rfl) fun _ _ _ _ _ _ _ hr =>
  (af (d5 Z1 rfl (fR (qv 2)) (aW 3 dk.nd rfl Q3 Q3)
  (aq (cf (iB gJ bF.at hr (by decide) (bA 0) (ae (qv 1) (ae (qv 3) ah))) dk.nd rfl Q3)))
  (aq (cJ 1 rfl (Or.inl rfl) rfl rfl)))
abbrev cB:Stmt:=inClass (top 16) 6
def aG:jj ["self", "numbers", "met", "done", "ways", "sign"] Qo (ag cB):=by constructor <;> first | rfl | decide +kernel
def aX {m:Me} {f:Addr} {fd:FuncData} (F:GX K "numbers_by_node" "Nodes.numbers_by_node" cB f fd) (hm:Meth K C "numbers_by_node" f) (B:HR mg) (O:HD K mg C D) :
  MpAt P w K mg base 1 ((gX K C D).at m) 0 "numbers_by_node" Qo aC:=nQ F hm O.GN (gb (by decide +kernel) (by decide +kernel)) aG rfl rfl (fun _ _ _ _ _ _ us hl=>by obtain ⟨_,rfl⟩:=L2.oq hl;rfl) fun _ _ _ _ _ _ hr =>
  (af (eZ Cz aG.nd rfl Q3)
  (af (eZ (cy (ae aj ah)) aG.nd rfl Q3)
  (af (aB aj aG.nd rfl Q3)
  (af (jt Z1 (rP (qv 3) (cz B.GQ (ae (qv 2) ah)))
  (af (aB (bj (w_fld gJ (dS O) (qv 0)) (bj (qv 2) (qv 3) (fun _ _=>rfl)) (fun _ _=>rfl)) aG.nd rfl Q3)
  (af (d5 Z1 rfl (fR (uD B.Jy (ae (qv 4) ah))) (aW 5 aG.nd rfl Q3 Q3)
  (aq (bJ (tQ hr (vS hr (qv 4) (qv 5) (fun _ _=>rfl)) (qv 1) (by with_unfolding_all rfl)) (af (CF 1 hr (vS hr (qv 4) (qv 5) (fun _ _=>rfl)) (cz B.GQ (ae (qv 2) ah)) rfl Q3 rfl rfl (fun _=>rfl) rfl rfl rfl)
  (aq (iL 2 (ae (vS hr (qv 4) (qv 5) (fun _ _=>rfl)) ah) rfl rfl Q3 rfl rfl))) aY)))
  (aq (aB (w_add (qv 3) aj) aG.nd rfl Q3)))))
  (kE 2 (aq (cJ 1 rfl (Or.inl rfl) rfl rfl)))))))
abbrev gr:Stmt:=inClass (top 16) 7
def dD:jj ["self", "node", "numbers", "link", "ways", "steps"] Ql (ag gr):=by constructor <;> first | rfl | decide +kernel
def cV {m:Me} {f:Addr} {fd:FuncData} (F:GX K "row_of" "Nodes.row_of" gr f fd) (hm:Meth K C "row_of" f) (B:HR mg) (O:HD K mg C D) :
  MpAt P w K mg base 1 ((gX K C D).at m) 0 "row_of" Ql bL:=nQ F hm O.GN (gb (by decide +kernel) (by decide +kernel)) dD rfl rfl (fun _ _ _ _ _ _ us hl=>by obtain ⟨_,_,_,rfl⟩:=L2.pN hl;rfl) fun _ _ _ _ _ _ hr =>
  (af (aB (bj (w_fld gJ (ft O) (qv 0)) (qv 1) (fun _ _=>rfl)) dD.nd rfl Q3)
  (af (aB (bj (w_fld gJ (dS O) (qv 0)) (qv 1) (fun _ _=>rfl)) dD.nd rfl (Or.inr rfl))
  (af (aB (BB B.LR (ae (mr 1 Qp rfl (fR (uD B.Jy (ae (bM 4 rfl (Or.inr Q3) rfl rfl) ah))) (ig) (fun _ _ _ _ _=>(aW 0 (show List.Nodup Qp from by decide +kernel) rfl Q3 (Or.inr rfl))) (fun _ _ _ _ _=>(qm (ae (qv 0) (ae (Cf hr (bM 3 rfl (Or.inr Q3) rfl rfl) (vS hr (bM 5 rfl (Or.inr Q3) rfl rfl) (qv 0) (fun _ _=>rfl)) (fun _ _=>rfl) rfl) ah)))) rfl rfl (by decide)) ah)) dD.nd rfl Q3)
  (af (bJ (kX (qv 3)) (aq (br (qm (ae aj (ae aj (ae pR (ae (qv 5) ah))))))) aY)
  (aq (br (qm (ae (w_add (bj (w_fld gJ (fi O) (qv 0)) (qv 3) (fun _ _=>rfl)) aj) (ae (bj (w_fld gJ (fi O) (qv 0)) (qv 1) (fun _ _=>rfl)) (ae (Cf hr (bM 2 rfl (Or.inr Q3) rfl rfl) (qv 3) (fun _ _=>rfl) rfl) (ae (qv 5) ah)))))))))))
abbrev gP:Stmt:=inClass (top 16) 5
def jc:jj ["self", "numbers"] Qo (ag gP):=by constructor <;> first | rfl | decide +kernel
def dB {m:Me} {f:Addr} {fd:FuncData} (F:GX K "table" "Nodes.table" gP f fd) (hm:Meth K C "table" f) (B:HR mg) (O:HD K mg C D) (aX:∀ m,MpAt P w K mg base 1 ((gX K C D).at m) 0 "numbers_by_node" Qo aC) (cV:∀ m,MpAt P w K mg base 1 ((gX K C D).at m) 0 "row_of" Ql bL) :
  MpAt P w K mg base 2 ((gX K C D).at m) 0 "table" Qo dw:=nQ F hm O.GN (gb (by decide +kernel) (by decide +kernel)) jc rfl rfl (fun _ _ _ _ _ _ us hl=>by obtain ⟨_,rfl⟩:=L2.oq hl;rfl) fun _ _ _ _ _ _ hr =>
  (af (eZ (ny (aX _) hr (by decide) (bM 0 rfl (Or.inr Q3) rfl rfl) rfl) jc.nd rfl (Or.inr rfl))
  (aq (Cs 1 ["node", "self", "numbers"] rfl rfl (Or.inr Q3) rfl rfl (ig) (fun _ _ _ _ _=>(aW 0 (show List.Nodup (["node", "self", "numbers"]:List Str) from by decide +kernel) rfl Q3 (Or.inr rfl))) (fun _ _ _ _ _=>(Bi (cV _) hr (by decide) (bM 1 rfl (Or.inr Q3) rfl rfl) (ae (qv 0) (ae (bM 2 rfl (Or.inr Q3) rfl rfl) ah)) rfl rfl rfl)) rfl rfl (by decide) (fun _=>rfl))))
abbrev fG:Stmt:=inClass (top 18) 1
def lr:jj Qo Qo (ag fG):=by constructor <;> first | rfl | decide +kernel
def cH {f:Addr} {fd:FuncData} (F:GX K "begin" "Machine.begin" fG f fd) (hm:Meth K D "begin" f) (B:HR mg) (O:HD K mg C D) :
  MtAt P w K mg base 1 (gX K C D) 1 "begin" Qo [] bp:=lC F hm O.GK (gb (by decide +kernel) (by decide +kernel)) lr rfl rfl (fun _ _ _ _ _ _ us hl=>by obtain ⟨_,rfl⟩:=L2.oq hl;rfl) fun _ _ _ _ _ _ _ hr =>
  (af (bJ (Eo (cz B.GQ (ae (w_fld gJ (d9 O) (qv 0)) ah)) (u0 B.Jd rfl rfl)) (aq ub) aY)
  (af (pB gJ (fF 4 (d9 O) (bA 0)) (ae (iM (by decide +kernel) (by decide)) ah))
  (af (pB gJ (fF 5 (kF O) (bA 0)) (ae aj ah))
  (aq (br (jC tJ t5 (cz B.GQ (ae (w_fld gJ (d9 O) (qv 0)) ah)) aj))))))
abbrev jL:Stmt:=top 7
def rV:jj ["thing"] ["thing"] (ag jL):=by constructor <;> first | rfl | decide +kernel
def gm {m:Me} {f:Addr} {fd:FuncData} (F:GX K "is_whole" "is_whole" jL f fd) (hm:mg "is_whole" = some (.ref f)) (B:HR mg) (O:HD K mg C D) :
  FnAt P w K mg base 1 "is_whole" ["thing"] ((gX K C D).at m) jG:=jD F hm rV rfl rfl (fun _ _ _ _ _ _ us hl=>by obtain ⟨_,rfl⟩:=L2.oq hl;rfl) fun _ _ _ _ _ _ hr =>
  (aq (br (xJ (w_is .int B.HV B.OC (qv 0)) (ya (Cq (w_is .bool B.HV B.MX (qv 0)))))))
abbrev eX:Stmt:=top 8
def j3:jj Qg Qg (ag eX):=by constructor <;> first | rfl | decide +kernel
def cw {m:Me} {f:Addr} {fd:FuncData} (F:GX K "refuse_no_text" "refuse_no_text" eX f fd) (hm:mg "refuse_no_text" = some (.ref f)) (B:HR mg) (O:HD K mg C D) (gm:∀ m,FnAt P w K mg base 1 "is_whole" ["thing"] ((gX K C D).at m) jG) :
  FnAt P w K mg base 2 "refuse_no_text" Qg ((gX K C D).at m) bw:=jD F hm j3 rfl rfl (fun _ _ _ _ _ _ us hl=>by obtain ⟨_,_,rfl⟩:=L2.dR hl;rfl) fun _ _ _ _ _ _ hr =>
  (aq (bJ (JE.Li (k9 (pq (l9 (dG (gm _) hr (ae (qv 1) ah) (by decide) rfl rfl))) (ll (pq (mU aj (qv 1) (cz B.GQ (ae (qv 0) ah)) (by with_unfolding_all rfl)))))) (aq ub) aY))
abbrev jU:Stmt:=top 9
def r9:jj ["book"] ["book"] (ag jU):=by constructor <;> first | rfl | decide +kernel
def gw {m:Me} {f:Addr} {fd:FuncData} (F:GX K "signs_in" "signs_in" jU f fd) (hm:mg "signs_in" = some (.ref f)) (B:HR mg) (O:HD K mg C D) :
  FnAt P w K mg base 1 "signs_in" ["book"] ((gX K C D).at m) gk:=jD F hm r9 rfl rfl (fun _ _ _ _ _ _ us hl=>by obtain ⟨_,rfl⟩:=L2.oq hl;rfl) fun _ _ _ _ _ _ hr =>
  (aq (br (w_sum B.OA (ae (mr 1 ["text", "book"] rfl (fR (qv 0)) (ig) (fun _ _ _ _ _=>(aW 0 (show List.Nodup (["text", "book"]:List Str) from by decide +kernel) rfl Q3 (Or.inr rfl))) (fun _ _ _ _ _=>(cz B.GQ (ae (qv 0) ah))) rfl rfl (by decide)) ah))))
abbrev gf:Stmt:=inClass (top 18) 2
def lY:jj Qn Qn (ag gf):=by constructor <;> first | rfl | decide +kernel
def cR {f:Addr} {fd:FuncData} (F:GX K "grow" "Machine.grow" gf f fd) (hm:Meth K D "grow" f) (B:HR mg) (O:HD K mg C D) (bQ:MtAt P w K mg base 4 (gX K C D) 0 "head_grown" Qj [false,false] aL) (cw:∀ m,FnAt P w K mg base 2 "refuse_no_text" Qg ((gX K C D).at m) bw) (gw:∀ m,FnAt P w K mg base 1 "signs_in" ["book"] ((gX K C D).at m) gk) :
  MtAt P w K mg base 5 (gX K C D) 1 "grow" Qn [false,false] bh:=lC F hm O.GK (gb (by decide +kernel) (by decide +kernel)) lY rfl rfl (fun _ _ _ _ _ _ us hl=>by obtain ⟨_,_,_,rfl⟩:=L2.pN hl;rfl) fun _ _ _ _ _ _ _ hr =>
  (af (CB (dG (cw _) hr (ae (w_fld gJ (d9 O) (qv 0)) (ae (qv 1) ah)) (by decide) rfl rfl) rfl)
  (af (bJ (yW (w_add (dG (gw _) hr (ae (w_fld gJ (d9 O) (qv 0)) ah) (by decide) rfl rfl) (cz B.GQ (ae (qv 2) ah))) (u0 B.Je rfl rfl)) (aq ub) aY)
  (af (pU gJ hr (fF 5 (kF O) (bA 0)) (qv 1) (iB gJ bQ.at hr (by decide) (fF 6 (nJ O) (bA 0)) (ae (bj (w_fld gJ (kF O) (qv 0)) (qv 1) (fun _ _=>rfl)) (ae (qv 2) ah))) (fun _=>rfl) rfl rfl rfl)
  (aq (jh gJ hr (fF 4 (d9 O) (bA 0)) (qv 1) (w_add (bj (w_fld gJ (d9 O) (qv 0)) (qv 1) (fun _ _=>rfl)) (qv 2)))))))
abbrev bO:Stmt:=inClass (top 18) 0
def fN:jj ["self", "book", "text"] ["self", "book"] (ag bO):=by constructor <;> first | rfl | decide +kernel
def bP {f:Addr} {fd:FuncData} (F:Km K "__init__" "Machine.__init__" bO f fd) (hm:Mk K D f) (B:HR mg) (O:HD K mg C D) (cH:MtAt P w K mg base 1 (gX K C D) 1 "begin" Qo [] bp) (cR:MtAt P w K mg base 5 (gX K C D) 1 "grow" Qn [false,false] bh) (cA:InAt P w K mg base 2 (gX K C D) 0 0 "Nodes" Qo dc) :
  InAt P w K mg base 6 (gX K C D) 1 1 "Machine" ["self", "book"] aS:=A6 F hm O.JI fN rfl rfl (fun _ _ _ _ _ _ _ _ _ _ us X ho hs hl=>by obtain ⟨_,_,rfl⟩:=L2.dR hl;exact PySem.W.binds_K X rfl ho hs rfl rfl) fun _ _ _ _ _ _ _ hr =>
  (af (kZ 0 4 gJ (d9 O) (cy ah))
  (af (kZ 0 5 gJ (kF O) (cy ah))
  (af (kZ 0 6 gJ (nJ O) (zW cA.at hr (by decide) rfl rfl))
  (aq (bJ (kG (qv 1)) (aq (d5 Z1 rfl (fR (qv 1)) (aW 2 fN.nd rfl Q3 Q3)
  (aq (rh (DC cR.at hr (by decide) rfl Q3 rfl rfl (zI gJ cH.at hr (by decide) (bA 0) rfl) (ae (qv 2) ah) rfl rfl rfl) rfl)))) aY)))))
abbrev fZ:Stmt:=inClass (top 18) 3
def lV:jj Qo Qo (ag fZ):=by constructor <;> first | rfl | decide +kernel
def iV {m:Me} {f:Addr} {fd:FuncData} (F:GX K "book" "Machine.book" fZ f fd) (hm:Meth K D "book" f) (B:HR mg) (O:HD K mg C D) :
  MpAt P w K mg base 1 ((gX K C D).at m) 1 "book" Qo mY:=nQ F hm O.GK (gb (by decide +kernel) (by decide +kernel)) lV rfl rfl (fun _ _ _ _ _ _ us hl=>by obtain ⟨_,rfl⟩:=L2.oq hl;rfl) fun _ _ _ _ _ _ hr =>
  (aq (br (BD B.MW (ae (w_fld gJ (d9 O) (qv 0)) ah))))
abbrev fC:Stmt:=inClass (top 18) 4
def lF:jj Qo Qo (ag fC):=by constructor <;> first | rfl | decide +kernel
def cI {m:Me} {f:Addr} {fd:FuncData} (F:GX K "table" "Machine.table" fC f fd) (hm:Meth K D "table" f) (B:HR mg) (O:HD K mg C D) (dB:∀ m,MpAt P w K mg base 2 ((gX K C D).at m) 0 "table" Qo dw) :
  MpAt P w K mg base 3 ((gX K C D).at m) 1 "table" Qo bX:=nQ F hm O.GK (gb (by decide +kernel) (by decide +kernel)) lF rfl rfl (fun _ _ _ _ _ _ us hl=>by obtain ⟨_,rfl⟩:=L2.oq hl;rfl) fun _ _ _ _ _ _ hr =>
  (aq (br (ny (dB _) hr (by decide) (w_fld gJ (nJ O) (qv 0)) rfl)))
abbrev nq:Stmt:=top 10
def g9:jj ["book", "word", "found", "number", "text", "ends"] ["book", "word"] (ag nq):=by constructor <;> first | rfl | decide +kernel
def hV {m:Me} {f:Addr} {fd:FuncData} (F:GX K "places" "places" nq f fd) (hm:mg "places" = some (.ref f)) (B:HR mg) (O:HD K mg C D) :
  FnAt P w K mg base 1 "places" ["book", "word"] ((gX K C D).at m) hZ:=jD F hm g9 rfl rfl (fun _ _ _ _ _ _ us hl=>by obtain ⟨_,_,rfl⟩:=L2.dR hl;rfl) fun _ _ _ _ _ _ hr =>
  (af (eZ (cy ah) g9.nd rfl Q3)
  (af (d5 Z1 rfl (sG (qv 0) rfl B.Ic) (uS rfl (jm (aW 3 g9.nd rfl (Or.inr rfl) Q3) (jm (aW 4 g9.nd rfl (Or.inr rfl) Q3) sD)))
  (af (tU 1 Qh (fun _ _ _ h=>Ah h) rfl (gn (w_add (cz B.GQ (ae (bM 4 rfl (Or.inr Q3) rfl rfl) ah)) aj) rfl B.Hc) (ig) (fun _ _ _ _ _=>(aW 0 (show List.Nodup Qh from by decide +kernel) rfl Q3 (Or.inr rfl))) (fun _ _ _ _ _=>(l9 (Dz (kI (bM 5 rfl (Or.inr Q3) rfl rfl) rX (ib (qv 0))) (ae (bM 2 rfl (Or.inr Q3) rfl rfl) ah)))) (fun _ _ _ _ _=>(qv 0)) g9.nd rfl Q3 rfl rfl (by decide))
  (aq (zk 2 (ae (mr 1 Qh rfl (fR (qv 5)) (ig) (fun _ _ _ _ _=>(aW 0 (show List.Nodup Qh from by decide +kernel) rfl Q3 (Or.inr rfl))) (fun _ _ _ _ _=>(qm (ae (bM 4 rfl (Or.inr Q3) rfl rfl) (ae (qv 0) ah)))) rfl rfl (by decide)) ah) rfl rfl Q3 rfl rfl))))
  (aq (cJ 2 rfl (Or.inl rfl) rfl rfl))))
abbrev ug:Stmt:=top 12
def ma:jj ["table", "word", "stands", "sign", "ways"] Qq (ag ug):=by constructor <;> first | rfl | decide +kernel
def mO {m:Me} {f:Addr} {fd:FuncData} (F:GX K "walk" "walk" ug f fd) (hm:mg "walk" = some (.ref f)) (B:HR mg) (O:HD K mg C D) :
  FnAt P w K mg base 1 "walk" Qq ((gX K C D).at m) k8:=jD F hm ma rfl rfl (fun _ _ _ _ _ _ us hl=>by obtain ⟨_,_,rfl⟩:=L2.dR hl;rfl) fun _ _ _ _ _ _ hr =>
  (af (eZ (cy (ae aj ah)) ma.nd rfl Q3)
  (af (d5 Z1 rfl (fR (qv 1)) (aW 3 ma.nd rfl Q3 Q3)
  (af (aB (A2 B.Le (ae (bj (bj (qv 0) (bj (qv 2) yO (fun _ _=>rfl)) (fun _ _=>rfl)) aj (fun _ _=>rfl)) ah)) ma.nd rfl Q3)
  (af (bJ (tQ hr (qv 3) (qv 4) (by with_unfolding_all rfl)) (aq (cJ 2 rfl (Or.inl rfl) rfl rfl)) aY)
  (aq (iL 2 (ae (vS hr (qv 4) (qv 3) (fun _ _=>rfl)) ah) rfl rfl Q3 rfl rfl)))))
  (aq (cJ 2 rfl (Or.inl rfl) rfl rfl))))
abbrev nL:Stmt:=top 14
def h9:jj ["table", "word", "found", "done", "long"] Qq (ag nL):=by constructor <;> first | rfl | decide +kernel
def dy {m:Me} {f:Addr} {fd:FuncData} (F:GX K "pieces" "pieces" nL f fd) (hm:mg "pieces" = some (.ref f)) (B:HR mg) (O:HD K mg C D) (mO:∀ m,FnAt P w K mg base 1 "walk" Qq ((gX K C D).at m) k8) :
  FnAt P w K mg base 2 "pieces" Qq ((gX K C D).at m) dr:=jD F hm h9 rfl rfl (fun _ _ _ _ _ _ us hl=>by obtain ⟨_,_,rfl⟩:=L2.dR hl;rfl) fun _ _ _ _ _ _ hr =>
  (af (eZ (cy ah) h9.nd rfl Q3)
  (af (aB aj h9.nd rfl Q3)
  (af (jt Z1 (rP (qv 3) (cz B.GQ (ae (qv 1) ah)))
  (af (aB (jC tJ t5 (cz B.GQ (ae (dG (mO _) hr (ae (qv 0) (ae (kI (qv 1) (ib (qv 3)) rX) ah)) (by decide) rfl rfl) ah)) aj) h9.nd rfl Q3)
  (af (bJ (nN hr (qv 4) aj) (aq (br pR)) aY)
  (af (iL 2 (ae (kI (qv 1) (ib (qv 3)) (ib (w_add (qv 3) (qv 4)))) ah) rfl rfl Q3 rfl rfl)
  (aq (aB (w_add (qv 3) (qv 4)) h9.nd rfl Q3))))))
  (aq (cJ 2 rfl (Or.inl rfl) rfl rfl)))))
abbrev iz:Stmt:=top 20
def bB:jj ["_law_script", "_law_k", "_law_cell", "_law_left", "_law_number", "_law_turn", "_law_more"] Q8 (ag iz):=by constructor <;> first | rfl | decide +kernel
def de {m:Me} {f:Addr} {fd:FuncData} (F:GX K "_law_spring" "_law_spring" iz f fd) (hm:mg "_law_spring" = some (.ref f)) (B:HR mg) (O:HD K mg C D) :
  FnAt P w K mg base 1 "_law_spring" Q8 ((gX K C D).at m) b9:=jD F hm bB rfl rfl (fun _ _ _ _ _ _ us hl=>by obtain ⟨_,_,rfl⟩:=L2.dR hl;rfl) fun _ _ _ _ _ _ hr =>
  (af (aB (w_add (w_mul (qv 1) aj) aj) bB.nd rfl Q3)
  (af (bJ (yW (cz B.GQ (ae (qv 0) ah)) aj) (aq (aB (w_add (bj (qv 0) (w_mod (qv 1) (cz B.GQ (ae (qv 0) ah))) (fun _ _=>rfl)) (w_mul (jC l7 l6 (qv 1) (cz B.GQ (ae (qv 0) ah))) aj)) bB.nd rfl Q3)) aY)
  (af (bJ (nN hr (w_mod (qv 2) aj) aj) (aq (br (cy (ae (jC l7 l6 (qv 2) aj) ah)))) aY)
  (af (aB (w_mod (w_add (jC l7 l6 (qv 2) aj) (w_mul aj (qv 1))) aj) bB.nd rfl Q3)
  (af (aB aj bB.nd rfl Q3)
  (af (d5 Z1 rfl (gn aj rfl B.Hc) (aW 5 bB.nd rfl Q3 Q3)
  (af (aB (w_mod (w_add (w_add (w_mul (qv 3) aj) (w_mul aj (qv 5))) aj) aj) bB.nd rfl Q3)
  (af (aB (w_mod (w_mul (qv 3) (qv 3)) aj) bB.nd rfl Q3)
  (aq (aB (w_add (w_mul (qv 4) aj) (w_mod (w_mul (qv 6) (w_add (w_mod (qv 6) aj) aj)) aj)) bB.nd rfl Q3)))))
  (aq (br (cy (ae (qv 4) ah))))))))))
abbrev j0:Stmt:=top 21
def lG:jj ["_law_spring_here", "_law_most", "_law_digit"] Qa (ag j0):=by constructor <;> first | rfl | decide +kernel
def aw {m:Me} {f:Addr} {fd:FuncData} (F:GX K "_law_next" "_law_next" j0 f fd) (hm:mg "_law_next" = some (.ref f)) (B:HR mg) (O:HD K mg C D) :
  IoAt P w K mg base 1 "_law_next" Qa ((gX K C D).at m) [false] ar:=mW F hm lG rfl rfl (fun _ _ _ _ _ _ us hl=>by obtain ⟨_,_,rfl⟩:=L2.dR hl;rfl) fun _ _ _ _ _ _ _ hr =>
  (af (aB (w_mod (bj (Ee (qv 0)) aj (fun _ _=>rfl)) (qv 1)) lG.nd rfl Q3)
  (af (jh gJ hr (EJ (bA 0)) aj (jC l7 l6 (bj (Ee (qv 0)) aj (fun _ _=>rfl)) (qv 1)))
  (aq (cJ 2 rfl (Or.inl rfl) rfl rfl))))
abbrev jI:Stmt:=top 22
def rN:jj Qb Qb (ag jI):=by constructor <;> first | rfl | decide +kernel
def cE {m:Me} {f:Addr} {fd:FuncData} (F:GX K "_law_text" "_law_text" jI f fd) (hm:mg "_law_text" = some (.ref f)) (B:HR mg) (O:HD K mg C D) (aw:∀ m,IoAt P w K mg base 1 "_law_next" Qa ((gX K C D).at m) [false] ar) :
  IoAt P w K mg base 2 "_law_text" Qb ((gX K C D).at m) [false,false] cZ:=mW F hm rN rfl rfl (fun _ _ _ _ _ _ us hl=>by obtain ⟨_,_,_,rfl⟩:=L2.pN hl;rfl) fun _ _ _ _ _ _ _ hr =>
  (aq (vk (Bw (iM (by decide +kernel) (by decide)) (yc Q7 rfl rfl B.Hc (bq (aw _) hr (bU 0 true rfl (Or.inr Q3) rfl rfl (bE (ax (w_add (qv 2) aj)) bg))) (fun _ _ _ _ _=>L2.pQ (show List.Nodup Q7 from by decide +kernel) rfl Q3 (Or.inr rfl)) (fun _ _ _ _ _=>(BN (ax (bM 2 rfl (Or.inr Q3) rfl rfl)) (bq (aw _) hr (bU 1 true rfl (Or.inr Q3) rfl rfl (bE (ax (cz B.GQ (ae (bM 2 rfl (Or.inr Q3) rfl rfl) ah))) bg))) (fun _ _=>rfl) rfl)) rfl rfl rfl rfl (by decide) (fun _=>rfl)) rfl rfl rfl rfl rfl rfl)))
abbrev ja:Stmt:=top 23
def dZ:jj ["_law_spring_here", "_law_letters", "_law_few", "_law_start", "_law_step"] Qd (ag ja):=by constructor <;> first | rfl | decide +kernel
def fu {m:Me} {f:Addr} {fd:FuncData} (F:GX K "_law_signs" "_law_signs" ja f fd) (hm:mg "_law_signs" = some (.ref f)) (B:HR mg) (O:HD K mg C D) (aw:∀ m,IoAt P w K mg base 1 "_law_next" Qa ((gX K C D).at m) [false] ar) :
  IoAt P w K mg base 2 "_law_signs" Qd ((gX K C D).at m) [] gE:=mW F hm dZ rfl rfl (fun _ _ _ _ _ _ us hl=>by obtain ⟨_,rfl⟩:=L2.oq hl;rfl) fun _ _ _ _ _ _ _ hr =>
  (af (aB (iM (by decide +kernel) (by decide)) dZ.nd rfl (Or.inr rfl))
  (af (cf (p8 (cy (ae aj (ae aj (ae aj (ae aj (ae aj (ae aj (ae aj (ae aj ah))))))))) (bq (aw _) hr (bU 0 true rfl (Or.inl rfl) rfl rfl (bE (ax aj) bg)))) dZ.nd rfl Q3)
  (af (cf (bq (aw _) hr (bU 0 true rfl (Or.inl rfl) rfl rfl (bE (ax aj) bg))) dZ.nd rfl (Or.inr rfl))
  (af (cf (p8 (cy (ae aj (ae aj (ae aj (ae aj ah))))) (bq (aw _) hr (bU 0 true rfl (Or.inl rfl) rfl rfl (bE (ax aj) bg)))) dZ.nd rfl (Or.inr rfl))
  (aq (br (uE (iM (by decide +kernel) (by decide)) (ae (mr 1 Q6 rfl (gn (qv 2) rfl B.Hc) (ig) (fun _ _ _ _ _=>(aW 0 (show List.Nodup Q6 from by decide +kernel) rfl Q3 (Or.inr rfl))) (fun _ _ _ _ _=>(bj (bM 2 rfl (Or.inr Q3) rfl rfl) (w_mod (w_add (bM 4 rfl (Or.inr Q3) rfl rfl) (w_mul (bM 5 rfl (Or.inr Q3) rfl rfl) (qv 0))) aj) (fun _ _=>rfl))) rfl rfl (by decide)) ah))))))))
abbrev jJ:Stmt:=top 24
def cW:jj ["_law_spring_here", "_law_signs_here", "_law_many", "_law_book_here", "_law_k", "_law_text_here", "_law_old"] Qc (ag jJ):=by constructor <;> first | rfl | decide +kernel
def gj {m:Me} {f:Addr} {fd:FuncData} (F:GX K "_law_book" "_law_book" jJ f fd) (hm:mg "_law_book" = some (.ref f)) (B:HR mg) (O:HD K mg C D) (aw:∀ m,IoAt P w K mg base 1 "_law_next" Qa ((gX K C D).at m) [false] ar) (cE:∀ m,IoAt P w K mg base 2 "_law_text" Qb ((gX K C D).at m) [false,false] cZ) :
  IoAt P w K mg base 3 "_law_book" Qc ((gX K C D).at m) [false] ip:=mW F hm cW rfl rfl (fun _ _ _ _ _ _ us hl=>by obtain ⟨_,_,rfl⟩:=L2.dR hl;rfl) fun _ _ _ _ _ _ _ hr =>
  (af (cf (p8 (cy (ae aj (ae aj (ae aj (ae aj (ae aj (ae aj (ae aj (ae aj ah))))))))) (bq (aw _) hr (bU 0 true rfl (Or.inl rfl) rfl rfl (bE (ax aj) bg)))) cW.nd rfl Q3)
  (af (eZ (cy ah) cW.nd rfl Q3)
  (af (d5 Z1 rfl (gn (qv 2) rfl B.Hc) (aW 4 cW.nd rfl Q3 Q3)
  (af (cf (bq (cE _) hr (bU 0 true rfl (Or.inl rfl) rfl rfl (bE (ax (qv 1)) (bE (p8 (cy (ae aj (ae aj (ae aj (ae aj ah))))) (bq (aw _) hr (bU 0 true rfl (Or.inl rfl) rfl rfl (bE (ax aj) bg)))) bg)))) cW.nd rfl Q3)
  (af (yK (uP (yW (qv 4) aj) (vB (tm hr.units) zq (bq (aw _) hr (bU 0 true rfl (Or.inl rfl) rfl rfl (bE (ax aj) bg))) (ax aj) (iX _))) (af (cf (x8 3 rfl (Or.inl rfl) rfl rfl (bq (aw _) hr (bU 0 true rfl (Or.inl rfl) rfl rfl (bE (ax (qv 4)) bg))) (fun _ _=>rfl) rfl) cW.nd rfl Q3)
  (aq (cf (uo (iw (uo (ax (qv 6)) (iQ (bq (aw _) hr (bU 0 true rfl (Or.inl rfl) rfl rfl (bE (ax (w_add (cz B.GQ (ae (qv 6) ah)) aj)) bg)))) nI) (ax (qv 5))) nI (iQ (ax aj))) cW.nd rfl Q3))) aY)
  (aq (iL 3 (ae (qv 5) ah) rfl rfl Q3 rfl rfl)))))
  (af (yK (uP (mK aj (qv 2) aj (by with_unfolding_all rfl)) (vB (tm hr.units) zq (bq (aw _) hr (bU 0 true rfl (Or.inl rfl) rfl rfl (bE (ax aj) bg))) (ax aj) (iX _))) (aq (pU gJ hr (bA 3) aj (B4 Ab Ag (iw (iw (ax (bj (qv 3) aj (fun _ _=>rfl))) (bq (cE _) hr (bU 0 true rfl (Or.inl rfl) rfl rfl (bE (ax (qv 1)) (bE (ax aj) bg))))) (ax (bj (qv 3) yO (fun _ _=>rfl)))) (iw (ax aj) (bq (aw _) hr (bU 0 true rfl (Or.inl rfl) rfl rfl (bE (ax aj) bg))))) (fun _=>rfl) rfl rfl rfl)) aY)
  (aq (cJ 3 rfl (Or.inl rfl) rfl rfl))))))
abbrev jP:Stmt:=top 25
def b6:jj ["_law_spring_here", "_law_book_here", "_law_signs_here", "_law_word_here", "_law_turn", "_law_way", "_law_text_here", "_law_start"] Q9 (ag jP):=by constructor <;> first | rfl | decide +kernel
def gh {m:Me} {f:Addr} {fd:FuncData} (F:GX K "_law_word" "_law_word" jP f fd) (hm:mg "_law_word" = some (.ref f)) (B:HR mg) (O:HD K mg C D) (aw:∀ m,IoAt P w K mg base 1 "_law_next" Qa ((gX K C D).at m) [false] ar) (cE:∀ m,IoAt P w K mg base 2 "_law_text" Qb ((gX K C D).at m) [false,false] cZ) :
  IoAt P w K mg base 3 "_law_word" Q9 ((gX K C D).at m) [false,false] eI:=mW F hm b6 rfl rfl (fun _ _ _ _ _ _ us hl=>by obtain ⟨_,_,_,rfl⟩:=L2.pN hl;rfl) fun _ _ _ _ _ _ _ hr =>
  (af (aB (iM (by decide +kernel) (by decide)) b6.nd rfl Q3)
  (af (DZ Z1 rfl rfl B.Hc (iw (ax aj) (bq (aw _) hr (bU 0 true rfl (Or.inl rfl) rfl rfl (bE (ax aj) bg)))) (aW 4 b6.nd rfl Q3 Q3)
  (af (cf (bq (aw _) hr (bU 0 true rfl (Or.inl rfl) rfl rfl (bE (ax aj) bg))) b6.nd rfl Q3)
  (aq (bJ (rP (qv 5) aj) (aq (cf (iw (ax (qv 3)) (bq (cE _) hr (bU 0 true rfl (Or.inl rfl) rfl rfl (bE (ax (qv 2)) (bE (ax aj) bg))))) b6.nd rfl Q3)) (aq (bJ (nN hr (qv 5) aj) (aq (cf (iw (ax (qv 3)) (BN (ax (iM (by decide +kernel) (by decide))) (bq (aw _) hr (bU 0 true rfl (Or.inl rfl) rfl rfl (bE (ax aj) bg))) (fun _ _=>rfl) rfl)) b6.nd rfl Q3)) (aq (bJ (uM hr (qv 1) (cy ah)) (af (cf (x8 1 rfl (Or.inl rfl) rfl rfl (bq (aw _) hr (bU 0 true rfl (Or.inl rfl) rfl rfl (bE (ax (cz B.GQ (ae (qv 1) ah))) bg))) (fun _ _=>rfl) rfl) b6.nd rfl Q3)
  (af (cf (bq (aw _) hr (bU 0 true rfl (Or.inl rfl) rfl rfl (bE (ax (w_add (cz B.GQ (ae (qv 6) ah)) aj)) bg))) b6.nd rfl Q3)
  (aq (cf (iw (ax (qv 3)) (uo (ax (qv 6)) (iQ (ax (qv 7))) (iQ (iw (ax (w_add (qv 7) aj)) (bq (aw _) hr (bU 0 true rfl (Or.inl rfl) rfl rfl (bE (ax aj) bg))))))) b6.nd rfl Q3)))) aY))))))) rfl rfl (fun _=>rfl))
  (aq (cJ 3 rfl (Or.inl rfl) rfl rfl))))
abbrev gM:Stmt:=top 26
def nr:jj Q5 Q5 (ag gM):=by constructor <;> first | rfl | decide +kernel
def dv {m:Me} {f:Addr} {fd:FuncData} (F:GX K "_law_is_part" "_law_is_part" gM f fd) (hm:mg "_law_is_part" = some (.ref f)) (B:HR mg) (O:HD K mg C D) :
  FnAt P w K mg base 1 "_law_is_part" Q5 ((gX K C D).at m) dq:=jD F hm nr rfl rfl (fun _ _ _ _ _ _ us hl=>by obtain ⟨_,_,rfl⟩:=L2.dR hl;rfl) fun _ _ _ _ _ _ hr =>
  (aq (br (Gf (cz B.GQ (ae (wg 1 Qe rfl (fR (qv 0)) (ig) (fun _ _ _ _ _=>(aW 0 (show List.Nodup Qe from by decide +kernel) rfl Q3 (Or.inr rfl))) (fun _ _ _ _ _=>(gL DS D3 vZ (bM 2 rfl (Or.inr Q3) rfl rfl) (qv 0) rfl)) (fun _ _ _ _ _=>(qv 0)) rfl rfl (by decide)) ah)) aj)))
abbrev jb:Stmt:=top 27
def da:jj ["_law_book_here", "_law_word_here", "_law_least_here", "_law_end", "_law_best", "_law_start"] Q5 (ag jb):=by constructor <;> first | rfl | decide +kernel
def fA {m:Me} {f:Addr} {fd:FuncData} (F:GX K "_law_least" "_law_least" jb f fd) (hm:mg "_law_least" = some (.ref f)) (B:HR mg) (O:HD K mg C D) (dv:∀ m,FnAt P w K mg base 1 "_law_is_part" Q5 ((gX K C D).at m) dq) :
  FnAt P w K mg base 2 "_law_least" Q5 ((gX K C D).at m) gB:=jD F hm da rfl rfl (fun _ _ _ _ _ _ us hl=>by obtain ⟨_,_,rfl⟩:=L2.dR hl;rfl) fun _ _ _ _ _ _ hr =>
  (af (eZ (cy (ae aj ah)) da.nd rfl Q3)
  (af (d5 Z1 rfl (ue aj (w_add (cz B.GQ (ae (qv 1) ah)) aj) rfl B.Hc) (aW 3 da.nd rfl Q3 Q3)
  (af (aB pR da.nd rfl Q3)
  (af (d5 Z1 rfl (gn (qv 3) rfl B.Hc) (aW 5 da.nd rfl Q3 Q3)
  (aq (bJ (JE.Li (mn (kG (bj (qv 2) (qv 5) (fun _ _=>rfl))) (ky (l9 (dG (dv _) hr (ae (qv 0) (ae (kI (qv 1) (ib (qv 5)) (ib (qv 3))) ah)) (by decide) rfl rfl))))) (aq (bJ (JE.Li (k9 (kX (qv 4)) (ll (rP (w_add (bj (qv 2) (qv 5) (fun _ _=>rfl)) aj) (qv 4))))) (aq (aB (w_add (bj (qv 2) (qv 5) (fun _ _=>rfl)) aj) da.nd rfl Q3)) aY)) aY)))
  (aq (iL 2 (ae (qv 4) ah) rfl rfl Q3 rfl rfl)))))
  (kE 2 (aq (br (bj (qv 2) yO (fun _ _=>rfl)))))))
abbrev i8:Stmt:=top 28
def d7:jj ["_law_book_here", "_law_table", "_law_word_here", "_law_got", "_law_least_here", "_law_k", "_law_part"] Q4 (ag i8):=by constructor <;> first | rfl | decide +kernel
def fz {m:Me} {f:Addr} {fd:FuncData} (F:GX K "_law_right" "_law_right" i8 f fd) (hm:mg "_law_right" = some (.ref f)) (B:HR mg) (O:HD K mg C D) (fA:∀ m,FnAt P w K mg base 2 "_law_least" Q5 ((gX K C D).at m) gB) (dy:∀ m,FnAt P w K mg base 2 "pieces" Qq ((gX K C D).at m) dr) (hV:∀ m,FnAt P w K mg base 1 "places" ["book", "word"] ((gX K C D).at m) hZ) :
  FnAt P w K mg base 3 "_law_right" Q4 ((gX K C D).at m) gF:=jD F hm d7 rfl rfl (fun _ _ _ _ _ _ us hl=>by obtain ⟨_,_,_,rfl⟩:=L2.pN hl;rfl) fun _ _ _ _ _ _ hr =>
  (af (aB (dG (dy _) hr (ae (qv 1) (ae (qv 2) ah)) (by decide) rfl rfl) d7.nd rfl Q3)
  (af (aB (dG (fA _) hr (ae (qv 0) (ae (qv 2) ah)) (by decide) rfl rfl) d7.nd rfl Q3)
  (af (bJ (JE.Li (k9 (kX (qv 3)) (ll (kX (qv 4))))) (aq (br (xJ (sU (qv 3)) (ya (sU (qv 4)))))) aY)
  (af (bJ (JE.Li (k9 (uM hr (uE (iM (by decide +kernel) (by decide)) (ae (qv 3) ah)) (qv 2)) (ll (uM hr (cz B.GQ (ae (qv 3) ah)) (qv 4))))) (aq (br rJ)) aY)
  (af (d5 Z1 rfl (sG (qv 3) rfl B.Ic) (uS rfl (jm (aW 5 d7.nd rfl Q3 Q3) (jm (aW 6 d7.nd rfl Q3 Q3) sD)))
  (af (bJ (JE.Li (k9 (nN hr (qv 6) (iM (by decide +kernel) (by decide))) (ll (nN hr (dG (hV _) hr (ae (qv 0) (ae (qv 6) ah)) (by decide) rfl rfl) (cy ah))))) (aq (br rJ)) aY)
  (aq (bJ (JE.Li (mn (rP (w_add (qv 5) aj) (cz B.GQ (ae (qv 3) ah))) (ky (uM hr (dG (hV _) hr (ae (qv 0) (ae (w_add (qv 6) (bj (bj (qv 3) (w_add (qv 5) aj) (fun _ _=>rfl)) aj (fun _ _=>rfl))) ah)) (by decide) rfl rfl) (cy ah))))) (aq (br rJ)) aY))))
  (aq (br rJ)))))))
abbrev kJ:Stmt:=top 29
def gu:jj ["_law_script", "_law_spring_here", "_law_signs_here", "_law_book_here", "_law_table", "_law_more", "_law_asked", "_law_word_here", "_law_one", "_law_other", "_law_both"] ["_law_script"] (ag kJ):=by constructor <;> first | rfl | decide +kernel
def DQ {m:Me} {f:Addr} {fd:FuncData} (F:GX K "law" "law" kJ f fd) (B:HR mg) (O:HD K mg C D) (bP:InAt P w K mg base 6 (gX K C D) 1 1 "Machine" ["self", "book"] aS) (cI:∀ m,MpAt P w K mg base 3 ((gX K C D).at m) 1 "table" Qo bX) (gj:∀ m,IoAt P w K mg base 3 "_law_book" Qc ((gX K C D).at m) [false] ip) (fz:∀ m,FnAt P w K mg base 3 "_law_right" Q4 ((gX K C D).at m) gF) (fu:∀ m,IoAt P w K mg base 2 "_law_signs" Qd ((gX K C D).at m) [] gE) (de:∀ m,FnAt P w K mg base 1 "_law_spring" Q8 ((gX K C D).at m) b9) (gh:∀ m,IoAt P w K mg base 3 "_law_word" Q9 ((gX K C D).at m) [false,false] eI) (dy:∀ m,FnAt P w K mg base 2 "pieces" Qq ((gX K C D).at m) dr) :
  FnOk P w K mg base Hq 8 f fd ["_law_script"] (JB ((gX K C D).at m) yx):=Rx F gu rfl rfl fun _ _ _ _ _ _ hr =>
  (af (eZ (dG (de _) hr (ae (qv 0) (ae aj ah)) (by decide) rfl rfl) gu.nd rfl Q3)
  (af (cf (bq (fu _) hr (bU 1 false rfl (Or.inl rfl) rfl rfl bg)) gu.nd rfl (Or.inr rfl))
  (af (zp (Bp (gj _) hr (bU 1 false rfl (Or.inl rfl) rfl rfl (bE (ax (bM 2 rfl (Or.inr Q3) rfl rfl)) bg)) (by decide) rfl rfl rfl rfl) gu.nd rfl (Or.inr rfl) rfl Q3)
  (kE 1 (af (aB (ny (cI _) hr (by decide) (Da bP.at hr (by decide) (ae (bM 3 rfl (Or.inr Q3) rfl rfl) ah) Ek rfl rfl rfl rfl) rfl) gu.nd rfl Q3)
  (af (eZ (dG (de _) hr (ae (qv 0) (ae aj ah)) (by decide) rfl rfl) gu.nd rfl (Or.inr rfl))
  (af (AI Qf rfl rfl B.Hc (ax aj) (fun _ _ _ _ _=>L2.pQ (show List.Nodup Qf from by decide +kernel) rfl Q3 (Or.inr rfl)) (fun _ _ _ _ _=>(uo (AG (gh _) hr (C3 6 false rfl (Or.inr Q3) rfl rfl (xY (bM 4 rfl (Or.inr Q3) rfl rfl) (xY (bM 3 rfl (Or.inr Q3) rfl rfl) zO rfl) rfl) rfl) (by decide) rfl rfl rfl rfl) nI (iQ (ax aj)))) rfl rfl rfl rfl (by decide) (fun _=>rfl) gu.nd rfl Q3 rfl Q3)
  (kE 6 (kE 5 (af (d5 Z1 rfl (fR (qv 6)) (aW 7 gu.nd rfl Q3 Q3)
  (aq (bJ (pq (l9 (dG (fz _) hr (ae (bM 3 rfl (Or.inr Q3) rfl rfl) (ae (qv 4) (ae (qv 7) ah))) (by decide) rfl rfl))) (aq (br rJ)) aY)))
  (af (aB (dG (dy _) hr (ae (qv 4) (ae (bj (qv 6) aj (fun _ _=>rfl)) ah)) (by decide) rfl rfl) gu.nd rfl Q3)
  (af (aB (dG (dy _) hr (ae (qv 4) (ae (bj (qv 6) aj (fun _ _=>rfl)) ah)) (by decide) rfl rfl) gu.nd rfl Q3)
  (af (aB (dG (dy _) hr (ae (qv 4) (ae (w_add (bj (qv 6) aj (fun _ _=>rfl)) (bj (qv 6) aj (fun _ _=>rfl))) ah)) (by decide) rfl rfl) gu.nd rfl Q3)
  (af (bJ (JE.Li (k9 (kX (qv 8)) (ll (kX (qv 9))))) (aq (br (sU (qv 10)))) aY)
  (aq (br (oy (DT B.OB (ae (cz B.GQ (ae (qv 8) ah)) (ae (cz B.GQ (ae (qv 9) ah)) ah))) (cz B.GQ (ae (qv 10) ah)) (w_add (cz B.GQ (ae (qv 8) ah)) (cz B.GQ (ae (qv 9) ah))) (by with_unfolding_all rfl))))))))))))))))))
end
abbrev gN (K:Xj) (x:Str) (f:Addr):Prop:=PySem.W.nsIn K mainGlobals x=some (some (.ref f))
abbrev gZ (K:Xj) (x:Str):Prop:=PySem.W.nsIn K mainGlobals x=some none
def all_mk {l:PySem.W.OpenLaw} {w:World} {K:Xj} {h:Heap} {mg:Xe} {fa C D f0 f1 f2 f3 f4 f5 f6 f7 f8 f9 TN TM TL RQ TK TJ TH TF TC TB Tz Tw Tv Tu Tt Ts Tr Tq RP:Addr} (X:K.In h) (G:h.Ns mainGlobals mg) (Vx:mg "law" = some (.ref fa))
  {PZ R0 PY OD:Option Addr} {PD PB:Array (Wq)} {P1 Qy RX PM Ox RY P0 NV Ou NG MV Ov:Value}
  (QS:∀ ns:Wg,ns.length<=63->yx [.Hw ns]=some (.fr,.bl true))
  (a0:Meth K C "new_node" f0) {V9:FuncData} (F0:GX K "new_node" "Nodes.new_node" eU f0 V9)
  (a1:Mk K C f1) {V8:FuncData} (F1:GX K "__init__" "Nodes.__init__" eQ f1 V8)
  (a2:Meth K C "node_just_behind" f2) {V7:FuncData} (F2:GX K "node_just_behind" "Nodes.node_just_behind" cj f2 V7)
  (a3:Meth K C "head_behind" f3) {V6:FuncData} (F3:GX K "head_behind" "Nodes.head_behind" dj f3 V6)
  (a4:Meth K C "head_grown" f4) {V5:FuncData} (F4:GX K "head_grown" "Nodes.head_grown" dJ f4 V5)
  (a5:Meth K C "numbers_by_node" f5) {V4:FuncData} (F5:GX K "numbers_by_node" "Nodes.numbers_by_node" cB f5 V4)
  (a6:Meth K C "row_of" f6) {V3:FuncData} (F6:GX K "row_of" "Nodes.row_of" gr f6 V3)
  (a7:Meth K C "table" f7) {V2:FuncData} (F7:GX K "table" "Nodes.table" gP f7 V2)
  (a8:Meth K D "begin" f8) {V1:FuncData} (F8:GX K "begin" "Machine.begin" fG f8 V1)
  (a9:gN K "is_whole" f9) {V0:FuncData} (F9:GX K "is_whole" "is_whole" jL f9 V0)
  (ZI:gN K "refuse_no_text" TN) {RO:FuncData} (F10:GX K "refuse_no_text" "refuse_no_text" eX TN RO)
  (XN:gN K "signs_in" TM) {RN:FuncData} (F11:GX K "signs_in" "signs_in" jU TM RN)
  (W9:Meth K D "grow" TL) {RM:FuncData} (F12:GX K "grow" "Machine.grow" gf TL RM)
  {T13:Addr} {NK:Obj} {P8:Nat}
  (W8:Mk K D RQ) (UQ:K.lookup RQ=some ⟨P1,PZ,.func (PySem.W.fnOf "__init__" "Machine.__init__" (cG bO) (aR bO) (ag bO) (.ref T13) Qy RX PM R0 Ox RY),PD⟩) (WN:PySem.W.codeIn K Ox "Machine.__init__" = true) (UT:PySem.W.keepIn K (.ref RQ)=true) (Uq:K.lookup T13=some NK) (Uh:NK.data=.seq #[.none] P8)
  (W7:Meth K D "book" TK) {RL:FuncData} (F14:GX K "book" "Machine.book" fZ TK RL)
  (W6:Meth K D "table" TJ) {RK:FuncData} (F15:GX K "table" "Machine.table" fC TJ RK)
  (W5:gN K "places" TH) {RJ:FuncData} (F16:GX K "places" "places" nq TH RJ)
  (W4:gN K "walk" TF) {RI:FuncData} (F17:GX K "walk" "walk" ug TF RI)
  (W3:gN K "pieces" TC) {RH:FuncData} (F18:GX K "pieces" "pieces" nL TC RH)
  (W0:gN K "_law_spring" TB) {RG:FuncData} (F19:GX K "_law_spring" "_law_spring" iz TB RG)
  (WY:gN K "_law_next" Tz) {RF:FuncData} (F20:GX K "_law_next" "_law_next" j0 Tz RF)
  (WX:gN K "_law_text" Tw) {RE:FuncData} (F21:GX K "_law_text" "_law_text" jI Tw RE)
  (WW:gN K "_law_signs" Tv) {RD:FuncData} (F22:GX K "_law_signs" "_law_signs" ja Tv RD)
  (WV:gN K "_law_book" Tu) {RC:FuncData} (F23:GX K "_law_book" "_law_book" jJ Tu RC)
  (WU:gN K "_law_word" Tt) {RB:FuncData} (F24:GX K "_law_word" "_law_word" jP Tt RB)
  (WT:gN K "_law_is_part" Ts) {RA:FuncData} (F25:GX K "_law_is_part" "_law_is_part" gM Ts RA)
  (WR:gN K "_law_least" Tr) {Rz:FuncData} (F26:GX K "_law_least" "_law_least" jb Tr Rz)
  (WQ:gN K "_law_right" Tq) {Ry:FuncData} (F27:GX K "_law_right" "_law_right" i8 Tq Ry)
  (WO:gN K "law" RP) (UO:K.lookup RP=some ⟨P0,PY,.func (PySem.W.fnOf "law" "law" (cG kJ) (aR kJ) (ag kJ) .none NV Ou NG OD MV Ov),PB⟩) (WM:PySem.W.codeIn K MV "law" = true) (US:PySem.W.keepIn K (.ref RP)=true)
  (Mp:gZ K "bool")
  (Mo:gZ K "dict")
  (Ji:gZ K "enumerate")
  (Nu:gZ K "int")
  (IL:gZ K "isinstance")
  (Nt:gZ K "len")
  (Mn:gZ K "list")
  (Nr:gZ K "max")
  (Lv:gZ K "range")
  (KG:gZ K "sorted")
  (Nq:gZ K "sum")
  (Lu:gZ K "tuple")
  {IS:Tok} (IP:PySem.W.nsIn K mainGlobals "MOST_SIGNS" = some (some (.int 120 IS)))
  {IQ:Tok} (IM:PySem.W.nsIn K mainGlobals "MOST_TEXTS" = some (some (.int 8 IQ)))
  (w_Nodes:gN K "Nodes" C) (GN:HZ K C) (Hm:aT K C "longs") (Hn:aT K C "links") (Ht:aT K C "ways") (Hk:aT K C "texts") (Ho:aT K C "heads") (Hl:aT K C "nodes")
  (w_Machine:gN K "Machine" D) (GK:HZ K D) (G7:aT K D "longs") (G8:aT K D "links") (He:aT K D "ways") (G5:aT K D "texts") (G9:aT K D "heads") (G6:aT K D "nodes")
  : ∃ fd:FuncData,(∀ (s:Shared) (v:Value),BindsTo s fd ⟨[v],[]⟩ [("_law_script",v)])/\∀ base:Heap,K.In base->base.Ns mainGlobals mg->FnOk l.prog w K mg base Hq 8 fa fd ["_law_script"] (JB (Of K) xi):=by
 have e:=Vx.symm.trans (ZC X G WO)
 cases e
 have B:HR mg:=⟨Z3 X G Mp,Z3 X G Mo,Z3 X G Ji,Z3 X G Nu,Z3 X G IL,Z3 X G Nt,Z3 X G Mn,Z3 X G Nr,Z3 X G Lv,Z3 X G KG,Z3 X G Nq,Z3 X G Lu,⟨_,ZC X G IP⟩,⟨_,ZC X G IM⟩⟩
 have O:HD K mg C D:=⟨GN,ZC X G w_Nodes,Hm,Hn,Ht,Hk,Ho,Hl,GK,ZC X G w_Machine,G7,G8,He,G5,G9,G6⟩
 refine ⟨PySem.W.fnOf "law" "law" (cG kJ) (aR kJ) (ag kJ) .none NV Ou NG OD MV Ov,fun s v=>.of_eq rfl,fun base _ _=>?_⟩
 have aJ:=aJ l.prog w base F0 a0 B O
 have cA:=cA l.prog w base F1 a1 B O aJ
 have aQ:=aQ l.prog w base F2 a2 B O aJ
 have bF:=bF l.prog w base F3 a3 B O aJ aQ
 have bQ:=bQ l.prog w base F4 a4 B O bF
 have aX:=fun m=>aX (m:=m) l.prog w base F5 a5 B O
 have cV:=fun m=>cV (m:=m) l.prog w base F6 a6 B O
 have dB:=fun m=>dB (m:=m) l.prog w base F7 a7 B O aX cV
 have cH:=cH l.prog w base F8 a8 B O
 have gm:=fun m=>gm (m:=m) l.prog w base F9 (ZC X G a9) B O
 have cw:=fun m=>cw (m:=m) l.prog w base F10 (ZC X G ZI) B O gm
 have gw:=fun m=>gw (m:=m) l.prog w base F11 (ZC X G XN) B O
 have cR:=cR l.prog w base F12 W9 B O bQ cw gw
 have bP:=bP l.prog w base ⟨⟨_,_,_,_,_,_,_,_,_,_,_,_,rfl,UQ,WN,Uq,Uh⟩,UT⟩ W8 B O cH cR cA
 have iV:=fun m=>iV (m:=m) l.prog w base F14 W7 B O
 have cI:=fun m=>cI (m:=m) l.prog w base F15 W6 B O dB
 have hV:=fun m=>hV (m:=m) l.prog w base F16 (ZC X G W5) B O
 have mO:=fun m=>mO (m:=m) l.prog w base F17 (ZC X G W4) B O
 have dy:=fun m=>dy (m:=m) l.prog w base F18 (ZC X G W3) B O mO
 have de:=fun m=>de (m:=m) l.prog w base F19 (ZC X G W0) B O
 have aw:=fun m=>aw (m:=m) l.prog w base F20 (ZC X G WY) B O
 have cE:=fun m=>cE (m:=m) l.prog w base F21 (ZC X G WX) B O aw
 have fu:=fun m=>fu (m:=m) l.prog w base F22 (ZC X G WW) B O aw
 have gj:=fun m=>gj (m:=m) l.prog w base F23 (ZC X G WV) B O aw cE
 have gh:=fun m=>gh (m:=m) l.prog w base F24 (ZC X G WU) B O aw cE
 have dv:=fun m=>dv (m:=m) l.prog w base F25 (ZC X G WT) B O
 have fA:=fun m=>fA (m:=m) l.prog w base F26 (ZC X G WR) B O dv
 have fz:=fun m=>fz (m:=m) l.prog w base F27 (ZC X G WQ) B O fA dy hV
 exact Ar rfl (DQ l.prog w base (m:=fun _=>none) (xX (st:=kJ) UO WM US) B O bP cI gj fz fu de gh dy) QS
end T42
open PySem PySem.W PyProof.Rows PySem.W.X PySem.W.ZRun
set_option maxRecDepth 100000 in
set_option maxHeartbeats 0 in
theorem PySem.Challenge.cw_allparts_k42_whole_the_fewest_holds : PySem.Challenge.rw_allparts_k42_whole_the_fewest.Holds := by
 w_on;o_law;z_head;(case hw=>w_witness2)
 k_fill
 intro w s₀ s₁ mg mb G y fa o pm cd doc dV kV ho hd hcd hD hmg hg args vals as L hpre hlay hrd hwl hlo
 z_open y L KX ZH ZN ZT
 clear ZH ZN ZT
 refine VS.zM (l:=PySem.Challenge.rw_allparts_k42_whole_the_fewest) (k:=8) (x := "_law_script") rfl rfl ⟨rfl,by decide,by decide⟩ ?F w s₀ s₁ mg mb G KX fa o pm cd doc dV kV ho hd hcd hD hmg hg args vals as hpre hlay hrd hwl hlo
 case F =>
  intro w mg fa h KX G hmg
  apply T42.all_mk KX G hmg T42.xS
  (case w_Nodes=>unfold T42.gN;k_is)
  (case w_Machine=>unfold T42.gN;k_is)
  all_goals first | (refine' L2.xX ?l ?c ?k;(case l=>k_is);(case c=>k_is);(case k=>k_is)) | (refine' ⟨?l,?c,?k⟩;(case l=>k_is);(case c=>k_is);(case k=>k_is)) | (refine' ⟨?l,?c,?k,?d⟩;(case l=>k_is);(case c=>k_is);(case k=>k_is);(case d=>k_is)) | (unfold T42.gN;k_is) | (unfold T42.gZ;k_is) | (unfold L2.aT;k_is) | k_is | exact rfl
end
