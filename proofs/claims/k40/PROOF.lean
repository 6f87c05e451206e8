import PyProof.Rows.All
import Wide.All
import OpenK.AllK
import Wide.FinOn
import Lean
import PyProof.EqAt
import PyProof.EqKinds
import PyProof.TupleCall
import PyProof.Rows.SortShellK
import PyProof.Rows.SortStr
import PyProof.Rows.SortWalk
import PyProof.StrBlockH
import PyProof.StrLawsIn
import PyProof.Rows.SetFrom
import PyProof.CollectWalk
import KE.KDictSum
import PyProof.ListStr
import PyProof.SeqI3
import PyProof.Rows.CallKwBuiltin
import PyProof.ListRange
import PyProof.AttrMissSeq
import PyProof.DictUpdate
import PyProof.DictList
import PyProof.ListNew
import PyProof.FactsAll.dict_1
import PyProof.SliceList
import PyProof.WalkInts
import PyProof.StationsW
import OpenK.KOwn
import KE.KTryMore
import PyProof.NsDelKeeps
import PyProof.ExcArgsOwn
import PyProof.ExcAttrAll.Exception
import OpenK.KDescr
import KE.KIsAll
import PyProof.ExcBaseAll.ValueError
import PyProof.StrBlock
import PyProof.StrCalls
import PyProof.StrLawsOccR
import KE.KDictOf
import PyProof.Rows.Range3
import PySem.Challenge.RW_allparts_k40_matches
theorem PySem.W.Fast.tw7635652942659010990:True:=trivial
theorem PySem.W.Fast.tw1281791787312175268:True:=trivial
theorem PySem.W.Fast.tw10667863510159692420:True:=trivial
theorem PySem.W.Fast.tw3421976244878680338:True:=trivial
theorem PySem.W.Fast.tw4233919444815028679:True:=trivial
theorem PySem.W.Fast.tw2765923221674078134:True:=trivial
theorem PySem.W.Fast.tw10863945580824161908:True:=trivial
theorem PySem.W.Fast.tw16097456298359327380:True:=trivial
theorem PySem.W.Fast.tw7442073448718055420:True:=trivial
theorem PySem.W.Fast.tw677603611702139537:True:=trivial
theorem PySem.W.Fast.tw2878163877373803361:True:=trivial
theorem PySem.W.Fast.tw17968757722213024212:True:=trivial
theorem PySem.W.Fast.tw5741363151343116669:True:=trivial
theorem PySem.W.Fast.tw9118463045037617475:True:=trivial
theorem PySem.W.Fast.tw10025381969580694049:True:=trivial
theorem PySem.W.Fast.tw18200684512260729846:True:=trivial
theorem PySem.W.Fast.tw6849002961321889199:True:=trivial
theorem PySem.W.Fast.tw7913717632434624654:True:=trivial
theorem PySem.W.Fast.tw2514054897035721900:True:=trivial
theorem PySem.W.Fast.tw14010458727862669128:True:=trivial
theorem PySem.W.Fast.tw3908407131147666316:True:=trivial
theorem PySem.W.Fast.tw16424163506095369607:True:=trivial
theorem PySem.W.Fast.tw9564256293654118548:True:=trivial
theorem PySem.W.Fast.tw3769378382662104852:True:=trivial
set_option linter.all false
set_option maxRecDepth 100000
set_option Elab.async false
set_option maxHeartbeats 4000000
abbrev Z4:=PySem.Value->PySem.Shared->Prop
abbrev Y7:=List (PySem.Addr×PySem.Obj)
abbrev Xk:=List (List PySem.Addr)
abbrev X8:=PySem.W.Frag
abbrev X9:=PySem.Str->Option PySem.Value
abbrev Wz:=List PySem.Addr
abbrev Wy:=List PySem.Value
abbrev Wx:=Option PySem.Value
abbrev Ww:=List Nat
abbrev Wv:=List Int
abbrev Wu:=List (List (List Nat))
abbrev Zp:=@if_pos
abbrev Zo:=@if_neg
abbrev ZZ:=@decide_eq_false
abbrev ZM:=@beq_eq_false_iff_ne
open Option renaming bind_eq_some_iff->Zz,map_eq_some_iff->Zy,bind_some->Zx,isSome_iff_exists->Yr,isSome_map->Yj,getD_some->Y8,getD_none->X2
open List renaming length_map->Zw,length_append->Zv,mem_cons_of_mem->Zu,mem_cons_self->Zt,getD_eq_getElem?_getD->Zs,getElem?_eq_getElem->Zr,map_cons->Zn,length_cons->Zl,mem_cons->Zj,getElem?_eq_some_iff->Zh,nodup_cons->Zd,zip_cons_cons->Zc,mem_append->Zb,mem_singleton->Za,size_toArray->ZX,length_singleton->ZW,nodup_append->ZU,getElem?_map->ZS,flatten_cons->ZP,append_nil->ZO,mem_append_right->ZK,append_assoc->ZJ,length_range->ZG,getElem?_append_left->ZF,suffix_refl->ZC,map_append->ZA,getElem?_eq_none->Z0,length_set->Z2,find?_cons->Z3,nodup_nil->Z5,getElem_mem->Z6,getElem?_append_right->Z7,all_eq_true->Z8,sublist_cons_self->Yz,map_map->Yy,lookup_cons->Yx,getElem?_set_ne->Yw,length_zip->Yv,getElem?_eq_none_iff->Yt,flatten_append->Ys,mem_append_left->Yo,any_eq_true->Ym,mem_map->Yk,getElem?_replicate->Yi,any_cons->Yg,sublist_append_right->Yd,getElem?_zip_eq_some->Yc,suffix_nil->Yb,nil_suffix->Ya,foldl_cons->YZ,mem_of_getElem?->YY,getD_cons_succ->YX,length_drop->YT,drop_of_length_le->YS,nil_append->YR,mem_filter->YQ,length_replicate->YN,mem_range->YK,length_take->YH,replicate_succ->YF,sum_cons->YD,getElem?_set_self->Y1,cons_lt_cons_iff->Y6,all_cons->Xz,length_range'->Xr,idxOf_lt_length_iff->Xl,cons_append->Xh,take_of_length_le->Xg,map_set->Xf,all_map->Xe,set_getElem_self->Xa,length_filter_le->XZ,cons_prefix_cons->XY,map_congr_left->XW,filterMap_cons->XU,pairwise_cons->XJ,findIdx?_cons->XI,pairwise_map->XB,getElem?_set->XA,range'_succ->X4,not_mem_nil->X5,mem_flatten->X6,map_fst_zip->X7
open PySem renaming wpAny_bind->Zq,wpAny_pure->Ze,wpAny_truthy_bool->YV,wpAny_mono->YM,wpAny_passesOwn->YL,wpAny_holding->YI,mem_of_lookup->YG,wpAny_Call_Name_kw->Y3,tupleKind_room_in1->Y4,sizeLine_eq->Y5,wpAny_call_entry->Xv,wpAny_typeNameOfWhole_keyiter->Xu,wpAny_newObj_type->Xc,wpAny_execs_nil->XS
open Option.some renaming inj->Zm
open PySem.Heap renaming get?_push_of_some->Zk,get?_push_size->ZV,lt_size->ZR,get?_update_other->XT,size_push->X0
open Nat renaming le_refl->Zi,ne_of_lt->ZY,lt_of_lt_of_le->ZQ,le_of_not_lt->ZL,le_trans->ZI,lt_succ_self->Yu,zero_le->Yp,lt_irrefl->Yl,pos_of_ne_zero->Yf,le_add_right->YU,min_eq_left->YB,le_of_not_le->Y9,not_lt_zero->Xy,add_sub_cancel->Xs,le_succ->Xp,succ_le_succ->Xi,lt_of_le_of_lt->XM,zero_add->XG,lt_trans->XF,lt_succ_of_lt->XE,le_of_lt->XD,le_of_eq->XC,min_eq_right->X3
open Bool renaming false_ne_true->Zg,and_eq_true->Zf,false_eq_true->YA,eq_iff_iff->Xw
open PySem.W renaming mg_of->ZD,mg_none_of->Z9,kia_one->Yq,plainGet_of->XX,callWith_K->XQ
open PySem.PassesOwn renaming never->Z1
open Array renaming getElem?_toList->Yn,length_toList->YW
open Ne renaming symm->Yh
open Int renaming emod_lt_of_pos->Ye,emod_nonneg->YO,toNat_natCast->Xo
open PySem.F renaming slot_dict_keyiterator_next->YJ,type_list_append->Xn,slot_list_append->Xm,plainAttrs_list->Xj,slot_tuple_getattribute->Xd,slot_dict_get->Xb
open PySem.Paired renaming length->Y0
open List.Sublist renaming refl->Y2
open Prod.mk renaming inj->Xq
open List.cons renaming inj->XR
open PySem.W.KFB renaming if_not->XO
open PySem.Around renaming under_plainId->X1
section
namespace L2
theorem j4 {G:Prop} (h:∀ P:Prop,(G->P)->P):G:=h G id
end L2
namespace VS
noncomputable abbrev Tx:=Ww
inductive T where
 | non | bl (b:Bool) | int (i:Int) | str (s:Tx) | scr (ns:Wv)
 | tup (l:List T) | lst (l:List T) | dct (kd:Nat) (l:List (T×T)) | obj (c:Nat) (fs:List (Nat×T))
 deriving Inhabited
abbrev Wq:=List T
noncomputable def fg:Nat:=16777216
mutual
@[simp] noncomputable def imm:T->Bool
 | .lst _=>false
 | .dct _ _=>false
 | .obj _ _=>false
 | .tup l=>dW l
 | _=>true
@[simp] noncomputable def dW:Wq->Bool
 | []=>true
 | t :: r=>imm t && dW r
end
mutual
@[simp] noncomputable def eqT:T->T->Bool
 | .non,.non=>true
 | .bl a,.bl b=>a == b
 | .bl a,.int i=>(if a then 1 else 0) == i
 | .int i,.bl a=>i == (if a then 1 else 0)
 | .int i,.int j=>i == j
 | .str s,.str t=>s == t
 | .tup a,.tup b=>so a b
 | .lst a,.lst b=>so a b
 | _,_=>false
@[simp] noncomputable def so:Wq->Wq->Bool
 | [],[]=>true
 | a :: as,b :: bs=>eqT a b && so as bs
 | _,_=>false
end
@[simp] noncomputable def eqD:Nat->T->Bool
 | _,.non=>true
 | _,.bl _=>true
 | _,.int _=>true
 | _,.str _=>true
 | n+1,.tup l=>l.all (eqD n)
 | n+1,.lst l=>l.all (eqD n)
 | _,_=>false
inductive Md where | fr | pu | bo
 deriving DecidableEq,Inhabited
@[simp] noncomputable def Md.join:Md->Md->Md
 | .bo,_=>.bo
 | _,.bo=>.bo
 | .pu,_=>.pu
 | _,.pu=>.pu
 | .fr,.fr=>.fr
inductive Cell where | pu (t:T) | ow (t:T)
 deriving Inhabited
abbrev Wt:=Option Cell
noncomputable abbrev Env:=List (Wt)
noncomputable abbrev Val:=Md×T
abbrev Wr:=Option Val
abbrev Ws:=List Val
noncomputable abbrev Ex:=Env->Wr
noncomputable abbrev Exs:=Env->Option (Ws)
@[simp] noncomputable def up (m:Md) (t:T):Val:=(if imm t then .fr else m,t)
@[simp] noncomputable def nV:T->Bool
 | .lst _=>true
 | .dct _ _=>true
 | .obj _ _=>true
 | _=>false
@[simp] noncomputable def cellOf:Val->Wt
 | (.fr,t)=>some (if nV t then .ow t else .pu t)
 | (.pu,t)=>some (.pu t)
 | (.bo,_)=>none
inductive Out where | nx (η:Env) | rt (v:Val) (η:Env) | bk (η:Env) | ct (η:Env)
noncomputable abbrev Sx:=Env->Option Out
@[simp] noncomputable def eC (t:T) (_:Env):Wr:=some (.fr,t)
noncomputable abbrev Q2 (i:Int):Ex:=eC (.int i)
@[simp] noncomputable def aa (i:Nat) (η:Env):Wr:=match η[i]? with
 | some (some (.pu t))=>some (up .pu t)
 | some (some (.ow t))=>some (.bo,t)
 | _=>none
@[simp] noncomputable def e1 (f:Val->Wr) (a:Ex) (η:Env):Wr:=(a η).bind f
@[simp] noncomputable def e2 (f:Val->Val->Wr) (a b:Ex) (η:Env):Wr:=(a η).bind fun x=>(b η).bind fun y=>f x y
@[simp] noncomputable def aj (_:Env):Option (Ws):=some []
@[simp] noncomputable def ab (a:Ex) (r:Exs) (η:Env):Option (Ws):=(a η).bind fun x=>(r η).bind fun xs=>some (x :: xs)
@[simp] noncomputable def eN (f:Ws->Wr) (as:Exs) (η:Env):Wr:=(as η).bind f
@[simp] noncomputable def cz:Ws->Md
 | []=>.fr
 | v :: r=>v.1.join (cz r)
@[simp] noncomputable def trees (l:Ws):Wq:=l.map (·.2)
noncomputable def mkL (m:Md) (l:Wq):Wr:=if l.length<=fg then some (if dW l then .fr else m,.lst l) else none
@[simp] noncomputable def dF (as:Exs) (η:Env):Wr:=(as η).bind fun l=>mkL (cz l) (trees l)
noncomputable def qV (l:Ws):Wr:=if l.length<=fg then some (up (cz l) (.tup (trees l))) else none
@[simp] noncomputable def lW (as:Exs) (η:Env):Wr:=(as η).bind qV
noncomputable def dput (l:List (T×T)) (k v:T):List (T×T):=if l.any (fun p=>eqT p.1 k) then l.map (fun p=>if eqT p.1 k then (p.1,v) else p) else l++[(k,v)]
noncomputable def hU:T->Bool
 | .int _=>true
 | .str _=>true
 | _=>false
noncomputable def keyOk:Nat->T->Bool
 | 0,t=>hU t
 | 1,.tup l=>l.all hU
 | _,_=>false
noncomputable def pairs:List (Ex×Ex)->Env->Option (List (Val×Val))
 | [],_=>some []
 | (a,b) :: r,η=>(a η).bind fun x=>(b η).bind fun y=>(pairs r η).map ((x,y) :: ·)
noncomputable def qD (kd:Nat) (ps:List (Ex×Ex)) (η:Env):Wr:=(pairs ps η).bind fun l=>if l.all (fun p=>keyOk kd p.1.2)/\l.length<=15 then
 some (cz (l.map (·.2)),.dct kd (l.foldl (fun d p=>dput d p.1.2 p.2.2) [])) else none
@[simp] noncomputable def tru:T->Option Bool
 | .bl b=>some b
 | .int i=>some (i != 0)
 | .str s=>some (!s.isEmpty)
 | .lst l=>some (!l.isEmpty)
 | .tup l=>some (!l.isEmpty)
 | .dct 0 l=>some (!l.isEmpty)
 | .non=>some false
 | _=>none
@[simp] noncomputable def iN (a b:Ex) (η:Env):Wr:=(a η).bind fun x=>match x.2 with
 | .bl true=>b η
 | .bl false=>some (.fr,.bl false)
 | _=>none
@[simp] noncomputable def eOr (a b:Ex) (η:Env):Wr:=(a η).bind fun x=>match x.2 with
 | .bl true=>some (.fr,.bl true)
 | .bl false=>b η
 | _=>none
@[simp] noncomputable def j7 (a:Ex) (η:Env):Wr:=(a η).bind fun x=>match x.2 with
 | .bl b=>some (.fr,.bl (!b))
 | _=>none
@[simp] noncomputable def eIf (c a b:Ex) (η:Env):Wr:=(c η).bind fun x=>(tru x.2).bind fun t=>if t then a η else b η
@[simp] noncomputable def isN:T->Bool
 | .non=>true
 | _=>false
@[simp] noncomputable def zv (a:Ex) (η:Env):Wr:=(a η).bind fun x=>some (.fr,.bl (isN x.2))
@[simp] noncomputable def dM (a:Ex) (η:Env):Wr:=(a η).bind fun x=>some (.fr,.bl (!isN x.2))
@[simp] noncomputable def d9 (f g:Val->Val->Wr) (a b c:Ex) (η:Env):Wr:=(a η).bind fun x=>(b η).bind fun y=>(f x y).bind fun r=>match r.2 with
 | .bl true=>(c η).bind fun z=>g y z
 | .bl false=>some (.fr,.bl false)
 | _=>none
@[simp] noncomputable def int?:T->Option Int
 | .int i=>some i
 | _=>none
noncomputable def aZ:Val->Val->Wr
 | (_,.int i),(_,.int j)=>some (.fr,.int (i+j))
 | (_,.str s),(_,.str t)=>if s.length+t.length<=fg then some (.fr,.str (s++t)) else none
 | (m,.lst s),(n,.lst t)=>mkL (m.join n) (s++t)
 | _,_=>none
@[simp] noncomputable def nh:Val->Val->Wr
 | (_,.int i),(_,.int j)=>some (.fr,.int (i - j))
 | _,_=>none
noncomputable def B62:Int:=4611686018427387904
noncomputable def B64:Int:=18446744073709551616
noncomputable def gj:Val->Val->Wr
 | (_,.int i),(_,.int j)=>if (-B64 < i/\i < B64)\/(-B64 < j/\j < B64) then some (.fr,.int (i * j)) else none
 | _,_=>none
noncomputable def sN:Val->Val->Wr
 | (_,.str s),(_,.int j)=>if s.length * j.toNat<=fg/\-B62<=j/\j < B62 then some (.fr,.str (List.replicate j.toNat s).flatten) else none
 | _,_=>none
noncomputable def jd:Val->Val->Wr
 | (_,.int i),(_,.int j)=>if 0 < j/\j < 1073741824 then some (.fr,.int (i / j)) else none
 | _,_=>none
noncomputable def oMod:Val->Val->Wr
 | (_,.int i),(_,.int j)=>if 0 < j then some (.fr,.int (i % j)) else none
 | _,_=>none
noncomputable def ltx:Tx->Tx->Bool
 | [],[]=>false
 | [],_ :: _=>true
 | _ :: _,[]=>false
 | a :: as,b :: bs=>if a < b then true else if b < a then false else ltx as bs
@[simp] noncomputable def oLt:Val->Val->Wr
 | (_,.int i),(_,.int j)=>some (.fr,.bl (decide (i < j)))
 | (_,.str s),(_,.str t)=>some (.fr,.bl (ltx s t))
 | _,_=>none
@[simp] noncomputable def oLe:Val->Val->Wr
 | (_,.int i),(_,.int j)=>some (.fr,.bl (decide (i<=j)))
 | (_,.str s),(_,.str t)=>some (.fr,.bl (!ltx t s))
 | _,_=>none
@[simp] noncomputable def oGt (a b:Val):Wr:=oLt b a
@[simp] noncomputable def oGe (a b:Val):Wr:=oLe b a
@[simp] noncomputable def oEq (a b:Val):Wr:=if eqD 60 a.2/\eqD 60 b.2 then some (.fr,.bl (eqT a.2 b.2)) else none
@[simp] noncomputable def oNe (a b:Val):Wr:=if eqD 60 a.2/\eqD 60 b.2 then some (.fr,.bl (!eqT a.2 b.2)) else none
noncomputable def eU (l:List (T×T)) (k:T):Option T:=(l.find? fun p=>eqT p.1 k).map (·.2)
noncomputable def ixP (n:Nat) (i:Int):Option Nat:=if 0<=i then (if i < n then some i.toNat else none) else (if 0<=i+n then some (i+n).toNat else none)
@[simp] noncomputable def sub (m:Md) (t:T):Val:=up m t
@[simp] noncomputable def aB:Val->Val->Wr
 | (m,.lst l),(_,.int i)=>(ixP l.length i).bind fun k=>(l[k]?).map (sub m)
 | (m,.tup l),(_,.int i)=>(ixP l.length i).bind fun k=>(l[k]?).map (sub m)
 | (_,.scr l),(_,.int i)=>(ixP l.length i).bind fun k=>(l[k]?).map fun n=>(.fr,.int n)
 | (_,.str l),(_,.int i)=>(ixP l.length i).bind fun k=>(l[k]?).map fun n=>(.fr,.str [n])
 | _,_=>none
noncomputable def clip (n:Nat) (i:Int):Nat:=if i < 0 then (i+n).toNat else min i.toNat n
noncomputable def cut {α:Type} (l:List α) (a b:Option Int):List α :=
 let lo:=match a with | none=>0 | some i=>clip l.length i
 let hi:=match b with | none=>l.length | some i=>clip l.length i
 (l.drop lo).take (hi - lo)
@[simp] noncomputable def oSl (v:Val) (a b:Option Int):Wr:=match v with
 | (_,.str s)=>some (.fr,.str (cut s a b))
 | (m,.lst l)=>mkL m (cut l a b)
 | _=>none
@[simp] noncomputable def t4 (c:Option Ex) (η:Env):Option (Option Int):=match c with
 | none=>some none
 | some e=>(e η).bind fun y=>(int? y.2).map some
@[simp] noncomputable def eSl (a:Ex) (lo hi:Option Ex) (η:Env):Wr:=(a η).bind fun x=>(t4 lo η).bind fun l=>(t4 hi η).bind fun h=>oSl x l h
@[simp] noncomputable def Ed:T->Option Nat
 | .lst l=>some l.length
 | .tup l=>some l.length
 | .str l=>some l.length
 | .scr l=>some l.length
 | .dct 0 l=>some l.length
 | _=>none
@[simp] noncomputable def cA:Ws->Wr
 | [x]=>(Ed x.2).map fun n=>(.fr,.int n)
 | _=>none
@[simp] noncomputable def qq:Ws->Wr
 | [(_,.int i),(_,.int j)]=>some (.fr,.int (if j < i then j else i))
 | _=>none
@[simp] noncomputable def EI:Ws->Wr
 | [(_,.int i),(_,.int j)]=>some (.fr,.int (if j > i then j else i))
 | _=>none
noncomputable def mF:Wq->Option (Wv)
 | []=>some []
 | .int i :: r=>(mF r).map (i :: ·)
 | _=>none
noncomputable def strs?:Wq->Option (List Tx)
 | []=>some []
 | .str i :: r=>(strs? r).map (i :: ·)
 | _=>none
noncomputable def yj:Ws->Wr
 | [(_,.lst l)]=>(mF l).bind fun is=>some (.fr,.int is.sum)
 | _=>none
@[simp] noncomputable def EN:T->Option (Wq)
 | .lst l=>some l
 | .tup l=>some l
 | .scr l=>some (l.map T.int)
 | .str l=>some (l.map fun c=>T.str [c])
 | .dct _ l=>some (l.map (·.1))
 | _=>none
@[simp] noncomputable def Ae:Ws->Wr
 | [(m,.lst l)]=>mkL m l
 | [(m,.tup l)]=>mkL m l
 | _=>none
noncomputable def j6:Ws->Wr
 | [(m,.lst l)]=>if l.length<=fg then some (up m (.tup l)) else none
 | _=>none
noncomputable def mJ (x:Tx):List Tx->List Tx
 | []=>[x]
 | y :: r=>if ltx y x then y :: mJ x r else x :: y :: r
noncomputable def d6 (l:List Tx):List Tx:=l.foldr mJ []
inductive Ty where | int | str | bool | list | tuple | dict
@[simp] noncomputable def pO:Ty->T->Bool
 | .int,.int _=>true
 | .int,.bl _=>true
 | .bool,.bl _=>true
 | .str,.str _=>true
 | .list,.lst _=>true
 | .tuple,.tup _=>true
 | .dict,.dct _ _=>true
 | _,_=>false
@[simp] noncomputable def tK:T->Bool
 | .obj _ _=>false
 | .scr _=>false
 | .dct 0 _=>true
 | .dct 1 _=>true
 | .dct _ _=>false
 | _=>true
@[simp] noncomputable def eIs (t:Ty) (a:Ex) (η:Env):Wr:=(a η).bind fun x=>if tK x.2 then some (.fr,.bl (pO t x.2)) else none
noncomputable def total:List Tx->Nat
 | []=>0
 | x :: r=>x.length+total r
noncomputable def de (sep:Tx):List Tx->Tx
 | []=>[]
 | [x]=>x
 | x :: r=>x++sep++de sep r
noncomputable def jk:Val->Ws->Wr
 | (_,.str sep),[(_,.lst l)]=>(strs? l).bind fun ss=>if total ss+ss.length * sep.length<=fg then some (.fr,.str (de sep ss)) else none
 | _,_=>none
@[simp] noncomputable def eM (f:Val->Ws->Wr) (o:Ex) (as:Exs) (η:Env):Wr:=(o η).bind fun x=>(as η).bind fun xs=>f x xs
noncomputable abbrev Fn:=Wq->Wr
@[simp] noncomputable def bx (g:Fn) (as:Exs) (η:Env):Wr:=(as η).bind fun xs=>(g (trees xs)).bind fun r=>match r with
 | (.fr,t)=>some (.fr,t)
 | (_,t)=>some ((Md.pu).join (cz xs),t)
noncomputable abbrev Its:=Env->Option (Md×Wq)
@[simp] noncomputable def Cr:Val->Option (Md×Wq)
 | (m,.lst l)=>some (m,l)
 | (m,.tup l)=>some (m,l)
 | (_,.str l)=>some (.fr,l.map fun c=>.str [c])
 | _=>none
@[simp] noncomputable def iq (a:Ex) (η:Env):Option (Md×Wq):=(a η).bind Cr
noncomputable def rng (lo:Int) (n:Nat):Wq:=(List.range n).map fun (k:Nat)=>T.int (lo+k)
noncomputable def cq (a:Ex) (η:Env):Option (Md×Wq):=(a η).bind fun x=>(int? x.2).bind fun j=>if -B62<=j/\j < B62 then some (.fr,rng 0 j.toNat) else none
noncomputable def Ap (k:Nat):Wq->Wq
 | []=>[]
 | t :: r=>.tup [.int k,t] :: Ap (k+1) r
@[simp] noncomputable def Dq:Val->Option (Md×Wq)
 | (m,.lst l)=>some (m,Ap 0 l)
 | _=>none
@[simp] noncomputable def EJ (a:Ex) (η:Env):Option (Md×Wq):=(a η).bind Dq
noncomputable abbrev Tg:=T->Env->Option Env
@[simp] noncomputable def bH (i:Nat) (t:T) (η:Env):Option Env:=if i < η.length then some (η.set i (some (.pu t))) else none
@[simp] noncomputable def DV:List Tg->Wq->Env->Option Env
 | [],[],η=>some η
 | g :: gs,t :: ts,η=>(g t η).bind fun η'=>DV gs ts η'
 | _,_,_=>none
@[simp] noncomputable def EO (gs:List Tg) (t:T) (η:Env):Option Env:=match t with
 | .tup l=>DV gs l η
 | _=>none
@[simp] noncomputable def okI (m:Md) (l:Wq):Bool:=match m with
 | .bo=>dW l
 | _=>true
noncomputable def je (tg:Tg) (cond:Option Ex) (elt:Ex) (η:Env):Wq->Option (Ws)
 | []=>some []
 | t :: r=>(tg t η).bind fun η'=>(match cond with | none=>some true | some c=>(c η').bind fun x=>tru x.2).bind fun b =>
  if b then (elt η').bind fun v=>(je tg cond elt η r).map (v :: ·) else je tg cond elt η r
noncomputable def fe (k:Nat) (tg:Tg) (it:Its) (cond:Option Ex) (elt:Ex) (η:Env):Wr:=(it η).bind fun (m,l)=>if okI m l then
 (je tg cond elt (List.replicate k none++η) l).bind fun vs=>mkL (cz vs) (trees vs) else none
@[simp] noncomputable def eX (η:Env):Option Out:=some (.nx η)
@[simp] noncomputable def aq (a b:Sx) (η:Env):Option Out:=(a η).bind fun o=>match o with
 | .nx η'=>b η'
 | o=>some o
@[simp] noncomputable def ja (i:Nat) (e:Ex) (η:Env):Option Out:=(e η).bind fun v=>(cellOf v).bind fun c=>if i < η.length then some (.nx (η.set i (some c))) else none
@[simp] noncomputable def aL (i:Nat) (e:Ex) (η:Env):Option Out:=(e η).bind fun v=>match v.1 with
 | .bo=>none
 | _=>if i < η.length then some (.nx (η.set i (some (.pu v.2)))) else none
@[simp] noncomputable def gB (e:Ex) (η:Env):Option Out:=(e η).bind fun v=>some (.rt (match v.1 with | .bo=>.pu | m=>m,v.2) η)
@[simp] noncomputable def eV (i:Nat) (η:Env):Option Out:=match η[i]? with
 | some (some (.ow t))=>some (.rt (.fr,t) (η.set i none))
 | some (some (.pu t))=>some (.rt (up .pu t) η)
 | _=>none
@[simp] noncomputable def EG (η:Env):Option Out:=some (.rt (.fr,.non) η)
@[simp] noncomputable def ER (η:Env):Option Out:=some (.bk η)
@[simp] noncomputable def EH (η:Env):Option Out:=some (.ct η)
@[simp] noncomputable def sIf (c:Ex) (a b:Sx) (η:Env):Option Out:=(c η).bind fun x=>(tru x.2).bind fun t=>if t then a η else b η
noncomputable def forL (tg:Tg) (body:Sx):Wq->Env->Option Out
 | [],η=>some (.nx η)
 | t :: r,η=>(tg t η).bind fun η1=>(body η1).bind fun o=>match o with
  | .nx η2=>forL tg body r η2
  | .ct η2=>forL tg body r η2
  | .bk η2=>some (.nx η2)
  | .rt v η2=>some (.rt v η2)
@[simp] noncomputable def okF:Md->Bool
 | .bo=>false
 | _=>true
@[simp] noncomputable def gz (tg:Tg) (it:Its) (body:Sx) (η:Env):Option Out:=(it η).bind fun (m,l)=>if okF m then forL tg body l η else none
noncomputable def c9 (c:Ex) (body:Sx):Nat->Env->Option Out
 | 0,_=>none
 | n+1,η=>(c η).bind fun x=>(tru x.2).bind fun t=>if t then (body η).bind fun o=>match o with
  | .nx η2=>c9 c body n η2
  | .ct η2=>c9 c body n η2
  | .bk η2=>some (.nx η2)
  | .rt v η2=>some (.rt v η2)
  else some (.nx η)
noncomputable def rQ:Nat:=1000000
noncomputable def jI (c:Ex) (body:Sx) (η:Env):Option Out:=c9 c body rQ η
@[simp] noncomputable def xN (i:Nat) (η:Env):Option Out:=match η[i]? with
 | some (some (.ow t))=>some (.nx (η.set i (some (.pu t))))
 | some (some (.pu _))=>some (.nx η)
 | _=>none
inductive Stp where | fld (k:Nat) | ix (e:Ex) | un
inductive Ky where | fld (k:Nat) | at (t:T) | un
@[simp] noncomputable def keys:List Stp->Env->Option (List Ky)
 | [],_=>some []
 | .fld k :: r,η=>(keys r η).map (.fld k :: ·)
 | .ix e :: r,η=>(e η).bind fun x=>(keys r η).map (.at x.2 :: ·)
 | .un :: r,η=>(keys r η).map (.un :: ·)
noncomputable def Eb (fs:List (Nat×T)) (k:Nat):Option T:=fs.lookup k
noncomputable def D9 (fs:List (Nat×T)) (k:Nat) (v:T):List (Nat×T):=if fs.any (fun p=>p.1 == k) then fs.map (fun p=>if p.1 == k then (p.1,v) else p) else fs++[(k,v)]
@[simp] noncomputable def yz {α:Type} (f:T->Option (T×α)):List Ky->T->Option (T×α)
 | [],t=>f t
 | .fld k :: r,.obj c fs=>(Eb fs k).bind fun x=>(yz f r x).map fun (y,a)=>(.obj c (D9 fs k y),a)
 | .at (.int i) :: r,.lst l=>(ixP l.length i).bind fun j=>(l[j]?).bind fun x=>(yz f r x).map fun (y,a)=>(.lst (l.set j y),a)
 | .at k :: r,.dct d l=>(eU l k).bind fun x=>(yz f r x).map fun (y,a)=>(.dct d (dput l k y),a)
 | _,_=>none
noncomputable abbrev Xx:=Env->Option (Val×Env)
@[simp] noncomputable def xP (e:Ex) (η:Env):Option (Val×Env):=(e η).map fun v=>(v,η)
@[simp] noncomputable def lD (i:Nat) (way:List Stp) (f:T->Ws->Option (T×Val)) (as:Exs) (η:Env):Option (Val×Env):=match η[i]? with
 | some (some (.ow t))=>(keys way η).bind fun ks=>(as η).bind fun xs=>(yz (fun x=>f x xs) ks t).map fun (t',v)=>(v,η.set i (some (.ow t')))
 | _=>none
@[simp] noncomputable def fit (v:Val):Option T:=match v.1 with
 | .fr=>some v.2
 | _=>none
noncomputable def aA:T->Ws->Option (T×Val)
 | .lst l,[v]=>(fit v).bind fun t=>if l.length < fg then some (.lst (l++[t]),(.fr,.non)) else none
 | _,_=>none
@[simp] noncomputable def sX (x:Xx) (η:Env):Option Out:=(x η).map fun r=>.nx r.2
@[simp] noncomputable def EK (i:Nat) (x:Xx) (η:Env):Option Out:=(x η).bind fun (v,η')=>(cellOf v).bind fun c=>if i < η'.length then some (.nx (η'.set i (some c))) else none
@[simp] noncomputable def EF (x:Xx) (η:Env):Option Out:=(x η).bind fun (v,η')=>some (.rt (match v.1 with | .bo=>.pu | m=>m,v.2) η')
@[simp] noncomputable def fn (np nn:Nat) (body:Sx):Fn:=fun ts=>if ts.length=np then
 (body (ts.map (fun t=>some (.pu t))++List.replicate (nn - np) none)).bind fun o=>match o with
  | .rt v _=>some v
  | .nx _=>some (.fr,.non)
  | _=>none else none
@[simp] theorem Dv {m n:Md} {i j:Int}:aZ (m,.int i) (n,.int j)=some (.fr,.int (i+j)):=rfl
theorem iI {m n:Md} {s t:Tx} (h:s.length+t.length<=16777216):aZ (m,.str s) (n,.str t)=some (.fr,.str (s++t)):=Zp h
theorem jq {m n:Md} {i j:Int} (h:-18446744073709551616 < i/\i < 18446744073709551616):gj (m,.int i) (n,.int j)=some (.fr,.int (i * j)):=Zp (.inl h)
theorem jJ {m n:Md} {i j:Int} (h:0 < j/\j < 1073741824):jd (m,.int i) (n,.int j)=some (.fr,.int (i / j)):=Zp h
theorem fG {m n:Md} {i j:Int} (h:0 < j):oMod (m,.int i) (n,.int j)=some (.fr,.int (i % j)):=Zp h
theorem eI {l:Wq} {t:T} (h:l.length < 16777216):aA (.lst l) [(.fr,t)]=some (.lst (l++[t]),(.fr,.non)):=by
 simp only [aA,fit,Zx]
 exact Zp h
theorem dy {a:Ex} {η:Env} {m:Md} {j:Int} (e:a η=some (m,.int j)) (h:-4611686018427387904<=j/\j < 4611686018427387904):cq a η=some (.fr,rng 0 j.toNat):=by
 simp only [cq,e,Zx,int?]
 exact Zp h
theorem r6 {m:Md} {l:Wq} (h:l.length<=16777216):mkL m l=some (if dW l then .fr else m,.lst l):=Zp h
theorem gv {tg:Tg} {body:Sx} {t:T} {r:Wq} {η η1 η2:Env} (h1:tg t η=some η1) (h2:body η1=some (.nx η2)):forL tg body (t :: r) η=forL tg body r η2:=by
 simp [forL,h1,h2]
theorem zq {tg:Tg} {body:Sx} {t:T} {r:Wq} {η η1 η2:Env} {v:Val} (h1:tg t η=some η1) (h2:body η1=some (.rt v η2)):forL tg body (t :: r) η=some (.rt v η2):=by
 simp [forL,h1,h2]
theorem strs_map {α:Type} (f:α->Tx):∀ l:List α,strs? (l.map fun x=>T.str (f x))=some (l.map f)
 | []=>rfl
 | a :: r=>by simp [strs?,strs_map f r]
theorem ints_map {α:Type} (f:α->Int):∀ l:List α,mF (l.map fun x=>T.int (f x))=some (l.map f)
 | []=>rfl
 | a :: r=>by simp [mF,ints_map f r]
theorem mQ:∀ ss:List Tx,de [] ss=ss.flatten
 | []=>rfl
 | [x]=>by simp [de]
 | x :: y :: r=>by
  have:=mQ (y :: r)
  simp [de] at this ⊢
  exact this
theorem mr:∀ ss:List Tx,total ss=ss.flatten.length
 | []=>rfl
 | x :: r=>by simp [total,mr r]
theorem oh {m n:Md} {l:Wq} {ss:List Tx} (e:strs? l=some ss) (h1:ss.flatten.length<=16777216):jk (m,.str []) [(n,.lst l)]=some (.fr,.str ss.flatten):=by
 simp only [jk,Zx,e,mQ]
 refine Zp ?_
 rw [mr]
 show _<=16777216
 simpa using h1
theorem fE {α:Type} (l:List α):(l.map fun x=>[x]).flatten=l:=by
 induction l with
 | nil=>rfl
 | cons a r ih=>rw [Zn,ZP,ih];rfl
theorem fM (n:Nat):rng 0 n=(List.range n).map fun (k:Nat)=>T.int (k:Int):=by
 unfold rng
 simp
theorem lX {α:Type} (f:α->T) (h:∀ x,imm (f x)=true):∀ l:List α,dW (l.map f)=true
 | []=>rfl
 | a :: r=>by simp [h,lX f h r]
theorem nX {α:Type} {tg:Tg} {elt:Ex} {η:Env} (g:α->T) (f:α->Val):∀ l:List α,(∀ a∈l,∃ η',tg (g a) η=some η'/\elt η'=some (f a))->je tg none elt η (l.map g)=some (l.map f)
 | [],_=>rfl
 | a :: r,h=>by
  obtain ⟨η',h1,h2⟩:=h a Zt
  simp [je,h1,h2,nX g f r fun b hb=>h b (Zu _ hb)]
theorem j3 {α:Type} {tg:Tg} {c elt:Ex} {η:Env} (g:α->T) (p:α->Bool) (f:α->Val):∀ l:List α,(∀ a∈l,∃ η' x,tg (g a) η=some η'/\c η'=some x/\tru x.2=some (p a)/\(p a=true->elt η'=some (f a))) →
  je tg (some c) elt η (l.map g)=some ((l.filter p).map f)
 | [],_=>rfl
 | a :: r,h=>by
  obtain ⟨η',x,h1,h2,h3,h4⟩:=h a Zt
  have ih:=j3 (c:=c) g p f r fun b hb=>h b (Zu _ hb)
  cases e:p a with
  | true=>simp [-tru,je,h1,h2,h3,e,h4 e,ih]
  | false=>simp [-tru,je,h1,h2,h3,e,ih]
theorem mZ {α:Type} (f:α->T):∀ l:List α,cz (l.map fun a=>(Md.fr,f a))=.fr
 | []=>rfl
 | a :: r=>by simp [mZ f r]
theorem nJ {α:Type} (f:α->Val) (l:List α):trees (l.map f)=l.map fun a=>(f a).2:=by simp
theorem i6 {α:Type} {k:Nat} {tg:Tg} {it:Its} {elt:Ex} {η:Env} {m:Md} (g:α->T) (f:α->T) (l:List α) (hi:it η=some (m,l.map g)) (hk:okI m (l.map g)=true) (hl:l.length<=16777216)
  (h:∀ a∈l,∃ η',tg (g a) (List.replicate k none++η)=some η'/\elt η'=some (.fr,f a)):fe k tg it none elt η=some (.fr,.lst (l.map f)):=by
 simp only [fe,hi,Zx]
 rw [Zp hk,nX g (fun a=>(Md.fr,f a)) l h]
 simp only [Zx,mZ,nJ]
 rw [r6 (by rw [Zw];exact hl)]
 simp
theorem jZ {α:Type} {k:Nat} {tg:Tg} {it:Its} {c elt:Ex} {η:Env} {m:Md} (g:α->T) (p:α->Bool) (f:α->T) (l:List α) (hi:it η=some (m,l.map g)) (hk:okI m (l.map g)=true) (hl:l.length<=16777216)
  (h:∀ a∈l,∃ η' x,tg (g a) (List.replicate k none++η)=some η'/\c η'=some x/\tru x.2=some (p a)/\(p a=true->elt η'=some (.fr,f a))):fe k tg it (some c) elt η=some (.fr,.lst ((l.filter p).map f)):=by
 simp only [fe,hi,Zx]
 rw [Zp hk,j3 g p (fun a=>(Md.fr,f a)) l h]
 simp only [Zx,mZ,nJ]
 rw [r6 (by rw [Zw];exact ZI (XZ _ _) hl)]
 simp
end VS
end
section
namespace L2
open PySem PySem.Spec PyProof.Rows
noncomputable abbrev Key:=Sum Int Str
noncomputable def ly:Key->Value->Bool
 | .inl k,v=>Value.isInt k v
 | .inr x,v=>Value.isStrOf x v
noncomputable def Ec (w:World):Key->Int
 | .inl k=>hashInt k
 | .inr x=>hashStr w x
theorem bJ:∀ {k:Key} {v:Value},ly k v=true->(∃ i t,k=Sum.inl i/\v=Value.int i t)\/(∃ x t,k=Sum.inr x/\v=Value.str x t)
 | .inl i,v,h=>by
  obtain ⟨t,e⟩:=Value.isInt_shape (k:=i) (v:=v) h
  exact .inl ⟨i,t,rfl,e⟩
 | .inr x,v,h=>by
  obtain ⟨t,e⟩:=Value.isStrOf_shape (x:=x) (v:=v) h
  exact .inr ⟨x,t,rfl,e⟩
theorem uI (i:Int) (t:Tok):ly (.inl i) (.int i t)=true:=by simp [ly,Value.isInt]
theorem uE (x:Str) (t:Tok):ly (.inr x) (.str x t)=true:=by simp [ly,Value.isStrOf]
theorem A6 (a b:Int):decide ((Sum.inl a:Key)=Sum.inl b)=(a == b):=by
 by_cases e:a=b
 ·subst e;simp
 ·have h:¬ (Sum.inl a:Key)=Sum.inl b:=fun q=>e (Sum.inl.inj q)
  rw [ZZ h]
  exact (ZM.mpr e).symm
theorem AJ (a b:Str):decide ((Sum.inr a:Key)=Sum.inr b)=decide (a=b):=by
 by_cases e:a=b
 ·subst e;simp
 ·have h:¬ (Sum.inr a:Key)=Sum.inr b:=fun q=>e (Sum.inr.inj q)
  rw [ZZ h,ZZ e]
theorem AL (a:Int) (b:Str):decide ((Sum.inl a:Key)=Sum.inr b)=false:=ZZ (fun q=>nomatch q)
theorem BE (a:Str) (b:Int):decide ((Sum.inr a:Key)=Sum.inl b)=false:=ZZ (fun q=>nomatch q)
noncomputable def aJ (prog:Program) (w:World):PySem.KeyKind prog w Key where
 is:=ly
 hash:=Ec w
 inj:=fun v a b ha hb=>by
  rcases bJ ha with ⟨i,t,rfl,rfl⟩ | ⟨x,t,rfl,rfl⟩
  ·rcases bJ hb with ⟨j,u,rfl,e⟩ | ⟨y,u,rfl,e⟩
   ·injection e with e1 _;rw [e1]
   ·exact nomatch e
  ·rcases bJ hb with ⟨j,u,rfl,e⟩ | ⟨y,u,rfl,e⟩
   ·exact nomatch e
   ·injection e with e1 _;rw [e1]
 byValue:=fun k v h=>by
  rcases bJ h with ⟨i,t,rfl,rfl⟩ | ⟨x,t,rfl,rfl⟩ <;> rfl
 pyHash:=fun hv h=>by
  rcases bJ hv with ⟨i,t,rfl,rfl⟩ | ⟨x,t,rfl,rfl⟩
  ·exact wpAny_pyHash_int h
  ·exact wpAny_pyHash_str h
 eqBool:=fun hu hv h=>by
  rcases bJ hu with ⟨i,t,rfl,rfl⟩ | ⟨x,t,rfl,rfl⟩
  ·rcases bJ hv with ⟨j,u,rfl,rfl⟩ | ⟨y,u,rfl,rfl⟩
   ·rw [A6] at h;exact wpAny_eqBool_int h
   ·rw [AL] at h;exact SeqAt.EqAt.int_str i t y u _ _ _ _ h
  ·rcases bJ hv with ⟨j,u,rfl,rfl⟩ | ⟨y,u,rfl,rfl⟩
   ·rw [BE] at h;exact SeqAt.EqAt.str_int x t j u _ _ _ _ h
   ·rw [AJ] at h;exact wpAny_eqBool_str h
 «strs» := fun k x t v h=>by
  rcases bJ h with ⟨i,u,rfl,e⟩ | ⟨y,u,rfl,e⟩
  ·exact nomatch e
  ·injection e with e1 _
   subst e1
   cases v <;> rfl
theorem qf (prog:Program) (w:World) (i:Int) (t:Tok):(aJ prog w).is (.inl i) (.int i t)=true:=uI i t
theorem qC (prog:Program) (w:World) (x:Str) (t:Tok):(aJ prog w).is (.inr x) (.str x t)=true:=uE x t
inductive V where
 | non | bl (b:Bool) | int (i:Int) | str (x:Str) | byt (b:Array UInt8) | flt (b:UInt64) | ref (a:Addr) | ty (n:String)
 deriving DecidableEq
noncomputable def RelV:V->Value->Prop
 | .non,u=>u=Value.none
 | .bl b,u=>u=Value.bool b
 | .int i,u=>∃ t,u=Value.int i t
 | .str x,u=>∃ t,u=Value.str x t
 | .byt b,u=>∃ t,u=Value.bytes b t
 | .flt b,u=>∃ t,u=Value.float b t
 | .ref a,u=>u=Value.ref a
 | .ty n,u=>u=Value.type n
noncomputable abbrev aN:List V->Wy->Prop:=Paired RelV
theorem aN.length {xs:List V} {us:Wy} (r:aN xs us):xs.length=us.length:=Y0 r
theorem aN.get:∀ {xs:List V} {us:Wy} {i:Nat} {x:V},aN xs us->xs[i]?=some x->∃ u,us[i]?=some u/\RelV x u
 | _,_,_,_,.nil,e=>by simp at e
 | _,_,0,_,.cons r _,e=>by simp at e;subst e;exact ⟨_,rfl,r⟩
 | _,_,i+1,x,.cons _ t,e=>by
  obtain ⟨u,h1,h2⟩:=aN.get (i:=i) (x:=x) t (by simpa using e)
  exact ⟨u,by simpa using h1,h2⟩
theorem aN.set {x:V} {u:Value} (r:RelV x u):∀ {xs:List V} {us:Wy} (i:Nat),aN xs us->aN (xs.set i x) (us.set i u)
 | _,_,_,.nil=>.nil
 | _,_,0,.cons _ t=>.cons r t
 | _,_,i+1,.cons q t=>.cons q (aN.set r i t)
theorem aN.append:∀ {xs ys:List V} {us ws:Wy},aN xs us->aN ys ws->aN (xs++ys) (us++ws)
 | _,_,_,_,.nil,s=>s
 | _,_,_,_,.cons r t,s=>.cons r (aN.append t s)
theorem aN.take:∀ {xs:List V} {us:Wy} (n:Nat),aN xs us->aN (xs.take n) (us.take n)
 | _,_,0,_=>.nil
 | _,_,_+1,.nil=>.nil
 | _,_,n+1,.cons r t=>.cons r (aN.take n t)
theorem aN.drop:∀ {xs:List V} {us:Wy} (n:Nat),aN xs us->aN (xs.drop n) (us.drop n)
 | _,_,0,r=>r
 | _,_,_+1,.nil=>.nil
 | _,_,n+1,.cons _ t=>aN.drop n t
theorem aN.none_of:∀ {xs:List V} {us:Wy} {i:Nat},aN xs us->xs[i]?=none->us[i]?=none:=fun {xs us i} r e=>by
 have h1:=r.length
 have h2:xs.length<=i:=Yt.mp e
 exact Yt.mpr (by lia)
noncomputable def ik:Option V->Wx->Prop
 | some v,some u=>RelV v u
 | none,none=>True
 | _,_=>False
noncomputable def KV {κ:Type}:List (κ×V)->List (κ×Value)->Prop:=Paired fun (p:κ×V) (q:κ×Value)=>p.1=q.1/\RelV p.2 q.2
noncomputable def kV:Key->V
 | .inl i=>.int i
 | .inr x=>.str x
inductive HO where
 | lst (xs:List V)
 | tup (xs:List V)
 | dK (kvs:List (Key×V)) | dT (kvs:List (List Key×V))
 | set (S:Int->Bool) (n:Nat)
 | ins (C dx:Addr) (fs:List (Str×V))
 | own (x:Addr)
 | xd (fs:List (Str×V))
 | met (f x:Addr)
 | rng (lo hi:Int)
 | frz (o:Obj) (u:HO)
 | tbl (ps:Array Value)
 | ext (φ:Heap->Prop)
noncomputable abbrev Hp:=Addr->Option HO
noncomputable def upd (H:Hp) (a:Addr) (o:HO):Hp:=fun b=>if b=a then some o else H b
theorem ax {H:Hp} {a:Addr} {o:HO}:upd H a o a=some o:=by unfold upd;rw [Zp rfl]
theorem aD {H:Hp} {a b:Addr} {o:HO} (h:b ≠ a):upd H a o b=H b:=by unfold upd;rw [Zo h]
theorem yU {H:Hp} {a:Addr} {o u:HO}:upd (upd H a o) a u=upd H a u:=by
 funext b;unfold upd;split <;> rfl
theorem C2 {H:Hp} {a b:Addr} {o u:HO} (h:H a=some o) (h':H b=some u) (d:o ≠ u):a ≠ b:=by
 intro e;subst e;rw [h] at h';exact d (Zm h')
theorem d7 {H:Hp} {a b:Addr} {o:HO} (h:H a=some o) (h':H b=none):a ≠ b:=by
 intro e;subst e;rw [h] at h';cases h'
noncomputable def NoD (h:Heap) (a:Addr):Prop:=∀ o,h.get? a=some o->o.dict=none
theorem NoD.new (h:Heap) (its:Array Value):NoD (h.push { cls:=.type "tuple",data:=.seq its }) h.objs.size:=fun o e=>by
 rw [ZV _ rfl] at e
 cases e
 rfl
theorem NoD.of {h:Heap} {a:Addr} {o:Obj} (e:h.get? a=some o) (d:o.dict=none):NoD h a:=fun o' e'=>by
 rw [e] at e'
 cases e'
 exact d
section
variable (P:Program) (w:World)
noncomputable def bN (H:Hp) (h:Heap) (a:Addr):HO->Prop
 | .lst xs=>xs.length<=sizeLine/\∃ (its:Wy) (n:Nat),aN xs its/\h.get? a=some { cls:=.type "list",data:=.seq its.toArray n }
 | .tup xs=>xs.length<=sizeLine/\∃ its:Wy,aN xs its/\NoD h a/\IsTup h a its.toArray
 | .dK kvs=>kvs.length<=sizeLine/\(a == sysModules)=false/\∃ vs,KV kvs vs/\h.DictOf (aJ P w) a vs
 | .dT kvs=>kvs.length<=sizeLine/\(a == sysModules)=false/\∃ xs:List (List Key×Addr×Value),
   Paired (fun (p:List Key×V) (q:List Key×Addr×Value)=>p.1=q.1/\H q.2.1=some (.tup (p.1.map kV))/\RelV p.2 q.2.2) kvs xs ∧
   ∃ o es ep,h.get? a=some o/\o.ExactDict/\o.data=.dict es ep/\es.toList=xs.map (entryOfKey (tupleKind (aJ P w)))/\(xs.map (·.1)).Nodup
 | .set S n=>h.SetOf (intKind P w) a S n
 | .ins C dx fs=>H dx=some (.own a)/\fs.length<=1000/\dx ≠ a/\h.get? a=some (PySem.W.instObj C dx) ∧
   ∃ mA,h.Ns1 dx mA/\(∀ f,ik (fs.lookup f) (mA f))/\PySem.Within mA (fs.map (·.1))
 | .own _=>∃ o,h.get? a=some o
 | .xd fs=>∃ mA,h.Ns1 a mA/\∀ f,ik (fs.lookup f) (mA f)
 | .rng lo hi=>∃ t u v,h.get? a=some { cls:=.type "range",data:=.fields #[.int lo t,.int hi u,.int 1 v] }
 | .frz o u=>h.get? a=some o/\bN H h a u
 | .tbl ps=>h.get? a=some { cls:=.none,data:=.fields ps }
 | .met f x=>h.get? a=some (PySem.W.methodObj (.ref f) (.ref x))
 | .ext φ=>φ h/\(∃ o,h.get? a=some o)/\∀ h1 h2:Heap,φ h1->(∀ o,h1.get? a=some o->h2.get? a=some o)->φ h2
noncomputable def HOk (H:Hp) (h:Heap):Prop:=∀ a o,H a=some o->bN P w H h a o
end
section
variable {P:Program} {w:World} {H H':Hp} {h h':Heap} {a:Addr} {o:HO}
theorem bN.lt (x:bN P w H h a o):a < h.objs.size:=by
 cases o with
 | lst xs=>obtain ⟨_,_,_,_,e⟩:=x;exact ZR e
 | tup xs=>obtain ⟨_,_,_,_,p⟩:=x;exact p.lt
 | dK kvs=>obtain ⟨_,_,_,_,o,_,_,e,_⟩:=x;exact ZR e
 | dT kvs=>obtain ⟨_,_,_,_,o,_,_,e,_⟩:=x;exact ZR e
 | set S n=>obtain ⟨o,_,_,_,e,_⟩:=x;exact ZR e
 | ins C dx fs=>obtain ⟨_,_,_,e,_⟩:=x;exact ZR e
 | own y=>obtain ⟨_,e⟩:=x;exact ZR e
 | xd fs=>obtain ⟨_,⟨_,_,_,e,_⟩,_⟩:=x;exact ZR e
 | rng lo hi=>obtain ⟨_,_,_,e⟩:=x;exact ZR e
 | frz ob u=>obtain ⟨e,_⟩:=x;exact ZR e
 | tbl ps=>exact ZR (show h.get? a=some _ from x)
 | met f y=>exact ZR (show h.get? a=some _ from x)
 | ext φ=>obtain ⟨_,⟨_,e⟩,_⟩:=x;exact ZR e
theorem Paired.mapP {α β:Type} {F G:α->β->Prop}:∀ {l₁:List α} {l₂:List β},Paired F l₁ l₂->(∀ a b,F a b->G a b)->Paired G l₁ l₂
 | _,_,.nil,_=>.nil
 | _,_,.cons r t,f=>.cons (f _ _ r) (Paired.mapP t f)
theorem bN.stay (x:bN P w H h a o) (k:∀ b u,(b=a\/H b=some (.own a))->h.get? b=some u->h'.get? b=some u)
  (ho:∀ b,H b=some (.own a)->H' b=some (.own a)) (ht:∀ b xs,H b=some (.tup xs)->H' b=some (.tup xs)):bN P w H' h' a o:=by
 induction o with
 | lst xs=>obtain ⟨z,its,n,r,e⟩:=x;exact ⟨z,its,n,r,k _ _ (.inl rfl) e⟩
 | tup xs=>obtain ⟨z,its,r,nd,ob,e,c⟩:=x;exact ⟨z,its,r,NoD.of (k _ _ (.inl rfl) e) (nd _ e),ob,k _ _ (.inl rfl) e,c⟩
 | dK kvs=>obtain ⟨z,y,vs,r,ob,es,ep,e,c⟩:=x;exact ⟨z,y,vs,r,ob,es,ep,k _ _ (.inl rfl) e,c⟩
 | dT kvs =>
  obtain ⟨z,y,xs,r,ob,es,ep,e,c⟩:=x
  exact ⟨z,y,xs,Paired.mapP r fun p q z=>⟨z.1,ht _ _ z.2.1,z.2.2⟩,ob,es,ep,k _ _ (.inl rfl) e,c⟩
 | set S n=>obtain ⟨ob,es,ep,t,e,c⟩:=x;exact ⟨ob,es,ep,t,k _ _ (.inl rfl) e,c⟩
 | ins C dx fs =>
  obtain ⟨d,z,ne,e,mA,⟨od,es,ep,e2,c⟩,r⟩:=x
  exact ⟨ho _ d,z,ne,k _ _ (.inl rfl) e,mA,⟨od,es,ep,k _ _ (.inr d) e2,c⟩,r⟩
 | own y=>obtain ⟨ob,e⟩:=x;exact ⟨ob,k _ _ (.inl rfl) e⟩
 | xd fs=>obtain ⟨mA,⟨od,es,ep,e,c⟩,r⟩:=x;exact ⟨mA,⟨od,es,ep,k _ _ (.inl rfl) e,c⟩,r⟩
 | rng lo hi=>obtain ⟨t,u,v,e⟩:=x;exact ⟨t,u,v,k _ _ (.inl rfl) e⟩
 | frz ob u ih=>obtain ⟨e,q⟩:=x;exact ⟨k _ _ (.inl rfl) e,ih q⟩
 | tbl ps =>
  have e:h.get? a=some { cls:=.none,data:=.fields ps }:=x
  show h'.get? a=some { cls:=.none,data:=.fields ps }
  exact k a _ (.inl rfl) e
 | met f y =>
  have e:h.get? a=some (PySem.W.methodObj (.ref f) (.ref y)):=x
  show h'.get? a=some (PySem.W.methodObj (.ref f) (.ref y))
  exact k a _ (.inl rfl) e
 | ext φ=>obtain ⟨p,⟨o,e⟩,st⟩:=x;exact ⟨st _ _ p fun o q=>k _ _ (.inl rfl) q,⟨o,k _ _ (.inl rfl) e⟩,st⟩
theorem HOk.lt (x:HOk P w H h) (e:H a=some o):a < h.objs.size:=(x a o e).lt
theorem HOk.fresh (x:HOk P w H h) (e:h.objs.size<=a):H a=none:=by
 cases q:H a with
 | none=>rfl
 | some u=>exact absurd (ZQ (x.lt q) e) (Yl _)
theorem HOk.kept (x:HOk P w H h) (k:∀ b u,h.get? b=some u->h'.get? b=some u):HOk P w H h':=fun a o e =>
 (x a o e).stay (fun b u _ q=>k b u q) (fun _ q=>q) fun _ _ q=>q
theorem HOk.laid (x:HOk P w H h) (k:∀ b u,h.get? b=some u->h'.get? b=some u) (hp:h.objs.size<=a) (new:bN P w (upd H a o) h' a o):HOk P w (upd H a o) h':=fun b u e=>by
 have hn:=x.fresh hp
 by_cases hb:b=a
 ·subst hb;rw [ax] at e;cases e;exact new
 ·rw [aD hb] at e
  exact (x b u e).stay (fun c v _ q=>k c v q) (fun c q=>by rw [aD (d7 q hn)];exact q) fun c xs q=>by rw [aD (d7 q hn)];exact q
end
noncomputable def Rd (H:Hp) (a:Addr) (u:HO):Prop:=H a=some u\/∃ o,H a=some (.frz o u)
theorem Rd.ok {P:Program} {w:World} {H:Hp} {h:Heap} {a:Addr} {u:HO} (r:Rd H a u) (x:HOk P w H h):bN P w H h a u:=by
 rcases r with r | ⟨o,r⟩
 ·exact x a u r
 ·obtain ⟨_,q⟩:=x a _ r
  exact q
noncomputable def Mut:Option HO->Prop
 | some (.lst _)=>True
 | some (.dK _)=>True
 | some (.dT _)=>True
 | some (.set _ _)=>True
 | some (.ins _ _ _)=>True
 | some (.ext _)=>True
 | _=>False
section
variable {P:Program} {w:World} {H:Hp} {h h':Heap} {x e:Addr} {o':HO}
theorem HOk.write (ok:HOk P w H h) (mu:Mut (H x)) (he:e=x\/H e=some (.own x)) (k:∀ b u,b ≠ e->h.get? b=some u->h'.get? b=some u) (heo:∃ u,h'.get? e=some u)
  (new:bN P w (upd H x o') h' x o'):HOk P w (upd H x o') h':=fun b u q=>by
 have nown:∀ c y,H c=some (.own y)->c ≠ x:=fun c y r z=>by subst z;rw [r] at mu;exact mu
 have ntup:∀ c xs,H c=some (.tup xs)->c ≠ x:=fun c xs r z=>by subst z;rw [r] at mu;exact mu
 by_cases hb:b=x
 ·subst hb;rw [ax] at q;cases q;exact new
 ·rw [aD hb] at q
  by_cases hbe:b=e
  ·have q':H b=some (.own x):=by
    rcases he with z | z
    ·exact absurd (hbe.trans z) hb
    ·rw [hbe];exact z
   rw [q] at q';cases q'
   obtain ⟨v,hv⟩:=heo
   exact ⟨v,by rw [hbe];exact hv⟩
  ·refine (ok b u q).stay (fun c v hc r=>k c v ?_ r) (fun c r=>by rw [aD (nown c b r)];exact r) fun c xs r=>by rw [aD (ntup c xs r)];exact r
   rcases hc with rfl | hc
   ·exact hbe
   ·rintro rfl
    rcases he with z | z
    ·exact nown c b hc z
    ·rw [hc] at z;cases z;exact hb rfl
end
structure Un (fs ex:Wz) (H H':Hp) (h h':Heap):Prop where
 keep:∀ b o,h.get? b=some o->H b=none->b ∉ fs->b ∉ ex->h'.get? b=some o
 slot:∀ b o,h.get? b=some o->H b=none->b∈fs->b ∉ ex->∃ sl,h'.get? b=some { o with slots:=sl }
 free:∀ b o,h.get? b=some o->H b=none->b ∉ ex->H' b=none
 there:∀ b o,h.get? b=some o->b ∉ ex->∃ o',h'.get? b=some o'
 tups:∀ b xs,H b=some (.tup xs)->H' b=some (.tup xs)
 frzs:∀ b o u,H b=some (.frz o u)->H' b=some (.frz o u)
 tbls:∀ b ps,H b=some (.tbl ps)->∃ more,H' b=some (.tbl (ps++more))
section
variable {fs fs' ex ex':Wz} {H H1 H2:Hp} {h h1 h2 h':Heap} {a x e:Addr} {o:HO}
theorem Un.any (u:Un fs ex H H1 h h1) {b:Addr} {ob:Obj} (q:h.get? b=some ob) (n:H b=none) (hx:b ∉ ex):∃ sl,h1.get? b=some { ob with slots:=sl }:=by
 by_cases hb:b∈fs
 ·exact u.slot b ob q n hb hx
 ·exact ⟨ob.slots,u.keep b ob q n hb hx⟩
theorem Un.kept (k:∀ b u,h.get? b=some u->h'.get? b=some u):Un fs ex H H h h' :=
 ⟨fun b ob q _ _ _=>k b ob q,fun b ob q _ _ _=>⟨ob.slots,k b ob q⟩,fun _ _ _ n _=>n,fun b ob q _=>⟨ob,k b ob q⟩,fun _ _ q=>q,fun _ _ _ q=>q,fun _ ps q=>⟨#[],by rw [q];simp⟩⟩
theorem Un.refl:Un fs ex H H h h:=Un.kept fun _ _ q=>q
theorem Un.laid (k:∀ b u,h.get? b=some u->h'.get? b=some u) (hp:h.objs.size<=a) (hn:H a=none):Un fs ex H (upd H a o) h h' where
 keep:=fun b u q _ _ _=>k b u q
 slot:=fun b u q _ _ _=>⟨u.slots,k b u q⟩
 free:=fun b u q n _=>by rw [aD (ZY (ZQ (ZR q) hp))];exact n
 there:=fun b u q _=>⟨u,k b u q⟩
 tups:=fun b xs q=>by rw [aD (d7 q hn)];exact q
 frzs:=fun b u xs q=>by rw [aD (d7 q hn)];exact q
 tbls:=fun b ps q=>⟨#[],by rw [aD (d7 q hn),q];simp⟩
theorem Un.write (mu:Mut (H x)) (he:e=x\/H e=some (.own x)) (k:∀ b u,b ≠ e->h.get? b=some u->h'.get? b=some u) (heo:∃ u,h'.get? e=some u):Un fs ex H (upd H x o) h h':=by
 have hx:∀ b,H b=none->b ≠ x:=fun b n z=>by subst z;rw [n] at mu;exact mu
 have hb:∀ b,H b=none->b ≠ e:=fun b n z=>by
  subst z
  rcases he with r | r
  ·exact hx b n r
  ·rw [n] at r;cases r
 have hm:∀ b u,H b=some u->¬ Mut (some u)->b ≠ x:=fun b u q nm z=>by subst z;rw [q] at mu;exact nm mu
 refine ⟨fun b u q n _ _=>k b u (hb b n) q,fun b u q n _ _=>⟨u.slots,k b u (hb b n) q⟩,fun b u q n _=>by rw [aD (hx b n)];exact n,fun b u q _=>?_,
  fun b xs q=>by rw [aD (hm b _ q fun z=>z)];exact q,fun b u xs q=>by rw [aD (hm b _ q fun z=>z)];exact q,fun b ps q=>⟨#[],by rw [aD (hm b _ q fun z=>z),q];simp⟩⟩
 by_cases hbe:b=e
 ·subst hbe;exact heo
 ·exact ⟨u,k b u hbe q⟩
end
noncomputable def trk (h:Heap) (H:Hp):Wz:=(List.range h.objs.size).filter fun a=>(H a).isSome
noncomputable def oE (h:Heap) (H:Hp):Heap:=PySem.W.hideAll h (trk h H)
theorem uC (h:Heap) (H:Hp):(oE h H).objs.size=h.objs.size:=PySem.W.hideAll_size _ _
theorem vL {h:Heap} {H:Hp} {b:Addr} {o:Obj} (e:h.get? b=some o) (n:H b=none):(oE h H).get? b=some o :=
 PySem.W.hideAll_get _ e fun hm=>by
  have q:(H b).isSome=true:=(YQ.mp hm).2
  rw [n] at q;simp at q
theorem Ab {h:Heap} {H:Hp} {b:Addr} {o:Obj} (e:(oE h H).get? b=some o):h.get? b=some o/\H b=none:=by
 have e':h.get? b=some o:=PySem.W.of_hideAll (trk h H) e
 refine ⟨e',?_⟩
 cases q:H b with
 | none=>rfl
 | some x =>
  have hm:b∈trk h H:=YQ.mpr ⟨YK.mpr (ZR e'),by simp [q]⟩
  have z:(oE h H).get? b=none:=PySem.W.hideAll_none (trk h H) hm
  rw [z] at e;cases e
noncomputable def yA (g h:Heap) (L:Addr):Y7:=(List.range h.objs.size).filterMap fun a=>if a=L\/(g.get? a).isSome=true then none else (h.get? a).map fun o=>(a,o)
noncomputable def rest (g h:Heap) (L d:Addr):Y7:=(yA g h L).filter fun p=>decide (p.1 ≠ d)
structure Mod (K:X8) (mg:X9) (base:Heap):Prop where
 kin:K.In base
 glob:base.Ns mainGlobals mg
 blt:∃ mb,base.Ns builtinsNs mb/\∀ x:Str,x ≠ "__name__" → mb x=bootBuiltins x
 nolimit:base.NoLimit
structure Cx where
 prog:Program
 w:World
 K:X8
 mg:X9
 base:Heap
 A:Around
 N:List Str
 s₀:Shared
 H₀:Hp
 env:Env
 outer:List Env
 stack:List Env
 ex:Wz
 fn:Str->Bool
 calm:Bool
 pn:Y7
 xe:Z4
noncomputable def frs (l:List Env):Wz:=l.filterMap (·.frame)
noncomputable abbrev Cx.fs (X:Cx):Wz:=frs X.outer
noncomputable def Vis (sc:Scope) (x:Str):Prop:=sc.names.lookup x=some .local\/sc.names.lookup x=some .cell\/sc.names.lookup x=some .free
noncomputable def Loc (sc:Scope) (x:Str):Prop:=sc.names.lookup x=some .local\/sc.names.lookup x=some .cell
noncomputable def Look (env:Env) (h:Heap) (m:X9) (x:Str) (u:Value):Prop :=
 (env.kindOf x=some .local/\m x=some u)\/((env.kindOf x=some .cell\/env.kindOf x=some .free)/\∃ c,env.cells.lookup x=some c/\h.IsCell c (some u))
structure Cx.Ok (X:Cx):Prop where
 mod:Mod X.K X.mg X.base
 kind:X.env.scope.kind=.function
 glob:X.env.globals=mainGlobals
 blt:X.env.builtins=builtinsNs
 above:X.s₀.heap.objs.size<=X.env.locals
 inj:∀ x y c,X.env.cells.lookup x=some c->X.env.cells.lookup y=some c->x=y
 has:∀ x,(X.env.kindOf x=some .cell\/X.env.kindOf x=some .free)->∃ c,X.env.cells.lookup x=some c
 cab:∀ x c,X.fn x=true->X.env.cells.lookup x=some c->X.s₀.heap.objs.size<=c
 hd:X.calm=true->X.A.handled=none
 frames:X.A.frames=some X.stack
 stk:X.stack=X.outer\/(X.stack=X.env :: X.outer/\X.env.frame=some X.env.locals)
 exf:∀ b∈X.ex,b ≠ X.env.locals/\∀ x c,X.env.cells.lookup x=some c->c ≠ b
 bs:∀ b o,X.base.get? b=some o->X.s₀.heap.get? b=some o/\X.H₀ b=none
 bsz:X.base.objs.size<=X.s₀.heap.objs.size
 noex:∀ b o,X.base.get? b=some o->b ∉ X.ex
 exfs:∀ b∈X.ex,b ∉ X.fs
 funs:X.s₀.heap.FunFrames X.base X.outer
 frf:∀ b∈X.fs,X.H₀ b=none
structure Inv (X:Cx) (pins:Y7) (σ:List (Option V)) (H:Hp) (s:Shared):Prop where
 ok:X.Ok
 os:s.os=X.s₀.os
 bare:AllBare s.gens
 base:Un X.fs X.ex X.H₀ H X.s₀.heap s.heap
 loc:∃ m,s.heap.Ns X.env.locals m/\∀ (i:Nat) (x:Str) (v:V),X.N[i]?=some x->σ[i]?=some (some v)->Vis X.env.scope x->∃ u,RelV v u/\Look X.env s.heap m x u
 cell:∀ x c,X.env.cells.lookup x=some c->∃ v,s.heap.IsCell c v
 free:H X.env.locals=none
 freeC:∀ x c,X.env.cells.lookup x=some c->H c=none
 pin:∀ p∈X.pn++pins,s.heap.get? p.1=some p.2/\H p.1=none/\p.1 ≠ X.env.locals/\p.1 ∉ X.fs/\∀ v,p.2.data ≠ .cell v
 hok:HOk X.prog X.w H s.heap
 len:σ.length=X.N.length
section
variable {X:Cx} {pins:Y7} {σ:List (Option V)} {H H':Hp} {s:Shared} {h':Heap}
theorem Cx.Ok.nofr (ok:X.Ok) {b:Addr} {o:Obj} (e:X.base.get? b=some o):b ∉ X.fs:=fun hb=>by
 have:=(ok.funs.mem hb).1
 rw [e] at this;cases this
theorem Inv.bs (I:Inv X pins σ H s):∀ b o,X.base.get? b=some o->s.heap.get? b=some o/\H b=none:=fun b o e =>
 ⟨I.base.keep b o (I.ok.bs b o e).1 (I.ok.bs b o e).2 (I.ok.nofr e) (I.ok.noex b o e),I.base.free b o (I.ok.bs b o e).1 (I.ok.bs b o e).2 (I.ok.noex b o e)⟩
theorem Inv.bk (I:Inv X pins σ H s):∀ b o,X.base.get? b=some o->s.heap.get? b=some o:=fun b o e=>(I.bs b o e).1
theorem Inv.mod (I:Inv X pins σ H s):Mod X.K X.mg X.base:=I.ok.mod
theorem Inv.kIn (I:Inv X pins σ H s):X.K.In s.heap:=I.ok.mod.kin.keeps I.bk
theorem Inv.lt (I:Inv X pins σ H s):X.env.locals < s.heap.objs.size:=let ⟨_,hn,_⟩:=I.loc;hn.lt
theorem Inv.sz (I:Inv X pins σ H s):X.s₀.heap.objs.size<=s.heap.objs.size:=ZI I.ok.above (XD I.lt)
theorem Inv.nofs (I:Inv X pins σ H s) {a:Addr} (h:s.heap.objs.size<=a):a ∉ X.fs:=fun hb=>by
 obtain ⟨_,o,ho,_⟩:=I.ok.funs.mem hb
 exact absurd (ZQ (ZR ho) (ZI I.sz h)) (Yl _)
theorem Inv.cne (I:Inv X pins σ H s):∀ x c,X.env.cells.lookup x=some c->c ≠ X.env.locals:=fun x c e z=>by
 obtain ⟨v,o,ho,hd⟩:=I.cell x c e
 obtain ⟨m,⟨o',es,ep,ho',hd',_⟩,_⟩:=I.loc
 rw [z,ho'] at ho;cases ho;rw [hd'] at hd;cases hd
theorem Inv.funs (I:Inv X pins σ H s):s.heap.FunFrames X.base X.outer:=by
 have all:∀ (l:List Env),(∀ b∈frs l,b∈X.fs)->X.s₀.heap.FunFrames X.base l->s.heap.FunFrames X.base l:=by
  intro l
  induction l with
  | nil=>intro _ _;trivial
  | cons env r ih =>
   intro hs hl
   obtain ⟨hk,⟨L,o,hf,hn,ho,hd⟩,hr⟩:=hl
   have hL:L∈X.fs:=hs L (by unfold frs;rw [XU,hf];exact Zt)
   obtain ⟨sl,e⟩:=I.base.slot L o ho (I.ok.frf L hL) hL fun z=>I.ok.exfs L z hL
   exact ⟨hk,⟨L,_,hf,hn,e,hd⟩,ih (fun b hb=>hs b (by unfold frs;rw [XU,hf];exact Zu _ hb)) hr⟩
 exact all X.outer (fun _ hb=>hb) I.ok.funs
theorem Inv.stack (I:Inv X pins σ H s):s.heap.FunFrames X.base X.stack:=by
 rcases I.ok.stk with e | ⟨e,hf⟩
 ·rw [e];exact I.funs
 ·rw [e]
  obtain ⟨m,hn,_⟩:=I.loc
  refine .cons (by rw [I.ok.kind];decide) hf hn ?_ I.funs
  exact Heap.get?_none_of_le (ZI I.ok.bsz I.ok.above)
theorem Inv.stkSub (I:Inv X pins σ H s):∀ b∈frs X.stack,b∈X.env.locals :: X.fs:=fun b hb=>by
 rcases I.ok.stk with e | ⟨e,hf⟩
 ·rw [e] at hb;exact Zu _ hb
 ·rw [e] at hb
  unfold frs at hb
  rw [XU,hf] at hb
  exact hb
theorem Inv.stkFree (I:Inv X pins σ H s):∀ b∈frs X.stack,H b=none:=fun b hb=>by
 rcases Zj.mp (I.stkSub b hb) with e | hb
 ·rw [e];exact I.free
 ·obtain ⟨_,o,ho,_⟩:=I.ok.funs.mem hb
  exact I.base.free b o ho (I.ok.frf b hb) fun z=>I.ok.exfs b z hb
theorem Inv.step {g':Array GenState} {t':Nat} {d':Drawn} {ch:Wz} (I:Inv X pins σ H s)
  (hch:∀ b∈ch,(b∈X.ex\/X.s₀.heap.objs.size<=b)/\b ≠ X.env.locals/\(∀ x c,X.env.cells.lookup x=some c->c ≠ b)/\∀ p∈X.pn++pins,p.1 ≠ b)
  (keep:∀ b o,b ≠ X.env.locals->b ∉ X.fs->b ∉ ch->s.heap.get? b=some o->H b=none->h'.get? b=some o)
  (slot:∀ b o,b ≠ X.env.locals->b∈X.fs->b ∉ ch->s.heap.get? b=some o->H b=none->∃ sl,h'.get? b=some { o with slots:=sl }) (free:∀ b o,b ∉ ch->s.heap.get? b=some o->H b=none->H' b=none)
  (there:∀ b o,b ∉ ch->s.heap.get? b=some o->∃ o',h'.get? b=some o')
  (tups:∀ b xs,H b=some (.tup xs)->H' b=some (.tup xs)) (frzs:∀ b o u,H b=some (.frz o u)->H' b=some (.frz o u)) (tbls:∀ b ps,H b=some (.tbl ps)->∃ more,H' b=some (.tbl (ps++more)))
  (ns:∀ m,s.heap.Ns X.env.locals m->h'.Ns X.env.locals m) (hok:HOk X.prog X.w H' h') (hg:AllBare g') :
  Inv X pins σ H' { s with heap:=h',gens:=g',drawn:=d',toks:=t' }:=by
 have neL:∀ b o,X.s₀.heap.get? b=some o->b ≠ X.env.locals:=fun b o e=>ZY (ZQ (ZR e) I.ok.above)
 have neC:∀ b o,X.s₀.heap.get? b=some o->b ∉ X.ex->b ∉ ch:=fun b o e hx hb=>by
  rcases (hch b hb).1 with z | z
  ·exact hx z
  ·exact absurd (ZQ (ZR e) z) (Yl _)
 have cellK:∀ x c,X.env.cells.lookup x=some c->∀ v,s.heap.IsCell c v->h'.IsCell c v:=fun x c e v ⟨o,ho,hd⟩=>by
  have nch:c ∉ ch:=fun z=>(hch c z).2.2.1 x c e rfl
  by_cases hc:c∈X.fs
  ·obtain ⟨sl,q⟩:=slot c o (I.cne x c e) hc nch ho (I.freeC x c e)
   exact ⟨_,q,hd⟩
  ·exact ⟨o,keep c o (I.cne x c e) hc nch ho (I.freeC x c e),hd⟩
 refine ⟨I.ok,I.os,hg,⟨fun b o e n hb hx=>?_,fun b o e n hb hx=>?_,fun b o e n hx=>?_,fun b o e hx=>?_,fun b xs e=>tups b xs (I.base.tups b xs e),fun b o xs e=>frzs b o xs (I.base.frzs b o xs e),fun b ps e=>?_⟩,?_,fun x c e=>?_,?_,fun x c e=>?_,fun p hp=>?_,hok,I.len⟩
 ·exact keep b o (neL b o e) hb (neC b o e hx) (I.base.keep b o e n hb hx) (I.base.free b o e n hx)
 ·obtain ⟨sl,e1⟩:=I.base.slot b o e n hb hx
  obtain ⟨sl',e2⟩:=slot b _ (neL b o e) hb (neC b o e hx) e1 (I.base.free b o e n hx)
  exact ⟨sl',e2⟩
 ·obtain ⟨o',e1⟩:=I.base.there b o e hx
  exact free b o' (neC b o e hx) e1 (I.base.free b o e n hx)
 ·obtain ⟨o',e1⟩:=I.base.there b o e hx
  exact there b o' (neC b o e hx) e1
 ·obtain ⟨m1,e1⟩:=I.base.tbls b ps e
  obtain ⟨m2,e2⟩:=tbls b _ e1
  exact ⟨m1++m2,by rw [e2,Array.append_assoc]⟩
 ·obtain ⟨m,hn,hl⟩:=I.loc
  refine ⟨m,ns m hn,fun i x v e1 e2 e3=>?_⟩
  obtain ⟨u,r,l⟩:=hl i x v e1 e2 e3
  refine ⟨u,r,?_⟩
  rcases l with l | ⟨k,c,e,z⟩
  ·exact .inl l
  ·exact .inr ⟨k,c,e,cellK x c e _ z⟩
 ·obtain ⟨v,z⟩:=I.cell x c e
  exact ⟨v,cellK x c e v z⟩
 ·obtain ⟨m,⟨o,_,_,ho,_⟩,_⟩:=I.loc
  exact free _ o (fun z=>(hch _ z).2.1 rfl) ho I.free
 ·obtain ⟨v,o,ho,hd⟩:=I.cell x c e
  exact free c o (fun z=>(hch c z).2.2.1 x c e rfl) ho (I.freeC x c e)
 ·obtain ⟨e,n,ne,nf,d⟩:=I.pin p hp
  have nch:p.1 ∉ ch:=fun z=>(hch p.1 z).2.2.2 p hp rfl
  exact ⟨keep p.1 p.2 ne nf nch e n,free p.1 p.2 nch e n,ne,nf,d⟩
theorem Inv.un {t':Nat} (I:Inv X pins σ H s) (u:Un X.fs [] H H' s.heap h') (hok:HOk X.prog X.w H' h'):Inv X pins σ H' { s with heap:=h',toks:=t' }:=by
 obtain ⟨m,⟨o,es,ep,ho,r⟩,_⟩:=id I.loc
 obtain ⟨sl,hL⟩:=u.any ho I.free (by simp)
 exact I.step (g':=s.gens) (d':=s.drawn) (ch:=[]) (fun _ z=>nomatch z) (fun b o _ hb _ e n=>u.keep b o e n hb (by simp)) (fun b o _ hb _ e n=>u.slot b o e n hb (by simp)) (fun b o _ e n=>u.free b o e n (by simp)) (fun b o _ e=>u.there b o e (by simp)) u.tups u.frzs u.tbls (fun m' hm=>by
  obtain ⟨o',es',ep',ho',r'⟩:=hm
  rw [ho] at ho';cases ho'
  exact ⟨_,es',ep',hL,r'⟩) hok I.bare
theorem Inv.call {g':Array GenState} {t':Nat} {d':Drawn} {ch:Wz} (I:Inv X pins σ H s) (u:Un (frs X.stack) ch H H' s.heap h') (hok:HOk X.prog X.w H' h') (hg:AllBare g')
  (hch:∀ b∈ch,(b∈X.ex\/X.s₀.heap.objs.size<=b)/\b ≠ X.env.locals/\(∀ x c,X.env.cells.lookup x=some c->c ≠ b)/\∀ p∈X.pn++pins,p.1 ≠ b) :
  Inv X pins σ H' { s with heap:=h',gens:=g',drawn:=d',toks:=t' }:=by
 obtain ⟨m,⟨o,es,ep,ho,r⟩,_⟩:=id I.loc
 obtain ⟨sl,hL⟩:=u.any ho I.free fun z=>(hch _ z).2.1 rfl
 exact I.step (ch:=ch) hch (fun b o hL hb hc e n=>u.keep b o e n (fun z=>(Zj.mp (I.stkSub b z)).elim hL hb) hc) (fun b o _ _ hc e n=>u.any e n hc) (fun b o hc e n=>u.free b o e n hc) (fun b o hc e=>u.there b o e hc) u.tups u.frzs u.tbls (fun m' hm=>by
  obtain ⟨o',es',ep',ho',r'⟩:=hm
  rw [ho] at ho';cases ho'
  exact ⟨_,es',ep',hL,r'⟩) hok hg
theorem Inv.turned {t':Nat} {it:Addr} (I:Inv X pins σ H s) (k:∀ b o,b ≠ it->s.heap.get? b=some o->h'.get? b=some o) (hn:H it=none) (hL:it ≠ X.env.locals)
  (h1:it∈X.ex\/X.s₀.heap.objs.size<=it) (h2:∀ x c,X.env.cells.lookup x=some c->c ≠ it) (h3:∀ p∈X.pn++pins,p.1 ≠ it):Inv X pins σ H { s with heap:=h',toks:=t' }:=by
 have nit:∀ b u,H b=some u->b ≠ it:=fun b u e z=>by rw [z,hn] at e;cases e
 refine I.step (g':=s.gens) (d':=s.drawn) (ch:=[it]) (fun b hb=>?_) (fun b o _ _ hc e _=>k b o (fun z=>hc (by simp [z])) e) (fun b o _ _ hc e _=>⟨o.slots,k b o (fun z=>hc (by simp [z])) e⟩) (fun _ _ _ _ n=>n)
  (fun b o hc e=>⟨o,k b o (fun z=>hc (by simp [z])) e⟩) (fun _ _ e=>e) (fun _ _ _ e=>e) (fun b ps e=>⟨#[],by rw [e];simp⟩) (fun m hm=>?_) (fun b u e=>?_) I.bare
 ·have e:b=it:=by simpa using hb
  subst e
  exact ⟨h1,hL,h2,h3⟩
 ·obtain ⟨o,es,ep,ho,r⟩:=hm
  exact ⟨o,es,ep,k _ o (Yh hL) ho,r⟩
 ·refine (I.hok b u e).stay (fun c v hc q=>k c v ?_ q) (fun _ q=>q) fun _ _ q=>q
  rcases hc with z | z
  ·rw [z];exact nit b u e
  ·exact nit c _ z
theorem Inv.tok (I:Inv X pins σ H s) (t:Nat):Inv X pins σ H { s with toks:=t }:=I.un (h':=s.heap) (t':=t) Un.refl I.hok
theorem Inv.kept {t':Nat} (I:Inv X pins σ H s) (k:∀ b u,s.heap.get? b=some u->h'.get? b=some u):Inv X pins σ H { s with heap:=h',toks:=t' }:=I.un (Un.kept k) (I.hok.kept k)
theorem Inv.laid {a:Addr} {o:HO} {t':Nat} (I:Inv X pins σ H s) (k:∀ b u,s.heap.get? b=some u->h'.get? b=some u) (hp:s.heap.objs.size<=a) (new:bN X.prog X.w (upd H a o) h' a o) :
  Inv X pins σ (upd H a o) { s with heap:=h',toks:=t' }:=I.un (Un.laid k hp (I.hok.fresh hp)) (I.hok.laid k hp new)
theorem Inv.write {x e:Addr} {o:HO} {t':Nat} (I:Inv X pins σ H s) (mu:Mut (H x)) (he:e=x\/H e=some (.own x)) (k:∀ b u,b ≠ e->s.heap.get? b=some u->h'.get? b=some u) (heo:∃ u,h'.get? e=some u)
  (new:bN X.prog X.w (upd H x o) h' x o):Inv X pins σ (upd H x o) { s with heap:=h',toks:=t' }:=I.un (Un.write mu he k heo) (I.hok.write mu he k heo new)
theorem Inv.pins_of {pins':Y7} (I:Inv X pins σ H s) (h:∀ p∈pins',s.heap.get? p.1=some p.2/\H p.1=none/\p.1 ≠ X.env.locals/\p.1 ∉ X.fs/\∀ v,p.2.data ≠ .cell v):Inv X pins' σ H s :=
 ⟨I.ok,I.os,I.bare,I.base,I.loc,I.cell,I.free,I.freeC,fun p hp=>(Zb.mp hp).elim (fun z=>I.pin p (Yo _ z)) (h p),I.hok,I.len⟩
theorem pT {N:List Str} (hN:N.Nodup) {i j:Nat} {x:Str} (a:N[i]?=some x) (b:N[j]?=some x):i=j:=by
 obtain ⟨h1,e1⟩:=Zh.mp a
 obtain ⟨h2,e2⟩:=Zh.mp b
 exact (List.getElem_inj hN).mp (e1.trans e2.symm)
theorem uD {M:Model} {A:Around} {E:Z4} {i:Nat} {x:Str} {v:V} {u:Value} {Q:Unit->Shared->Prop} (I:Inv X pins σ H s) (hN:X.N.Nodup) (hi:X.N[i]?=some x) (hx:Loc X.env.scope x) (r:RelV v u)
  (h:∀ s',Inv X pins (σ.set i (some v)) H s'->(∃ a,Heap.SameBut a s.heap s'.heap/\(a=X.env.locals\/X.env.cells.lookup x=some a))->Q () s') (hf:X.fn x=true\/X.env.scope.names.lookup x=some .local:=by first | exact .inl rfl | exact .inr rfl | assumption):wpAny M A (storeName X.env x u) Q E s:=by
 obtain ⟨m,hn,hl⟩:=id I.loc
 have hcls:(X.env.scope.kind == .class || (X.env.scope.kind == .module && X.env.locals != X.env.globals))=false:=by rw [I.ok.kind];rfl
 have hiσ:i < σ.length:=by rw [I.len];exact (Zh.mp hi).1
 have cne:=I.cne
 have tracked:∀ {a:Addr} {h':Heap},(∃ o,s.heap.get? a=some o/\H a=none)->Heap.SameBut a s.heap h'->HOk X.prog X.w H h':=fun {a h'} ha hs b ob e=>by
  obtain ⟨_,_,hfree⟩:=ha
  refine (I.hok b ob e).stay (fun c w' hc q=>(hs.2 c ?_).trans q) (fun _ q=>q) fun _ _ q=>q
  rintro rfl
  rcases hc with rfl | hc
  ·rw [hfree] at e;cases e
  ·rw [hfree] at hc;cases hc
 rcases hx with hk | hk
 ·refine wpAny_storeName_local hk hn (fun h' hn' hs=>?_) hcls
  obtain ⟨oL,_,_,hoL,_⟩:=id hn
  refine h _ ⟨I.ok,I.os,I.bare,⟨fun b o e n hb hx=>?_,fun b o e n hb hx=>?_,I.base.free,fun b o e hx=>?_,I.base.tups,I.base.frzs,I.base.tbls⟩,⟨_,hn',fun j y v' e1 e2 e3=>?_⟩,fun y c e=>?_,I.free,I.freeC,fun p hp=>?_,tracked ⟨oL,hoL,I.free⟩ hs,by simpa using I.len⟩ ⟨_,hs,.inl rfl⟩
  ·exact (hs.2 b (ZY (ZQ (ZR e) I.ok.above))).trans (I.base.keep b o e n hb hx)
  ·obtain ⟨sl,e1⟩:=I.base.slot b o e n hb hx
   exact ⟨sl,(hs.2 b (ZY (ZQ (ZR e) I.ok.above))).trans e1⟩
  ·obtain ⟨o',e1⟩:=I.base.there b o e hx
   exact ⟨o',(hs.2 b (ZY (ZQ (ZR e) I.ok.above))).trans e1⟩
  ·by_cases hj:j=i
   ·subst hj
    rw [hi] at e1;cases e1
    rw [Y1 hiσ] at e2
    cases e2
    exact ⟨u,r,.inl ⟨hk,by simp⟩⟩
   ·rw [Yw (Yh hj)] at e2
    obtain ⟨u',r',q⟩:=hl j y v' e1 e2 e3
    refine ⟨u',r',?_⟩
    rcases q with ⟨k,e⟩ | ⟨k,c,e,z⟩
    ·refine .inl ⟨k,?_⟩
     have:y ≠ x:=fun e=>hj (pT hN e1 (e ▸ hi))
     simp [this,e]
    ·exact .inr ⟨k,c,e,z.sameBut hs (cne y c e)⟩
  ·obtain ⟨w',z⟩:=I.cell y c e
   exact ⟨w',z.sameBut hs (cne y c e)⟩
  ·obtain ⟨e,n,ne,nf,d⟩:=I.pin p hp
   exact ⟨(hs.2 p.1 ne).trans e,n,ne,nf,d⟩
 ·have hfn:X.fn x=true:=by
   rcases hf with z | z
   ·exact z
   ·rw [z] at hk;cases hk
  obtain ⟨c,hc⟩:=I.ok.has x (.inl hk)
  obtain ⟨w',z⟩:=I.cell x c hc
  refine wpAny_storeName_cell I.ok.kind hk hc z (fun h' hc' hs=>?_)
  obtain ⟨oc,hoc,hocd⟩:=id z
  refine h { s with heap:=h' } ⟨I.ok,I.os,I.bare,⟨fun b o e n hb hx=>?_,fun b o e n hb hx=>?_,I.base.free,fun b o e hx=>?_,I.base.tups,I.base.frzs,I.base.tbls⟩,⟨m,hn.sameBut hs (Yh (cne x c hc)),fun j y v' e1 e2 e3=>?_⟩,fun y c' e=>?_,I.free,I.freeC,fun p hp=>?_,tracked ⟨oc,hoc,I.freeC x c hc⟩ hs,by simpa using I.len⟩ ⟨c,hs,.inr hc⟩
  ·exact (hs.2 b (ZY (ZQ (ZR e) (I.ok.cab x c hfn hc)))).trans (I.base.keep b o e n hb hx)
  ·obtain ⟨sl,e1⟩:=I.base.slot b o e n hb hx
   exact ⟨sl,(hs.2 b (ZY (ZQ (ZR e) (I.ok.cab x c hfn hc)))).trans e1⟩
  ·obtain ⟨o',e1⟩:=I.base.there b o e hx
   exact ⟨o',(hs.2 b (ZY (ZQ (ZR e) (I.ok.cab x c hfn hc)))).trans e1⟩
  ·by_cases hj:j=i
   ·subst hj
    rw [hi] at e1;cases e1
    rw [Y1 hiσ] at e2
    cases e2
    exact ⟨u,r,.inr ⟨.inl hk,c,hc,hc'⟩⟩
   ·rw [Yw (Yh hj)] at e2
    obtain ⟨u',r',q⟩:=hl j y v' e1 e2 e3
    refine ⟨u',r',?_⟩
    rcases q with q | ⟨k,c',e,z'⟩
    ·exact .inl q
    ·refine .inr ⟨k,c',e,z'.sameBut hs ?_⟩
     rintro rfl
     exact hj (pT hN e1 (I.ok.inj _ _ _ e hc ▸ hi))
  ·by_cases hcc:c'=c
   ·subst hcc;exact ⟨_,hc'⟩
   ·obtain ⟨w2,z2⟩:=I.cell y c' e
    exact ⟨w2,z2.sameBut hs hcc⟩
  ·obtain ⟨e,n,ne,nf,d⟩:=I.pin p hp
   refine ⟨(hs.2 p.1 ?_).trans e,n,ne,nf,d⟩
   intro q
   rw [q,hoc] at e
   have q':oc=p.2:=Zm e
   exact d w' (by rw [← q'];exact hocd)
theorem pN {M:Model} {A:Around} {E:Z4} {i:Nat} {x:Str} {v:V} {u:Value} {Q:Unit->Shared->Prop} (I:Inv X pins σ H s) (hN:X.N.Nodup) (hi:X.N[i]?=some x) (hx:Loc X.env.scope x) (r:RelV v u)
  (h:∀ s',Inv X pins (σ.set i (some v)) H s'->Q () s') (hf:X.fn x=true\/X.env.scope.names.lookup x=some .local:=by first | exact .inl rfl | exact .inr rfl | assumption):wpAny M A (storeName X.env x u) Q E s :=
 uD I hN hi hx r (fun s' I' _=>h s' I') hf
theorem Inv.call' {s':Shared} {ch:Wz} (I:Inv X pins σ H s) (ho:s'.os=s.os) (u:Un (frs X.stack) ch H H' s.heap s'.heap) (hok:HOk X.prog X.w H' s'.heap) (hg:AllBare s'.gens)
  (hch:∀ b∈ch,(b∈X.ex\/X.s₀.heap.objs.size<=b)/\b ≠ X.env.locals/\(∀ x c,X.env.cells.lookup x=some c->c ≠ b)/\∀ p∈X.pn++pins,p.1 ≠ b):Inv X pins σ H' s':=by
 obtain ⟨h',g',d',t',o'⟩:=s'
 have e:o'=s.os:=ho
 subst e
 exact I.call (g':=g') (t':=t') (d':=d') u hok hg hch
end
noncomputable abbrev XK:=Value->Option Addr->Hp->Prop
noncomputable abbrev St:=List (Option V)
noncomputable abbrev VK:=V->Hp->Prop
noncomputable abbrev TE:=St->Hp->VK->Prop
noncomputable abbrev TT:=St->Hp->(Bool->Hp->Prop)->Prop
noncomputable abbrev TA:=St->Hp->(List V->Hp->Prop)->Prop
structure Ends where
 nx:St->Hp->Prop
 rt:VK
 bk:St->Hp->Prop:=fun _ _=>False
 ct:St->Hp->Prop:=fun _ _=>False
noncomputable abbrev TS:=Ends->St->Hp->Prop
noncomputable def EP (X:Cx) (pins:Y7) (σ:St) (Q:VK) (u:Value) (s':Shared):Prop:=∃ v H',Inv X pins σ H' s'/\RelV v u/\Q v H'
noncomputable def TP (X:Cx) (pins:Y7) (σ:St) (Q:Bool->Hp->Prop) (b:Bool) (s':Shared):Prop:=∃ H',Inv X pins σ H' s'/\Q b H'
noncomputable def AP (X:Cx) (pins:Y7) (σ:St) (Q:List V->Hp->Prop) (us:Wy) (s':Shared):Prop:=∃ vs H',Inv X pins σ H' s'/\aN vs us/\Q vs H'
noncomputable def SP (X:Cx) (pins:Y7) (D:Ends) (f:Flow) (s':Shared):Prop :=
 match f with
 | .next=>∃ σ' H',Inv X pins σ' H' s'/\D.nx σ' H'
 | .brk=>∃ σ' H',Inv X pins σ' H' s'/\D.bk σ' H'
 | .cont=>∃ σ' H',Inv X pins σ' H' s'/\D.ct σ' H'
 | .ret u=>∃ v σ' H',Inv X pins σ' H' s'/\RelV v u/\D.rt v H'
noncomputable def PE (X:Cx) (e:Expr) (t:TE):Prop :=
 ∀ (pins:Y7) (s:Shared) (σ:St) (H:Hp) (Q:VK),Inv X pins σ H s->t σ H Q->wpAny (model X.prog X.w) X.A (eval e X.env) (EP X pins σ Q) X.xe s
noncomputable def PT (X:Cx) (e:Expr) (t:TT):Prop :=
 ∀ (pins:Y7) (s:Shared) (σ:St) (H:Hp) (Q:Bool->Hp->Prop),Inv X pins σ H s->t σ H Q->wpAny (model X.prog X.w) X.A (isTrue e X.env (eval e X.env)) (TP X pins σ Q) X.xe s
noncomputable def PW (X:Cx) (e:Expr) (t:TT):Prop :=
 ∀ (whole:Sem Value) (pins:Y7) (s:Shared) (σ:St) (H:Hp) (Q:Bool->Hp->Prop),Inv X pins σ H s->t σ H Q->wpAny (model X.prog X.w) X.A (isTrue e X.env whole) (TP X pins σ Q) X.xe s
theorem PW.pt {X:Cx} {e:Expr} {t:TT} (h:PW X e t):PT X e t:=h _
noncomputable def PA (X:Cx) (es:List Expr) (t:TA):Prop :=
 ∀ (pos:Pos) (pins:Y7) (s:Shared) (σ:St) (H:Hp) (Q:List V->Hp->Prop),Inv X pins σ H s->t σ H Q->wpAny (model X.prog X.w) X.A (spliced (backTo pos (starEach es X.env))) (AP X pins σ Q) X.xe s
noncomputable def PS (X:Cx) (st:Stmt) (t:TS):Prop :=
 ∀ (pins:Y7) (s:Shared) (σ:St) (H:Hp) (D:Ends),Inv X pins σ H s->t D σ H->wpAny (model X.prog X.w) X.A (exec st X.env) (SP X pins D) X.xe s
noncomputable def PSs (X:Cx) (st:List Stmt) (t:TS):Prop :=
 ∀ (pins:Y7) (s:Shared) (σ:St) (H:Hp) (D:Ends),Inv X pins σ H s->t D σ H->wpAny (model X.prog X.w) X.A (execs st X.env) (SP X pins D) X.xe s
theorem thn {α:Type} {t:Sem α} {Q Q':α->Shared->Prop} {M:Model} {A:Around} {E:Z4} {s:Shared} (h:wpAny M A t Q E s) (hQ:∀ a s,Q a s->Q' a s):wpAny M A t Q' E s:=YM h hQ fun _ _ x=>x
section
variable {X:Cx}
noncomputable def Ek (i:Nat):TE:=fun σ H Q=>∃ v,σ[i]?=some (some v)/\Q v H
noncomputable def tC (v:V):TE:=fun _ H Q=>Q v H
theorem fq {i:Nat} {x:Str} {pos:Pos} (hN:X.N[i]?=some x) (hv:Vis X.env.scope x) (hd:(x == ("__debug__" : Str))=false:=by decide) (hcd:(x == ("__classdict__" : Str))=false:=by decide):PE X (.Name x pos) (Ek i):=by
 intro pins s σ H Q I h
 obtain ⟨v,e,h⟩:=h
 obtain ⟨m,hn,hl⟩:=I.loc
 obtain ⟨u,r,l⟩:=hl i x v hN e hv
 have fin:EP X pins σ Q u s:=⟨v,H,I,r,h⟩
 rcases l with ⟨hk,hm⟩ | ⟨hk,c,hc,hcell⟩
 ·exact wpAny_Name (wpAny_loadName_local I.ok.kind hk hn hm fin) hd
 ·rcases hk with hk | hk
  ·exact wpAny_Name (wpAny_loadName_cell I.ok.kind hk hc hcell fin) hd
  ·exact wpAny_Name (wpAny_loadName_free I.ok.kind hk hc hcell fin hcd) hd
theorem ou {i j pos}:PE X (.Constant (.int i) j pos) (tC (.int i)):=fun _ _ _ H _ I h=>wpAny_Constant_int ⟨.int i,H,I.tok _,⟨_,rfl⟩,h⟩
theorem CS {b j pos}:PE X (.Constant (.bool b) j pos) (tC (.bl b)):=fun _ _ _ H _ I h=>Constant_bool ⟨.bl b,H,I,rfl,h⟩
theorem Cv {j pos}:PE X (.Constant .none j pos) (tC .non):=fun _ _ _ H _ I h=>Constant_none ⟨.non,H,I,rfl,h⟩
theorem BX {x j pos}:PE X (.Constant (.str x) j pos) (tC (.str x)):=fun _ _ _ H _ I h=>Calls.Constant_str ⟨.str x,H,I.tok _,⟨_,rfl⟩,h⟩
noncomputable def Gl (X:Cx) (x:Str):Prop:=X.env.kindOf x=some .globalImplicit
theorem lQ {E:Z4} {pins:Y7} {s:Shared} {σ:St} {H:Hp} {x:Str} {u:Value} {pos:Pos} {Q:Z4} (I:Inv X pins σ H s) (hg:Gl X x) (hm:X.mg x=some u) (h:Q u s)
  (hd:(x == ("__debug__" : Str))=false:=by decide):wpAny (model X.prog X.w) X.A (eval (.Name x pos) X.env) Q E s :=
 Calls.Name_function_global I.ok.kind hg (Calls.loadGlobal_global (by rw [I.ok.glob];exact I.mod.glob.keeps I.bk) hm h) hd
theorem oo {E:Z4} {pins:Y7} {s:Shared} {σ:St} {H:Hp} {x:Str} {u:Value} {pos:Pos} {Q:Z4} (I:Inv X pins σ H s) (hg:Gl X x) (hm:X.mg x=none) (hv:bootBuiltins x=some u) (h:Q u s)
  (hn:x ≠ "__name__" := by decide) (hd:(x == ("__debug__" : Str))=false:=by decide):wpAny (model X.prog X.w) X.A (eval (.Name x pos) X.env) Q E s:=by
 obtain ⟨mb,h1,h2⟩:=I.mod.blt
 exact Calls.Name_function_global I.ok.kind hg (Calls.loadGlobal_builtin (by rw [I.ok.glob];exact I.mod.glob.keeps I.bk) hm (by rw [I.ok.blt];exact h1.keeps I.bk) ((h2 x hn).trans hv) h) hd
theorem zp {x:Str} {v:V} {u:Value} {pos:Pos} (hg:Gl X x) (hm:X.mg x=some u) (r:RelV v u) (hd:(x == ("__debug__" : Str))=false:=by decide):PE X (.Name x pos) (tC v) :=
 fun _ _ _ H _ I h=>lQ I hg hm ⟨v,H,I,r,h⟩ hd
theorem yZ {x:Str} {v:V} {u:Value} {pos:Pos} (hg:Gl X x) (hm:X.mg x=none) (hv:bootBuiltins x=some u) (r:RelV v u) (hn:x ≠ "__name__" := by decide) (hd:(x == ("__debug__" : Str))=false:=by decide):PE X (.Name x pos) (tC v) :=
 fun _ _ _ H _ I h=>oo I hg hm hv ⟨v,H,I,r,h⟩ hn hd
variable {a b:Expr} {ta tb:TE} {pos:Pos}
noncomputable def PC (X:Cx) (op:CmpOp) (a b:Expr) (t:TE):Prop :=
 ∀ (pins:Y7) (s:Shared) (σ:St) (H:Hp) (Q:VK),Inv X pins σ H s->t σ H Q →
  wpAny (model X.prog X.w) X.A (eval a X.env) (fun v s₁=>wpAny (model X.prog X.w) X.A (eval b X.env) (fun u s₂=>wpAny (model X.prog X.w) X.A (compareOp op v u) (EP X pins σ Q) X.xe s₂) X.xe s₁) X.xe s
theorem xU (b:Expr) {op:CmpOp} (h:op ≠ .In) (h2:op ≠ .NotIn):behindInMarks op b=false:=by
 have e1:(op == CmpOp.In)=false:=by cases op <;> first | rfl | exact absurd rfl h
 have e2:(op == CmpOp.NotIn)=false:=by cases op <;> first | rfl | exact absurd rfl h2
 cases b <;> simp [behindInMarks,e1,e2]
noncomputable def D7 (ta:TE):TE:=fun σ H Q=>ta σ H fun x H1=>Q (.bl (decide (x=.non))) H1
noncomputable def Dc (ta:TE):TE:=fun σ H Q=>ta σ H fun x H1=>Q (.bl (!decide (x=.non))) H1
theorem RelV.none_iff {x:V} {v:Value} (r:RelV x v):(v == Value.none)=decide (x=.non):=by
 cases x with
 | non=>cases r;rfl
 | bl _=>cases r;rfl
 | int _=>obtain ⟨t,rfl⟩:=r;rfl
 | str _=>obtain ⟨t,rfl⟩:=r;rfl
 | byt _=>obtain ⟨t,rfl⟩:=r;rfl
 | flt _=>obtain ⟨t,rfl⟩:=r;rfl
 | ref _=>cases r;rfl
 | ty _=>cases r;rfl
theorem BG {j pos'} (ha:PE X a ta):PC X .Is a (.Constant .none j pos') (D7 ta):=by
 intro pins s σ H Q I h
 refine thn (ha pins s σ H _ I h) fun v s1 ⟨x,H1,I1,r1,q1⟩=>?_
 exact Constant_none (is_none_gen ⟨.bl _,H1,I1,by rw [r1.none_iff];rfl,q1⟩)
theorem zO {j pos'} (ha:PE X a ta):PC X .IsNot a (.Constant .none j pos') (Dc ta):=by
 intro pins s σ H Q I h
 refine thn (ha pins s σ H _ I h) fun v s1 ⟨x,H1,I1,r1,q1⟩=>?_
 exact Constant_none (isnot_none_gen ⟨.bl _,H1,I1,by rw [r1.none_iff];rfl,q1⟩)
noncomputable def tB (t:TE):TT:=fun σ H Q=>t σ H fun x H1=>∃ c,x=.bl c/\Q c H1
theorem xn {op:CmpOp} {t:TE} (h:PC X op a b t) (h1:behindInMarks op b=false:=by first | exact xU _ (by decide) (by decide) | rfl):PT X (.Compare a [op] [b] pos) (tB t):=by
 intro pins s σ H Q I hw
 refine wpAny_isTrue_Compare1 (thn (h pins s σ H _ I hw) fun v s1 h1=>thn h1 fun u s2 h2=>thn h2 fun c s3 ⟨x,H1,I1,r1,q1⟩=>?_) h1
 obtain ⟨d,rfl,q⟩:=q1
 cases r1
 exact YV ⟨H1,I1,q⟩
variable {tA tB':TT} {rest:List Expr}
noncomputable def Ea (t u:TT):TT:=fun σ H Q=>t σ H fun c H1=>if c=true then u σ H1 Q else Q false H1
noncomputable def tOr (t u:TT):TT:=fun σ H Q=>t σ H fun c H1=>if c=true then Q true H1 else u σ H1 Q
noncomputable def D6 (t:TT):TT:=fun σ H Q=>t σ H fun c H1=>Q (!c) H1
theorem lP (ha:PT X a tA):PW X (.BoolOp .And [a] pos) tA:=by
 intro wh pins s σ H Q I h
 refine isTrue_and (thn (ha pins s σ H Q I h) fun c s1 e=>?_)
 cases c with
 | true=>exact isTrue_and_nil e
 | false=>exact e
theorem rW (ha:PT X a tA):PW X (.BoolOp .Or [a] pos) tA:=by
 intro wh pins s σ H Q I h
 refine isTrue_or (thn (ha pins s σ H Q I h) fun c s1 e=>?_)
 cases c with
 | false=>exact isTrue_or_nil e
 | true=>exact e
theorem vb (ha:PT X a tA) (hb:PW X (.BoolOp .And (b :: rest) pos) tB'):PW X (.BoolOp .And (a :: b :: rest) pos) (Ea tA tB'):=by
 intro wh pins s σ H Q I h
 refine isTrue_and (thn (ha pins s σ H _ I h) fun c s1 ⟨H1,I1,q1⟩=>?_)
 cases c with
 | true=>exact hb wh pins s1 σ H1 Q I1 q1
 | false=>exact ⟨H1,I1,q1⟩
theorem Dw (ha:PT X a tA) (hb:PW X (.BoolOp .Or (b :: rest) pos) tB'):PW X (.BoolOp .Or (a :: b :: rest) pos) (tOr tA tB'):=by
 intro wh pins s σ H Q I h
 refine isTrue_or (thn (ha pins s σ H _ I h) fun c s1 ⟨H1,I1,q1⟩=>?_)
 cases c with
 | true=>exact ⟨H1,I1,q1⟩
 | false=>exact hb wh pins s1 σ H1 Q I1 q1
theorem Ca (ha:PT X a tA):PT X (.UnaryOp .Not a pos) (D6 tA):=by
 intro pins s σ H Q I h
 exact isTrue_not (ha pins s σ H (fun c H1=>Q (!c) H1) I h)
noncomputable def Di (ta tb:TE):TE:=fun σ H Q=>ta σ H fun x H1=>∃ c,x=.bl c/\if c=true then tb σ H1 Q else Q (.bl false) H1
noncomputable def CJ (ta:TE):TE:=fun σ H Q=>ta σ H fun x H1=>∃ c,x=.bl c/\Q (.bl (!c)) H1
theorem BW {op} {t:TE} (h:PE X a t):PE X (.BoolOp op [a] pos) t:=fun pins s σ H Q I hw=>BoolOp_one (h pins s σ H Q I hw)
theorem BR (ha:PE X a ta) (hb:PE X (.BoolOp .And (b :: rest) pos) tb):PE X (.BoolOp .And (a :: b :: rest) pos) (Di ta tb):=by
 intro pins s σ H Q I h
 refine BoolOp_and (thn (ha pins s σ H _ I h) fun v s1 ⟨x,H1,I1,r1,q1⟩=>?_)
 obtain ⟨c,rfl,q1⟩:=q1
 cases r1
 refine YV ?_
 cases c with
 | true=>exact hb pins s1 σ H1 Q I1 q1
 | false=>exact ⟨.bl false,H1,I1,rfl,q1⟩
theorem Bk (ha:PE X a ta):PE X (.UnaryOp .Not a pos) (CJ ta):=by
 intro pins s σ H Q I h
 refine UnaryOp_ (thn (ha pins s σ H _ I h) fun v s1 ⟨x,H1,I1,r1,q1⟩=>?_)
 obtain ⟨c,rfl,q1⟩:=q1
 cases r1
 exact not_of (YV ⟨.bl (!c),H1,I1,rfl,q1⟩)
end
noncomputable def SqL (K:X8) (H:Hp) (a:Addr) (xs:List V):Prop :=
 Rd H a (.lst xs) ∨
  ∃ (o:Obj) (its:Array Value) (n:Nat),K.lookup a=some o/\o.cls=.type "list" ∧ o.dict=none/\o.data=.seq its n/\its.size<=sizeLine/\aN xs its.toList
noncomputable def SqT (K:X8) (H:Hp) (a:Addr) (xs:List V):Prop :=
 Rd H a (.tup xs) ∨
  ∃ (o:Obj) (its:Array Value) (n:Nat),K.lookup a=some o/\o.cls=.type "tuple" ∧ o.data=.seq its n/\its.size<=sizeLine/\aN xs its.toList
noncomputable def Eh:Value->Option V
 | .none=>some .non
 | .bool b=>some (.bl b)
 | .int i _=>some (.int i)
 | .str x _=>some (.str x)
 | .bytes b _=>some (.byt b)
 | .float b _=>some (.flt b)
 | .ref a=>some (.ref a)
 | .type n=>some (.ty n)
 | _=>none
theorem RelV.abs {x:V} {u:Value} (r:RelV x u):Eh u=some x:=by
 cases x with
 | non=>cases r;rfl
 | bl _=>cases r;rfl
 | int _=>obtain ⟨t,rfl⟩:=r;rfl
 | str _=>obtain ⟨t,rfl⟩:=r;rfl
 | byt _=>obtain ⟨t,rfl⟩:=r;rfl
 | flt _=>obtain ⟨t,rfl⟩:=r;rfl
 | ref _=>cases r;rfl
 | ty _=>cases r;rfl
theorem RelV.inj {x y:V} {u:Value} (r:RelV x u) (q:RelV y u):x=y:=Zm (r.abs.symm.trans q.abs)
theorem aN.inj:∀ {xs ys:List V} {us:Wy},aN xs us->aN ys us->xs=ys
 | _,_,_,.nil,.nil=>rfl
 | _,_,_,.cons r t,.cons r' t'=>by rw [r.inj r',aN.inj t t']
section
variable {X:Cx} {pins:Y7} {σ:St} {H:Hp} {s:Shared} {a:Addr} {xs ys:List V}
theorem SqL.of {K:X8} (h:H a=some (.lst xs)):SqL K H a xs:=.inl (.inl h)
theorem SqT.of {K:X8} (h:H a=some (.tup xs)):SqT K H a xs:=.inl (.inl h)
theorem Inv.list (I:Inv X pins σ H s) (h:SqL X.K H a xs):∃ its:Wy,aN xs its/\PlainL s.heap a its.toArray/\xs.length<=sizeLine:=by
 rcases h with h | ⟨o,its,n,hk,hc,hd,hs,hz,r⟩
 ·obtain ⟨z,its,n,r,e⟩:=h.ok I.hok
  exact ⟨its,r,⟨_,n,e,rfl,rfl,rfl⟩,z⟩
 ·refine ⟨its.toList,r,⟨o,n,I.kIn a o hk,hc,hd,by simpa using hs⟩,?_⟩
  have e:=r.length
  simp only [YW] at e
  lia
theorem Inv.tuple (I:Inv X pins σ H s) (h:SqT X.K H a xs):∃ its:Wy,aN xs its/\IsTup s.heap a its.toArray/\xs.length<=sizeLine:=by
 rcases h with h | ⟨o,its,n,hk,hc,hs,hz,r⟩
 ·obtain ⟨z,its,r,_,p⟩:=h.ok I.hok
  exact ⟨its,r,p,z⟩
 ·refine ⟨its.toList,r,⟨o,I.kIn a o hk,hc,n,by simpa using hs⟩,?_⟩
  have e:=r.length
  simp only [YW] at e
  lia
theorem Inv.list_inj (I:Inv X pins σ H s) (h:SqL X.K H a xs) (h':SqL X.K H a ys):xs=ys:=by
 obtain ⟨its,r,⟨o,n,e,_,_,d⟩,_⟩:=I.list h
 obtain ⟨its',r',⟨o',n',e',_,_,d'⟩,_⟩:=I.list h'
 rw [e] at e';cases e'
 rw [d] at d'
 injection d' with d1 _
 have:its=its':=by simpa using congrArg Array.toList d1
 subst this
 exact r.inj r'
theorem Inv.tuple_inj (I:Inv X pins σ H s) (h:SqT X.K H a xs) (h':SqT X.K H a ys):xs=ys:=by
 obtain ⟨its,r,⟨o,e,_,n,d⟩,_⟩:=I.tuple h
 obtain ⟨its',r',⟨o',e',_,n',d'⟩,_⟩:=I.tuple h'
 rw [e] at e';cases e'
 rw [d] at d'
 injection d' with d1 _
 have:its=its':=by simpa using congrArg Array.toList d1
 subst this
 exact r.inj r'
end
noncomputable abbrev Cx.wish (X:Cx) (E:Z4):Cx:={ X with xe:=E }
noncomputable abbrev Cx.nox (X:Cx):Cx:=X.wish fun _ _=>False
theorem Cx.Ok.wish {X:Cx} (ok:X.Ok) (E:Z4):(X.wish E).Ok :=
 ⟨ok.mod,ok.kind,ok.glob,ok.blt,ok.above,ok.inj,ok.has,ok.cab,ok.hd,ok.frames,ok.stk,ok.exf,ok.bs,ok.bsz,ok.noex,ok.exfs,ok.funs,ok.frf⟩
theorem Cx.Ok.unwish {X:Cx} {E:Z4} (ok:(X.wish E).Ok):X.Ok :=
 ⟨ok.mod,ok.kind,ok.glob,ok.blt,ok.above,ok.inj,ok.has,ok.cab,ok.hd,ok.frames,ok.stk,ok.exf,ok.bs,ok.bsz,ok.noex,ok.exfs,ok.funs,ok.frf⟩
section
variable {X:Cx} {pins:Y7} {σ:St} {H:Hp} {s:Shared} {E:Z4}
theorem Inv.wish (I:Inv X pins σ H s) (E:Z4):Inv (X.wish E) pins σ H s:=⟨I.ok.wish E,I.os,I.bare,I.base,I.loc,I.cell,I.free,I.freeC,I.pin,I.hok,I.len⟩
theorem Inv.unwish (I:Inv (X.wish E) pins σ H s):Inv X pins σ H s:=⟨I.ok.unwish,I.os,I.bare,I.base,I.loc,I.cell,I.free,I.freeC,I.pin,I.hok,I.len⟩
theorem SP.unwish {D:Ends} {f:Flow} {s':Shared} (h:SP (X.wish E) pins D f s'):SP X pins D f s':=by
 cases f with
 | next=>obtain ⟨σ',H',I,q⟩:=h;exact ⟨σ',H',I.unwish,q⟩
 | brk=>obtain ⟨σ',H',I,q⟩:=h;exact ⟨σ',H',I.unwish,q⟩
 | cont=>obtain ⟨σ',H',I,q⟩:=h;exact ⟨σ',H',I.unwish,q⟩
 | ret u=>obtain ⟨v,σ',H',I,r,q⟩:=h;exact ⟨v,σ',H',I.unwish,r,q⟩
theorem PSs.nox {st:List Stmt} {t:TS} (h:PSs X.nox st t):PSs X st t:=fun pins s σ H D I hw =>
 YM (h pins s σ H D (I.wish _) hw) (fun _ _ q=>q.unwish) fun _ _ z=>False.elim z
end
section
variable {X:Cx} {st:Stmt} {rest:List Stmt} {t u:TS} {e:Expr} {te:TE} {pos:Pos}
noncomputable def Dk:TS:=fun D σ H=>D.nx σ H
noncomputable def Eu (t u:TS):TS:=fun D σ H=>t { D with nx:=u D } σ H
theorem yI:PSs X [] Dk:=fun _ _ σ H _ I h=>XS ⟨σ,H,I,h⟩
theorem xy (h1:PS X st t) (h2:PSs X rest u):PSs X (st :: rest) (Eu t u):=by
 intro pins s σ H D I h
 refine wpAny_execs_cons (thn (h1 pins s σ H { D with nx:=u D } I h) fun f s1 q=>?_)
 cases f with
 | next =>
  obtain ⟨σ',H',I',q⟩:=q
  exact h2 pins s1 σ' H' D I' q
 | ret v=>exact q
 | brk=>exact q
 | cont=>exact q
theorem ar (h1:PS X st t):PSs X [st] t:=by
 intro pins s σ H D I h
 refine wpAny_execs_cons (thn (h1 pins s σ H D I h) fun f s1 q=>?_)
 cases f with
 | next=>exact XS q
 | ret v=>exact q
 | brk=>exact q
 | cont=>exact q
theorem Inv.quiet {pins:Y7} {σ:St} {H:Hp} {s:Shared} (I:Inv X pins σ H s):interactive X.env=false:=by simp [interactive,I.ok.kind]
noncomputable def CQ (te:TE):TS:=fun D σ H=>te σ H fun _ H1=>D.nx σ H1
theorem ka (he:PE X e te) (hs:swapsWith e none pos.line X.env=pure false:=by rfl):PS X (.Expr e pos) (CQ te):=by
 intro pins s σ H D I h
 exact wpAny_Expr_any (thn (he pins s σ H _ I h) fun v s1 ⟨x,H1,I1,r1,q1⟩=>⟨σ,H1,I1,q1⟩) I.quiet hs
noncomputable def Ej (te:TE):TS:=fun D σ H=>te σ H D.rt
theorem oJ (he:PE X e te):PS X (.Return (some e) pos) (Ej te):=by
 intro pins s σ H D I h
 exact wpAny_Return_some (thn (he pins s σ H _ I h) fun v s1 ⟨x,H1,I1,r1,q1⟩=>⟨x,σ,H1,I1,r1,q1⟩)
noncomputable def Ey (c:TT) (t u:TS):TS:=fun D σ H=>c σ H fun b H1=>if b=true then t D σ H1 else u D σ H1
theorem Am {c:Expr} {a b:List Stmt} {tc:TT} (hc:PT X c tc) (ha:PSs X a t) (hb:PSs X b u):PS X (.If c a b pos) (Ey tc t u):=by
 intro pins s σ H D I h
 refine wpAny_If (thn (hc pins s σ H _ I h) fun d s1 ⟨H1,I1,q1⟩=>?_)
 cases d with
 | true=>exact ha pins s1 σ H1 D I1 q1
 | false=>exact hb pins s1 σ H1 D I1 q1
end
noncomputable abbrev TG:=V->St->Hp->(St->Hp->Prop)->Prop
noncomputable def PG (X:Cx) (target:Expr) (t:TG):Prop :=
 ∀ (pins:Y7) (s:Shared) (σ:St) (H:Hp) (v:V) (u:Value) (Q:St->Hp->Prop),Inv X pins σ H s->RelV v u->t v σ H Q →
  wpAny (model X.prog X.w) X.A (assign target X.env u) (fun _ s'=>∃ σ' H',Inv X pins σ' H' s'/\Q σ' H') X.xe s
noncomputable abbrev yH:=V->V->V->Hp->(Hp->Prop)->Prop
noncomputable def BJ (X:Cx) (t:yH):Prop :=
 ∀ (pins:Y7) (s:Shared) (σ:St) (H:Hp) (o i v:V) (ov iv u:Value) (Q:Hp->Prop),Inv X pins σ H s->RelV o ov->RelV i iv->RelV v u->t o i v H Q →
  wpAny (model X.prog X.w) X.A (setItem ov iv u) (fun _ s'=>∃ H',Inv X pins σ H' s'/\Q H') X.xe s
section
variable {X:Cx} {pos:Pos}
noncomputable def tZ (i:Nat):TG:=fun v σ H Q=>Q (σ.set i (some v)) H
theorem sV {i:Nat} {x:Str} (hN:X.N.Nodup) (hi:X.N[i]?=some x) (hx:Loc X.env.scope x) (hf:X.fn x=true\/X.env.scope.names.lookup x=some .local:=by first | exact .inl rfl | exact .inr rfl | assumption):PG X (.Name x pos) (tZ i):=by
 intro pins s σ H v u Q I r h
 exact wpAny_assign_Name (pN I hN hi hx r (fun s' I'=>⟨_,H,I',h⟩) hf)
noncomputable def DB (to ti:TE) (t:yH):TG:=fun v σ H Q=>to σ H fun o H1=>ti σ H1 fun i H2=>t o i v H2 fun H3=>Q σ H3
theorem rh {o i:Expr} {to ti:TE} {t:yH} (ho:PE X o to) (hi:PE X i ti) (hs:BJ X t)
  (ha:∀ v,assign (.Subscript o i pos) X.env v=(do
   let ov ← holding [v] (eval o X.env)
   let iv ← holding [v,ov] (eval i X.env)
   standAt pos
   holding [v,ov,iv] (setItem ov iv v)
   release [v,ov,iv] []):=by intro _;rfl):PG X (.Subscript o i pos) (DB to ti t):=by
 intro pins s σ H v u Q I r h
 rw [ha]
 refine Zq (YI (thn (ho pins s σ H _ I h) fun ov s1 ⟨x,H1,I1,r1,q1⟩=>?_))
 refine Zq (YI (thn (hi pins s1 σ H1 _ I1 q1) fun iv s2 ⟨y,H2,I2,r2,q2⟩=>?_))
 refine Zq (wpAny_standAt (Zq (YI (thn (hs pins s2 σ H2 x y v ov iv u _ I2 r1 r2 r q2) fun _ s3 ⟨H3,I3,q3⟩=>?_))))
 exact wpAny_release ⟨σ,H3,I3,q3⟩
noncomputable def C7 (te:TE) (g:TG):TS:=fun D σ H=>te σ H fun x H1=>g x σ H1 D.nx
theorem si {tg e:Expr} {te:TE} {g:TG} (he:PE X e te) (hg:PG X tg g) (hs:swapsWithSole [tg] e pos.line X.env=pure false:=by rfl) (hw:swappedStores [tg] e X.env=pure none:=by rfl)
  (h1:(assignEach [tg] X.env).map (·.2)=[assign tg X.env]:=by rfl):PS X (.Assign [tg] e pos) (C7 te g):=by
 intro pins s σ H D I h
 refine wpAny_Assign_stores (thn (he pins s σ H _ I h) fun v s1 ⟨x,H1,I1,r1,q1⟩=>?_) hs hw
 rw [h1]
 exact thn (hg pins s1 σ H1 x v _ I1 r1 q1) fun _ s2 q=>q
theorem oZ {i:Nat} {x:Str} {e:Expr} {te:TE} {pos':Pos} (hN:X.N.Nodup) (hi:X.N[i]?=some x) (hx:Loc X.env.scope x) (he:PE X e te) (hs:swapsWith e (some (.Name x pos')) pos.line X.env=pure false:=by rfl) (hf:X.fn x=true\/X.env.scope.names.lookup x=some .local:=by first | exact .inl rfl | exact .inr rfl | assumption) :
  PS X (.Assign [.Name x pos'] e pos) (C7 te (tZ i)):=by
 intro pins s σ H D I h
 refine wpAny_Assign_Name (thn (he pins s σ H _ I h) fun v s1 ⟨y,H1,I1,r1,q1⟩=>?_) hs
 exact pN I1 hN hi hx r1 (fun s2 I2=>⟨_,H1,I2,q1⟩) hf
end
section
variable {X:Cx} {pos:Pos}
noncomputable def BQ (c:TT) (tb:TS):TS:=fun D σ H=>∃ W:Nat->St->Hp->Prop,(∃ m,W m σ H)/\∀ m σ H,W m σ H →
 c σ H fun b H1=>if b=true then ∃ N:St->Hp->Prop,(∀ σ' H',N σ' H'->∃ m',m' < m/\W m' σ' H')/\tb { D with nx:=N,ct:=N,bk:=D.nx } σ H1 else D.nx σ H1
theorem wa {c:Expr} {body:List Stmt} {tc:TT} {tb:TS} (hp:PassesOwn (model X.prog X.w) X.A X.env X.xe) (hc:PT X c tc) (hb:PSs X body tb):PS X (.While c body [] pos) (BQ tc tb):=by
 intro pins s σ H D I h
 obtain ⟨W,⟨m0,w0⟩,turn⟩:=h
 refine wpAny_While (codeAny_whileLoop (fun n s'=>∃ σ' H',Inv X pins σ' H' s'/\W n σ' H') ?_ m0 ⟨σ,H,I,w0⟩)
 rintro n s1 ⟨σ1,H1,I1,w1⟩
 refine YL hp (thn (hc pins s1 σ1 H1 _ I1 (turn n σ1 H1 w1)) fun b s2 ⟨H2,I2,q2⟩=>?_)
 cases b with
 | true =>
  obtain ⟨N,hN,q2⟩:=q2
  rw [Zp rfl]
  refine YL hp (thn (hb pins s2 σ1 H2 _ I2 q2) fun f s3 q3=>?_)
  cases f with
  | next =>
   obtain ⟨σ3,H3,I3,n3⟩:=q3
   obtain ⟨m',hm,w3⟩:=hN σ3 H3 n3
   exact ⟨m',hm,σ3,H3,I3,w3⟩
  | cont =>
   obtain ⟨σ3,H3,I3,n3⟩:=q3
   obtain ⟨m',hm,w3⟩:=hN σ3 H3 n3
   exact ⟨m',hm,σ3,H3,I3,w3⟩
  | brk=>exact q3
  | ret v=>exact q3
 | false =>
  rw [Zo Zg]
  exact XS ⟨σ1,H2,I2,q2⟩
end
structure It where
 go:Nat->Hp->Prop
 yld:Nat->Hp->V->Hp->Prop
 stop:Nat->Hp->Prop
noncomputable def ny (X:Cx) (pins:Y7) (H:Hp) (b:Addr):Prop :=
 H b=none/\b ≠ X.env.locals/\b ∉ X.fs/\(b∈X.ex\/X.s₀.heap.objs.size<=b)/\(∀ x c,X.env.cells.lookup x=some c->c ≠ b)/\∀ p∈X.pn++pins,p.1 ≠ b
theorem Inv.fpOk {X:Cx} {pins:Y7} {σ:St} {H H':Hp} {s:Shared} {b:Addr} (I:Inv X pins σ H s) (hb:s.heap.objs.size<=b) (hn:H' b=none):ny X pins H' b:=by
 refine ⟨hn,Nat.ne_of_gt (ZQ I.lt hb),I.nofs hb,.inr (ZI I.sz hb),fun x c e z=>?_,fun p hp z=>?_⟩
 ·obtain ⟨v,q⟩:=I.cell x c e
  exact absurd (ZQ q.lt (by rw [z];exact hb)) (Yl _)
 ·exact absurd (ZQ (ZR (I.pin p hp).1) (by rw [z];exact hb)) (Yl _)
structure Turn (P:Program) (w:World) (K:X8) (tg:Expr) (J:It) (fp:Wz) (it:Addr) (tn:Nat->Heap->Prop):Prop where
 mem:it∈fp
 obj:∀ i h,tn i h->∀ b∈fp,∃ o,h.get? b=some o/\∀ v,o.data ≠ .cell v
 keep:∀ i h h',tn i h->(∀ b∈fp,∀ o,h.get? b=some o->h'.get? b=some o)->tn i h'
 item:∀ (X:Cx),X.prog=P->X.w=w->X.K=K->X.calm=true->∀ (i:Nat) (pins:Y7) (s:Shared) (σ:St) (H:Hp) (E:Z4),Inv X pins σ H s->(∀ b∈fp,ny X pins H b)->tn i s.heap->J.go i H →
  wpAny (model P w) X.A (pyNext (.ref it)) (fun r s1=>∃ u,r=some u ∧
   wpAny (model P w) X.A (letOwnedTupleGo tg (.ref it) u) (fun _ s2=>∃ x H',Inv X pins σ H' s2/\RelV x u/\J.yld i H x H'/\tn (i+1) s2.heap/\∀ b∈fp,H' b=none) E s1) E s
 done:∀ (X:Cx),X.prog=P->X.w=w->X.K=K->X.calm=true->∀ (i:Nat) (pins:Y7) (s:Shared) (σ:St) (H:Hp) (E:Z4),Inv X pins σ H s->(∀ b∈fp,ny X pins H b)->tn i s.heap->J.stop i H →
  wpAny (model P w) X.A (pyNext (.ref it)) (fun r s1=>r=none/\Inv X pins σ H s1) E s
 self:∀ (A:Around) (i:Nat) (s:Shared) (Q:Z4) (E:Z4),tn i s.heap->Q (.ref it) s->wpAny (model P w) A (pyIter (.ref it)) Q E s
noncomputable abbrev TI:=St->Hp->(It->Hp->Prop)->Prop
noncomputable def PIE (X:Cx) (pins:Y7) (σ:St) (tg:Expr) (R:It->Hp->Prop) (itv:Value) (s2:Shared):Prop :=
 ∃ (it:Addr) (fp:Wz) (tn:Nat->Heap->Prop) (J:It) (H':Hp),itv=.ref it/\Inv X pins σ H' s2/\Turn X.prog X.w X.K tg J fp it tn/\tn 0 s2.heap/\(∀ b∈fp,ny X pins H' b)/\R J H'
noncomputable def PI (X:Cx) (tg iter:Expr) (wi:TI):Prop :=
 ∀ (pins:Y7) (s:Shared) (σ:St) (H:Hp) (R:It->Hp->Prop),Inv X pins σ H s->wi σ H R →
  wpAny (model X.prog X.w) X.A (eval iter X.env) (fun v s1=>wpAny (model X.prog X.w) X.A (pyIter v) (PIE X pins σ tg R) X.xe s1) X.xe s
theorem qk {M:Model} {A:Around} {E:Z4} {s:Shared} {tg:Expr} {it:Addr} {u:Value} {o:Obj} {n:String} {vs:Array Value} {Q:Unit->Shared->Prop} (ho:s.heap.get? it=some o) (hc:o.cls=.type n) (hd:o.data=.fields vs)
  (hn:["enumerate", "zip", "dict_itemiterator", "dict_reverseitemiterator", "odict_iterator", "itertools.zip_longest", "itertools.pairwise"].contains n=false) (hQ:Q () s):wpAny M A (letOwnedTupleGo tg (.ref it) u) Q E s:=by
 unfold letOwnedTupleGo
 cases tg <;> first
  | exact Ze hQ
  | (cases u <;> first
    | exact Ze hQ
    | (refine Zq (wpAny_load ho ?_)
       rw [hc,hd]
       show wpAny M A (if (["enumerate", "zip", "dict_itemiterator", "dict_reverseitemiterator", "odict_iterator", "itertools.zip_longest", "itertools.pairwise"].contains n && vs[0]? == some (rawInt _))=true then _ else _) Q E s
       rw [Zo (by intro h;rw [hn,Bool.false_and] at h;cases h)]
       exact Ze hQ))
noncomputable def Itl (K:X8) (a:Addr):It :=
 ⟨fun i H=>∃ xs x,SqL K H a xs/\xs[i]?=some x,fun i H x H'=>H'=H/\∀ xs,SqL K H a xs->xs[i]?=some x,fun i H=>∃ xs,SqL K H a xs/\xs.length<=i⟩
noncomputable def Itt (K:X8) (a:Addr):It :=
 ⟨fun i H=>∃ xs x,SqT K H a xs/\xs[i]?=some x,fun i H x H'=>H'=H/\∀ xs,SqT K H a xs->xs[i]?=some x,fun i H=>∃ xs,SqT K H a xs/\xs.length<=i⟩
noncomputable def Itr (lo:Int) (n:Nat):It:=⟨fun i _=>i < n,fun i H x H'=>H'=H/\x=.int (lo+i),fun i _=>n<=i⟩
theorem uM {P:Program} {w:World} {K:X8} {tg:Expr} (a it:Addr):Turn P w K tg (Itl K a) [it] it (fun i h=>h.IsListIter it a i) where
 mem:=by simp
 obj:=fun i h st b hb=>by
  have e:b=it:=by simpa using hb
  subst e
  obtain ⟨o,e,c,d⟩:=st
  exact ⟨o,e,fun v z=>by rw [d] at z;cases z⟩
 keep:=fun i h h' st k=>st.at fun o e=>k it (by simp) o e
 item:=by
  intro X hP hw hK hc i pins s σ H E I hf st hg
  subst hP hw hK
  obtain ⟨xs,x,hq,hx⟩:=hg
  obtain ⟨its,rv,p,hz⟩:=I.list hq
  obtain ⟨u,hu,ru⟩:=rv.get hx
  obtain ⟨f0,f1,f2,f3,f4,f5⟩:=hf it (by simp)
  refine wpAny_pyNext_list_item st p.isList (x:=u) (by simpa using hu) fun h' st' sb=>?_
  have I1:Inv X pins σ H { s with heap:=h' }:=I.turned (t':=s.toks) (fun b o hb e=>(sb.2 b hb).trans e) f0 f1 f3 f4 f5
  obtain ⟨o,e,c,d⟩:=id st'
  exact ⟨u,rfl,qk (s:={ s with heap:=h' }) e c d (by decide) ⟨x,H,I1,ru,⟨rfl,fun ys hy=>by rw [I.list_inj hy hq];exact hx⟩,st',fun b hb=>(hf b hb).1⟩⟩
 done:=by
  intro X hP hw hK hc i pins s σ H E I hf st hg
  subst hP hw hK
  obtain ⟨xs,hq,hx⟩:=hg
  obtain ⟨its,rv,p,hz⟩:=I.list hq
  obtain ⟨f0,f1,f2,f3,f4,f5⟩:=hf it (by simp)
  have hl:=rv.length
  exact wpAny_pyNext_list_end (I.ok.hd hc) st p.isList (by simp;lia) fun h' eb=>⟨rfl,I.turned (t':=s.toks) (fun b o hb e=>eb b o hb e) f0 f1 f3 f4 f5⟩
 self:=fun _ _ _ _ _ st h=>wpAny_pyIter_listiter st h
theorem sj {P:Program} {w:World} {K:X8} {tg:Expr} (a it:Addr):Turn P w K tg (Itt K a) [it] it (fun i h=>h.IsTupleIter it a i) where
 mem:=by simp
 obj:=fun i h st b hb=>by
  have e:b=it:=by simpa using hb
  subst e
  obtain ⟨o,e,c,d⟩:=st
  exact ⟨o,e,fun v z=>by rw [d] at z;cases z⟩
 keep:=fun i h h' st k=>st.at fun o e=>k it (by simp) o e
 item:=by
  intro X hP hw hK hc i pins s σ H E I hf st hg
  subst hP hw hK
  obtain ⟨xs,x,hq,hx⟩:=hg
  obtain ⟨its,rv,p,hz⟩:=I.tuple hq
  obtain ⟨u,hu,ru⟩:=rv.get hx
  obtain ⟨f0,f1,f2,f3,f4,f5⟩:=hf it (by simp)
  refine wpAny_pyNext_tuple_item st (show s.heap.IsTuple a its.toArray from p) (x:=u) (by simpa using hu) fun h' st' sb=>?_
  have I1:Inv X pins σ H { s with heap:=h' }:=I.turned (t':=s.toks) (fun b o hb e=>(sb.2 b hb).trans e) f0 f1 f3 f4 f5
  obtain ⟨o,e,c,d⟩:=id st'
  exact ⟨u,rfl,qk (s:={ s with heap:=h' }) e c d (by decide) ⟨x,H,I1,ru,⟨rfl,fun ys hy=>by rw [I.tuple_inj hy hq];exact hx⟩,st',fun b hb=>(hf b hb).1⟩⟩
 done:=by
  intro X hP hw hK hc i pins s σ H E I hf st hg
  subst hP hw hK
  obtain ⟨xs,hq,hx⟩:=hg
  obtain ⟨its,rv,p,hz⟩:=I.tuple hq
  obtain ⟨f0,f1,f2,f3,f4,f5⟩:=hf it (by simp)
  have hl:=rv.length
  exact wpAny_pyNext_tuple_end (I.ok.hd hc) st (show s.heap.IsTuple a its.toArray from p) (by simp;lia) fun h' eb=>⟨rfl,I.turned (t':=s.toks) (fun b o hb e=>eb b o hb e) f0 f1 f3 f4 f5⟩
 self:=fun _ _ _ _ _ st h=>wpAny_pyIter_tupleiter st h
theorem qZ {P:Program} {w:World} {K:X8} {tg:Expr} (it:Addr) (lo:Int) (n:Nat):Turn P w K tg (Itr lo n) [it] it (fun i h=>IsRangeIter h it (lo+(i:Nat) * 1) ((n:Int) - (i:Nat)) 1) where
 mem:=by simp
 obj:=fun i h st b hb=>by
  have e:b=it:=by simpa using hb
  subst e
  exact ⟨_,st,fun v z=>by
   have z':Data.fields _=Data.cell v:=z
   cases z'⟩
 keep:=fun i h h' st k=>k it (by simp) _ st
 item:=by
  intro X hP hw hK hc i pins s σ H E I hf st hg
  subst hP hw hK
  obtain ⟨f0,f1,f2,f3,f4,f5⟩:=hf it (by simp)
  have W:=Walks.range (prog:=X.prog) (w:=X.w) (I.ok.hd hc) it lo 1 n
  refine W.item i s _ _ hg st fun v h' tk hv st' kk=>?_
  obtain ⟨t,rfl⟩:=hv
  have I1:Inv X pins σ H { s with heap:=h',toks:=tk }:=I.turned (fun b o hb e=>kk b o (by simpa using hb) e) f0 f1 f3 f4 f5
  refine ⟨_,rfl,qk (s:={ s with heap:=h',toks:=tk }) (n := "range_iterator") st' rfl rfl (by decide) ⟨.int (lo+i),H,I1,⟨t,?_⟩,⟨rfl,rfl⟩,st',fun b hb=>(hf b hb).1⟩⟩
  rw [Int.mul_one]
 done:=by
  intro X hP hw hK hc i pins s σ H E I hf st hg
  subst hP hw hK
  obtain ⟨f0,f1,f2,f3,f4,f5⟩:=hf it (by simp)
  exact wpAny_pyNext_range_end (I.ok.hd hc) st (by have:n<=i:=hg;lia) fun h' eb=>⟨rfl,I.turned (t':=s.toks) (fun b o hb e=>eb b o hb e) f0 f1 f3 f4 f5⟩
 self:=fun _ _ _ _ _ st h=>wpAny_pyIter_rangeiter st h
section
variable {X:Cx} {tg:Expr}
theorem vN {pins:Y7} {σ:St} {H:Hp} {s:Shared} {R:It->Hp->Prop} {E:Z4} {lo hi:Int} {t u v:Tok} {tk:Nat} (I:Inv X pins σ H s) (h1:-(2 ^ 62)<=lo) (h2:lo < 2 ^ 62) (h3:-(2 ^ 62)<=hi) (h4:hi < 2 ^ 62)
  (q:R (Itr lo (hi - lo).toNat) H):wpAny (model X.prog X.w) X.A (pyIter (.ref s.heap.objs.size)) (PIE X pins σ tg R) E { s with heap:=s.heap.push { cls:=.type "range",data:=.fields #[.int lo t,.int hi u,.int 1 v] },toks:=tk }:=by
 refine wpAny_pyIter_range (IsRange.new ..) (small_one h1 h2 h3 h4) ?_
 have I1:Inv X pins σ H { s with heap:=s.heap.push { cls:=.type "range",data:=.fields #[.int lo t,.int hi u,.int 1 v] },toks:=tk }:=I.kept fun b o e=>Zk _ e
 refine ⟨(s.heap.push { cls:=.type "range",data:=.fields #[.int lo t,.int hi u,.int 1 v] }).objs.size,[(s.heap.push { cls:=.type "range",data:=.fields #[.int lo t,.int hi u,.int 1 v] }).objs.size],_,_,H,rfl,
  I1.kept (t':=tk) fun b o e=>Zk _ e,qZ _ lo (hi - lo).toNat,?_,fun b hb=>?_,q⟩
 ·have e1:lo+((0:Nat):Int) * 1=lo:=by simp
  have e2:(((hi - lo).toNat:Nat):Int) - ((0:Nat):Int)=Builtin.Range.rangeSize lo hi 1:=by rw [rangeSize_one];split <;> lia
  show IsRangeIter _ _ (lo+((0:Nat):Int) * 1) ((((hi - lo).toNat:Nat):Int) - ((0:Nat):Int)) 1
  rw [e1,e2]
  exact ZV _ rfl
 ·have e:b=(s.heap.push { cls:=.type "range",data:=.fields #[.int lo t,.int hi u,.int 1 v] }).objs.size:=by simpa using hb
  subst e
  exact I1.fpOk (Zi _) (I1.hok.fresh (Zi _))
noncomputable def AE (ta:TA):TI:=fun σ H R=>ta σ H fun vs H1=>∃ j:Int,vs=[.int j]/\-(2 ^ 62)<=j/\j < 2 ^ 62/\R (Itr 0 j.toNat) H1
theorem kG {a:Expr} {ta:TA} {p pos:Pos} (hg:Gl X "range") (hm:X.mg "range" = none) (ha:PA X [a] ta) (hs:starEach [a] X.env=[(false,eval a X.env)]:=by rfl):PI X tg (.Call (.Name "range" p) [a] [] pos) (AE ta):=by
 intro pins s σ H R I h
 refine Call_ (oo I hg hm boot_range (PyProof.Rows.callWith_type1 (thn (ha pos pins s σ H _ I h) fun us s1 ⟨vs,H1,I1,r1,q1⟩=>?_) hs rfl))
 obtain ⟨j,e,q1,q2,q⟩:=q1
 subst e
 cases r1 with
 | cons r rr =>
  cases rr
  obtain ⟨t,rfl⟩:=r
  exact call_range_1 (vN I1 (by lia) (by lia) q1 q2 (by simpa using q))
noncomputable def DQ (wi:TI) (g:TG) (tb:TS):TS:=fun D σ H=>wi σ H fun J H1=>∃ W:Nat->Nat->St->Hp->Prop,(∃ m,W 0 m σ H1)/\∀ i m σ H,W i m σ H →
 (J.stop i H/\D.nx σ H)\/(J.go i H/\∃ N:St->Hp->Prop,(∀ σ' H',N σ' H'->∃ m',m' < m/\W (i+1) m' σ' H')/\∀ x H',J.yld i H x H'->g x σ H' fun σ2 H2=>tb { D with nx:=N,ct:=N,bk:=D.nx } σ2 H2)
noncomputable def mM (fp:Wz) (h:Heap):Y7:=fp.filterMap fun b=>(h.get? b).map fun o=>(b,o)
theorem hJ {fp:Wz} {h:Heap} {b:Addr} {o:Obj} (hb:b∈fp) (e:h.get? b=some o):(b,o)∈mM fp h:=List.mem_filterMap.mpr ⟨b,hb,by rw [e];rfl⟩
theorem uQ {fp:Wz} {h:Heap} {p:Addr×Obj} (hp:p∈mM fp h):p.1∈fp/\h.get? p.1=some p.2:=by
 obtain ⟨b,hb,e⟩:=List.mem_filterMap.mp hp
 cases q:h.get? b with
 | none=>rw [q] at e;cases e
 | some o =>
  rw [q] at e
  have e':(b,o)=p:=Zm e
  subst e'
  exact ⟨hb,q⟩
theorem Inv.pinned {pins:Y7} {σ:St} {H:Hp} {s:Shared} {fp:Wz} (I:Inv X pins σ H s) (hf:∀ b∈fp,ny X pins H b) (ho:∀ b∈fp,∃ o,s.heap.get? b=some o/\∀ v,o.data ≠ .cell v):Inv X (pins++mM fp s.heap) σ H s :=
 I.pins_of fun p hp=>(Zb.mp hp).elim (fun z=>I.pin p (ZK _ z)) fun z=>by
  obtain ⟨hb,e⟩:=uQ z
  obtain ⟨f0,f1,f2,_⟩:=hf p.1 hb
  obtain ⟨o,e',d⟩:=ho p.1 hb
  rw [e] at e';cases e'
  exact ⟨e,f0,f1,f2,d⟩
theorem Inv.unpinned {pins pl:Y7} {σ:St} {H:Hp} {s:Shared} (I:Inv X (pins++pl) σ H s):Inv X pins σ H s:=I.pins_of fun p hp=>I.pin p (ZK _ (Yo _ hp))
theorem vz {iter:Expr} {body:List Stmt} {wi:TI} {g:TG} {tb:TS} {pos:Pos} (hp:PassesOwn (model X.prog X.w) X.A X.env X.xe) (hc:X.calm=true) (hi:PI X tg iter wi) (hg:PG X tg g) (hb:PSs X body tb)
  (hs:∀ x,foldedSetIterable iter X.env x=pure x:=by intro _;rfl):PS X (.For tg iter body [] pos) (DQ wi g tb):=by
 intro pins s σ H D I h
 refine wpAny_For (thn (hi pins s σ H _ I h) fun v s1 h1=>thn h1 fun itv s2 h2=>?_) hs
 obtain ⟨it,fp,tn,J,H2,e,I2,T,st2,f2,W,⟨m0,w0⟩,turn⟩:=h2
 subst e
 have stat:∀ {H':Hp},(∀ b∈fp,H' b=none)->∀ b∈fp,ny X pins H' b:=fun hn b hb=>⟨hn b hb,(f2 b hb).2⟩
 refine codeAny_forLoop_any (fun n s'=>∃ i σ' H',Inv X pins σ' H' s'/\tn i s'.heap/\(∀ b∈fp,H' b=none)/\W i n σ' H') ?_ m0 ⟨0,σ,H2,I2,st2,fun b hb=>(f2 b hb).1,w0⟩
 rintro n s3 ⟨i,σ3,H3,I3,st3,fr3,w3⟩
 rcases turn i n σ3 H3 w3 with ⟨stop,qn⟩ | ⟨go,N,hN,step⟩
 ·refine YL hp (thn (T.done X rfl rfl rfl hc i pins s3 σ3 H3 X.xe I3 (stat fr3) st3 stop) fun r s4 ⟨hr,I4⟩=>?_)
  subst hr
  exact XS ⟨σ3,H3,I4,qn⟩
 ·refine YL hp (thn (T.item X rfl rfl rfl hc i pins s3 σ3 H3 X.xe I3 (stat fr3) st3 go) fun r s4 ⟨u,hr,h4⟩=>?_)
  subst hr
  refine YL hp (thn h4 fun _ s5 ⟨x,H5,I5,r5,y5,st5,fr5⟩=>?_)
  have I5':=I5.pinned (stat fr5) (T.obj _ _ st5)
  refine YL hp (thn (hg _ s5 σ3 H5 x u _ I5' r5 (step x H5 y5)) fun _ s6 ⟨σ6,H6,I6,q6⟩=>?_)
  refine YL hp (thn (hb _ s6 σ6 H6 _ I6 q6) fun f s7 q7=>?_)
  have again:∀ {σ7:St} {H7:Hp},Inv X (pins++mM fp s5.heap) σ7 H7 s7->N σ7 H7->∃ m,m < n/\∃ i σ' H',Inv X pins σ' H' s7/\tn i s7.heap/\(∀ b∈fp,H' b=none)/\W i m σ' H':=fun {σ7 H7} I7 n7=>by
   obtain ⟨m',hm,w7⟩:=hN σ7 H7 n7
   refine ⟨m',hm,i+1,σ7,H7,I7.unpinned,T.keep _ _ _ st5 fun b hb o e=>(I7.pin (b,o) (ZK _ (ZK _ (hJ hb e)))).1,fun b hb=>?_,w7⟩
   obtain ⟨o,e,d⟩:=T.obj _ _ st5 b hb
   exact (I7.pin (b,o) (ZK _ (ZK _ (hJ hb e)))).2.1
  cases f with
  | next=>obtain ⟨σ7,H7,I7,n7⟩:=q7;exact again I7 n7
  | cont=>obtain ⟨σ7,H7,I7,n7⟩:=q7;exact again I7 n7
  | brk=>obtain ⟨σ7,H7,I7,q7⟩:=q7;exact ⟨σ7,H7,I7.unpinned,q7⟩
  | ret v=>obtain ⟨x7,σ7,H7,I7,r7,q7⟩:=q7;exact ⟨x7,σ7,H7,I7.unpinned,r7,q7⟩
end
noncomputable abbrev R2:=V->V->Hp->VK->Prop
noncomputable def OpR (X:Cx) (f:Value->Value->Sem Value) (r:R2):Prop :=
 ∀ (pins:Y7) (s:Shared) (σ:St) (H:Hp) (x y:V) (v u:Value) (Q:VK),Inv X pins σ H s->RelV x v->RelV y u->r x y H Q →
  wpAny (model X.prog X.w) X.A (f v u) (EP X pins σ Q) X.xe s
noncomputable def UnR (X:Cx) (f:Value->Sem Value) (r:V->Hp->VK->Prop):Prop :=
 ∀ (pins:Y7) (s:Shared) (σ:St) (H:Hp) (x:V) (v:Value) (Q:VK),Inv X pins σ H s->RelV x v->r x H Q →
  wpAny (model X.prog X.w) X.A (f v) (EP X pins σ Q) X.xe s
noncomputable def dD (X:Cx) (f:Value) (r:List V->Hp->VK->Prop):Prop :=
 ∀ (pins:Y7) (s:Shared) (σ:St) (H:Hp) (xs:List V) (us:Wy) (Q:VK),Inv X pins σ H s->aN xs us->r xs H Q →
  wpAny (model X.prog X.w) X.A (call f us) (EP X pins σ Q) X.xe s
noncomputable def EA (X:Cx) (r:V->Hp->(Bool->Hp->Prop)->Prop):Prop :=
 ∀ (pins:Y7) (s:Shared) (σ:St) (H:Hp) (x:V) (v:Value) (Q:Bool->Hp->Prop),Inv X pins σ H s->RelV x v->r x H Q →
  wpAny (model X.prog X.w) X.A (truthy v) (TP X pins σ Q) X.xe s
noncomputable def tOp (r:R2) (ta tb:TE):TE:=fun σ H Q=>ta σ H fun x H1=>tb σ H1 fun y H2=>r x y H2 Q
noncomputable def tUn (r:V->Hp->VK->Prop) (ta:TE):TE:=fun σ H Q=>ta σ H fun x H1=>r x H1 Q
noncomputable def rI (C:Int->Int->Prop) (g:Int->Int->V):R2:=fun x y H Q=>∃ i j,x=.int i/\y=.int j/\C i j/\Q (g i j) H
noncomputable def rI0 (g:Int->Int->V):R2:=fun x y H Q=>∃ i j,x=.int i/\y=.int j/\Q (g i j) H
noncomputable def rU (g:Int->V):V->Hp->VK->Prop:=fun x H Q=>∃ i,x=.int i/\Q (g i) H
section
variable {X:Cx} {a b c:Expr} {ta tb tc:TE} {pos:Pos}
theorem Bx (ha:PE X a ta) (hb:PE X b tb) {pins:Y7} {s:Shared} {σ:St} {H:Hp} {R:V->V->Hp->Prop} (I:Inv X pins σ H s)
  (h:ta σ H fun x H1=>tb σ H1 fun y H2=>R x y H2) {Q:Z4} {f:Value->Value->Sem Value}
  (hf:∀ v u s2 x y H2,Inv X pins σ H2 s2->RelV x v->RelV y u->R x y H2->wpAny (model X.prog X.w) X.A (f v u) Q X.xe s2) :
  wpAny (model X.prog X.w) X.A (eval a X.env) (fun v s₁=>wpAny (model X.prog X.w) X.A (eval b X.env) (fun u s₂=>wpAny (model X.prog X.w) X.A (f v u) Q X.xe s₂) X.xe s₁) X.xe s:=by
 refine thn (ha pins s σ H _ I h) fun v s1 ⟨x,H1,I1,r1,q1⟩=>?_
 refine thn (hb pins s1 σ H1 _ I1 q1) fun u s2 ⟨y,H2,I2,r2,q2⟩=>?_
 exact hf v u s2 x y H2 I2 r1 r2 q2
theorem Ai {op:Operator} {r:R2} (ho:OpR X (binaryOp op) r) (ha:PE X a ta) (hb:PE X b tb):PE X (.BinOp a op b pos) (tOp r ta tb):=by
 intro pins s σ H Q I h
 exact wpAny_BinOp (Bx ha hb I h fun v u s2 x y H2 I2 rx ry q=>ho pins s2 σ H2 x y v u Q I2 rx ry q)
theorem CW {op:UnaryOp} {r:V->Hp->VK->Prop} (ho:UnR X (unaryOp op) r) (ha:PE X a ta):PE X (.UnaryOp op a pos) (tUn r ta):=by
 intro pins s σ H Q I h
 exact UnaryOp_ (thn (ha pins s σ H _ I h) fun v s1 ⟨x,H1,I1,r1,q1⟩=>ho pins s1 σ H1 x v Q I1 r1 q1)
theorem opI {f:Value->Value->Sem Value} {C:Int->Int->Prop} {g:Int->Int->Int}
  (rule:∀ (i j:Int) (t u:Tok) (s:Shared) (Q:Z4) (E:Z4),C i j->Q (.int (g i j) s.toks) { s with toks:=s.toks+1 }->wpAny (model X.prog X.w) X.A (f (.int i t) (.int j u)) Q E s) :
  OpR X f (rI C fun i j=>.int (g i j)):=by
 intro pins s σ H x y v u Q I rx ry h
 obtain ⟨i,j,rfl,rfl,hc,q⟩:=h
 obtain ⟨t,rfl⟩:=rx
 obtain ⟨t',rfl⟩:=ry
 exact rule i j t t' s _ _ hc ⟨.int (g i j),H,I.tok _,⟨_,rfl⟩,q⟩
theorem C9 {f:Value->Value->Sem Value} {g:Int->Int->Int}
  (rule:∀ (i j:Int) (t u:Tok) (s:Shared) (Q:Z4) (E:Z4),Q (.int (g i j) s.toks) { s with toks:=s.toks+1 }->wpAny (model X.prog X.w) X.A (f (.int i t) (.int j u)) Q E s) :
  OpR X f (rI0 fun i j=>.int (g i j)):=by
 intro pins s σ H x y v u Q I rx ry h
 obtain ⟨i,j,rfl,rfl,q⟩:=h
 obtain ⟨t,rfl⟩:=rx
 obtain ⟨t',rfl⟩:=ry
 exact rule i j t t' s _ _ ⟨.int (g i j),H,I.tok _,⟨_,rfl⟩,q⟩
theorem zR {f:Value->Value->Sem Value} {g:Int->Int->Bool}
  (rule:∀ (i j:Int) (t u:Tok) (s:Shared) (Q:Z4) (E:Z4),Q (.bool (g i j)) s->wpAny (model X.prog X.w) X.A (f (.int i t) (.int j u)) Q E s) :
  OpR X f (rI0 fun i j=>.bl (g i j)):=by
 intro pins s σ H x y v u Q I rx ry h
 obtain ⟨i,j,rfl,rfl,q⟩:=h
 obtain ⟨t,rfl⟩:=rx
 obtain ⟨t',rfl⟩:=ry
 exact rule i j t t' s _ _ ⟨.bl (g i j),H,I,rfl,q⟩
noncomputable def Dz (i j:Int):Prop:=0 < j/\j < 1073741824
noncomputable def yW (i j:Int):Prop:=(-(2 ^ 64) < i/\i < 2 ^ 64)\/(-(2 ^ 64) < j/\j < 2 ^ 64)
theorem yW.ok {i j:Int} (h:yW i j):IntMulOk i j:=by
 rcases h with ⟨h1,h2⟩ | ⟨h1,h2⟩
 ·exact .of_left (intBits_le_64 h1 h2)
 ·exact .of_right (intBits_le_64 h1 h2)
theorem Bv:OpR X (binaryOp .Add) (rI0 fun i j=>.int (i+j)):=C9 fun _ _ _ _ _ _ _ q=>add_int q
theorem oR:OpR X (binaryOp .Sub) (rI0 fun i j=>.int (i - j)):=C9 fun _ _ _ _ _ _ _ q=>sub_int q
theorem Cb:OpR X (binaryOp .Mult) (rI yW fun i j=>.int (i * j)):=opI fun _ _ _ _ _ _ _ hc q=>mul_int q hc.ok
theorem lS:OpR X (binaryOp .FloorDiv) (rI Dz fun i j=>.int (i / j)):=opI fun i j _ _ _ _ _ hc q=>by
 have h1:(0:Int) < j:=hc.1
 have h2:j < 1073741824:=hc.2
 exact floordiv_int (by lia) (by rw [Int.fdiv_eq_ediv_of_nonneg i (by lia)];exact q) (.inl (PyProof.noPylong_small (by omega)))
theorem Bi:OpR X (binaryOp .Mod) (rI (fun _ j=>0 < j) fun i j=>.int (i % j)):=opI fun i j _ _ _ _ _ hc q=>by
 have h1:(0:Int) < j:=hc
 exact mod_int' (by lia) (by rw [Int.fmod_eq_emod_of_nonneg i (by lia)];exact q)
theorem unI {f:Value->Sem Value} {g:Int->Int}
  (rule:∀ (i:Int) (t:Tok) (s:Shared) (Q:Z4) (E:Z4),Q (.int (g i) s.toks) { s with toks:=s.toks+1 }->wpAny (model X.prog X.w) X.A (f (.int i t)) Q E s) :
  UnR X f (rU fun i=>.int (g i)):=by
 intro pins s σ H x v Q I rx h
 obtain ⟨i,rfl,q⟩:=h
 obtain ⟨t,rfl⟩:=rx
 exact rule i t s _ _ ⟨.int (g i),H,I.tok _,⟨_,rfl⟩,q⟩
theorem B6:UnR X (unaryOp .USub) (rU fun i=>.int (-i)):=unI fun _ _ _ _ _ q=>neg_int q
end
section
variable {X:Cx} {a b c:Expr} {ta tb tc:TE} {pos:Pos}
theorem A0 {pins:Y7} {σ:St} {H:Hp} {s:Shared} {Q:VK} {k k':Bool} (I:Inv X pins σ H s) (q:Q (.bl k) H) (e:k=k'):EP X pins σ Q (.bool k') s:=by
 subst e
 exact ⟨.bl k,H,I,rfl,q⟩
theorem Dd:OpR X (compareOp .Lt) (rI0 fun i j=>.bl (decide (i < j))):=zR fun _ _ _ _ _ _ _ q=>lt_int q
theorem Dg:OpR X (compareOp .LtE) (rI0 fun i j=>.bl (decide (i<=j))):=zR fun _ _ _ _ _ _ _ q=>le_int q
theorem Ax:OpR X (compareOp .Gt) (rI0 fun i j=>.bl (decide (j < i))):=zR fun _ _ _ _ _ _ _ q=>gt_int q
theorem CL:OpR X (compareOp .GtE) (rI0 fun i j=>.bl (decide (j<=i))):=zR fun _ _ _ _ _ _ _ q=>ge_int q
theorem uZ:OpR X (compareOp .Lt) (fun x y H Q=>∃ i j,x=.str i/\y=.str j/\Q (.bl (decide (i.cps.toList < j.cps.toList))) H):=by
 intro pins s σ H x y v u Q I rx ry h
 obtain ⟨i,j,rfl,rfl,q⟩:=h
 obtain ⟨t,rfl⟩:=rx
 obtain ⟨t',rfl⟩:=ry
 exact lt_str (A0 I q rfl)
theorem OpR.or {f:Value->Value->Sem Value} {r r':R2} (h:OpR X f r) (h':OpR X f r'):OpR X f (fun x y H Q=>r x y H Q\/r' x y H Q):=by
 intro pins s σ H x y v u Q I rx ry q
 rcases q with q | q
 ·exact h pins s σ H x y v u Q I rx ry q
 ·exact h' pins s σ H x y v u Q I rx ry q
theorem ie (b:Expr) {op:CmpOp} (h:op ≠ .In:=by decide) (h2:op ≠ .NotIn:=by decide):behindInMarks op b=false:=by
 have e1:(op == CmpOp.In)=false:=by cases op <;> first | rfl | exact absurd rfl h
 have e2:(op == CmpOp.NotIn)=false:=by cases op <;> first | rfl | exact absurd rfl h2
 cases b <;> simp [behindInMarks,e1,e2]
theorem zB {op:CmpOp} {r:R2} (ho:OpR X (compareOp op) r) (ha:PE X a ta) (hb:PE X b tb) (hm:behindInMarks op b=false):PE X (.Compare a [op] [b] pos) (tOp r ta tb):=by
 intro pins s σ H Q I h
 exact wpAny_Compare1 (Bx ha hb I h fun v u s2 x y H2 I2 rx ry q=>ho pins s2 σ H2 x y v u Q I2 rx ry q) hm
noncomputable def xZ (t:TE):TT:=fun σ H Q=>t σ H fun x H'=>∃ k,x=.bl k/\Q k H'
theorem sZ {op:CmpOp} {r:R2} (ho:OpR X (compareOp op) r) (ha:PE X a ta) (hb:PE X b tb) (hm:behindInMarks op b=false):PT X (.Compare a [op] [b] pos) (xZ (tOp r ta tb)):=by
 intro pins s σ H Q I h
 refine wpAny_isTrue_Compare1 (thn (ha pins s σ H _ I h) fun v s1 ⟨x,H1,I1,r1,q1⟩=>thn (hb pins s1 σ H1 _ I1 q1) fun u s2 ⟨y,H2,I2,r2,q2⟩ =>
  thn (ho pins s2 σ H2 x y v u _ I2 r1 r2 q2) fun c s3 ⟨z,H3,I3,r3,k,e,q3⟩=>?_) hm
 subst e
 cases r3
 exact YV ⟨H3,I3,q3⟩
noncomputable def xq (r r':R2) (ta tb tc:TE):TE:=fun σ H Q=>ta σ H fun x H1=>tb σ H1 fun y H2=>r x y H2 fun z H3=>∃ k,z=.bl k ∧
 (if k=true then tc σ H3 fun w' H4=>r' y w' H4 Q else Q (.bl false) H3)
theorem pI {op op':CmpOp} {r r':R2} (ho:OpR X (compareOp op) r) (ho':OpR X (compareOp op') r') (ha:PE X a ta) (hb:PE X b tb) (hc:PE X c tc)
  (hm:lastMarks [op,op'] [b,c]=false:=by with_unfolding_all rfl):PT X (.Compare a [op,op'] [b,c] pos) (xZ (xq r r' ta tb tc)):=by
 intro pins s σ H Q I h
 refine isTrue_chain (thn (ha pins s σ H _ I h) fun v s1 ⟨x,H1,I1,r1,q1⟩=>test_link (thn (hb pins s1 σ H1 _ I1 q1) fun u s2 ⟨y,H2,I2,r2,q2⟩ =>
  thn (ho pins s2 σ H2 x y v u _ I2 r1 r2 q2) fun d s3 ⟨z,H3,I3,r3,k,e,q3⟩=>?_)) hm
 subst e
 cases r3
 refine YV ?_
 cases k with
 | false =>
  obtain ⟨k',e',q'⟩:=q3
  cases e'
  exact ite_ff ⟨H3,I3,q'⟩
 | true =>
  refine ite_tt (test_last (thn (hc pins s3 σ H3 _ I3 q3) fun w' s4 ⟨z',H4,I4,r4,q4⟩=>thn (ho' pins s4 σ H4 y z' u w' _ I4 r2 r4 q4) fun d' s5 ⟨z2,H5,I5,r5,k2,e2,q5⟩=>?_))
  subst e2
  cases r5
  exact YV ⟨H5,I5,q5⟩
noncomputable def A8 (K:X8) (x:V) (H:Hp) (k:Bool):Prop :=
 match x with
 | .non=>k=false
 | .bl b=>k=b
 | .int i=>k=(i != 0)
 | .str y=>y.length<=sizeLine/\k=((y.length:Int) != 0)
 | .byt y=>y.size<=sizeLine/\k=((y.size:Int) != 0)
 | .ref p=>(∃ xs,SqL K H p xs/\k=!xs.isEmpty)\/(∃ xs,SqT K H p xs/\k=!xs.isEmpty)\/∃ kvs,H p=some (.dK kvs)/\k=!kvs.isEmpty
 | _=>False
theorem rS {κ:Type} {kvs:List (κ×V)} {vs:List (κ×Value)} (r:KV kvs vs):(!vs.isEmpty)=!kvs.isEmpty:=by
 cases r <;> rfl
theorem mS {xs:List V} {its:Wy} (r:aN xs its):(!its.toArray.isEmpty)=!xs.isEmpty:=by
 cases r <;> simp
theorem kI:(sizeLine:Nat) < 2 ^ 63:=by rw [Y5];decide
theorem Bf:EA X (fun x H Q=>∃ k,A8 X.K x H k/\Q k H):=by
 intro pins s σ H x v Q I rx h
 obtain ⟨k,e,q⟩:=h
 have hl:=kI
 have hs:sizeLine=16777216:=Y5
 cases x with
 | non =>
  cases rx
  have e':k=false:=e
  subst e'
  exact truthy_none ⟨H,I,q⟩
 | bl b =>
  cases rx
  have e':k=b:=e
  subst e'
  exact YV ⟨H,I,q⟩
 | int i =>
  obtain ⟨t,rfl⟩:=rx
  have e':k=(i != 0):=e
  subst e'
  exact PySem.P.truthy_int ⟨H,I,q⟩
 | str y =>
  obtain ⟨t,rfl⟩:=rx
  obtain ⟨hy,e'⟩:y.length<=sizeLine/\k=((y.length:Int) != 0):=e
  subst e'
  exact PySem.P.truthy_str (by lia) ⟨H,I.tok _,q⟩
 | byt y =>
  obtain ⟨t,rfl⟩:=rx
  obtain ⟨hy,e'⟩:y.size<=sizeLine/\k=((y.size:Int) != 0):=e
  subst e'
  exact PySem.W.truthy_bytes (by lia) ⟨H,I.tok _,q⟩
 | ref p =>
  cases rx
  have e':(∃ xs,SqL X.K H p xs/\k=!xs.isEmpty)\/(∃ xs,SqT X.K H p xs/\k=!xs.isEmpty)\/∃ kvs,H p=some (.dK kvs)/\k=!kvs.isEmpty:=e
  rcases e' with ⟨xs,hx,e'⟩ | ⟨xs,hx,e'⟩ | ⟨kvs,hx,e'⟩
  ·subst e'
   obtain ⟨its,r,pl,hz⟩:=I.list hx
   have hlen:=r.length
   exact wpAny_truthy_list pl.isList (by simp only [ZX];lia) ⟨H,I.tok _,by rw [mS r];exact q⟩
  ·subst e'
   obtain ⟨its,r,pl,hz⟩:=I.tuple hx
   have hlen:=r.length
   exact truthy_tuple pl (by simp only [ZX];lia) ⟨H,I.tok _,by rw [mS r];exact q⟩
  ·subst e'
   obtain ⟨hz,hS,vs,r,m⟩:kvs.length<=sizeLine/\(p == sysModules)=false/\∃ vs,KV kvs vs/\s.heap.DictOf (aJ X.prog X.w) p vs:=I.hok p _ hx
   have hlen:kvs.length=vs.length:=Y0 r
   exact wpAny_truthy_dict hS m (by lia) ⟨H,I.tok _,by rw [rS r];exact q⟩
 | _=>exact (show False from e).elim
theorem wL (ha:PE X a ta) (he:∀ whole,isTrue a X.env whole=(do let v ← whole;standAt a.pos;holding [v] (truthy v))) :
  PT X a (fun σ H Q=>ta σ H fun x H'=>∃ k,A8 X.K x H' k/\Q k H'):=by
 intro pins s σ H Q I h
 exact isTrue_plain (thn (ha pins s σ H _ I h) fun v s1 ⟨x,H1,I1,r1,q1⟩=>Bf pins s1 σ H1 x v Q I1 r1 q1) (he _)
theorem rA:OpR X (binaryOp .Add) (fun x y H Q=>∃ i j,x=.str i/\y=.str j/\i.length+j.length<=sizeLine/\Q (.str (i++j)) H):=by
 intro pins s σ H x y v u Q I rx ry h
 obtain ⟨i,j,rfl,rfl,hz,q⟩:=h
 obtain ⟨t,rfl⟩:=rx
 obtain ⟨t',rfl⟩:=ry
 exact add_str (fun t' tk=>⟨.str (i++j),H,I.tok _,⟨_,rfl⟩,q⟩) hz
theorem vals1 {x:V} {us:Wy} (r:aN [x] us):∃ u,us=[u]/\RelV x u:=by
 cases r with
 | cons r1 r2=>cases r2;exact ⟨_,rfl,r1⟩
theorem vals2 {x y:V} {us:Wy} (r:aN [x,y] us):∃ u w',us=[u,w']/\RelV x u/\RelV y w':=by
 cases r with
 | cons r1 r2 =>
  cases r2 with
  | cons r3 r4=>cases r4;exact ⟨_,_,rfl,r1,r3⟩
theorem uf (hc:X.calm=true):dD X (.builtin "min") (fun xs H Q=>∃ i j,xs=[.int i,.int j]/\Q (.int (if j < i then j else i)) H):=by
 intro pins s σ H xs us Q I r h
 obtain ⟨i,j,rfl,q⟩:=h
 obtain ⟨u,w',rfl,⟨t,rfl⟩,⟨t',rfl⟩⟩:=vals2 r
 refine min_two_ints (I.ok.hd hc) fun h' tk k=>⟨_,H,I.kept k,?_,q⟩
 by_cases hj:j < i
 ·rw [Zp hj,Zp hj];exact ⟨_,rfl⟩
 ·rw [Zo hj,Zo hj];exact ⟨_,rfl⟩
noncomputable def Du (K:X8) (x:V) (H:Hp) (n:Nat):Prop :=
 match x with
 | .str y=>y.length<=sizeLine/\n=y.length
 | .byt y=>y.size<=sizeLine/\n=y.size
 | .ref p=>(∃ xs,SqL K H p xs/\n=xs.length)\/∃ xs,SqT K H p xs/\n=xs.length
 | _=>False
theorem wx:dD X (.builtin "len") (fun xs H Q=>∃ x n,xs=[x]/\Du X.K x H n/\Q (.int n) H):=by
 intro pins s σ H xs us Q I r h
 obtain ⟨x,n,rfl,e,q⟩:=h
 obtain ⟨u,rfl,rx⟩:=vals1 r
 have hl:=kI
 have hs:sizeLine=16777216:=Y5
 cases x with
 | str y =>
  obtain ⟨t,rfl⟩:=rx
  obtain ⟨hy,e'⟩:y.length<=sizeLine/\n=y.length:=e
  subst e'
  exact len_str (by lia) ⟨.int _,H,I.tok _,⟨_,rfl⟩,q⟩
 | byt y =>
  obtain ⟨t,rfl⟩:=rx
  obtain ⟨hy,e'⟩:y.size<=sizeLine/\n=y.size:=e
  subst e'
  exact PySem.W.len_bytes (by lia) ⟨.int _,H,I.tok _,⟨_,rfl⟩,q⟩
 | ref p =>
  cases rx
  have e':(∃ xs,SqL X.K H p xs/\n=xs.length)\/∃ xs,SqT X.K H p xs/\n=xs.length:=e
  rcases e' with ⟨xs,hx,e'⟩ | ⟨xs,hx,e'⟩
  ·subst e'
   obtain ⟨its,r',pl,hz⟩:=I.list hx
   have hlen:=r'.length
   exact Calls.call_len_list pl.isList (by simp only [ZX];lia) ⟨.int xs.length,H,I.tok _,⟨_,by simp only [ZX];rw [hlen]⟩,q⟩
  ·subst e'
   obtain ⟨its,r',pl,hz⟩:=I.tuple hx
   have hlen:=r'.length
   exact len_tuple pl (by simp only [ZX];lia) ⟨.int xs.length,H,I.tok _,⟨_,by simp only [ZX];rw [hlen]⟩,q⟩
 | _=>exact (show False from e).elim
end
structure ObjM (h:Heap) (x dx C:Addr) (mA:X9):Prop where
 obj:h.get? x=some (PySem.W.instObj C dx)
 ns:h.Ns1 dx mA
 ne:dx ≠ x
theorem u7 {h:Heap} {dx:Addr} {mA:X9} (n:h.Ns1 dx mA):∃ od,h.get? dx=some od/\∀ name,PySem.W.lookIn name od=some (mA name):=by
 obtain ⟨o,es,ep,ho,hd,hk,_,hm⟩:=n
 refine ⟨o,ho,fun name=>?_⟩
 have e:=hm name
 unfold nsFind findBy at e
 rw [← Array.find?_toList] at e
 unfold PySem.W.lookIn
 rw [hd]
 dsimp only
 split
 ·rename_i y q
  rw [q] at e
  exact congrArg some e
 ·rename_i q
  rw [q] at e
  have a:es.toList.any (·.refKey)=false:=by
   rw [List.any_eq_false]
   intro y hy
   obtain ⟨z,t,hkey⟩:=hk y (Array.mem_toList_iff.mp hy)
   simp [DictEntry.refKey,hkey]
  have a':¬ es.toList.any (·.refKey)=true:=by rw [a];exact Zg
  rw [Zo a']
  exact congrArg some e
theorem ObjM.look {h:Heap} {x dx C:Addr} {mA:X9} (I:ObjM h x dx C mA):∃ od,PySem.W.InstAt h x (PySem.W.instObj C dx) C (some od)/\∀ name,PySem.W.lookIn name od=some (mA name) :=
 let ⟨od,ho,hl⟩:=u7 I.ns
 ⟨od,⟨I.obj,rfl,rfl,ho⟩,hl⟩
section
variable {prog:Program} {w:World} {A:Around} {E:Z4} {s:Shared} {K:X8} {x dx C f:Addr} {mA:X9} {name:Str} {v:Value}
theorem get_map {expr:Bool} {Q:Z4} (X:K.In s.heap) (I:ObjM s.heap x dx C mA) (hg:PySem.W.plainGet K C name=true) (hh:PySem.W.hasDictIn K C=true)
  (ha:PySem.W.findIn K (.ref C) name=some none) (hv:mA name=some v) (hv':PySem.W.handedIn v=true) (h:Q v { s with toks:=s.toks+1 }) :
  wpAny (model prog w) A (getAttr (.ref x) name expr) Q E s:=by
 obtain ⟨od,J,hl⟩:=I.look
 exact PySem.W.get_value X J (XX hg).1 (PySem.W.findObj_own hh ha rfl (by rw [hl,hv])) hv' h
theorem vv {pl:Sem Bool} {Q:Value×Wy->Shared->Prop} (X:K.In s.heap) (I:ObjM s.heap x dx C mA) (hg:PySem.W.plainGet K C name=true)
  (hf:PySem.W.findIn K (.ref C) name=some (some (.ref f))) (ht:PySem.W.isFn K (.ref f)=true) (hv:mA name=none) (h:Q (.ref f,[.ref x]) s) :
  wpAny (model prog w) A (getMethod (.ref x) name pl) Q E s:=by
 obtain ⟨od,J,hl⟩:=I.look
 exact PySem.W.method_fn X J (XX hg).1 (XX hg).2 hf (beq_iff_eq.mp ht) (by show (PySem.W.lookIn name od).map (·.isSome)=some false;rw [hl,hv];rfl) h
theorem zQ {ns:List Str} {Q:Unit->Shared->Prop} (X:K.In s.heap) (I:ObjM s.heap x dx C mA)
  (hs:PySem.W.findIn K (.ref C) "__setattr__" = some (some (.builtin "object.__setattr__"))) (hp:PySem.W.plainOver K C=true) (ht:PySem.W.takerIn K C name=some none) (hh:PySem.W.hasDictIn K C=true)
  (hw:PySem.Within mA ns) (hsz:ns.length<=sizeLine)
  (h:∀ h',ObjM h' x dx C (fun y=>if y=name then some v else mA y)->Heap.SameBut dx s.heap h'->Q () { s with heap:=h',toks:=s.toks+2 }) :
  wpAny (model prog w) A (setAttr (.ref x) name v) Q E s:=by
 obtain ⟨od,J,hl⟩:=I.look
 refine PySem.W.set_plain X J hs (PySem.W.osa_open (s:={ s with toks:=s.toks+1 }) (r:=none) X J hp ht fun b=>?_)
 obtain ⟨cd,hc,hd'⟩:=PySem.W.any_some hh
 have hx:s.heap.get? x=some ⟨.ref C,some dx,.plain,#[]⟩:=I.obj
 refine Zq (Ze (Zq (Zq (wpAny_loadPart hx (Zq (PySem.W.Looks.here (s:={ s with toks:=s.toks+1 }) (PySem.W.looks_clsIn X hc) ?_))))))
 rw [hd']
 refine Ze (a:=some dx) (Zq (Ze (Zq ?_)))
 refine wpAny_nsSet1 (s:={ s with toks:=s.toks+1 }) I.ns fun h' hn2 hs2=>?_
 obtain ⟨oD,esD,epD,hoD,hdD,hcD⟩:=hn2.count (PySem.Within.cons name v hw)
 refine Zq (wpAny_lookBehind hoD (by rw [hdD];exact pastItsLine_dict (ZI hcD (by rw [Zl];exact Xi hsz))) ?_)
 exact Ze (h _ ⟨(hs2.2 _ (Yh I.ne)).trans I.obj,hn2,I.ne⟩ hs2)
theorem vn {R:Result->Shared->Prop} {vs:Wy} {kw:List (Str×Value)} (X:K.In s.heap) (hm:PySem.W.makesIn K C=true)
  (hi:PySem.W.findIn K (.ref C) "__init__" = some (some (.ref f))) (hf:PySem.W.typeIn K (.ref f)=some (.type "function"))
  (h:codeAny (model prog w) (A.under (.builtin "type.__call__" ⟨.ref C :: vs,kw⟩)) (.call (.ref f) ⟨.ref (s.heap.objs.size+1) :: vs,kw⟩) (PySem.W.InitBack (s.heap.objs.size+1) R)
   { s with heap:=(s.heap.push PySem.W.emptyDict).push (PySem.W.instObj C s.heap.objs.size) }) :
  codeAny (model prog w) A (.call (.ref C) ⟨vs,kw⟩) R s:=by
 obtain ⟨hh,g,d,t,os⟩:=s
 exact PySem.W.make_core (PySem.W.makes_of X hm) (PySem.W.looks_findIn X hi) (fun self=>PySem.W.bind_fn X self hf) (.inl rfl) h
end
noncomputable def ir (f:Str) (v:V):List (Str×V)->List (Str×V)
 | []=>[(f,v)]
 | (g,x) :: r=>if g=f then (g,v) :: r else (g,x) :: ir f v r
theorem kY (f g:Str) (v:V):∀ fs:List (Str×V),(ir f v fs).lookup g=if g=f then some v else fs.lookup g
 | []=>by
  show List.lookup g [(f,v)]=_
  by_cases h:g=f
  ·have hb:(g == f)=true:=beq_iff_eq.mpr h
   simp only [List.lookup,hb,Zp h]
  ·have hb:(g == f)=false:=ZM.mpr h
   simp only [List.lookup,hb,Zo h]
 | (k,x) :: r=>by
  have ih:=kY f g v r
  rw [show ir f v ((k,x) :: r)=(if k=f then (k,v) :: r else (k,x) :: ir f v r) from rfl]
  by_cases hk:k=f
  ·rw [Zp hk]
   by_cases h:g=k
   ·have hb:(g == k)=true:=beq_iff_eq.mpr h
    simp only [List.lookup,hb,Zp (h.trans hk)]
   ·have hb:(g == k)=false:=ZM.mpr h
    simp only [List.lookup,hb,Zo (fun e:g=f=>h (e.trans hk.symm))]
  ·rw [Zo hk]
   by_cases h:g=k
   ·have hb:(g == k)=true:=beq_iff_eq.mpr h
    simp only [List.lookup,hb,Zo (fun e:g=f=>hk (h.symm.trans e))]
   ·have hb:(g == k)=false:=ZM.mpr h
    simp only [List.lookup,hb]
    exact ih
theorem ko (f:Str) (v:V):∀ fs:List (Str×V),f∈(ir f v fs).map (·.1)/\∀ g,g∈fs.map (·.1)->g∈(ir f v fs).map (·.1)
 | []=>⟨by simp [ir],fun g h=>by simp at h⟩
 | (k,x) :: r=>by
  obtain ⟨i1,i2⟩:=ko f v r
  rw [show ir f v ((k,x) :: r)=(if k=f then (k,v) :: r else (k,x) :: ir f v r) from rfl]
  by_cases hk:k=f
  ·rw [Zp hk]
   subst hk
   exact ⟨by simp,fun g h=>by simpa using h⟩
  ·rw [Zo hk]
   refine ⟨?_,fun g h=>?_⟩
   ·rw [Zn]
    exact Zu _ i1
   ·rw [Zn] at h ⊢
    rcases Zj.mp h with e | e
    ·exact Zj.mpr (.inl e)
    ·exact Zu _ (i2 g e)
theorem la (f:Str) (v:V):∀ fs:List (Str×V),(ir f v fs).length<=fs.length+1
 | []=>by simp [ir]
 | (k,x) :: r=>by
  have ih:=la f v r
  rw [show ir f v ((k,x) :: r)=(if k=f then (k,v) :: r else (k,x) :: ir f v r) from rfl]
  by_cases hk:k=f
  ·rw [Zp hk,Zl,Zl];exact YU _ _
  ·rw [Zo hk,Zl,Zl];exact Xi ih
theorem ik.some_of {v:V} {o:Wx} (r:ik (some v) o):∃ u,o=some u/\RelV v u:=by
 cases o with
 | none=>exact (show False from r).elim
 | some u=>exact ⟨u,rfl,r⟩
theorem ik.none_of {o:Wx} (r:ik none o):o=none:=by
 cases o with
 | none=>rfl
 | some u=>exact (show False from r).elim
theorem u9 {v:V} {u:Value} (r:RelV v u):PySem.W.handedIn u=true:=by
 cases v with
 | non=>cases (show u=Value.none from r);rfl
 | bl b=>cases (show u=Value.bool b from r);rfl
 | int i=>obtain ⟨t,e⟩:=(show ∃ t,u=Value.int i t from r);cases e;rfl
 | str x=>obtain ⟨t,e⟩:=(show ∃ t,u=Value.str x t from r);cases e;rfl
 | byt b=>obtain ⟨t,e⟩:=(show ∃ t,u=Value.bytes b t from r);cases e;rfl
 | flt b=>obtain ⟨t,e⟩:=(show ∃ t,u=Value.float b t from r);cases e;rfl
 | ref a=>cases (show u=Value.ref a from r);rfl
 | ty n=>cases (show u=Value.type n from r);rfl
section
variable {P:Program} {w:World} {H H':Hp} {h h':Heap} {a C dx:Addr} {fs fs':List (Str×V)}
theorem lN (hok:HOk P w H h) (e:H a=some (.ins C dx fs)):∃ mA,ObjM h a dx C mA/\(∀ f,ik (fs.lookup f) (mA f))/\PySem.Within mA (fs.map (·.1))/\fs.length<=1000/\H dx=some (.own a):=by
 obtain ⟨d,z,ne,ob,mA,n,r,q⟩:=(show bN P w H h a (.ins C dx fs) from hok a _ e)
 exact ⟨mA,⟨ob,n,ne⟩,r,q,z,d⟩
end
structure Cls (K:X8) (C:Addr):Prop where
 pg:PySem.W.plainGet K C Str.empty=true
 hd:PySem.W.hasDictIn K C=true
 po:PySem.W.plainOver K C=true
 sa:PySem.W.findIn K (.ref C) "__setattr__" = some (some (.builtin "object.__setattr__"))
theorem Cls.get {K:X8} {C:Addr} (c:Cls K C) (f:Str):PySem.W.plainGet K C f=true:=c.pg
noncomputable def aS (K:X8) (C:Addr) (f:Str):Prop:=PySem.W.findIn K (.ref C) f=some none
theorem aS.taker {K:X8} {C:Addr} {f:Str} (n:aS K C f):PySem.W.takerIn K C f=some none:=by
 unfold PySem.W.takerIn
 rw [show PySem.W.findIn K (.ref C) f=some none from n]
 rfl
structure Meth (K:X8) (C:Addr) (m:Str) (f:Addr):Prop where
 at_:PySem.W.findIn K (.ref C) m=some (some (.ref f))
 fn:PySem.W.isFn K (.ref f)=true
 kp:PySem.W.keepIn K (.ref f)=true
section
variable {X:Cx} {pins:Y7} {σ:St} {H:Hp} {s:Shared} {a C dx:Addr} {fs:List (Str×V)} {f:Str} {v:V} {A:Around} {E:Z4}
theorem rP {b:Bool} {Q:Z4} (I:Inv X pins σ H s) (e:H a=some (.ins C dx fs)) (c:Cls X.K C) (n:aS X.K C f) (l:fs.lookup f=some v)
  (h:∀ u s',Inv X pins σ H s'->RelV v u->Q u s'):wpAny (model X.prog X.w) A (getAttr (.ref a) f b) Q E s:=by
 obtain ⟨mA,O,r,_,_,_⟩:=lN I.hok e
 obtain ⟨u,hu,ru⟩:=ik.some_of (v:=v) (o:=mA f) (by rw [← l];exact r f)
 exact get_map I.kIn O (c.get f) c.hd n hu (u9 ru) (h u _ (I.tok _) ru)
theorem mW {m:Str} {g:Addr} {pl:Sem Bool} {Q:Value×Wy->Shared->Prop} (I:Inv X pins σ H s) (e:H a=some (.ins C dx fs)) (c:Cls X.K C) (k:Meth X.K C m g) (l:fs.lookup m=none)
  (h:Q (.ref g,[.ref a]) s):wpAny (model X.prog X.w) A (getMethod (.ref a) m pl) Q E s:=by
 obtain ⟨mA,O,r,_,_,_⟩:=lN I.hok e
 have hn:mA m=none:=ik.none_of (by rw [← l];exact r m)
 exact vv I.kIn O (c.get m) k.at_ k.fn hn h
theorem qY {y:V} {u:Value} {Q:Unit->Shared->Prop} (I:Inv X pins σ H s) (e:H a=some (.ins C dx fs)) (c:Cls X.K C) (n:aS X.K C f) (hl:fs.length < 1000) (ry:RelV y u)
  (h:∀ s',Inv X pins σ (upd H a (.ins C dx (ir f y fs))) s'->Q () s'):wpAny (model X.prog X.w) A (setAttr (.ref a) f u) Q E s:=by
 obtain ⟨mA,O,r,wi,_,ho⟩:=lN I.hok e
 have hz:(fs.map (·.1)).length<=sizeLine:=by rw [Zw,Y5];lia
 refine zQ I.kIn O c.sa c.po n.taker c.hd wi hz fun h' O' sb=>h _ ?_
 have hd:∃ o,h'.get? dx=some o:=let ⟨o,_,_,e',_⟩:=O'.ns;⟨o,e'⟩
 refine I.write (x:=a) (e:=dx) (by rw [e];exact True.intro) (.inr ho) (fun b q hb z=>(sb.2 b hb).trans z) hd ?_
 refine ⟨by rw [aD O.ne];exact ho,?_,O.ne,O'.obj,_,O'.ns,fun g=>?_,fun g hg=>?_⟩
 ·have:=la f y fs;lia
 ·show ik ((ir f y fs).lookup g) (if g=f then some u else mA g)
  rw [kY]
  by_cases q:g=f
  ·rw [Zp q,Zp q];exact ry
  ·rw [Zo q,Zo q];exact r g
 ·by_cases q:g=f
  ·rw [q];exact (ko f y fs).1
  ·refine (ko f y fs).2 g (wi g fun z=>hg ?_)
   show (if g=f then some u else mA g)=none
   rw [Zo q];exact z
theorem Inv.made (I:Inv X pins σ H s):Inv X pins σ (upd (upd H s.heap.objs.size (.own (s.heap.objs.size+1))) (s.heap.objs.size+1) (.ins C s.heap.objs.size []))
  { s with heap:=(s.heap.push PySem.W.emptyDict).push (PySem.W.instObj C s.heap.objs.size) }:=by
 have e1:(s.heap.push PySem.W.emptyDict).get? s.heap.objs.size=some PySem.W.emptyDict:=ZV s.heap rfl
 have e2:((s.heap.push PySem.W.emptyDict).push (PySem.W.instObj C s.heap.objs.size)).get? (s.heap.objs.size+1)=some (PySem.W.instObj C s.heap.objs.size):=by
  have:=ZV (s.heap.push PySem.W.emptyDict) (o:=PySem.W.instObj C s.heap.objs.size) rfl
  rwa [X0] at this
 have e3:(s.heap.push PySem.W.emptyDict).Ns s.heap.objs.size (fun _=>none):=⟨PySem.W.emptyDict,#[],_,e1,rfl,(fun e he=>absurd he (by simp)),fun _=>rfl⟩
 have I1:=I.laid (a:=s.heap.objs.size) (o:=.own (s.heap.objs.size+1)) (h':=s.heap.push PySem.W.emptyDict) (t':=s.toks) (fun b u q=>Zk _ q) (Zi _) ⟨_,e1⟩
 refine I1.laid (a:=s.heap.objs.size+1) (o:=.ins C s.heap.objs.size []) (t':=s.toks) (fun b u q=>Zk _ q) (XC (X0 _ _)) ?_
 have ne:s.heap.objs.size ≠ s.heap.objs.size+1:=ZY (Yu _)
 refine ⟨by rw [aD ne,ax],Yp _,ne,e2,fun _=>none,(Heap.Ns1.of_empty e3).at fun o q=>Zk _ q,fun _=>True.intro,fun y hy=>absurd rfl hy⟩
theorem zf {prog:Program} {w:World} {env:Env} {e:Expr} {f:Str} {pos:Pos} {s:Shared} {Q:Z4} (hb:attributeBase e f env (eval e env)=eval e env)
  (h:wpAny (model prog w) A (eval e env) (fun o s₁=>wpAny (model prog w) A (getAttr o f true) Q E s₁) E s):wpAny (model prog w) A (eval (.Attribute e f pos) env) Q E s :=
 Attribute_any_ h (by rw [arm_eval_Attribute,hb])
end
noncomputable def Ep (K:X8) (ta:TE) (f:Str):TE:=fun σ H Q=>ta σ H fun x H1=>∃ a C dx fs v,x=.ref a/\H1 a=some (.ins C dx fs)/\Cls K C/\aS K C f/\fs.lookup f=some v/\Q v H1
noncomputable def El (K:X8) (ta tv:TE) (f:Str):TS:=fun D σ H=>tv σ H fun y H1=>ta σ H1 fun x H2=>∃ a C dx fs,x=.ref a/\H2 a=some (.ins C dx fs)/\Cls K C/\aS K C f/\fs.length < 1000 ∧
 D.nx σ (upd H2 a (.ins C dx (ir f y fs)))
section
variable {X:Cx} {o e value:Expr} {f:Str} {pos pos' tpos:Pos} {ta tv:TE}
theorem vi (he:PE X e ta) (hb:attributeBase e f X.env (eval e X.env)=eval e X.env):PE X (.Attribute e f pos) (Ep X.K ta f):=by
 intro pins s σ H Q I h
 refine zf hb (thn (he pins s σ H _ I h) fun u s1 ⟨x,H1,I1,rx,a,C,dx,fs,v,ex,ea,c,n,l,q⟩=>?_)
 subst ex
 obtain rfl:u=Value.ref a:=rx
 exact rP I1 ea c n l fun u' s2 I2 ru=>⟨v,H1,I2,ru,q⟩
theorem Bo (ha:PE X o ta) (hv:PE X value tv) (hs:swapsWith value (some (.Attribute o f pos')) pos.line X.env=pure false):PS X (.Assign [.Attribute o f pos'] value pos) (El X.K ta tv f):=by
 intro pins s σ H D I h
 refine plainObj_wpAny_Assign_Attribute (thn (hv pins s σ H _ I h) fun u s1 ⟨y,H1,I1,ry,q⟩=>thn (ha pins s1 σ H1 _ I1 q) fun ov s2 ⟨x,H2,I2,rx,a,C,dx,fs,ex,ea,c,n,l,q2⟩=>?_) hs
 subst ex
 obtain rfl:ov=Value.ref a:=rx
 exact qY I2 ea c n l ry fun s3 I3=>⟨σ,_,I3,q2⟩
end
section
variable {X:Cx} {pins:Y7} {σ:St} {H:Hp} {s:Shared} {A:Around} {E:Z4} {Q:Z4} {c:Value} {b:Bool}
inductive TyOf (K:X8) (H:Hp):V->Value->Prop where
 | non:TyOf K H .non (.type "NoneType")
 | bl (x:Bool):TyOf K H (.bl x) (.type "bool")
 | int (i:Int):TyOf K H (.int i) (.type "int")
 | str (x:Str):TyOf K H (.str x) (.type "str")
 | flt (x:UInt64):TyOf K H (.flt x) (.type "float")
 | lst {a:Addr} {xs:List V} (e:H a=some (.lst xs)):TyOf K H (.ref a) (.type "list")
 | frz {a:Addr} {o:Obj} {xs:List V} (e:H a=some (.frz o (.lst xs))):TyOf K H (.ref a) (.type "list")
 | tup {a:Addr} {xs:List V} (e:H a=some (.tup xs)):TyOf K H (.ref a) (.type "tuple")
 | dK {a:Addr} {kvs:List (Key×V)} (e:H a=some (.dK kvs)):TyOf K H (.ref a) (.type "dict")
 | dT {a:Addr} {kvs:List (List Key×V)} (e:H a=some (.dT kvs)):TyOf K H (.ref a) (.type "dict")
 | ins {a C dx:Addr} {fs:List (Str×V)} (e:H a=some (.ins C dx fs)) (cl:Cls K C) (ha:PySem.W.findIn K (.ref C) "__class__" = some (some (.builtin "object.__class__")))
   (hn:PySem.W.specialIn K (.builtin "object.__class__") "__get__" = some (some (.builtin "getset_descriptor.__get__"))) (htk:PySem.W.takesIn K (.builtin "object.__class__")=some true)
   (hm:PySem.W.mroIn K C (.type "object")=some true):TyOf K H (.ref a) (.ref C)
theorem uX {x:V} {u t:Value} (I:Inv X pins σ H s) (rx:RelV x u) (ty:TyOf X.K H x t) (e:PySem.W.kitOne X.K t c=some b) (h:∀ tk,Q (.bool b) { s with toks:=tk }) :
  wpAny (model X.prog X.w) A (call (.builtin "isinstance") [u,c]) Q E s:=by
 cases ty with
 | non=>cases (show u=Value.none from rx);exact Yq PySem.W.kitx_none I.kIn True.intro e (fun z=>nomatch z) h
 | bl y=>cases (show u=Value.bool y from rx);exact Yq PySem.W.kitx_bool I.kIn True.intro e (fun z=>nomatch z) h
 | int i=>obtain ⟨t,q⟩:=(show ∃ t,u=Value.int i t from rx);cases q;exact Yq PySem.W.kitx_int I.kIn True.intro e (fun z=>nomatch z) h
 | str y=>obtain ⟨t,q⟩:=(show ∃ t,u=Value.str y t from rx);cases q;exact Yq PySem.W.kitx_str I.kIn True.intro e (fun z=>nomatch z) h
 | flt y=>obtain ⟨t,q⟩:=(show ∃ t,u=Value.float y t from rx);cases q;exact Yq PySem.W.kitx_float I.kIn True.intro e (fun z=>nomatch z) h
 | @lst a xs ea =>
  cases (show u=Value.ref a from rx)
  obtain ⟨_,_,n,_,h1⟩:=(show bN X.prog X.w H s.heap a (.lst xs) from I.hok a _ ea)
  exact Yq PySem.W.kitx_list I.kIn ⟨_,h1,rfl⟩ e (fun z=>nomatch z) h
 | @frz a ob xs ea =>
  cases (show u=Value.ref a from rx)
  obtain ⟨_,_,_,n,_,h1⟩:=(show bN X.prog X.w H s.heap a (.frz ob (.lst xs)) from I.hok a _ ea)
  exact Yq PySem.W.kitx_list I.kIn ⟨_,h1,rfl⟩ e (fun z=>nomatch z) h
 | @tup a xs ea =>
  cases (show u=Value.ref a from rx)
  obtain ⟨_,_,_,_,p⟩:=(show bN X.prog X.w H s.heap a (.tup xs) from I.hok a _ ea)
  obtain ⟨o,h1,h2,_⟩:=p
  exact Yq PySem.W.kitx_tuple I.kIn ⟨o,h1,h2⟩ e (fun z=>nomatch z) h
 | @dK a kvs ea =>
  cases (show u=Value.ref a from rx)
  obtain ⟨_,_,vs,_,p⟩:=(show bN X.prog X.w H s.heap a (.dK kvs) from I.hok a _ ea)
  obtain ⟨o,es,ep,h1,h2,_⟩:=p
  exact Yq PySem.W.kitx_dict I.kIn ⟨o,h1,h2.1⟩ e (fun z=>nomatch z) h
 | @dT a kvs ea =>
  cases (show u=Value.ref a from rx)
  obtain ⟨_,_,xs,_,o,es,ep,h1,h2,_⟩:=(show bN X.prog X.w H s.heap a (.dT kvs) from I.hok a _ ea)
  exact Yq PySem.W.kitx_dict I.kIn ⟨o,h1,h2.1⟩ e (fun z=>nomatch z) h
 | @ins a C dx fs ea cl ha hn htk hm =>
  cases (show u=Value.ref a from rx)
  obtain ⟨mA,O,_⟩:=lN I.hok ea
  obtain ⟨od,J,_⟩:=O.look
  exact Yq (PySem.W.kitx_own (cl.get _) cl.hd ha hn htk hm) I.kIn J e (fun z=>nomatch z) h
end
structure Room (k:Nat) (A:Around):Prop where
 hd:A.handled=none
 dp:A.depth+3 * k+5 < recursionLimit
 un:A.units+16 * k+200 < cLine
theorem Room.mono {j k:Nat} {A:Around} (r:Room k A) (h:j<=k):Room j A:=⟨r.hd,by have:=r.dp;lia,by have:=r.un;lia⟩
theorem Room.deeper {k:Nat} {A:Around} (r:Room (k+1) A) (env:Env):Room k (A.deeper env) :=
 ⟨r.hd,by have:=r.dp;show A.depth+1+3 * k+5 < _;lia,by have:=r.un;show A.units+3+16 * k+200 < _;lia⟩
theorem rR {A:Around} {C:Addr} {us:Wy} {kw:List (Str×Value)}:(A.under (.builtin "type.__call__" ⟨.ref C :: us,kw⟩)).depth=A.depth+1:=by
 first | rfl | simp [Around.under,Code.weight,Code.isCreation,Code.isGuard,Code.isCaller,Code.frames,Code.isFrame,guardIds]
theorem r9 {A:Around} {C:Addr} {us:Wy} {kw:List (Str×Value)}:(A.under (.builtin "type.__call__" ⟨.ref C :: us,kw⟩)).units=A.units+1:=by
 first | rfl | simp [Around.under,Code.cUnits,Code.frames,Code.isFrame]
theorem Room.make {k:Nat} {A:Around} (r:Room (k+1) A) (C:Addr) (us:Wy) (kw:List (Str×Value)):Room k (A.under (.builtin "type.__call__" ⟨.ref C :: us,kw⟩)) :=
 ⟨r.hd,by have:=r.dp;rw [rR];lia,by have:=r.un;rw [r9];lia⟩
theorem Room.depth {k:Nat} {A:Around} (r:Room k A):A.depth < recursionLimit:=by have:=r.dp;lia
theorem Room.units {k:Nat} {A:Around} (r:Room k A):A.units+64 < cLine:=by have:=r.un;lia
noncomputable def rJ:TA:=fun _ H Q=>Q [] H
noncomputable def Aj (ta:TE) (tr:TA):TA:=fun σ H Q=>ta σ H fun x H1=>tr σ H1 fun xs H2=>Q (x :: xs) H2
section
variable {X:Cx} {e:Expr} {es:List Expr} {te:TE} {t:TA} {pos:Pos}
theorem g7:PA X [] rJ:=fun _ _ _ _ H Q I h=>Calls.spliced_nil ⟨[],H,I,.nil,h⟩
theorem cZ (ha:PE X e te) (hr:PA X es t) (hs:starEach (e :: es) X.env=(false,eval e X.env) :: starEach es X.env:=by rfl):PA X (e :: es) (Aj te t):=by
 intro pos pins s σ H Q I h
 rw [hs]
 show wpAny _ _ (spliced ((false,eval e X.env) :: backTo pos (starEach es X.env))) _ _ s
 refine Calls.spliced_cons (thn (ha pins s σ H _ I h) fun u s1 ⟨x,H1,I1,r1,q1⟩=>?_)
 exact thn (hr pos pins s1 σ H1 _ I1 q1) fun us s2 ⟨xs,H2,I2,r2,q2⟩=>⟨x :: xs,H2,I2,.cons r1 r2,q2⟩
noncomputable def EC (t:TA):TE:=fun σ H Q=>t σ H fun xs H1=>xs.length<=sizeLine/\∀ p,H1 p=none->Q (.ref p) (upd H1 p (.tup xs))
noncomputable def Ez (t:TA):TE:=fun σ H Q=>t σ H fun xs H1=>xs.length<=sizeLine/\∀ p,H1 p=none->Q (.ref p) (upd H1 p (.lst xs))
theorem A7 {x1} (h:PA X es t):PE X (.Tuple es x1 pos) (EC t):=by
 intro pins s σ H Q I hq
 refine wpAny_Tuple_spliced (thn (h pos pins s σ H _ I hq) fun us s1 ⟨xs,H1,I1,r,z,q⟩=>⟨by rw [← r.length];exact z,?_⟩)
 have hf:H1 s1.heap.objs.size=none:=I1.hok.fresh (Zi _)
 refine ⟨.ref s1.heap.objs.size,upd H1 s1.heap.objs.size (.tup xs),I1.laid (t':=s1.toks) (fun b u e=>Zk _ e) (Zi _) ?_,rfl,q _ hf⟩
 exact ⟨z,us,r,NoD.of (ZV _ rfl) rfl,⟨_,ZV _ rfl,rfl,_,rfl⟩⟩
theorem A4 (h:PA X es t):PE X (.List es pos) (Ez t):=by
 intro pins s σ H Q I hq
 refine wpAny_List_spliced (thn (h pos pins s σ H _ I hq) fun us s1 ⟨xs,H1,I1,r,z,q⟩=>⟨by rw [← r.length];exact z,?_⟩)
 have hf:H1 s1.heap.objs.size=none:=I1.hok.fresh (Zi _)
 refine ⟨.ref s1.heap.objs.size,upd H1 s1.heap.objs.size (.lst xs),I1.laid (t':=s1.toks) (fun b u e=>Zk _ e) (Zi _) ?_,rfl,q _ hf⟩
 exact ⟨z,us,0,r,ZV _ rfl⟩
end
noncomputable abbrev Sp:=List V->Hp->VK->XK->Prop
noncomputable abbrev CXT:=List Env->Hp->Shared->XK->Z4
structure Env0 (P:Program) (w:World) (K:X8) (mg:X9) (base:Heap) (A:Around) (outer:List Env) (s:Shared) (H:Hp):Prop where
 frames:A.frames=some outer
 mod:Mod K mg base
 bs:∀ b o,base.get? b=some o->s.heap.get? b=some o/\H b=none
 bsz:base.objs.size<=s.heap.objs.size
 funs:s.heap.FunFrames base outer
 frf:∀ b∈frs outer,H b=none
 hok:HOk P w H s.heap
 bare:AllBare s.gens
noncomputable def CE (outer:List Env) (P:Program) (w:World) (H:Hp) (s:Shared) (Q:VK) (u:Value) (s':Shared):Prop :=
 ∃ v H',s'.os=s.os/\AllBare s'.gens/\Un (frs outer) [] H H' s.heap s'.heap/\HOk P w H' s'.heap/\RelV v u/\Q v H'
noncomputable def CR (CX:CXT) (outer:List Env) (P:Program) (w:World) (H:Hp) (s:Shared) (Q:VK) (E:XK) (r:Result) (s':Shared):Prop :=
 match r with
 | .ok (.ret u)=>CE outer P w H s Q u s'
 | .ok _=>False
 | .error e=>CX outer H s E e s'
structure FnOk (P:Program) (w:World) (K:X8) (mg:X9) (base:Heap) (CX:CXT) (k:Nat) (f:Addr) (fd:FuncData) (ps:List Str) (sp:Sp):Prop where
 len:∀ vs H Q E,sp vs H Q E->vs.length=ps.length
 run:∀ (A:Around) (outer:List Env) (s:Shared) (H:Hp) (args:Args) (us:Wy) (vs:List V) (Q:VK) (E:XK),Room k A->Env0 P w K mg base A outer s H->BindsTo s fd args (ps.zip us)->aN vs us->sp vs H Q E →
  codeAny (model P w) A (.call (.ref f) args) (CR CX outer P w H s Q E) s
theorem FnOk.imp {P:Program} {w:World} {K:X8} {mg:X9} {base:Heap} {CX:CXT} {k:Nat} {f:Addr} {fd:FuncData} {ps:List Str} {sp sp':Sp} (F:FnOk P w K mg base CX k f fd ps sp)
  (h:∀ vs H Q E,sp' vs H Q E->sp vs H Q E):FnOk P w K mg base CX k f fd ps sp' :=
 ⟨fun vs H Q E q=>F.len vs H Q E (h _ _ _ _ q),fun A outer s H args us vs Q E hr he hb hv hs=>F.run A outer s H args us vs Q E hr he hb hv (h _ _ _ _ hs)⟩
theorem Env0.make {P:Program} {w:World} {K:X8} {mg:X9} {base:Heap} {A:Around} {outer:List Env} {s:Shared} {H:Hp} (e:Env0 P w K mg base A outer s H) (C:Addr) (us:Wy) (kw:List (Str×Value)) :
  Env0 P w K mg base (A.under (.builtin "type.__call__" ⟨.ref C :: us,kw⟩)) outer s H:=⟨by first | exact e.frames | (simpa [Around.under,Code.envs,Code.isFrame,pushEnvs] using e.frames),e.mod,e.bs,e.bsz,e.funs,e.frf,e.hok,e.bare⟩
section
variable {X:Cx} {pins:Y7} {σ:St} {H:Hp} {s s':Shared}
theorem Inv.env0 (I:Inv X pins σ H s):Env0 X.prog X.w X.K X.mg X.base X.A X.stack s H :=
 ⟨I.ok.frames,I.ok.mod,I.bs,ZI I.ok.bsz I.sz,I.stack,I.stkFree,I.hok,I.bare⟩
theorem Inv.after {Q:VK} {u:Value} (I:Inv X pins σ H s) (h:CE X.stack X.prog X.w H s Q u s'):EP X pins σ Q u s':=by
 obtain ⟨v,H',os,bare,un,hok,r,q⟩:=h
 obtain ⟨hh,g,d,t,os'⟩:=s'
 obtain rfl:os'=s.os:=os
 exact ⟨v,H',I.call (h':=hh) (g':=g) (d':=d) (t':=t) (ch:=[]) un hok bare (fun b z=>absurd z (by simp)),r,q⟩
end
noncomputable def Au (sp:Sp) (dvs:List V) (E:XK) (t:TA):TE:=fun σ H Q=>t σ H fun vs H1=>sp (vs++dvs) H1 Q E
noncomputable def ud (C:Addr) (m:Str) (sp:Sp) (dvs:List V) (E:XK) (ta:TE) (t:TA):TE:=fun σ H Q=>ta σ H fun x H1=>∃ a dx fs,x=.ref a/\H1 a=some (.ins C dx fs)/\fs.lookup m=none ∧
 t σ H1 fun vs H2=>sp (x :: (vs++dvs)) H2 Q E
noncomputable def v7 (C:Addr) (sp:Sp) (dvs:List V) (E:XK) (t:TA):TE:=fun σ H Q=>t σ H fun vs H1=>∀ x dx,H1 x=none->H1 dx=none->dx ≠ x →
 sp (.ref x :: (vs++dvs)) (upd (upd H1 dx (.own x)) x (.ins C dx [])) (fun v H2=>v=.non/\Q (.ref x) H2) E
noncomputable def Binds (K:X8) (fd:FuncData) (ps:List Str) (ds:Wy):Prop :=
 ∀ (s:Shared) (us:Wy),K.In s.heap->(us++ds).length=ps.length->BindsTo s fd ⟨us,[]⟩ (ps.zip (us++ds))
theorem Binds.all {K:X8} {fd:FuncData} {ps:List Str} (h:∀ us:Wy,us.length=ps.length->bindArgs fd ⟨us,[]⟩=pure (ps.zip us)):Binds K fd ps []:=fun s us _ hl=>by
 rw [ZO] at hl ⊢
 exact .of_eq (h us hl)
noncomputable def iS (CX:CXT) (X:Cx) (E:XK):Prop:=∀ (pins:Y7) (σ:St) (H:Hp) (s:Shared) (e:Value) (s':Shared),Inv X pins σ H s->CX X.stack H s E e s'->X.xe e s'
section
variable {X:Cx} {CX:CXT} {k:Nat} {f C:Addr} {fd:FuncData} {ps:List Str} {sp:Sp} {dvs:List V} {ds:Wy} {E:XK} {x m:Str} {p pos apos:Pos} {e o:Expr} {es:List Expr} {ta:TE} {t:TA}
theorem sg {pins:Y7} {σ:St} {H:Hp} {s:Shared} {Q:VK} {us:Wy} {vs:List V} (F:FnOk X.prog X.w X.K X.mg X.base CX k f fd ps sp) (hr:Room k X.A) (hb:Binds X.K fd ps ds) (hd:aN dvs ds) (hx:iS CX X E)
  (I:Inv X pins σ H s) (r:aN vs us) (h:sp (vs++dvs) H Q E):wpAny (model X.prog X.w) X.A (call (.ref f) us) (EP X pins σ Q) X.xe s:=by
 have r2:aN (vs++dvs) (us++ds):=r.append hd
 have hl:(us++ds).length=ps.length:=by rw [← r2.length];exact F.len _ _ _ _ h
 refine wpAny_call (codeAny_mono (F.run X.A X.stack s H ⟨us,[]⟩ (us++ds) (vs++dvs) Q E hr I.env0 (hb s us I.kIn hl) r2 h) fun r s' hq=>?_)
 cases r with
 | error e=>exact hx pins σ H s e s' I hq
 | ok fl =>
  cases fl with
  | ret u=>exact I.after hq
  | next=>exact False.elim hq
  | brk=>exact False.elim hq
  | cont=>exact False.elim hq
theorem o5 (F:FnOk X.prog X.w X.K X.mg X.base CX k f fd ps sp) (hr:Room k X.A) (hg:Gl X x) (hm:X.mg x=some (.ref f)) (hk:PySem.W.keepIn X.K (.ref f)=true) (hb:Binds X.K fd ps ds) (hd:aN dvs ds) (hx:iS CX X E)
  (ha:PA X (e :: es) t) (hdb:(x == ("__debug__" : Str))=false:=by decide) (he:starEach (e :: es) X.env=(false,eval e X.env) :: starEach es X.env:=by rfl) (hpl:(backTo pos (starEach es X.env)).any (·.1)=false:=by rfl) :
  PE X (.Call (.Name x p) (e :: es) [] pos) (Au sp dvs E t):=by
 intro pins s σ H Q I h
 refine Y3 (lQ I hg hm ?_ hdb)
 refine XQ (h₀:=X.base) I.ok.mod.kin hk (thn (ha pos pins s σ H _ I h) fun us s1 ⟨vs,H1,I1,r,q⟩=>⟨I1.kIn,?_⟩) he hpl
 exact sg F hr hb hd hx I1 r q
theorem oA {pl:Sem Bool} (he:PE X o ta) (c:Cls X.K C) (hm:Meth X.K C m f) (F:FnOk X.prog X.w X.K X.mg X.base CX k f fd ps sp) (hr:Room k X.A) (hb:Binds X.K fd ps ds) (hd:aN dvs ds) (hx:iS CX X E) (ha:PA X (e :: es) t)
  (hst:starEach (e :: es) X.env=(false,eval e X.env) :: starEach es X.env:=by rfl) (hpl:(backTo pos (starEach es X.env)).any (·.1)=false:=by rfl)
  (ht:eval (.Call (.Attribute o m apos) (e :: es) [] pos) X.env=(do
   let ov ← eval o X.env
   standAt apos.atName
   let (f,first) ← holding [ov] (getMethod ov m pl)
   callWith pos f first (backTo pos (starEach (e :: es) X.env)) (backToKw pos (keywordEach [] X.env))):=by rfl) :
  PE X (.Call (.Attribute o m apos) (e :: es) [] pos) (ud C m sp dvs E ta t):=by
 intro pins s σ H Q I h
 refine PySem.W.methodCall_KW (pl:=pl) (thn (he pins s σ H _ I h) fun u s1 ⟨x,H1,I1,rx,a,dx,fs,ex,ea,l,q⟩=>?_) ht
 subst ex
 obtain rfl:u=Value.ref a:=rx
 refine mW I1 ea c hm l ?_
 refine XQ (first:=[.ref a]) (h₀:=X.base) I.ok.mod.kin hm.kp (thn (ha pos pins s1 σ H1 _ I1 q) fun us s2 ⟨vs,H2,I2,r,q2⟩=>⟨I2.kIn,?_⟩) hst hpl
 exact sg (us:=.ref a :: us) (vs:=.ref a :: vs) F hr hb hd hx I2 (.cons rfl r) q2
theorem qr {pl:Sem Bool} (he:PE X o ta) (c:Cls X.K C) (hm:Meth X.K C m f) (F:FnOk X.prog X.w X.K X.mg X.base CX k f fd ps sp) (hr:Room k X.A) (hb:Binds X.K fd ps ds) (hd:aN dvs ds) (hx:iS CX X E)
  (ht:eval (.Call (.Attribute o m apos) [] [] pos) X.env=(do
   let ov ← eval o X.env
   standAt apos.atName
   let (f,first) ← holding [ov] (getMethod ov m pl)
   callWith pos f first (backTo pos (starEach [] X.env)) (backToKw pos (keywordEach [] X.env))):=by rfl) :
  PE X (.Call (.Attribute o m apos) [] [] pos) (ud C m sp dvs E ta rJ):=by
 intro pins s σ H Q I h
 refine PySem.W.methodCall_KW (pl:=pl) (thn (he pins s σ H _ I h) fun u s1 ⟨x,H1,I1,rx,a,dx,fs,ex,ea,l,q⟩=>?_) ht
 subst ex
 obtain rfl:u=Value.ref a:=rx
 refine mW I1 ea c hm l ?_
 exact PySem.W.callWith_K0 (first:=[.ref a]) I1.kIn hm.kp (sg (us:=[.ref a]) (vs:=[.ref a]) F hr hb hd hx I1 (.cons rfl .nil) q)
structure Mk (K:X8) (C f:Addr):Prop where
 makes:PySem.W.makesIn K C=true
 init:PySem.W.findIn K (.ref C) "__init__" = some (some (.ref f))
 fn:PySem.W.isFn K (.ref f)=true
 kp:PySem.W.keepIn K (.ref C)=true
theorem qb {pins:Y7} {σ:St} {H:Hp} {s:Shared} {Q:VK} {us:Wy} {vs:List V} (M:Mk X.K C f) (F:FnOk X.prog X.w X.K X.mg X.base CX k f fd ps sp) (hr:Room (k+1) X.A) (hb:Binds X.K fd ps ds) (hd:aN dvs ds)
  (hx:iS CX X E) (I:Inv X pins σ H s) (r:aN vs us)
  (h:∀ x dx,H x=none->H dx=none->dx ≠ x->sp (.ref x :: (vs++dvs)) (upd (upd H dx (.own x)) x (.ins C dx [])) (fun v H2=>v=.non/\Q (.ref x) H2) E) :
  wpAny (model X.prog X.w) X.A (call (.ref C) us) (EP X pins σ Q) X.xe s:=by
 have hq:=h (s.heap.objs.size+1) s.heap.objs.size (I.hok.fresh (Xp _)) (I.hok.fresh (Zi _)) (ZY (Yu _))
 have I2:=Inv.made (C:=C) I
 have r2:aN (V.ref (s.heap.objs.size+1) :: (vs++dvs)) (Value.ref (s.heap.objs.size+1) :: (us++ds)):=.cons rfl (r.append hd)
 have hl:(Value.ref (s.heap.objs.size+1) :: us++ds).length=ps.length:=by
  have e:=r2.length
  rw [F.len _ _ _ _ hq] at e
  exact e.symm
 refine wpAny_call (vn (f:=f) I.kIn M.makes M.init (beq_iff_eq.mp M.fn) (codeAny_mono (F.run _ X.stack _ _ ⟨Value.ref (s.heap.objs.size+1) :: us,[]⟩ (Value.ref (s.heap.objs.size+1) :: (us++ds)) _ _ E (hr.make C us [])
  (I2.env0.make C us []) (hb _ (Value.ref (s.heap.objs.size+1) :: us) I2.kIn hl) r2 hq) fun r s' hq'=>?_))
 cases r with
 | error e=>exact hx pins σ _ _ e s' I2 hq'
 | ok fl =>
  cases fl with
  | ret u =>
   obtain ⟨v,H',I3,rv,ev,q3⟩:=I2.after hq'
   subst ev
   exact ⟨rv,⟨V.ref (s.heap.objs.size+1),H',I3,rfl,q3⟩⟩
  | next=>exact False.elim hq'
  | brk=>exact False.elim hq'
  | cont=>exact False.elim hq'
theorem yp (M:Mk X.K C f) (F:FnOk X.prog X.w X.K X.mg X.base CX k f fd ps sp) (hr:Room (k+1) X.A) (hg:Gl X x) (hm:X.mg x=some (.ref C)) (hb:Binds X.K fd ps ds) (hd:aN dvs ds) (hx:iS CX X E)
  (ha:PA X (e :: es) t) (hdb:(x == ("__debug__" : Str))=false:=by decide) (he:starEach (e :: es) X.env=(false,eval e X.env) :: starEach es X.env:=by rfl) (hpl:(backTo pos (starEach es X.env)).any (·.1)=false:=by rfl) :
  PE X (.Call (.Name x p) (e :: es) [] pos) (v7 C sp dvs E t):=by
 intro pins s σ H Q I h
 refine Y3 (lQ I hg hm ?_ hdb)
 refine XQ (h₀:=X.base) I.ok.mod.kin M.kp (thn (ha pos pins s σ H _ I h) fun us s1 ⟨vs,H1,I1,r,q⟩=>⟨I1.kIn,?_⟩) he hpl
 exact qb M F hr hb hd hx I1 r q
theorem vP (M:Mk X.K C f) (F:FnOk X.prog X.w X.K X.mg X.base CX k f fd ps sp) (hr:Room (k+1) X.A) (hg:Gl X x) (hm:X.mg x=some (.ref C)) (hb:Binds X.K fd ps ds) (hd:aN dvs ds) (hx:iS CX X E)
  (hdb:(x == ("__debug__" : Str))=false:=by decide):PE X (.Call (.Name x p) [] [] pos) (v7 C sp dvs E rJ):=by
 intro pins s σ H Q I h
 refine Y3 (lQ I hg hm ?_ hdb)
 exact PySem.W.callWith_K0 I.kIn M.kp (qb (us:=[]) M F hr hb hd hx I .nil h)
end
structure FnScope (N P:List Str) (sc:Scope):Prop where
 kind:sc.kind=.function
 co:sc.isCoroutine=false
 gen:sc.isGenerator=false
 nd:N.Nodup
 pre:N.take P.length=P
 par:∀ x∈P,sc.names.lookup x=some .local\/sc.names.lookup x=some .cell
 nofree:∀ y∈sc.names,y.2 ≠ .free
theorem nR {kindOf:Str->Option NameKind} {x:Str}:∀ {binds:List (Str×Value)} {m:X9},(∀ v,(x,v) ∉ binds)->bindL kindOf binds m x=m x
 | [],_,_=>rfl
 | (n,v) :: r,m,h=>by
  unfold bindL
  rw [nR fun w hw=>h w (Zu _ hw)]
  split
  ·have:x ≠ n:=by rintro rfl;exact h v Zt
   simp [this]
  ·rfl
theorem nK {kindOf:Str->Option NameKind} {x:Str}:∀ {binds:List (Str×Value)} {m:X9},(∀ v,(x,v) ∉ binds)->bindC kindOf binds m x=m x
 | [],_,_=>rfl
 | (n,v) :: r,m,h=>by
  unfold bindC
  rw [nK fun w hw=>h w (Zu _ hw)]
  split
  ·rfl
  ·have:x ≠ n:=by rintro rfl;exact h v Zt
   simp [this]
theorem nL {kindOf:Str->Option NameKind} {x:Str} {v:Value}:∀ {P:List Str} {vs:Wy} {i:Nat} {m:X9},P.Nodup->P[i]?=some x->vs[i]?=some v->kindOf x=some .local →
  bindL kindOf (P.zip vs) m x=some v
 | [],_,_,_,_,h,_,_=>by simp at h
 | _ :: _,[],_,_,_,_,h,_=>by simp at h
 | p :: P,w :: vs,0,m,nd,h1,h2,hk=>by
  simp at h1 h2;subst h1;subst h2
  show bindL kindOf ((p,w) :: P.zip vs) m p=_
  unfold bindL
  rw [nR fun v hv=>(Zd.mp nd).1 (List.of_mem_zip hv).1,Zp hk]
  simp
 | p :: P,w :: vs,i+1,m,nd,h1,h2,hk=>by
  show bindL kindOf ((p,w) :: P.zip vs) m x=_
  unfold bindL
  exact nL (i:=i) (Zd.mp nd).2 (by simpa using h1) (by simpa using h2) hk
theorem n9 {kindOf:Str->Option NameKind} {x:Str} {v:Value}:∀ {P:List Str} {vs:Wy} {i:Nat} {m:X9},P.Nodup->P[i]?=some x->vs[i]?=some v->kindOf x ≠ some .local →
  bindC kindOf (P.zip vs) m x=some v
 | [],_,_,_,_,h,_,_=>by simp at h
 | _ :: _,[],_,_,_,_,h,_=>by simp at h
 | p :: P,w :: vs,0,m,nd,h1,h2,hk=>by
  simp at h1 h2;subst h1;subst h2
  show bindC kindOf ((p,w) :: P.zip vs) m p=_
  unfold bindC
  rw [nK fun v hv=>(Zd.mp nd).1 (List.of_mem_zip hv).1,Zo hk]
  simp
 | p :: P,w :: vs,i+1,m,nd,h1,h2,hk=>by
  show bindC kindOf ((p,w) :: P.zip vs) m x=_
  unfold bindC
  exact n9 (i:=i) (Zd.mp nd).2 (by simpa using h1) (by simpa using h2) hk
noncomputable def start (N:List Str) (vs:List V):St:=vs.map some++List.replicate (N.length - vs.length) none
noncomputable def il (CX:CXT) (P:Program) (w:World) (K:X8) (mg:X9) (base:Heap) (N:List Str) (qual:Str) (scope:Scope) (f:Addr) (cd:Value) (A:Around) (outer:List Env) (s:Shared) (H:Hp) (E:XK):Cx where
 prog:=P
 w:=w
 K:=K
 mg:=mg
 base:=base
 A:=A.deeper (envOfC qual scope s.heap.objs.size f cd)
 N:=N
 s₀:=s
 H₀:=H
 env:=envOfC qual scope s.heap.objs.size f cd
 outer:=outer
 stack:=envOfC qual scope s.heap.objs.size f cd :: outer
 ex:=[]
 calm:=true
 fn:=fun _=>true
 pn:=[]
 xe:=fun e s'=>wpAny (model P w) (A.deeper (envOfC qual scope s.heap.objs.size f cd)) (leaving (envOfC qual scope s.heap.objs.size f cd) e) (fun _ s''=>CX outer H s E e s'') (fun e' s''=>CX outer H s E e' s'') s'
theorem qS {sc:Scope} {n:Nat} {x:Str} (h:sc.names.lookup x=some .cell):∃ c,(cellsFrom n sc.names []).lookup x=some c:=by
 have q:=PySem.W.cellsFrom_some sc.names n [] (.inl h)
 exact Yr.mp q
theorem uo {CX:CXT} {P:Program} {w:World} {K:X8} {mg:X9} {base:Heap} {N ps:List Str} {qual:Str} {scope:Scope} {f:Addr} {cd:Value} {A:Around} {outer:List Env} {s s1:Shared} {H:Hp} {E:XK} {us:Wy} {vs:List V}
  (S:FnScope N ps scope) (hd:A.handled=none) (e0:Env0 P w K mg base A outer s H) (hl:vs.length=ps.length) (r:aN vs us)
  (x:InCallC s s.heap.objs.size (bindL (envOfC qual scope s.heap.objs.size f cd).kindOf (ps.zip us) fun _=>none) (cellsFrom (s.heap.objs.size+1) scope.names []) (bindC (envOfC qual scope s.heap.objs.size f cd).kindOf (ps.zip us) fun _=>none) s1) :
  Inv (il CX P w K mg base N qual scope f cd A outer s H E) [] (start N vs) H s1:=by
 have hpl:ps.length<=N.length:=by have:=congrArg List.length S.pre;rw [YH] at this;lia
 obtain ⟨h1,tk,rfl,hk⟩:=x.done
 have noA:∀ b:Addr,b ∉ (il CX P w K mg base N qual scope f cd A outer s H E).ex:=fun b z=>absurd (show b∈([]:Wz) from z) (by simp)
 refine ⟨⟨e0.mod,S.kind,rfl,rfl,Zi _,fun y z c h1 h2=>?_,fun y hy=>?_,fun y c _ h=>?_,fun _=>hd,Around.frames_deeper e0.frames,.inr ⟨rfl,rfl⟩,fun b z=>absurd z (noA b),e0.bs,e0.bsz,fun b _ _=>noA b,fun b z=>absurd z (noA b),e0.funs,e0.frf⟩,
  rfl,e0.bare,Un.kept hk,⟨_,x.toInCall.ns,fun i y v h1 h2 h3=>?_⟩,fun y c h=>⟨_,x.cell y c h⟩,e0.hok.fresh (Zi _),fun y c h=>?_,fun p hp=>absurd (show p∈([]:Y7) from hp) (by simp),e0.hok.kept hk,?_⟩
 ·exact name_of_addr x.apart (YG h1) (YG h2)
 ·have hy:scope.names.lookup y=some .cell\/scope.names.lookup y=some .free:=hy
  rcases hy with hy | hy
  ·exact qS hy
  ·exact absurd rfl (S.nofree _ (YG hy))
 ·exact XD (x.above y c (YG h))
 ·have hi:i < vs.length:=by
   unfold start at h2
   by_cases hi:i < vs.length
   ·exact hi
   ·rw [Z7 (by simpa using hi)] at h2
    rw [Yi] at h2
    split at h2 <;> cases h2
  have ha:vs[i]?=some v:=by
   unfold start at h2
   rw [ZF (by simpa using hi),ZS] at h2
   cases e:vs[i]? with
   | none=>rw [e] at h2;cases h2
   | some a=>rw [e] at h2;cases h2;rfl
  obtain ⟨u,hu,rv⟩:=r.get ha
  have hp:ps[i]?=some y:=by
   rw [← S.pre,List.getElem?_take_of_lt (by lia)];exact h1
  have ndP:ps.Nodup:=by rw [← S.pre];exact S.nd.sublist (List.take_sublist _ _)
  refine ⟨u,rv,?_⟩
  rcases S.par y (YY hp) with k | k
  ·exact .inl ⟨k,nL ndP hp hu k⟩
  ·obtain ⟨c,e⟩:=qS (n:=s.heap.objs.size+1) k
   refine .inr ⟨.inl k,c,e,?_⟩
   have q:=x.cell y c e
   rw [n9 ndP hp hu (by show scope.names.lookup y ≠ _;rw [k];decide)] at q
   exact q
 ·exact e0.hok.fresh (XD (x.above y c (YG h)))
 ·unfold start
  show _=N.length
  rw [Zv,Zw,YN]
  lia
theorem An {CX:CXT} {P:Program} {w:World} {K:X8} {mg:X9} {base:Heap} {k:Nat} {f:Addr} {name qual:Str} {params:Arguments} {body:List Stmt} {scope:Scope} {dV kV doc pm cdv ct oc:Value} {an od:Option Addr}
  {osl:Array (Wx)} {N ps:List Str} {sp:Sp} (lk:K.lookup f=some ⟨oc,od,.func (PySem.W.fnOf name qual params body scope dV kV doc pm an cdv ct),osl⟩) (hcd:PySem.W.codeIn K cdv qual=true) (S:FnScope N ps scope)
  (len:∀ vs H Q E,sp vs H Q E->vs.length=ps.length)
  (hbody:∀ (A:Around) (outer:List Env) (s:Shared) (H:Hp) (vs:List V) (Q:VK) (E:XK),Room k (A.deeper (envOfC qual scope s.heap.objs.size f cdv))->sp vs H Q E →
   ∃ t,PSs (il CX P w K mg base N qual scope f cdv A outer s H E) body t/\t { nx:=fun _ H'=>Q .non H',rt:=Q } (start N vs) H) :
  FnOk P w K mg base CX (k+1) f (PySem.W.fnOf name qual params body scope dV kV doc pm an cdv ct) ps sp:=by
 refine ⟨len,fun A outer s H args us vs Q E hr e0 hb r hsp=>?_⟩
 have hl:=len _ _ _ _ hsp
 have KX:K.In s.heap:=e0.mod.kin.keeps fun b o e=>(e0.bs b o e).1
 have lim:s.heap.NoLimit:=e0.mod.nolimit.keeps fun b o e=>(e0.bs b o e).1
 have hkind:∀ y∈ps.zip us,scope.names.lookup y.1=some .local\/(scope.names.lookup y.1=some .cell/\((cellsFrom (s.heap.objs.size+1) scope.names []).lookup y.1).isSome=true):=fun ⟨n,v⟩ hy=>by
  rcases S.par n (List.of_mem_zip hy).1 with q | q
  ·exact .inl q
  ·exact .inr ⟨q,PySem.W.cellsFrom_some _ _ _ (.inl q)⟩
 refine codeAny_call_function hr.depth (KX _ _ lk) rfl S.co S.gen rfl (PySem.W.codeRec_of KX hcd) (hb _ _ _ _ ?_)
 refine wpAny_newFunctionEnv_cells S.kind hkind fun env he s1 x=>?_
 subst he
 refine ⟨lim.keeps x.toInCall.keep,codeAny_func ?_⟩
 obtain ⟨t,ht,hq⟩:=hbody A outer s H vs Q E (hr.deeper _) hsp
 have I:Inv (il CX P w K mg base N qual scope f cdv A outer s H E) [] (start N vs) H s1:=uo S hr.hd e0 hl r x
 refine YM (ht [] s1 (start N vs) H _ I hq) (fun fl s' hs=>?_) fun e s' hs=>hs
 have fin:∀ {σ':St} {H':Hp} {v:V} {u:Value},Inv (il CX P w K mg base N qual scope f cdv A outer s H E) [] σ' H' s'->RelV v u->Q v H'->CE outer P w H s Q u s' :=
  fun {σ' H' v u} J rv q=>⟨v,H',J.os,J.bare,J.base,J.hok,rv,q⟩
 cases fl with
 | ret u =>
  obtain ⟨v,σ',H',J,rv,q⟩:=hs
  exact fin J rv q
 | next =>
  obtain ⟨σ',H',J,q⟩:=hs
  exact fin (v:=V.non) (u:=Value.none) J rfl q
 | brk =>
  obtain ⟨_,_,_,q⟩:=hs
  exact False.elim q
 | cont =>
  obtain ⟨_,_,_,q⟩:=hs
  exact False.elim q
section
variable {X:Cx} {x:Str} {p pos:Pos} {e:Expr} {es:List Expr} {t:TA} {id T:String} {r:List V->Hp->VK->Prop}
noncomputable def tCB (r:List V->Hp->VK->Prop) (t:TA):TE:=fun σ H Q=>t σ H fun vs H1=>r vs H1 Q
theorem pX (hc:dD X (.builtin id) r) (hg:Gl X x) (hm:X.mg x=none) (hv:bootBuiltins x=some (.builtin id)) (ha:PA X (e :: es) t) (hn:x ≠ "__name__" := by decide) (hdb:(x == ("__debug__" : Str))=false:=by decide)
  (he:starEach (e :: es) X.env=(false,eval e X.env) :: starEach es X.env:=by rfl) (hpl:(backTo pos (starEach es X.env)).any (·.1)=false:=by rfl):PE X (.Call (.Name x p) (e :: es) [] pos) (tCB r t):=by
 intro pins s σ H Q I h
 refine Y3 (oo I hg hm hv ?_ hn hdb)
 exact PyProof.Rows.callWith_builtin1 (thn (ha pos pins s σ H _ I h) fun us s1 ⟨vs,H1,I1,r1,q1⟩=>hc pins s1 σ H1 vs us Q I1 r1 q1) he hpl
theorem uP (hc:dD X (.type T) r) (hg:Gl X x) (hm:X.mg x=none) (hv:bootBuiltins x=some (.type T)) (ha:PA X (e :: es) t) (hn:x ≠ "__name__" := by decide) (hdb:(x == ("__debug__" : Str))=false:=by decide)
  (he:starEach (e :: es) X.env=(false,eval e X.env) :: starEach es X.env:=by rfl) (hpl:(backTo pos (starEach es X.env)).any (·.1)=false:=by rfl):PE X (.Call (.Name x p) (e :: es) [] pos) (tCB r t):=by
 intro pins s σ H Q I h
 refine Y3 (oo I hg hm hv ?_ hn hdb)
 exact PyProof.Rows.callWith_type1 (thn (ha pos pins s σ H _ I h) fun us s1 ⟨vs,H1,I1,r1,q1⟩=>hc pins s1 σ H1 vs us Q I1 r1 q1) he hpl
end
end L2
namespace HT
open PySem PyProof.Rows
section
variable {prog:Program} {w:World} {A:Around} {E:Z4} {s:Shared}
noncomputable def sIx (n d:Nat):Option Int->Nat
 | none=>d
 | some v=>if v < 0 then (v+(n:Int)).toNat else min v.toNat n
end
end HT
namespace L2
open PySem PySem.Spec PyProof.Rows
noncomputable abbrev TO:=St->Hp->(Option Int->Hp->Prop)->Prop
noncomputable def PO (X:Cx) (e:Option Expr) (t:TO):Prop :=
 ∀ (pins:Y7) (s:Shared) (σ:St) (H:Hp) (Q:Option Int->Hp->Prop),Inv X pins σ H s->t σ H Q →
  wpAny (model X.prog X.w) X.A (evalPart e X.env) (fun u s'=>∃ o H',Inv X pins σ H' s'/\IsPart u o/\Q o H') X.xe s
noncomputable def yx:TO:=fun _ H Q=>Q none H
noncomputable def Dm (t:TE):TO:=fun σ H Q=>t σ H fun x H1=>∃ i,x=.int i/\Q (some i) H1
section
variable {X:Cx} {e:Expr} {te:TE} {lo hi:Option Expr} {tl th:TO} {pos p2:Pos}
theorem yV:PO X none yx:=by
 intro pins s σ H Q I h
 rw [evalPart_none]
 exact Ze ⟨none,H,I,.none,h⟩
theorem ub (h:PE X e te):PO X (some e) (Dm te):=by
 intro pins s σ H Q I hw
 rw [evalPart_some]
 refine thn (h pins s σ H _ I hw) fun u s1 ⟨x,H1,I1,r1,q1⟩=>?_
 obtain ⟨i,rfl,q⟩:=q1
 obtain ⟨t,rfl⟩:=r1
 exact ⟨some i,H1,I1,.int i t,q⟩
noncomputable def SlR (X:Cx) (r:V->Option Int->Option Int->Hp->VK->Prop):Prop :=
 ∀ (pins:Y7) (s:Shared) (σ:St) (H:Hp) (x:V) (v vl vu:Value) (lo hi:Option Int) (sl:Addr) (Q:VK),Inv X pins σ H s->RelV x v->s.heap.IsSliceOf sl vl vu .none->IsPart vl lo->IsPart vu hi->r x lo hi H Q →
  ∃ T id,typeLookup (.type T) "__getitem__" = pure (some (.builtin id))/\s.TypeIs v T/\wpAny (model X.prog X.w) X.A (getItem v (.ref sl)) (EP X pins σ Q) X.xe s
theorem SlR.or {r r':V->Option Int->Option Int->Hp->VK->Prop} (h:SlR X r) (h':SlR X r'):SlR X (fun x lo hi H Q=>r x lo hi H Q\/r' x lo hi H Q):=by
 intro pins s σ H x v vl vu lo hi sl Q I rx hs pl pu q
 rcases q with q | q
 ·exact h pins s σ H x v vl vu lo hi sl Q I rx hs pl pu q
 ·exact h' pins s σ H x v vl vu lo hi sl Q I rx hs pl pu q
noncomputable def tSl (r:V->Option Int->Option Int->Hp->VK->Prop) (te:TE) (tl th:TO):TE:=fun σ H Q=>te σ H fun x H1=>tl σ H1 fun l H2=>th σ H2 fun u H3=>r x l u H3 Q
theorem qd {r:V->Option Int->Option Int->Hp->VK->Prop} (hr:SlR X r) (he:PE X e te) (hl:PO X lo tl) (hu:PO X hi th):PE X (.Subscript e (.Slice lo hi none p2) pos) (tSl r te tl th):=by
 intro pins s σ H Q I h
 refine Subscript_ (thn (he pins s σ H _ I h) fun v s1 ⟨x,H1,I1,r1,q1⟩=>?_)
 refine wpAny_Slice (thn (hl pins s1 σ H1 _ I1 q1) fun vl s2 ⟨l,H2,I2,pl,q2⟩=>thn (hu pins s2 σ H2 _ I2 q2) fun vu s3 ⟨u,H3,I3,pu,q3⟩=>?_)
 rw [evalPart_none]
 refine Ze ?_
 have I4:Inv X pins σ H3 { s3 with heap:=s3.heap.push { cls:=.type "slice",data:=.fields #[vl,vu,.none] } }:=I3.kept (t':=s3.toks) fun b ob q=>Zk _ q
 obtain ⟨T,id,hT,ht,hg⟩:=hr pins { s3 with heap:=s3.heap.push { cls:=.type "slice",data:=.fields #[vl,vu,.none] } } σ H3 x v vl vu l u s3.heap.objs.size Q I4 r1 (Heap.IsSliceOf.new ..) pl pu q3
 show wpAny (model X.prog X.w) X.A (subscriptTail e (.Slice lo hi none p2) v (.ref s3.heap.objs.size)) (EP X pins σ Q) X.xe { s3 with heap:=s3.heap.push { cls:=.type "slice",data:=.fields #[vl,vu,.none] } }
 exact tail_any (ops:=[.ref s3.heap.objs.size,v]) ht hT hg (by with_unfolding_all rfl)
noncomputable def uS (xs:List V) (lo hi:Option Int):List V:=(xs.drop (HT.sIx xs.length 0 lo)).take (HT.sIx xs.length xs.length hi - HT.sIx xs.length 0 lo)
theorem pF (xs:List V) (lo hi:Option Int):(uS xs lo hi).length<=xs.length:=by
 unfold uS
 rw [YH,YT]
 lia
end
noncomputable def ixN (n:Nat) (i:Int):Option Nat:=if 0<=i then (if i < n then some i.toNat else none) else if -(n:Int)<=i then some (i+n).toNat else none
noncomputable def atI {α:Type} (xs:List α) (i:Int):Option α:=(ixN xs.length i).bind fun j=>xs[j]?
theorem uc {n:Nat} {i:Int} {j:Nat} (h:ixN n i=some j):seqIndex? i n=some j/\j < n/\-(n:Int)<=i/\i < n:=by
 unfold ixN at h
 by_cases h0:0<=i
 ·rw [Zp h0] at h
  by_cases h1:i < n
  ·rw [Zp h1] at h
   have e:i.toNat=j:=Zm h
   exact ⟨by rw [seqIndex_of h0 h1,e],by lia,by lia,h1⟩
  ·rw [Zo h1] at h;cases h
 ·rw [Zo h0] at h
  by_cases h1:-(n:Int)<=i
  ·rw [Zp h1] at h
   have e:(i+n).toNat=j:=Zm h
   exact ⟨by rw [seqIndex_neg (by lia) h1,e],by lia,h1,by lia⟩
  ·rw [Zo h1] at h;cases h
theorem o8 {α:Type} {xs:List α} {i:Int} {v:α} (h:atI xs i=some v):∃ j,seqIndex? i xs.length=some j/\xs[j]?=some v/\j < xs.length/\-(xs.length:Int)<=i/\i < xs.length:=by
 unfold atI at h
 cases e:ixN xs.length i with
 | none=>rw [e] at h;cases h
 | some j =>
  rw [e] at h
  obtain ⟨h1,h2,h3,h4⟩:=uc e
  exact ⟨j,h1,h,h2,h3,h4⟩
noncomputable def gp (b:Expr):Prop:=∀ o i,subscripted b false o i=operate [o,i] (getItem o i)
noncomputable def IxR (X:Cx) (r:R2):Prop :=
 ∀ (value slice:Expr) (pins:Y7) (s:Shared) (σ:St) (H:Hp) (x y:V) (v u:Value) (Q:VK),Inv X pins σ H s->RelV x v->RelV y u->r x y H Q →
  subscripted slice false v u=operate [v,u] (getItem v u)->wpAny (model X.prog X.w) X.A (subscriptTail value slice v u) (EP X pins σ Q) X.xe s
noncomputable def MtR (X:Cx) (id:String) (r:V->List V->Hp->VK->Prop):Prop :=
 ∀ (pins:Y7) (s:Shared) (σ:St) (H:Hp) (x:V) (xs:List V) (v:Value) (us:Wy) (Q:VK),Inv X pins σ H s->RelV x v->aN xs us->r x xs H Q →
  wpAny (model X.prog X.w) X.A (call (.builtin id) (v :: us)) (EP X pins σ Q) X.xe s
section
variable {X:Cx} {a b:Expr} {ta tb:TE} {pos:Pos}
theorem IxR.or {r r':R2} (h:IxR X r) (h':IxR X r'):IxR X (fun x y H Q=>r x y H Q\/r' x y H Q):=by
 intro value slice pins s σ H x y v u Q I rx ry q hs
 rcases q with q | q
 ·exact h value slice pins s σ H x y v u Q I rx ry q hs
 ·exact h' value slice pins s σ H x y v u Q I rx ry q hs
theorem mh {r:R2} (hr:IxR X r) (ha:PE X a ta) (hb:PE X b tb) (hs:gp b):PE X (.Subscript a b pos) (tOp r ta tb):=by
 intro pins s σ H Q I h
 exact Subscript_ (Bx ha hb I h fun v u s2 x y H2 I2 rx ry q=>hr a b pins s2 σ H2 x y v u Q I2 rx ry q (hs _ _))
noncomputable def Dt (K:X8):R2:=fun x y H Q=>∃ p xs i v,x=.ref p/\y=.int i/\SqL K H p xs/\atI xs i=some v/\Q v H
noncomputable def D1 (K:X8):R2:=fun x y H Q=>∃ p xs i v,x=.ref p/\y=.int i/\SqT K H p xs/\atI xs i=some v/\Q v H
noncomputable def D3:R2:=fun x y H Q=>∃ z i c,x=.str z/\y=.int i/\z.length<=sizeLine/\atI z.cps.toList i=some c/\Q (.str ⟨#[c]⟩) H
theorem zD:IxR X (Dt X.K):=by
 intro value slice pins s σ H x y v u Q I rx ry h hs
 obtain ⟨p,xs,i,z,rfl,rfl,hq,he,q⟩:=h
 cases rx
 obtain ⟨t,rfl⟩:=ry
 obtain ⟨its,r,pl,hz⟩:=I.list hq
 obtain ⟨j,h1,h2,h3,h4,h5⟩:=o8 he
 obtain ⟨w,ew,rw'⟩:=r.get h2
 have hl:=r.length
 have hn:=kI
 have fin:EP X pins σ Q w s:=⟨z,H,I,rw',q⟩
 by_cases h0:0<=i
 ·have hj:i.toNat=j:=by
   rw [seqIndex_of h0 h5] at h1
   exact Zm h1
  exact item_listR pl.isList h0 (by lia) (by rw [hj];simpa using ew) fin hs
 ·have hj:(i+(its.toArray.size:Int)).toNat=j:=by
   rw [seqIndex_neg (by lia) h4] at h1
   rw [ZX,← hl]
   exact Zm h1
  exact subscriptTail_builtinR (x:=w) pl.isList.typeIs slot_list_getitem.lookup
   (wpAny_getItem_list_neg (Q:=fun r s'=>r=w/\EP X pins σ Q r s') pl.isList (by lia) (by rw [ZX] <;> lia) (by lia) (by rw [hj];simpa using ew) ⟨rfl,fin⟩) hs
theorem BH:IxR X (D1 X.K):=by
 intro value slice pins s σ H x y v u Q I rx ry h hs
 obtain ⟨p,xs,i,z,rfl,rfl,hq,he,q⟩:=h
 cases rx
 obtain ⟨t,rfl⟩:=ry
 obtain ⟨its,r,pl,hz⟩:=I.tuple hq
 obtain ⟨j,h1,h2,h3,h4,h5⟩:=o8 he
 obtain ⟨w,ew,rw'⟩:=r.get h2
 have hl:=r.length
 have hn:=kI
 have fin:EP X pins σ Q w s:=⟨z,H,I,rw',q⟩
 exact subscriptTail_builtinR (x:=w) pl.typeIs slot_tuple_getitem.lookup
  (getItem_tuple (j:=j) (Q:=fun r s'=>r=w/\EP X pins σ Q r s') pl (by lia) (by lia) (by rw [ZX,← hl];exact h1) (by simpa using ew) ⟨rfl,fin⟩) hs
theorem AS:IxR X D3:=by
 intro value slice pins s σ H x y v u Q I rx ry h hs
 obtain ⟨z,i,c,rfl,rfl,hz,he,q⟩:=h
 obtain ⟨t,rfl⟩:=rx
 obtain ⟨t',rfl⟩:=ry
 obtain ⟨j,h1,h2,h3,h4,h5⟩:=o8 he
 have hl:z.cps.toList.length=z.length:=by simp [Str.length]
 rw [hl] at h1 h4 h5
 have hn:=kI
 exact tail_any (typeIs_str s z t) slot_str_getitem.lookup (getItem_str (c:=c) (by
  have e1:decide (i < -(2 ^ 63:Int))=false:=ZZ (by lia)
  have e2:decide (i ≥ 2 ^ 63)=false:=ZZ (by lia)
  rw [e1,e2,Bool.or_false]) (by rw [h1];simpa using h2) ⟨.str ⟨#[c]⟩,H,I.tok _,⟨_,rfl⟩,q⟩) hs
noncomputable def rIx (K:X8):R2:=fun x y H Q=>Dt K x y H Q\/D1 K x y H Q\/D3 x y H Q
theorem jw:IxR X (rIx X.K):=zD.or (BH.or AS)
theorem rX (its:Wy) (n j:Nat) (u:Value):Obj.mapSeq (·.setIfInBounds j u) { cls:=.type "list",data:=.seq its.toArray n }={ cls:=.type "list",data:=.seq (its.set j u).toArray n }:=by
 simp [Obj.mapSeq]
theorem Inv.lst {pins:Y7} {σ:St} {H:Hp} {s:Shared} {p:Addr} {xs:List V} (I:Inv X pins σ H s) (h:H p=some (.lst xs)) :
  ∃ (its:Wy) (n:Nat),aN xs its/\s.heap.get? p=some { cls:=.type "list",data:=.seq its.toArray n }/\xs.length<=sizeLine:=by
 obtain ⟨z,its,n,r,e⟩:=I.hok p _ h
 exact ⟨its,n,r,e,z⟩
theorem Inv.lstUpd {pins:Y7} {σ:St} {H:Hp} {s:Shared} {p:Addr} {xs ys:List V} {its its':Wy} {n n':Nat} {f:Obj->Obj} (I:Inv X pins σ H s) (h:H p=some (.lst xs))
  (ho:s.heap.get? p=some { cls:=.type "list",data:=.seq its.toArray n }) (hf:f { cls:=.type "list",data:=.seq its.toArray n }={ cls:=.type "list",data:=.seq its'.toArray n' }) (r:aN ys its') (hz:ys.length<=sizeLine) (t:Nat) :
  Inv X pins σ (upd H p (.lst ys)) { s with heap:=s.heap.update p f,toks:=t }:=by
 have e:(s.heap.update p f).get? p=some { cls:=.type "list",data:=.seq its'.toArray n' }:=by
  rw [Heap.get?_update_self f ho (by rw [hf] <;> rfl),hf]
 refine I.write (x:=p) (e:=p) (by rw [h];trivial) (.inl rfl) (fun b u hb q=>(XT _ _ (Yh hb)).trans q) ⟨_,e⟩ ?_
 exact ⟨hz,its',n',r,e⟩
noncomputable def Aw:V->V->V->Hp->(Hp->Prop)->Prop:=fun o i v H Q=>∃ p xs k j,o=.ref p/\i=.int k/\H p=some (.lst xs)/\ixN xs.length k=some j/\Q (upd H p (.lst (xs.set j v)))
theorem set_list:BJ X Aw:=by
 intro pins s σ H o i v ov iv u Q I ro ri rv h
 obtain ⟨p,xs,k,j,rfl,rfl,hp,hj,q⟩:=h
 cases ro
 obtain ⟨t,rfl⟩:=ri
 obtain ⟨its,n,r,ho,hz⟩:=I.lst hp
 obtain ⟨h1,h2,h3,h4⟩:=uc hj
 have hl:=r.length
 have hn:=kI
 have I':Inv X pins σ (upd H p (.lst (xs.set j v))) { s with heap:=s.heap.update p (Obj.mapSeq (·.setIfInBounds j u)) } :=
  I.lstUpd hp ho (rX its n j u) (r.set rv j) (by rw [Z2];exact hz) s.toks
 by_cases h0:0<=k
 ·have hk:k.toNat=j:=by
   rw [seqIndex_of h0 h4] at h1
   exact Zm h1
  exact PySem.W.ki_setAt ho h0 (by lia) (by rw [ZX,← hl];exact h4) (by rw [hk];exact ⟨_,I',q⟩)
 ·have hk:(k+(its.toArray.size:Int)).toNat=j:=by
   rw [seqIndex_neg (by lia) h3] at h1
   rw [ZX,← hl]
   exact Zm h1
  exact PySem.W.ki_setBack ho (by lia) (by rw [ZX,← hl];exact h3) (by lia) (by rw [hk];exact ⟨_,I',q⟩)
theorem pd (lo hi:Option Int) (n:Nat):(sliceBounds lo hi none n).1=((HT.sIx n 0 lo:Nat):Int)/\(sliceBounds lo hi none n).2.1=((HT.sIx n n hi:Nat):Int)/\(sliceBounds lo hi none n).2.2=1:=by
 refine ⟨?_,?_,rfl⟩
 ·cases lo with
  | none=>simp [sliceBounds,HT.sIx]
  | some i =>
   simp only [sliceBounds,HT.sIx,X2,show (1:Int) > 0 by decide,if_true]
   by_cases h:i < 0
   ·simp only [h,if_true] <;> lia
   ·simp only [h,if_false] <;> lia
 ·cases hi with
  | none=>simp [sliceBounds,HT.sIx]
  | some i =>
   simp only [sliceBounds,HT.sIx,X2,show (1:Int) > 0 by decide,if_true]
   by_cases h:i < 0
   ·simp only [h,if_true] <;> lia
   ·simp only [h,if_false] <;> lia
theorem nu (its:Wy) (lo hi:Option Int):slicePick its.toArray lo hi none=((its.drop (HT.sIx its.length 0 lo)).take (HT.sIx its.length its.length hi - HT.sIx its.length 0 lo)).toArray:=by
 obtain ⟨h1,h2,h3⟩:=pd lo hi its.toArray.size
 unfold slicePick
 rw [h1,h2,h3]
 simp only [sliceRange_one,pick_run,ZX] <;> rfl
noncomputable def DG (K:X8):V->Option Int->Option Int->Hp->VK->Prop:=fun x lo hi H Q=>∃ a xs,x=.ref a/\SqL K H a xs/\∀ p,H p=none->Q (.ref p) (upd H p (.lst (uS xs lo hi)))
theorem zU:SlR X (DG X.K):=by
 intro pins s σ H x v vl vu lo hi sl Q I rx hs pl pu h
 obtain ⟨a,xs,rfl,hx,q⟩:=h
 cases rx
 obtain ⟨its,r,ht,hz⟩:=I.list hx
 have hlen:=r.length
 refine ⟨"list",_,slot_list_getitem.lookup,ht.isList.typeIs,?_⟩
 refine wpAny_getItem_list_slice ht.isList hs pl pu .none (by simp) ?_ (by rw [ZX] <;> lia)
 rw [nu,← hlen]
 refine ⟨.ref s.heap.objs.size,_,I.laid (t':=s.toks) (o:=.lst (uS xs lo hi)) (fun b ob q=>Zk _ q) (Zi _) ?_,rfl,q _ (I.hok.fresh (Zi _))⟩
 exact ⟨ZI (pF xs lo hi) hz,_,0,(r.drop (HT.sIx xs.length 0 lo)).take (HT.sIx xs.length xs.length hi - HT.sIx xs.length 0 lo),ZV _ rfl⟩
noncomputable def fB:V->Bool
 | .non=>true
 | .bl _=>true
 | .int _=>true
 | .str _=>true
 | _=>false
noncomputable def eqV:V->V->Bool
 | .non,.non=>true
 | .bl a,.bl b=>a == b
 | .bl a,.int b=>(if a then 1 else 0) == b
 | .int a,.bl b=>a == (if b then 1 else 0)
 | .int a,.int b=>a == b
 | .str a,.str b=>a == b
 | _,_=>false
theorem Bb {A:Around} {s:Shared} {y x:V} {u v:Value} (ry:RelV y u) (rx:RelV x v) (fy:fB y=true) (fx:fB x=true):SeqAt.EqAt A s u v (eqV y x):=by
 cases y with
 | non =>
  cases ry
  cases x with
  | non=>cases rx;exact SeqAt.EqAt.same _
  | bl b=>cases rx;exact SeqAt.EqAt.none_bool b
  | int b=>obtain ⟨t,rfl⟩:=rx;exact SeqAt.EqAt.none_int b t
  | str b=>obtain ⟨t,rfl⟩:=rx;exact SeqAt.EqAt.none_str b t
  | _=>exact absurd (show false=true from fx) Zg
 | bl a =>
  cases ry
  cases x with
  | non=>cases rx;exact SeqAt.EqAt.bool_none a
  | bl b=>cases rx;exact SeqAt.EqAt.bool_bool a b
  | int b=>obtain ⟨t,rfl⟩:=rx;exact SeqAt.EqAt.bool_int a b t
  | str b=>obtain ⟨t,rfl⟩:=rx;exact SeqAt.EqAt.bool_str a b t
  | _=>exact absurd (show false=true from fx) Zg
 | int a =>
  obtain ⟨t',rfl⟩:=ry
  cases x with
  | non=>cases rx;exact SeqAt.EqAt.int_none a t'
  | bl b=>cases rx;exact SeqAt.EqAt.int_bool a t' b
  | int b=>obtain ⟨t,rfl⟩:=rx;exact SeqAt.EqAt.int_int a t' b t
  | str b=>obtain ⟨t,rfl⟩:=rx;exact SeqAt.EqAt.int_str a t' b t
  | _=>exact absurd (show false=true from fx) Zg
 | str a =>
  obtain ⟨t',rfl⟩:=ry
  cases x with
  | non=>cases rx;exact SeqAt.EqAt.str_none a t'
  | bl b=>cases rx;exact SeqAt.EqAt.str_bool a t' b
  | int b=>obtain ⟨t,rfl⟩:=rx;exact SeqAt.EqAt.str_int a t' b t
  | str b=>obtain ⟨t,rfl⟩:=rx;exact SeqAt.EqAt.str_str a t' b t
  | _=>exact absurd (show false=true from fx) Zg
 | _=>exact absurd (show false=true from fy) Zg
noncomputable def eqU (x:V) (u:Value):Bool:=match u with
 | .none=>eqV .non x
 | .bool b=>eqV (.bl b) x
 | .int i _=>eqV (.int i) x
 | .str z _=>eqV (.str z) x
 | _=>false
theorem vk {x y:V} {u:Value} (r:RelV y u) (f:fB y=true):eqU x u=eqV y x:=by
 cases y with
 | non=>cases r;rfl
 | bl b=>cases r;rfl
 | int i=>obtain ⟨t,rfl⟩:=r;rfl
 | str z=>obtain ⟨t,rfl⟩:=r;rfl
 | _=>exact absurd (show false=true from f) Zg
theorem kb {x:V}:∀ {xs:List V} {us:Wy},aN xs us->xs.all fB=true->us.any (eqU x)=xs.any fun y=>eqV y x
 | _,_,.nil,_=>rfl
 | y :: xs,u :: us,.cons r t,f=>by
  rw [Xz,Zf] at f
  rw [Yg,Yg,vk r f.1,kb t f.2]
theorem iw {A:Around} {s:Shared} {x:V} {v:Value} (rx:RelV x v) (fx:fB x=true):∀ {xs:List V} {us:Wy},aN xs us->xs.all fB=true->∀ u∈us,SeqAt.EqAt A s u v (eqU x u)
 | _,_,.nil,_=>fun u hu=>by cases hu
 | y :: xs,u :: us,.cons r t,f=>fun u' hu=>by
  rw [Xz,Zf] at f
  rcases Zj.mp hu with rfl | hu
  ·rw [vk r f.1];exact Bb r rx f.1 fx
  ·exact iw rx fx t f.2 u' hu
noncomputable def inV (x:V) (xs:List V):Bool:=xs.any fun y=>eqV y x
noncomputable def rIn (K:X8) (neg:Bool):R2:=fun x y H Q=>∃ p xs,y=.ref p/\(SqL K H p xs\/SqT K H p xs)/\fB x=true/\xs.all fB=true/\Q (.bl (if neg then !inV x xs else inV x xs)) H
theorem uA:OpR X (compareOp .In) (rIn X.K false):=by
 intro pins s σ H x y v u Q I rx ry h
 obtain ⟨p,xs,rfl,hq,fx,fs,q⟩:=h
 cases ry
 rcases hq with hq | hq
 ·obtain ⟨its,r,pl,hz⟩:=I.list hq
  refine SeqAt.in_listAt (eqU x) pl.isList (fun w hw=>iw rx fx r fs w (by simpa using hw)) ⟨.bl _,H,I,rfl,?_⟩
  rw [show its.toArray.any (eqU x)=its.any (eqU x) by simp,kb r fs]
  exact q
 ·obtain ⟨its,r,pl,hz⟩:=I.tuple hq
  refine SeqAt.in_tupleAt (eqU x) pl (fun w hw=>iw rx fx r fs w (by simpa using hw)) ⟨.bl _,H,I,rfl,?_⟩
  rw [show its.toArray.any (eqU x)=its.any (eqU x) by simp,kb r fs]
  exact q
theorem pC:OpR X (compareOp .NotIn) (rIn X.K true):=by
 intro pins s σ H x y v u Q I rx ry h
 obtain ⟨p,xs,rfl,hq,fx,fs,q⟩:=h
 cases ry
 rcases hq with hq | hq
 ·obtain ⟨its,r,pl,hz⟩:=I.list hq
  refine SeqAt.notIn_listAt (eqU x) pl.isList (fun w hw=>iw rx fx r fs w (by simpa using hw)) ⟨.bl _,H,I,rfl,?_⟩
  rw [show its.toArray.any (eqU x)=its.any (eqU x) by simp,kb r fs]
  exact q
 ·obtain ⟨its,r,pl,hz⟩:=I.tuple hq
  refine SeqAt.notIn_tupleAt (eqU x) pl (fun w hw=>iw rx fx r fs w (by simpa using hw)) ⟨.bl _,H,I,rfl,?_⟩
  rw [show its.toArray.any (eqU x)=its.any (eqU x) by simp,kb r fs]
  exact q
theorem dD.or {f:Value} {r r':List V->Hp->VK->Prop} (h:dD X f r) (h':dD X f r'):dD X f (fun xs H Q=>r xs H Q\/r' xs H Q):=by
 intro pins s σ H xs us Q I rs q
 rcases q with q | q
 ·exact h pins s σ H xs us Q I rs q
 ·exact h' pins s σ H xs us Q I rs q
theorem ot:dD X (.type "list") (fun xs H Q=>∃ p ys,xs=[.ref p]/\(SqL X.K H p ys\/SqT X.K H p ys)/\∀ l,H l=none->Q (.ref l) (upd H l (.lst ys))):=by
 intro pins s σ H xs us Q I r h
 obtain ⟨p,ys,rfl,hq,q⟩:=h
 obtain ⟨u,rfl,rx⟩:=vals1 r
 cases rx
 have fin:∀ (its:Wy),aN ys its->ys.length<=sizeLine->∀ (h':Heap) (c':Nat),(∀ b o',s.heap.get? b=some o'->h'.get? b=some o') →
   h'.get? s.heap.objs.size=some { cls:=.type "list",dict:=none,data:=.seq its.toArray c',slots:=#[] }->EP X pins σ Q (.ref s.heap.objs.size) { s with heap:=h' }:=fun its r' hz h' c' kp e =>
  ⟨.ref s.heap.objs.size,_,I.laid (t':=s.toks) kp (Zi _) (show bN X.prog X.w _ h' _ (.lst ys) from ⟨hz,its,c',r',e⟩),rfl,q _ (I.hok.fresh (Zi _))⟩
 rcases hq with hq | hq
 ·obtain ⟨its,r',pl,hz⟩:=I.list hq
  have hlen:=r'.length
  obtain ⟨o,ho,hc,n,hd⟩:=pl.isList
  exact call_list_seq p (.inl rfl) ho hc hd (fun h' c' kp e=>fin its r' hz h' c' kp e) (by simp only [ZX] <;> lia)
 ·obtain ⟨its,r',pl,hz⟩:=I.tuple hq
  have hlen:=r'.length
  obtain ⟨o,ho,hc,n,hd⟩:=pl
  exact call_list_seq p (.inr rfl) ho hc hd (fun h' c' kp e=>fin its r' hz h' c' kp e) (by simp only [ZX] <;> lia)
theorem nz:dD X (.type "tuple") (fun xs H Q=>∃ p ys,xs=[.ref p]/\((SqL X.K H p ys/\∀ l,H l=none->Q (.ref l) (upd H l (.tup ys)))\/(SqT X.K H p ys/\Q (.ref p) H))):=by
 intro pins s σ H xs us Q I r h
 obtain ⟨p,ys,rfl,h⟩:=h
 obtain ⟨u,rfl,rx⟩:=vals1 r
 cases rx
 rcases h with ⟨hq,q⟩ | ⟨hq,q⟩
 ·obtain ⟨its,r',pl,hz⟩:=I.list hq
  have hlen:=r'.length
  refine call_tuple_list pl.isList (fun h' kp=>?_) (by simp only [ZX] <;> lia)
  have I1:Inv X pins σ H { s with heap:=h' }:=I.kept (t':=s.toks) kp
  have I2:Inv X pins σ (upd H h'.objs.size (.tup ys)) { s with heap:=h'.push { cls:=.type "tuple",data:=.seq its.toArray } } :=
   I1.laid (t':=s.toks) (fun b o e=>Zk _ e) (Zi _) (show bN X.prog X.w _ _ _ (.tup ys) from ⟨hz,its,r',NoD.new _ _,IsTup.new _ _⟩)
  exact ⟨.ref h'.objs.size,_,I2,rfl,q _ (I1.hok.fresh (Zi _))⟩
 ·obtain ⟨its,r',pl,hz⟩:=I.tuple hq
  exact call_tuple_same pl ⟨.ref p,H,I,rfl,q⟩
noncomputable def tyV (K:X8) (T:String) (x:V) (H:Hp):Prop:=match x with
 | .str _=>T = "str"
 | .int _=>T = "int"
 | .ref p=>(T = "list" ∧ ∃ xs,SqL K H p xs)\/(T = "tuple" ∧ ∃ o,K.lookup p=some o/\o.cls=.type "tuple" ∧ o.dict=none) ∨
   (T = "dict" ∧ ((∃ kvs,H p=some (.dK kvs))\/∃ kvs,H p=some (.dT kvs)))\/(T = "set" ∧ ∃ S n,H p=some (.set S n))
 | _=>False
theorem Co {pins:Y7} {σ:St} {H:Hp} {s:Shared} {T:String} {x:V} {v:Value} (I:Inv X pins σ H s) (r:RelV x v) (ty:tyV X.K T x H) :
  s.TypeIs v T/\∀ a,v=.ref a->∃ ob,s.heap.get? a=some ob/\ob.dict=none:=by
 cases x with
 | str z =>
  obtain ⟨t,rfl⟩:=r
  cases (show T = "str" from ty)
  exact ⟨typeIs_str s z t,fun _ e=>nomatch e⟩
 | int i =>
  obtain ⟨t,rfl⟩:=r
  cases (show T = "int" from ty)
  exact ⟨typeIs_int s i t,fun _ e=>nomatch e⟩
 | ref p =>
  cases r
  rcases ty with ⟨rfl,xs,hq⟩ | ⟨rfl,o,hk,hc,hd⟩ | ⟨rfl,hk⟩ | ⟨rfl,S,n,hk⟩
  ·obtain ⟨its,_,pl,_⟩:=I.list hq
   refine ⟨pl.isList.typeIs,fun a e=>?_⟩
   cases e
   obtain ⟨o,n,e,c,hd,_⟩:=pl
   exact ⟨o,e,hd⟩
  ·refine ⟨⟨o,I.kIn p o hk,hc⟩,fun a e=>?_⟩
   cases e
   exact ⟨o,I.kIn _ o hk,hd⟩
  ·have z:∃ o,s.heap.get? p=some o/\o.ExactDict:=by
    rcases hk with ⟨kvs,hk⟩ | ⟨kvs,hk⟩
    ·obtain ⟨_,_,_,_,o,_,_,e,ex,_⟩:=I.hok p _ hk
     exact ⟨o,e,ex⟩
    ·obtain ⟨_,_,_,_,o,_,_,e,ex,_⟩:=I.hok p _ hk
     exact ⟨o,e,ex⟩
   obtain ⟨o,e,ex⟩:=z
   refine ⟨⟨o,e,ex.1⟩,fun a e2=>?_⟩
   cases e2
   exact ⟨o,e,ex.2.1⟩
  ·obtain ⟨o,_,_,_,e,ex,_⟩:=I.hok p _ hk
   refine ⟨⟨o,e,ex.1⟩,fun a e2=>?_⟩
   cases e2
   exact ⟨o,e,ex.2.1⟩
 | _=>exact False.elim ty
noncomputable def tBM (K:X8) (T:String) (r:V->List V->Hp->VK->Prop) (to:TE) (t:TA):TE:=fun σ H Q=>to σ H fun x H1=>tyV K T x H1/\t σ H1 fun xs H2=>r x xs H2 Q
variable {o e:Expr} {es:List Expr} {to:TE} {t:TA} {name:Str} {apos cpos:Pos} {T id:String} {r:V->List V->Hp->VK->Prop}
theorem qR (pa:PlainAttrs T) (slot:Slot T name id) (hty:typeOf (.builtin id)=pure (.type "method_descriptor")) (hm:MtR X id r) (ho:PE X o to) (ha:PA X (e :: es) t)
  (hbase:attributeBase o name X.env (eval o X.env)=eval o X.env:=by rfl)
  (hfew:((backTo cpos (starEach (e :: es) X.env)).all (fun x=>!x.1) && (backToKw cpos (keywordEach [] X.env)).all (fun x=>x.1.isSome)
   && decide ((e :: es).length+([]:List Keyword).length+(if ([]:List Keyword).isEmpty then 0 else 1) < 30))=true:=by rfl)
  (hline:(apos.endLine == cpos.line)=true:=by rfl) (hs:starEach (e :: es) X.env=(false,eval e X.env) :: starEach es X.env:=by rfl) (hplain:(backTo cpos (starEach es X.env)).any (·.1)=false:=by rfl) :
  PE X (.Call (.Attribute o name apos) (e :: es) [] cpos) (tBM X.K T r to t):=by
 intro pins s σ H Q I h
 refine wpAny_Call_method_late hbase hfew hline rfl (thn (ho pins s σ H _ I h) fun v s1 ⟨x,H1,I1,r1,ty,q1⟩=>?_)
 obtain ⟨h1,h2⟩:=Co I1 r1 ty
 refine ⟨T,id,pa,slot,hty,h1,h2,?_⟩
 have hA:=ha cpos pins s1 σ H1 _ I1 q1
 rw [hs] at hA ⊢
 refine Calls.callWith_builtin (by show (false || (backTo cpos (starEach es X.env)).any (·.1))=false;rw [hplain] <;> rfl) (Calls.evalArgs_plain ?_)
 exact thn hA fun us s2 ⟨vs,H2,I2,r2,q2⟩=>hm pins s2 σ H2 x vs v us Q I2 r1 r2 q2
end
noncomputable def MtM (X:Cx) (id:String) (r:V->List V->Hp->VK->Prop):Prop :=
 ∀ (pins:Y7) (s:Shared) (σ:St) (H:Hp) (x:V) (xs:List V) (v:Value) (us:Wy) (Q:VK),Inv X pins σ H s->RelV x v->aN xs us->r x xs H Q →
  wpAny (model X.prog X.w) X.A (call (.builtin id) (v :: us)) (EP X pins σ Q) X.xe s
theorem aN.nil_inv {us:Wy} (h:aN [] us):us=[]:=by
 cases h
 rfl
theorem aN.cons_inv {x:V} {xs:List V} {us:Wy} (h:aN (x :: xs) us):∃ u vs,us=u :: vs/\RelV x u/\aN xs vs:=by
 cases h with
 | cons r t=>exact ⟨_,_,rfl,r,t⟩
theorem aN.one {x:V} {us:Wy} (h:aN [x] us):∃ u,us=[u]/\RelV x u:=by
 obtain ⟨u,vs,rfl,r,t⟩:=h.cons_inv
 rw [t.nil_inv]
 exact ⟨_,rfl,r⟩
section
variable {X:Cx} {pins:Y7} {σ:St} {H:Hp} {s:Shared} {l b:Addr} {xs ys zs:List V}
theorem Inv.lset {its its':Wy} {n:Nat} {f:Array Value->Array Value} {t':Nat} (I:Inv X pins σ H s) (hH:H l=some (.lst xs))
  (e:s.heap.get? l=some { cls:=.type "list",data:=.seq its.toArray n }) (hf:f its.toArray=its'.toArray) (hv:aN ys its') (hz:ys.length<=sizeLine) :
  Inv X pins σ (upd H l (.lst ys)) { s with heap:=s.heap.update l (Obj.mapSeq f),toks:=t' }:=by
 have q:=PySem.IsL.update e f
 rw [hf] at q
 refine I.write (x:=l) (e:=l) (by rw [hH];exact trivial) (.inl rfl) (fun b' u hb hu=>(XT s.heap (Obj.mapSeq f) (Yh hb)).trans hu) ⟨_,q⟩ ?_
 exact ⟨hz,its',_,hv,q⟩
theorem Inv.lnew {its:Wy} {t':Nat} (I:Inv X pins σ H s) (hv:aN ys its) (hz:ys.length<=sizeLine) :
  Inv X pins σ (upd H s.heap.objs.size (.lst ys)) { s with heap:=s.heap.push { cls:=.type "list",data:=.seq its.toArray },toks:=t' } :=
 I.laid (fun _ _ q=>Zk _ q) (Zi _) ⟨hz,its,0,hv,ZV _ rfl⟩
theorem Inv.fresh (I:Inv X pins σ H s):H s.heap.objs.size=none:=I.hok.fresh (Zi _)
theorem Inv.lstM (I:Inv X pins σ H s) (hH:H l=some (.lst xs)):xs.length<=sizeLine/\∃ (its:Wy) (n:Nat),aN xs its/\xs.length=its.length/\s.heap.get? l=some { cls:=.type "list",data:=.seq its.toArray n }:=by
 obtain ⟨z,its,n,r,e⟩:=I.hok l _ hH
 exact ⟨z,its,n,r,r.length,e⟩
theorem pS {n:Nat} (h:n<=sizeLine):Builtin.List.listTooLong n=false:=by
 unfold Builtin.List.listTooLong
 exact ZZ (by exact Nat.not_lt_of_le h)
end
section
variable {X:Cx}
noncomputable def tV:V->List V->Hp->VK->Prop:=fun x vs H Q=>∃ l xs y,x=.ref l/\vs=[y]/\H l=some (.lst xs)/\xs.length < sizeLine/\Q .non (upd H l (.lst (xs++[y])))
theorem i7:MtM X "list.append" tV:=by
 intro pins s σ H x vs v us Q I rx rv h
 obtain ⟨l,xs,y,rfl,rfl,hH,hz,q⟩:=h
 cases rx
 obtain ⟨u,rfl,ru⟩:=rv.one
 obtain ⟨z,its,n,r,hl,e⟩:=I.lstM hH
 refine call_meets F.slot_list_append ⟨_,e,rfl⟩ F.entry_list_append (F.args_list_append_2 _ _) (PySem.list_append l its.toArray n u (by rw [ZX];lia)) ⟨e,?_⟩
 refine ⟨.non,_,I.lset (its':=its++[u]) hH e (by simp) (r.append (.cons ru .nil)) ?_,rfl,q⟩
 rw [Zv,ZW]
 exact Nat.succ_le_of_lt hz
noncomputable def DE:R2:=fun x y H Q=>∃ l b xs zs,x=.ref l/\y=.ref b/\H l=some (.lst xs)/\H b=some (.lst zs)/\xs.length+zs.length<=sizeLine/\∀ p,H p=none->Q (.ref p) (upd H p (.lst (xs++zs)))
theorem BI:OpR X (binaryOp .Add) DE:=by
 intro pins s σ H x y v u Q I rx ry h
 obtain ⟨l,b,xs,zs,rfl,rfl,hH,hB,hz,q⟩:=h
 cases rx
 cases ry
 obtain ⟨z,its,n,r,hl,e⟩:=I.lstM hH
 obtain ⟨z2,its2,n2,r2,hl2,e2⟩:=I.lstM hB
 refine PySem.P.add_list e e2 ?_ (by rw [ZX,ZX];lia)
 have ea:its.toArray++its2.toArray=(its++its2).toArray:=by simp
 rw [ea]
 exact ⟨.ref _,_,I.lnew (t':=s.toks) (r.append r2) (by rw [Zv];omega),rfl,q _ I.fresh⟩
theorem len_rep {α:Type} (xs:List α) (k:Nat):(List.replicate k xs).flatten.length=k * xs.length:=by
 induction k with
 | zero=>simp
 | succ k ih=>rw [YF,ZP,Zv,ih,Nat.succ_mul,Nat.add_comm]
end
section
variable {prog:Program} {w:World} {A:Around} {E:Z4} {s:Shared}
theorem rj {a c n:Nat} (hac:a<=c) (hc:c<=n):sliceBounds (some (a:Int)) (some (c:Int)) none n=((a:Int),(c:Int),1):=by
 simp only [sliceBounds,X2]
 have h1:¬ ((a:Int) < 0):=by lia
 have h2:¬ ((c:Int) < 0):=by lia
 simp only [h1,h2,if_false,show (1:Int) > 0 by decide,if_true]
 congr 1
 ·lia
 ·congr 1;lia
set_option maxRecDepth 100000 in
theorem yf {l b sl:Addr} {items new:Array Value} {n n2:Nat} {vl vu:Value} {a c:Nat} {Q:Unit->Shared->Prop}
  (e:s.heap.get? l=some { cls:=.type "list",data:=.seq items n }) (e2:s.heap.get? b=some { cls:=.type "list",data:=.seq new n2 }) (hne:l ≠ b)
  (hs:s.heap.IsSliceOf sl vl vu .none) (pl:IsPart vl (some (a:Int))) (pu:IsPart vu (some (c:Int))) (hac:a<=c) (hc:c<=items.size)
  (hsz:items.size+new.size<=sizeLine) (h:Q () { s with heap:=s.heap.update l (Obj.mapSeq fun xs=>xs.extract 0 a++new++xs.extract c xs.size) }) :
  wpAny (model prog w) A (setItem (.ref l) (.ref sl) (.ref b)) Q E s:=by
 have hl:s.heap.IsList l items:=PySem.IsL.isList e
 have hb:s.heap.IsList b new:=PySem.IsL.isList e2
 obtain ⟨os,hos,hcs,hds⟩:=id hs
 have hTs:s.TypeIs (.ref sl) "slice" := ⟨os,hos,hcs⟩
 have hstep:¬ ((rawPart none == rawInt 0)=true):=Zg
 have hsame:Builtin.List.listSameRef (.ref l) (.ref b)=false:=by
  unfold Builtin.List.listSameRef
  exact ZM.mpr hne
 have hmax:(max (a:Int) (c:Int)).toNat=c:=by lia
 have hz':((fun xs:Array Value=>xs.extract 0 a++new++xs.extract c xs.size) items).size<=sizeLine+1:=by
  simp only [Array.size_append,Array.size_extract]
  lia
 unfold setItem
 try with_reducible refine YI ?_
 first | refine Zq (Ze ?_) | skip
 refine Zq (wpAny_sequenceKey hl.typeIs (by decide) ?_)
 refine Zq (wpAny_callSpecial?_slot (name:=Str.ofString "__setitem__") hl.typeIs slot_list_setitem
  (Xv slot_list_setitem hl.typeIs entry_list_setitem ?_ (args_list_setitem _ _ _)))
 show wpAny _ _ (Builtin.List.listSubscript? (.ref sl) >>= _) _ _ s
 refine Zq ?_
 unfold Builtin.List.listSubscript?
 refine Zq (wpAny_specialOf hTs slice_no_index ?_)
 simp only [Option.isNone_none,if_true]
 refine Ze ?_
 show wpAny _ _ (typeOf (.ref sl) >>= _) _ _ s
 refine Zq (wpAny_typeOf hTs ?_)
 first
  | rw [Zo (by decide)]
  | refine XO (by decide) ?_
 rw [listSliceParts_eq]
 refine Zq (Zq (wpAny_field hos hds (x:=.none) rfl (Zq (wpAny_listPart .none ?_))))
 rw [Zo hstep]
 refine Zq (wpAny_field hos hds (x:=vl) rfl (Zq (wpAny_listPart pl ?_)))
 refine Zq (wpAny_field hos hds (x:=vu) rfl (Zq (wpAny_listPart pu (Ze ?_))))
 first
  | simp only [hsame,YA,if_false]
  | refine XO hsame ?_
  | (dsimp only
     rw [Zo (by rw [hsame];exact Zg)])
 refine Zq (m:=Builtin.List.listAllItems (.ref b) "must assign iterable to extended slice") ?_
 unfold Builtin.List.listAllItems
 refine Zq (wpAny_typeOf hb.typeIs ?_)
 first
  | refine PySem.W.KFB.if_so (by decide) ?_
  | rw [Zp (by decide)]
  | simp only [beq_self_eq_true,Bool.true_or,if_true]
 unfold Builtin.List.listItems
 refine Zq (wpAny_seqItems e2 rfl (Ze ?_))
 refine Zq (Zq (wpAny_seqItems e rfl (Ze ?_)))
 refine Zq (wpAny_of_eq ((sliceIndices_raw (some (a:Int)) (some (c:Int)) none items.size (by simp)).trans (congrArg (pure:Int×Int×Int->Sem (Int×Int×Int)) (rj hac hc))) ?_)
 show wpAny _ _ (if ((1:Int) == 1)=true then _ else _) _ _ s
 rw [Zp (by decide)]
 refine Zq (wpAny_rule ?_)
 first
  | simp only [pS hsz,YA,if_false]
  | refine XO (pS hsz) ?_
 first | refine Zq (Ze ?_) | skip
 show wpAny _ _ (updateSeq l (fun xs=>xs.extract 0 ((a:Int)).toNat++new++xs.extract (max (a:Int) (c:Int)).toNat xs.size) >>= _) _ _ s
 rw [hmax,Xo]
 refine Zq (wpAny_updateSeq (hz:=ZI (YU _ _) hsz) (_hz':=hz') e rfl ?_)
 refine Zq (wpAny_letGo ?_)
 first
  | exact Zq (Ze (Ze ⟨.none,rfl,Ze h⟩))
  | exact Ze ⟨.none,rfl,Ze h⟩
end
section
variable {κ:Type} [DecidableEq κ]
noncomputable def gm (kvs:List (κ×V)) (k:κ):Option V:=(kvs.find? fun kv=>decide (kv.1=k)).map (·.2)
noncomputable def putK (kvs:List (κ×V)) (k:κ) (v:V):List (κ×V) :=
 if (kvs.any fun kv=>decide (kv.1=k))=true then kvs.map (fun kv=>if kv.1=k then (kv.1,v) else kv) else kvs++[(k,v)]
theorem iG {p:κ×V} {r:List (κ×V)} {k:κ} (e:p.1=k):gm (p :: r) k=some p.2:=by simp [gm,Z3,e]
theorem lV {p:κ×V} {r:List (κ×V)} {k:κ} (e:¬ p.1=k):gm (p :: r) k=gm r k:=by simp [gm,Z3,e]
theorem qK (k:κ):∀ kvs:List (κ×V),(kvs.any fun kv=>decide (kv.1=k))=(gm kvs k).isSome
 | []=>rfl
 | p :: r=>by
  rw [Yg]
  by_cases e:p.1=k
  ·simp only [iG e,decide_eq_true e,Bool.true_or,Option.isSome_some]
  ·rw [lV e,ZZ e,Bool.false_or];exact qK k r
theorem gq (kvs:List (κ×V)) (k:κ) (v:V):(putK kvs k v).length<=kvs.length+1:=by
 unfold putK
 split
 ·rw [Zw];exact YU _ _
 ·rw [Zv,Zl,List.length_nil];exact Zi _
theorem ik.isSome_eq {o:Option V} {u:Wx} (r:ik o u):o.isSome=u.isSome:=by
 cases o with
 | none=>cases u with
  | none=>rfl
  | some _=>exact (show False from r).elim
 | some _=>cases u with
  | none=>exact (show False from r).elim
  | some _=>rfl
theorem ik.getD {o:Option V} {u:Wx} {d:V} {d':Value} (r:ik o u) (rd:RelV d d'):RelV (o.getD d) (u.getD d'):=by
 cases o with
 | none=>cases u with
  | none=>exact rd
  | some _=>exact (show False from r).elim
 | some _=>cases u with
  | none=>exact (show False from r).elim
  | some _=>exact r
theorem KV.val {kvs:List (κ×V)} {vs:List (κ×Value)} (r:KV kvs vs) (k:κ):ik (gm kvs k) (valueAt vs k):=by
 unfold KV at r
 induction r with
 | nil=>exact True.intro
 | @cons p q ps qs h t ih =>
  obtain ⟨h1,h2⟩:=h
  by_cases e:p.1=k
  ·have e':q.1=k:=h1.symm.trans e
   have b:valueAt (q :: qs) k=some q.2:=by simp [valueAt,Z3,e']
   rw [iG e,b];exact h2
  ·have e':¬ q.1=k:=fun z=>e (h1.trans z)
   have b:valueAt (q :: qs) k=valueAt qs k:=by simp [valueAt,Z3,e']
   rw [lV e,b];exact ih
theorem KV.any {kvs:List (κ×V)} {vs:List (κ×Value)} (r:KV kvs vs) (k:κ):(kvs.any fun kv=>decide (kv.1=k))=vs.any fun kv=>decide (kv.1=k):=by
 unfold KV at r
 induction r with
 | nil=>rfl
 | cons h t ih=>rw [Yg,Yg,ih,h.1]
theorem KV.repl {kvs:List (κ×V)} {vs:List (κ×Value)} (r:KV kvs vs) (k:κ) {y:V} {u:Value} (ry:RelV y u) :
  KV (kvs.map fun kv=>if kv.1=k then (kv.1,y) else kv) (vs.map fun kv=>if kv.1=k then (kv.1,u) else kv):=by
 unfold KV at r ⊢
 induction r with
 | nil=>exact .nil
 | @cons p q ps qs h t ih =>
  rw [Zn,Zn]
  refine .cons ?_ ih
  obtain ⟨h1,h2⟩:=h
  by_cases e:p.1=k
  ·rw [Zp e,Zp (h1.symm.trans e)];exact ⟨h1,ry⟩
  ·rw [Zo e,Zo (fun z=>e (h1.trans z))];exact ⟨h1,h2⟩
theorem KV.put {kvs:List (κ×V)} {vs:List (κ×Value)} (r:KV kvs vs) (k:κ) {y:V} {u:Value} (ry:RelV y u):KV (putK kvs k y) (stored vs k u):=by
 unfold putK stored
 rw [r.any k]
 by_cases e:(vs.any fun kv=>decide (kv.1=k))=true
 ·rw [Zp e,Zp e];exact r.repl k ry
 ·rw [Zo e,Zo e];exact Paired.snoc r ⟨rfl,ry⟩
theorem KV.keys {kvs:List (κ×V)} {vs:List (κ×Value)} (r:KV kvs vs):kvs.map (·.1)=vs.map (·.1):=by
 unfold KV at r
 induction r with
 | nil=>rfl
 | cons h t ih=>rw [Zn,Zn,ih,h.1]
theorem KV.length {kvs:List (κ×V)} {vs:List (κ×Value)} (r:KV kvs vs):kvs.length=vs.length:=Y0 r
end
theorem lu {P:Program} {w:World} {k:Key} {u:Value} (r:RelV (kV k) u):(aJ P w).is k u=true:=by
 cases k with
 | inl i=>obtain ⟨t,e⟩:=(show ∃ t,u=Value.int i t from r);subst e;exact qf P w i t
 | inr x=>obtain ⟨t,e⟩:=(show ∃ t,u=Value.str x t from r);subst e;exact qC P w x t
theorem nS {P:Program} {w:World}:∀ {ks:List Key} {us:Wy},aN (ks.map kV) us->ItemsAre (aJ P w) ks us
 | [],_,r=>by rw [List.map_nil] at r;cases r;exact .nil
 | k :: ks,_,r=>by
  rw [Zn] at r
  cases r with
  | cons h t=>exact .cons (lu h) (nS t)
noncomputable abbrev KT (H:Hp):List (List Key×V)->List (List Key×Addr×Value)->Prop:=Paired fun p q=>p.1=q.1/\H q.2.1=some (.tup (p.1.map kV))/\RelV p.2 q.2.2
theorem KT.val {H:Hp} {kvs:List (List Key×V)} {xs:List (List Key×Addr×Value)} (r:KT H kvs xs) (k:List Key):ik (gm kvs k) ((atKey xs k).map (·.2)):=by
 induction r with
 | nil=>exact True.intro
 | @cons p q ps qs h t ih =>
  obtain ⟨h1,_,h2⟩:=h
  by_cases e:p.1=k
  ·have e':q.1=k:=h1.symm.trans e
   have b:atKey (q :: qs) k=some q.2:=by simp [atKey,Z3,e']
   rw [iG e,b];exact h2
  ·have e':¬ q.1=k:=fun z=>e (h1.trans z)
   have b:atKey (q :: qs) k=atKey qs k:=by simp [atKey,Z3,e']
   rw [lV e,b];exact ih
theorem KT.repl {H:Hp} {kvs:List (List Key×V)} {xs:List (List Key×Addr×Value)} (r:KT H kvs xs) (k:List Key) {y:V} {u:Value} (ry:RelV y u) :
  KT H (kvs.map fun kv=>if kv.1=k then (kv.1,y) else kv) (xs.map (putAt k u)):=by
 induction r with
 | nil=>exact .nil
 | @cons p q ps qs h t ih =>
  rw [Zn,Zn]
  refine .cons ?_ ih
  obtain ⟨h1,h2,h3⟩:=h
  unfold putAt
  by_cases e:p.1=k
  ·rw [Zp e,Zp (h1.symm.trans e)];exact ⟨h1,h2,ry⟩
  ·rw [Zo e,Zo (fun z=>e (h1.trans z))];exact ⟨h1,h2,h3⟩
theorem KT.put {H:Hp} {kvs:List (List Key×V)} {xs:List (List Key×Addr×Value)} (r:KT H kvs xs) (k:List Key) {b:Addr} {y:V} {u:Value} (hb:H b=some (.tup (k.map kV))) (ry:RelV y u) :
  KT H (putK kvs k y) (storedH xs k b u):=by
 have e:(kvs.any fun kv=>decide (kv.1=k))=(atKey xs k).isSome:=by
  rw [qK,(r.val k).isSome_eq,Yj]
 unfold putK storedH
 rw [e]
 by_cases q:(atKey xs k).isSome=true
 ·rw [Zp q,Zp q];exact r.repl k ry
 ·rw [Zo q,Zo q];exact Paired.snoc r ⟨rfl,hb,ry⟩
theorem KT.keeps {H H':Hp} {kvs:List (List Key×V)} {xs:List (List Key×Addr×Value)} (r:KT H kvs xs) (ht:∀ b ys,H b=some (.tup ys)->H' b=some (.tup ys)):KT H' kvs xs :=
 Paired.mapP r fun _ _ z=>⟨z.1,ht _ _ z.2.1,z.2.2⟩
section
variable {P:Program} {w:World} {H:Hp} {h:Heap} {a:Addr}
theorem Aq {u:HO} (ok:HOk P w H h) (e:Rd H a u):bN P w H h a u:=e.ok ok
theorem ll {kvs:List (Key×V)} (ok:HOk P w H h) (e:Rd H a (.dK kvs)):kvs.length<=sizeLine/\(a == sysModules)=false/\∃ vs,KV kvs vs/\h.DictOf (aJ P w) a vs :=
 show bN P w H h a (.dK kvs) from Aq ok e
theorem pJ {kvs:List (Key×V)} (ok:HOk P w H h) (e:H a=some (.dK kvs)):kvs.length<=sizeLine/\(a == sysModules)=false/\∃ vs,KV kvs vs/\h.DictOf (aJ P w) a vs:=ll ok (.inl e)
theorem dA {ks:List Key} (ok:HOk P w H h) (e:H a=some (.tup (ks.map kV))):(tupleKind (aJ P w)).is h ks a:=by
 obtain ⟨_,its,r,_,o,h1,h2,n,h3⟩:=(show bN P w H h a (.tup (ks.map kV)) from ok a _ e)
 exact ⟨o,its.toArray,n,h1,h2,h3,by simpa using nS r⟩
theorem nc {kvs:List (List Key×V)} (ok:HOk P w H h) (e:Rd H a (.dT kvs)):kvs.length<=sizeLine/\(a == sysModules)=false ∧
  ∃ xs,KT H kvs xs/\h.DictOfH (tupleKind (aJ P w)) a xs:=by
 obtain ⟨z,y,xs,r,o,es,ep,h1,h2,h3,h4,h5⟩:=(show bN P w H h a (.dT kvs) from Aq ok e)
 refine ⟨z,y,xs,r,o,es,ep,h1,h2,h3,h4,fun x hx=>?_,h5⟩
 have all:∀ {l:List (List Key×V)} {m:List (List Key×Addr×Value)},KT H l m->∀ x∈m,(tupleKind (aJ P w)).is h x.1 x.2.1:=by
  intro l m q
  induction q with
  | nil=>intro x hx;exact nomatch hx
  | @cons p q ps qs hq t ih =>
   intro x hx
   rcases Zj.mp hx with e | hx
   ·subst e
    exact dA ok (by rw [← hq.1];exact hq.2.1)
   ·exact ih x hx
 exact all r x hx
theorem DT {kvs:List (List Key×V)} (ok:HOk P w H h) (e:H a=some (.dT kvs)):kvs.length<=sizeLine/\(a == sysModules)=false ∧
  ∃ xs,KT H kvs xs/\h.DictOfH (tupleKind (aJ P w)) a xs:=nc ok (.inl e)
end
noncomputable def gO (H:Hp) (a:Addr) (y:V) (r:Option V):Prop :=
 (∃ kvs k,Rd H a (.dK kvs)/\y=kV k/\r=gm kvs k)\/∃ kvs k b,Rd H a (.dT kvs)/\y=.ref b/\H b=some (.tup (k.map kV))/\r=gm kvs k
noncomputable def q8 (H:Hp) (a:Addr) (y v:V) (H':Hp):Prop :=
 (∃ kvs k,H a=some (.dK kvs)/\y=kV k/\kvs.length < sizeLine/\H'=upd H a (.dK (putK kvs k v))) ∨
 ∃ kvs k b,H a=some (.dT kvs)/\y=.ref b/\H b=some (.tup (k.map kV))/\kvs.length < sizeLine/\H'=upd H a (.dT (putK kvs k v))
theorem gO.k {H:Hp} {a:Addr} {kvs:List (Key×V)} {k:Key} (e:H a=some (.dK kvs)):gO H a (kV k) (gm kvs k):=.inl ⟨kvs,k,.inl e,rfl,rfl⟩
theorem q8.k {H:Hp} {a:Addr} {kvs:List (Key×V)} {k:Key} {v:V} (e:H a=some (.dK kvs)) (hl:kvs.length < sizeLine):q8 H a (kV k) v (upd H a (.dK (putK kvs k v))):=.inl ⟨kvs,k,e,rfl,hl,rfl⟩
section
variable {X:Cx} {pins:Y7} {σ:St} {H:Hp} {s:Shared} {a:Addr} {y v:V} {u r:Value} {o:Option V} {A:Around} {E:Z4}
theorem Inv.big (I:Inv X pins σ H s):sysModules < s.heap.objs.size:=by
 have h:mainGlobals < s.heap.objs.size:=(I.mod.glob.keeps I.bk).lt
 exact XF (by decide) h
theorem uR {Q:Z4} (hu:A.units+1 < cLine) (I:Inv X pins σ H s) (g:gO H a y (some v)) (ry:RelV y u) (h:∀ w' s',Inv X pins σ H s'->RelV v w'->Q w' s') :
  wpAny (model X.prog X.w) A (getItem (.ref a) u) Q E s:=by
 rcases g with ⟨kvs,k,e,ey,l⟩ | ⟨kvs,k,b,e,ey,eb,l⟩
 ·subst ey
  obtain ⟨z,hd,vs,rel,dd⟩:=ll I.hok e
  obtain ⟨w',hw,rw'⟩:=ik.some_of (v:=v) (o:=valueAt vs k) (by rw [l];exact rel.val k)
  exact wpAny_getItem_of (lu ry) dd.mapOf hw (h w' _ (I.tok _) rw')
 ·subst ey
  cases (show u=Value.ref b from ry)
  obtain ⟨z,hd,xs,rel,dd⟩:=nc I.hok e
  obtain ⟨w',hw,rw'⟩:=ik.some_of (v:=v) (o:=(atKey xs k).map (·.2)) (by rw [l];exact rel.val k)
  obtain ⟨p,hp,hp2⟩:=Zy.mp hw
  refine wpAny_getItem_heap (Y4 hu) (dA I.hok eb) dd hp ?_
  rw [hp2]
  exact h w' _ (I.tok _) rw'
theorem Et {Q:Z4} (hu:A.units+1 < cLine) (I:Inv X pins σ H s) (g:gO H a y o) (ry:RelV y u) (h:∀ s',Inv X pins σ H s'->Q (.bool o.isSome) s') :
  wpAny (model X.prog X.w) A (compareOp .In u (.ref a)) Q E s:=by
 rcases g with ⟨kvs,k,e,ey,l⟩ | ⟨kvs,k,b,e,ey,eb,l⟩
 ·subst ey
  obtain ⟨z,hd,vs,rel,dd⟩:=ll I.hok e
  refine wpAny_in_of (lu ry) hd dd.mapOf ?_
  rw [← (rel.val k).isSome_eq,← l]
  exact h _ (I.tok _)
 ·subst ey
  cases (show u=Value.ref b from ry)
  obtain ⟨z,hd,xs,rel,dd⟩:=nc I.hok e
  refine wpAny_in_heap (Y4 hu) (dA I.hok eb) hd dd ?_
  have q:=(rel.val k).isSome_eq
  rw [Yj] at q
  rw [← q,← l]
  exact h _ (I.tok _)
theorem zW {Q:Z4} (hu:A.units+1 < cLine) (I:Inv X pins σ H s) (g:gO H a y o) (ry:RelV y u) (h:∀ s',Inv X pins σ H s'->Q (.bool (!o.isSome)) s') :
  wpAny (model X.prog X.w) A (compareOp .NotIn u (.ref a)) Q E s:=by
 rcases g with ⟨kvs,k,e,ey,l⟩ | ⟨kvs,k,b,e,ey,eb,l⟩
 ·subst ey
  obtain ⟨z,hd,vs,rel,dd⟩:=ll I.hok e
  refine wpAny_notIn_of (lu ry) hd dd.mapOf ?_
  rw [← (rel.val k).isSome_eq,← l]
  exact h _ (I.tok _)
 ·subst ey
  cases (show u=Value.ref b from ry)
  obtain ⟨z,hd,xs,rel,dd⟩:=nc I.hok e
  refine wpAny_notIn_heap (Y4 hu) (dA I.hok eb) hd dd ?_
  have q:=(rel.val k).isSome_eq
  rw [Yj] at q
  rw [← q,← l]
  exact h _ (I.tok _)
theorem lO {h':Heap} {t':Nat} {ob:HO} (I:Inv X pins σ H s) (mu:Mut (H a)) (hs:Heap.SameBut a s.heap h') (he:∃ q,h'.get? a=some q) (new:bN X.prog X.w (upd H a ob) h' a ob) :
  Inv X pins σ (upd H a ob) { s with heap:=h',toks:=t' } :=
 I.write (x:=a) (e:=a) mu (.inl rfl) (fun b q hb z=>(hs.2 b hb).trans z) he new
theorem om {P:Program} {w:World} {H':Hp} {h':Heap} {kvs:List (Key×V)} {vs:List (Key×Value)} (z:kvs.length<=sizeLine) (hd:(a == sysModules)=false) (rel:KV kvs vs) (dd:h'.DictOf (aJ P w) a vs) :
  bN P w H' h' a (.dK kvs):=⟨z,hd,vs,rel,dd⟩
theorem uW {H':Hp} {Q:Unit->Shared->Prop} (hu:A.units+1 < cLine) (I:Inv X pins σ H s) (g:q8 H a y v H') (ry:RelV y u) (rv:RelV v r) (h:∀ s',Inv X pins σ H' s'->Q () s') :
  wpAny (model X.prog X.w) A (setItem (.ref a) u r) Q E s:=by
 rcases g with ⟨kvs,k,e,ey,l,eH⟩ | ⟨kvs,k,b,e,ey,eb,l,eH⟩
 ·subst ey eH
  obtain ⟨z,hd,vs,rel,dd⟩:=pJ I.hok e
  have hz:vs.length<=sizeLine:=by rw [← rel.length];exact z
  have hl:(putK kvs k v).length<=sizeLine:=by have:=gq kvs k v;lia
  refine wpAny_setItem_pairs (hsz:=hz) (lu ry) dd fun h' dd' hs=>h _ ?_
  have he:∃ q,h'.get? a=some q:=let ⟨q,_,_,hq,_⟩:=dd';⟨q,hq⟩
  exact lO I (by rw [e];exact True.intro) hs he (om hl hd (rel.put k rv) dd')
 ·subst ey eH
  cases (show u=Value.ref b from ry)
  obtain ⟨z,hd,xs,rel,dd⟩:=DT I.hok e
  have hz:xs.length<=sizeLine:=by rw [← Y0 rel];exact z
  have hl:(putK kvs k v).length<=sizeLine:=by have:=gq kvs k v;lia
  refine wpAny_setItem_heap (hsz:=hz) (Y4 hu) (dA I.hok eb) dd fun h' dd' hs=>h _ ?_
  obtain ⟨q,es,ep,hq,h2,h3,h4,_,h5⟩:=dd'
  refine lO I (by rw [e];exact True.intro) hs ⟨q,hq⟩ ⟨hl,hd,_,(rel.put k eb rv).keeps fun c ys ec=>?_,q,es,ep,hq,h2,h3,h4,h5⟩
  rw [aD (C2 ec e (fun z=>nomatch z))]
  exact ec
end
section
variable {X:Cx} {pins:Y7} {σ:St} {H:Hp} {s:Shared} {a:Addr} {kvs:List (Key×V)} {k:Key} {u:Value} {A:Around} {E:Z4}
theorem Da {Q:Z4} (I:Inv X pins σ H s) (e:Rd H a (.dK kvs)) (h:∀ t s',Inv X pins σ H s'->Q (.int kvs.length t) s'):wpAny (model X.prog X.w) A (call (.builtin "len") [.ref a]) Q E s:=by
 obtain ⟨z,hd,vs,rel,dd⟩:=ll I.hok e
 refine call_len_dict hd dd (by rw [← rel.length];rw [Y5] at z;lia) ?_
 rw [← rel.length]
 exact h _ _ (I.tok _)
end
theorem pU {X:Cx} {pins:Y7} {σ:St} {H:Hp} {s:Shared} {a:Addr} {y:V} {o:Option V} (I:Inv X pins σ H s) (g:gO H a y o):s.TypeIs (.ref a) "dict" := by
 rcases g with ⟨kvs,k,e,_,_⟩ | ⟨kvs,k,b,e,_,_,_⟩
 ·obtain ⟨_,_,vs,_,dd⟩:=ll I.hok e
  exact dd.typeIs
 ·obtain ⟨_,_,xs,_,dd⟩:=nc I.hok e
  exact dd.typeIs
theorem pM {P:Program} {w:World} {H:Hp} (h:Heap) (hb:sysModules < h.objs.size):bN P w H (h.push { cls:=.type "dict",data:=.dict #[] }) h.objs.size (.dK []) :=
 ⟨Yp _,ZM.mpr (Yh (ZY hb)),[],.nil,Heap.DictOf.new h⟩
noncomputable def B4:TE:=fun _ H Q=>∀ p,H p=none->Q (.ref p) (upd H p (.dK []))
section
variable {X:Cx} {pos:Pos}
theorem x6:PE X (.Dict [] [] pos) B4:=fun pins s σ H Q I h =>
 wpAny_Dict_empty ⟨.ref s.heap.objs.size,_,I.laid (a:=s.heap.objs.size) (o:=.dK []) (t':=s.toks) (fun _ _ q=>Zk _ q) (Zi _) (pM s.heap I.big),rfl,h _ (I.hok.fresh (Zi _))⟩
end
noncomputable def rn:List (TE×TE)->St->Hp->(List (V×V)->Hp->Prop)->Prop
 | [],_,H,Q=>Q [] H
 | (tk,tv) :: r,σ,H,Q=>tk σ H fun x H1=>tv σ H1 fun y H2=>rn r σ H2 fun ps H3=>Q ((x,y) :: ps) H3
noncomputable abbrev VV:List (V×V)->List (Value×Value)->Prop:=Paired fun p q=>RelV p.1 q.1/\RelV p.2 q.2
noncomputable def PPs (X:Cx) (pos:Pos) (keys:List (Option Expr)) (values:List Expr) (trs:List (TE×TE)):Prop :=
 ∀ (pins:Y7) (s:Shared) (σ:St) (H:Hp) (Q:List (V×V)->Hp->Prop),Inv X pins σ H s->rn trs σ H Q →
  wpAny (model X.prog X.w) X.A (evalPairs (pairTrees keys values X.env pos)) (fun vs s'=>∃ ps H',Inv X pins σ H' s'/\VV ps vs/\Q ps H') X.xe s
theorem yP {X:Cx} {pos:Pos}:PPs X pos [] [] []:=fun pins s σ H Q I h=>pairTrees_nil_walk ⟨[],H,I,.nil,h⟩
theorem vo {X:Cx} {pos:Pos} {k v:Expr} {ks:List (Option Expr)} {vs:List Expr} {tk tv:TE} {trs:List (TE×TE)} (hk:PE X k tk) (hv:PE X v tv) (hr:PPs X pos ks vs trs) :
  PPs X pos (some k :: ks) (v :: vs) ((tk,tv) :: trs):=fun pins s σ H Q I h =>
 pairTrees_cons_walk (thn (hk pins s σ H _ I h) fun u s1 ⟨x,H1,I1,rx,q1⟩=>thn (hv pins s1 σ H1 _ I1 q1) fun w2 s2 ⟨y,H2,I2,ry,q2⟩ =>
  thn (hr pins s2 σ H2 _ I2 q2) fun ws s3 ⟨ps,H3,I3,rel,q3⟩=>⟨(x,y) :: ps,H3,I3,.cons ⟨rx,ry⟩ rel,q3⟩)
noncomputable def mG (kvs more:List (Key×V)):List (Key×V):=more.foldl (fun acc kv=>putK acc kv.1 kv.2) kvs
theorem KV.merge:∀ {more:List (Key×V)} {rs:List (Key×Value)} {kvs:List (Key×V)} {vs:List (Key×Value)},KV more rs->KV kvs vs->KV (mG kvs more) (merged vs rs):=by
 intro more rs kvs vs r
 unfold KV at r
 induction r generalizing kvs vs with
 | nil=>intro q;exact q
 | @cons p q ps qs h t ih =>
  intro r0
  have e:KV (putK kvs p.1 p.2) (stored vs q.1 q.2):=by
   have:=r0.put p.1 h.2
   rw [← h.1];exact this
  exact ih e
theorem jg:∀ (more kvs:List (Key×V)),(mG kvs more).length<=kvs.length+more.length
 | [],kvs=>by show kvs.length<=kvs.length+0;exact YU _ _
 | p :: r,kvs=>by
  have h1:=jg r (putK kvs p.1 p.2)
  have h2:=gq kvs p.1 p.2
  show (mG (putK kvs p.1 p.2) r).length<=_
  rw [Zl];lia
theorem mq {P:Program} {w:World}:∀ {kvs:List (Key×V)} {ws:List (Value×Value)},VV (kvs.map fun kv=>(kV kv.1,kv.2)) ws->∃ rs,Carries (aJ P w) ws rs/\KV kvs rs
 | [],_,r=>by rw [List.map_nil] at r;cases r;exact ⟨[],True.intro,.nil⟩
 | p :: kvs,_,r=>by
  rw [Zn] at r
  cases r with
  | @cons a b as bs h t =>
   obtain ⟨rs,c,q⟩:=mq (P:=P) (w:=w) t
   obtain ⟨b1,b2⟩:=b
   exact ⟨(p.1,b2) :: rs,⟨lu h.1,rfl,c⟩,.cons ⟨rfl,h.2⟩ q⟩
noncomputable def Dn (trs:List (TE×TE)):TE:=fun σ H Q=>∀ p,H p=none->rn trs σ (upd H p (.dK [])) fun ps H2=>H2 p=some (.dK [])/\∃ kvs:List (Key×V),ps=kvs.map (fun kv=>(kV kv.1,kv.2))/\kvs.length<=15/\Q (.ref p) (upd H2 p (.dK (mG [] kvs)))
theorem yw {X:Cx} {pos:Pos} {keys:List (Option Expr)} {values:List Expr} {trs:List (TE×TE)} (h:PPs X pos keys values trs) (hall:keys.all (·.isSome)=true) (hl:keys.length=values.length) (h0:keys ≠ [])
  (h15:keys.length<=15):PE X (.Dict keys values pos) (Dn trs):=by
 intro pins s σ H Q I q
 have hn:=I.hok.fresh (Zi s.heap.objs.size)
 have I1:=I.laid (a:=s.heap.objs.size) (o:=.dK []) (h':=s.heap.push { cls:=.type "dict",data:=.dict #[] }) (t':=s.toks) (fun _ _ q=>Zk _ q) (Zi _) (pM s.heap I.big)
 refine wpAny_Dict_walk (knd:=aJ X.prog X.w) hall hl h0 h15 (thn (h pins _ σ _ _ I1 (q _ hn)) fun ws s2 ⟨ps,H2,I2,rel,e,kvs,ep,lk,q2⟩=>?_)
 subst ep
 obtain ⟨rs,c,rk⟩:=mq (P:=X.prog) (w:=X.w) rel
 obtain ⟨z,hd,vs0,r0,dd⟩:=pJ I2.hok e
 cases r0
 refine ⟨rs,c,dd,fun h' dd' hs=>⟨.ref s.heap.objs.size,_,?_,rfl,q2⟩⟩
 have hz:(mG [] kvs).length<=sizeLine:=by
  have h1:=jg kvs []
  rw [List.length_nil] at h1
  rw [Y5];lia
 have he:∃ q,h'.get? s.heap.objs.size=some q:=let ⟨q,_,_,hq,_⟩:=dd';⟨q,hq⟩
 exact lO I2 (by rw [e];exact True.intro) hs he (om hz hd (rk.merge .nil) dd')
structure M1 (X:Cx) (o:Expr) (m:Str) (apos:Pos) (e:Expr) (cpos:Pos):Prop where
 base:attributeBase o m X.env (eval o X.env)=eval o X.env
 few:((backTo cpos (starEach [e] X.env)).all (fun x=>!x.1) && (backToKw cpos (keywordEach [] X.env)).all (fun x=>x.1.isSome)
  && decide (([e]:List Expr).length+([]:List Keyword).length+(if ([]:List Keyword).isEmpty then 0 else 1) < 30))=true
 line:(apos.endLine == cpos.line)=true
 trees:backTo cpos (starEach [e] X.env)=[(false,eval e X.env)]
noncomputable def IsD (H:Hp) (a:Addr):Prop:=(∃ kvs,Rd H a (.dK kvs))\/∃ kvs,Rd H a (.dT kvs)
theorem Cg {X:Cx} {pins:Y7} {σ:St} {H:Hp} {s:Shared} {a:Addr} (I:Inv X pins σ H s) (d:IsD H a) :
  s.TypeIs (.ref a) "dict" ∧ (∀ b,Value.ref a=.ref b->∃ ob,s.heap.get? b=some ob/\ob.dict=none)/\(a == sysModules)=false:=by
 rcases d with ⟨kvs,e⟩ | ⟨kvs,e⟩
 ·obtain ⟨_,hd,vs,_,dd⟩:=ll I.hok e
  refine ⟨dd.typeIs,fun b q=>?_,hd⟩
  cases q
  obtain ⟨ob,_,_,h1,h2,_⟩:=dd
  exact ⟨ob,h1,h2.2.1⟩
 ·obtain ⟨_,hd,xs,_,dd⟩:=nc I.hok e
  refine ⟨dd.typeIs,fun b q=>?_,hd⟩
  cases q
  obtain ⟨ob,_,_,h1,h2,_⟩:=dd
  exact ⟨ob,h1,h2.2.1⟩
section
variable {X:Cx} {pins:Y7} {σ:St} {H:Hp} {s:Shared} {a:Addr} {y d:V} {u r:Value} {o:Option V} {A:Around} {E:Z4}
theorem Cn {Q:Z4} (hu:A.units+1 < cLine) (I:Inv X pins σ H s) (g:gO H a y o) (ry:RelV y u) (h:∀ w' s',Inv X pins σ H s'->RelV (o.getD .non) w'->Q w' s') :
  wpAny (model X.prog X.w) A (call (.builtin "dict.get") [.ref a,u]) Q E s:=by
 rcases g with ⟨kvs,k,e,ey,l⟩ | ⟨kvs,k,b,e,ey,eb,l⟩
 ·subst ey
  obtain ⟨z,hd,vs,rel,dd⟩:=ll I.hok e
  refine call_meetsIn Xb dd.typeIs PySem.F.entry_dict_get (PySem.F.args_dict_get_2 _ _) (meets_dict_get (aJ X.prog X.w) a (lu ry) hd) ⟨_,dd.mapOf,h _ _ (I.tok _) ?_⟩
  rw [l]
  exact (rel.val k).getD rfl
 ·subst ey
  cases (show u=Value.ref b from ry)
  obtain ⟨z,hd,xs,rel,dd⟩:=nc I.hok e
  refine call_meetsIn Xb dd.typeIs PySem.F.entry_dict_get (PySem.F.args_dict_get_2 _ _) (meetsH_dict_get (tupleKind (aJ X.prog X.w)) a b hd) ⟨Y4 hu,k,xs,dA I.hok eb,dd,h _ _ (I.tok _) ?_⟩
  rw [l]
  exact (rel.val k).getD rfl
end
noncomputable def Bm (td ty:TE):TE:=fun σ H Q=>td σ H fun x H1=>∃ a,x=.ref a/\IsD H1 a/\ty σ H1 fun y H2=>∃ o,gO H2 a y o/\Q (o.getD .non) H2
section
variable {X:Cx} {o e f:Expr} {apos cpos:Pos} {td ty tx:TE}
theorem xB (hu:X.A.units+1 < cLine) (ho:PE X o td) (he:PE X e ty) (m:M1 X o "get" apos e cpos):PE X (.Call (.Attribute o "get" apos) [e] [] cpos) (Bm td ty):=by
 intro pins s σ H Q I h
 refine wpAny_Call_method m.base m.few m.line PySem.F.plainAttrs_dict Xb PySem.F.type_dict_get (thn (ho pins s σ H _ I h) fun u s1 ⟨x,H1,I1,rx,a,ex,d,q1⟩=>?_)
 subst ex
 obtain rfl:u=Value.ref a:=rx
 obtain ⟨t1,t2,_⟩:=Cg I1 d
 refine ⟨t1,t2,?_⟩
 rw [m.trees]
 refine Calls.callWith_builtin rfl (Calls.evalArgs_plain (Calls.spliced_cons (thn (he pins s1 σ H1 _ I1 q1) fun iv s2 ⟨y,H2,I2,ry,ov,g,q2⟩=>Calls.spliced_nil ?_)))
 exact Cn hu I2 g ry fun w' s3 I3 rw'=>⟨_,H2,I3,rw',q2⟩
end
end L2
namespace Att
open PySem PySem.W PySem.Calls PyProof.Rows
theorem lH {P:Params} {h:Heap}:∀ (ns:Wv) (vs:Wy),WellAll P h vs (ns.map WData.int)->IntsAre vs ns:=by
 intro ns
 induction ns with
 | nil =>
  intro vs w
  rw [List.map_nil] at w
  cases w
  exact .nil
 | cons n ns ih =>
  intro vs w
  rw [Zn] at w
  cases w with
  | cons a b =>
   cases a
   exact .cons _ _ (ih _ b)
theorem u6 {l:OpenLaw} {n:Nat} (hn:l.most=some n) {P:Params} {h:Heap} {args:List WData} {vals:Wy}
  (hpre:l.row.toRowW.claim.pre args=true) (hwl:WellAll P h vals args) :
  ∃ a vs ns,vals=[Value.ref a]/\args=[WData.list (ns.map WData.int)]/\h.get? a=some { cls:=.type "list",data:=.seq vs.toArray }/\IntsAre vs ns/\ns.length<=n:=by
 have hsh:WShape.hasAll [] args [.list .int]=true:=(pre_splitW hpre).1
 have hc:l.pre.holds [] { args:=args }=true:=(pre_splitW hpre).2
 obtain ⟨d,r,rfl,h1,h2⟩:=hasAllW_cons hsh
 obtain rfl:=hasAllW_nil h2
 obtain ⟨xs,rfl,h3⟩:=hasW_list h1
 obtain ⟨ns,rfl⟩:=items_int h3
 have hlen:ns.length<=n:=by
  unfold OpenLaw.pre at hc
  have h4:(WTm.not (.lt (.lit (.int (n:Int))) (.len (.arg 0)))).holds [] { args:=[.list (ns.map .int)] }=true:=by
   have h4:=(holds_andW hc).1
   rw [hn] at h4
   exact h4
  have h5:=condW_of h4 (w_not (w_lt w_lit (w_len_list (w_arg rfl))))
  rw [Zw] at h5
  refine ZL fun q=>?_
  have q':(n:Int) < ((ns.length:Nat):Int):=by omega
  first
   | (rw [decide_eq_true q'] at h5;exact absurd h5 (by decide))
   | (simp at h5;omega)
 cases hwl with
 | cons w1 w2 =>
  cases w2
  cases w1 with
  | list ho hall=>exact ⟨_,_,ns,rfl,rfl,ho,lH ns _ hall,hlen⟩
theorem ui (l:OpenLaw) (args:List WData):l.row.toRowW.claim.post args (.bool true) args=true :=
 postW_of (r:=l.row.toRowW) (X:=(true == true))
  (show WShape.has [] (.bool true) .bool=true by first | rfl | decide | simp [WShape.has,WShape.arms,WShape.armsAll])
  (show (WTm.eq .res (.lit (.bool true))).value [] { args:=args,res:=some (.bool true),after:=args }=some (.bool (true == true)) from w_eq_bool (w_res rfl) w_lit) rfl
theorem pV {l:OpenLaw} {n:Nat} {q:Program} {loose:List Str} {XP:(X9)->Heap->Prop} {YP:World->Heap->Prop} {d:DefRec}
  (hn:l.most=some n) (hdf:d.params.defaults=[])
  (call:∀ (w:World) (s₀ s₁:Shared) (mg mb:X9) (fa:Addr) (o:Obj) (pm cd doc:Value) (a:Addr) (vs:Wy) (ns:Wv),
   Ground q loose [] XP w s₀ mg mb s₁.heap->YP w s₁.heap →
   s₁.heap.get? fa=some o->o.data=.func (docDef d.name d.params d.body d.scope pm cd doc)->s₁.heap.CodeRec cd d.name->mg d.name=some (.ref fa) →
   s₁.heap.get? a=some { cls:=.type "list",data:=.seq vs.toArray }->IntsAre vs ns->ns.length<=n->s₁.gens=#[] →
   codeAny (model l.prog w) callerA (.call (.ref fa) ⟨[.ref a],[]⟩) (fun r s'=>r=.ok (.ret (.bool true))/\OldK s₁.heap s'.heap/\s'.os=s₁.os/\AllBare s'.gens) s₁) :
  WalkO q loose XP YP l.row.toRowW d [] (fun f vs=>PySem.call f vs):=by
 intro w s₀ s₁ mg mb G Y fa o pm cd doc dV kV ho hd hcd hD hmg hg args vals as hpre hlay hrd hwl hlo
 obtain rfl:dV=.none:=Dflts.none hD hdf
 obtain rfl:kV=.none:=Dflts.noKw hD
 obtain ⟨a,vs,ns,rfl,rfl,hobj,hints,hlen⟩:=u6 hn hpre hwl
 refine enter_call (codeAny_mono (call w s₀ s₁ mg mb fa o pm cd doc a vs ns G Y ho (fd_plain hd) hcd hmg hobj hints hlen hg) fun r s' hq=>?_)
 obtain ⟨rfl,h2,h3,h4⟩:=hq
 exact ⟨.inl ⟨.bool true,.bool true,[],rfl,fun _=>rfl,.bool true,ui l _,fun _=>⟨List.Pairwise.nil,fun _ hm=>(nomatch hm)⟩⟩,h2,h3,h4⟩
end Att
namespace L2
open PySem PySem.Spec PyProof.Rows
theorem nH:∀ {vs:Wy} {ns:Wv},IntsAre vs ns->aN (ns.map V.int) vs
 | _,_,.nil=>.nil
 | _,_,.cons n t h=>.cons ⟨t,rfl⟩ (nH h)
noncomputable def xO (H:Hp):Prop:=∀ b,H b=none\/∃ o xs,H b=some (.frz o (.lst xs))
theorem vU {P:Program} {w:World} {K:X8} {mg mb:X9} {CX:CXT} {k:Nat} {fa a:Addr} {fd:FuncData} {x:Str} {sp:Sp} {s₁:Shared} {vs:Wy} {ns:Wv}
  (KX:K.In s₁.heap) (hns:s₁.heap.Ns mainGlobals mg) (hb:s₁.heap.Ns builtinsNs mb) (hbb:∀ x:Str,x ≠ "__name__" → mb x=bootBuiltins x) (hlim:s₁.heap.NoLimit) (hg:s₁.gens=#[])
  (ha:s₁.heap.get? a=some { cls:=.type "list",data:=.seq vs.toArray }) (hi:IntsAre vs ns) (hl:ns.length<=sizeLine) (hr:Room k callerA)
  (F:∀ base:Heap,K.In base->base.Ns mainGlobals mg->FnOk P w K mg base CX k fa fd [x] sp) (hbind:∀ (s:Shared) (u:Value),BindsTo s fd ⟨[u],[]⟩ [(x,u)])
  (hsp:∀ H:Hp,xO H->SqL K H a (ns.map V.int)->sp [.ref a] H (fun v _=>v=.bl true) fun _ _ _=>False)
  (hCX:∀ H e s',CX [] H s₁ (fun _ _ _=>False) e s'->False) :
  codeAny (model P w) callerA (.call (.ref fa) ⟨[.ref a],[]⟩) (fun r s'=>r=.ok (.ret (.bool true))/\OldK s₁.heap s'.heap/\s'.os=s₁.os/\AllBare s'.gens) s₁:=by
 have rv:=nH hi
 have lenV:=hi.length
 have core:∀ H:Hp,xO H->SqL K H a (ns.map V.int)->HOk P w H s₁.heap->(∀ b,H b ≠ none->b=a)->(H a ≠ none->K.lookup a=none) →
   codeAny (model P w) callerA (.call (.ref fa) ⟨[.ref a],[]⟩) (fun r s'=>r=.ok (.ret (.bool true))/\OldK s₁.heap s'.heap/\s'.os=s₁.os/\AllBare s'.gens) s₁:=by
  intro H hO hS hok hA hK
  have base_of:∀ {b:Addr} {o:Obj},s₁.heap.get? b=some o->H b=none->(oE s₁.heap H).get? b=some o:=fun e n=>vL e n
  have noA:∀ {b:Addr} {o:Obj} {es:Array DictEntry} {ep:Nat},s₁.heap.get? b=some o->o.data=.dict es ep->H b=none:=fun {b o es ep} e d=>by
   cases q:H b with
   | none=>rfl
   | some u =>
    have e':b=a:=hA b (by rw [q];simp)
    subst e'
    rw [ha] at e;cases e
    have d':Data.seq vs.toArray _=Data.dict es ep:=d
    cases d'
  have nsK:∀ {b:Addr} {m:X9},s₁.heap.Ns b m->(oE s₁.heap H).Ns b m:=fun {b m} ⟨o,es,ep,e,d,r⟩=>⟨o,es,ep,base_of e (noA e d),d,r⟩
  have hKb:K.In (oE s₁.heap H):=fun b o e=>base_of (KX b o e) (by
   cases q:H b with
   | none=>rfl
   | some u =>
    have e':b=a:=hA b (by rw [q];simp)
    subst e'
    rw [hK (by rw [q];simp)] at e;cases e)
  have hM:Mod K mg (oE s₁.heap H):=⟨hKb,nsK hns,⟨mb,nsK hb,hbb⟩,let ⟨mc,h1,h2⟩:=hlim;⟨mc,nsK h1,h2⟩⟩
  have e0:Env0 P w K mg (oE s₁.heap H) callerA [] s₁ H:=⟨rfl,hM,fun b o e=>Ab e,XC (uC _ _),trivial,fun b hb=>absurd (show b∈([]:Wz) from hb) (by simp),hok,.of_eq hg⟩
  refine codeAny_mono ((F _ hKb (nsK hns)).run callerA [] s₁ H ⟨[.ref a],[]⟩ [.ref a] [.ref a] _ _ hr e0 (hbind s₁ (.ref a)) (.cons rfl .nil) (hsp H hO hS)) fun r s' h=>?_
  cases r with
  | error e=>exact (hCX H e s' h).elim
  | ok fl =>
   cases fl with
   | next=>exact False.elim h
   | brk=>exact False.elim h
   | cont=>exact False.elim h
   | ret u =>
    obtain ⟨v,H',os,bare,un,hok',r',q⟩:=h
    have q':v=.bl true:=q
    subst q'
    obtain rfl:u=Value.bool true:=r'
    refine ⟨rfl,OldK.of_keep fun b o e=>?_,os,bare⟩
    cases q:H b with
    | none=>exact un.keep b o e q (by intro z;exact absurd (show b∈([]:Wz) from z) (by simp)) (by simp)
    | some u =>
     rcases hO b with z | ⟨ob,xs,z⟩
     ·rw [q] at z;cases z
     ·have z2:=un.frzs b ob _ z
      obtain ⟨e1,_⟩:=hok b _ z
      obtain ⟨e2,_⟩:=hok' b _ z2
      rw [e] at e1;cases e1
      exact e2
 cases hk:K.lookup a with
 | some o =>
  have e:=KX a o hk
  rw [ha] at e
  cases e
  refine core (fun _=>none) (fun _=>.inl rfl) (.inr ⟨_,vs.toArray,_,hk,rfl,rfl,rfl,by rw [ZX,lenV];exact hl,by simpa using rv⟩) (fun b u z=>by have z':(none:Option HO)=some u:=z;cases z') (fun b z=>absurd rfl z) fun z=>absurd rfl z
 | none =>
  refine core (fun b=>if b=a then some (.frz { cls:=.type "list",data:=.seq vs.toArray } (.lst (ns.map V.int))) else none) (fun b=>?_) (.inl (.inr ⟨{ cls:=.type "list",data:=.seq vs.toArray },Zp rfl⟩)) (fun b u z=>?_) (fun b z=>?_) fun _=>hk
  ·by_cases hb:b=a
   ·exact .inr ⟨_,_,Zp hb⟩
   ·exact .inl (Zo hb)
  ·by_cases hb:b=a
   ·have z':=(Zp hb).symm.trans z
    cases z'
    subst hb
    exact ⟨ha,by rw [Zw];exact hl,vs,_,rv,ha⟩
   ·have z':=(Zo hb).symm.trans z
    cases z'
  ·by_cases hb:b=a
   ·exact hb
   ·exact absurd (Zo hb) z
theorem zA {l:PySem.W.OpenLaw} {n k:Nat} {q:Program} {loose:List Str} {XP:(X9)->Heap->Prop} {YP:World->Heap->Prop} {d:DefRec} {K:Params->X8} {CX:World->CXT} {sp:World->Sp} {x:Str}
  (hn:l.most=some n) (hn2:n<=sizeLine) (hdf:d.params.defaults=[]) (hr:Room k callerA)
  (hY:∀ (w:World) (h:Heap),YP w h->(K w.params).In h)
  (F:∀ (w:World) (mg:X9) (fa:Addr) (h:Heap),(K w.params).In h->h.Ns mainGlobals mg->mg d.name=some (.ref fa) →
   ∃ fd:FuncData,(∀ (s:Shared) (u:Value),BindsTo s fd ⟨[u],[]⟩ [(x,u)]) ∧
    ∀ base:Heap,(K w.params).In base->base.Ns mainGlobals mg->FnOk l.prog w (K w.params) mg base (CX w) k fa fd [x] (sp w))
  (hsp:∀ (w:World) (H:Hp) (a:Addr) (ns:Wv),ns.length<=n->xO H->SqL (K w.params) H a (ns.map V.int)->sp w [.ref a] H (fun v _=>v=.bl true) fun _ _ _=>False)
  (hCX:∀ (w:World) (H:Hp) (s:Shared) (e:Value) (s':Shared),CX w [] H s (fun _ _ _=>False) e s'->False) :
  PySem.W.WalkO q loose XP YP l.row.toRowW d [] (fun f vs=>PySem.call f vs):=by
 refine Att.pV hn hdf fun w s₀ s₁ mg mb fa o pm cd doc a vs ns G Y ho hd hcd hmg hobj hints hlen hg=>?_
 have KX:=hY w _ Y
 obtain ⟨fd,hb,hF⟩:=F w mg fa _ KX G.T.g hmg
 exact vU KX G.T.g G.T.b G.T.builtins G.T.nolimit hg hobj hints (ZI hlen hn2) hr hF hb (fun H hO hS=>hsp w H a ns hlen hO hS) fun H e s'=>hCX w H s₁ e s'
noncomputable def inClass (s:Stmt) (j:Nat):Stmt:=match s with
 | .ClassDef _ _ _ body _ _ _ _ _ _ _=>body.getD j (.Pass ⟨0,0,0,0⟩)
 | _=>.Pass ⟨0,0,0,0⟩
noncomputable def cF (s:Stmt):Arguments:=match s with
 | .FunctionDef _ a _ _ _ _ _ _ _ _=>a
 | _=>{ posonlyargs:=[],args:=[],vararg:=none,kwonlyargs:=[],kw_defaults:=[],kwarg:=none,defaults:=[] }
noncomputable def aQ (s:Stmt):List Stmt:=match s with
 | .FunctionDef _ _ b _ _ _ _ _ _ _=>b
 | _=>[]
noncomputable def ah (s:Stmt):Scope:=match s with
 | .FunctionDef _ _ _ _ _ _ sc _ _ _=>sc
 | _=>{ kind:=.function,names:=[],isGenerator:=false,isCoroutine:=false }
noncomputable abbrev CX0:CXT:=fun _ _ _ _ _ _=>False
noncomputable abbrev E0:XK:=fun _ _ _=>False
theorem jc {X:Cx}:iS CX0 X E0:=fun _ _ _ _ _ _ _ h=>h.elim
structure Fun (K:X8) (x qual:Str) (st:Stmt) (f:Addr) (fd:FuncData):Prop where
 ex:∃ (oc:Value) (od:Option Addr) (kV doc pm:Value) (an:Option Addr) (cdv ct:Value) (osl:Array (Wx)),
  fd=PySem.W.fnOf x qual (cF st) (aQ st) (ah st) .none kV doc pm an cdv ct/\K.lookup f=some ⟨oc,od,.func fd,osl⟩/\PySem.W.codeIn K cdv qual=true
 kp:PySem.W.keepIn K (.ref f)=true
section
variable {P:Program} {w:World} {K:X8} {mg:X9} {base:Heap}
theorem Fun.ok {x qual:Str} {st:Stmt} {f:Addr} {fd:FuncData} {N ps:List Str} {k:Nat} {sp:Sp} (F:Fun K x qual st f fd) (S:FnScope N ps (ah st)) (len:∀ vs H Q E,sp vs H Q E->vs.length=ps.length)
  (hbody:∀ (cdv:Value) (A:Around) (outer:List Env) (s:Shared) (H:Hp) (vs:List V) (Q:VK) (E:XK),Room k (A.deeper (envOfC qual (ah st) s.heap.objs.size f cdv))->sp vs H Q E →
   ∃ t,PSs (il CX0 P w K mg base N qual (ah st) f cdv A outer s H E).nox (aQ st) t/\t { nx:=fun _ H'=>Q .non H',rt:=Q } (start N vs) H):FnOk P w K mg base CX0 (k+1) f fd ps sp:=by
 obtain ⟨oc,od,kV,doc,pm,an,cdv,ct,osl,rfl,lk,hcd⟩:=F.ex
 refine An lk hcd S len fun A outer s H vs Q E hr hsp=>?_
 obtain ⟨t,h,q⟩:=hbody cdv A outer s H vs Q E hr hsp
 exact ⟨t,h.nox,q⟩
theorem Fun.binds {x qual:Str} {st:Stmt} {f:Addr} {fd:FuncData} {ps:List Str} (F:Fun K x qual st f fd)
  (h:∀ (kV doc pm:Value) (an:Option Addr) (cdv ct:Value) (us:Wy),us.length=ps.length->bindArgs (PySem.W.fnOf x qual (cF st) (aQ st) (ah st) .none kV doc pm an cdv ct) ⟨us,[]⟩=pure (ps.zip us)):Binds K fd ps []:=by
 obtain ⟨oc,od,kV,doc,pm,an,cdv,ct,osl,rfl,lk,hcd⟩:=F.ex
 exact .all (h kV doc pm an cdv ct)
theorem ye {x qual:Str} {st:Stmt} {f:Addr} {oc:Value} {od an:Option Addr} {osl:Array (Wx)} {kV doc pm cdv ct:Value} (l:K.lookup f=some ⟨oc,od,.func (PySem.W.fnOf x qual (cF st) (aQ st) (ah st) .none kV doc pm an cdv ct),osl⟩)
  (c:PySem.W.codeIn K cdv qual=true) (k:PySem.W.keepIn K (.ref f)=true):Fun K x qual st f (PySem.W.fnOf x qual (cF st) (aQ st) (ah st) .none kV doc pm an cdv ct):=⟨⟨oc,od,kV,doc,pm,an,cdv,ct,osl,rfl,l,c⟩,k⟩
end
theorem kh {A:Around} {k:Nat} (hr:Room k A):A.units+1 < cLine:=XM (Nat.add_le_add_left (by decide:1<=64) _) hr.units
theorem uv {A B:Prop} (h:B):if false=true then A else B:=by
 rw [Zo Zg]
 exact h
theorem uG {A B:Prop} (h:A):if true=true then A else B:=by
 rw [Zp rfl]
 exact h
noncomputable def aG (H H':Hp):Prop:=∀ b o,H b=some o->H' b=some o
theorem aG.refl (H:Hp):aG H H:=fun _ _ h=>h
theorem aG.trans {H H1 H2:Hp} (a:aG H H1) (b:aG H1 H2):aG H H2:=fun c o h=>b c o (a c o h)
theorem aG.free {H H':Hp} (e:aG H H') {l:Addr} (h:H' l=Option.none):H l=Option.none:=by
 cases q:H l with
 | none=>rfl
 | some o =>
  rw [e l o q] at h
  cases h
end L2
end
section
namespace L2
open PySem PySem.Spec PyProof.Rows
noncomputable abbrev nk:=List (Wv)
noncomputable def hN (k:nk):Int:=reduceHash (Builtin.Tuple.tupleHashOf (k.map fun x=>reduceHash (Builtin.Tuple.tupleHashOf (x.map hashInt))))
noncomputable def Ee (x:nk×Addr×Value):DictEntry:=⟨hN x.1,.ref x.2.1,x.2.2⟩
noncomputable abbrev KN:List (nk×Addr×V)->List (nk×Addr×Value)->Prop:=Paired fun p q=>p.1=q.1/\p.2.1=q.2.1/\RelV p.2.2 q.2.2
noncomputable def DN (a:Addr) (kvs:List (nk×Addr×V)):HO:=.ext fun h=>kvs.length<=sizeLine/\(a == sysModules)=false/\∃ xs:List (nk×Addr×Value),KN kvs xs ∧
 ∃ o es ep,h.get? a=some o/\o.ExactDict/\o.data=.dict es ep/\es.toList=xs.map Ee/\(xs.map (·.1)).Nodup
noncomputable def NAt (H:Hp) (k:nk) (b:Addr):Prop:=∃ cs:Wz,H b=some (.tup (cs.map V.ref))/\Paired (fun (x:Wv) (c:Addr)=>H c=some (.tup (x.map V.int))) k cs
theorem NAt.mono {H H':Hp} {k:nk} {b:Addr} (x:NAt H k b) (t:∀ a xs,H a=some (.tup xs)->H' a=some (.tup xs)):NAt H' k b:=by
 obtain ⟨cs,h,r⟩:=x
 exact ⟨cs,t _ _ h,Paired.mapP r fun _ _ z=>t _ _ z⟩
end L2
end
section
namespace VS
open PySem PySem.Spec PyProof.Rows L2
noncomputable def sx (s:Tx):Str:=⟨s.toArray⟩
noncomputable def oq (s:Tx):Prop:=s.length<=fg/\∀ c∈s,c < 1114112
noncomputable abbrev Me:=Nat->Option V
structure Gx where
 K:X8
 ct:Nat->Addr×(Nat->Str)
 me:Me:=fun _=>none
noncomputable def Gx.at (G:Gx) (m:Me):Gx:=⟨G.K,G.ct,m⟩
noncomputable def aO:Key->T
 | .inl i=>.int i
 | .inr x=>.str x.cps.toList
noncomputable def nkT (k:nk):T:=.tup (k.map fun x=>T.tup (x.map T.int))
noncomputable def k9 (K:X8) (H:Hp) (a:Addr) (ns:Wv):Prop :=
 (∃ o,H a=some (.frz o (.lst (ns.map V.int)))) ∨
  ∃ (o:Obj) (its:Array Value) (n:Nat),K.lookup a=some o/\o.cls=.type "list" ∧ o.dict=none/\o.data=.seq its n/\its.size<=sizeLine/\aN (ns.map V.int) its.toList
mutual
inductive Rp (G:Gx) (H:Hp):V->T->Wz->Prop
 | non:Rp G H .non .non []
 | bl (b:Bool):Rp G H (.bl b) (.bl b) []
 | int (i:Int):Rp G H (.int i) (.int i) []
 | str (s:Tx):oq s->Rp G H (.str (sx s)) (.str s) []
 | scr {a:Addr} {ns:Wv}:k9 G.K H a ns->Rp G H (.ref a) (.scr ns) []
 | tup {a:Addr} {vs:List V} {ts:Wq} {Fs:Xk}:H a=some (.tup vs)->RpL G H vs ts Fs->Rp G H (.ref a) (.tup ts) Fs.flatten
 | lst {a:Addr} {vs:List V} {ts:Wq} {Fs:Xk}:H a=some (.lst vs)->RpL G H vs ts Fs->Rp G H (.ref a) (.lst ts) (a :: Fs.flatten)
 | dct {a:Addr} {ks:List Key} {vs:List V} {ts:Wq} {Fs:Xk}:H a=some (.dK (ks.zip vs))->ks.length=vs.length->RpL G H vs ts Fs->Rp G H (.ref a) (.dct 0 ((ks.map aO).zip ts)) (a :: Fs.flatten)
 | dctT {a:Addr} {ks:List (List Key)} {vs:List V} {ts:Wq} {Fs:Xk}:H a=some (.dT (ks.zip vs))->ks.length=vs.length->RpL G H vs ts Fs->Rp G H (.ref a) (.dct 1 ((ks.map fun k=>T.tup (k.map aO)).zip ts)) (a :: Fs.flatten)
 | dctN {a:Addr} {ks:List (nk×Addr)} {vs:List V} {ts:Wq} {Fs:Xk}:H a=some (DN a ((ks.zip vs).map fun p=>(p.1.1,p.1.2,p.2)))->ks.length=vs.length->(∀ p∈ks,NAt H p.1 p.2)->RpL G H vs ts Fs->Rp G H (.ref a) (.dct 2 ((ks.map fun p=>nkT p.1).zip ts)) (a :: Fs.flatten)
 | dctZ {a:Addr} {o:Obj} {ks:List Key} {vs:List V} {ts:Wq} {Fs:Xk}:H a=some (.frz o (.dK (ks.zip vs)))->ks.length=vs.length->RpL G H vs ts Fs->Rp G H (.ref a) (.dct 3 ((ks.map aO).zip ts)) Fs.flatten
 | exc {c:Nat} {a:Addr} {o:Obj}:H a=some (.frz o (.own a))->(o.cls=.ref (G.ct c).1/\o.dict=none/\∃ vs,o.data=.fields vs)->Rp G H (.ref a) (.obj c []) []
 | ins {c:Nat} {a dx:Addr} {b:Bool} {ks:Ww} {vs:List V} {ts:Wq} {Fs:Xk}:H a=some (.ins (G.ct (c+1)).1 dx ((ks.map (G.ct (c+1)).2).zip vs))->ks.length=vs.length->(b=true->G.me 0=some (.ref a))->RpL G H vs ts Fs->Rp G H (.ref a) (.obj (c+1) ((0,.bl b) :: ks.zip ts)) (a :: Fs.flatten)
 | mk {m:Nat} {a:Addr} {t:T} {F:Wz}:G.me m=some (.ref a)->Rp G H (.ref a) t F->Rp G H (.ref a) (.obj 0 [(0,.bl true),(m,t)]) F
inductive RpL (G:Gx) (H:Hp):List V->Wq->Xk->Prop
 | nil:RpL G H [] [] []
 | cons {v:V} {t:T} {F:Wz} {vs:List V} {ts:Wq} {Fs:Xk}:Rp G H v t F->RpL G H vs ts Fs->RpL G H (v :: vs) (t :: ts) (F :: Fs)
end
structure Kept (H H':Hp):Prop where
 tup:∀ a xs,H a=some (.tup xs)->H' a=some (.tup xs)
 frz:∀ a o u,H a=some (.frz o u)->H' a=some (.frz o u)
theorem Kept.refl (H:Hp):Kept H H:=⟨fun _ _ h=>h,fun _ _ _ h=>h⟩
theorem Kept.trans {H H1 H2:Hp} (a:Kept H H1) (b:Kept H1 H2):Kept H H2:=⟨fun c x h=>b.tup c x (a.tup c x h),fun c o u h=>b.frz c o u (a.frz c o u h)⟩
theorem Kept.of {H H':Hp} (e:aG H H'):Kept H H':=⟨fun a _ h=>e a _ h,fun a _ _ h=>e a _ h⟩
theorem Kept.upd {H:Hp} {a:Addr} {o:HO} (mu:Mut (H a)\/H a=none):Kept H (upd H a o):=by
 have ne:∀ b u,H b=some u->¬ Mut (some u)->b ≠ a:=fun b u h nm e=>by
  subst e
  rcases mu with m | m
  ·rw [h] at m;exact nm m
  ·rw [h] at m;cases m
 exact ⟨fun b xs h=>by rw [aD (ne b _ h fun z=>z)];exact h,fun b o u h=>by rw [aD (ne b _ h fun z=>z)];exact h⟩
theorem k9.kept {K:X8} {H H':Hp} {a:Addr} {ns:Wv} (h:k9 K H a ns) (k:Kept H H'):k9 K H' a ns:=by
 rcases h with ⟨o,e⟩ | h
 ·exact .inl ⟨o,k.frz _ _ _ e⟩
 ·exact .inr h
theorem k9.seq {K:X8} {H:Hp} {a:Addr} {ns:Wv} (h:k9 K H a ns):SqL K H a (ns.map V.int):=by
 rcases h with ⟨o,e⟩ | h
 ·exact .inl (.inr ⟨o,e⟩)
 ·exact .inr h
theorem pL {H H':Hp} {a:Addr} {F:Wz} (f:∀ b∈a :: F,∀ o,H b=some o->H' b=some o):∀ b∈F,∀ o,H b=some o->H' b=some o:=fun b m=>f b (Zu _ m)
theorem sq {H H':Hp} {F:Wz} {Fs:Xk} (f:∀ b∈(F :: Fs).flatten,∀ o,H b=some o->H' b=some o):(∀ b∈F,∀ o,H b=some o->H' b=some o)/\∀ b∈Fs.flatten,∀ o,H b=some o->H' b=some o:=by
 rw [ZP] at f
 exact ⟨fun b m=>f b (Yo _ m),fun b m=>f b (ZK _ m)⟩
theorem Rp.keep {G:Gx} {H H':Hp} (k:Kept H H') {v:V} {t:T} {F:Wz} (r:Rp G H v t F):(∀ a∈F,∀ o,H a=some o->H' a=some o)->Rp G H' v t F :=
 Rp.rec (motive_1:=fun v t F _=>(∀ a∈F,∀ o,H a=some o->H' a=some o)->Rp G H' v t F) (motive_2:=fun vs ts Fs _=>(∀ a∈Fs.flatten,∀ o,H a=some o->H' a=some o)->RpL G H' vs ts Fs)
  (fun _=>.non) (fun b _=>.bl b) (fun i _=>.int i) (fun s h _=>.str s h) (fun h _=>.scr (h.kept k)) (fun h _ ih f=>.tup (k.tup _ _ h) (ih f)) (fun h _ ih f=>.lst (f _ Zt _ h) (ih (pL f))) (fun h l _ ih f=>.dct (f _ Zt _ h) l (ih (pL f))) (fun h l _ ih f=>.dctT (f _ Zt _ h) l (ih (pL f)))
  (fun h l n _ ih f=>.dctN (f _ Zt _ h) l (fun p m=>(n p m).mono k.tup) (ih (pL f))) (fun h l _ ih f=>.dctZ (k.frz _ _ _ h) l (ih f)) (fun h hc _=>.exc (k.frz _ _ _ h) hc) (fun h l m _ ih f=>.ins (f _ Zt _ h) l m (ih (pL f))) (fun h _ ih f=>.mk h (ih f)) (fun _=>.nil) (fun _ _ i1 i2 f=>.cons (i1 (sq f).1) (i2 (sq f).2)) r
theorem RpL.keep {G:Gx} {H H':Hp} (k:Kept H H'):∀ {vs:List V} {ts:Wq} {Fs:Xk},RpL G H vs ts Fs->(∀ a∈Fs.flatten,∀ o,H a=some o->H' a=some o)->RpL G H' vs ts Fs
 | _,_,_,.nil,_=>.nil
 | _,_,_,.cons r q,f=>.cons (r.keep k (sq f).1) (RpL.keep k q (sq f).2)
theorem Rp.same {G:Gx} {H H':Hp} (e:aG H H') {v:V} {t:T} {F:Wz} (r:Rp G H v t F):Rp G H' v t F:=r.keep (Kept.of e) fun a _ o h=>e a o h
theorem RpL.same {G:Gx} {H H':Hp} (e:aG H H') {v:List V} {t:Wq} {F:Xk} (r:RpL G H v t F):RpL G H' v t F:=r.keep (Kept.of e) fun a _ o h=>e a o h
theorem xE {H:Hp} {a:Addr} {F:Wz} (h:Mut (H a)) (ih:∀ b∈F,Mut (H b)):∀ b∈a :: F,Mut (H b):=fun b m=>(Zj.mp m).elim (fun e=>e ▸ h) (ih b)
theorem xK {H:Hp} {a:Addr} {o:HO} (h:H a=some o) (m:Mut (some o)):Mut (H a):=by rw [h];exact m
theorem C5 {H:Hp} {F:Wz} {Fs:Xk} (h1:∀ b∈F,Mut (H b)) (h2:∀ b∈Fs.flatten,Mut (H b)):∀ b∈(F :: Fs).flatten,Mut (H b):=fun b m=>by
 rw [ZP] at m
 exact (Zb.mp m).elim (h1 b) (h2 b)
theorem Rp.dom {G:Gx} {H:Hp} {v:V} {t:T} {F:Wz} (r:Rp G H v t F):∀ a∈F,Mut (H a) :=
 Rp.rec (motive_1:=fun v t F _=>∀ a∈F,Mut (H a)) (motive_2:=fun vs ts Fs _=>∀ a∈Fs.flatten,Mut (H a))
  (fun _ m=>nomatch m) (fun _ _ m=>nomatch m) (fun _ _ m=>nomatch m) (fun _ _ _ m=>nomatch m) (fun _ _ m=>nomatch m) (fun _ _ ih=>ih) (fun h _ ih=>xE (xK h True.intro) ih) (fun h _ _ ih=>xE (xK h True.intro) ih) (fun h _ _ ih=>xE (xK h True.intro) ih)
  (fun h _ _ _ ih=>xE (xK h True.intro) ih) (fun _ _ _ ih=>ih) (fun _ _ _ m=>nomatch m) (fun h _ _ _ ih=>xE (xK h True.intro) ih) (fun _ _ ih=>ih) (fun _ m=>nomatch m) (fun _ _ i1 i2=>C5 i1 i2) r
theorem RpL.dom {G:Gx} {H:Hp}:∀ {vs:List V} {ts:Wq} {Fs:Xk},RpL G H vs ts Fs->∀ a∈Fs.flatten,Mut (H a)
 | _,_,_,.nil=>fun _ m=>nomatch m
 | _,_,_,.cons r q=>C5 r.dom (RpL.dom q)
theorem Mut.ne_none {o:Option HO} (m:Mut o):o ≠ none:=fun e=>by subst e;exact m
theorem DA {F:Wz} {Fs:Xk} {t:T} {ts:Wq} (h1:VS.imm t=true->F=[]) (h2:VS.dW ts=true->Fs.flatten=[]) (i:VS.dW (t :: ts)=true):(F :: Fs).flatten=[]:=by
 simp only [VS.dW,Zf] at i
 rw [ZP,h1 i.1,h2 i.2]
 rfl
theorem Rp.imm {G:Gx} {H:Hp} {v:V} {t:T} {F:Wz} (r:Rp G H v t F):VS.imm t=true->F=[] :=
 Rp.rec (motive_1:=fun v t F _=>VS.imm t=true->F=[]) (motive_2:=fun vs ts Fs _=>VS.dW ts=true->Fs.flatten=[])
  (fun _=>rfl) (fun _ _=>rfl) (fun _ _=>rfl) (fun _ _ _=>rfl) (fun _ _=>rfl) (fun _ _ ih i=>ih (by simpa [VS.imm] using i)) (fun _ _ _ i=>absurd (show false=true from i) Zg) (fun _ _ _ _ i=>absurd (show false=true from i) Zg) (fun _ _ _ _ i=>absurd (show false=true from i) Zg)
  (fun _ _ _ _ _ i=>absurd (show false=true from i) Zg) (fun _ _ _ _ i=>absurd (show false=true from i) Zg) (fun _ _ _=>rfl) (fun _ _ _ _ _ i=>absurd (show false=true from i) Zg) (fun _ _ _ i=>absurd (show false=true from i) Zg) (fun _=>rfl) (fun _ _ i1 i2 i=>DA i1 i2 i) r
theorem RpL.imm {G:Gx} {H:Hp}:∀ {vs:List V} {ts:Wq} {Fs:Xk},RpL G H vs ts Fs->VS.dW ts=true->Fs.flatten=[]
 | _,_,_,.nil,_=>rfl
 | _,_,_,.cons r q,i=>DA r.imm (RpL.imm q) i
theorem RpL.len {G:Gx} {H:Hp}:∀ {vs:List V} {ts:Wq} {Fs:Xk},RpL G H vs ts Fs->vs.length=ts.length/\Fs.length=ts.length
 | _,_,_,.nil=>⟨rfl,rfl⟩
 | _,_,_,.cons _ q=>by
  have:=RpL.len q
  simp only [Zl]
  lia
theorem RpL.get {G:Gx} {H:Hp}:∀ {vs:List V} {ts:Wq} {Fs:Xk} (i:Nat) {t:T},RpL G H vs ts Fs->ts[i]?=some t->∃ v F,vs[i]?=some v/\Fs[i]?=some F/\Rp G H v t F
 | _,_,_,_,_,.nil,e=>by simp at e
 | _,_,_,0,_,.cons r _,e=>by
  simp at e
  subst e
  exact ⟨_,_,rfl,rfl,r⟩
 | _,_,_,i+1,_,.cons _ q,e=>by
  obtain ⟨v,F,h1,h2,h3⟩:=RpL.get i q (by simpa using e)
  exact ⟨v,F,by simpa using h1,by simpa using h2,h3⟩
theorem RpL.append {G:Gx} {H:Hp}:∀ {vs:List V} {ts:Wq} {Fs:Xk} {us:List V} {rs:Wq} {Gs:Xk},RpL G H vs ts Fs->RpL G H us rs Gs->RpL G H (vs++us) (ts++rs) (Fs++Gs)
 | _,_,_,_,_,_,.nil,s=>s
 | _,_,_,_,_,_,.cons r q,s=>.cons r (RpL.append q s)
theorem RpL.take {G:Gx} {H:Hp}:∀ {vs:List V} {ts:Wq} {Fs:Xk} (n:Nat),RpL G H vs ts Fs->RpL G H (vs.take n) (ts.take n) (Fs.take n)
 | _,_,_,0,_=>by simpa using RpL.nil
 | _,_,_,n+1,.nil=>.nil
 | _,_,_,n+1,.cons r q=>.cons r (RpL.take n q)
theorem RpL.drop {G:Gx} {H:Hp}:∀ {vs:List V} {ts:Wq} {Fs:Xk} (n:Nat),RpL G H vs ts Fs->RpL G H (vs.drop n) (ts.drop n) (Fs.drop n)
 | _,_,_,0,q=>q
 | _,_,_,n+1,.nil=>.nil
 | _,_,_,n+1,.cons r q=>RpL.drop n q
noncomputable def iE:Cell->T
 | .pu t=>t
 | .ow t=>t
noncomputable abbrev Fps:=Nat->Wz
structure SR (G:Gx) (Φ:Fps) (η:VS.Env) (σ:L2.St) (H:Hp):Prop where
 len:η.length=σ.length
 rp:∀ i c,η[i]?=some (some c)->∃ v,σ[i]?=some (some v)/\Rp G H v (iE c) (Φ i)
 nd:∀ i t,η[i]?=some (some (.ow t))->(Φ i).Nodup
 sep:∀ i j t c,η[i]?=some (some (.ow t))->η[j]?=some (some c)->i ≠ j->∀ a∈Φ i,a ∉ Φ j
noncomputable def cO (Φ:Fps) (η:VS.Env) (a:Addr):Prop:=∃ j t,η[j]?=some (some (.pu t))/\a∈Φ j
noncomputable def bF (Φ:Fps) (η:VS.Env) (a:Addr):Prop:=∃ j t,η[j]?=some (some (.ow t))/\a∈Φ j
noncomputable def Fp (Φ:Fps) (η:VS.Env) (H:Hp):Md->Wz->Prop
 | .fr,F=>F.Nodup/\∀ a∈F,H a=none
 | .pu,F=>∀ a∈F,H a=none\/cO Φ η a
 | .bo,F=>∀ a∈F,H a=none\/cO Φ η a\/bF Φ η a
theorem SR.same {G:Gx} {Φ:Fps} {η:VS.Env} {σ:L2.St} {H H':Hp} (s:SR G Φ η σ H) (e:aG H H'):SR G Φ η σ H' :=
 ⟨s.len,fun i c h=>let ⟨v,h1,h2⟩:=s.rp i c h;⟨v,h1,h2.same e⟩,s.nd,s.sep⟩
theorem SR.pu_dom {G:Gx} {Φ:Fps} {η:VS.Env} {σ:L2.St} {H:Hp} {a:Addr} (s:SR G Φ η σ H) (h:cO Φ η a):Mut (H a):=by
 obtain ⟨j,t,h1,h2⟩:=h
 obtain ⟨v,_,r⟩:=s.rp j _ h1
 exact r.dom a h2
theorem SR.ow_dom {G:Gx} {Φ:Fps} {η:VS.Env} {σ:L2.St} {H:Hp} {a:Addr} (s:SR G Φ η σ H) (h:bF Φ η a):Mut (H a):=by
 obtain ⟨j,t,h1,h2⟩:=h
 obtain ⟨v,_,r⟩:=s.rp j _ h1
 exact r.dom a h2
theorem Fp.nil {Φ:Fps} {η:VS.Env} {H:Hp} {m:Md}:Fp Φ η H m []:=by
 cases m
 ·exact ⟨Z5,fun a h=>by simp at h⟩
 ·exact fun a h=>by simp at h
 ·exact fun a h=>by simp at h
theorem Fp.bo {Φ:Fps} {η:VS.Env} {H:Hp} {F:Wz}:∀ {m:Md},Fp Φ η H m F->Fp Φ η H .bo F
 | .fr,h=>fun a m=>.inl (h.2 a m)
 | .pu,h=>fun a m=>(h a m).elim .inl fun z=>.inr (.inl z)
 | .bo,h=>h
theorem Fp.pu {Φ:Fps} {η:VS.Env} {H:Hp} {F:Wz}:∀ {m:Md},m ≠ .bo->Fp Φ η H m F->Fp Φ η H .pu F
 | .fr,_,h=>fun a m=>.inl (h.2 a m)
 | .pu,_,h=>h
 | .bo,n,_=>absurd rfl n
theorem Fp.back {Φ:Fps} {η:VS.Env} {H H':Hp} (e:aG H H') {F:Wz}:∀ {m:Md},Fp Φ η H' m F->Fp Φ η H m F
 | .fr,h=>⟨h.1,fun a m=>e.free (h.2 a m)⟩
 | .pu,h=>fun a m=>(h a m).imp e.free id
 | .bo,h=>fun a m=>(h a m).imp e.free id
theorem Fp.up {G:Gx} {Φ:Fps} {η:VS.Env} {H H':Hp} {m:Md} {v:V} {t:T} {F:Wz} (f:Fp Φ η H m F) (r:Rp G H' v t F):Fp Φ η H (VS.up m t).1 F:=by
 unfold VS.up
 by_cases h:VS.imm t=true
 ·rw [r.imm h]
  exact Fp.nil
 ·simp only [h,if_false,YA]
  exact f
noncomputable def tE (G:Gx) (c:Ex):TE:=fun σ H Q=>∃ Φ η m r,SR G Φ η σ H/\c η=some (m,r)/\∀ v H' F,aG H H'->Rp G H' v r F->Fp Φ η H m F->Q v H'
noncomputable def PV (G:Gx) (X:Cx) (e:Expr) (c:Ex):Prop:=PE X e (tE G c)
theorem PE.weak {X:Cx} {e:Expr} {t t':TE} (h:PE X e t) (w:∀ σ H Q,t' σ H Q->t σ H Q):PE X e t':=fun pins s σ H Q I q=>h pins s σ H Q I (w σ H Q q)
theorem PT.weak {X:Cx} {e:Expr} {t t':TT} (h:PT X e t) (w:∀ σ H Q,t' σ H Q->t σ H Q):PT X e t':=fun pins s σ H Q I q=>h pins s σ H Q I (w σ H Q q)
theorem PA.weak {X:Cx} {e:List Expr} {t t':TA} (h:PA X e t) (w:∀ σ H Q,t' σ H Q->t σ H Q):PA X e t':=fun pos pins s σ H Q I q=>h pos pins s σ H Q I (w σ H Q q)
noncomputable def tT (G:Gx) (c:Ex):TT:=fun σ H Q=>∃ Φ η m r b,SR G Φ η σ H/\c η=some (m,r)/\tru r=some b/\∀ H',aG H H'->Q b H'
noncomputable def PVT (G:Gx) (X:Cx) (e:Expr) (c:Ex):Prop:=PT X e (tT G c)
noncomputable def frs (l:Ws) (Fs:Xk):Wz:=match l,Fs with
 | v :: l,F :: Fs=>match v.1 with
  | .fr=>F++frs l Fs
  | _=>frs l Fs
 | _,_=>[]
structure FpL (Φ:Fps) (η:VS.Env) (H:Hp) (l:Ws) (Fs:Xk):Prop where
 each:∀ (i:Nat) v F,l[i]?=some v->Fs[i]?=some F->Fp Φ η H v.1 F
 nd:(frs l Fs).Nodup
noncomputable def tEs (G:Gx) (c:Exs):TA:=fun σ H Q=>∃ Φ η l,SR G Φ η σ H/\c η=some l/\∀ vs H' Fs,aG H H'->RpL G H' vs (trees l) Fs->FpL Φ η H l Fs->Q vs H'
noncomputable def PVs (G:Gx) (X:Cx) (es:List Expr) (c:Exs):Prop:=PA X es (tEs G c)
section
variable {G:Gx} {X:Cx} {a b c:Expr} {ca cb cc:Ex} {pos:Pos}
theorem ai {i j pos}:PV G X (.Constant (.int i) j pos) (Q2 i):=PE.weak ou fun σ H Q hq=>by
 obtain ⟨Φ,η,m,r,s,e,k⟩:=hq
 cases (show some (Md.fr,T.int i)=some (m,r) from e)
 exact k _ _ _ (aG.refl _) (.int i) Fp.nil
theorem vS {i j pos}:PV G X (.Constant (.bool i) j pos) (eC (.bl i)):=PE.weak CS fun σ H Q hq=>by
 obtain ⟨Φ,η,m,r,s,e,k⟩:=hq
 cases (show some (Md.fr,T.bl i)=some (m,r) from e)
 exact k _ _ _ (aG.refl _) (.bl i) Fp.nil
theorem vh {j pos}:PV G X (.Constant .none j pos) (eC .non):=PE.weak Cv fun σ H Q hq=>by
 obtain ⟨Φ,η,m,r,s,e,k⟩:=hq
 cases (show some (Md.fr,T.non)=some (m,r) from e)
 exact k _ _ _ (aG.refl _) .non Fp.nil
theorem kM {x:Str} {t:Tx} {j pos} (h:x=sx t:=by decide +kernel) (hl:oq t:=by decide):PV G X (.Constant (.str x) j pos) (eC (.str t)):=PE.weak BX fun σ H Q hq=>by
 obtain ⟨Φ,η,m,r,s,e,k⟩:=hq
 cases (show some (Md.fr,T.str t)=some (m,r) from e)
 subst h
 exact k _ _ _ (aG.refl _) (.str t hl) Fp.nil
theorem dH (i:Nat) {x:Str} {pos:Pos} (hN:X.N[i]?=some x:=by rfl) (hv:Vis X.env.scope x:=by first | exact Or.inl rfl | exact Or.inr (Or.inl rfl) | exact Or.inr (Or.inr rfl)) (hd:(x == ("__debug__" : Str))=false:=by decide)
  (hcd:(x == ("__classdict__" : Str))=false:=by decide):PV G X (.Name x pos) (aa i):=PE.weak (fq hN hv hd hcd) fun σ H Q hq=>by
 obtain ⟨Φ,η,m,r,s,e,k⟩:=hq
 unfold aa at e
 split at e
 ·rename_i t h
  obtain ⟨v,h1,h2⟩:=s.rp _ _ h
  have e':VS.up .pu t=(m,r):=Zm e
  have er:t=r:=congrArg Prod.snd e'
  have em:(VS.up .pu t).1=m:=congrArg Prod.fst e'
  rw [← er,← em] at k
  refine ⟨v,h1,k v H (Φ i) (aG.refl _) h2 ?_⟩
  have f:Fp Φ η H .pu (Φ i):=fun a ha=>.inr ⟨i,_,h,ha⟩
  exact f.up h2
 ·rename_i t h
  obtain ⟨v,h1,h2⟩:=s.rp _ _ h
  cases e
  exact ⟨v,h1,k v H (Φ i) (aG.refl _) h2 fun a ha=>.inr (.inr ⟨i,_,h,ha⟩)⟩
 ·cases e
theorem yy {x:Str} {u:Value} {v:V} {t:T} {pos:Pos} (hg:Gl X x) (hm:X.mg x=some u) (r:RelV v u) (hr:∀ H,Rp G H v t []) (hd:(x == ("__debug__" : Str))=false:=by decide):PV G X (.Name x pos) (eC t) :=
 PE.weak (zp hg hm r hd) fun σ H Q hq=>by
  obtain ⟨Φ,η,m,t',s,e,k⟩:=hq
  cases (show some (Md.fr,t)=some (m,t') from e)
  exact k _ _ _ (aG.refl _) (hr H) Fp.nil
structure Two (G:Gx) (Φ:Fps) (η:VS.Env) (H0 H:Hp) (x y:Val) (u w:V) (F1 F2:Wz):Prop where
 same:aG H0 H
 r1:Rp G H u x.2 F1
 r2:Rp G H w y.2 F2
 f1:Fp Φ η H0 x.1 F1
 f2:Fp Φ η H0 y.1 F2
 nd:x.1=.fr->y.1=.fr->(F1++F2).Nodup
noncomputable def d8 (G:Gx) (r:R2) (f:Val->Val->Wr):Prop:=∀ (Φ:Fps) (η:VS.Env) (H0 H:Hp) (x y:Val) (u w:V) (F1 F2:Wz) (m:Md) (t:T) (Q:VK),Two G Φ η H0 H x y u w F1 F2->f x y=some (m,t) →
 (∀ v H' F,aG H H'->Rp G H' v t F->Fp Φ η H0 m F->Q v H')->r u w H Q
theorem yc {σ:L2.St} {H:Hp} {Q:V->V->Hp->Prop} {Φ:Fps} {η:VS.Env} {x y:Val} (s:SR G Φ η σ H) (ea:ca η=some x) (eb:cb η=some y)
  (k:∀ u w H2 F1 F2,Two G Φ η H H2 x y u w F1 F2->Q u w H2):tE G ca σ H fun u H1=>tE G cb σ H1 fun w H2=>Q u w H2:=by
 refine ⟨Φ,η,x.1,x.2,s,ea,fun u H1 F1 e1 r1 f1=>⟨Φ,η,y.1,y.2,s.same e1,eb,fun w H2 F2 e2 r2 f2=>k u w H2 F1 F2 ⟨e1.trans e2,r1.same e2,r2,f1,f2.back e1,fun hx hy=>?_⟩⟩⟩
 rw [hx] at f1
 rw [hy] at f2
 refine ZU.mpr ⟨f1.1,f2.1,fun a ha b hb z=>?_⟩
 subst z
 exact Mut.ne_none (r1.dom a ha) (f2.2 a hb)
theorem kX {r:R2} {f:Val->Val->Wr} (ok:d8 G r f) {σ:L2.St} {H:Hp} {Q:VK} (h:tE G (e2 f ca cb) σ H Q):tOp r (tE G ca) (tE G cb) σ H Q:=by
 obtain ⟨Φ,η,m,t,s,e,k⟩:=h
 unfold e2 at e
 obtain ⟨x,ea,e⟩:=Zz.mp e
 obtain ⟨y,eb,e⟩:=Zz.mp e
 exact yc s ea eb fun u w H2 F1 F2 tw=>ok Φ η H H2 x y u w F1 F2 m t Q tw e fun v H' F e1 r1 f1=>k v H' F (tw.same.trans e1) r1 f1
theorem iU {op:Operator} {r:R2} {f:Val->Val->Wr} (ho:OpR X (binaryOp op) r) (ok:d8 G r f) (ha:PV G X a ca) (hb:PV G X b cb):PV G X (.BinOp a op b pos) (e2 f ca cb) :=
 PE.weak (Ai ho ha hb) fun σ H Q h=>kX ok h
theorem Bc {op:CmpOp} {r:R2} {f:Val->Val->Wr} (ho:OpR X (compareOp op) r) (ok:d8 G r f) (ha:PV G X a ca) (hb:PV G X b cb) (hm:behindInMarks op b=false):PV G X (.Compare a [op] [b] pos) (e2 f ca cb) :=
 PE.weak (zB ho ha hb hm) fun σ H Q h=>kX ok h
noncomputable def Tells (f:Val->Val->Wr):Prop:=∀ x y m t,f x y=some (m,t)->∃ b,t=.bl b
theorem Rp.bl_inv {H:Hp} {v:V} {b:Bool} {F:Wz} (r:Rp G H v (.bl b) F):v=.bl b:=by cases r;rfl
theorem Rp.int_inv {H:Hp} {v:V} {b:Int} {F:Wz} (r:Rp G H v (.int b) F):v=.int b:=by cases r;rfl
theorem Rp.str_inv {H:Hp} {v:V} {b:Tx} {F:Wz} (r:Rp G H v (.str b) F):v=.str (sx b)/\oq b:=by cases r with | str _ h=>exact ⟨rfl,h⟩
theorem l5 {c:Ex} {t:TE} {σ:L2.St} {H:Hp} {Q:Bool->Hp->Prop} (h:tT G c σ H Q) (ht:∀ η m r,c η=some (m,r)->∃ b,r=.bl b) (w:∀ Q,tE G c σ H Q->t σ H Q):xZ t σ H Q:=by
 obtain ⟨Φ,η,m,r,b,s,e,eb,k⟩:=h
 refine w _ ⟨Φ,η,m,r,s,e,fun v H' F e1 r1 f1=>?_⟩
 obtain ⟨b',er⟩:=ht η m r e
 rw [er] at eb r1
 cases (show some b'=some b from eb)
 exact ⟨_,r1.bl_inv,k H' e1⟩
theorem fC {op:CmpOp} {r:R2} {f:Val->Val->Wr} (ho:OpR X (compareOp op) r) (ok:d8 G r f) (ht:Tells f) (ha:PV G X a ca) (hb:PV G X b cb) (hm:behindInMarks op b=false):PVT G X (.Compare a [op] [b] pos) (e2 f ca cb) :=
 PT.weak (sZ ho ha hb hm) fun σ H Q h=>l5 h (fun η m r e=>by
  unfold e2 at e
  obtain ⟨x,_,e⟩:=Zz.mp e
  obtain ⟨y,_,e⟩:=Zz.mp e
  exact ht x y m r e) fun Q h=>kX ok h
theorem bh {Φ:Fps} {η:VS.Env} {H0 H:Hp} {m:Md} {t:T} {v:V} {Q:VK} (k:∀ v H' F,aG H H'->Rp G H' v t F->Fp Φ η H0 m F->Q v H') (r:Rp G H v t []):Q v H:=k v H [] (aG.refl _) r Fp.nil
theorem cS {H:Hp} {p:Addr} {o:HO} (h:H p=none):aG H (upd H p o):=fun b o' e=>by rw [aD (d7 e h)];exact e
theorem Fp.new {Φ:Fps} {η:VS.Env} {H0:Hp} {p:Addr} {F:Wz} (h0:H0 p=none) (hp:p ∉ F):∀ {m:Md},Fp Φ η H0 m F->Fp Φ η H0 m (p :: F)
 | .fr,f=>⟨Zd.mpr ⟨hp,f.1⟩,fun a m=>(Zj.mp m).elim (fun e=>by rw [e];exact h0) (f.2 a)⟩
 | .pu,f=>fun a m=>(Zj.mp m).elim (fun e=>by rw [e];exact .inl h0) (f a)
 | .bo,f=>fun a m=>(Zj.mp m).elim (fun e=>by rw [e];exact .inl h0) (f a)
theorem o6 {mj m:Md} {l:Wq} {t:T} (e:mkL mj l=some (m,t)):t=.lst l/\l.length<=fg/\m=(if dW l then .fr else mj):=by
 unfold mkL at e
 split at e
 ·rename_i h
  cases e
  exact ⟨rfl,h,rfl⟩
 ·cases e
theorem iW {Φ:Fps} {η:VS.Env} {H0 H:Hp} {mj m:Md} {l:Wq} {t:T} {vs:List V} {Fs:Xk} {Q:VK} (same:aG H0 H) (e:mkL mj l=some (m,t)) (r:RpL G H vs l Fs) (f:Fp Φ η H0 mj Fs.flatten)
  (k:∀ v H' F,aG H H'->Rp G H' v t F->Fp Φ η H0 m F->Q v H'):∀ p,H p=none->Q (.ref p) (upd H p (.lst vs)):=by
 intro p hp
 obtain ⟨rfl,hl,rfl⟩:=o6 e
 refine k _ _ _ (cS hp) (.lst ax (r.same (cS hp))) ?_
 have np:p ∉ Fs.flatten:=fun m=>Mut.ne_none (r.dom p m) hp
 by_cases hi:dW l=true
 ·rw [hi,Zp rfl]
  rw [r.imm hi] at np ⊢
  exact Fp.nil.new (same.free hp) np
 ·rw [Zo hi]
  exact f.new (same.free hp) np
theorem Two.join {Φ:Fps} {η:VS.Env} {H0 H:Hp} {x y:Val} {u w:V} {F1 F2:Wz} (tw:Two G Φ η H0 H x y u w F1 F2) {F:Wz} (hF:F.Sublist (F1++F2)):Fp Φ η H0 (x.1.join y.1) F:=by
 obtain ⟨same,r1,r2,f1,f2,nd⟩:=tw
 have split:∀ a∈F,a∈F1\/a∈F2:=fun a ha=>Zb.mp (hF.subset ha)
 obtain ⟨m1,x⟩:=x
 obtain ⟨m2,y⟩:=y
 have both:∀ {P:Addr->Prop},(∀ a∈F1,P a)->(∀ a∈F2,P a)->∀ a∈F,P a:=fun h1 h2 a ha=>(split a ha).elim (h1 a) (h2 a)
 cases m1 <;> cases m2
 ·exact ⟨(nd rfl rfl).sublist hF,both f1.2 f2.2⟩
 ·exact both (fun a ha=>.inl (f1.2 a ha)) f2
 ·exact both (fun a ha=>.inl (f1.2 a ha)) f2
 ·exact both f1 (fun a ha=>.inl (f2.2 a ha))
 ·exact both f1 f2
 ·exact both (f1.bo) f2
 ·exact both f1 (fun a ha=>.inl (f2.2 a ha))
 ·exact both f1 (f2.bo)
 ·exact both f1 f2
theorem fD:fg=sizeLine:=rfl
theorem dz (s:Tx):(sx s).length=s.length:=rfl
theorem Ci (s t:Tx):sx s++sx t=sx (s++t):=by
 show Str.append (sx s) (sx t)=_
 simp [sx,Str.append]
theorem Rp.lst_inv {H:Hp} {v:V} {l:Wq} {F:Wz} (r:Rp G H v (.lst l) F):∃ a vs Fs,v=.ref a/\F=a :: Fs.flatten/\H a=some (.lst vs)/\RpL G H vs l Fs:=by
 cases r with
 | lst h q=>exact ⟨_,_,_,rfl,rfl,h,q⟩
theorem Rp.tup_inv {H:Hp} {v:V} {l:Wq} {F:Wz} (r:Rp G H v (.tup l) F):∃ a vs Fs,v=.ref a/\F=Fs.flatten/\H a=some (.tup vs)/\RpL G H vs l Fs:=by
 cases r with
 | tup h q=>exact ⟨_,_,_,rfl,rfl,h,q⟩
theorem Rp.scr_inv {H:Hp} {v:V} {l:Wv} {F:Wz} (r:Rp G H v (.scr l) F):∃ a,v=.ref a/\F=[]/\k9 G.K H a l:=by
 cases r with
 | scr h=>exact ⟨_,rfl,rfl,h⟩
end
section
variable {G:Gx} {X:Cx}
noncomputable def CM:R2:=fun x y H Q=>rI0 (fun i j=>.int (i+j)) x y H Q\/(∃ i j,x=.str i/\y=.str j/\i.length+j.length<=sizeLine/\Q (.str (i++j)) H)\/DE x y H Q
theorem sv:OpR X (binaryOp .Add) CM:=Bv.or (rA.or BI)
theorem wX:d8 G CM aZ:=by
 intro Φ η H0 H x y u w F1 F2 m t Q tw e k
 have jn:=fun {F:Wz} (h:List.Sublist F (F1++F2))=>tw.join h
 obtain ⟨m1,x⟩:=x
 obtain ⟨m2,y⟩:=y
 obtain ⟨same,r1,r2,f1,f2,nd⟩:=tw
 unfold aZ at e
 split at e
 ·rename_i i _ j e1 e2
  cases e1
  cases e2
  cases e
  exact .inl ⟨_,_,r1.int_inv,r2.int_inv,bh k (.int _)⟩
 ·rename_i s _ s' e1 e2
  cases e1
  cases e2
  split at e
  ·rename_i hl
   cases e
   refine .inr (.inl ⟨_,_,r1.str_inv.1,r2.str_inv.1,by rw [dz,dz,← fD];exact hl,?_⟩)
   rw [Ci]
   exact bh k (.str _ ⟨by rw [Zv];exact hl,fun c hc=>(Zb.mp hc).elim (r1.str_inv.2.2 c) (r2.str_inv.2.2 c)⟩)
  ·cases e
 ·rename_i s _ s' e1 e2
  cases e1
  cases e2
  obtain ⟨a,vs,Fs,rfl,rfl,ha,ra⟩:=r1.lst_inv
  obtain ⟨b,us,Gs,rfl,rfl,hb,rb⟩:=r2.lst_inv
  obtain ⟨_,hl,_⟩:=o6 e
  refine .inr (.inr ⟨a,b,vs,us,rfl,rfl,ha,hb,?_,iW same e (ra.append rb) (jn ?_) k⟩)
  ·rw [Zv] at hl
   rw [ra.len.1,rb.len.1,← fD]
   exact hl
  ·rw [Ys]
   exact (Yz _ _).append (Yz _ _)
 ·cases e
theorem oC:d8 G (rI0 fun i j=>.int (i - j)) nh:=by
 intro Φ η H0 H x y u w F1 F2 m t Q tw e k
 obtain ⟨m1,x⟩:=x
 obtain ⟨m2,y⟩:=y
 obtain ⟨same,r1,r2,f1,f2,nd⟩:=tw
 unfold nh at e
 split at e
 ·rename_i e1 e2
  cases e1
  cases e2
  cases e
  exact ⟨_,_,r1.int_inv,r2.int_inv,bh k (.int _)⟩
 ·cases e
theorem lR:d8 G (rI Dz fun i j=>.int (i / j)) jd:=by
 intro Φ η H0 H x y u w F1 F2 m t Q tw e k
 obtain ⟨m1,x⟩:=x
 obtain ⟨m2,y⟩:=y
 obtain ⟨same,r1,r2,f1,f2,nd⟩:=tw
 unfold jd at e
 split at e
 ·rename_i e1 e2
  cases e1
  cases e2
  split at e
  ·rename_i h
   cases e
   exact ⟨_,_,r1.int_inv,r2.int_inv,h,bh k (.int _)⟩
  ·cases e
 ·cases e
theorem BS:d8 G (rI (fun _ j=>0 < j) fun i j=>.int (i % j)) oMod:=by
 intro Φ η H0 H x y u w F1 F2 m t Q tw e k
 obtain ⟨m1,x⟩:=x
 obtain ⟨m2,y⟩:=y
 obtain ⟨same,r1,r2,f1,f2,nd⟩:=tw
 unfold oMod at e
 split at e
 ·rename_i e1 e2
  cases e1
  cases e2
  split at e
  ·rename_i h
   cases e
   exact ⟨_,_,r1.int_inv,r2.int_inv,h,bh k (.int _)⟩
  ·cases e
 ·cases e
theorem mV:∀ (s t:Tx),ltx s t=decide (s < t)
 | [],[]=>by simp [ltx]
 | [],_ :: _=>by simp [ltx]
 | _ :: _,[]=>by simp [ltx]
 | a :: s,b :: t=>by
  unfold ltx
  rw [mV s t]
  by_cases h1:a < b
  ·simp [h1,Y6]
  ·by_cases h2:b < a
   ·have:¬ a=b:=by exact Nat.ne_of_gt h2
    simp [h1,h2,Y6,this]
   ·have:a=b:=by lia
    subst this
    simp [Y6]
noncomputable def rLt:R2:=fun x y H Q=>rI0 (fun i j=>.bl (decide (i < j))) x y H Q\/(∃ i j,x=.str i/\y=.str j/\Q (.bl (decide (i.cps.toList < j.cps.toList))) H)
theorem mI:OpR X (compareOp .Lt) rLt:=Dd.or uZ
theorem qL:d8 G rLt oLt:=by
 intro Φ η H0 H x y u w F1 F2 m t Q tw e k
 obtain ⟨m1,x⟩:=x
 obtain ⟨m2,y⟩:=y
 obtain ⟨same,r1,r2,f1,f2,nd⟩:=tw
 unfold oLt at e
 split at e
 ·rename_i e1 e2
  cases e1
  cases e2
  cases e
  exact .inl ⟨_,_,r1.int_inv,r2.int_inv,bh k (.bl _)⟩
 ·rename_i s _ s' e1 e2
  cases e1
  cases e2
  cases e
  refine .inr ⟨_,_,r1.str_inv.1,r2.str_inv.1,?_⟩
  have:decide ((sx s).cps.toList < (sx s').cps.toList)=ltx s s':=by rw [mV];exact decide_eq_decide.mpr (by simp [sx])
  rw [this]
  exact bh k (.bl _)
 ·cases e
theorem iL:Tells oLt:=by
 intro x y m t e
 unfold oLt at e
 split at e <;> first | (cases e;exact ⟨_,rfl⟩) | cases e
theorem Bw:B64=2 ^ 64:=rfl
theorem Ce:d8 G (rI yW fun i j=>.int (i * j)) gj:=by
 intro Φ η H0 H x y u w F1 F2 m t Q tw e k
 obtain ⟨m1,x⟩:=x
 obtain ⟨m2,y⟩:=y
 obtain ⟨same,r1,r2,f1,f2,nd⟩:=tw
 unfold gj at e
 split at e
 ·rename_i e1 e2
  cases e1
  cases e2
  split at e
  ·rename_i h
   cases e
   refine ⟨_,_,r1.int_inv,r2.int_inv,?_,bh k (.int _)⟩
   rw [Bw] at h
   exact h
  ·cases e
 ·cases e
theorem u4:OpR X (compareOp .LtE) (fun x y H Q=>∃ i j,x=.str i/\y=.str j/\Q (.bl (!decide (j.cps.toList < i.cps.toList))) H):=by
 intro pins s σ H x y v u Q I rx ry h
 obtain ⟨i,j,rfl,rfl,q⟩:=h
 obtain ⟨t,rfl⟩:=rx
 obtain ⟨t',rfl⟩:=ry
 exact PySem.P.le_str ⟨.bl _,H,I,rfl,q⟩
noncomputable def rLe:R2:=fun x y H Q=>rI0 (fun i j=>.bl (decide (i<=j))) x y H Q\/(∃ i j,x=.str i/\y=.str j/\Q (.bl (!decide (j.cps.toList < i.cps.toList))) H)
theorem Cm:OpR X (compareOp .LtE) rLe:=Dg.or u4
theorem CH:d8 G rLe oLe:=by
 intro Φ η H0 H x y u w F1 F2 m t Q tw e k
 obtain ⟨m1,x⟩:=x
 obtain ⟨m2,y⟩:=y
 obtain ⟨same,r1,r2,f1,f2,nd⟩:=tw
 unfold oLe at e
 split at e
 ·rename_i e1 e2
  cases e1
  cases e2
  cases e
  exact .inl ⟨_,_,r1.int_inv,r2.int_inv,bh k (.bl _)⟩
 ·rename_i s _ s' e1 e2
  cases e1
  cases e2
  cases e
  refine .inr ⟨_,_,r1.str_inv.1,r2.str_inv.1,?_⟩
  have:decide ((sx s').cps.toList < (sx s).cps.toList)=ltx s' s:=by rw [mV];exact decide_eq_decide.mpr (by simp [sx])
  rw [this]
  exact bh k (.bl _)
 ·cases e
theorem xX:Tells oLe:=by
 intro x y m t e
 unfold oLe at e
 split at e <;> first | (cases e;exact ⟨_,rfl⟩) | cases e
theorem rT {n:Nat} {i:Int}:ixP n i=ixN n i:=by
 unfold ixP ixN
 by_cases h:0<=i
 ·rw [Zp h,Zp h]
 ·rw [Zo h,Zo h]
  by_cases h2:0<=i+n
  ·rw [Zp h2,Zp (by lia)]
  ·rw [Zo h2,Zo (by lia)]
theorem jG {α:Type} {l:List α} {i:Int} {k:Nat} {x:α} (h1:ixP l.length i=some k) (h2:l[k]?=some x):atI l i=some x:=by
 unfold atI
 rw [← rT,h1]
 exact h2
theorem cB {Fs:Xk} {F:Wz} {i:Nat} (h:Fs[i]?=some F):F.Sublist Fs.flatten:=by
 obtain ⟨hi,rfl⟩:=Zh.mp h
 exact List.sublist_flatten_of_mem (Z6 hi)
theorem Fp.sub {Φ:Fps} {η:VS.Env} {H:Hp} {F F':Wz} (h:F.Sublist F'):∀ {m:Md},Fp Φ η H m F'->Fp Φ η H m F
 | .fr,f=>⟨f.1.sublist h,fun a ha=>f.2 a (h.subset ha)⟩
 | .pu,f=>fun a ha=>f a (h.subset ha)
 | .bo,f=>fun a ha=>f a (h.subset ha)
theorem rL:d8 G (rIx G.K) aB:=by
 intro Φ η H0 H x y u w F1 F2 m t Q tw e k
 obtain ⟨m1,x⟩:=x
 obtain ⟨m2,y⟩:=y
 obtain ⟨same,r1,r2,f1,f2,nd⟩:=tw
 unfold aB at e
 split at e
 ·rename_i m3 l m4 i e1 e2
  cases e1
  cases e2
  obtain ⟨j,h1,e⟩:=Zz.mp e
  obtain ⟨x,h2,e⟩:=Zy.mp e
  obtain ⟨a,vs,Fs,rfl,rfl,ha,ra⟩:=r1.lst_inv
  obtain ⟨v,F,g1,g2,g3⟩:=ra.get j h2
  refine .inl ⟨a,vs,i,v,rfl,r2.int_inv,SqL.of ha,jG (by rw [ra.len.1];exact h1) g1,?_⟩
  have f:=((f1.sub (Yz _ _)).sub (cB g2)).up g3
  unfold VS.sub at e
  rw [e] at f
  have et:x=t:=congrArg Prod.snd e
  rw [et] at g3
  exact k v H F (aG.refl _) g3 f
 ·rename_i m3 l m4 i e1 e2
  cases e1
  cases e2
  obtain ⟨j,h1,e⟩:=Zz.mp e
  obtain ⟨x,h2,e⟩:=Zy.mp e
  obtain ⟨a,vs,Fs,rfl,rfl,ha,ra⟩:=r1.tup_inv
  obtain ⟨v,F,g1,g2,g3⟩:=ra.get j h2
  refine .inr (.inl ⟨a,vs,i,v,rfl,r2.int_inv,SqT.of ha,jG (by rw [ra.len.1];exact h1) g1,?_⟩)
  have f:=(f1.sub (cB g2)).up g3
  unfold VS.sub at e
  rw [e] at f
  have et:x=t:=congrArg Prod.snd e
  rw [et] at g3
  exact k v H F (aG.refl _) g3 f
 ·rename_i m3 l m4 i e1 e2
  cases e1
  cases e2
  obtain ⟨j,h1,e⟩:=Zz.mp e
  obtain ⟨x,h2,e⟩:=Zy.mp e
  cases e
  obtain ⟨a,rfl,rfl,sa⟩:=r1.scr_inv
  refine .inl ⟨a,l.map V.int,i,.int x,rfl,r2.int_inv,sa.seq,jG (by rw [Zw];exact h1) (by rw [ZS,h2];rfl),bh k (.int _)⟩
 ·rename_i m3 l m4 i e1 e2
  cases e1
  cases e2
  obtain ⟨j,h1,e⟩:=Zz.mp e
  obtain ⟨x,h2,e⟩:=Zy.mp e
  cases e
  obtain ⟨rfl,hl⟩:=r1.str_inv
  refine .inr (.inr ⟨sx l,i,x,rfl,r2.int_inv,by rw [dz,← fD];exact hl.1,jG (k:=j) (by simpa [sx] using h1) (by simpa [sx] using h2),?_⟩)
  exact bh k (.str [x] ⟨by show 1<=fg;decide,fun c hc=>by rw [Za.mp hc];exact hl.2 x (YY h2)⟩)
 ·cases e
end
section
variable {G:Gx} {X:Cx} {a b c e:Expr} {es:List Expr} {ca cb cc:Ex} {cs:Exs} {pos p:Pos}
theorem t5 {x:Addr}:∀ {l:Ws} {Fs:Xk},x∈frs l Fs->∃ (i:Nat) (v:Val) (F:Wz),l[i]?=some v/\v.1=.fr/\Fs[i]?=some F/\x∈F
 | [],_,h=>by simp [frs] at h
 | _ :: _,[],h=>by simp [frs] at h
 | v :: l,F :: Fs,h=>by
  have go:x∈frs l Fs->∃ (i:Nat) (u:Val) (F':Wz),(v :: l)[i]?=some u/\u.1=.fr/\(F :: Fs)[i]?=some F'/\x∈F':=fun m=>by
   obtain ⟨i,u,F',h1,h2,h3,h4⟩:=t5 m
   exact ⟨i+1,u,F',by simpa using h1,h2,by simpa using h3,h4⟩
  unfold frs at h
  split at h
  ·rename_i hv
   rcases Zb.mp h with h | h
   ·exact ⟨0,v,F,rfl,hv,rfl,h⟩
   ·exact go h
  ·exact go h
theorem ak:PVs G X [] aj:=PA.weak g7 fun σ H Q hq=>by
 obtain ⟨Φ,η,l,s,e,k⟩:=hq
 cases (show some ([]:Ws)=some l from e)
 exact k [] H [] (aG.refl _) .nil ⟨fun i v F h=>by simp at h,by simp [frs]⟩
theorem ae (ha:PV G X e ca) (hr:PVs G X es cs) (hs:starEach (e :: es) X.env=(false,eval e X.env) :: starEach es X.env:=by rfl):PVs G X (e :: es) (ab ca cs):=PA.weak (cZ ha hr hs) fun σ H Q hq=>by
 obtain ⟨Φ,η,l,s,e,k⟩:=hq
 unfold ab at e
 obtain ⟨x,ea,e⟩:=Zz.mp e
 obtain ⟨xs,er,e⟩:=Zz.mp e
 cases e
 refine ⟨Φ,η,x.1,x.2,s,ea,fun v H1 F e1 r1 f1=>⟨Φ,η,xs,s.same e1,er,fun vs H2 Fs e2 r2 f2=>k (v :: vs) H2 (F :: Fs) (e1.trans e2) (.cons (r1.same e2) r2) ⟨fun i u F' h1 h2=>?_,?_⟩⟩⟩
 ·cases i with
  | zero =>
   cases (show some x=some u from h1)
   cases (show some F=some F' from h2)
   exact f1
  | succ i=>exact (f2.each i u F' (by simpa using h1) (by simpa using h2)).back e1
 ·unfold frs
  split
  ·rename_i hx
   rw [hx] at f1
   refine ZU.mpr ⟨f1.1,f2.nd,fun y hy z hz q=>?_⟩
   subst q
   obtain ⟨i,u,F',h1,h2,h3,h4⟩:=t5 hz
   have f:=f2.each i u F' h1 h3
   rw [h2] at f
   exact Mut.ne_none (r1.dom y hy) (f.2 y h4)
  ·exact f2.nd
theorem j9:∀ {l:Ws},cz l=.fr->∀ v∈l,v.1=.fr
 | [],_,v,h=>by simp at h
 | (m,t) :: r,e,v,h=>by
  have e':m.join (cz r)=.fr:=e
  have h1:m=.fr:=by
   revert e'
   cases m <;> cases cz r <;> simp [Md.join]
  have h2:cz r=.fr:=by
   revert e'
   cases m <;> cases cz r <;> simp [Md.join]
  rcases Zj.mp h with rfl | h
  ·exact h1
  ·exact j9 h2 v h
theorem jQ:∀ {l:Ws},cz l ≠ .bo->∀ v∈l,v.1 ≠ .bo
 | [],_,v,h=>by simp at h
 | (m,t) :: r,e,v,h=>by
  have e':m.join (cz r) ≠ .bo:=e
  have h1:m ≠ .bo:=by
   revert e'
   cases m <;> cases cz r <;> simp [Md.join]
  have h2:cz r ≠ .bo:=by
   revert e'
   cases m <;> cases cz r <;> simp [Md.join]
  rcases Zj.mp h with rfl | h
  ·exact h1
  ·exact jQ h2 v h
theorem tW:∀ {l:Ws} {Fs:Xk},l.length=Fs.length->(∀ v∈l,v.1=.fr)->frs l Fs=Fs.flatten
 | [],[],_,_=>rfl
 | [],_ :: _,h,_=>by simp at h
 | _ :: _,[],h,_=>by simp at h
 | v :: l,F :: Fs,h,q=>by
  unfold frs
  rw [q v Zt,tW (by simpa using h) fun u hu=>q u (Zu _ hu)]
  rfl
theorem fU {x:Addr} {Fs:Xk} (h:x∈Fs.flatten):∃ (i:Nat) (F:Wz),Fs[i]?=some F/\x∈F:=by
 obtain ⟨F,hF,hx⟩:=X6.mp h
 obtain ⟨i,hi⟩:=List.mem_iff_getElem?.mp hF
 exact ⟨i,F,hi,hx⟩
theorem FpL.join {Φ:Fps} {η:VS.Env} {H:Hp} {l:Ws} {Fs:Xk} (f:FpL Φ η H l Fs) (hl:l.length=Fs.length):Fp Φ η H (cz l) Fs.flatten:=by
 have at':∀ x∈Fs.flatten,∃ v F,v∈l/\x∈F/\Fp Φ η H v.1 F:=fun x hx=>by
  obtain ⟨i,F,hi,hxF⟩:=fU hx
  have:i < l.length:=by
   have:=(Zh.mp hi).1
   lia
  exact ⟨l[i],F,Z6 this,hxF,f.each i _ F (Zr this) hi⟩
 cases e:cz l with
 | fr =>
  have al:=j9 e
  refine ⟨by rw [← tW hl al];exact f.nd,fun x hx=>?_⟩
  obtain ⟨v,F,hv,hxF,q⟩:=at' x hx
  rw [al v hv] at q
  exact q.2 x hxF
 | pu =>
  have al:=jQ (l:=l) (by rw [e];decide)
  intro x hx
  obtain ⟨v,F,hv,hxF,q⟩:=at' x hx
  exact Fp.pu (al v hv) q x hxF
 | bo =>
  intro x hx
  obtain ⟨v,F,hv,hxF,q⟩:=at' x hx
  exact q.bo x hxF
structure Args (G:Gx) (Φ:Fps) (η:VS.Env) (H0 H:Hp) (l:Ws) (vs:List V) (Fs:Xk):Prop where
 same:aG H0 H
 rp:RpL G H vs (trees l) Fs
 fp:FpL Φ η H0 l Fs
theorem Args.len {Φ:Fps} {η:VS.Env} {H0 H:Hp} {l:Ws} {vs:List V} {Fs:Xk} (A:Args G Φ η H0 H l vs Fs):l.length=Fs.length:=by
 have:=A.rp.len.2
 simp [trees] at this
 exact Eq.symm this
noncomputable def fj (G:Gx) (r:List V->Hp->VK->Prop) (f:Ws->Wr):Prop:=∀ (Φ:Fps) (η:VS.Env) (H0 H:Hp) (l:Ws) (vs:List V) (Fs:Xk) (m:Md) (t:T) (Q:VK),Args G Φ η H0 H l vs Fs->f l=some (m,t) →
 (∀ v H' F,aG H H'->Rp G H' v t F->Fp Φ η H0 m F->Q v H')->r vs H Q
theorem Ay {r:List V->Hp->VK->Prop} {f:Ws->Wr} (ok:fj G r f) {σ:L2.St} {H:Hp} {Q:VK} {η:VS.Env} {Φ:Fps} {l:Ws} {m:Md} {t:T} (s:SR G Φ η σ H) (el:cs η=some l) (e:f l=some (m,t))
  (k:∀ v H' F,aG H H'->Rp G H' v t F->Fp Φ η H m F->Q v H'):tEs G cs σ H fun vs H1=>r vs H1 Q :=
 ⟨Φ,η,l,s,el,fun vs H' Fs e1 r1 f1=>ok Φ η H H' l vs Fs m t Q ⟨e1,r1,f1⟩ e fun v H2 F e2 r2 f2=>k v H2 F (e1.trans e2) r2 f2⟩
theorem kg {r:List V->Hp->VK->Prop} {f:Ws->Wr} {id:String} {x:Str} (hc:dD X (.builtin id) r) (ok:fj G r f) (hg:Gl X x) (hm:X.mg x=none) (hv:bootBuiltins x=some (.builtin id)) (ha:PVs G X (e :: es) cs)
  (hn:x ≠ "__name__" := by decide) (hdb:(x == ("__debug__" : Str))=false:=by decide)
  (he:starEach (e :: es) X.env=(false,eval e X.env) :: starEach es X.env:=by rfl) (hpl:(backTo pos (starEach es X.env)).any (·.1)=false:=by rfl):PV G X (.Call (.Name x p) (e :: es) [] pos) (eN f cs) :=
 PE.weak (pX hc hg hm hv ha hn hdb he hpl) fun σ H Q hq=>by
  obtain ⟨Φ,η,m,t,s,e,k⟩:=hq
  unfold eN at e
  obtain ⟨l,el,e⟩:=Zz.mp e
  exact Ay ok s el e k
theorem iY {r:List V->Hp->VK->Prop} {f:Ws->Wr} {Ty:String} {x:Str} (hc:dD X (.type Ty) r) (ok:fj G r f) (hg:Gl X x) (hm:X.mg x=none) (hv:bootBuiltins x=some (.type Ty)) (ha:PVs G X (e :: es) cs)
  (hn:x ≠ "__name__" := by decide) (hdb:(x == ("__debug__" : Str))=false:=by decide)
  (he:starEach (e :: es) X.env=(false,eval e X.env) :: starEach es X.env:=by rfl) (hpl:(backTo pos (starEach es X.env)).any (·.1)=false:=by rfl):PV G X (.Call (.Name x p) (e :: es) [] pos) (eN f cs) :=
 PE.weak (uP hc hg hm hv ha hn hdb he hpl) fun σ H Q hq=>by
  obtain ⟨Φ,η,m,t,s,e,k⟩:=hq
  unfold eN at e
  obtain ⟨l,el,e⟩:=Zz.mp e
  exact Ay ok s el e k
theorem cM (h:PVs G X es cs):PV G X (.List es pos) (dF cs):=PE.weak (A4 h) fun σ H Q hq=>by
 obtain ⟨Φ,η,m,t,s,e,k⟩:=hq
 unfold dF at e
 obtain ⟨l,el,e⟩:=Zz.mp e
 refine ⟨Φ,η,l,s,el,fun vs H' Fs e1 r1 f1=>?_⟩
 have A:Args G Φ η H H' l vs Fs:=⟨e1,r1,f1⟩
 obtain ⟨_,hl,_⟩:=o6 e
 refine ⟨by rw [r1.len.1,← fD];exact hl,iW e1 e r1 (f1.join A.len) fun v H2 F e2 r2 f2=>k v H2 F (e1.trans e2) r2 f2⟩
theorem kz {x1} (h:PVs G X es cs):PV G X (.Tuple es x1 pos) (lW cs):=PE.weak (A7 h) fun σ H Q hq=>by
 obtain ⟨Φ,η,m,t,s,e,k⟩:=hq
 unfold lW at e
 obtain ⟨l,el,e⟩:=Zz.mp e
 refine ⟨Φ,η,l,s,el,fun vs H' Fs e1 r1 f1=>?_⟩
 have A:Args G Φ η H H' l vs Fs:=⟨e1,r1,f1⟩
 unfold qV at e
 split at e
 ·rename_i hl
  cases e
  refine ⟨by rw [r1.len.1,← fD,trees,Zw];exact hl,fun q hq=>?_⟩
  have r2:Rp G (upd H' q (.tup vs)) (.ref q) (.tup (trees l)) Fs.flatten:=.tup ax (r1.same (cS hq))
  exact k _ _ _ (e1.trans (cS hq)) r2 (Fp.up (f1.join A.len) r2)
 ·cases e
theorem zd {H:Hp} {v:V} {t:T} {F:Wz} {k:Bool} (r:Rp G H v t F) (h:tru t=some k):A8 G.K v H k:=by
 cases r with
 | non=>cases h;rfl
 | bl b=>cases h;rfl
 | int i=>cases h;rfl
 | str s hl =>
  cases h
  refine ⟨by rw [dz,← fD];exact hl.1,?_⟩
  rw [dz]
  cases s with
  | nil=>rfl
  | cons a r =>
   have:((List.length (a :: r):Int) != 0)=true:=by simp;lia
   rw [this]
   rfl
 | scr h'=>cases h
 | tup h' q =>
  cases h
  refine .inr (.inl ⟨_,SqT.of h',?_⟩)
  have:=q.len.1
  rename_i vs ts _
  cases vs <;> cases ts <;> simp_all
 | lst h' q =>
  cases h
  refine .inl ⟨_,SqL.of h',?_⟩
  have:=q.len.1
  rename_i vs ts _
  cases vs <;> cases ts <;> simp_all
 | dct h' hl q =>
  cases h
  refine .inr (.inr ⟨_,h',?_⟩)
  have:=q.len.1
  rename_i ks vs ts _
  cases ks <;> cases vs <;> cases ts <;> simp_all
 | dctT h' hl q=>cases h
 | dctN h' hl n q=>cases h
 | dctZ _ _ _=>cases h
 | exc _ _=>cases h
 | ins _ _ _ _=>cases h
 | mk _ _=>cases h
theorem ki (h:PV G X a ca) (hK:X.K=G.K:=by rfl) (he:∀ whole,isTrue a X.env whole=(do let v ← whole;standAt a.pos;holding [v] (truthy v)):=by intro _;rfl):PVT G X a ca :=
 PT.weak (wL h he) fun σ H Q ⟨Φ,η,m,r,b,s,e,eb,k⟩=>⟨Φ,η,m,r,s,e,fun v H' F e1 r1 f1=>⟨b,by rw [hK];exact zd r1 eb,k H' e1⟩⟩
noncomputable def PVW (G:Gx) (X:Cx) (e:Expr) (c:Ex):Prop:=PW X e (tT G c)
theorem PW.weak {X:Cx} {e:Expr} {t t':TT} (h:PW X e t) (w:∀ σ H Q,t' σ H Q->t σ H Q):PW X e t':=fun wh pins s σ H Q I q=>h wh pins s σ H Q I (w σ H Q q)
theorem PVW.pvt (h:PVW G X e ca):PVT G X e ca:=PW.pt h
variable {rest:List Expr}
theorem qM {η:VS.Env} {m:Md} {r:T} (e:iN ca cb η=some (m,r)):(∃ n,ca η=some (n,.bl true)/\cb η=some (m,r))\/(∃ n,ca η=some (n,.bl false)/\m=.fr/\r=.bl false):=by
 unfold iN at e
 obtain ⟨⟨n,x⟩,ea,e⟩:=Zz.mp e
 split at e
 ·rename_i h
  cases (show x=.bl true from h)
  exact .inl ⟨n,ea,e⟩
 ·rename_i h
  cases (show x=.bl false from h)
  cases e
  exact .inr ⟨n,ea,rfl,rfl⟩
 ·cases e
theorem yn {η:VS.Env} {m:Md} {r:T} (e:eOr ca cb η=some (m,r)):(∃ n,ca η=some (n,.bl false)/\cb η=some (m,r))\/(∃ n,ca η=some (n,.bl true)/\m=.fr/\r=.bl true):=by
 unfold eOr at e
 obtain ⟨⟨n,x⟩,ea,e⟩:=Zz.mp e
 split at e
 ·rename_i h
  cases (show x=.bl true from h)
  cases e
  exact .inr ⟨n,ea,rfl,rfl⟩
 ·rename_i h
  cases (show x=.bl false from h)
  exact .inl ⟨n,ea,e⟩
 ·cases e
theorem o7 (ha:PVT G X a ca) (hb:PVW G X (.BoolOp .And (b :: rest) pos) cb):PVW G X (.BoolOp .And (a :: b :: rest) pos) (iN ca cb) :=
 PW.weak (vb ha hb) fun σ H Q hq=>by
  obtain ⟨Φ,η,m,r,k,s,e,eb,q⟩:=hq
  rcases qM e with ⟨n,ea,e2⟩ | ⟨n,ea,rfl,rfl⟩
  ·refine ⟨Φ,η,n,_,true,s,ea,rfl,fun H' e1=>?_⟩
   refine uG ?_
   exact ⟨Φ,η,m,r,k,s.same e1,e2,eb,fun H2 e2=>q H2 (e1.trans e2)⟩
  ·refine ⟨Φ,η,n,_,false,s,ea,rfl,fun H' e1=>?_⟩
   refine uv ?_
   cases eb
   exact q H' e1
theorem oK (ha:PVT G X a ca) (hb:PVW G X (.BoolOp .Or (b :: rest) pos) cb):PVW G X (.BoolOp .Or (a :: b :: rest) pos) (eOr ca cb) :=
 PW.weak (Dw ha hb) fun σ H Q hq=>by
  obtain ⟨Φ,η,m,r,k,s,e,eb,q⟩:=hq
  rcases yn e with ⟨n,ea,e2⟩ | ⟨n,ea,rfl,rfl⟩
  ·refine ⟨Φ,η,n,_,false,s,ea,rfl,fun H' e1=>?_⟩
   refine uv ?_
   exact ⟨Φ,η,m,r,k,s.same e1,e2,eb,fun H2 e2=>q H2 (e1.trans e2)⟩
  ·refine ⟨Φ,η,n,_,true,s,ea,rfl,fun H' e1=>?_⟩
   refine uG ?_
   cases eb
   exact q H' e1
theorem qF {η:VS.Env} {m:Md} {r:T} (e:j7 ca η=some (m,r)):∃ n b,ca η=some (n,.bl b)/\m=.fr/\r=.bl (!b):=by
 unfold j7 at e
 obtain ⟨⟨n,x⟩,ea,e⟩:=Zz.mp e
 split at e
 ·rename_i b h
  cases (show x=.bl b from h)
  cases e
  exact ⟨n,b,ea,rfl,rfl⟩
 ·cases e
theorem i4 (ha:PVT G X a ca):PVT G X (.UnaryOp .Not a pos) (j7 ca):=PT.weak (Ca ha) fun σ H Q hq=>by
 obtain ⟨Φ,η,m,r,k,s,e,eb,q⟩:=hq
 obtain ⟨n,b,ea,rfl,rfl⟩:=qF e
 cases eb
 exact ⟨Φ,η,n,_,b,s,ea,rfl,fun H' e1=>q H' e1⟩
theorem Cq (ha:PV G X a ca):PV G X (.UnaryOp .Not a pos) (j7 ca):=PE.weak (Bk ha) fun σ H Q hq=>by
 obtain ⟨Φ,η,m,r,s,e,q⟩:=hq
 obtain ⟨n,b,ea,rfl,rfl⟩:=qF e
 exact ⟨Φ,η,n,_,s,ea,fun v H' F e1 r1 f1=>⟨b,r1.bl_inv,q _ H' _ e1 (.bl _) Fp.nil⟩⟩
theorem Cs {op} (h:PV G X a ca):PV G X (.BoolOp op [a] pos) ca:=BW h
theorem BZ (ha:PV G X a ca) (hb:PV G X (.BoolOp .And (b :: rest) pos) cb):PV G X (.BoolOp .And (a :: b :: rest) pos) (iN ca cb) :=
 PE.weak (BR ha hb) fun σ H Q hq=>by
  obtain ⟨Φ,η,m,r,s,e,q⟩:=hq
  rcases qM e with ⟨n,ea,e2⟩ | ⟨n,ea,rfl,rfl⟩
  ·refine ⟨Φ,η,n,_,s,ea,fun v H' F e1 r1 f1=>⟨true,r1.bl_inv,?_⟩⟩
   refine uG ?_
   exact ⟨Φ,η,m,r,s.same e1,e2,fun v H2 F e2 r2 f2=>q v H2 F (e1.trans e2) r2 (f2.back e1)⟩
  ·refine ⟨Φ,η,n,_,s,ea,fun v H' F e1 r1 f1=>⟨false,r1.bl_inv,?_⟩⟩
   refine uv ?_
   exact q _ H' _ e1 (.bl _) Fp.nil
theorem sD {H:Hp} {v:V} {t:T} {F:Wz} (r:Rp G H v t F):decide (v=.non)=isN t:=by
 cases r <;> simp [isN]
theorem AB {t:TE} {c:Ex} {σ:L2.St} {H:Hp} {Q:Bool->Hp->Prop} (h:tT G c σ H Q) (ht:∀ η m r,c η=some (m,r)->∃ b,r=.bl b) (w:∀ Q,tE G c σ H Q->t σ H Q):tB t σ H Q:=by
 obtain ⟨Φ,η,m,r,b,s,e,eb,k⟩:=h
 refine w _ ⟨Φ,η,m,r,s,e,fun v H' F e1 r1 f1=>?_⟩
 obtain ⟨b',er⟩:=ht η m r e
 rw [er] at eb r1
 cases (show some b'=some b from eb)
 exact ⟨_,r1.bl_inv,k H' e1⟩
end
section
variable {G:Gx} {X:Cx} {a b c e:Expr} {es:List Expr} {ca cb cc:Ex} {cs:Exs} {pos p:Pos}
theorem RpL.one {H:Hp} {vs:List V} {t:T} {Fs:Xk} (r:RpL G H vs [t] Fs):∃ v F,vs=[v]/\Fs=[F]/\Rp G H v t F:=by
 cases r with
 | cons r q=>cases q;exact ⟨_,_,rfl,rfl,r⟩
theorem RpL.two {H:Hp} {vs:List V} {t t':T} {Fs:Xk} (r:RpL G H vs [t,t'] Fs):∃ v v' F F',vs=[v,v']/\Fs=[F,F']/\Rp G H v t F/\Rp G H v' t' F':=by
 cases r with
 | cons r q =>
  obtain ⟨v',F',rfl,rfl,r'⟩:=q.one
  exact ⟨_,_,_,_,rfl,rfl,r,r'⟩
noncomputable def Cz (K:X8):List V->Hp->VK->Prop:=fun xs H Q=>(∃ x n,xs=[x]/\Du K x H n/\Q (.int n) H)\/(∃ a kvs,xs=[V.ref a]/\H a=some (.dK kvs)/\Q (.int kvs.length) H)
theorem rK:dD X (.builtin "len") (fun xs H Q=>∃ a kvs,xs=[V.ref a]/\H a=some (.dK kvs)/\Q (.int kvs.length) H):=by
 intro pins s σ H xs us Q I r h
 obtain ⟨a,kvs,rfl,ha,q⟩:=h
 obtain ⟨u,rfl,ru⟩:=vals1 r
 cases ru
 exact Da I (.inl ha) fun t s' I'=>⟨.int kvs.length,H,I',⟨t,rfl⟩,q⟩
theorem uw:dD X (.builtin "len") (Cz X.K):=wx.or rK
theorem B8:fj G (Cz G.K) cA:=by
 intro Φ η H0 H l vs Fs m t Q A e k
 refine L2.j4 fun P_ k_=>?_
 unfold cA at e
 split at e
 ·rename_i x
  obtain ⟨mx,x⟩:=x
  obtain ⟨n,en,e⟩:=Zy.mp e
  cases e
  obtain ⟨v,F,rfl,rfl,r⟩:=(show RpL G H vs [x] Fs from A.rp).one
  have fin:Q (.int (n:Int)) H:=bh k (.int _)
  cases r with
  | non=>cases en
  | bl b=>cases en
  | int i=>cases en
  | str s hl =>
   cases en
   refine k_ ?_
   exact .inl ⟨_,_,rfl,⟨by rw [dz,← fD];exact hl.1,rfl⟩,by rw [dz];exact fin⟩
  | scr h =>
   cases en
   refine k_ ?_
   refine .inl ⟨_,_,rfl,.inl ⟨_,h.seq,rfl⟩,?_⟩
   rw [Zw]
   exact fin
  | tup h q =>
   cases en
   refine k_ ?_
   refine .inl ⟨_,_,rfl,.inr ⟨_,SqT.of h,rfl⟩,?_⟩
   rw [q.len.1]
   exact fin
  | lst h q =>
   cases en
   refine k_ ?_
   refine .inl ⟨_,_,rfl,.inl ⟨_,SqL.of h,rfl⟩,?_⟩
   rw [q.len.1]
   exact fin
  | dct h hl q =>
   cases en
   refine k_ ?_
   refine .inr ⟨_,_,rfl,h,?_⟩
   rename_i ks ws ts _
   have e1:=q.len.1
   rw [Yv,Zw] at fin
   rw [Yv,e1]
   exact fin
  | dctT h hl q=>cases en
  | dctN h hl n q=>cases en
  | dctZ _ _ _=>cases en
  | exc _ _=>cases en
  | ins _ _ _ _=>cases en
  | mk _ _=>cases en
 ·cases e
theorem zE:fj G (fun xs H Q=>∃ i j,xs=[.int i,.int j]/\Q (.int (if j < i then j else i)) H) qq:=by
 intro Φ η H0 H l vs Fs m t Q A e k
 unfold qq at e
 split at e
 ·rename_i _ i _ j
  cases e
  obtain ⟨v,v',F,F',rfl,rfl,r,r'⟩:=(show RpL G H vs [.int i,.int j] Fs from A.rp).two
  exact ⟨i,j,by rw [r.int_inv,r'.int_inv],bh k (.int _)⟩
 ·cases e
noncomputable def AD (K:X8):List V->Hp->VK->Prop:=fun xs H Q=>∃ p ys,xs=[.ref p]/\(SqL K H p ys\/SqT K H p ys)/\∀ l,H l=none->Q (.ref l) (upd H l (.lst ys))
theorem sL:fj G (AD G.K) Ae:=by
 intro Φ η H0 H l vs Fs m t Q A e k
 unfold Ae at e
 split at e
 ·rename_i mx x
  obtain ⟨v,F,rfl,rfl,rx⟩:=(show RpL G H vs [.lst x] Fs from A.rp).one
  obtain ⟨a,ys,Gs,rfl,rfl,ha,ra⟩:=rx.lst_inv
  have f:=A.fp.each 0 _ _ rfl rfl
  exact ⟨a,ys,rfl,.inl (SqL.of ha),iW A.same e ra (f.sub (Yz _ _)) k⟩
 ·rename_i mx x
  obtain ⟨v,F,rfl,rfl,rx⟩:=(show RpL G H vs [.tup x] Fs from A.rp).one
  obtain ⟨a,ys,Gs,rfl,rfl,ha,ra⟩:=rx.tup_inv
  have f:=A.fp.each 0 _ _ rfl rfl
  exact ⟨a,ys,rfl,.inr (SqT.of ha),iW A.same e ra f k⟩
 ·cases e
noncomputable def tO (G:Gx) (c:Option Ex):TO:=fun σ H Q=>∃ Φ η o,SR G Φ η σ H/\t4 c η=some o/\∀ H',aG H H'->Q o H'
noncomputable def PVO (G:Gx) (X:Cx) (e:Option Expr) (c:Option Ex):Prop:=PO X e (tO G c)
theorem PO.weak {X:Cx} {e:Option Expr} {t t':TO} (h:PO X e t) (w:∀ σ H Q,t' σ H Q->t σ H Q):PO X e t':=fun pins s σ H Q I q=>h pins s σ H Q I (w σ H Q q)
theorem qx (h:PV G X a ca):PVO G X (some a) (some ca):=PO.weak (ub h) fun σ H Q hq=>by
 obtain ⟨Φ,η,o,s,e,k⟩:=hq
 obtain ⟨⟨m,y⟩,ea,e⟩:=Zz.mp (show (ca η).bind (fun y=>(int? y.2).map some)=some o from e)
 obtain ⟨i,ei,e⟩:=Zy.mp e
 cases e
 refine ⟨Φ,η,m,y,s,ea,fun v H' F e1 r1 f1=>?_⟩
 cases y with
 | int j =>
  cases ei
  exact ⟨_,r1.int_inv,k H' e1⟩
 | _=>cases ei
theorem kQ {α:Type} (l:List α) (lo hi:Option Int):cut l lo hi=(l.drop (HT.sIx l.length 0 lo)).take (HT.sIx l.length l.length hi - HT.sIx l.length 0 lo):=by
 unfold cut
 cases lo <;> cases hi <;> rfl
theorem wW (lo hi:Option Int) (n:Nat):Builtin.Str.strSliceIndices lo hi 1 n=Builtin.Str.strSliceIndices (some ((min (HT.sIx n 0 lo) n:Nat):Int)) (some ((min (HT.sIx n n hi) n:Nat):Int)) 1 n:=by
 have e1:∀ k:Nat,¬ ((k:Int) < 0):=fun k=>by lia
 unfold Builtin.Str.strSliceIndices
 simp only [show (1:Int) > 0 by decide,if_true,e1,if_false]
 congr 1
 ·cases lo with
  | none=>simp only [HT.sIx];lia
  | some i =>
   simp only [HT.sIx]
   by_cases h:i < 0
   ·simp only [h,if_true];lia
   ·simp only [h,if_false];lia
 ·cases hi with
  | none=>simp only [HT.sIx];lia
  | some i =>
   simp only [HT.sIx]
   by_cases h:i < 0
   ·simp only [h,if_true];lia
   ·simp only [h,if_false];lia
theorem ji (s:Tx) (lo hi:Option Int):PySem.StrLaws.sliceText (sx s) lo hi=sx (cut s lo hi):=by
 have key:PySem.StrLaws.sliceText (sx s) lo hi=PySem.StrLaws.sliceText (sx s) (some ((min (HT.sIx s.length 0 lo) s.length:Nat):Int)) (some ((min (HT.sIx s.length s.length hi) s.length:Nat):Int)):=by
  unfold PySem.StrLaws.sliceText
  rw [dz,wW]
 rw [key]
 have hd:∀ a:Nat,s.drop (min a s.length)=s.drop a:=fun a=>by
  by_cases h:a<=s.length
  ·rw [YB h]
  ·rw [X3 (by exact Y9 h),YS (Zi _),YS (by exact Y9 h)]
 by_cases h:min (HT.sIx s.length 0 lo) s.length<=min (HT.sIx s.length s.length hi) s.length
 ·rw [PySem.StrLaws.sliceText_nat (sx s) h (by rw [dz];exact Nat.min_le_right _ _),kQ]
  show (⟨_⟩:Str)=⟨_⟩
  congr 2
  show ((sx s).cps.toList.drop _).take _=_
  have:(sx s).cps.toList=s:=rfl
  rw [this,hd]
  by_cases h2:HT.sIx s.length 0 lo<=s.length
  ·rw [YB h2]
   by_cases h3:HT.sIx s.length s.length hi<=s.length
   ·rw [YB h3]
   ·rw [X3 (by exact Y9 h3),Xg (by rw [YT];exact Zi _),Xg (by rw [YT];lia)]
  ·rw [YS (by exact Y9 h2)]
   simp
 ·have e0:cut s lo hi=[]:=by
   rw [kQ]
   have:HT.sIx s.length s.length hi - HT.sIx s.length 0 lo=0:=by omega
   rw [this,List.take_zero]
  rw [e0]
  unfold PySem.StrLaws.sliceText
  have e2:Builtin.Str.strSliceIndices (some ((min (HT.sIx s.length 0 lo) s.length:Nat):Int)) (some ((min (HT.sIx s.length s.length hi) s.length:Nat):Int)) 1 (sx s).length=[]:=by
   have e1:∀ k:Nat,¬ ((k:Int) < 0):=fun k=>by lia
   unfold Builtin.Str.strSliceIndices sliceRange
   simp only [show (1:Int) > 0 by decide,if_true,e1,if_false,dz]
   rw [Zo (by omega)]
   rfl
  rw [e2]
  have:¬ ((1:Int) == 1 && ([]:Ww).length == (sx s).length)=true:=by
   rw [dz]
   simp
   lia
  rw [Zo this]
  rfl
noncomputable def Do:V->Option Int->Option Int->Hp->VK->Prop:=fun x lo hi H Q=>∃ z,x=.str z/\z.length<=sizeLine/\Q (.str (PySem.StrLaws.sliceText z lo hi)) H
theorem part_of {v:Value} {o:Option Int} (h:IsPart v o):∃ q:Option (Int×Tok),v=partValue q/\o=q.map (·.1):=by
 cases h with
 | none=>exact ⟨none,rfl,rfl⟩
 | int i t=>exact ⟨some (i,t),rfl,rfl⟩
theorem oV {α β:Type} (f:α->Option β) (l:List α):(l.filterMap f).length<=l.length:=List.length_filterMap_le f l
theorem yo (lo hi:Option Int) (n:Nat):(Builtin.Str.strSliceIndices lo hi 1 n).length<=n:=by
 rw [wW]
 by_cases h:min (HT.sIx n 0 lo) n<=min (HT.sIx n n hi) n
 ·rw [PySem.StrLaws.strSliceIndices_plain h (by exact Nat.min_le_right _ _),Zw,ZG]
  lia
 ·have e1:∀ k:Nat,¬ ((k:Int) < 0):=fun k=>by lia
  unfold Builtin.Str.strSliceIndices sliceRange
  simp only [show (1:Int) > 0 by decide,if_true,e1,if_false]
  rw [Zo (by omega)]
  simp
theorem wK:SlR X Do:=by
 intro pins s σ H x v vl vu lo hi sl Q I rx hs pl pu h
 obtain ⟨z,rfl,hz,q⟩:=h
 obtain ⟨t,rfl⟩:=rx
 obtain ⟨l,rfl,rfl⟩:=part_of pl
 obtain ⟨u,rfl,rfl⟩:=part_of pu
 refine ⟨"str",_,F.slot_str_getitem.lookup,typeIs_str s z t,wpAny_getItem_str_slice (l:=l) (u:=u) (st:=none) hs rfl ?_⟩
 unfold sliceMade
 split
 ·rename_i hc
  refine ⟨.str z,H,I,⟨t,rfl⟩,?_⟩
  have e:PySem.StrLaws.sliceText z (l.map (·.1)) (u.map (·.1))=z:=by
   unfold PySem.StrLaws.sliceText
   exact Zp hc
  rw [e] at q
  exact q
 ·rename_i hc
  refine ⟨ZI ?_ hz,.str _,H,I.tok _,⟨_,rfl⟩,?_⟩
  ·show (List.filterMap _ _).toArray.size<=_
   rw [ZX]
   exact ZI (oV _ _) (yo _ _ _)
  ·have e:PySem.StrLaws.sliceText z (l.map (·.1)) (u.map (·.1))=⟨((slicePicked z l u none).filterMap (z.cps[·]?)).toArray⟩:=by
    unfold PySem.StrLaws.sliceText
    exact Zo hc
   rw [e] at q
   exact q
noncomputable def rSl (K:X8):V->Option Int->Option Int->Hp->VK->Prop:=fun x lo hi H Q=>Do x lo hi H Q\/DG K x lo hi H Q
theorem Ew:SlR X (rSl X.K):=wK.or zU
theorem t9 {α:Type} (l:List α) (lo hi:Option Int):(cut l lo hi).length<=l.length:=by
 rw [kQ,YH,YT]
 lia
theorem RpL.cut {H:Hp} {vs:List V} {ts:Wq} {Fs:Xk} (r:RpL G H vs ts Fs) (lo hi:Option Int):RpL G H (uS vs lo hi) (VS.cut ts lo hi) (VS.cut Fs lo hi):=by
 have h:=r.len
 rw [kQ,kQ,h.2]
 unfold uS
 rw [h.1]
 exact (r.drop _).take _
theorem oY {α:Type} (l:List α) (lo hi:Option Int):(VS.cut l lo hi).Sublist l:=by
 rw [kQ]
 exact (List.take_sublist _ _).trans (List.drop_sublist _ _)
theorem vR {F G:Xk} (h:F.Sublist G):F.flatten.Sublist G.flatten:=by
 induction h with
 | slnil=>exact Y2 _
 | cons a _ ih=>rw [ZP];exact ih.trans (Yd _ _)
 | cons_cons a _ ih=>rw [ZP,ZP];exact (Y2 _).append ih
theorem wH {lo hi:Option Expr} {cl ch:Option Ex} {p2:Pos} (ha:PV G X a ca) (hl:PVO G X lo cl) (hh:PVO G X hi ch) (hK:X.K=G.K:=by rfl):PV G X (.Subscript a (.Slice lo hi none p2) pos) (eSl ca cl ch) :=
 PE.weak (qd Ew ha hl hh) fun σ H Q hq=>by
  obtain ⟨Φ,η,m,t,s,e,k⟩:=hq
  unfold eSl at e
  obtain ⟨⟨mx,x⟩,ea,e'⟩:=Zz.mp e
  obtain ⟨l,el,e''⟩:=Zz.mp e'
  obtain ⟨h,eh,e4⟩:=Zz.mp e''
  clear e e' e''
  refine ⟨Φ,η,mx,x,s,ea,fun v H1 F e1 r1 f1=>⟨Φ,η,l,s.same e1,el,fun H2 e2=>⟨Φ,η,h,(s.same e1).same e2,eh,fun H3 e3=>?_⟩⟩⟩
  have e03:aG H H3:=(e1.trans e2).trans e3
  have r3:=(r1.same e2).same e3
  unfold oSl at e4
  split at e4
  ·rename_i m' z q
   cases q
   cases e4
   obtain ⟨rfl,hl⟩:=r3.str_inv
   refine .inl ⟨_,rfl,by rw [dz,← fD];exact hl.1,?_⟩
   rw [ji]
   exact k _ H3 _ e03 (.str _ ⟨ZI (t9 _ _ _) hl.1,fun c hc=>hl.2 c ((oY _ _ _).subset hc)⟩) Fp.nil
  ·rename_i m' z q
   cases q
   obtain ⟨a',vs,Fs,rfl,rfl,ha',ra⟩:=r3.lst_inv
   refine .inr ⟨a',vs,rfl,by rw [hK];exact SqL.of ha',iW e03 e4 (ra.cut l h) ((f1.sub (Yz _ _)).sub (vR (oY _ _ _))) fun v H4 F e5 r4 f4=>k v H4 F (e03.trans e5) r4 f4⟩
  ·cases e4
noncomputable def tyS:Ty->String
 | .int => "int"
 | .str => "str"
 | .bool => "bool"
 | .list => "list"
 | .tuple => "tuple"
 | .dict => "dict"
noncomputable def rIs (K:X8):List V->Hp->VK->Prop:=fun vs H Q=>∃ x c t b,vs=[x,.ty c]/\TyOf K H x t/\PySem.W.kitOne K t (.type c)=some b/\Q (.bl b) H
theorem zT:dD X (.builtin "isinstance") (rIs X.K):=by
 intro pins s σ H xs us Q I r h
 obtain ⟨x,c,t,b,rfl,ty,e,q⟩:=h
 obtain ⟨u,w',rfl,r1,r2⟩:=vals2 r
 cases r2
 exact uX I r1 ty e fun tk=>⟨.bl b,H,I.tok _,rfl,q⟩
theorem yF (K:X8) (ty:Ty):(PySem.W.kitOne K (.type "NoneType") (.type (tyS ty))=some false)/\(PySem.W.kitOne K (.type "bool") (.type (tyS ty))=some (pO ty (.bl true)))/\(PySem.W.kitOne K (.type "int") (.type (tyS ty))=some (pO ty (.int 0))) ∧
  (PySem.W.kitOne K (.type "str") (.type (tyS ty))=some (pO ty (.str [])))/\(PySem.W.kitOne K (.type "list") (.type (tyS ty))=some (pO ty (.lst [])))/\(PySem.W.kitOne K (.type "tuple") (.type (tyS ty))=some (pO ty (.tup [])))/\(PySem.W.kitOne K (.type "dict") (.type (tyS ty))=some (pO ty (.dct 0 []))):=by
 cases ty <;> refine ⟨?_,?_,?_,?_,?_,?_,?_⟩ <;> kernel_rfl
theorem CP {H:Hp} {v:V} {t:T} {F:Wz} (ty:Ty) (r:Rp G H v t F) (h:tK t=true):∃ t',TyOf G.K H v t'/\PySem.W.kitOne G.K t' (.type (tyS ty))=some (pO ty t):=by
 obtain ⟨k1,k2,k3,k4,k5,k6,k7⟩:=yF G.K ty
 cases r with
 | non=>exact ⟨_,.non,by rw [k1];cases ty <;> rfl⟩
 | bl b=>exact ⟨_,.bl b,by rw [k2];cases ty <;> rfl⟩
 | int i=>exact ⟨_,.int i,by rw [k3];cases ty <;> rfl⟩
 | str s _=>exact ⟨_,.str _,by rw [k4];cases ty <;> rfl⟩
 | scr _=>cases h
 | tup h' q=>exact ⟨_,.tup h',by rw [k6];cases ty <;> rfl⟩
 | lst h' q=>exact ⟨_,.lst h',by rw [k5];cases ty <;> rfl⟩
 | dct h' l q=>exact ⟨_,.dK h',by rw [k7];cases ty <;> rfl⟩
 | dctT h' l q=>exact ⟨_,.dT h',by rw [k7];cases ty <;> rfl⟩
 | dctN h' l n q=>simp at h
 | dctZ _ _ _=>cases h
 | exc _ _=>cases h
 | ins _ _ _ _=>cases h
 | mk _ _=>cases h
theorem Dp (ty:Ty) {x:Str} {p1 p2:Pos} (ha:PV G X a ca) (hg:Gl X "isinstance") (hm:X.mg "isinstance" = none) (hg2:Gl X x) (hm2:X.mg x=none) (hv:bootBuiltins x=some (.type (tyS ty))) (hK:X.K=G.K:=by rfl)
  (hn:x ≠ "__name__" := by decide) (hdb:(x == ("__debug__" : Str))=false:=by decide) (hs:starEach [a,.Name x p2] X.env=(false,eval a X.env) :: starEach [.Name x p2] X.env:=by rfl)
  (hs2:starEach [.Name x p2] X.env=(false,eval (.Name x p2) X.env) :: starEach [] X.env:=by rfl) (hpl:(backTo pos (starEach [Expr.Name x p2] X.env)).any (·.1)=false:=by rfl) :
  PV G X (.Call (.Name "isinstance" p1) [a,.Name x p2] [] pos) (eIs ty ca) :=
 PE.weak (pX zT hg hm boot_isinstance (cZ ha (cZ (yZ (v:=.ty (tyS ty)) hg2 hm2 hv rfl hn hdb) g7 hs2) hs) (by decide) rfl hs hpl) fun σ H Q hq=>by
  obtain ⟨Φ,η,m,t,s,e,k⟩:=hq
  unfold eIs at e
  obtain ⟨⟨mx,y⟩,ea,e'⟩:=Zz.mp e
  split at e'
  ·rename_i hk
   cases e'
   refine ⟨Φ,η,mx,y,s,ea,fun v H' F e1 r1 f1=>?_⟩
   obtain ⟨t',h1,h2⟩:=CP ty r1 hk
   exact ⟨v,tyS ty,t',_,rfl,by rw [hK];exact h1,by rw [hK];exact h2,k _ H' _ e1 (.bl _) Fp.nil⟩
  ·cases e'
end
section
variable {G:Gx} {X:Cx} {a b c e:Expr} {es:List Expr} {ca cb cc:Ex} {cs:Exs} {pos p:Pos}
noncomputable def DI (G:Gx) (r:V->List V->Hp->VK->Prop) (f:Val->Ws->Wr):Prop:=∀ (Φ:Fps) (η:VS.Env) (H0 H1 H:Hp) (x:Val) (v:V) (F:Wz) (l:Ws) (vs:List V) (Fs:Xk) (m:Md) (t:T) (Q:VK),
 aG H0 H1->Rp G H v x.2 F->Fp Φ η H0 x.1 F->Args G Φ η H1 H l vs Fs->f x l=some (m,t)->(∀ v H' F,aG H H'->Rp G H' v t F->Fp Φ η H0 m F->Q v H')->r v vs H Q
theorem CT {T' id:String} {name:Str} {r:V->List V->Hp->VK->Prop} {f:Val->Ws->Wr} {apos cpos:Pos} (pa:PlainAttrs T') (slot:Slot T' name id) (hty:typeOf (.builtin id)=pure (.type "method_descriptor")) (hm:MtR X id r) (ok:DI G r f)
  (hT:∀ H v (x:Val) F l z,Rp G H v x.2 F->f x l=some z->tyV G.K T' v H) (ho:PV G X a ca) (ha:PVs G X (e :: es) cs) (hK:X.K=G.K:=by rfl)
  (hbase:attributeBase a name X.env (eval a X.env)=eval a X.env:=by rfl)
  (hfew:((backTo cpos (starEach (e :: es) X.env)).all (fun x=>!x.1) && (backToKw cpos (keywordEach [] X.env)).all (fun x=>x.1.isSome)
   && decide ((e :: es).length+([]:List Keyword).length+(if ([]:List Keyword).isEmpty then 0 else 1) < 30))=true:=by rfl)
  (hline:(apos.endLine == cpos.line)=true:=by rfl) (hs:starEach (e :: es) X.env=(false,eval e X.env) :: starEach es X.env:=by rfl) (hplain:(backTo cpos (starEach es X.env)).any (·.1)=false:=by rfl) :
  PV G X (.Call (.Attribute a name apos) (e :: es) [] cpos) (eM f ca cs) :=
 PE.weak (qR pa slot hty hm ho ha hbase hfew hline hs hplain) fun σ H Q hq=>by
  obtain ⟨Φ,η,m,t,s,e,k⟩:=hq
  unfold eM at e
  obtain ⟨x,ea,e'⟩:=Zz.mp e
  obtain ⟨l,el,e''⟩:=Zz.mp e'
  refine ⟨Φ,η,x.1,x.2,s,ea,fun v H1 F e1 r1 f1=>⟨by rw [hK];exact hT H1 v x F l _ r1 e'',Φ,η,l,s.same e1,el,fun vs H2 Fs e2 r2 f2=>?_⟩⟩
  exact ok Φ η H H1 H2 x v F l vs Fs m t Q e1 (r1.same e2) f1 ⟨e2,r2,f2⟩ e'' fun v' H3 F' e3 r3 f3=>k v' H3 F' ((e1.trans e2).trans e3) r3 f3
theorem zh:∀ (sep:Tx) (ss:List Tx),Txt.join (sx sep) (ss.map sx)=sx (de sep ss):=by
 intro sep ss
 have fold:∀ (l:List Tx) (acc:Tx),(l.map sx).foldl (fun acc p=>acc++(sx sep).cps++p.cps) acc.toArray=(l.foldl (fun acc p=>acc++sep++p) acc).toArray:=by
  intro l
  induction l with
  | nil=>intro acc;rfl
  | cons x r ih =>
   intro acc
   rw [Zn,YZ,YZ,← ih]
   congr 1
   simp [sx]
 have jf:∀ (r:List Tx) (acc:Tx),r.foldl (fun acc p=>acc++sep++p) acc=de sep (acc :: r):=by
  intro r
  induction r with
  | nil=>intro acc;rfl
  | cons x r ih =>
   intro acc
   rw [YZ,ih]
   cases r with
   | nil=>rfl
   | cons y r=>simp [de]
 cases ss with
 | nil=>rfl
 | cons x r =>
  show (⟨_⟩:Str)=⟨_⟩
  congr 1
  show ((r.map sx).foldl _ x.toArray)=_
  rw [fold,jf]
theorem oH {H:Hp}:∀ {vs:List V} {l:Wq} {Fs:Xk} {ss:List Tx},RpL G H vs l Fs->strs? l=some ss->vs=ss.map fun s=>V.str (sx s)
 | _,_,_,_,.nil,e=>by cases e;rfl
 | _,_,_,_,.cons (t:=t) r q,e=>by
  cases t with
  | str s =>
   simp only [strs?] at e
   obtain ⟨ss',e1,e2⟩:=Zy.mp e
   subst e2
   rw [oH q e1,r.str_inv.1]
   rfl
  | _=>cases e
theorem mP:∀ {ss:List Tx} {us:Wy},aN (ss.map fun s=>V.str (sx s)) us->StrsAre us (ss.map sx)
 | [],_,h=>by cases h;exact .nil
 | s :: ss,_,h=>by
  cases h with
  | cons r q =>
   obtain ⟨t,rfl⟩:=r
   exact .cons _ _ (mP q)
noncomputable def rJoin (K:X8):V->List V->Hp->VK->Prop:=fun x vs H Q=>∃ sep p ss,x=.str (sx sep)/\vs=[.ref p]/\SqL K H p (ss.map fun s=>V.str (sx s))/\total ss+ss.length * sep.length<=16777216/\Q (.str (sx (de sep ss))) H
theorem tq:∀ ss:List Tx,((ss.map sx).map (·.length)).sum=total ss
 | []=>rfl
 | s :: r=>by
  rw [Zn,Zn,YD,tq r,dz]
  rfl
theorem sY:MtR X "str.join" (rJoin X.K):=by
 intro pins s σ H x xs v us Q I rx rxs h
 obtain ⟨sep,p,ss,rfl,rfl,hq,hl,q⟩:=h
 obtain ⟨t,rfl⟩:=rx
 obtain ⟨u,rfl,ru⟩:=vals1 rxs
 cases ru
 obtain ⟨its,r,pl,hz⟩:=I.list hq
 refine join_list pl.isList (ys:=ss.map sx) (by simpa using mP r) ?_ fun t' k=>⟨.str _,H,I.tok _,⟨_,by rw [zh]⟩,q⟩
 rw [tq,Zw,dz]
 exact hl
theorem jz (sep:Tx):∀ ss:List Tx,(de sep ss).length<=total ss+ss.length * sep.length
 | []=>by simp [de,total]
 | [x]=>by simp [de,total]
 | x :: y :: r=>by
  have:=jz sep (y :: r)
  simp only [de,total,Zv,Zl] at this ⊢
  have e:(r.length+1+1) * sep.length=(r.length+1) * sep.length+sep.length:=Nat.succ_mul _ _
  lia
theorem jy (sep:Tx):∀ (ss:List Tx) (c:Nat),c∈de sep ss->c∈sep\/∃ s∈ss,c∈s
 | [],c,h=>by simp [de] at h
 | [x],c,h=>.inr ⟨x,Zt,h⟩
 | x :: y :: r,c,h=>by
  simp only [de,Zb] at h
  rcases h with (h | h) | h
  ·exact .inr ⟨x,Zt,h⟩
  ·exact .inl h
  ·exact (jy sep (y :: r) c h).imp id fun ⟨s,hs,hc⟩=>⟨s,Zu _ hs,hc⟩
theorem jA {H:Hp}:∀ {vs:List V} {l:Wq} {Fs:Xk} {ss:List Tx},RpL G H vs l Fs->strs? l=some ss->∀ s∈ss,∀ c∈s,c < 1114112
 | _,_,_,_,.nil,e,s,hs=>by cases e;simp at hs
 | _,_,_,_,.cons (t:=t) r q,e,s,hs=>by
  cases t with
  | str x =>
   simp only [strs?] at e
   obtain ⟨ss',e1,e2⟩:=Zy.mp e
   subst e2
   rcases Zj.mp hs with rfl | hs
   ·exact r.str_inv.2.2
   ·exact jA q e1 s hs
  | _=>cases e
theorem yi:DI G (rJoin G.K) jk:=by
 intro Φ η H0 H1 H x v F l vs Fs m t Q s01 r f A e k
 unfold jk at e
 split at e
 ·rename_i mx sep ml l'
  obtain ⟨ss,es',e'⟩:=Zz.mp e
  split at e'
  ·rename_i hl
   cases e'
   obtain ⟨w',F',rfl,rfl,rl⟩:=(show RpL G H vs [.lst l'] Fs from A.rp).one
   obtain ⟨a',ws,Gs,rfl,rfl,ha,ra⟩:=rl.lst_inv
   rw [oH ra es'] at ha
   refine ⟨sep,a',ss,r.str_inv.1,rfl,SqL.of ha,hl,bh k (.str _ ⟨ZI (jz sep ss) hl,fun c hc=>(jy sep ss c hc).elim (r.str_inv.2.2 c) fun ⟨s',hs',hc'⟩=>jA ra es' s' hs' c hc'⟩)⟩
  ·cases e'
 ·cases e
theorem pH {H:Hp} {v:V} {t:T} {F:Wz} (r:Rp G H v t F) (h:∃ s,t=.str s):tyV G.K "str" v H:=by
 obtain ⟨s,rfl⟩:=h
 rw [r.str_inv.1]
 rfl
theorem yM {apos cpos:Pos} (ho:PV G X a ca) (ha:PVs G X [e] cs) (hK:X.K=G.K:=by rfl)
  (hbase:attributeBase a "join" X.env (eval a X.env)=eval a X.env:=by rfl)
  (hfew:((backTo cpos (starEach [e] X.env)).all (fun x=>!x.1) && (backToKw cpos (keywordEach [] X.env)).all (fun x=>x.1.isSome)
   && decide ([e].length+([]:List Keyword).length+(if ([]:List Keyword).isEmpty then 0 else 1) < 30))=true:=by rfl)
  (hline:(apos.endLine == cpos.line)=true:=by rfl) (hs:starEach [e] X.env=(false,eval e X.env) :: starEach [] X.env:=by rfl) (hplain:(backTo cpos (starEach [] X.env)).any (·.1)=false:=by rfl) :
  PV G X (.Call (.Attribute a "join" apos) [e] [] cpos) (eM jk ca cs) :=
 CT PySem.F.plainAttrs_str PySem.F.slot_str_join PySem.F.type_str_join (hK ▸ sY) yi (fun H v x F l z r e=>pH r (by
  unfold jk at e
  split at e
  ·exact ⟨_,rfl⟩
  ·cases e)) ho ha hK hbase hfew hline hs hplain
end
end VS
end
section
namespace VS
@[simp] noncomputable def oIx (x y:Val):Wr:=match x.2 with
 | .dct 0 l=>if hU y.2 then (eU l y.2).map (sub x.1) else none
 | _=>aB x y
@[simp] noncomputable def flat:T->Bool
 | .non=>true
 | .bl _=>true
 | .int _=>true
 | .str _=>true
 | _=>false
@[simp] noncomputable def kF (x y:Val):Wr:=match y.2 with
 | .dct 0 l=>if hU x.2 then some (.fr,.bl (eU l x.2).isSome) else none
 | .lst l=>if flat x.2 && l.all flat then some (.fr,.bl (l.any fun y=>eqT y x.2)) else none
 | .tup l=>if flat x.2 && l.all flat then some (.fr,.bl (l.any fun y=>eqT y x.2)) else none
 | _=>none
@[simp] noncomputable def du (x y:Val):Wr:=match kF x y with
 | some (_,.bl b)=>some (.fr,.bl (!b))
 | _=>none
noncomputable def pm {α:Type} (f:T->Option (T×α)):List Ky->T->Option (T×α)
 | [],t=>f t
 | .fld k :: r,.obj (c+1) (q :: fs)=>(fs.findIdx? fun p=>p.1 == k).bind fun i=>(fs[i]?).bind fun p=>(pm f r p.2).map fun z=>(.obj (c+1) (q :: fs.set i (p.1,z.1)),z.2)
 | .un :: r,.obj 0 [(0,.bl true),(m,x)]=>(pm f r x).map fun z=>(.obj 0 [(0,.bl true),(m,z.1)],z.2)
 | .at (.int i) :: r,.lst l=>(ixP l.length i).bind fun j=>(l[j]?).bind fun x=>(pm f r x).map fun z=>(.lst (l.set j z.1),z.2)
 | .at k :: r,.dct 0 l=>if hU k then (l.findIdx? fun p=>eqT p.1 k).bind fun i=>(l[i]?).bind fun p=>(pm f r p.2).map fun z=>(.dct 0 (l.set i (p.1,z.1)),z.2) else none
 | _,_=>none
end VS
end
section
namespace VS
open PySem PySem.Spec PyProof.Rows L2
section
variable {G:Gx} {X:Cx} {a b c e:Expr} {es:List Expr} {ca cb cc:Ex} {cs:Exs} {pos p:Pos}
mutual
noncomputable def toP:T->PyData
 | .non=>.none
 | .bl b=>.bool b
 | .int i=>.int i
 | .str s=>.str (sx s)
 | .tup l=>.tuple (m7 l)
 | .lst l=>.list (m7 l)
 | _=>.none
noncomputable def m7:Wq->List PyData
 | []=>[]
 | t :: r=>toP t :: m7 r
end
theorem D2 {s:Tx} (h:oq s):PyData.strOk (sx s)=true:=by
 unfold PyData.strOk sx
 simp only [Array.all_eq_true,decide_eq_true_eq]
 intro i hi
 have:s.toArray[i]∈s:=by simp
 have:=h.2 _ this
 simpa using this
theorem xF {s t:Tx}:(sx s == sx t)=(s == t):=by
 rw [Xw,beq_iff_eq,beq_iff_eq]
 constructor
 ·intro h
  have:(sx s).cps=(sx t).cps:=by rw [h]
  simpa [sx] using this
 ·intro h
  rw [h]
mutual
theorem ox:∀ (n k:Nat) (t u:T),eqD n t=true->eqD k u=true->PyData.eqv (toP t) (toP u)=eqT t u
 | n,k,t,u,h1,h2=>by
  cases t with
  | scr _=>cases n <;> simp at h1
  | dct _ _=>cases n <;> simp at h1
  | obj _ _=>cases n <;> simp at h1
  | tup l =>
   cases n with
   | zero=>simp at h1
   | succ n =>
    cases u with
    | tup r =>
     cases k with
     | zero=>simp at h2
     | succ k =>
      simp only [toP,PyData.eqv,eqT]
      exact l9 n k l r (by simpa using h1) (by simpa using h2)
    | scr _=>cases k <;> simp at h2
    | dct _ _=>cases k <;> simp at h2
    | obj _ _=>cases k <;> simp at h2
    | _=>simp [toP,PyData.eqv,eqT]
  | lst l =>
   cases n with
   | zero=>simp at h1
   | succ n =>
    cases u with
    | lst r =>
     cases k with
     | zero=>simp at h2
     | succ k =>
      simp only [toP,PyData.eqv,eqT]
      exact l9 n k l r (by simpa using h1) (by simpa using h2)
    | scr _=>cases k <;> simp at h2
    | dct _ _=>cases k <;> simp at h2
    | obj _ _=>cases k <;> simp at h2
    | _=>simp [toP,PyData.eqv,eqT]
  | str s =>
   cases u with
   | str r=>simp only [toP,PyData.eqv,eqT];exact xF
   | scr _=>cases k <;> simp at h2
   | dct _ _=>cases k <;> simp at h2
   | obj _ _=>cases k <;> simp at h2
   | _=>simp [toP,PyData.eqv,eqT]
  | _ =>
   cases u with
   | scr _=>cases k <;> simp at h2
   | dct _ _=>cases k <;> simp at h2
   | obj _ _=>cases k <;> simp at h2
   | _=>simp [toP,PyData.eqv,eqT]
theorem l9:∀ (n k:Nat) (l r:Wq),(∀ t∈l,eqD n t=true)->(∀ t∈r,eqD k t=true)->PyData.eqvAll (m7 l) (m7 r)=so l r
 | _,_,[],[],_,_=>rfl
 | _,_,[],_ :: _,_,_=>rfl
 | _,_,_ :: _,[],_,_=>rfl
 | n,k,t :: l,u :: r,h1,h2=>by
  simp only [m7,PyData.eqvAll,so]
  rw [ox n k t u (h1 t Zt) (h2 u Zt),l9 n k l r (fun x hx=>h1 x (Zu _ hx)) fun x hx=>h2 x (Zu _ hx)]
end
theorem Rp.tup_inv5 {H:Hp} {v:V} {ts:Wq} {F:Wz} (r:Rp G H v (.tup ts) F):∃ b vs Fs,v=.ref b/\H b=some (.tup vs)/\RpL G H vs ts Fs:=by
 cases r with
 | tup h q=>exact ⟨_,_,_,rfl,h,q⟩
theorem Rp.lst_inv5 {H:Hp} {v:V} {ts:Wq} {F:Wz} (r:Rp G H v (.lst ts) F):∃ b vs Fs,v=.ref b/\H b=some (.lst vs)/\RpL G H vs ts Fs:=by
 cases r with
 | lst h q=>exact ⟨_,_,_,rfl,h,q⟩
theorem kC {H:Hp} {s:Shared} {n:Nat} (rd:∀ {v:V} {t:T} {F:Wz} {u:Value},Rp G H v t F->RelV v u->eqD n t=true->∃ as,Reads s.heap u (toP t) as/\(toP t).canLay0=true/\(toP t).depth<=n):∀ {vs:List V} {ts:Wq} {Fs:Xk} {us:Wy},RpL G H vs ts Fs->aN vs us->(∀ t∈ts,eqD n t=true) →
  ∃ as,ReadsAll s.heap us (m7 ts) as/\PyData.canLayAll0 (m7 ts)=true/\PyData.depthAll (m7 ts)<=n
 | _,_,_,_,.nil,r,_=>by cases r;exact ⟨_,.nil,rfl,Yp _⟩
 | _,_,_,_,.cons p q,r,h=>by
  cases r with
  | cons r1 r2 =>
   obtain ⟨as,h1,h2,h3⟩:=rd p r1 (h _ Zt)
   obtain ⟨bs,g1,g2,g3⟩:=kC rd q r2 fun t ht=>h t (Zu _ ht)
   exact ⟨_,.cons h1 g1,by simp only [m7,PyData.canLayAll0,h2,g2,Bool.and_self],by simp only [m7,PyData.depthAll];lia⟩
theorem l8 {h:Heap} {H:Hp} {v:V} {t:T} {F:Wz} {u:Value} {n:Nat} (r:Rp G H v t F) (ru:RelV v u) (hf:flat t=true):∃ as,Reads h u (toP t) as/\(toP t).canLay0=true/\(toP t).depth<=n:=by
 cases r with
 | non=>cases ru;exact ⟨_,.none,rfl,Yp _⟩
 | bl b=>cases ru;exact ⟨_,.bool b,rfl,Yp _⟩
 | int i=>obtain ⟨t,rfl⟩:=ru;exact ⟨_,.int i t,rfl,Yp _⟩
 | str s h=>obtain ⟨t,rfl⟩:=ru;exact ⟨_,.str _ t,D2 h,Yp _⟩
 | _=>cases hf
theorem j5 {H:Hp} {pins:Y7} {σ:L2.St} {s:Shared} (I:Inv X pins σ H s) (n:Nat):∀ {v:V} {t:T} {F:Wz} {u:Value},Rp G H v t F->RelV v u->eqD n t=true->∃ as,Reads s.heap u (toP t) as/\(toP t).canLay0=true/\(toP t).depth<=n:=by
 induction n with
 | zero =>
  intro v t F u r ru h
  refine l8 r ru ?_
  cases t <;> first | rfl | exact h
 | succ n ih =>
  intro v t F u r ru h
  cases t with
  | tup l =>
   obtain ⟨b,vs,Fs,rfl,e,q⟩:=Rp.tup_inv5 r
   cases ru
   obtain ⟨its,rv,tp,hz⟩:=I.tuple (SqT.of e)
   obtain ⟨as,h1,h2,h3⟩:=kC ih q rv (by simpa using h)
   obtain ⟨o,ho,hc,n',hd⟩:=tp
   exact ⟨_,.tuple ho hc hd (by simpa using h1),h2,by simp only [toP,PyData.depth];exact Xi h3⟩
  | lst l =>
   obtain ⟨b,vs,Fs,rfl,e,q⟩:=Rp.lst_inv5 r
   cases ru
   obtain ⟨its,rv,pl,hz⟩:=I.list (SqL.of e)
   obtain ⟨as,h1,h2,h3⟩:=kC ih q rv (by simpa using h)
   obtain ⟨o,ho,hc,n',hd⟩:=pl.isList
   exact ⟨_,.list ho hc hd (by simpa using h1),h2,by simp only [toP,PyData.depth];exact Xi h3⟩
  | scr _=>simp at h
  | dct _ _=>simp at h
  | obj _ _=>simp at h
  | _=>exact l8 r ru rfl
noncomputable def zX (G:Gx) (neg:Bool):R2:=fun x y H Q=>∃ t u F F',Rp G H x t F/\Rp G H y u F'/\eqD 60 t=true/\eqD 60 u=true/\Q (.bl (if neg then !eqT t u else eqT t u)) H
theorem i9 {d:PyData} (h:d.canLay0=true) (h2:d.depth<=60):SeqAt.shaped d=true:=by
 unfold SeqAt.shaped
 rw [h,Bool.true_and]
 exact decide_eq_true (by lia)
theorem rY (hu:X.A.units+64 < cLine):OpR X (compareOp .Eq) (zX G false):=by
 intro pins s σ H x y v u Q I rx ry h
 obtain ⟨t,w,F,F',r1,r2,h1,h2,q⟩:=h
 obtain ⟨as,a1,a2,a3⟩:=j5 I 60 r1 rx h1
 obtain ⟨bs,b1,b2,b3⟩:=j5 I 60 r2 ry h2
 refine eq_dataH a1 b1 (i9 a2 a3) (i9 b2 b3) hu ⟨.bl _,H,I,rfl,?_⟩
 rw [ox 60 60 t w h1 h2]
 exact q
theorem BN (hu:X.A.units+64 < cLine):OpR X (compareOp .NotEq) (zX G true):=by
 intro pins s σ H x y v u Q I rx ry h
 obtain ⟨t,w,F,F',r1,r2,h1,h2,q⟩:=h
 obtain ⟨as,a1,a2,a3⟩:=j5 I 60 r1 rx h1
 obtain ⟨bs,b1,b2,b3⟩:=j5 I 60 r2 ry h2
 refine ne_dataH a1 b1 (i9 a2 a3) (i9 b2 b3) hu ⟨.bl _,H,I,rfl,?_⟩
 rw [ox 60 60 t w h1 h2]
 exact q
theorem vX:d8 G (zX G false) oEq:=by
 intro Φ η H0 H x y u w F1 F2 m t Q tw e k
 unfold oEq at e
 split at e
 ·rename_i h
  cases e
  exact ⟨_,_,_,_,tw.r1,tw.r2,h.1,h.2,bh k (.bl _)⟩
 ·cases e
theorem C1:d8 G (zX G true) oNe:=by
 intro Φ η H0 H x y u w F1 F2 m t Q tw e k
 unfold oNe at e
 split at e
 ·rename_i h
  cases e
  exact ⟨_,_,_,_,tw.r1,tw.r2,h.1,h.2,bh k (.bl _)⟩
 ·cases e
theorem tells_eq:Tells oEq:=by
 intro x y m t e
 unfold oEq at e
 split at e <;> first | (cases e;exact ⟨_,rfl⟩) | cases e
theorem vq:Tells oNe:=by
 intro x y m t e
 unfold oNe at e
 split at e <;> first | (cases e;exact ⟨_,rfl⟩) | cases e
end
structure Frm (Φ:Fps) (η:VS.Env) (H:Hp) (Φ':Fps) (η':VS.Env) (H':Hp):Prop where
 keep:∀ a o,H a=some o->¬ bF Φ η a->H' a=some o/\¬ bF Φ' η' a
 dom:∀ a,H a ≠ none->H' a ≠ none
 ow:∀ a,bF Φ' η' a->bF Φ η a\/H a=none
 pu:∀ a,cO Φ' η' a->cO Φ η a\/bF Φ η a\/H a=none
 kept:Kept H H'
theorem Frm.refl (Φ:Fps) (η:VS.Env) (H:Hp):Frm Φ η H Φ η H:=⟨fun a o h n=>⟨h,n⟩,fun _ h=>h,fun _ h=>.inl h,fun _ h=>.inl h,Kept.refl H⟩
theorem Frm.none {Φ Φ':Fps} {η η':VS.Env} {H H':Hp} (f:Frm Φ η H Φ' η' H') {a:Addr} (h:H' a=none):H a=none:=by
 cases e:H a with
 | none=>rfl
 | some o=>exact absurd h (f.dom a (by rw [e];exact fun z=>nomatch z))
theorem Frm.trans {Φ Φ1 Φ2:Fps} {η η1 η2:VS.Env} {H H1 H2:Hp} (f:Frm Φ η H Φ1 η1 H1) (g:Frm Φ1 η1 H1 Φ2 η2 H2):Frm Φ η H Φ2 η2 H2 where
 keep:=fun a o h n=>let ⟨h1,n1⟩:=f.keep a o h n;g.keep a o h1 n1
 dom:=fun a h=>g.dom a (f.dom a h)
 ow:=fun a h=>by
  rcases g.ow a h with h | h
  ·exact f.ow a h
  ·exact .inr (f.none h)
 pu:=fun a h=>by
  rcases g.pu a h with h | h | h
  ·exact f.pu a h
  ·rcases f.ow a h with h | h
   ·exact .inr (.inl h)
   ·exact .inr (.inr h)
  ·exact .inr (.inr (f.none h))
 kept:=f.kept.trans g.kept
theorem Frm.same {Φ:Fps} {η:VS.Env} {H H':Hp} (e:aG H H'):Frm Φ η H Φ η H' :=
 ⟨fun a o h n=>⟨e a o h,n⟩,fun a h z=>h (e.free z),fun _ h=>.inl h,fun _ h=>.inl h,Kept.of e⟩
noncomputable def qz (Φ:Fps) (η:VS.Env) (H:Hp):Md->Wz->Prop
 | .fr,F=>F.Nodup/\∀ a∈F,H a=none\/bF Φ η a
 | _,F=>∀ a∈F,H a=none\/cO Φ η a\/bF Φ η a
theorem qz.back {Φ Φ1:Fps} {η η1:VS.Env} {H H1:Hp} (f:Frm Φ η H Φ1 η1 H1) {F:Wz}:∀ {m:Md},qz Φ1 η1 H1 m F->qz Φ η H m F
 | .fr,h=>⟨h.1,fun a ha=>(h.2 a ha).elim (fun z=>.inl (f.none z)) fun z=>(f.ow a z).elim .inr .inl⟩
 | .pu,h=>fun a ha=>by
  rcases h a ha with z | z | z
  ·exact .inl (f.none z)
  ·rcases f.pu a z with z | z | z
   ·exact .inr (.inl z)
   ·exact .inr (.inr z)
   ·exact .inl z
  ·exact (f.ow a z).elim (fun z=>.inr (.inr z)) .inl
 | .bo,h=>fun a ha=>by
  rcases h a ha with z | z | z
  ·exact .inl (f.none z)
  ·rcases f.pu a z with z | z | z
   ·exact .inr (.inl z)
   ·exact .inr (.inr z)
   ·exact .inl z
  ·exact (f.ow a z).elim (fun z=>.inr (.inr z)) .inl
noncomputable def Nx (G:Gx) (Φ:Fps) (η:VS.Env) (H:Hp) (η':VS.Env) (k:L2.St->Hp->Prop):Prop:=∀ Φ' σ' H',SR G Φ' η' σ' H'->Frm Φ η H Φ' η' H'->k σ' H'
noncomputable def tR (G:Gx) (Φ:Fps) (η:VS.Env) (H:Hp) (D:Ends):Out->Prop
 | .nx η'=>Nx G Φ η H η' D.nx
 | .bk η'=>Nx G Φ η H η' D.bk
 | .ct η'=>Nx G Φ η H η' D.ct
 | .rt v η'=>∀ u H' F Φ' σ',SR G Φ' η' σ' H'->Frm Φ η H Φ' η' H'->Rp G H' u v.2 F->qz Φ η H v.1 F->D.rt u H'
noncomputable def tS (G:Gx) (c:Sx):TS:=fun D σ H=>∃ Φ η o,SR G Φ η σ H/\c η=some o/\tR G Φ η H D o
noncomputable def PSV (G:Gx) (X:Cx) (st:Stmt) (c:Sx):Prop:=PS X st (tS G c)
noncomputable def gk (G:Gx) (X:Cx) (st:List Stmt) (c:Sx):Prop:=PSs X st (tS G c)
theorem PS.weak {X:Cx} {e:Stmt} {t t':TS} (h:PS X e t) (w:∀ D σ H,t' D σ H->t D σ H):PS X e t':=fun pins s σ H D I q=>h pins s σ H D I (w D σ H q)
theorem PSs.weak {X:Cx} {e:List Stmt} {t t':TS} (h:PSs X e t) (w:∀ D σ H,t' D σ H->t D σ H):PSs X e t':=fun pins s σ H D I q=>h pins s σ H D I (w D σ H q)
theorem tR.back {G:Gx} {Φ Φ1:Fps} {η η1:VS.Env} {H H1:Hp} {D:Ends} (f:Frm Φ η H Φ1 η1 H1):∀ {o:Out},tR G Φ η H D o->tR G Φ1 η1 H1 D o
 | .nx η',h=>fun Φ' σ' H' s g=>h Φ' σ' H' s (f.trans g)
 | .bk η',h=>fun Φ' σ' H' s g=>h Φ' σ' H' s (f.trans g)
 | .ct η',h=>fun Φ' σ' H' s g=>h Φ' σ' H' s (f.trans g)
 | .rt v η',h=>fun u H' F Φ' σ' s g r q=>h u H' F Φ' σ' s (f.trans g) r (q.back f)
section
variable {G:Gx} {X:Cx} {st:Stmt} {sts:List Stmt} {c c1 c2:Sx} {pos:Pos} {e:Expr} {ce:Ex}
theorem bU:gk G X [] eX:=PSs.weak yI fun D σ H hq=>by
 obtain ⟨Φ,η,o,s,e,k⟩:=hq
 cases (show some (Out.nx η)=some o from e)
 exact k Φ σ H s (Frm.refl _ _ _)
theorem af (h1:PSV G X st c1) (h2:gk G X sts c2):gk G X (st :: sts) (aq c1 c2):=PSs.weak (xy h1 h2) fun D σ H hq=>by
 obtain ⟨Φ,η,o,s,e,k⟩:=hq
 unfold aq at e
 obtain ⟨o1,e1,e2⟩:=Zz.mp e
 refine ⟨Φ,η,o1,s,e1,?_⟩
 cases o1 with
 | nx η1=>exact fun Φ' σ' H' s' f=>⟨Φ',η1,o,s',e2,k.back f⟩
 | rt v η1=>cases e2;exact k
 | bk η1=>cases e2;exact k
 | ct η1=>cases e2;exact k
theorem cN {t:Expr} {ct:Ex} {a b:List Stmt} (hc:PVT G X t ct) (ha:gk G X a c1) (hb:gk G X b c2):PSV G X (.If t a b pos) (sIf ct c1 c2):=PS.weak (Am hc ha hb) fun D σ H hq=>by
 obtain ⟨Φ,η,o,s,e,k⟩:=hq
 unfold sIf at e
 obtain ⟨⟨m,x⟩,ec,e1⟩:=Zz.mp e
 obtain ⟨b',eb,e2⟩:=Zz.mp e1
 refine ⟨Φ,η,m,x,b',s,ec,eb,fun H' e3=>?_⟩
 cases b' with
 | true =>
  rw [Zp rfl] at e2
  exact uG ⟨Φ,η,o,s.same e3,e2,k.back (Frm.same e3)⟩
 | false =>
  rw [Zo Zg] at e2
  exact uv ⟨Φ,η,o,s.same e3,e2,k.back (Frm.same e3)⟩
theorem Fp.ret {Φ:Fps} {η:VS.Env} {H:Hp} {F:Wz}:∀ {m:Md},Fp Φ η H m F->qz Φ η H (match m with | .bo=>.pu | m=>m) F
 | .fr,f=>⟨f.1,fun a ha=>.inl (f.2 a ha)⟩
 | .pu,f=>fun a ha=>(f a ha).elim .inl fun z=>.inr (.inl z)
 | .bo,f=>f
theorem b6 (he:PV G X e ce):PSV G X (.Return (some e) pos) (gB ce):=PS.weak (oJ he) fun D σ H hq=>by
 obtain ⟨Φ,η,o,s,e,k⟩:=hq
 unfold gB at e
 obtain ⟨⟨m,x⟩,ec,e1⟩:=Zz.mp e
 cases e1
 exact ⟨Φ,η,m,x,s,ec,fun v H' F e1 r1 f1=>k v H' F Φ σ (s.same e1) (Frm.same e1) r1 f1.ret⟩
theorem cH {η:VS.Env} {i j:Nat} {c:Cell} (h:(η.set i none)[j]?=some (some c)):j ≠ i/\η[j]?=some (some c):=by
 rw [XA] at h
 split at h
 ·split at h <;> cases h
 ·rename_i n
  exact ⟨fun z=>n z.symm,h⟩
theorem SR.drop {Φ:Fps} {η:VS.Env} {σ:L2.St} {H:Hp} (s:SR G Φ η σ H) (i:Nat):SR G Φ (η.set i none) σ H :=
 ⟨by rw [Z2];exact s.len,fun j c h=>s.rp j c (cH h).2,fun j t h=>s.nd j t (cH h).2,fun j k t c h1 h2 n=>s.sep j k t c (cH h1).2 (cH h2).2 n⟩
theorem Frm.drop {Φ:Fps} {η:VS.Env} {H:Hp} (i:Nat):Frm Φ η H Φ (η.set i Option.none) H :=
 ⟨fun a o h n=>⟨h,fun ⟨j,t,h1,h2⟩=>n ⟨j,t,(cH h1).2,h2⟩⟩,fun _ h=>h,fun a ⟨j,t,h1,h2⟩=>.inl ⟨j,t,(cH h1).2,h2⟩,fun a ⟨j,t,h1,h2⟩=>.inl ⟨j,t,(cH h1).2,h2⟩,Kept.refl H⟩
theorem cP (i:Nat) {x:Str} {p:Pos} (hN:X.N[i]?=some x:=by rfl) (hv:Vis X.env.scope x:=by first | exact Or.inl rfl | exact Or.inr (Or.inl rfl) | exact Or.inr (Or.inr rfl)) (hd:(x == ("__debug__" : Str))=false:=by decide)
  (hcd:(x == ("__classdict__" : Str))=false:=by decide):PSV G X (.Return (some (.Name x p)) pos) (eV i):=PS.weak (oJ (fq hN hv hd hcd)) fun D σ H hq=>by
 obtain ⟨Φ,η,o,s,e,k⟩:=hq
 unfold eV at e
 split at e
 ·rename_i t h
  obtain ⟨v,h1,h2⟩:=s.rp _ _ h
  cases e
  exact ⟨v,h1,k v H (Φ i) Φ σ (s.drop i) (Frm.drop i) h2 ⟨s.nd i t h,fun a ha=>.inr ⟨i,t,h,ha⟩⟩⟩
 ·rename_i t h
  obtain ⟨v,h1,h2⟩:=s.rp _ _ h
  cases e
  refine ⟨v,h1,k v H (Φ i) Φ σ s (Frm.refl _ _ _) h2 ?_⟩
  have f:Fp Φ η H .pu (Φ i):=fun a ha=>.inr ⟨i,t,h,ha⟩
  have f2:=(f.up h2).ret
  have:(match (VS.up .pu (iE (.pu t))).1 with | .bo=>Md.pu | m=>m)=(VS.up .pu t).1:=by
   show (match (VS.up .pu t).1 with | .bo=>Md.pu | m=>m)=_
   unfold VS.up
   split <;> (rename_i q;revert q;split <;> simp)
  rw [this] at f2
  exact f2
 ·cases e
noncomputable def lI (Φ:Fps) (i:Nat) (F:Wz):Fps:=fun j=>if j=i then F else Φ j
theorem i8 {Φ:Fps} {i:Nat} {F:Wz}:lI Φ i F i=F:=Zp rfl
theorem eK {Φ:Fps} {i j:Nat} {F:Wz} (h:j ≠ i):lI Φ i F j=Φ j:=Zo h
theorem g6 {η:VS.Env} {i j:Nat} {c c':Cell} (h:(η.set i (some c))[j]?=some (some c')):(j=i/\c'=c)\/(j ≠ i/\η[j]?=some (some c')):=by
 rw [XA] at h
 split at h
 ·rename_i e
  split at h
  ·exact .inl ⟨e.symm,(Zm (Zm h)).symm⟩
  ·cases h
 ·rename_i n
  exact .inr ⟨fun z=>n z.symm,h⟩
theorem SR.put {Φ:Fps} {η:VS.Env} {σ:L2.St} {H H':Hp} {i:Nat} {v:V} {c:Cell} {F:Wz} (s:SR G Φ η σ H) (hi:i < η.length) (r:Rp G H' v (iE c) F)
  (hk:∀ j c',j ≠ i->η[j]?=some (some c')->∀ w,Rp G H w (iE c') (Φ j)->Rp G H' w (iE c') (Φ j))
  (hnd:∀ t,c=.ow t->F.Nodup) (hown:∀ t,c=.ow t->∀ j c',j ≠ i->η[j]?=some (some c')->∀ a∈F,a ∉ Φ j) (hpu:∀ j t,j ≠ i->η[j]?=some (some (.ow t))->∀ a∈Φ j,a ∉ F) :
  SR G (lI Φ i F) (η.set i (some c)) (σ.set i (some v)) H' where
 len:=by rw [Z2,Z2];exact s.len
 rp:=fun j c' h=>by
  rcases g6 h with ⟨rfl,rfl⟩ | ⟨n,h⟩
  ·exact ⟨v,by rw [Y1 (by rw [← s.len];exact hi)],by rw [i8];exact r⟩
  ·obtain ⟨w,h1,h2⟩:=s.rp j c' h
   exact ⟨w,by rw [Yw (Yh n)];exact h1,by rw [eK n];exact hk j c' n h w h2⟩
 nd:=fun j t h=>by
  rcases g6 h with ⟨rfl,e⟩ | ⟨n,h⟩
  ·rw [i8];exact hnd t e.symm
  ·rw [eK n];exact s.nd j t h
 sep:=fun j k t c' h1 h2 n=>by
  rcases g6 h1 with ⟨rfl,e⟩ | ⟨n1,g1⟩
  ·rcases g6 h2 with ⟨rfl,e2⟩ | ⟨n2,g2⟩
   ·exact absurd rfl n
   ·rw [i8,eK n2]
    exact hown t e.symm k c' n2 g2
  ·rcases g6 h2 with ⟨rfl,e2⟩ | ⟨n2,g2⟩
   ·rw [i8,eK n1]
    exact hpu j t n1 g1
   ·rw [eK n1,eK n2]
    exact s.sep j k t c' g1 g2 n
theorem jE {Φ:Fps} {η:VS.Env} {i:Nat} {c:Cell} {F:Wz} {a:Addr} (h:bF (lI Φ i F) (η.set i (some c)) a):(∃ t,c=.ow t/\a∈F)\/bF Φ η a:=by
 obtain ⟨j,t,h1,h2⟩:=h
 rcases g6 h1 with ⟨rfl,e⟩ | ⟨n,h1⟩
 ·rw [i8] at h2;exact .inl ⟨t,e.symm,h2⟩
 ·rw [eK n] at h2;exact .inr ⟨j,t,h1,h2⟩
theorem oI {Φ:Fps} {η:VS.Env} {i:Nat} {c:Cell} {F:Wz} {a:Addr} (h:cO (lI Φ i F) (η.set i (some c)) a):(∃ t,c=.pu t/\a∈F)\/cO Φ η a:=by
 obtain ⟨j,t,h1,h2⟩:=h
 rcases g6 h1 with ⟨rfl,e⟩ | ⟨n,h1⟩
 ·rw [i8] at h2;exact .inl ⟨t,e.symm,h2⟩
 ·rw [eK n] at h2;exact .inr ⟨j,t,h1,h2⟩
theorem SR.ow_pu {Φ:Fps} {η:VS.Env} {σ:L2.St} {H:Hp} (s:SR G Φ η σ H) {a:Addr} (h:bF Φ η a) (h':cO Φ η a):False:=by
 obtain ⟨j,t,h1,h2⟩:=h
 obtain ⟨k,u,g1,g2⟩:=h'
 have n:j ≠ k:=fun e=>by subst e;rw [h1] at g1;cases g1
 exact s.sep j k t _ h1 g1 n a h2 g2
theorem SR.val {Φ:Fps} {η:VS.Env} {σ:L2.St} {H H':Hp} {i:Nat} {v:V} {t:T} {m:Md} {F:Wz} {c:Cell} (s:SR G Φ η σ H) (hi:i < η.length) (e:aG H H') (r:Rp G H' v t F) (f:Fp Φ η H m F)
  (hc:(c=.pu t/\m ≠ .bo)\/(c=.ow t/\m=.fr)):SR G (lI Φ i F) (η.set i (some c)) (σ.set i (some v)) H'/\Frm Φ η H (lI Φ i F) (η.set i (some c)) H':=by
 have dom:∀ {a},H a=none->∀ j c',η[j]?=some (some c')->a ∉ Φ j:=fun {a} h j c' hj ha=>by
  obtain ⟨w,_,q⟩:=s.rp j c' hj
  exact Mut.ne_none (q.dom a ha) h
 have ct:iE c=t:=by rcases hc with ⟨rfl,_⟩ | ⟨rfl,_⟩ <;> rfl
 have fpu:∀ a∈F,H a=none\/cO Φ η a:=fun a ha=>by
  rcases hc with ⟨_,n⟩ | ⟨_,n⟩
  ·exact f.pu n a ha
  ·rw [n] at f;exact .inl (f.2 a ha)
 constructor
 ·refine s.put hi (by rw [ct];exact r) (fun j c' n hj w q=>q.same e) (fun u hu=>?_) (fun u hu j c' n hj a ha=>?_) fun j u n hj a ha hF=>?_
  ·rcases hc with ⟨h,_⟩ | ⟨_,h⟩
   ·rw [h] at hu;cases hu
   ·rw [h] at f;exact f.1
  ·rcases hc with ⟨h,_⟩ | ⟨_,h⟩
   ·rw [h] at hu;cases hu
   ·rw [h] at f;exact dom (f.2 a ha) j c' hj
  ·rcases fpu a hF with z | z
   ·exact dom z j _ hj ha
   ·exact s.ow_pu ⟨j,u,hj,ha⟩ z
 ·refine ⟨fun a o h n=>⟨e a o h,fun z=>?_⟩,fun a h z=>h (e.free z),fun a h=>?_,fun a h=>?_,Kept.of e⟩
  ·rcases jE z with ⟨u,hu,ha⟩ | z
   ·rcases hc with ⟨h',_⟩ | ⟨_,h'⟩
    ·rw [h'] at hu;cases hu
    ·rw [h'] at f
     rw [f.2 a ha] at h;cases h
   ·exact n z
  ·rcases jE h with ⟨u,hu,ha⟩ | z
   ·rcases hc with ⟨h',_⟩ | ⟨_,h'⟩
    ·rw [h'] at hu;cases hu
    ·rw [h'] at f
     exact .inr (f.2 a ha)
   ·exact .inl z
  ·rcases oI h with ⟨u,hu,ha⟩ | z
   ·exact (fpu a ha).elim (fun z=>.inr (.inr z)) .inl
   ·exact .inl z
theorem eJ {i:Nat} {x:Str} {pos':Pos} (he:PV G X e ce) (hN:X.N.Nodup) (hi:X.N[i]?=some x:=by rfl) (hx:Loc X.env.scope x:=by first | exact Or.inl rfl | exact Or.inr rfl)
  (hs:swapsWith e (some (.Name x pos')) pos.line X.env=pure false:=by rfl) (hf:X.fn x=true\/X.env.scope.names.lookup x=some .local:=by first | exact .inl rfl | exact .inr rfl) :
  PSV G X (.Assign [.Name x pos'] e pos) (ja i ce):=PS.weak (oZ hN hi hx he hs hf) fun D σ H hq=>by
 obtain ⟨Φ,η,o,s,e,k⟩:=hq
 unfold ja at e
 obtain ⟨⟨m,t⟩,ec,e1⟩:=Zz.mp e
 obtain ⟨c,eC,e2⟩:=Zz.mp e1
 split at e2
 ·rename_i hl
  cases e2
  refine ⟨Φ,η,m,t,s,ec,fun v H' F e3 r3 f3=>?_⟩
  obtain ⟨q1,q2⟩:=s.val (c:=c) hl e3 r3 f3 (by
   unfold cellOf at eC
   cases m with
   | fr =>
    simp only [Option.some.injEq] at eC
    split at eC
    ·exact .inr ⟨eC.symm,rfl⟩
    ·exact .inl ⟨eC.symm,by decide⟩
   | pu=>cases eC;exact .inl ⟨rfl,by decide⟩
   | bo=>cases eC)
  exact k _ _ H' q1 q2
 ·cases e2
theorem aE {i:Nat} {x:Str} {pos':Pos} (he:PV G X e ce) (hN:X.N.Nodup) (hi:X.N[i]?=some x:=by rfl) (hx:Loc X.env.scope x:=by first | exact Or.inl rfl | exact Or.inr rfl)
  (hs:swapsWith e (some (.Name x pos')) pos.line X.env=pure false:=by rfl) (hf:X.fn x=true\/X.env.scope.names.lookup x=some .local:=by first | exact .inl rfl | exact .inr rfl) :
  PSV G X (.Assign [.Name x pos'] e pos) (aL i ce):=PS.weak (oZ hN hi hx he hs hf) fun D σ H hq=>by
 obtain ⟨Φ,η,o,s,e,k⟩:=hq
 unfold aL at e
 obtain ⟨⟨m,t⟩,ec,e1⟩:=Zz.mp e
 split at e1
 ·cases e1
 ·rename_i hm
  split at e1
  ·rename_i hl
   cases e1
   refine ⟨Φ,η,m,t,s,ec,fun v H' F e3 r3 f3=>?_⟩
   obtain ⟨q1,q2⟩:=s.val (c:=.pu t) hl e3 r3 f3 (.inl ⟨rfl,hm⟩)
   exact k _ _ H' q1 q2
  ·cases e1
theorem SR.frz {Φ:Fps} {η:VS.Env} {σ:L2.St} {H:Hp} {i:Nat} {t:T} (s:SR G Φ η σ H) (h:η[i]?=some (some (.ow t))):SR G Φ (η.set i (some (.pu t))) σ H/\Frm Φ η H Φ (η.set i (some (.pu t))) H:=by
 have back:∀ {j c},(η.set i (some (.pu t)))[j]?=some (some c)->∃ c',η[j]?=some (some c')/\iE c'=iE c/\∀ u,c=.ow u->c'=.ow u:=fun {j c} hj=>by
  rcases g6 hj with ⟨rfl,rfl⟩ | ⟨n,hj⟩
  ·exact ⟨.ow t,h,rfl,fun u hu=>nomatch hu⟩
  ·exact ⟨c,hj,rfl,fun u hu=>hu⟩
 refine ⟨⟨by rw [Z2];exact s.len,fun j c hj=>?_,fun j u hj=>?_,fun j k u c h1 h2 n=>?_⟩,⟨fun a o ha n=>⟨ha,fun ⟨j,u,h1,h2⟩=>?_⟩,fun _ h=>h,fun a ⟨j,u,h1,h2⟩=>?_,fun a ⟨j,u,h1,h2⟩=>?_,Kept.refl H⟩⟩
 ·obtain ⟨c',h1,h2,_⟩:=back hj
  obtain ⟨v,g1,g2⟩:=s.rp j c' h1
  exact ⟨v,g1,by rw [← h2];exact g2⟩
 ·obtain ⟨c',h1,_,h3⟩:=back hj
  rw [h3 u rfl] at h1
  exact s.nd j u h1
 ·obtain ⟨c1,g1,_,g3⟩:=back h1
  obtain ⟨c2,k1,_,_⟩:=back h2
  rw [g3 u rfl] at g1
  exact s.sep j k u c2 g1 k1 n
 ·obtain ⟨c1,g1,_,g3⟩:=back h1
  rw [g3 u rfl] at g1
  exact n ⟨j,u,g1,h2⟩
 ·obtain ⟨c1,g1,_,g3⟩:=back h1
  rw [g3 u rfl] at g1
  exact .inl ⟨j,u,g1,h2⟩
 ·rcases g6 h1 with ⟨rfl,_⟩ | ⟨n,h1⟩
  ·exact .inr (.inl ⟨j,t,h,h2⟩)
  ·exact .inl ⟨j,u,h1,h2⟩
theorem oM (i:Nat) (h:gk G X sts c):gk G X sts (aq (xN i) c):=PSs.weak h fun D σ H hq=>by
 obtain ⟨Φ,η,o,s,e,k⟩:=hq
 unfold aq at e
 obtain ⟨o1,e1,e2⟩:=Zz.mp e
 unfold xN at e1
 split at e1
 ·rename_i t ht
  cases e1
  obtain ⟨q1,q2⟩:=s.frz ht
  exact ⟨Φ,_,o,q1,e2,k.back q2⟩
 ·cases e1
  exact ⟨Φ,η,o,s,e2,k⟩
 ·cases e1
end
section
variable {G:Gx} {X:Cx} {st:Stmt} {sts:List Stmt} {c c1 c2:Sx} {pos:Pos} {e:Expr} {es:List Expr} {ce:Ex} {cs:Exs}
structure Chg (G:Gx) (H:Hp) (v:V) (F:Wz) (t':T) (H2:Hp) (F':Wz):Prop where
 kept:Kept H H2
 keep:∀ b o,b ∉ F->H b=some o->H2 b=some o
 dom:∀ b,H b ≠ none->H2 b ≠ none
 rp:Rp G H2 v t' F'
 nd:F'.Nodup
 sub:∀ a∈F',a∈F\/H a=none
theorem SR.mut {Φ:Fps} {η:VS.Env} {σ:L2.St} {H H2:Hp} {i:Nat} {v:V} {t t':T} {F':Wz} (s:SR G Φ η σ H) (hi:η[i]?=some (some (.ow t))) (hv:σ[i]?=some (some v)) (g:Chg G H v (Φ i) t' H2 F') :
  SR G (lI Φ i F') (η.set i (some (.ow t'))) σ H2/\Frm Φ η H (lI Φ i F') (η.set i (some (.ow t'))) H2:=by
 have hl:i < η.length:=(Zh.mp hi).1
 have off:∀ j c',j ≠ i->η[j]?=some (some c')->∀ a∈Φ j,a ∉ Φ i:=fun j c' n hj a ha ha'=>s.sep i j t c' hi hj (Yh n) a ha' ha
 have es:σ.set i (some v)=σ:=by
  obtain ⟨h,e⟩:=Zh.mp hv
  rw [← e]
  exact Xa h
 have new:∀ a∈F',∀ j c',j ≠ i->η[j]?=some (some c')->a ∉ Φ j:=fun a ha j c' n hj ha'=>by
  rcases g.sub a ha with z | z
  ·exact off j c' n hj a ha' z
  ·obtain ⟨w,_,q⟩:=s.rp j c' hj
   exact Mut.ne_none (q.dom a ha') z
 constructor
 ·have:=s.put (c:=.ow t') (F:=F') (H':=H2) (v:=v) hl g.rp (fun j c' n hj w q=>q.keep g.kept fun a ha o ho=>g.keep a o (off j c' n hj a ha) ho) (fun _ _=>g.nd) (fun u hu j c' n hj a ha=>new a ha j c' n hj) fun j u n hj a ha ha'=>new a ha' j _ n hj ha
  rw [es] at this
  exact this
 ·refine ⟨fun a o h n=>⟨g.keep a o (fun z=>n ⟨i,t,hi,z⟩) h,fun z=>?_⟩,g.dom,fun a h=>?_,fun a h=>?_,g.kept⟩
  ·rcases jE z with ⟨u,_,ha⟩ | z
   ·rcases g.sub a ha with z | z
    ·exact n ⟨i,t,hi,z⟩
    ·rw [z] at h;cases h
   ·exact n z
  ·rcases jE h with ⟨u,_,ha⟩ | z
   ·rcases g.sub a ha with z | z
    ·exact .inl ⟨i,t,hi,z⟩
    ·exact .inr z
   ·exact .inl z
  ·rcases oI h with ⟨u,hu,ha⟩ | z
   ·cases hu
   ·exact .inl z
noncomputable def xJ (G:Gx) (r:V->List V->Hp->VK->Prop) (f:T->Ws->Option (T×Val)):Prop:=∀ (Φ:Fps) (η:VS.Env) (H H1:Hp) (v:V) (t t':T) (F:Wz) (l:Ws) (vs:List V) (Fs:Xk) (x:Val) (Q:VK),
 Rp G H v t F->F.Nodup->Args G Φ η H H1 l vs Fs->f t l=some (t',x)->(∀ u H2 F',Chg G H v F t' H2 F'->Q u H2)->r v vs H1 Q
theorem xM {T' id:String} {name x:Str} {r:V->List V->Hp->VK->Prop} {f:T->Ws->Option (T×Val)} {apos cpos p1:Pos} (i:Nat) (pa:PlainAttrs T') (slot:Slot T' name id) (hty:typeOf (.builtin id)=pure (.type "method_descriptor")) (hm:MtR X id r) (ok:xJ G r f)
  (hT:∀ H v t F l z,Rp G H v t F->f t l=some z->tyV G.K T' v H) (ha:PVs G X (e :: es) cs) (hK:X.K=G.K:=by rfl)
  (hN:X.N[i]?=some x:=by rfl) (hv:Vis X.env.scope x:=by first | exact Or.inl rfl | exact Or.inr (Or.inl rfl) | exact Or.inr (Or.inr rfl)) (hd:(x == ("__debug__" : Str))=false:=by decide)
  (hcd:(x == ("__classdict__" : Str))=false:=by decide)
  (hbase:attributeBase (.Name x p1) name X.env (eval (.Name x p1) X.env)=eval (.Name x p1) X.env:=by rfl)
  (hfew:((backTo cpos (starEach (e :: es) X.env)).all (fun x=>!x.1) && (backToKw cpos (keywordEach [] X.env)).all (fun x=>x.1.isSome)
   && decide ((e :: es).length+([]:List Keyword).length+(if ([]:List Keyword).isEmpty then 0 else 1) < 30))=true:=by rfl)
  (hline:(apos.endLine == cpos.line)=true:=by rfl) (hs:starEach (e :: es) X.env=(false,eval e X.env) :: starEach es X.env:=by rfl) (hplain:(backTo cpos (starEach es X.env)).any (·.1)=false:=by rfl)
  (hsw:swapsWith (.Call (.Attribute (.Name x p1) name apos) (e :: es) [] cpos) none pos.line X.env=pure false:=by rfl) :
  PSV G X (.Expr (.Call (.Attribute (.Name x p1) name apos) (e :: es) [] cpos) pos) (sX (lD i [] f cs)) :=
 PS.weak (ka (qR pa slot hty hm (fq hN hv hd hcd) ha hbase hfew hline hs hplain) hsw) fun D σ H hq=>by
  obtain ⟨Φ,η,o,s,e,k⟩:=hq
  unfold sX lD at e
  obtain ⟨⟨x',η'⟩,e1,e2⟩:=Zy.mp e
  split at e1
  ·rename_i t ht
   obtain ⟨ks,ek,e3⟩:=Zz.mp e1
   cases (show some ([]:List Ky)=some ks from ek)
   obtain ⟨l,el,e4⟩:=Zz.mp e3
   obtain ⟨⟨t',x2⟩,e5,e6⟩:=Zy.mp e4
   cases e6
   cases e2
   obtain ⟨v,h1,h2⟩:=s.rp _ _ ht
   have e7:f t l=some (t',x'):=e5
   refine ⟨v,h1,by rw [hK];exact hT H v t _ l _ h2 e7,Φ,η,l,s,el,fun vs H' Fs q1 q2 q3=>?_⟩
   refine ok Φ η H H' v t t' (Φ i) l vs Fs x' _ h2 (s.nd i t ht) ⟨q1,q2,q3⟩ e7 fun u H2 F' g=>?_
   obtain ⟨w1,w2⟩:=s.mut ht h1 g
   exact k _ σ H2 w1 w2
  ·cases e1
theorem Chg.upd {H H1:Hp} {v:V} {F:Wz} {a:Addr} {o:HO} {t':T} {F':Wz} (e:aG H H1) (ha:a∈F) (hm:Mut (H1 a)) (r:Rp G (upd H1 a o) v t' F') (nd:F'.Nodup) (sub:∀ a∈F',a∈F\/H a=none):Chg G H v F t' (upd H1 a o) F' :=
 ⟨(Kept.of e).trans (Kept.upd (.inl hm)),fun b o' hb h=>by rw [aD (fun z=>hb (by rw [z];exact ha))];exact e b o' h,
  fun b h z=>by
   by_cases q:b=a
   ·subst q;rw [ax] at z;cases z
   ·rw [aD q] at z;exact h (e.free z),r,nd,sub⟩
theorem RpL.off {H:Hp} {vs:List V} {ts:Wq} {Fs:Xk} {a:Addr} {o:HO} (r:RpL G H vs ts Fs) (hm:Mut (H a)) (h:a ∉ Fs.flatten):RpL G (upd H a o) vs ts Fs :=
 r.keep (Kept.upd (.inl hm)) fun b hb o' ho=>by rw [aD (fun z=>h (by rw [← z];exact hb))];exact ho
theorem lT {v:Val} {t:T} (h:fit v=some t):v=(.fr,t):=by
 obtain ⟨m,x⟩:=v
 unfold fit at h
 cases m <;> first | (cases h;rfl) | cases h
theorem nG:xJ G tV aA:=by
 intro Φ η H H1 v t t' F l vs Fs x Q r nd A e k
 unfold aA at e
 split at e
 ·rename_i ts y
  obtain ⟨z,ez,e1⟩:=Zz.mp e
  have ey:=lT ez
  subst ey
  split at e1
  ·rename_i hl
   cases e1
   obtain ⟨a,us,Gs,rfl,rfl,ha,ra⟩:=r.lst_inv
   obtain ⟨w,Fw,rfl,rfl,rw'⟩:=(show RpL G H1 vs [z] Fs from A.rp).one
   have fw:Fp Φ η H .fr Fw:=A.fp.each 0 _ _ rfl rfl
   have ha1:H1 a=some (.lst us):=A.same a _ ha
   have m1:Mut (H1 a):=by rw [ha1];exact True.intro
   have na:a ∉ Gs.flatten:=(Zd.mp nd).1
   have nw:a ∉ Fw:=fun z=>by rw [fw.2 a z] at ha;cases ha
   refine ⟨a,us,w,rfl,rfl,ha1,by rw [ra.len.1];exact hl,k _ _ (a :: (Gs++[Fw]).flatten) ?_⟩
   have off:∀ b∈Gs.flatten,b ∉ Fw:=fun b hb hw=>Mut.ne_none (ra.dom b hb) (fw.2 b hw)
   refine Chg.upd A.same Zt m1 (.lst ax (((ra.same A.same).off m1 na).append (.cons (rw'.keep (Kept.upd (.inl m1)) fun b hb o ho=>by rw [aD (fun z=>nw (by rw [← z];exact hb))];exact ho) .nil))) ?_ ?_
   ·rw [Ys]
    refine Zd.mpr ⟨fun m=>?_,ZU.mpr ⟨(Zd.mp nd).2,by simpa using fw.1,fun b hb c hc z=>?_⟩⟩
    ·rcases Zb.mp m with m | m
     ·exact na m
     ·exact nw (by simpa using m)
    ·subst z;exact off b hb (by simpa using hc)
   ·intro b hb
    rcases Zj.mp hb with rfl | hb
    ·exact .inl Zt
    ·rw [Ys] at hb
     rcases Zb.mp hb with hb | hb
     ·exact .inl (Zu _ hb)
     ·exact .inr (fw.2 b (by simpa using hb))
  ·cases e1
 ·cases e
theorem wB {H:Hp} {v:V} {ts:Wq} {F:Wz} (r:Rp G H v (.lst ts) F):tyV G.K "list" v H:=by
 obtain ⟨a,us,Gs,rfl,rfl,ha,ra⟩:=r.lst_inv
 exact .inl ⟨rfl,_,SqL.of ha⟩
theorem lb {H:Hp} {v:V} {t:T} {F:Wz} {l:Ws} {z:T×Val} (r:Rp G H v t F) (h:aA t l=some z):tyV G.K "list" v H:=by
 unfold aA at h
 split at h
 ·exact wB r
 ·cases h
end
structure ItOk (G:Gx) (J:It) (l:Wq) (C:Wz) (H:Hp):Prop where
 run:∀ H2,Kept H H2->(∀ a∈C,∀ o,H a=some o->H2 a=some o) →
  (∀ (i:Nat) (t:T),l[i]?=some t->J.go i H2/\∀ x H3,J.yld i H2 x H3->aG H2 H3/\∃ F,Rp G H3 x t F/\∀ a∈F,a∈C\/H2 a=none)/\∀ (i:Nat),l.length<=i->J.stop i H2
 dom:∀ a∈C,H a ≠ none
noncomputable def FpC (Φ:Fps) (η:VS.Env) (H:Hp) (m:Md) (C:Wz):Prop:=∀ a∈C,H a=none\/cO Φ η a\/(m=.bo/\bF Φ η a)
theorem Fp.c {Φ:Fps} {η:VS.Env} {H:Hp} {F:Wz}:∀ {m:Md},Fp Φ η H m F->FpC Φ η H m F
 | .fr,f=>fun a ha=>.inl (f.2 a ha)
 | .pu,f=>fun a ha=>(f a ha).imp id .inl
 | .bo,f=>fun a ha=>(f a ha).imp id fun z=>z.imp id fun z=>⟨rfl,z⟩
noncomputable def tI (G:Gx) (c:Its):TI:=fun σ H R=>∃ Φ η m l,SR G Φ η σ H/\c η=some (m,l)/\∀ J H' C,aG H H'->ItOk G J l C H'->FpC Φ η H m C->R J H'
noncomputable def PVI (G:Gx) (X:Cx) (tg iter:Expr) (c:Its):Prop:=PI X tg iter (tI G c)
theorem PI.weak {X:Cx} {tg e:Expr} {t t':TI} (h:PI X tg e t) (w:∀ σ H Q,t' σ H Q->t σ H Q):PI X tg e t':=fun pins s σ H Q I q=>h pins s σ H Q I (w σ H Q q)
section
variable {G:Gx} {X:Cx} {tg e a b:Expr} {es:List Expr} {ca cb:Ex} {cs:Exs} {pos p:Pos}
theorem qH (H:Hp) (lo:Int) (n:Nat):ItOk G (Itr lo n) (rng lo n) [] H:=by
 refine ⟨fun H2 _ _=>⟨fun i t h=>?_,fun i h=>(by simpa [rng] using h:n<=i)⟩,fun a h=>by simp at h⟩
 unfold rng at h
 rw [ZS] at h
 obtain ⟨k,hk,e⟩:=Zy.mp h
 obtain ⟨hlt,e2⟩:=Zh.mp hk
 rw [ZG] at hlt
 have ek:i=k:=by simpa using e2
 subst ek
 refine ⟨hlt,fun x H3 ⟨e3,e4⟩=>?_⟩
 subst e3
 subst e4
 rw [← e]
 exact ⟨aG.refl _,[],.int _,fun a h=>by simp at h⟩
theorem eA (ha:PV G X a ca) (hg:Gl X "range") (hm:X.mg "range" = none) (hs:starEach [a] X.env=(false,eval a X.env) :: starEach [] X.env:=by rfl) (hs':starEach [a] X.env=[(false,eval a X.env)]:=by rfl):PVI G X tg (.Call (.Name "range" p) [a] [] pos) (cq ca) :=
 PI.weak (kG hg hm (cZ ha g7 hs) hs') fun σ H R hq=>by
  obtain ⟨Φ,η,m,l,s,e,k⟩:=hq
  unfold cq at e
  obtain ⟨⟨mx,x⟩,ea,e1⟩:=Zz.mp e
  obtain ⟨j,ej,e2⟩:=Zz.mp e1
  split at e2
  ·rename_i hj
   cases e2
   refine ⟨Φ,η,mx,x,s,ea,fun v H' F e3 r3 f3=>?_⟩
   cases x with
   | int j' =>
    cases ej
    refine ⟨j,by rw [r3.int_inv],?_,?_,k _ H' [] e3 (qH H' 0 j.toNat) fun a h=>by simp at h⟩
    ·have:=hj.1;unfold B62 at this;lia
    ·have:=hj.2;unfold B62 at this;lia
   | _=>cases ej
  ·cases e2
theorem dc {Fs:Xk} {i:Nat} {F:Wz} (h:Fs[i]?=some F) {a:Addr} (ha:a∈F):a∈Fs.flatten:=(cB h).subset ha
theorem zC {H:Hp} {a:Addr} {vs:List V} {ts:Wq} {Fs:Xk} (K:X8) (ha:H a=some (.lst vs)) (r:RpL G H vs ts Fs):ItOk G (Itl K a) ts (a :: Fs.flatten) H:=by
 refine ⟨fun H2 k c=>?_,fun b hb=>?_⟩
 ·have ha2:H2 a=some (.lst vs):=c a Zt _ ha
  have r2:RpL G H2 vs ts Fs:=r.keep k fun b hb o ho=>c b (Zu _ hb) o ho
  refine ⟨fun i t h=>?_,fun i h=>⟨vs,SqL.of ha2,by rw [r.len.1];exact h⟩⟩
  obtain ⟨v,F,h1,h2,h3⟩:=r2.get i h
  refine ⟨⟨vs,v,SqL.of ha2,h1⟩,fun x H3 ⟨e1,e2⟩=>?_⟩
  subst e1
  have ex:=e2 vs (SqL.of ha2)
  rw [h1] at ex
  cases ex
  exact ⟨aG.refl _,F,h3,fun b hb=>.inl (Zu _ (dc h2 hb))⟩
 ·rcases Zj.mp hb with rfl | hb
  ·rw [ha];exact fun z=>nomatch z
  ·exact Mut.ne_none (r.dom b hb)
theorem BO {H:Hp} {a:Addr} {vs:List V} {ts:Wq} {Fs:Xk} (K:X8) (ha:H a=some (.tup vs)) (r:RpL G H vs ts Fs):ItOk G (Itt K a) ts Fs.flatten H:=by
 refine ⟨fun H2 k c=>?_,fun b hb=>Mut.ne_none (r.dom b hb)⟩
 have ha2:H2 a=some (.tup vs):=k.tup a _ ha
 have r2:RpL G H2 vs ts Fs:=r.keep k fun b hb o ho=>c b hb o ho
 refine ⟨fun i t h=>?_,fun i h=>⟨vs,SqT.of ha2,by rw [r.len.1];exact h⟩⟩
 obtain ⟨v,F,h1,h2,h3⟩:=r2.get i h
 refine ⟨⟨vs,v,SqT.of ha2,h1⟩,fun x H3 ⟨e1,e2⟩=>?_⟩
 subst e1
 have ex:=e2 vs (SqT.of ha2)
 rw [h1] at ex
 cases ex
 exact ⟨aG.refl _,F,h3,fun b hb=>.inl (dc h2 hb)⟩
noncomputable def tG (G:Gx) (g:Tg):TG:=fun v σ H Q=>∃ Φ η t F η',SR G Φ η σ H/\Rp G H v t F/\(∀ a∈F,¬ bF Φ η a)/\g t η=some η' ∧
 ∀ Φ' σ',SR G Φ' η' σ' H->(∀ a,bF Φ' η' a->bF Φ η a)->(∀ a,cO Φ' η' a->cO Φ η a\/a∈F)->Q σ' H
noncomputable def PVG (G:Gx) (X:Cx) (e:Expr) (g:Tg):Prop:=PG X e (tG G g)
theorem PG.weak {X:Cx} {e:Expr} {t t':TG} (h:PG X e t) (w:∀ v σ H Q,t' v σ H Q->t v σ H Q):PG X e t':=fun pins s σ H v u Q I r q=>h pins s σ H v u Q I r (w v σ H Q q)
theorem bw (i:Nat) {x:Str} (hN:X.N.Nodup) (hi:X.N[i]?=some x:=by rfl) (hx:Loc X.env.scope x:=by first | exact Or.inl rfl | exact Or.inr rfl)
  (hf:X.fn x=true\/X.env.scope.names.lookup x=some .local:=by first | exact .inl rfl | exact .inr rfl):PVG G X (.Name x pos) (bH i):=PG.weak (sV hN hi hx hf) fun v σ H Q hq=>by
 obtain ⟨Φ,η,t,F,η',s,r,no,e,k⟩:=hq
 unfold bH at e
 split at e
 ·rename_i hl
  cases e
  refine k (lI Φ i F) (σ.set i (some v)) (s.put (c:=.pu t) hl r (fun j c' n hj w q=>q) (fun u hu=>nomatch hu) (fun u hu=>nomatch hu) fun j u n hj a ha ha'=>no a ha' ⟨j,u,hj,ha⟩) (fun a h=>?_) fun a h=>?_
  ·rcases jE h with ⟨u,hu,_⟩ | z
   ·cases hu
   ·exact z
  ·rcases oI h with ⟨u,hu,ha⟩ | z
   ·exact .inr ha
   ·exact .inl z
 ·cases e
theorem nQ {tgt:Tg} {body:Sx} {l:Wq} {η:VS.Env} {i:Nat} {t:T} (h:l[i]?=some t):l.drop i=t :: l.drop (i+1):=by
 obtain ⟨hi,e⟩:=Zh.mp h
 rw [← e]
 exact List.drop_eq_getElem_cons hi
theorem wq {ci:Its} {g:Tg} {cb:Sx} {D:Ends} {σ:L2.St} {H:Hp} (hq:tS G (gz g ci cb) D σ H):DQ (tI G ci) (tG G g) (tS G cb) D σ H:=by
 obtain ⟨Φ,η,o,s,e,k⟩:=hq
 unfold gz at e
 obtain ⟨⟨m,l⟩,el,e1⟩:=Zz.mp e
 dsimp only at e1
 split at e1
 ·rename_i hm
  have hm':m ≠ .bo:=fun z=>by rw [z] at hm;cases hm
  refine ⟨Φ,η,m,l,s,el,fun J H' C e2 ok fc=>?_⟩
  have cno:∀ a∈C,¬ bF Φ η a:=fun a ha z=>by
   rcases fc a ha with q | q | q
   ·exact Mut.ne_none (s.ow_dom z) q
   ·exact s.ow_pu z q
   ·exact hm' q.1
  refine ⟨fun i n σ2 H2=>n=l.length - i/\∃ Φ2 η2,SR G Φ2 η2 σ2 H2/\Frm Φ η H Φ2 η2 H2/\Kept H' H2/\(∀ a∈C,∀ o,H' a=some o->H2 a=some o/\¬ bF Φ2 η2 a)/\forL g cb (l.drop i) η2=some o,
   ⟨l.length - 0,rfl,Φ,η,s.same e2,Frm.same e2,Kept.refl _,fun a ha o' ho=>⟨ho,cno a ha⟩,by rw [List.drop_zero];exact e1⟩,?_⟩
  rintro i n σ2 H2 ⟨rfl,Φ2,η2,s2,f2,kp,con,e3⟩
  obtain ⟨go,stop⟩:=ok.run H2 kp fun a ha o' ho=>(con a ha o' ho).1
  cases hit:l[i]? with
  | none =>
   have hl:l.length<=i:=Yt.mp hit
   left
   rw [YS hl] at e3
   cases (show some (Out.nx η2)=some o from e3)
   exact ⟨stop i hl,k Φ2 σ2 H2 s2 f2⟩
  | some t =>
   have hl:i < l.length:=(Zh.mp hit).1
   right
   obtain ⟨g1,y1⟩:=go i t hit
   rw [nQ (tgt:=g) (body:=cb) (η:=η2) hit] at e3
   obtain ⟨η3,e4,e5⟩:=Zz.mp (show (g t η2).bind (fun η1=>(cb η1).bind fun o=>match o with
    | .nx η2=>forL g cb (l.drop (i+1)) η2
    | .ct η2=>forL g cb (l.drop (i+1)) η2
    | .bk η2=>some (.nx η2)
    | .rt v η2=>some (.rt v η2))=some o from e3)
   obtain ⟨o',e6,e7⟩:=Zz.mp e5
   refine ⟨g1,fun σ4 H4=>∃ Φ4 η4,SR G Φ4 η4 σ4 H4/\Frm Φ η H Φ4 η4 H4/\Kept H' H4/\(∀ a∈C,∀ o,H' a=some o->H4 a=some o/\¬ bF Φ4 η4 a)/\forL g cb (l.drop (i+1)) η4=some o,fun σ4 H4 ⟨Φ4,η4,q⟩=>⟨l.length - (i+1),by omega,rfl,Φ4,η4,q⟩,fun x H3 yl=>?_⟩
   obtain ⟨e8,F,rF,hF⟩:=y1 x H3 yl
   have s3:=s2.same e8
   have noF:∀ a∈F,¬ bF Φ2 η2 a:=fun a ha z=>by
    rcases hF a ha with q | q
    ·have hne:=ok.dom a q
     cases ho:H' a with
     | none=>exact hne ho
     | some o''=>exact (con a q o'' ho).2 z
    ·exact Mut.ne_none (s2.ow_dom z) q
   refine ⟨Φ2,η2,t,F,η3,s3,rF,noF,e4,fun Φ3 σ3 s4 o3 p3=>?_⟩
   have f3:Frm Φ η H Φ3 η3 H3:=⟨fun a o' h n=>let ⟨h1,n1⟩:=f2.keep a o' h n;⟨e8 a o' h1,fun z=>n1 (o3 a z)⟩,fun a h z=>f2.dom a h (e8.free z),fun a h=>f2.ow a (o3 a h),fun a h=>by
    rcases p3 a h with h | h
    ·exact f2.pu a h
    ·rcases hF a h with q | q
     ·rcases fc a q with q | q | q
      ·exact .inr (.inr q)
      ·exact .inl q
      ·exact .inr (.inl q.2)
     ·exact .inr (.inr (f2.none q)),f2.kept.trans (Kept.of e8)⟩
   have next:∀ {Φ4 η4 H4},Frm Φ3 η3 H3 Φ4 η4 H4->Kept H' H4/\∀ a∈C,∀ o,H' a=some o->H4 a=some o/\¬ bF Φ4 η4 a:=fun fb =>
    ⟨(kp.trans (Kept.of e8)).trans fb.kept,fun a ha o' ho=>by
     obtain ⟨h1,n1⟩:=con a ha o' ho
     exact fb.keep a o' (e8 a o' h1) fun z=>n1 (o3 a z)⟩
   refine ⟨Φ3,η3,o',s4,e6,?_⟩
   cases o' with
   | nx η4=>exact fun Φ4 σ4 H4 s5 fb=>⟨Φ4,η4,s5,f3.trans fb,(next fb).1,(next fb).2,e7⟩
   | ct η4=>exact fun Φ4 σ4 H4 s5 fb=>⟨Φ4,η4,s5,f3.trans fb,(next fb).1,(next fb).2,e7⟩
   | bk η4 =>
    cases (show some (Out.nx η4)=some o from e7)
    exact fun Φ4 σ4 H4 s5 fb=>k Φ4 σ4 H4 s5 (f3.trans fb)
   | rt v η4 =>
    cases (show some (Out.rt v η4)=some o from e7)
    exact fun u H4 F4 Φ4 σ4 s5 fb r5 q5=>k u H4 F4 Φ4 σ4 s5 (f3.trans fb) r5 (q5.back f3)
 ·cases e1
theorem eQ {iter:Expr} {body:List Stmt} {ci:Its} {g:Tg} {cb:Sx} (hp:PassesOwn (model X.prog X.w) X.A X.env X.xe) (hc:X.calm=true) (hi:PVI G X tg iter ci) (hg:PVG G X tg g) (hb:gk G X body cb)
  (hs:∀ x,foldedSetIterable iter X.env x=pure x:=by intro _;rfl):PSV G X (.For tg iter body [] pos) (gz g ci cb):=PS.weak (vz hp hc hi hg hb hs) fun D σ H hq=>wq hq
end
noncomputable def Ef (H:Hp) (Fs:Xk):Md->Wz->Prop
 | .fr,F=>F.Nodup/\∀ a∈F,H a=none
 | _,F=>∀ a∈F,H a=none\/a∈Fs.flatten
noncomputable def spF (G:Gx) (g:Fn):Sp:=fun vs H Q _=>∃ ts Fs m r,RpL G H vs ts Fs/\g ts=some (m,r)/\∀ v H' F,aG H H'->Rp G H' v r F->Ef H Fs m F->Q v H'
section
variable {G:Gx} {X:Cx} {k:Nat} {f:Addr} {fd:FuncData} {ps:List Str} {x:Str} {p pos:Pos} {e:Expr} {es:List Expr} {cs:Exs} {g:Fn}
theorem call_of {σ:L2.St} {H:Hp} {Q:VK} {E:XK} (h:tE G (bx g cs) σ H Q):Au (spF G g) [] E (tEs G cs) σ H Q:=by
 obtain ⟨Φ,η,m,t,s,e,kk⟩:=h
 unfold bx at e
 obtain ⟨l,el,e1⟩:=Zz.mp e
 obtain ⟨⟨n,r⟩,er,e2⟩:=Zz.mp e1
 refine ⟨Φ,η,l,s,el,fun vs H1 Fs q1 q2 q3=>?_⟩
 have A:Args G Φ η H H1 l vs Fs:=⟨q1,q2,q3⟩
 have jn:=q3.join A.len
 show spF G g (vs++[]) H1 Q E
 rw [ZO]
 refine ⟨trees l,Fs,n,r,q2,er,fun v H' F q4 q5 q6=>?_⟩
 have wide:(∀ a∈F,H1 a=none\/a∈Fs.flatten)->Fp Φ η H ((Md.pu).join (cz l)) F:=fun h=>by
  cases ej:cz l with
  | fr =>
   rw [ej] at jn
   exact fun a ha=>.inl ((h a ha).elim q1.free (jn.2 a))
  | pu =>
   rw [ej] at jn
   exact fun a ha=>(h a ha).elim (fun z=>.inl (q1.free z)) (jn a)
  | bo =>
   rw [ej] at jn
   exact fun a ha=>(h a ha).elim (fun z=>.inl (q1.free z)) (jn a)
 cases n with
 | fr =>
  cases e2
  exact kk v H' F (q1.trans q4) q5 ⟨q6.1,fun a ha=>q1.free (q6.2 a ha)⟩
 | pu =>
  cases e2
  exact kk v H' F (q1.trans q4) q5 (wide q6)
 | bo =>
  cases e2
  exact kk v H' F (q1.trans q4) q5 (wide q6)
theorem yD (F:FnOk X.prog X.w X.K X.mg X.base CX0 k f fd ps (spF G g)) (hr:Room k X.A) (hg:Gl X x) (hm:X.mg x=some (.ref f)) (hk:PySem.W.keepIn X.K (.ref f)=true) (hb:Binds X.K fd ps [])
  (ha:PVs G X (e :: es) cs) (hdb:(x == ("__debug__" : Str))=false:=by decide) (he:starEach (e :: es) X.env=(false,eval e X.env) :: starEach es X.env:=by rfl) (hpl:(backTo pos (starEach es X.env)).any (·.1)=false:=by rfl) :
  PV G X (.Call (.Name x p) (e :: es) [] pos) (bx g cs) :=
 PE.weak (o5 F hr hg hm hk hb .nil jc ha hdb he hpl) fun σ H Q h=>call_of h
theorem vQ {H:Hp} {vs:List V} {ts:Wq} {Fs:Xk} (r:RpL G H vs ts Fs) (n nv:Nat) (hv:nv=vs.length):SR G (fun i=>Fs.getD i []) (ts.map (fun t=>some (.pu t))++List.replicate (n - ts.length) none) (vs.map some++List.replicate (n - nv) none) H:=by
 subst hv
 have hl:=r.len
 have back:∀ {i:Nat} {c:Cell},(ts.map (fun t=>some (Cell.pu t))++List.replicate (n - ts.length) none)[i]?=some (some c)->∃ t,ts[i]?=some t/\c=.pu t:=fun {i c} h=>by
  by_cases hi:i < ts.length
  ·rw [ZF (by rw [Zw];exact hi),ZS] at h
   obtain ⟨t,h1,h2⟩:=Zy.mp h
   exact ⟨t,h1,(Zm h2).symm⟩
  ·rw [Z7 (by rw [Zw];exact ZL hi),Yi] at h
   split at h <;> cases h
 refine ⟨by simp;lia,fun i c h=>?_,fun i t h=>?_,fun i j t c h=>?_⟩
 ·obtain ⟨t,h1,rfl⟩:=back h
  obtain ⟨v,F,g1,g2,g3⟩:=r.get i h1
  refine ⟨v,?_,?_⟩
  ·have:i < vs.length:=(Zh.mp g1).1
   rw [ZF (by rw [Zw];exact this),ZS,g1]
   rfl
  ·show Rp G H v t (Fs.getD i [])
   rw [Zs,g2]
   exact g3
 ·obtain ⟨t',_,h2⟩:=back h
  cases h2
 ·obtain ⟨t',_,h2⟩:=back h
  cases h2
theorem iK {ts:Wq} {n:Nat} {Φ:Fps} {a:Addr}:¬ bF Φ (ts.map (fun t=>some (Cell.pu t))++List.replicate n none) a:=by
 rintro ⟨i,t,h,_⟩
 by_cases hi:i < ts.length
 ·rw [ZF (by rw [Zw];exact hi),ZS] at h
  obtain ⟨t',_,h2⟩:=Zy.mp h
  cases h2
 ·rw [Z7 (by rw [Zw];exact ZL hi),Yi] at h
  split at h <;> cases h
theorem pR {H:Hp} {vs:List V} {ts:Wq} {Fs:Xk} {n:Nat} {a:Addr} (h:cO (fun i=>Fs.getD i []) (ts.map (fun t=>some (Cell.pu t))++List.replicate n none) a):a∈Fs.flatten:=by
 obtain ⟨i,t,_,h2⟩:=h
 simp only [Zs] at h2
 cases e:Fs[i]? with
 | none=>rw [e] at h2;simp at h2
 | some F=>rw [e] at h2;exact dc e h2
end
section
variable {G:Gx} {P:Program} {w:World} {K:X8} {mg:X9} {base:Heap}
theorem fnV {x qual:Str} {st:Stmt} {f:Addr} {fd:FuncData} {N ps:List Str} {k np nn:Nat} {c:Sx} (F:Fun K x qual st f fd) (S:FnScope N ps (ah st)) (hp:ps.length=np) (hn:N.length=nn)
  (hb:∀ (cdv:Value) (A:Around) (outer:List PySem.Env) (s:Shared) (H:Hp) (E:XK),Room k (A.deeper (envOfC qual (ah st) s.heap.objs.size f cdv))->gk G (il CX0 P w K mg base N qual (ah st) f cdv A outer s H E).nox (aQ st) c) :
  FnOk P w K mg base CX0 (k+1) f fd ps (spF G (fn np nn c)):=by
 refine F.ok S (fun vs H Q E h=>?_) fun cdv A outer s H vs Q E hr h=>⟨_,hb cdv A outer s H E hr,?_⟩
 ·obtain ⟨ts,Fs,m,r,h1,h2,_⟩:=h
  unfold fn at h2
  split at h2
  ·rename_i hl
   rw [h1.len.1,hl,hp]
  ·cases h2
 ·obtain ⟨ts,Fs,m,r,h1,h2,q⟩:=h
  unfold fn at h2
  split at h2
  ·rename_i hl
   obtain ⟨o,e1,e2⟩:=Zz.mp h2
   have s0:=vQ h1 nn vs.length rfl
   rw [hl] at s0
   have e3:L2.start N vs=vs.map some++List.replicate (nn - vs.length) none:=by
    unfold L2.start
    rw [hn]
   rw [e3]
   refine ⟨_,_,o,s0,e1,?_⟩
   cases o with
   | nx η' =>
    cases e2
    intro Φ' σ' H' s' fr
    exact q .non H' [] (fun a o h=>(fr.keep a o h iK).1) .non ⟨Z5,fun a h=>by simp at h⟩
   | rt v η' =>
    cases e2
    intro u H' F' Φ' σ' s' fr r' rf
    refine q u H' F' (fun a o h=>(fr.keep a o h iK).1) r' ?_
    cases m with
    | fr=>exact ⟨rf.1,fun a ha=>(rf.2 a ha).elim id fun z=>absurd z iK⟩
    | pu=>exact fun a ha=>(rf a ha).elim .inl fun z=>z.elim (fun z=>.inr (pR (H:=H) (vs:=vs) z)) fun z=>absurd z iK
    | bo=>exact fun a ha=>(rf a ha).elim .inl fun z=>z.elim (fun z=>.inr (pR (H:=H) (vs:=vs) z)) fun z=>absurd z iK
   | bk η'=>cases e2
   | ct η'=>cases e2
  ·cases h2
end
end VS
end
section
namespace L2
open PySem PySem.Spec PyProof.Rows
theorem kE (env:Env):∀ (l:List (Str×NameKind)) (acc:List (Str×Addr)),(∀ y∈l,y.2=.free->∃ c,env.cells.lookup y.1=some c)->(∀ x c,acc.lookup x=some c->env.cells.lookup x=some c) →
  ∃ cl,(forIn l acc (fun x r=>if (x.snd == NameKind.free)=true then (do let a ← cellOf env x.fst;pure (ForInStep.yield ((x.fst,a) :: r))) else pure (ForInStep.yield r)):Sem (List (Str×Addr)))=pure cl ∧
   (∀ x c,cl.lookup x=some c->env.cells.lookup x=some c)/\(∀ x c,acc.lookup x=some c->∃ c',cl.lookup x=some c')/\∀ y∈l,y.2=.free->∃ c,cl.lookup y.1=some c
 | [],acc,_,ha=>⟨acc,rfl,ha,fun x c h=>⟨c,h⟩,fun y hy=>nomatch hy⟩
 | (n,k) :: l,acc,hf,ha=>by
  by_cases hk:k=.free
  ·subst hk
   obtain ⟨c,hc⟩:=hf (n,.free) Zt rfl
   have ec:cellOf env n=pure c:=by unfold cellOf;dsimp only at hc;rw [hc]
   have ha':∀ x c',((n,c) :: acc).lookup x=some c'->env.cells.lookup x=some c':=fun x c' h=>by
    rw [Yx] at h
    split at h
    ·rename_i hx
     have:x=n:=by simpa using hx
     rw [this,← h];exact hc
    ·exact ha x c' h
   obtain ⟨cl,h1,h2,h3,h4⟩:=kE env l ((n,c) :: acc) (fun y hy=>hf y (Zu _ hy)) ha'
   refine ⟨cl,?_,h2,fun x c' h=>?_,fun y hy hyf=>?_⟩
   ·rw [List.forIn_cons]
    dsimp only
    rw [Zp (show (NameKind.free == NameKind.free)=true from rfl),ec,pure_bind,pure_bind]
    exact h1
   ·by_cases hx:x=n
    ·exact h3 x c (by rw [Yx,hx];simp)
    ·refine h3 x c' ?_
     rw [Yx]
     have:(x == n)=false:=by simpa using hx
     rw [this];exact h
   ·rcases Zj.mp hy with rfl | hy
    ·exact h3 n c (by rw [Yx];simp)
    ·exact h4 y hy hyf
  ·obtain ⟨cl,h1,h2,h3,h4⟩:=kE env l acc (fun y hy=>hf y (Zu _ hy)) ha
   refine ⟨cl,?_,h2,h3,fun y hy hyf=>?_⟩
   ·rw [List.forIn_cons]
    dsimp only
    rw [Zo (by simpa using hk),pure_bind]
    exact h1
   ·rcases Zj.mp hy with rfl | hy
    ·exact absurd hyf hk
    ·exact h4 y hy hyf
theorem zi {sc:Scope} {env:Env} (hf:∀ y∈sc.names,y.2=.free->∃ c,env.cells.lookup y.1=some c) :
  ∃ cl,closureFor sc env=pure cl/\(∀ x c,cl.lookup x=some c->env.cells.lookup x=some c)/\∀ y∈sc.names,y.2=.free->∃ c,cl.lookup y.1=some c:=by
 obtain ⟨cl,h1,h2,_,h4⟩:=kE env sc.names [] hf (fun x c h=>nomatch h)
 refine ⟨cl,?_,h2,h4⟩
 simp only [closureFor]
 rw [h1]
 rfl
theorem gu {l:List (Str×NameKind)} {x:Str} {k:NameKind} (h:l.lookup x=some k):(x,k)∈l:=by
 induction l with
 | nil=>cases h
 | cons p l ih =>
  rw [Yx] at h
  split at h
  ·rename_i hx
   have e:x=p.1:=by simpa using hx
   cases h
   rw [e];exact Zt
  ·exact Zu _ (ih h)
theorem cY {env:Env} {x:Str} {k:NameKind}:∀ {l:List (Str×NameKind)},(l.map fun (n,k)=>if (k == NameKind.free && env.scope.kind == .function && env.kindOf n == some .cell) then (n,NameKind.cell) else (n,k)).lookup x=some k →
  ∃ k0,l.lookup x=some k0/\(k=k0\/(k0=.free/\k=.cell))
 | [],h=>nomatch h
 | (n,k1) :: l,h=>by
  rw [Zn,Yx] at h
  by_cases hc:(k1 == NameKind.free && env.scope.kind == .function && env.kindOf n == some .cell)=true
  ·simp only [hc,if_true] at h
   rw [Yx]
   cases hx:x == n with
   | true =>
    rw [hx] at h
    have:k1=.free:=by
     have:=(Bool.and_eq_true_iff.mp (Bool.and_eq_true_iff.mp hc).1).1
     simpa using this
    exact ⟨k1,rfl,.inr ⟨this,(Zm h).symm⟩⟩
   | false=>rw [hx] at h;exact cY h
  ·simp only [hc,if_false,YA] at h
   rw [Yx]
   cases hx:x == n with
   | true=>rw [hx] at h;exact ⟨k1,rfl,.inl (Zm h).symm⟩
   | false=>rw [hx] at h;exact cY h
noncomputable def cU (X:Cx) (N:List Str) (sc:Scope) (cl:List (Str×Addr)) (C:Addr) (s:Shared) (H:Hp) (fp:Wz):Cx :=
 { X with N:=N,s₀:=s,H₀:=H,env:=compEnvC sc cl C X.env,outer:=X.stack,ex:=fp,fn:=fun _=>false,pn:=[],xe:=fun _ _=>False }
noncomputable def oy (env:Env) (sc:Scope):Bool:=sc.kind == .function && sc.names.all fun y=>match y.2 with
 | .cell=>false
 | .local=>sc.names.lookup y.1 == some .local
 | .free=>env.kindOf y.1 == some .cell || env.kindOf y.1 == some .free
 | _=>true
noncomputable def lF (sc:Scope):List Str->List Str->Bool
 | [],[]=>true
 | a :: as,b :: bs=>((a == b && sc.names.lookup a == some .free) || sc.names.lookup a == none || sc.names.lookup a == some .globalImplicit) && lF sc as bs
 | _,_=>false
theorem su {sc:Scope}:∀ {as bs:List Str},lF sc as bs=true->as.length=bs.length/\∀ (i:Nat) (x:Str),as[i]?=some x->(bs[i]?=some x/\sc.names.lookup x=some .free)\/sc.names.lookup x=none\/sc.names.lookup x=some .globalImplicit
 | [],[],_=>⟨rfl,fun i x h=>by simp at h⟩
 | a :: as,b :: bs,h=>by
  simp only [lF,Zf] at h
  obtain ⟨h1,h2⟩:=h
  obtain ⟨l,r⟩:=su h2
  refine ⟨by simp [l],fun i x e=>?_⟩
  cases i with
  | zero =>
   have:a=x:=by simpa using e
   subst this
   simp only [Bool.or_eq_true,Zf] at h1
   rcases h1 with (⟨z1,z2⟩ | z) | z
   ·exact .inl ⟨by simpa using (by simpa using z1:a=b).symm,by simpa using z2⟩
   ·exact .inr (.inl (by simpa using z))
   ·exact .inr (.inr (by simpa using z))
  | succ i=>simpa using r i x (by simpa using e)
 | [],_ :: _,h=>by simp [lF] at h
 | _ :: _,[],h=>by simp [lF] at h
section
variable {X:Cx} {pins:Y7} {σ:St} {H:Hp} {s:Shared}
theorem Inv.block {N:List Str} {sc:Scope} {cl:List (Str×Addr)} {C D:Addr} {fp:Wz} {k:Nat} {h1:Heap} {t:Nat} {m:X9} (I:Inv X pins σ H s) (hsc:oy X.env sc=true) (hnm:lF sc (N.drop k) X.N=true) (hNl:k<=N.length)
  (hc1:∀ x c,cl.lookup x=some c->X.env.cells.lookup x=some c) (hc2:∀ y∈sc.names,y.2=.free->∃ c,cl.lookup y.1=some c) (hfp:∀ b∈fp,ny X pins H b) (hD:s.heap.objs.size<=D) (hC:s.heap.objs.size<=C) (hDC:D ≠ C) (hfC:C ∉ fp)
  (keep:∀ b u,s.heap.get? b=some u->h1.get? b=some u) (hns:h1.Ns C m) (hDo:h1.get? D=some { cls:=.type "list",data:=.seq ([]:Wy).toArray 0 }) :
  Inv (cU X N sc cl C s H fp) [] (List.replicate k none++σ) (upd H D (.lst [])) { s with heap:=h1,toks:=t }:=by
 unfold oy at hsc
 rw [Zf,Z8] at hsc
 obtain ⟨hk,hall⟩:=hsc
 have hkind:sc.kind=.function:=by simpa using hk
 obtain ⟨hlen,hat⟩:=su hnm
 have hcell:∀ y∈sc.names,y.2 ≠ .cell:=fun y hy e=>by have:=hall y hy;rw [e] at this;cases this
 have frees:∀ x k',(relabel sc X.env).names.lookup x=some k'->k'=.cell\/k'=.free->sc.names.lookup x=some .free:=fun x k' h hk'=>by
  obtain ⟨k0,h0,hk0⟩:=cY h
  rcases hk0 with e | ⟨e,_⟩
  ·subst e
   rcases hk' with e | e
   ·subst e;exact absurd rfl (hcell _ (gu h0))
   ·subst e;exact h0
  ·subst e;exact h0
 have hHD:H D=none:=I.hok.fresh hD
 have hHC:H C=none:=I.hok.fresh hC
 refine ⟨⟨I.mod,hkind,I.ok.glob,I.ok.blt,hC,fun x y c e1 e2=>I.ok.inj x y c (hc1 x c e1) (hc1 y c e2),fun x hx=>?_,fun x c e=>(nomatch e),I.ok.hd,I.ok.frames,.inl rfl,fun b hb=>⟨fun (e:b=C)=>hfC (e ▸ hb),fun x c e=>(hfp b hb).2.2.2.2.1 x c (hc1 x c e)⟩,
  I.bs,ZI I.ok.bsz I.sz,fun b o e hb=>?_,fun b hb hb'=>?_,I.stack,I.stkFree⟩,rfl,I.bare,Un.laid keep hD hHD,⟨m,hns,fun i x v e1 e2 e3=>?_⟩,fun x c e=>?_,?_,fun x c e=>?_,fun p hp=>(nomatch hp),I.hok.laid keep hD ?_,?_⟩
 ·have h:∃ k',(relabel sc X.env).names.lookup x=some k'/\(k'=.cell\/k'=.free):=by
   rcases hx with e | e
   ·exact ⟨_,e,.inl rfl⟩
   ·exact ⟨_,e,.inr rfl⟩
  obtain ⟨k',h1',h2'⟩:=h
  exact hc2 _ (gu (frees x k' h1' h2')) rfl
 ·have hb':b∈fp:=hb
  rcases (hfp b hb').2.2.2.1 with z | z
  ·exact I.ok.noex b o e z
  ·exact absurd (ZQ (ZR e) (ZI I.ok.bsz z)) (Yl _)
 ·have hb0:b∈frs X.stack:=hb'
  rcases Zj.mp (I.stkSub b hb0) with z | z
  ·exact (hfp b hb).2.1 z
  ·exact (hfp b hb).2.2.1 z
 ·
  have hik:k<=i:=by
   rcases Nat.lt_or_ge i k with z | z
   ·rw [ZF (by simpa using z),Yi] at e2
    split at e2 <;> cases e2
   ·exact z
  rw [Z7 (by simpa using hik),YN] at e2
  have e1':(N.drop k)[i - k]?=some x:=by
   rw [List.getElem?_drop,show k+(i - k)=i by exact Nat.add_sub_of_le hik];exact e1
  have vis:sc.names.lookup x=some .free->∃ k',(relabel sc X.env).names.lookup x=some k'/\(k'=.cell\/k'=.free):=fun h0=>by
   have e3':Vis (relabel sc X.env) x:=e3
   rcases e3' with z | z | z
   ·obtain ⟨k0,h1',h2'⟩:=cY z
    rw [h0] at h1';cases h1'
    rcases h2' with q | ⟨_,q⟩ <;> cases q
   ·exact ⟨_,z,.inl rfl⟩
   ·exact ⟨_,z,.inr rfl⟩
  have no:∀ k0,sc.names.lookup x=some k0->∃ k',(relabel sc X.env).names.lookup x=some k'->True:=fun _ _=>⟨.local,fun _=>trivial⟩
  rcases hat _ x e1' with ⟨hX,h0⟩ | h0 | h0
  ·obtain ⟨k',hk1,hk2⟩:=vis h0
   have hf:=hall _ (gu h0)
   have hf':X.env.kindOf x=some .cell\/X.env.kindOf x=some .free:=by
    simpa using hf
   obtain ⟨mX,hnX,hlX⟩:=I.loc
   have visX:Vis X.env.scope x:=hf'.elim (fun z=>.inr (.inl z)) fun z=>.inr (.inr z)
   obtain ⟨u,r,l⟩:=hlX _ x v hX e2 visX
   refine ⟨u,r,.inr ⟨?_,?_⟩⟩
   ·rcases hk2 with z | z
    ·subst z;exact .inl hk1
    ·subst z;exact .inr hk1
   ·obtain ⟨c,hc⟩:=hc2 _ (gu h0) rfl
    refine ⟨c,hc,?_⟩
    rcases l with ⟨z,_⟩ | ⟨_,c',hc',hcell'⟩
    ·rcases hf' with q | q <;> (rw [z] at q;cases q)
    ·have:=hc1 x c hc
     rw [hc'] at this;cases this
     exact hcell'.keeps keep
  ·have e3':Vis (relabel sc X.env) x:=e3
   rcases e3' with z | z | z <;> (obtain ⟨k0,z1,_⟩:=cY z;rw [h0] at z1;cases z1)
  ·have e3':Vis (relabel sc X.env) x:=e3
   rcases e3' with z | z | z <;> (obtain ⟨k0,z1,z2⟩:=cY z;rw [h0] at z1;cases z1;rcases z2 with q | ⟨q,_⟩ <;> cases q)
 ·obtain ⟨v,z⟩:=I.cell x c (hc1 x c e)
  exact ⟨v,z.keeps keep⟩
 ·show upd H D (.lst []) C=none
  rw [aD (Yh hDC)];exact hHC
 ·obtain ⟨v,z⟩:=I.cell x c (hc1 x c e)
  rw [aD (ZY (ZQ z.lt hD))]
  exact I.freeC x c (hc1 x c e)
 ·exact ⟨Yp _,[],0,.nil,hDo⟩
 ·show (List.replicate k none++σ).length=N.length
  rw [Zv,YN,I.len,← hlen,YT]
  exact Nat.add_sub_of_le hNl
noncomputable def Ac (X:Cx) (ifs:List Expr) (t:TT):Prop :=
 ∀ (pins:Y7) (s:Shared) (σ:St) (H:Hp) (Q:Bool->Hp->Prop),Inv X pins σ H s->t σ H Q →
  wpAny (model X.prog X.w) X.A (forIn ifs true fun c r=>if r=true then (do let ok ← isTrue c X.env (eval c X.env);pure (ForInStep.yield ok)) else pure (ForInStep.yield r)) (TP X pins σ Q) X.xe s
theorem mK:Ac X [] (fun σ H Q=>Q true H):=fun pins s σ H Q I q=>Ze ⟨H,I,q⟩
theorem wG {c:Expr} {t:TT} (h:PT X c t):Ac X [c] t:=fun pins s σ H Q I q=>by
 rw [List.forIn_cons,Zp rfl]
 refine Zq (Zq (thn (h pins s σ H Q I q) fun b s1 q1=>Ze ?_))
 exact Ze q1
section
variable {prog:Program} {w:World} {A:Around} {R:Result->Shared->Prop}
theorem qA {elt target iter:Expr} {ifs:List Expr} {scope:Scope} {pos:Pos} {it acc:Value} {env:Env} {s:Shared} (I:Nat->Shared->Prop)
  (turn:∀ n s,I n s->wpAny (model prog w) A (pyNext it) (fun r s₁=>match r with
   | none=>R (.ok .next) s₁
   | some v=>wpAny (model prog w) A (letOwnedTupleGo target it v) (fun _ s₀=>wpAny (model prog w) A (assign target env v) (fun _ s₂ =>
     wpAny (model prog w) A (forIn ifs true fun c r=>if r=true then (do let ok ← isTrue c env (eval c env);pure (ForInStep.yield ok)) else pure (ForInStep.yield r)) (fun ok s₃ =>
      if ok=true then wpAny (model prog w) A (eval elt env) (fun x s₄ =>
       wpAny (model prog w) A (call (.builtin "list.append") [acc,x]) (fun _ s₅=>∃ m,m < n/\I m s₅) (fun _ _=>False) s₄) (fun _ _=>False) s₃
      else ∃ m,m < n/\I m s₃) (fun _ _=>False) s₂) (fun _ _=>False) s₀) (fun _ _=>False) s₁) (fun _ _=>False) s)
  (n:Nat) (h:I n s) :
  codeAny (model prog w) A (.compLoop (.ListComp elt [⟨target,iter,ifs,0⟩] scope pos) 0 it acc env) R s:=by
 refine codeAny_loop rfl I (fun n s hI=>?_) n h
 show wpAny _ A ((compTurn (.ListComp elt [⟨target,iter,ifs,0⟩] scope pos) 0 it acc env).onRaise (fun x=>do noteFrame x env;theTreesLotGoes x)) _ _ s
 refine wpAny_noted ?_
 rw [compTurn_list]
 refine Zq (wpAny_standAt (Zq (YM (turn n s hI) (fun r s₁ h₁=>?_) fun _ _ h'=>h'.elim)))
 cases r with
 | none=>exact Ze h₁
 | some v =>
  refine Zq (YM h₁ (fun _ s₀ h₀=>?_) fun _ _ h'=>h'.elim)
  refine Zq (YM h₀ (fun _ s₂ h₂=>Zq (YM h₂ (fun ok s₃ h₃=>?_) fun _ _ h'=>h'.elim)) fun _ _ h'=>h'.elim)
  cases ok with
  | false=>exact Ze ⟨rfl,h₃⟩
  | true =>
   rw [Zp rfl] at h₃
   exact Zq (Zq (YM h₃ (fun x s₄ h₄=>Zq (YM h₄ (fun _ s₅ h₅=>Ze (Ze ⟨rfl,h₅⟩)) fun _ _ h'=>h'.elim)) fun _ _ h'=>h'.elim))
end
noncomputable def sy (k:Nat) (wi:TI) (g:TG) (tc:TT) (te:TE) (σ:St) (H:Hp) (Q:VK):Prop:=wi σ H fun J H1=>∀ D,H1 D=none->∃ W:Nat->Nat->St->Hp->Prop,
 (∃ m,W 0 m (List.replicate k none++σ) (upd H1 D (.lst [])))/\∀ i m σ' H',W i m σ' H'->(J.stop i H'/\Q (.ref D) H')\/(J.go i H'/\∀ x H2,J.yld i H' x H2->g x σ' H2 fun σ3 H3=>tc σ3 H3 fun b H4 =>
  if b=true then te σ3 H4 fun y H5=>∃ ys,H5 D=some (.lst ys)/\ys.length < sizeLine/\∃ m',m' < m/\W (i+1) m' σ3 (upd H5 D (.lst (ys++[y]))) else ∃ m',m' < m/\W (i+1) m' σ3 H4)
theorem uU {elt tg iter:Expr} {ifs:List Expr} {sc:Scope} {pos pos':Pos} {N:List Str} {k:Nat} {wi:TI} {g:TG} {tc:TT} {te:TE} {use:Option (Value->Sem Unit)} {QQ:Z4} {Q:VK} (hcalm:X.calm=true) (hi:PI X tg iter wi) (hsc:oy X.env sc=true)
  (hnm:lF sc (N.drop k) X.N=true) (hNl:k<=N.length) (hin:∀ cl C s H fp,PG (cU X N sc cl C s H fp) tg g/\Ac (cU X N sc cl C s H fp) ifs tc/\PE (cU X N sc cl C s H fp) elt te)
  (hs:∀ x,foldedSetIterable iter X.env x=pure x) (I:Inv X pins σ H s) (h:sy k wi g tc te σ H Q)
  (hq:∀ s' H' D C m,Inv X pins σ H' s'->Q (.ref D) H'->s'.heap.Ns C m->ny X pins H' C->compPost (model X.prog X.w) X.A X.xe use QQ (.ref D) C (.ok .next) s') :
  wpAny (model X.prog X.w) X.A (comprehension (.ListComp elt [⟨tg,iter,ifs,0⟩] sc pos) sc X.env pos' (newList []) false (eval iter X.env) use) QQ X.xe s:=by
 have hsc':=hsc
 unfold oy at hsc'
 rw [Zf,Z8] at hsc'
 obtain ⟨hk,hall⟩:=hsc'
 have hkind:sc.kind=.function:=by simpa using hk
 have hcell:∀ y∈sc.names,y.2 ≠ .cell:=fun y hy e=>by have:=hall y hy;rw [e] at this;cases this
 have hnames:∀ y∈sc.names,y.2=.local->sc.names.lookup y.1=some .local:=fun y hy e=>by
  have:=hall y hy
  rw [e] at this
  simpa using this
 obtain ⟨cl,hcl,hc1,hc2⟩:=zi (sc:=sc) (env:=X.env) fun y hy e=>I.ok.has y.1 (by
  have:=hall y hy
  rw [e] at this
  simpa using this)
 refine wpAny_comprehension_free (use:=use) rfl hs hcl hkind hnames (thn (hi pins s σ H _ I h) fun v s1 h1=>thn h1 fun itv s2 h2=>?_)
 obtain ⟨it,fp,tn,J,H2,e,I2,T,st2,f2,hW⟩:=h2
 subst e
 refine Xc (wpAny_newFunctionEnv hcell (by intro y hy;simp at hy) (fun h₁ hns₁ hsb₁=>?_) hkind)
 dsimp only at hns₁ hsb₁ ⊢
 generalize hP:s2.heap.push { cls:=.type "list",dict:=none,data:=.seq ([]:Wy).toArray }=P at hns₁ hsb₁ ⊢
 have hCs:P.objs.size=s2.heap.objs.size+1:=by rw [← hP,X0]
 have old:∀ b o,s2.heap.get? b=some o->h₁.get? b=some o:=fun b o e =>
  hsb₁.extBut b o (by rw [hCs];exact ZY (XE (ZR e))) (Zk _ (hP ▸ Zk _ e))
 have hDC:s2.heap.objs.size ≠ P.objs.size:=by rw [hCs];exact ZY (Yu _)
 have hDo:h₁.get? s2.heap.objs.size=some { cls:=.type "list",data:=.seq ([]:Wy).toArray 0 }:=hsb₁.extBut _ _ hDC (Zk _ (hP ▸ ZV _ rfl))
 have hCle:s2.heap.objs.size<=P.objs.size:=by rw [hCs];exact Xp _
 have lt_fp:∀ b∈fp,b < s2.heap.objs.size:=fun b hb=>let ⟨o,ho,_⟩:=T.obj 0 _ st2 b hb;ZR ho
 have hfC:P.objs.size ∉ fp:=fun hb=>absurd (ZQ (lt_fp _ hb) hCle) (Yl _)
 have IY:=I2.block (N:=N) (sc:=sc) (cl:=cl) (C:=P.objs.size) (D:=s2.heap.objs.size) (fp:=fp) (k:=k) (t:=s2.toks+([]:List (Str×Value)).length) hsc hnm hNl hc1 hc2 f2 (Zi _) hCle hDC hfC old hns₁ hDo
 obtain ⟨hG,hT,hE⟩:=hin cl P.objs.size s2 H2 fp
 generalize hY:cU X N sc cl P.objs.size s2 H2 fp=Y at IY hG hT hE
 have hYm:Y.prog=X.prog/\Y.w=X.w/\Y.K=X.K/\Y.A=X.A/\Y.env=compEnvC sc cl P.objs.size X.env/\Y.calm=X.calm/\(Y.xe=fun _ _=>False):=by rw [← hY];exact ⟨rfl,rfl,rfl,rfl,rfl,rfl,rfl⟩
 obtain ⟨y1,y2,y3,y4,y5,y6,y7⟩:=hYm
 have stat:∀ {H':Hp},(∀ b∈fp,H' b=none)->∀ b∈fp,ny Y [] H' b:=fun {H'} hn b hb=>by
  rw [← hY]
  refine ⟨hn b hb,fun (e:b=P.objs.size)=>hfC (e ▸ hb),fun hb'=>?_,.inl hb,fun x c e=>(f2 b hb).2.2.2.2.1 x c (hc1 x c e),fun p hp=>(nomatch hp)⟩
  rcases Zj.mp (I2.stkSub b hb') with z | z
  ·exact (f2 b hb).2.1 z
  ·exact (f2 b hb).2.2.1 z
 obtain ⟨W,⟨m0,w0⟩,turn⟩:=hW s2.heap.objs.size (I2.hok.fresh (Zi _))
 have hfp0:∀ b∈fp,upd H2 s2.heap.objs.size (.lst []) b=none:=fun b hb=>by rw [aD (ZY (lt_fp b hb))];exact (f2 b hb).1
 have st3:tn 0 h₁:=T.keep _ _ _ st2 fun b _ o e=>old b o e
 have loop:codeAny (model X.prog X.w) X.A (.compLoop (.ListComp elt [⟨tg,iter,ifs,0⟩] sc pos) 0 (.ref it) (.ref s2.heap.objs.size) (compEnvC sc cl P.objs.size X.env)) (compPost (model X.prog X.w) X.A X.xe use QQ (.ref s2.heap.objs.size) P.objs.size)
   { s2 with heap:=h₁,toks:=s2.toks+([]:List (Str×Value)).length }:=by
  refine qA (fun n s'=>∃ i σ' H',Inv Y [] σ' H' s'/\tn i s'.heap/\(∀ b∈fp,H' b=none)/\W i n σ' H') ?_ m0 ⟨0,_,_,IY,st3,hfp0,w0⟩
  rintro n s3 ⟨i,σ3,H3,I3,st3,fr3,w3⟩
  rcases turn i n σ3 H3 w3 with ⟨stop,qn⟩ | ⟨go,step⟩
  ·have q:=T.done Y y1 y2 y3 (y6.trans hcalm) i [] s3 σ3 H3 (fun _ _=>False) I3 (stat fr3) st3 stop
   rw [y4] at q
   refine thn q fun r s4 ⟨hr,I4⟩=>?_
   subst hr
   have IX:Inv X pins σ H3 s4:=by
    have b4:=I4.base
    have o4:=I4.os
    have k4:=I4.hok
    rw [← hY] at b4 o4 k4
    refine I2.call' (ch:=fp) o4 b4 k4 I4.bare fun b hb=>?_
    exact ⟨(f2 b hb).2.2.2.1,(f2 b hb).2.1,(f2 b hb).2.2.2.2.1,(f2 b hb).2.2.2.2.2⟩
   obtain ⟨mC,hmC,_⟩:=I4.loc
   have f4:=I4.free
   rw [y5] at hmC f4
   exact hq s4 H3 _ P.objs.size mC IX qn hmC (I2.fpOk hCle f4)
  ·have q:=T.item Y y1 y2 y3 (y6.trans hcalm) i [] s3 σ3 H3 (fun _ _=>False) I3 (stat fr3) st3 go
   rw [y4] at q
   refine thn q fun r s4 ⟨u,hr,h4⟩=>?_
   subst hr
   refine thn h4 fun _ s5 ⟨x,H5,I5,r5,yl5,st5,fr5⟩=>?_
   have I5':=I5.pinned (stat fr5) (T.obj _ _ st5)
   have again:∀ {σ7:St} {H7:Hp} {s7:Shared} {m:Nat},Inv Y ([]++mM fp s5.heap) σ7 H7 s7->W (i+1) m σ7 H7->∃ i σ' H',Inv Y [] σ' H' s7/\tn i s7.heap/\(∀ b∈fp,H' b=none)/\W i m σ' H':=fun {σ7 H7 s7 m} I7 w7=>by
    refine ⟨i+1,σ7,H7,I7.unpinned,T.keep _ _ _ st5 fun b hb o e=>(I7.pin (b,o) (ZK _ (ZK _ (hJ hb e)))).1,fun b hb=>?_,w7⟩
    obtain ⟨o,e,d⟩:=T.obj _ _ st5 b hb
    exact (I7.pin (b,o) (ZK _ (ZK _ (hJ hb e)))).2.1
   have qa:=hG _ s5 σ3 H5 x u _ I5' r5 (step x H5 yl5)
   rw [y1,y2,y4,y5,y7] at qa
   refine thn qa fun _ s6 ⟨σ6,H6,I6,q6⟩=>?_
   have qt:=hT _ s6 σ6 H6 _ I6 q6
   rw [y1,y2,y4,y5,y7] at qt
   refine thn qt fun b s7 ⟨H7,I7,q7⟩=>?_
   cases b with
   | false =>
    rw [Zo Zg] at q7 ⊢
    obtain ⟨m',hm,w7⟩:=q7
    exact ⟨m',hm,again I7 w7⟩
   | true =>
    rw [Zp rfl] at q7 ⊢
    have qe:=hE _ s7 σ6 H7 _ I7 q7
    rw [y1,y2,y4,y5,y7] at qe
    refine thn qe fun yv s8 ⟨y,H8,I8,r8,ys,hD8,hl8,m',hm,w8⟩=>?_
    have qp:=i7 (X:=Y) _ s8 σ6 H8 (.ref s2.heap.objs.size) [y] (.ref s2.heap.objs.size) [yv] (fun _ H9=>W (i+1) m' σ6 H9) I8 rfl (.cons r8 .nil) ⟨_,ys,y,rfl,rfl,hD8,hl8,w8⟩
    rw [y1,y2,y4,y7] at qp
    refine thn qp fun _ s9 ⟨_,H9,I9,_,w9⟩=>?_
    exact ⟨m',hm,again I9 w9⟩
 exact codeAny_compStart_list loop (T.self _ 0 _ _ _ st3 loop)
theorem lL {elt tg iter:Expr} {ifs:List Expr} {sc:Scope} {pos:Pos} {N:List Str} {k:Nat} {wi:TI} {g:TG} {tc:TT} {te:TE} (hcalm:X.calm=true) (hi:PI X tg iter wi) (hsc:oy X.env sc=true)
  (hnm:lF sc (N.drop k) X.N=true) (hNl:k<=N.length) (hin:∀ cl C s H fp,PG (cU X N sc cl C s H fp) tg g/\Ac (cU X N sc cl C s H fp) ifs tc/\PE (cU X N sc cl C s H fp) elt te)
  (hs:∀ x,foldedSetIterable iter X.env x=pure x:=by intro _;rfl):PE X (.ListComp elt [⟨tg,iter,ifs,0⟩] sc pos) (sy k wi g tc te):=by
 intro pins s σ H Q I h
 rw [eval_ListComp]
 refine uU (use:=none) hcalm hi hsc hnm hNl hin hs I h fun s' H' D C m I' q hn f=>⟨m,hn,fun h' hs'=>?_⟩
 exact ⟨.ref D,H',I'.turned (it:=C) (t':=s'.toks) (fun b o hb e=>hs'.extBut b o hb e) f.1 f.2.1 f.2.2.2.1 f.2.2.2.2.1 f.2.2.2.2.2,rfl,q⟩
end
end L2
end
section
namespace VS
open PySem PySem.Spec PyProof.Rows L2
noncomputable def xm (k:Nat) (g:Tg):Prop:=∀ t η η',g t η=some η'->η'.length=η.length/\∀ i,k<=i->η'[i]?=η[i]?
theorem iZ {k i:Nat} (h:i < k):xm k (bH i):=fun t η η' e=>by
 unfold bH at e
 split at e
 ·cases e
  exact ⟨by simp,fun j hj=>by rw [Yw (by lia)]⟩
 ·cases e
theorem sF:∀ (l:Wq) {i:Nat} {t:T},dW l=true->l[i]?=some t->imm t=true
 | [],_,_,_,h=>by simp at h
 | x :: l,0,t,h,e=>by
  simp only [dW,Zf] at h
  simp at e;rw [← e];exact h.1
 | x :: l,i+1,t,h,e=>by
  simp only [dW,Zf] at h
  exact sF l h.2 (by simpa using e)
noncomputable def tC (G:Gx):Option Ex->TT
 | none=>fun σ H Q=>Q true H
 | some c=>tT G c
section
variable {G:Gx} {Φ:Fps} {η:VS.Env} {σ:L2.St} {H:Hp} {k:Nat}
theorem jY {i:Nat} {c:Cell}:(List.replicate k none++η)[i]?=some (some c) ↔ k<=i/\η[i - k]?=some (some c):=by
 rcases Nat.lt_or_ge i k with h | h
 ·rw [ZF (by simpa using h),Yi]
  constructor
  ·intro e;split at e <;> cases e
  ·intro ⟨e,_⟩;lia
 ·rw [Z7 (by simpa using h),YN]
  exact ⟨fun e=>⟨h,e⟩,fun e=>e.2⟩
theorem vV {a:Addr}:bF (fun i=>Φ (i - k)) (List.replicate k none++η) a ↔ bF Φ η a:=by
 constructor
 ·rintro ⟨j,t,h1,h2⟩
  exact ⟨j - k,t,(jY.mp h1).2,h2⟩
 ·rintro ⟨j,t,h1,h2⟩
  refine ⟨j+k,t,jY.mpr ⟨Nat.le_add_left _ _,by rw [Xs];exact h1⟩,?_⟩
  show a∈Φ (j+k - k)
  rw [Xs];exact h2
theorem wu {a:Addr}:cO (fun i=>Φ (i - k)) (List.replicate k none++η) a ↔ cO Φ η a:=by
 constructor
 ·rintro ⟨j,t,h1,h2⟩
  exact ⟨j - k,t,(jY.mp h1).2,h2⟩
 ·rintro ⟨j,t,h1,h2⟩
  refine ⟨j+k,t,jY.mpr ⟨Nat.le_add_left _ _,by rw [Xs];exact h1⟩,?_⟩
  show a∈Φ (j+k - k)
  rw [Xs];exact h2
theorem SR.sh (s:SR G Φ η σ H):SR G (fun i=>Φ (i - k)) (List.replicate k none++η) (List.replicate k none++σ) H:=by
 refine ⟨by simp [s.len],fun i c h=>?_,fun i t h=>?_,fun i j t c h1 h2 n=>?_⟩
 ·obtain ⟨h1,h2⟩:=jY.mp h
  obtain ⟨v,g1,g2⟩:=s.rp _ c h2
  refine ⟨v,?_,g2⟩
  rw [Z7 (by simpa using h1),YN]
  exact g1
 ·exact s.nd _ t (jY.mp h).2
 ·obtain ⟨a1,a2⟩:=jY.mp h1
  obtain ⟨b1,b2⟩:=jY.mp h2
  exact s.sep _ _ t c a2 b2 (by lia)
theorem SR.less {η':VS.Env} (s:SR G Φ η' σ H) (hl:η.length=η'.length) (h:∀ (i:Nat) c,η[i]?=some (some c)->η'[i]?=some (some c)):SR G Φ η σ H :=
 ⟨hl.trans s.len,fun i c e=>s.rp i c (h i c e),fun i t e=>s.nd i t (h i _ e),fun i j t c e1 e2 n=>s.sep i j t c (h i _ e1) (h j _ e2) n⟩
theorem SR.off {D:Addr} {o:HO} (s:SR G Φ η σ H) (m:Mut (H D)\/H D=none) (n1:¬ cO Φ η D) (n2:¬ bF Φ η D):SR G Φ η σ (upd H D o):=by
 refine ⟨s.len,fun i c e=>?_,s.nd,s.sep⟩
 obtain ⟨v,g1,g2⟩:=s.rp i c e
 refine ⟨v,g1,g2.keep (Kept.upd m) fun b hb o' ho=>?_⟩
 rw [aD fun z=>?_]
 ·exact ho
 ·subst z
  cases c with
  | pu t=>exact n1 ⟨i,t,e,hb⟩
  | ow t=>exact n2 ⟨i,t,e,hb⟩
theorem mH:∀ (l:Ws) (v:Val),cz (l++[v])=(cz l).join v.1
 | [],(m,t)=>by cases m <;> rfl
 | (m,t) :: l,v=>by
  show m.join (cz (l++[v]))=(m.join (cz l)).join v.1
  rw [mH l v]
  generalize cz l=q
  generalize v.1=r
  cases m <;> cases q <;> cases r <;> rfl
theorem Fp.join2 {m n:Md} {F F':Wz} (f:Fp Φ η H m F) (g:Fp Φ η H n F') (d:n=.fr->∀ a∈F,a ∉ F'):Fp Φ η H (m.join n) (F++F'):=by
 have both:∀ {P:Addr->Prop},(∀ a∈F,P a)->(∀ a∈F',P a)->∀ a∈F++F',P a:=fun p q a h=>(Zb.mp h).elim (p a) (q a)
 cases m <;> cases n
 ·exact ⟨ZU.mpr ⟨f.1,g.1,fun a ha b hb e=>d rfl a ha (e ▸ hb)⟩,both f.2 g.2⟩
 ·exact both (fun a ha=>.inl (f.2 a ha)) g
 ·exact both (fun a ha=>.inl (f.2 a ha)) g
 ·exact both f fun a ha=>.inl (g.2 a ha)
 ·exact both f g
 ·exact both (fun a ha=>(f a ha).imp id .inl) g
 ·exact both f fun a ha=>.inl (g.2 a ha)
 ·exact both f fun a ha=>(g a ha).imp id .inl
 ·exact both f g
theorem Fp.cons1 {m:Md} {F:Wz} {D:Addr} (f:Fp Φ η H m F) (h:H D=none) (d:D ∉ F):Fp Φ η H m (D :: F):=by
 have all:∀ {P:Addr->Prop},P D->(∀ a∈F,P a)->∀ a∈D :: F,P a:=fun p q a ha=>(Zj.mp ha).elim (fun e=>e ▸ p) (q a)
 cases m
 ·exact ⟨Zd.mpr ⟨d,f.1⟩,all h f.2⟩
 ·exact all (.inl h) f
 ·exact all (.inl h) f
end
section
variable {G:Gx} {k:Nat} {tg:Tg} {ci:Its} {cond:Option Ex} {ce:Ex}
noncomputable def CI (G:Gx) (Φ:Fps) (η η0:VS.Env) (H H1:Hp) (D:Addr) (l:Wq) (all:Ws) (tg:Tg) (cond:Option Ex) (ce:Ex) (i n:Nat) (σ':L2.St) (H':Hp):Prop:=n=l.length - i/\∃ Φ1 vs Fs xs rest,SR G Φ1 η0 σ' H'/\(∀ a,bF Φ1 η0 a->bF Φ η a)/\(∀ a,cO Φ1 η0 a->H a=none\/cO Φ η a)/\¬ cO Φ1 η0 D/\¬ bF Φ1 η0 D/\Kept H1 H' ∧
     (∀ a o,a ≠ D->H1 a=some o->H' a=some o)/\H' D=some (.lst xs)/\RpL G H' xs (trees vs) Fs/\D ∉ Fs.flatten/\Fp Φ η H (cz vs) Fs.flatten/\je tg cond ce η0 (l.drop i)=some rest/\vs++rest=all
theorem pz {σ:L2.St} {H:Hp} {Q:VK} (hin:xm k tg) (h:tE G (fe k tg ci cond ce) σ H Q):sy k (tI G ci) (tG G tg) (tC G cond) (tE G ce) σ H Q:=by
 refine L2.j4 fun P_ k_=>?_
 obtain ⟨Φ,η,m,r,s,e,kq⟩:=h
 unfold fe at e
 obtain ⟨⟨mi,l⟩,el,e1⟩:=Zz.mp e
 dsimp only at e1
 split at e1
 ·rename_i hok
  obtain ⟨all,ea,e2⟩:=Zz.mp e1
  unfold mkL at e2
  split at e2
  ·rename_i hlen
   cases e2
   refine k_ ?_
   refine ⟨Φ,η,mi,l,s,el,fun J H1 C e3 ok fc D hD=>?_⟩
   have hHD:H D=none:=e3.free hD
   let η0:VS.Env:=List.replicate k none++η
   have good:∀ {t:T} {i:Nat} {H' H2:Hp} {v:V} {F:Wz},l[i]?=some t->Rp G H2 v t F->(∀ a,H1 a ≠ none->H' a ≠ none)->(∀ a∈F,a∈C\/H' a=none)->∀ a∈F,(H a=none\/cO Φ η a)/\¬ bF Φ η a:=fun {t i H' H2 v F} hi rF keep hF a ha=>by
    have dom:∀ {b},H b ≠ none->H' b ≠ none:=fun {b} hb=>keep b fun z=>hb (e3.free z)
    rcases hF a ha with z | z
    ·rcases fc a z with q | q | ⟨q,w⟩
     ·exact ⟨.inl q,fun w=>Mut.ne_none (s.ow_dom w) q⟩
     ·exact ⟨.inr q,fun w=>s.ow_pu w q⟩
     ·subst q
      have:imm t=true:=by
       exact sF l hok hi
      rw [rF.imm this] at ha
      simp at ha
    ·have hz:H a=none:=Classical.byContradiction fun q=>dom q z
     exact ⟨.inl hz,fun w=>Mut.ne_none (s.ow_dom w) hz⟩
   refine ⟨CI G Φ η η0 H H1 D l all tg cond ce,?_,?_⟩
   ·refine ⟨l.length - 0,rfl,fun i=>Φ (i - k),[],[],[],all,?_,fun a h=>vV.mp h,fun a h=>.inr (wu.mp h),fun h=>?_,fun h=>?_,Kept.upd (.inr hD),fun a o n h=>by rw [aD n];exact h,ax,.nil,by simp,Fp.nil,by rw [List.drop_zero];exact ea,rfl⟩
    ·exact ((s.same e3).sh).off (.inr hD) (fun h=>Mut.ne_none (s.pu_dom (wu.mp h)) hHD) fun h=>Mut.ne_none (s.ow_dom (vV.mp h)) hHD
    ·exact Mut.ne_none (s.pu_dom (wu.mp h)) hHD
    ·exact Mut.ne_none (s.ow_dom (vV.mp h)) hHD
   ·intro i n σ' H' hh_
    refine L2.j4 fun P_ k_=>?_
    obtain ⟨rfl,Φ1,vs,Fs,xs,rest,s1,ow1,pu1,np1,no1,kp,old,hD',rp,nD,fp,er,ev⟩:=hh_
    refine k_ ?_
    have keepdom:∀ a,H1 a ≠ none->H' a ≠ none:=fun a ha z=>by
     by_cases q:a=D
     ·subst q;rw [hD'] at z;cases z
     ·cases e:H1 a with
      | none=>exact ha e
      | some o=>rw [old a o q e] at z;cases z
    refine L2.j4 fun P_ k_=>?_
    obtain ⟨go,stop⟩:=ok.run H' kp fun a ha o ho=>old a o (fun z=>ok.dom a ha (z ▸ hD)) ho
    cases hit:l[i]? with
    | none =>
     have hl:l.length<=i:=Yt.mp hit
     refine k_ ?_
     left
     refine ⟨stop i hl,?_⟩
     rw [YS hl] at er
     cases (show some ([]:Ws)=some rest from er)
     rw [ZO] at ev
     subst ev
     refine kq (.ref D) H' (D :: Fs.flatten) (fun a o h=>old a o (fun z=>by rw [z,hHD] at h;cases h) (e3 a o h)) (.lst hD' rp) ?_
     by_cases hi:dW (trees vs)=true
     ·rw [Zp hi,rp.imm hi]
      exact ⟨by simp,fun a ha=>by rw [Za.mp ha];exact hHD⟩
     ·rw [Zo hi]
      exact fp.cons1 hHD nD
    | some t =>
     have hl:i < l.length:=(Zh.mp hit).1
     obtain ⟨g1,y1⟩:=go i t hit
     refine k_ ?_
     right
     refine ⟨g1,fun x H2 yl=>?_⟩
     refine L2.j4 fun P_ k_=>?_
     obtain ⟨e8,F,rF,hF⟩:=y1 x H2 yl
     rw [nQ (tgt:=tg) (body:=eX) (η:=η) hit] at er
     rw [je] at er
     obtain ⟨η3,e4,e5⟩:=Zz.mp er
     obtain ⟨b,eb,e6⟩:=Zz.mp e5
     have gd:=good hit rF keepdom hF
     have s2:=s1.same e8
     have DF:D ∉ F:=fun h=>by
      rcases hF D h with z | z
      ·exact ok.dom D z hD
      ·rw [hD'] at z;cases z
     refine k_ ?_
     refine ⟨Φ1,η0,t,F,η3,s2,rF,fun a ha z=>(gd a ha).2 (ow1 a z),e4,fun Φ3 σ3 s3 o3 p3=>?_⟩
     obtain ⟨tl,tsame⟩:=hin t η0 η3 e4
     have low:∀ j c,η0[j]?=some (some c)->η3[j]?=some (some c):=fun j c h=>by rw [tsame j (jY.mp h).1];exact h
     have pu3:∀ a,cO Φ3 η3 a->H a=none\/cO Φ η a:=fun a h=>(p3 a h).elim (pu1 a) fun h=>(gd a h).1
     have ow3:∀ a,bF Φ3 η3 a->bF Φ η a:=fun a h=>ow1 a (o3 a h)
     have np3:¬ cO Φ3 η3 D:=fun h=>(p3 D h).elim np1 DF
     have no3:¬ bF Φ3 η3 D:=fun h=>no1 (o3 D h)
     have pul:∀ a,cO Φ3 η0 a->cO Φ3 η3 a:=fun a ⟨j,u,h1,h2⟩=>⟨j,u,low j _ h1,h2⟩
     have owl:∀ a,bF Φ3 η0 a->bF Φ3 η3 a:=fun a ⟨j,u,h1,h2⟩=>⟨j,u,low j _ h1,h2⟩
     have rest':∀ H4,aG H2 H4->(if b=true then tE G ce σ3 H4 fun y H5=>∃ ys,H5 D=some (.lst ys)/\ys.length < sizeLine/\∃ m',m' < l.length - i/\CI G Φ η η0 H H1 D l all tg cond ce (i+1) m' σ3 (upd H5 D (.lst (ys++[y]))) else ∃ m',m' < l.length - i/\CI G Φ η η0 H H1 D l all tg cond ce (i+1) m' σ3 H4):=fun H4 e9=>by
      have eo:∀ {H5},aG H4 H5->∀ a o,H' a=some o->H5 a=some o:=fun {H5} e10 a o h=>e10 a o (e9 a o (e8 a o h))
      cases b with
      | false =>
       rw [Zo Zg] at e6 ⊢
       have same:=eo (aG.refl H4)
       exact ⟨_,by lia,rfl,Φ3,vs,Fs,xs,rest,(s3.same e9).less (by rw [tl]) low,fun a h=>ow3 a (owl a h),fun a h=>pu3 a (pul a h),fun h=>np3 (pul D h),fun h=>no3 (owl D h),kp.trans ((Kept.of e8).trans (Kept.of e9)),fun a o n h=>same a o (old a o n h),same D _ hD',rp.same (aG.trans e8 e9),nD,fp,e6,ev⟩
      | true =>
       rw [Zp rfl] at e6 ⊢
       obtain ⟨⟨mv,tv⟩,ece,e7⟩:=Zz.mp e6
       obtain ⟨rest1,er1,e7'⟩:=Zy.mp e7
       refine ⟨Φ3,η3,mv,tv,s3.same e9,ece,fun y H5 Fy e10 ry fy=>?_⟩
       have same:=eo e10
       have hD5:=same D _ hD'
       have mD5:Mut (H5 D):=by rw [hD5];exact True.intro
       have hD4:H4 D=some (.lst xs):=e9 D _ (e8 D _ hD')
       have none4:∀ a,H4 a=none->H a=none:=fun a h=>Classical.byContradiction fun q=>keepdom a (fun z=>q (e3.free z)) (e8.free (e9.free h))
       have fyo:Fp Φ η H mv Fy:=by
        cases mv with
        | fr=>exact ⟨fy.1,fun a ha=>none4 a (fy.2 a ha)⟩
        | pu=>exact fun a ha=>(fy a ha).elim (fun z=>.inl (none4 a z)) (pu3 a)
        | bo=>exact fun a ha=>(fy a ha).elim (fun z=>.inl (none4 a z)) fun z=>z.elim (fun z=>(pu3 a z).imp id .inl) fun z=>.inr (.inr (ow3 a z))
       have DFy:D ∉ Fy:=fun h=>by
        cases mv with
        | fr=>have:=fy.2 D h;rw [hD4] at this;cases this
        | pu=>exact (fy D h).elim (fun z=>by rw [hD4] at z;cases z) np3
        | bo=>exact (fy D h).elim (fun z=>by rw [hD4] at z;cases z) fun z=>z.elim np3 no3
       have rp5:RpL G H5 xs (trees vs) Fs:=rp.same ((e8.trans e9).trans e10)
       have lenx:xs.length=vs.length:=by rw [rp.len.1];simp
       have lenv:vs.length < all.length:=by rw [← ev,← e7'];simp
       refine ⟨xs,hD5,?_,_,by lia,rfl,Φ3,vs++[(mv,tv)],Fs++[Fy],xs++[y],rest1,(((s3.same e9).same e10).off (.inl mD5) np3 no3).less (by rw [tl]) low,fun a h=>ow3 a (owl a h),fun a h=>pu3 a (pul a h),fun h=>np3 (pul D h),fun h=>no3 (owl D h),?_,fun a o n h=>?_,ax,?_,?_,?_,er1,?_⟩
       ·have hlen':all.length<=fg:=by simpa using hlen
        have:sizeLine=fg:=rfl
        lia
       ·exact (kp.trans ((Kept.of e8).trans ((Kept.of e9).trans (Kept.of e10)))).trans (Kept.upd (.inl mD5))
       ·rw [aD n];exact same a o (old a o n h)
       ·have:trees (vs++[(mv,tv)])=trees vs++[tv]:=by simp
        rw [this]
        exact (rp5.off mD5 nD).append (.cons (ry.keep (Kept.upd (.inl mD5)) fun b hb o ho=>by rw [aD (fun z=>DFy (by rw [← z];exact hb))];exact ho) .nil)
       ·rw [Ys]
        intro h
        rcases Zb.mp h with z | z
        ·exact nD z
        ·exact DFy (by simpa using z)
       ·rw [Ys,mH]
        have:([Fy]:Xk).flatten=Fy:=by simp
        rw [this]
        refine fp.join2 fyo fun hm a ha hb=>?_
        subst hm
        have h4:=fy.2 a hb
        have:Mut (H4 a):=(rp.same (e8.trans e9)).dom a ha
        rw [h4] at this;exact this
       ·rw [ZJ,← ev,← e7'];rfl
     cases cond with
     | none =>
      cases (show some true=some b from eb)
      exact rest' H2 (aG.refl H2)
     | some c =>
      obtain ⟨⟨mc,xc⟩,ec1,ec2⟩:=Zz.mp eb
      exact ⟨Φ3,η3,mc,xc,b,s3,ec1,ec2,fun H4 e9=>rest' H4 e9⟩
  ·cases e2
 ·cases e1
end
section
variable {G:Gx} {X:Cx} {elt tg iter c:Expr} {sc:Scope} {pos pos' spos:Pos} {N:List Str} {k i:Nat} {x:Str} {ci:Its} {g:Tg} {cc ce:Ex}
theorem oO (k:Nat) (N:List Str) (hcalm:X.calm=true) (hi:PVI G X tg iter ci) (hin:xm k g) (hg:∀ cl C s H fp,PVG G (cU X N sc cl C s H fp) tg g) (he:∀ cl C s H fp,PV G (cU X N sc cl C s H fp) elt ce)
  (hsc:oy X.env sc=true:=by rfl) (hnm:lF sc (N.drop k) X.N=true:=by rfl) (hNl:k<=N.length:=by decide) (hs:∀ x,foldedSetIterable iter X.env x=pure x:=by intro _;rfl) :
  PV G X (.ListComp elt [⟨tg,iter,[],0⟩] sc pos) (fe k g ci none ce) :=
 PE.weak (lL hcalm hi hsc hnm hNl (fun cl C s H fp=>⟨hg cl C s H fp,mK,he cl C s H fp⟩) hs) fun σ H Q h=>pz (cond:=none) hin h
theorem nO (k:Nat) (N:List Str) (hcalm:X.calm=true) (hi:PVI G X tg iter ci) (hin:xm k g) (hg:∀ cl C s H fp,PVG G (cU X N sc cl C s H fp) tg g) (hc:∀ cl C s H fp,PVT G (cU X N sc cl C s H fp) c cc) (he:∀ cl C s H fp,PV G (cU X N sc cl C s H fp) elt ce)
  (hsc:oy X.env sc=true:=by rfl) (hnm:lF sc (N.drop k) X.N=true:=by rfl) (hNl:k<=N.length:=by decide) (hs:∀ x,foldedSetIterable iter X.env x=pure x:=by intro _;rfl) :
  PV G X (.ListComp elt [⟨tg,iter,[c],0⟩] sc pos) (fe k g ci (some cc) ce) :=
 PE.weak (lL hcalm hi hsc hnm hNl (fun cl C s H fp=>⟨hg cl C s H fp,wG (hc cl C s H fp),he cl C s H fp⟩) hs) fun σ H Q h=>pz (cond:=some cc) hin h
end
end VS
end
section
namespace VS
open PySem PySem.Spec PyProof.Rows L2
noncomputable instance {s:Tx}:Decidable (oq s):=inferInstanceAs (Decidable (_/\_))
section
variable {G:Gx} {X:Cx} {a b c e:Expr} {es:List Expr} {ca cb cc:Ex} {cs:Exs} {pos p p1 p2 apos cpos:Pos} {k k':Nat}
theorem w_add (ha:PV G X a ca) (hb:PV G X b cb):PV G X (.BinOp a .Add b pos) (e2 aZ ca cb):=iU sv wX ha hb
theorem w_mul (ha:PV G X a ca) (hb:PV G X b cb):PV G X (.BinOp a .Mult b pos) (e2 gj ca cb):=iU Cb Ce ha hb
theorem w_mod (ha:PV G X a ca) (hb:PV G X b cb):PV G X (.BinOp a .Mod b pos) (e2 oMod ca cb):=iU Bi BS ha hb
theorem tj (hr:Room k X.A) (ha:PV G X a ca) (hb:PV G X b cb):PVT G X (.Compare a [.Eq] [b] pos) (e2 oEq ca cb):=fC (rY hr.units) vX tells_eq ha hb (ie _)
theorem tM (hr:Room k X.A) (ha:PV G X a ca) (hb:PV G X b cb):PVT G X (.Compare a [.NotEq] [b] pos) (e2 oNe ca cb):=fC (BN hr.units) C1 vq ha hb (ie _)
theorem bB (ha:PV G X a ca) (hb:PV G X b cb) (hs:gp b:=by intro _ _;rfl) (hK:X.K=G.K:=by rfl):PV G X (.Subscript a b pos) (e2 aB ca cb) :=
 PE.weak (mh jw ha hb hs) fun σ H Q h=>by rw [hK];exact kX rL h
theorem dZ (hm:X.mg "len" = none) (ha:PVs G X [e] cs) (hg:Gl X "len" := by rfl) (hK:X.K=G.K:=by rfl) (he:starEach [e] X.env=(false,eval e X.env) :: starEach [] X.env:=by rfl):PV G X (.Call (.Name "len" p) [e] [] pos) (eN cA cs) :=
 kg (hK ▸ uw) B8 hg hm PySem.boot_len ha (he:=he) (hpl:=rfl)
theorem BV:bootBuiltins ("min" : Str)=some (.builtin "min"):=by decide +kernel
theorem zM:bootBuiltins ("list" : Str)=some (.type "list"):=by decide +kernel
theorem B3 (hm:X.mg "min" = none) (ha:PVs G X [a,b] cs) (hc:X.calm=true:=by rfl) (hg:Gl X "min" := by rfl) (he:starEach [a,b] X.env=(false,eval a X.env) :: starEach [b] X.env:=by rfl) (hpl:(backTo pos (starEach [b] X.env)).any (·.1)=false:=by rfl):PV G X (.Call (.Name "min" p) [a,b] [] pos) (eN qq cs) :=
 kg (uf hc) zE hg hm BV ha (he:=he) (hpl:=hpl)
noncomputable def tyN:Ty->Str
 | .int => "int" | .str => "str" | .bool => "bool" | .list => "list" | .tuple => "tuple" | .dict => "dict"
theorem De (t:Ty):bootBuiltins (tyN t)=some (.type (tyS t)):=by cases t <;> decide +kernel
theorem w_is (t:Ty) (hm:X.mg "isinstance" = none) (hm2:X.mg (tyN t)=none) (ha:PV G X a ca) (hg:Gl X "isinstance" := by rfl) (hg2:Gl X (tyN t):=by rfl) (hK:X.K=G.K:=by rfl)
  (hs:starEach [a,.Name (tyN t) p2] X.env=(false,eval a X.env) :: starEach [.Name (tyN t) p2] X.env:=by rfl):PV G X (.Call (.Name "isinstance" p1) [a,.Name (tyN t) p2] [] pos) (eIs t ca) :=
 Dp t ha hg hm hg2 hm2 (De t) hK (by cases t <;> decide) (by cases t <;> decide) hs rfl rfl
theorem gF (i:Nat) {x:Str} (ha:PVs G X [e] cs) (hK:X.K=G.K:=by rfl)
  (hN:X.N[i]?=some x:=by rfl) (hv:Vis X.env.scope x:=by first | exact Or.inl rfl | exact Or.inr (Or.inl rfl) | exact Or.inr (Or.inr rfl)) (hd:(x == ("__debug__" : Str))=false:=by decide)
  (hcd:(x == ("__classdict__" : Str))=false:=by decide) (hfew:((backTo cpos (starEach [e] X.env)).all (fun x=>!x.1) && (backToKw cpos (keywordEach [] X.env)).all (fun x=>x.1.isSome)
   && decide ([e].length+([]:List Keyword).length+(if ([]:List Keyword).isEmpty then 0 else 1) < 30))=true:=by rfl)
  (hline:(apos.endLine == cpos.line)=true:=by rfl) (hs:starEach [e] X.env=(false,eval e X.env) :: starEach [] X.env:=by rfl) :
  PSV G X (.Expr (.Call (.Attribute (.Name x p1) "append" apos) [e] [] cpos) pos) (sX (lD i [] aA cs)) :=
 xM i Xj Xm Xn i7 nG (fun H v t F l z r h=>lb r h) ha hK hN hv hd hcd rfl hfew hline hs rfl rfl
end
structure FnAt (P:Program) (w:World) (K:X8) (mg:X9) (base:Heap) (k:Nat) (x:Str) (ps:List Str) (G:Gx) (g:Fn):Prop where
 ex:∃ f fd,FnOk P w K mg base CX0 k f fd ps (spF G g)/\mg x=some (.ref f)/\PySem.W.keepIn K (.ref f)=true/\Binds K fd ps []
section
variable {G:Gx} {X:Cx} {e:Expr} {es:List Expr} {cs:Exs} {pos p:Pos} {k k':Nat} {x:Str} {ps:List Str} {g:Fn}
theorem fi (F:FnAt X.prog X.w X.K X.mg X.base k x ps G g) (hr:Room k' X.A) (ha:PVs G X (e :: es) cs) (hk:k<=k':=by decide) (hg:Gl X x:=by rfl) (hdb:(x == ("__debug__" : Str))=false:=by decide)
  (he:starEach (e :: es) X.env=(false,eval e X.env) :: starEach es X.env:=by rfl) (hpl:(backTo pos (starEach es X.env)).any (·.1)=false:=by rfl) :
  PV G X (.Call (.Name x p) (e :: es) [] pos) (bx g cs):=by
 obtain ⟨f,fd,h1,h2,h3,h4⟩:=F.ex
 exact yD h1 (hr.mono hk) hg h2 h3 h4 ha hdb he hpl
end
section
variable {G:Gx} {P:Program} {w:World} {K:X8} {mg:X9} {base:Heap}
theorem jh {x:Str} {st:Stmt} {f:Addr} {fd:FuncData} {N ps:List Str} {k np nn:Nat} {c:Sx} (F:Fun K x x st f fd) (hm:mg x=some (.ref f)) (S:FnScope N ps (ah st)) (hp:ps.length=np) (hn:N.length=nn)
  (hbd:∀ (kV doc pm:Value) (an:Option Addr) (cdv ct:Value) (us:Wy),us.length=ps.length->bindArgs (PySem.W.fnOf x x (cF st) (aQ st) (ah st) .none kV doc pm an cdv ct) ⟨us,[]⟩=pure (ps.zip us))
  (hb:∀ (cdv:Value) (A:Around) (outer:List PySem.Env) (s:Shared) (H:Hp) (E:XK),Room k (A.deeper (envOfC x (ah st) s.heap.objs.size f cdv))->gk G (il CX0 P w K mg base N x (ah st) f cdv A outer s H E).nox (aQ st) c) :
  FnAt P w K mg base (k+1) x ps G (fn np nn c) :=
 ⟨f,fd,fnV F S hp hn hb,hm,F.kp,F.binds hbd⟩
end
end VS
end
section
namespace L2
open PySem PySem.Spec PyProof.Rows
noncomputable def Its (x:Str):It:=⟨fun i _=>i < x.cps.size,fun i H v H'=>H'=H/\∃ c,x.cps[i]?=some c/\v=.str ⟨#[c]⟩,fun i _=>x.cps.size<=i⟩
theorem nF {P:Program} {w:World} {K:X8} {tg:Expr} (x:Str) (t:Tok) (it:Addr) (ty:String) (hn:["enumerate", "zip", "dict_itemiterator", "dict_reverseitemiterator", "odict_iterator", "itertools.zip_longest", "itertools.pairwise"].contains ty=false)
  (W:∀ A:Around,A.handled=none->Walks P w A it [it] [it] x.cps.size (fun i v=>∃ c u,x.cps[i]?=some c/\v=.str ⟨#[c]⟩ u) (fun i h=>h.IsStrIter it ty x t i)) (hend:∀ (A:Around),A.handled=none->∀ (i:Nat) (s:Shared) (Q:Wx->Shared->Prop) (E:Z4),s.heap.IsStrIter it ty x t i->x.cps[i]?=none->(∀ h',Heap.ExtBut it s.heap h'->Q none { s with heap:=h' })->wpAny (model P w) A (pyNext (.ref it)) Q E s)
  (hself:∀ (A:Around) (i:Nat) (s:Shared) (Q:Z4) (E:Z4),s.heap.IsStrIter it ty x t i->Q (.ref it) s->wpAny (model P w) A (pyIter (.ref it)) Q E s) :
  Turn P w K tg (Its x) [it] it (fun i h=>h.IsStrIter it ty x t i) where
 mem:=by simp
 obj:=fun i h st b hb=>by
  rw [Za.mp hb]
  obtain ⟨o,e,c,d⟩:=st
  exact ⟨o,e,fun v z=>by rw [d] at z;cases z⟩
 keep:=fun i h h' st k=>let ⟨o,e,r⟩:=st;⟨o,k it (by simp) o e,r⟩
 item:=by
  intro X hP hw hK hc i pins s σ H E I hf st hg
  subst hP hw hK
  obtain ⟨f0,f1,f2,f3,f4,f5⟩:=hf it (by simp)
  refine (W X.A (I.ok.hd hc)).item i s _ _ hg st fun v h' tk hv st' kk=>?_
  obtain ⟨c,u,hc',rfl⟩:=hv
  have I1:Inv X pins σ H { s with heap:=h',toks:=tk }:=I.turned (fun b o hb e=>kk b o (by simpa using hb) e) f0 f1 f3 f4 f5
  obtain ⟨o,e,c1,d⟩:=id st'
  exact ⟨_,rfl,qk (s:={ s with heap:=h',toks:=tk }) e c1 d hn ⟨.str ⟨#[c]⟩,H,I1,⟨u,rfl⟩,⟨rfl,c,hc',rfl⟩,st',fun b hb=>(hf b hb).1⟩⟩
 done:=by
  intro X hP hw hK hc i pins s σ H E I hf st hg
  subst hP hw hK
  obtain ⟨f0,f1,f2,f3,f4,f5⟩:=hf it (by simp)
  have hx:x.cps.size<=i:=hg
  exact hend X.A (I.ok.hd hc) i s _ _ st (by simp [hx]) fun h' eb=>⟨rfl,I.turned (t':=s.toks) (fun b o hb e=>eb b o hb e) f0 f1 f3 f4 f5⟩
 self:=fun A i s Q E st h=>hself A i s Q E st h
theorem vt {P:Program} {w:World} {K:X8} {tg:Expr} (x:Str) (t:Tok) (it:Addr):Turn P w K tg (Its x) [it] it (fun i h=>h.IsStrIter it (strIterType x) x t i):=by
 cases ha:x.cps.all (· < 128)
 ·have e:strIterType x = "str_iterator" := by simp [strIterType,ha]
  rw [e]
  exact nF x t it "str_iterator" rfl (fun A hA=>Walks.strWide hA it x t) (fun A hA i s Q E st hx q=>wpAny_pyNext_wide_end hA st hx q) fun A i s Q E st q=>wpAny_pyIter_striter_wide st q
 ·have e:strIterType x = "str_ascii_iterator" := by simp [strIterType,ha]
  rw [e]
  exact nF x t it "str_ascii_iterator" rfl (fun A hA=>Walks.strAscii hA it x t) (fun A hA i s Q E st hx q=>wpAny_pyNext_ascii_end hA st hx q) fun A i s Q E st q=>wpAny_pyIter_striter_ascii st q
section
variable {X:Cx} {tg l a b c:Expr} {tl ta tb tc:TE} {pos:Pos}
noncomputable def C8 (K:X8) (tl:TE):TI:=fun σ H R=>tl σ H fun x H1=>(∃ a,x=.ref a/\(∃ xs,SqL K H1 a xs)/\R (Itl K a) H1)\/(∃ a,x=.ref a/\(∃ xs,SqT K H1 a xs)/\R (Itt K a) H1)\/∃ z,x=.str z/\R (Its z) H1
theorem yN (hl:PE X l tl):PI X tg l (C8 X.K tl):=by
 intro pins s σ H R I h
 refine thn (hl pins s σ H _ I h) fun v s1 ⟨x,H1,I1,r1,q1⟩=>?_
 have fp1:∀ b∈[s1.heap.objs.size],ny X pins H1 b:=fun b hb=>by
  rw [Za.mp hb]
  exact I1.fpOk (Zi _) (I1.hok.fresh (Zi _))
 rcases q1 with ⟨a,e,⟨xs,hq⟩,q⟩ | ⟨a,e,⟨xs,hq⟩,q⟩ | ⟨z,e,q⟩
 ·subst e
  cases r1
  obtain ⟨its,rv,p,hz⟩:=I1.list hq
  exact wpAny_pyIter_list p.isList ⟨s1.heap.objs.size,[s1.heap.objs.size],_,_,H1,rfl,I1.kept (t':=s1.toks) fun b o e=>Zk _ e,uM a _,⟨_,ZV _ rfl,rfl,rfl⟩,fp1,q⟩
 ·subst e
  cases r1
  obtain ⟨its,rv,p,hz⟩:=I1.tuple hq
  exact wpAny_pyIter_tuple (show s1.heap.IsTuple a its.toArray from p) ⟨s1.heap.objs.size,[s1.heap.objs.size],_,_,H1,rfl,I1.kept (t':=s1.toks) fun b o e=>Zk _ e,sj a _,⟨_,ZV _ rfl,rfl,rfl⟩,fp1,q⟩
 ·subst e
  obtain ⟨t,rfl⟩:=r1
  exact wpAny_pyIter_strU ⟨s1.heap.objs.size,[s1.heap.objs.size],_,_,H1,rfl,I1.kept (t':=s1.toks) fun b o e=>Zk _ e,vt z t _,⟨_,ZV _ rfl,rfl,rfl⟩,fp1,q⟩
theorem zm {s:Shared} {h':Heap} {o:Obj} (hk:∀ b x,b ∉ [s.heap.objs.size]->(s.heap.push o).get? b=some x->h'.get? b=some x) (b:Addr) (x:Obj) (e:s.heap.get? b=some x):h'.get? b=some x :=
 hk b x (fun hm=>Yl _ (by have:=ZR e;rw [Za.mp hm] at this;exact this)) (Zk _ e)
theorem x8 (hc:X.calm=true):dD X (.builtin "sum") (fun xs H Q=>∃ p,∃ ns:Wv,xs=[.ref p]/\SqL X.K H p (ns.map V.int)/\Q (.int ns.sum) H):=by
 intro pins s σ H xs us Q I rx h
 obtain ⟨p,ns,rfl,hq,q⟩:=h
 obtain ⟨u,rfl,ru⟩:=rx.one
 cases ru
 obtain ⟨its,rv,pl,hz⟩:=I.list hq
 have hl:p < s.heap.objs.size:=by obtain ⟨_,e,_⟩:=pl.isList;exact ZR e
 refine call_sum_walkG (wpAny_pyIter_list pl.isList ⟨s.heap.objs.size,[s.heap.objs.size,p],[s.heap.objs.size],its.toArray.size,_,_,fun i=>(ns[i]?).getD 0,rfl,Walks.list (A:=X.A.in1) (I.ok.hd hc) _ p (ZY hl) its.toArray,
  ⟨⟨_,ZV _ rfl,rfl,rfl⟩,pl.isList.push _⟩,fun b hb=>?_,fun i v hP=>?_,fun h' tk t' hk=>⟨.int ns.sum,H,I.kept (zm hk),⟨t',?_⟩,q⟩⟩)
 ·rw [X0]
  rcases Zj.mp hb with rfl | hb
  ·exact Yu _
  ·rw [Za.mp hb];exact XE hl
 ·have hv:its[i]?=some v:=by simpa using hP
  cases e:ns[i]? with
  | none =>
   have:=rv.none_of (i:=i) (by rw [ZS,e];rfl)
   rw [this] at hv;cases hv
  | some n =>
   obtain ⟨u,hu,ru⟩:=rv.get (i:=i) (x:=.int n) (by rw [ZS,e];rfl)
   rw [hu] at hv;cases hv
   obtain ⟨t,rfl⟩:=ru
   exact ⟨t,by simp [e]⟩
 ·have hlen:its.toArray.size=ns.length:=by have:=rv.length;simp at this ⊢;exact Eq.symm this
  have:∀ k,k<=ns.length->preSum (fun i=>(ns[i]?).getD 0) k=(ns.take k).sum:=fun k=>by
   induction k with
   | zero=>intro _;simp [preSum]
   | succ k ih =>
    intro hk
    rw [List.take_succ,List.sum_append,preSum,ih (by exact Nat.le_of_succ_le hk)]
    cases e:ns[k]? <;> simp
  rw [hlen,this _ (Zi _),List.take_length]
theorem oa:OpR X (compareOp .Gt) (fun x y H Q=>∃ i j,x=.str i/\y=.str j/\Q (.bl (decide (j.cps.toList < i.cps.toList))) H):=by
 intro pins s σ H x y v u Q I rx ry h
 obtain ⟨i,j,rfl,rfl,q⟩:=h
 obtain ⟨t,rfl⟩:=rx
 obtain ⟨t',rfl⟩:=ry
 exact PySem.P.gt_str ⟨.bl _,H,I,rfl,q⟩
theorem ur:OpR X (compareOp .GtE) (fun x y H Q=>∃ i j,x=.str i/\y=.str j/\Q (.bl (!decide (i.cps.toList < j.cps.toList))) H):=by
 intro pins s σ H x y v u Q I rx ry h
 obtain ⟨i,j,rfl,rfl,q⟩:=h
 obtain ⟨t,rfl⟩:=rx
 obtain ⟨t',rfl⟩:=ry
 exact PySem.P.ge_str ⟨.bl _,H,I,rfl,q⟩
end
end L2
end
section
namespace VS
open PySem PySem.Spec PyProof.Rows L2
section
variable {G:Gx} {X:Cx} {a b c e tg:Expr} {es:List Expr} {ca cb cc:Ex} {cs:Exs} {pos p p1 p2 apos cpos:Pos} {k k':Nat}
theorem Cp (H:Hp) (s:Tx) (ok:oq s):ItOk G (L2.Its (sx s)) (s.map fun c=>T.str [c]) [] H:=by
 have sz:(sx s).cps.size=s.length:=rfl
 refine ⟨fun H2 _ _=>⟨fun i t h=>?_,fun i h=>(by rw [Zw] at h;show (sx s).cps.size<=i;lia)⟩,fun a h=>by simp at h⟩
 rw [ZS] at h
 obtain ⟨c,hc,rfl⟩:=Zy.mp h
 refine ⟨(by show i < (sx s).cps.size;have:=(Zh.mp hc).1;lia),fun x H3 ⟨e1,c',hc',e2⟩=>?_⟩
 subst e1
 have:c'=c:=by
  have h1:(sx s).cps[i]?=some c:=by simp [sx,hc]
  rw [h1] at hc';exact (Zm hc').symm
 subst this
 rw [e2]
 exact ⟨aG.refl _,[],.str [c'] ⟨(by show 1<=fg;decide),fun d hd=>by rw [Za.mp hd];exact ok.2 c' (YY hc)⟩,fun a h=>by simp at h⟩
theorem fH (ha:PV G X a ca) (hK:X.K=G.K:=by rfl):PVI G X tg a (iq ca) :=
 PI.weak (yN ha) fun σ H R hq=>by
  obtain ⟨Φ,η,m,l,s,e,k⟩:=hq
  unfold iq at e
  obtain ⟨⟨mx,x⟩,ea,e1⟩:=Zz.mp e
  refine ⟨Φ,η,mx,x,s,ea,fun v H' F e3 r3 f3=>?_⟩
  cases x with
  | lst ts =>
   cases e1
   obtain ⟨a',vs,Fs,rfl,rfl,ha',ra⟩:=r3.lst_inv
   exact .inl ⟨a',rfl,⟨vs,SqL.of ha'⟩,k _ H' _ e3 (zC X.K ha' ra) f3.c⟩
  | tup ts =>
   cases e1
   obtain ⟨a',vs,Fs,rfl,rfl,ha',ra⟩:=r3.tup_inv
   exact .inr (.inl ⟨a',rfl,⟨vs,SqT.of ha'⟩,k _ H' _ e3 (BO X.K ha' ra) f3.c⟩)
  | str z =>
   cases e1
   obtain ⟨rfl,ok⟩:=r3.str_inv
   exact .inr (.inr ⟨_,rfl,k _ H' [] e3 (Cp H' z ok) fun a h=>by simp at h⟩)
  | _=>cases e1
theorem sA {H:Hp}:∀ {vs:List V} {l:Wq} {Fs:Xk} {ss:Wv},RpL G H vs l Fs->mF l=some ss->vs=ss.map V.int
 | _,_,_,_,.nil,e=>by cases e;rfl
 | _,_,_,_,.cons (t:=t) r q,e=>by
  cases t with
  | int s =>
   simp only [mF] at e
   obtain ⟨ss',e1,e2⟩:=Zy.mp e
   subst e2
   rw [sA q e1,r.int_inv]
   rfl
  | _=>cases e
theorem B2:fj G (fun xs H Q=>∃ p,∃ ns:Wv,xs=[.ref p]/\SqL G.K H p (ns.map V.int)/\Q (.int ns.sum) H) yj:=by
 intro Φ η H0 H l vs Fs m t Q A e k
 unfold yj at e
 split at e
 ·rename_i mx x
  obtain ⟨is,e1,e2⟩:=Zz.mp e
  cases e2
  obtain ⟨v,F,rfl,rfl,rx⟩:=(show RpL G H vs [.lst x] Fs from A.rp).one
  obtain ⟨a,ys,Gs,rfl,rfl,ha,ra⟩:=rx.lst_inv
  exact ⟨a,is,rfl,by rw [← sA ra e1];exact SqL.of ha,bh k (.int _)⟩
 ·cases e
theorem BY:bootBuiltins ("sum" : Str)=some (.builtin "sum"):=by decide +kernel
theorem xg:bootBuiltins ("tuple" : Str)=some (.type "tuple"):=by decide +kernel
theorem w_sum (hm:X.mg "sum" = none) (ha:PVs G X [e] cs) (hg:Gl X "sum" := by rfl) (hK:X.K=G.K:=by rfl) (hc:X.calm=true:=by rfl) (he:starEach [e] X.env=(false,eval e X.env) :: starEach [] X.env:=by rfl):PV G X (.Call (.Name "sum" p) [e] [] pos) (eN yj cs) :=
 kg (x8 hc) (hK ▸ B2) hg hm BY ha (he:=he) (hpl:=rfl)
theorem wD:fj G (fun xs H Q=>∃ p ys,xs=[.ref p]/\((SqL G.K H p ys/\∀ l,H l=none->Q (.ref l) (upd H l (.tup ys)))\/(SqT G.K H p ys/\Q (.ref p) H))) j6:=by
 intro Φ η H0 H l vs Fs m t Q A e k
 unfold j6 at e
 split at e
 ·rename_i mx x
  split at e
  ·rename_i hl
   cases e
   obtain ⟨v,F,rfl,rfl,rx⟩:=(show RpL G H vs [.lst x] Fs from A.rp).one
   obtain ⟨a,ys,Gs,rfl,rfl,ha,ra⟩:=rx.lst_inv
   have f:=(A.fp.each 0 _ _ rfl rfl).sub (Yz _ _)
   refine ⟨a,ys,rfl,.inl ⟨SqL.of ha,fun q hq=>?_⟩⟩
   have sm:aG H (upd H q (.tup ys)):=cS hq
   have r:Rp G (upd H q (.tup ys)) (.ref q) (.tup x) Gs.flatten:=.tup ax (ra.same sm)
   exact k _ _ _ sm r (f.up r)
  ·cases e
 ·cases e
theorem zF (hm:X.mg "tuple" = none) (ha:PVs G X [e] cs) (hg:Gl X "tuple" := by rfl) (hK:X.K=G.K:=by rfl) (he:starEach [e] X.env=(false,eval e X.env) :: starEach [] X.env:=by rfl):PV G X (.Call (.Name "tuple" p) [e] [] pos) (eN j6 cs) :=
 iY nz (hK ▸ wD) hg hm xg ha (he:=he) (hpl:=rfl)
noncomputable def rGt:R2:=fun x y H Q=>rI0 (fun i j=>.bl (decide (j < i))) x y H Q\/(∃ i j,x=.str i/\y=.str j/\Q (.bl (decide (j.cps.toList < i.cps.toList))) H)
noncomputable def rGe:R2:=fun x y H Q=>rI0 (fun i j=>.bl (decide (j<=i))) x y H Q\/(∃ i j,x=.str i/\y=.str j/\Q (.bl (!decide (i.cps.toList < j.cps.toList))) H)
theorem vZ (s t:Tx):decide ((sx s).cps.toList < (sx t).cps.toList)=ltx s t:=by rw [mV];exact decide_eq_decide.mpr (by simp [sx])
theorem Af:d8 G rGt oGt:=by
 intro Φ η H0 H x y u w F1 F2 m t Q tw e k
 obtain ⟨m1,x⟩:=x
 obtain ⟨m2,y⟩:=y
 obtain ⟨same,r1,r2,f1,f2,nd⟩:=tw
 unfold oGt oLt at e
 split at e
 ·rename_i e1 e2
  cases e1
  cases e2
  cases e
  exact .inl ⟨_,_,r1.int_inv,r2.int_inv,bh k (.bl _)⟩
 ·rename_i s _ s' e1 e2
  cases e1
  cases e2
  cases e
  refine .inr ⟨_,_,r1.str_inv.1,r2.str_inv.1,?_⟩
  rw [vZ]
  exact bh k (.bl _)
 ·cases e
theorem CD:d8 G rGe oGe:=by
 intro Φ η H0 H x y u w F1 F2 m t Q tw e k
 obtain ⟨m1,x⟩:=x
 obtain ⟨m2,y⟩:=y
 obtain ⟨same,r1,r2,f1,f2,nd⟩:=tw
 unfold oGe oLe at e
 split at e
 ·rename_i e1 e2
  cases e1
  cases e2
  cases e
  exact .inl ⟨_,_,r1.int_inv,r2.int_inv,bh k (.bl _)⟩
 ·rename_i s _ s' e1 e2
  cases e1
  cases e2
  cases e
  refine .inr ⟨_,_,r1.str_inv.1,r2.str_inv.1,?_⟩
  rw [vZ]
  exact bh k (.bl _)
 ·cases e
theorem vO:Tells oGt:=fun x y m t e=>iL y x m t e
theorem vy:Tells oGe:=fun x y m t e=>xX y x m t e
theorem Ei (ha:PV G X a ca) (hb:PV G X b cb):PV G X (.Compare a [.Gt] [b] pos) (e2 oGt ca cb):=Bc (r:=rGt) (Ax.or oa) Af ha hb (ie _)
theorem ua (ha:PV G X a ca) (hb:PV G X b cb):PVT G X (.Compare a [.Gt] [b] pos) (e2 oGt ca cb):=fC (r:=rGt) (Ax.or oa) Af vO ha hb (ie _)
theorem Dj (ha:PV G X a ca) (hb:PV G X b cb):PVT G X (.Compare a [.GtE] [b] pos) (e2 oGe ca cb):=fC (r:=rGe) (CL.or ur) CD vy ha hb (ie _)
theorem p5 {r r':R2} {f g:Val->Val->Wr} (ok:d8 G r f) (ok':d8 G r' g) {σ:L2.St} {H:Hp} {Q:VK} (h:tE G (d9 f g ca cb cc) σ H Q):xq r r' (tE G ca) (tE G cb) (tE G cc) σ H Q:=by
 obtain ⟨Φ,η,m,t,s,e,k⟩:=h
 unfold d9 at e
 obtain ⟨x,ea,e⟩:=Zz.mp e
 obtain ⟨y,eb,e⟩:=Zz.mp e
 obtain ⟨⟨mz,z⟩,ez,e⟩:=Zz.mp e
 refine yc s ea eb fun u w H2 F1 F2 tw=>ok Φ η H H2 x y u w F1 F2 mz z _ tw ez fun v H3 F e1 r1 f1=>?_
 cases z with
 | bl q =>
  refine ⟨q,r1.bl_inv,?_⟩
  cases q with
  | false =>
   cases e
   rw [Zo Zg]
   exact k _ H3 [] (tw.same.trans e1) (.bl false) Fp.nil
  | true =>
   rw [Zp rfl]
   obtain ⟨z2,ec,e⟩:=Zz.mp (show (cc η).bind (fun z=>g y z)=some (m,t) from e)
   have sm:=tw.same.trans e1
   refine ⟨Φ,η,z2.1,z2.2,s.same sm,ec,fun w2 H4 F4 e4 r4 f4=>?_⟩
   refine ok' Φ η H H4 y z2 w w2 F2 F4 m t Q ⟨sm.trans e4,(tw.r2.same e1).same e4,r4,tw.f2,f4.back sm,fun hx hy=>?_⟩ e fun v' H5 F5 e5 r5 f5=>k v' H5 F5 ((sm.trans e4).trans e5) r5 f5
   have f2:=tw.f2
   rw [hx] at f2
   rw [hy] at f4
   refine ZU.mpr ⟨f2.1,f4.1,fun a ha b hb z=>?_⟩
   subst z
   exact Mut.ne_none ((tw.r2.same e1).dom a ha) (f4.2 a hb)
 | _=>cases e
theorem tF {x:Str} {i:Int} (h:∃ t,X.mg x=some (.int i t)) (hg:Gl X x:=by rfl) (hd:(x == ("__debug__" : Str))=false:=by decide):PV G X (.Name x pos) (Q2 i):=by
 obtain ⟨t,ht⟩:=h
 exact yy (v:=.int i) hg ht ⟨t,rfl⟩ (fun H=>.int i) hd
end
end VS
end
section
namespace L2
open PySem PySem.Spec PyProof.Rows
section
variable {X:Cx}
theorem ug {α:Type} (l:List α) (n:Nat):∀ acc:List α,List.foldl (fun x1 x2=>x1++x2) acc.toArray (List.replicate n l.toArray)=(acc++(List.replicate n l).flatten).toArray:=by
 induction n with
 | zero=>intro acc;simp
 | succ n ih =>
  intro acc
  rw [YF,YZ]
  have e:acc.toArray++l.toArray=(acc++l).toArray:=by simp
  rw [e,ih (acc++l),YF,ZP,ZJ]
theorem yt:OpR X (binaryOp .Mult) (fun x y H Q=>∃ (l:Ww) (k:Int),x=.str ⟨l.toArray⟩/\y=.int k/\-(2 ^ 62)<=k/\k < 2 ^ 62/\l.length * k.toNat<=sizeLine/\Q (.str ⟨(List.replicate k.toNat l).flatten.toArray⟩) H):=by
 intro pins s σ H x y v u Q I rx ry h
 obtain ⟨l,k,rfl,rfl,h1,h2,hz,q⟩:=h
 obtain ⟨t,rfl⟩:=rx
 obtain ⟨t',rfl⟩:=ry
 have hlen:(⟨l.toArray⟩:Str).length=l.length:=rfl
 refine PySem.P.mul_str ?_ ?_ ?_ ?_
 ·rw [Bool.or_eq_false_iff]
  exact ⟨ZZ (by lia),ZZ (by lia)⟩
 ·intro h3 _ hh
  rw [hlen] at hh
  have hk:0 < k:=by lia
  have:(l.length:Int) * k<=16777216:=by
   have hz':l.length * k.toNat<=16777216:=hz
   have:((l.length * k.toNat:Nat):Int)<=16777216:=by lia
   rw [Int.natCast_mul] at this
   rwa [Int.toNat_of_nonneg (by lia)] at this
  have h5:(l.length:Int) * k<=2 ^ 63 - 1:=by lia
  have:=(Int.le_ediv_iff_mul_le hk).mpr h5
  lia
 ·intro _ _
  rw [hlen]
  exact ZZ (by show ¬ _ > _;exact Nat.not_lt.mpr hz)
 ·by_cases h3:k < 1
  ·rw [Zp h3]
   have e:k.toNat=0:=by lia
   rw [e] at q
   exact ⟨by decide,⟨.str ⟨#[]⟩,H,I.tok _,⟨_,rfl⟩,q⟩⟩
  ·rw [Zo h3]
   split
   ·rename_i hc
    have e:(List.replicate k.toNat l).flatten=l:=by
     rw [Bool.or_eq_true] at hc
     rcases hc with hc | hc
     ·have:k=1:=by simpa using hc
      subst this
      show (List.replicate 1 l).flatten=l
      simp
     ·have:l=[]:=by
       rw [hlen] at hc
       exact List.eq_nil_of_length_eq_zero (by simpa using hc)
      subst this
      simp
    rw [e] at q
    exact ⟨.str ⟨l.toArray⟩,H,I,⟨t,rfl⟩,q⟩
   ·have e:=ug l k.toNat []
    rw [YR] at e
    rw [show (⟨l.toArray⟩:Str).cps=l.toArray from rfl,e]
    refine ⟨?_,⟨.str ⟨(List.replicate k.toNat l).flatten.toArray⟩,H,I.tok _,⟨s.toks,rfl⟩,q⟩⟩
    have hl:=len_rep l k.toNat
    show (⟨(List.replicate k.toNat l).flatten.toArray⟩:Str).length<=sizeLine
    show ((List.replicate k.toNat l).flatten.toArray).size<=sizeLine
    rw [ZX,hl,Nat.mul_comm]
    exact hz
end
end L2
namespace VS
open PySem PySem.Spec PyProof.Rows L2
section
variable {G:Gx} {X:Cx} {a b c e tg:Expr} {es:List Expr} {ca cb cc:Ex} {cs:Exs} {pos p p1 p2 apos cpos:Pos} {k k':Nat}
theorem zH:d8 G (fun x y H Q=>∃ (l:Ww) (k:Int),x=.str ⟨l.toArray⟩/\y=.int k/\-(2 ^ 62)<=k/\k < 2 ^ 62/\l.length * k.toNat<=sizeLine/\Q (.str ⟨(List.replicate k.toNat l).flatten.toArray⟩) H) sN:=by
 intro Φ η H0 H x y u w F1 F2 m t Q tw e k
 obtain ⟨m1,x⟩:=x
 obtain ⟨m2,y⟩:=y
 obtain ⟨same,r1,r2,f1,f2,nd⟩:=tw
 unfold sN at e
 split at e
 ·rename_i _ ts _ j e1 e2
  cases e1
  cases e2
  split at e
  ·rename_i hc
   cases e
   have b1:=hc.2.1
   have b2:=hc.2.2
   unfold B62 at b1 b2
   refine ⟨ts,j,r1.str_inv.1,r2.int_inv,by lia,by lia,hc.1,bh k (.str _ ⟨?_,fun c hc'=>?_⟩)⟩
   ·rw [len_rep,Nat.mul_comm];exact hc.1
   ·obtain ⟨x,hx,hcx⟩:=X6.mp hc'
    rw [(List.mem_replicate.mp hx).2] at hcx
    exact r1.str_inv.2.2 c hcx
  ·cases e
 ·cases e
theorem yd:PV G X (.Dict [] [] pos) (qD 0 []):=PE.weak x6 fun σ H Q hq=>by
 obtain ⟨Φ,η,m,t,s,e,k⟩:=hq
 cases (show some (Md.fr,T.dct 0 [])=some (m,t) from e)
 intro q hq
 have:Rp G (upd H q (.dK [])) (.ref q) (.dct 0 ((([]:List Key).map aO).zip [])) (q :: ([]:Xk).flatten):=.dct ax rfl .nil
 exact k _ _ [q] (cS hq) this ⟨by simp,fun b hb=>by rw [Za.mp hb];exact hq⟩
end
section
variable {G:Gx} {X:Cx} {a b c e tg:Expr} {es:List Expr} {ca cb cc ce:Ex} {cs:Exs} {pos p p1 p2 apos cpos pos':Pos} {k k':Nat}
theorem gI {body:List Stmt} {cb:Sx} (hp:PassesOwn (model X.prog X.w) X.A X.env X.xe) (hc:PVT G X c cc) (hb:gk G X body cb):PSV G X (.While c body [] pos) (jI cc cb) :=
 PS.weak (wa hp hc hb) fun D σ H hq=>by
  obtain ⟨Φ,η,o,s,e,k⟩:=hq
  refine ⟨fun n σ2 H2=>∃ Φ2 η2,SR G Φ2 η2 σ2 H2/\Frm Φ η H Φ2 η2 H2/\c9 cc cb n η2=some o,⟨rQ,Φ,η,s,Frm.refl Φ η H,e⟩,?_⟩
  rintro n σ2 H2 ⟨Φ2,η2,s2,f2,e2⟩
  cases n with
  | zero=>cases (show (none:Option Out)=some o from e2)
  | succ n =>
   rw [c9] at e2
   obtain ⟨⟨mx,x⟩,ex,e3⟩:=Zz.mp e2
   obtain ⟨t,et,e4⟩:=Zz.mp e3
   refine ⟨Φ2,η2,mx,x,t,s2,ex,et,fun H3 sm=>?_⟩
   have s3:=s2.same sm
   have f3:Frm Φ η H Φ2 η2 H3:=f2.trans (Frm.same sm)
   cases t with
   | false =>
    rw [Zo Zg] at e4
    cases e4
    show if false=true then _ else _
    rw [Zo Zg]
    exact k Φ2 σ2 H3 s3 f3
   | true =>
    rw [Zp rfl] at e4
    show if true=true then _ else _
    rw [Zp rfl]
    obtain ⟨o',e5,e6⟩:=Zz.mp e4
    refine ⟨fun σ4 H4=>∃ Φ4 η4,SR G Φ4 η4 σ4 H4/\Frm Φ η H Φ4 η4 H4/\c9 cc cb n η4=some o,fun σ4 H4 q=>⟨n,Yu n,q⟩,Φ2,η2,o',s3,e5,?_⟩
    cases o' with
    | nx η4=>exact fun Φ4 σ4 H4 s5 fb=>⟨Φ4,η4,s5,f3.trans fb,e6⟩
    | ct η4=>exact fun Φ4 σ4 H4 s5 fb=>⟨Φ4,η4,s5,f3.trans fb,e6⟩
    | bk η4 =>
     cases (show some (Out.nx η4)=some o from e6)
     exact fun Φ4 σ4 H4 s5 fb=>k Φ4 σ4 H4 s5 (f3.trans fb)
    | rt v η4 =>
     cases (show some (Out.rt v η4)=some o from e6)
     exact fun u H4 F4 Φ4 σ4 s5 fb r5 q5=>k u H4 F4 Φ4 σ4 s5 (f3.trans fb) r5 (q5.back f3)
noncomputable def sNo:Sx:=fun _=>none
theorem oG {st:Stmt}:PSV G X st sNo:=fun pins s σ H D I ⟨_,_,_,_,e,_⟩=>nomatch (show (none:Option Out)=some _ from e)
theorem eR {H:Hp} {v:V} {l:List (T×T)} {F:Wz} (r:Rp G H v (.dct 0 l) F):∃ (a:Addr) (ks:List Key) (vs:List V) (ts:Wq) (Fs:Xk),v=.ref a/\F=a :: Fs.flatten/\H a=some (.dK (ks.zip vs))/\ks.length=vs.length/\l=(ks.map aO).zip ts/\RpL G H vs ts Fs:=by
 cases r with
 | dct h hl q=>exact ⟨_,_,_,_,_,rfl,rfl,h,hl,rfl,q⟩
theorem dA {H:Hp} {v:V} {t:T} {F:Wz} (r:Rp G H v t F) (h:hU t=true):∃ k:Key,v=kV k/\t=aO k:=by
 cases t with
 | int i=>exact ⟨.inl i,r.int_inv,rfl⟩
 | str s=>exact ⟨.inr (sx s),r.str_inv.1,by simp [aO,sx]⟩
 | _=>cases h
theorem ke {H:Hp} {k:Key}:∀ {ks:List Key} {vs:List V} {ts:Wq} {Fs:Xk},ks.length=vs.length->RpL G H vs ts Fs →
  (eU ((ks.map aO).zip ts) (aO k)=none/\gm (ks.zip vs) k=none)\/∃ (i:Nat) (v:V) (t:T) (F:Wz),eU ((ks.map aO).zip ts) (aO k)=some t/\gm (ks.zip vs) k=some v/\vs[i]?=some v/\Fs[i]?=some F/\Rp G H v t F
 | [],[],_,_,_,.nil=>.inl ⟨rfl,rfl⟩
 | k' :: ks,v :: vs,_,_,hl,.cons (t:=t) (F:=F) (ts:=ts) (Fs:=Fs) r q=>by
  have e:eqT (aO k') (aO k)=decide (k'=k):=by
   rw [Xw,decide_eq_true_eq]
   cases k with
   | inl i=>cases k' <;> simp [aO]
   | inr x =>
    obtain ⟨⟨x⟩⟩:=x
    cases k' with
    | inl j=>simp [aO]
    | inr y=>obtain ⟨⟨y⟩⟩:=y;simp [aO]
  by_cases hk:k'=k
  ·refine .inr ⟨0,v,t,F,?_,iG hk,rfl,rfl,r⟩
   have e':eqT (aO k') (aO k)=true:=by rw [e];exact decide_eq_true hk
   simp only [eU,Zn,Zc,Z3,e']
   rfl
  ·have h1:eU (((k' :: ks).map aO).zip (t :: ts)) (aO k)=eU ((ks.map aO).zip ts) (aO k):=by
    have e':eqT (aO k') (aO k)=false:=by rw [e];exact ZZ hk
    simp only [eU,Zn,Zc,Z3,e']
   have h2:gm ((k' :: ks).zip (v :: vs)) k=gm (ks.zip vs) k:=by simp [gm,hk]
   rw [h1,h2]
   rcases ke (k:=k) (by simpa using hl) q with h | ⟨i,v',t',F',a1,a2,a3,a4,a5⟩
   ·exact .inl h
   ·exact .inr ⟨i+1,v',t',F',a1,a2,by simpa using a3,by simpa using a4,a5⟩
theorem oB (hu:X.A.units+1 < cLine):IxR X (fun x y H Q=>∃ a v,x=.ref a/\gO H a y (some v)/\Q v H):=by
 intro value slice pins s σ H x y v u Q I rx ry h hs
 obtain ⟨a,w,rfl,g,q⟩:=h
 cases rx
 have hT:=pU I g
 unfold subscriptTail
 refine Zq ?_
 rw [getitemInPython_of_ne hT.not_modules]
 refine Zq (wpAny_specialOf hT PySem.F.slot_dict_getitem.lookup ?_)
 have fin:wpAny (model X.prog X.w) X.A (subscripted slice false (.ref a) u) (fun r s₃=>wpAny (model X.prog X.w) X.A (letTemporaryGo value (.ref a) r >>= fun _=>pure r) (EP X pins σ Q) X.xe s₃) X.xe s:=by
  rw [hs]
  exact wpAny_operating (uR hu I g ry fun w' s3 I3 rw'=>Zq (wpAny_letTemporaryGo (Ze ⟨w,H,I3,rw',q⟩)))
 first
  | exact Ze (Zq fin)
  | exact Zq (Ze (Zq fin))
  | exact Zq fin
noncomputable def DX (K:X8):R2:=fun x y H Q=>rIx K x y H Q\/∃ a v,x=.ref a/\gO H a y (some v)/\Q v H
theorem C4:d8 G (DX G.K) oIx:=by
 intro Φ η H0 H x y u w F1 F2 m t Q tw e k
 obtain ⟨m1,x⟩:=x
 by_cases hd:∃ l,x=.dct 0 l
 ·obtain ⟨l,rfl⟩:=hd
  simp only [oIx] at e
  split at e
  ·rename_i hk
   obtain ⟨t',e1,e2⟩:=Zy.mp e
   obtain ⟨a,ks,vs,ts,Fs,rfl,rfl,ha,hl,rfl,q⟩:=eR tw.r1
   obtain ⟨kk,rfl,ek⟩:=dA tw.r2 hk
   rw [ek] at e1
   rcases ke (k:=kk) hl q with ⟨h1,_⟩ | ⟨i,v,t2,F,a1,a2,a3,a4,a5⟩
   ·rw [h1] at e1;cases e1
   ·rw [a1] at e1
    cases e1
    cases e2
    refine .inr ⟨a,v,rfl,by rw [← a2];exact gO.k ha,?_⟩
    have f:=((tw.f1.sub (Yz _ _)).sub (cB a4)).up a5
    exact k v H F (aG.refl _) a5 f
  ·cases e
 ·have e':aB (m1,x) y=some (m,t):=by
   simp only [oIx] at e
   split at e
   ·rename_i l hx
    exact absurd ⟨_,rfl⟩ hd
   ·exact e
  exact .inl (rL Φ η H0 H (m1,x) y u w F1 F2 m t Q tw e' k)
theorem uj (hr:Room k X.A) (ha:PV G X a ca) (hb:PV G X b cb) (hs:gp b:=by intro _ _;rfl) (hK:X.K=G.K:=by rfl):PV G X (.Subscript a b pos) (e2 oIx ca cb) :=
 PE.weak (mh (IxR.or jw (oB (kh hr))) ha hb hs) fun σ H Q h=>by rw [hK];exact kX C4 h
noncomputable def fV:T->V
 | .bl b=>.bl b
 | .int i=>.int i
 | .str s=>.str (sx s)
 | _=>.non
theorem AG {H:Hp} {v:V} {t:T} {F:Wz} (r:Rp G H v t F) (h:flat t=true):v=fV t/\fB v=true:=by
 cases r with
 | non=>exact ⟨rfl,rfl⟩
 | bl b=>exact ⟨rfl,rfl⟩
 | int i=>exact ⟨rfl,rfl⟩
 | str s hl=>exact ⟨rfl,rfl⟩
 | _=>cases h
theorem CN:∀ {t u:T},flat t=true->flat u=true->eqV (fV t) (fV u)=eqT t u
 | .non,.non,_,_=>rfl
 | .non,.bl _,_,_=>rfl
 | .non,.int _,_,_=>rfl
 | .non,.str _,_,_=>rfl
 | .bl _,.non,_,_=>rfl
 | .bl _,.bl _,_,_=>rfl
 | .bl _,.int _,_,_=>rfl
 | .bl _,.str _,_,_=>rfl
 | .int _,.non,_,_=>rfl
 | .int _,.bl _,_,_=>rfl
 | .int _,.int _,_,_=>rfl
 | .int _,.str _,_,_=>rfl
 | .str _,.non,_,_=>rfl
 | .str _,.bl _,_,_=>rfl
 | .str _,.int _,_,_=>rfl
 | .str _,.str _,_,_=>xF
theorem wo {H:Hp} {v w:V} {t u:T} {F F':Wz} (r:Rp G H v t F) (r':Rp G H w u F') (h1:flat t=true) (h2:flat u=true):eqV v w=eqT t u/\fB v=true/\fB w=true:=by
 obtain ⟨e1,f1⟩:=AG r h1
 obtain ⟨e2,f2⟩:=AG r' h2
 refine ⟨?_,f1,f2⟩
 rw [e1,e2]
 exact CN h1 h2
theorem oT {H:Hp} {x:V} {t:T} {F:Wz} (r:Rp G H x t F) (hx:flat t=true):∀ {vs:List V} {ts:Wq} {Fs:Xk},RpL G H vs ts Fs->ts.all flat=true->vs.all fB=true/\inV x vs=ts.any fun y=>eqT y t
 | _,_,_,.nil,_=>⟨rfl,rfl⟩
 | _,_,_,.cons r' q,h=>by
  rw [Xz,Zf] at h
  obtain ⟨h1,h2⟩:=oT r hx q h.2
  obtain ⟨e1,e2,e3⟩:=wo r' r h.1 hx
  refine ⟨by rw [Xz,e2,h1];rfl,?_⟩
  unfold inV at h2 ⊢
  rw [Yg,Yg,h2,e1]
noncomputable def DO (K:X8):R2:=fun x y H Q=>rIn K false x y H Q\/∃ a o,y=.ref a/\gO H a x o/\Q (.bl o.isSome) H
noncomputable def tu (K:X8):R2:=fun x y H Q=>rIn K true x y H Q\/∃ a o,y=.ref a/\gO H a x o/\Q (.bl (!o.isSome)) H
theorem zP (hu:X.A.units+1 < cLine):OpR X (compareOp .In) (fun x y H Q=>∃ a o,y=.ref a/\gO H a x o/\Q (.bl o.isSome) H):=by
 intro pins s σ H x y v u Q I rx ry h
 obtain ⟨a,o,rfl,g,q⟩:=h
 cases ry
 exact Et hu I g rx fun s3 I3=>⟨.bl o.isSome,H,I3,rfl,q⟩
theorem vE (hu:X.A.units+1 < cLine):OpR X (compareOp .NotIn) (fun x y H Q=>∃ a o,y=.ref a/\gO H a x o/\Q (.bl (!o.isSome)) H):=by
 intro pins s σ H x y v u Q I rx ry h
 obtain ⟨a,o,rfl,g,q⟩:=h
 cases ry
 exact zW hu I g rx fun s3 I3=>⟨.bl (!o.isSome),H,I3,rfl,q⟩
theorem ql {Φ:Fps} {η:VS.Env} {H0 H:Hp} {x y:Val} {u w:V} {F1 F2:Wz} {m:Md} {t:T} (tw:Two G Φ η H0 H x y u w F1 F2) (e:kF x y=some (m,t)) :
  ∃ b,m=.fr/\t=.bl b/\((∃ p xs,w=.ref p/\(SqL G.K H p xs\/SqT G.K H p xs)/\fB u=true/\xs.all fB=true/\inV u xs=b)\/∃ a o,w=.ref a/\gO H a u o/\o.isSome=b):=by
 obtain ⟨m2,y⟩:=y
 simp only [kF] at e
 split at e
 ·split at e
  ·rename_i hk
   cases e
   obtain ⟨a,ks,vs,ts,Fs,rfl,rfl,ha,hl,rfl,q⟩:=eR tw.r2
   obtain ⟨kk,rfl,ek⟩:=dA tw.r1 hk
   refine ⟨_,rfl,rfl,.inr ⟨a,gm (ks.zip vs) kk,rfl,gO.k ha,?_⟩⟩
   rw [ek]
   rcases ke (k:=kk) hl q with ⟨h1,h2⟩ | ⟨i,v,t2,F,a1,a2,_⟩
   ·rw [h1,h2];rfl
   ·rw [a1,a2];rfl
  ·cases e
 ·split at e
  ·rename_i hk
   cases e
   rw [Zf] at hk
   obtain ⟨a,vs,Fs,rfl,rfl,ha,ra⟩:=tw.r2.lst_inv
   obtain ⟨h1,h2⟩:=oT tw.r1 hk.1 ra hk.2
   have hf:fB u=true:=(wo tw.r1 tw.r1 hk.1 hk.1).2.1
   exact ⟨_,rfl,rfl,.inl ⟨a,vs,rfl,.inl (SqL.of ha),hf,h1,h2⟩⟩
  ·cases e
 ·split at e
  ·rename_i hk
   cases e
   rw [Zf] at hk
   obtain ⟨a,vs,Fs,rfl,rfl,ha,ra⟩:=tw.r2.tup_inv
   obtain ⟨h1,h2⟩:=oT tw.r1 hk.1 ra hk.2
   have hf:fB u=true:=(wo tw.r1 tw.r1 hk.1 hk.1).2.1
   exact ⟨_,rfl,rfl,.inl ⟨a,vs,rfl,.inr (SqT.of ha),hf,h1,h2⟩⟩
  ·cases e
 ·cases e
theorem DJ:d8 G (DO G.K) kF:=by
 intro Φ η H0 H x y u w F1 F2 m t Q tw e k
 obtain ⟨b,rfl,rfl,h⟩:=ql tw e
 rcases h with ⟨p,xs,rfl,hq,f1,f2,hb⟩ | ⟨a,o,rfl,g,hb⟩
 ·refine .inl ⟨p,xs,rfl,hq,f1,f2,?_⟩
  rw [hb]
  exact bh k (.bl b)
 ·refine .inr ⟨a,o,rfl,g,?_⟩
  rw [hb]
  exact bh k (.bl b)
theorem AX:d8 G (tu G.K) du:=by
 intro Φ η H0 H x y u w F1 F2 m t Q tw e k
 unfold du at e
 split at e
 ·rename_i m' b' e'
  cases e
  obtain ⟨b,rfl,hb',h⟩:=ql tw e'
  cases hb'
  rcases h with ⟨p,xs,rfl,hq,f1,f2,hb⟩ | ⟨a,o,rfl,g,hb⟩
  ·refine .inl ⟨p,xs,rfl,hq,f1,f2,?_⟩
   rw [hb]
   exact bh k (.bl (!b'))
  ·refine .inr ⟨a,o,rfl,g,?_⟩
   rw [hb]
   exact bh k (.bl (!b'))
 ·cases e
theorem xD:Tells kF:=by
 intro x y m t e
 simp only [kF] at e
 split at e
 all_goals first | (split at e <;> first | (cases e;exact ⟨_,rfl⟩) | cases e) | cases e
theorem uO:Tells du:=by
 intro x y m t e
 unfold du at e
 split at e
 ·cases e;exact ⟨_,rfl⟩
 ·cases e
theorem AA (hr:Room k X.A) (ha:PV G X a ca) (hb:PV G X b cb) (hm:behindInMarks .In b=false:=by with_unfolding_all rfl) (hK:X.K=G.K:=by rfl):PVT G X (.Compare a [.In] [b] pos) (e2 kF ca cb):=fC (r:=DO X.K) (uA.or (zP (kh hr))) (hK ▸ DJ) xD ha hb hm
theorem xA (hr:Room k X.A) (ha:PV G X a ca) (hb:PV G X b cb) (hm:behindInMarks .NotIn b=false:=by with_unfolding_all rfl) (hK:X.K=G.K:=by rfl):PVT G X (.Compare a [.NotIn] [b] pos) (e2 du ca cb):=fC (r:=tu X.K) (pC.or (vE (kh hr))) (hK ▸ AX) uO ha hb hm
end
end VS
end
section
open PySem PyProof.Rows
namespace TS
variable {prog:Program} {w:World} {A:Around} {E:Z4} {s:Shared} {G:Keyed->Prop} {r:Keyed->Keyed->Bool}
theorem nB {vs:Wy} {xs:Array Keyed} (hp:xs.Perm (pairsOf vs)):(xs.map (·.2)).toList.Perm vs/\(xs.map (·.2)).toList.map (fun v=>(v,v))=xs.toList:=by
 have hp':=Array.perm_iff_toList_perm.mp hp
 rw [pairsOf_toList] at hp'
 constructor
 ·rw [Array.toList_map]
  refine (hp'.map _).trans ?_
  rw [show (fun x:Keyed=>x.2)=Prod.snd from rfl,List.map_snd_zip (Zi _)]
 ·rw [Array.toList_map,Yy]
  conv=>rhs;rw [← List.map_id xs.toList]
  apply XW
  intro p hpm
  have:=mem_zip_self (hp'.mem_iff.mp hpm)
  exact Prod.ext this.1.symm rfl
end TS
end
section
namespace L2
open PySem PySem.Spec PyProof.Rows TS
section
variable {X:Cx}
theorem qi:∀ {us:Wy},(∀ v∈us,∃ x t,v=Value.str x t)->aN ((us.map strOf).map V.str) us
 | [],_=>.nil
 | u :: us,h=>by
  obtain ⟨x,t,rfl⟩:=h u (Zt ..)
  exact .cons ⟨t,rfl⟩ (qi fun v hv=>h v (Zu _ hv))
end
end L2
end
section
namespace VS
mutual
theorem lZ:∀ (n:Nat) (t:T),eqD n t=true->eqT t t=true
 | n,.non,_=>by simp
 | n,.bl _,_=>by simp
 | n,.int _,_=>by simp
 | n,.str _,_=>by simp
 | n+1,.tup l,h=>by
  simp only [eqD,Z8] at h
  simp only [eqT]
  exact kK n l h
 | n+1,.lst l,h=>by
  simp only [eqD,Z8] at h
  simp only [eqT]
  exact kK n l h
 | 0,.tup _,h=>by simp at h
 | 0,.lst _,h=>by simp at h
 | _,.scr _,h=>by simp at h
 | _,.dct _ _,h=>by simp at h
 | _,.obj _ _,h=>by simp at h
theorem kK:∀ (n:Nat) (l:Wq),(∀ t∈l,eqD n t=true)->so l l=true
 | _,[],_=>rfl
 | n,t :: r,h=>by
  simp only [so,Zf]
  exact ⟨lZ n t (h t Zt),kK n r fun u hu=>h u (Zu _ hu)⟩
end
theorem x4 {α:Type} (l:List α) (a b:Option Int):(cut l a b).length<=l.length:=by
 unfold cut
 simp only [YH,YT]
 omega
theorem yJ {α:Type} (l:List α) (a b:Option Int) {x:α} (h:x∈cut l a b):x∈l:=by
 unfold cut at h
 exact List.mem_of_mem_drop (List.mem_of_mem_take h)
theorem BD {α:Type} (l:List α) (k:Nat):cut l none (some (k:Int))=l.take k:=by
 have h:¬ ((k:Int) < 0):=by lia
 by_cases h2:k<=l.length
 ·simp [cut,clip,h,YB h2]
 ·rw [Xg (by lia)]
  simp [cut,clip,h,X3 (Y9 h2)]
theorem dP {tg:Tg} {it:Its} {body:Sx} {η:Env} {m:Md} {l:Wq} (e:it η=some (m,l)) (h:okF m=true):gz tg it body η=forL tg body l η:=by
 unfold gz
 rw [e]
 exact Zp h
theorem dR {g:Fn} {as:Exs} {η:Env} {xs:Ws} {t:T} (h:as η=some xs) (h2:g (trees xs)=some (.fr,t)):bx g as η=some (.fr,t):=by
 simp only [bx,h,Zx,h2]
theorem aR {i:Nat} {e:Ex} {η:Env} {m:Md} {t:T} (h:e η=some (m,t)) (hm:m ≠ .bo) (hi:i < η.length):aL i e η=some (.nx (η.set i (some (.pu t)))):=by
 simp only [aL,h,Zx]
 cases m with
 | bo=>exact absurd rfl hm
 | _=>simp [hi]
end VS
end
section
namespace VS
open PySem PySem.Spec PyProof.Rows L2
theorem Ds {a b c:Tx} (h:a < b) (h':¬ c < b):a < c:=by
 by_cases e:a < c
 ·exact e
 ·exact absurd (List.lt_of_le_of_lt (List.not_lt.mp e) h) h'
theorem jx (x:Tx):∀ l:List Tx,(mJ x l).Perm (x :: l)
 | []=>List.Perm.refl _
 | y :: r=>by
  unfold mJ
  split
  ·exact ((jx x r).cons y).trans (List.Perm.swap _ _ _)
  ·exact List.Perm.refl _
theorem iy:∀ l:List Tx,(d6 l).Perm l
 | []=>List.Perm.refl _
 | x :: l=>(jx x _).trans ((iy l).cons x)
theorem pZ (x:Tx):∀ {l:List Tx},l.Pairwise (fun a b=>¬ b < a)->(mJ x l).Pairwise (fun a b=>¬ b < a)
 | [],_=>by simp [mJ]
 | y :: r,h=>by
  unfold mJ
  rw [mV]
  obtain ⟨h1,h2⟩:=XJ.mp h
  split
  ·rename_i c
   have c':y < x:=by simpa using c
   refine XJ.mpr ⟨fun z hz=>?_,pZ x h2⟩
   rcases Zj.mp ((jx x r).mem_iff.mp hz) with rfl | hz
   ·exact fun z=>List.lt_irrefl _ (List.lt_trans c' z)
   ·exact h1 z hz
  ·rename_i c
   have c':¬ y < x:=by simpa using c
   refine XJ.mpr ⟨fun z hz=>?_,h⟩
   rcases Zj.mp hz with rfl | hz
   ·exact c'
   ·exact fun w=>h1 z hz (Ds w c')
theorem nI:∀ l:List Tx,(d6 l).Pairwise (fun a b=>¬ b < a)
 | []=>List.Pairwise.nil
 | x :: l=>pZ x (nI l)
theorem og {l l':List Tx} (h:l'.Perm l) (hp:l'.Pairwise (fun a b=>¬ b < a)):l'=d6 l :=
 List.Perm.eq_of_pairwise (le:=fun a b=>¬ b < a) (fun a b _ _ h1 h2=>List.le_antisymm (List.not_lt.mp h1) (List.not_lt.mp h2)) hp (nI l) (h.trans (iy l).symm)
theorem wC (s:Tx):(sx s).cps.toList=s:=rfl
theorem wJ {ss:List Tx} {ss':List Str} (h:ss'.Perm (ss.map sx)) (hp:ss'.Pairwise (fun a b=>¬ b.cps.toList < a.cps.toList)):ss'=(d6 ss).map sx:=by
 have e:ss'=(ss'.map fun x=>x.cps.toList).map sx:=by
  rw [Yy]
  conv=>lhs;rw [← List.map_id ss']
  apply XW
  intro x hx
  obtain ⟨s,_,rfl⟩:=Yk.mp (h.mem_iff.mp hx)
  show sx s=sx (sx s).cps.toList
  rw [wC]
 have e2:(ss'.map fun x=>x.cps.toList)=d6 ss:=by
  refine og ?_ ?_
  ·have:=h.map fun x:Str=>x.cps.toList
   rw [Yy] at this
   have e3:((fun x:Str=>x.cps.toList) ∘ sx)=id:=by
    funext s
    exact wC s
   rw [e3,List.map_id] at this
   exact this
  ·rw [XB];exact hp
 rw [e,e2]
noncomputable def txB (s:Tx):Bool:=decide (s.length<=fg) && s.all (fun c=>decide (c < 1114112))
theorem Cc {s:Tx} (h:txB s=true):oq s:=by
 unfold txB at h
 simp at h
 exact h
section
variable {G:Gx} {X:Cx} {e:Expr} {cs:Exs} {p pos:Pos}
theorem rH {H:Hp}:∀ {ss:List Tx},(∀ s∈ss,oq s)->RpL G H (ss.map fun s=>V.str (sx s)) (ss.map T.str) (ss.map fun _=>[])
 | [],_=>.nil
 | s :: ss,h=>.cons (.str s (h s (Zt ..))) (rH fun x hx=>h x (Zu _ hx))
theorem qy {α β:Type}:∀ (l:List α),(l.map fun _=>([]:List β)).flatten=[]
 | []=>rfl
 | _ :: l=>by simp
theorem ve {Φ:Fps} {η:VS.Env} {H0 H:Hp} {ss:List Tx} {Q:VK} (k:∀ v H' F,aG H H'->Rp G H' v (.lst ((d6 ss).map T.str)) F->Fp Φ η H0 .fr F->Q v H') (s0:aG H0 H) (tk:∀ s∈ss,oq s) :
  ∀ (l:Addr) (ss':List Str),H l=none->ss'.Perm (ss.map sx)->ss'.Pairwise (fun a b=>¬ b.cps.toList < a.cps.toList)->Q (.ref l) (upd H l (.lst (ss'.map V.str))):=fun q ss' hq hp hw=>by
 rw [wJ hp hw]
 have sm:aG H (upd H q (.lst (((d6 ss).map sx).map V.str))):=cS hq
 have r0:=rH (G:=G) (H:=upd H q (.lst (((d6 ss).map sx).map V.str))) fun s hs=>tk s ((iy ss).mem_iff.mp hs)
 have r:Rp G (upd H q (.lst (((d6 ss).map sx).map V.str))) (.ref q) (.lst ((d6 ss).map T.str)) (q :: ((d6 ss).map fun _=>[]).flatten):=.lst (by rw [ax,Yy];rfl) r0
 rw [qy] at r
 exact k _ _ _ sm r (Fp.new (s0.free hq) (by simp) Fp.nil)
theorem keys_str:∀ {ks:List Key} {ss:List Tx},strs? (ks.map aO)=some ss->ks=(ss.map sx).map Sum.inr
 | [],_,e=>by cases e;rfl
 | .inl i :: ks,_,e=>by cases e
 | .inr x :: ks,ss,e=>by
  simp only [Zn,aO,strs?] at e
  obtain ⟨ss',e1,e2⟩:=Zy.mp e
  subst e2
  rw [keys_str e1]
  simp [sx]
theorem uy:bootBuiltins ("sorted" : Str)=some (.builtin "sorted"):=by decide +kernel
end
end VS
end
section
namespace ST
open PySem PySem.Spec PyProof.Rows
variable {prog:Program} {w:World} {A:Around} {E:Z4} {s:Shared}
theorem DU {Q:PySem.Fin->Shared->Prop} {E':Z4} (hh:A.handled=none) (h:∀ (h':Heap) (x:Addr),(∀ b o,s.heap.get? b=some o->h'.get? b=some o)->(∃ o,h'.get? x=some o/\o.cls=.type "StopIteration")->E' (.ref x) { s with heap:=h' }) :
  wpAny (model prog w) A (newExc (.type "StopIteration") [] >>= fun e=>raiseNew e) Q E' s:=by
 simp only [newExc,newTuple]
 refine Zq (Zq (Xc (Zq (m:=firstArgMember _ _) (wpAny_of_eq (a:=Value.none) (by first | rfl | (simp only [firstArgMember];rfl)) (Xc ?_ (by size_fits)))) (by size_fits)))
 simp only [raiseNew]
 refine Zq (wpAny_handled ?_)
 rw [hh]
 exact Zq (Ze (wpAny_throw (h _ _ (fun b o e=>Zk _ (Zk _ e)) ⟨_,ZV _ rfl,rfl⟩)))
end ST
end
section
namespace VS
open PySem PySem.Spec PyProof.Rows L2
inductive Pth (G:Gx) (H:Hp):List Ky->V->V->Prop
 | nil (v:V):Pth G H [] v v
 | fld {c k:Nat} {a dx:Addr} {fs:List (Str×V)} {u w:V} {ks:List Ky}:H a=some (.ins (G.ct (c+1)).1 dx fs)->fs.lookup ((G.ct (c+1)).2 k)=some u->Pth G H ks u w->Pth G H (.fld k :: ks) (.ref a) w
 | ix {a:Addr} {vs:List V} {i:Int} {j:Nat} {u w:V} {ks:List Ky}:H a=some (.lst vs)->ixP vs.length i=some j->vs[j]?=some u->Pth G H ks u w->Pth G H (.at (.int i) :: ks) (.ref a) w
 | key {a:Addr} {kvs:List (Key×V)} {k:Key} {u w:V} {ks:List Ky}:H a=some (.dK kvs)->gm kvs k=some u->Pth G H ks u w->Pth G H (.at (aO k) :: ks) (.ref a) w
 | un {v w:V} {ks:List Ky}:Pth G H ks v w->Pth G H (.un :: ks) v w
section
variable {G:Gx}
theorem pB {Fs:Xk} {i j:Nat} {F F':Wz} (nd:Fs.flatten.Nodup) (hi:Fs[i]?=some F) (hj:Fs[j]?=some F') (n:i ≠ j) {a:Addr} (ha:a∈F):a ∉ F':=by
 intro hb
 induction Fs generalizing i j with
 | nil=>simp at hi
 | cons G Gs ih =>
  rw [ZP,ZU] at nd
  cases i with
  | zero =>
   simp at hi;subst hi
   cases j with
   | zero=>exact n rfl
   | succ j=>exact nd.2.2 a ha a (dc (by simpa using hj) hb) rfl
  | succ i =>
   cases j with
   | zero =>
    simp at hj;subst hj
    exact nd.2.2 a hb a (dc (by simpa using hi) ha) rfl
   | succ j=>exact ih nd.2.1 (by simpa using hi) (by simpa using hj) (by lia)
theorem cG {Fs:Xk} {j:Nat} {F':Wz} {a:Addr} (h:a∈(Fs.set j F').flatten):a∈F'\/∃ i F,i ≠ j/\Fs[i]?=some F/\a∈F:=by
 obtain ⟨i,F,h1,h2⟩:=fU h
 by_cases e:i=j
 ·subst e
  rw [List.getElem?_set_self' ] at h1
  cases q:Fs[i]? with
  | none=>rw [q] at h1;cases h1
  | some _=>rw [q] at h1;cases h1;exact .inl h2
 ·rw [Yw (Yh e)] at h1
  exact .inr ⟨i,F,e,h1,h2⟩
theorem dU:∀ {Fs:Xk} {j:Nat} {F':Wz},Fs.flatten.Nodup->F'.Nodup->(∀ i F,i ≠ j->Fs[i]?=some F->∀ a∈F,a ∉ F')->(Fs.set j F').flatten.Nodup
 | [],_,_,h,_,_=>by simpa using h
 | G :: Gs,0,F',h,h',d=>by
  rw [ZP,ZU] at h
  rw [List.set_cons_zero,ZP,ZU]
  refine ⟨h',h.2.1,fun a ha b hb e=>?_⟩
  subst e
  obtain ⟨i,F,h1,h2⟩:=fU hb
  exact d (i+1) F (by lia) (by simpa using h1) a h2 ha
 | G :: Gs,j+1,F',h,h',d=>by
  rw [ZP,ZU] at h
  rw [List.set_cons_succ,ZP,ZU]
  refine ⟨h.1,dU h.2.1 h' fun i F n hi=>d (i+1) F (by lia) (by simpa using hi),fun a ha b hb e=>?_⟩
  subst e
  rcases cG hb with z | ⟨i,F,n,h1,h2⟩
  ·exact d 0 G (by lia) rfl a ha z
  ·exact h.2.2 a ha a (dc h1 h2) rfl
theorem RpL.each {H H2:Hp}:∀ {vs:List V} {ts:Wq} {Fs:Xk},RpL G H vs ts Fs->(∀ (i:Nat) v t F,vs[i]?=some v->ts[i]?=some t->Fs[i]?=some F->Rp G H v t F->Rp G H2 v t F)->RpL G H2 vs ts Fs
 | _,_,_,.nil,_=>.nil
 | _,_,_,.cons r q,k=>.cons (k 0 _ _ _ rfl rfl rfl r) (RpL.each q fun i v t F a b c d=>k (i+1) v t F (by simpa using a) (by simpa using b) (by simpa using c) d)
theorem RpL.setAt {H H2:Hp}:∀ {vs:List V} {ts:Wq} {Fs:Xk} {j:Nat} {u:V} {x':T} {F':Wz},RpL G H vs ts Fs->vs[j]?=some u->Rp G H2 u x' F'->(∀ (i:Nat) v t F,i ≠ j->vs[i]?=some v->ts[i]?=some t->Fs[i]?=some F->Rp G H v t F->Rp G H2 v t F)->RpL G H2 vs (ts.set j x') (Fs.set j F')
 | _,_,_,_,_,_,_,.nil,h,_,_=>by simp at h
 | _,_,_,0,_,_,_,.cons r q,h,r',k=>by
  simp at h;subst h
  exact .cons r' (RpL.each q fun i v t F a b c d=>k (i+1) v t F (by lia) (by simpa using a) (by simpa using b) (by simpa using c) d)
 | _,_,_,j+1,_,_,_,.cons r q,h,r',k=>.cons (k 0 _ _ _ (by lia) rfl rfl rfl r) (RpL.setAt q (by simpa using h) r' fun i v t F n a b c d=>k (i+1) v t F (by lia) (by simpa using a) (by simpa using b) (by simpa using c) d)
theorem oN {H H2:Hp} {a:Addr} {o:HO} {vs:List V} {ts:Wq} {Fs:Xk} {j:Nat} {u:V} {x':T} {Fj Fj':Wz} (ha:H a=some o) (ra:RpL G H vs ts Fs) (nd:(a :: Fs.flatten).Nodup) (hu:vs[j]?=some u) (hF:Fs[j]?=some Fj)
  (g:Chg G H u Fj x' H2 Fj'):H2 a=some o/\RpL G H2 vs (ts.set j x') (Fs.set j Fj')/\(a :: (Fs.set j Fj').flatten).Nodup/\(∀ b∈a :: (Fs.set j Fj').flatten,b∈a :: Fs.flatten\/H b=none)/\∀ b o,b ∉ a :: Fs.flatten->H b=some o->H2 b=some o:=by
 rw [Zd] at nd
 have subF:∀ b∈Fj,b∈Fs.flatten:=fun b hb=>dc hF hb
 have dis:∀ i F,i ≠ j->Fs[i]?=some F->∀ b∈F,b ∉ Fj':=fun i F n hi b hb hb'=>by
  rcases g.sub b hb' with z | z
  ·exact pB nd.2 hi hF n hb z
  ·exact Mut.ne_none (ra.dom b (dc hi hb)) z
 refine ⟨g.keep a o (fun z=>nd.1 (subF a z)) ha,ra.setAt hu g.rp (fun i v t F n h1 h2 h3 r=>r.keep g.kept fun b hb o' ho=>g.keep b o' (pB nd.2 h3 hF n hb) ho),?_,fun b hb=>?_,fun b o' hb ho=>g.keep b o' (fun z=>hb (Zu _ (subF b z))) ho⟩
 ·rw [Zd]
  refine ⟨fun h=>?_,dU nd.2 g.nd dis⟩
  rcases cG h with z | ⟨i,F,n,h1,h2⟩
  ·rcases g.sub a z with z | z
   ·exact nd.1 (subF a z)
   ·rw [ha] at z;cases z
  ·exact nd.1 (dc h1 h2)
 ·rcases Zj.mp hb with rfl | hb
  ·exact .inl Zt
  ·rcases cG hb with z | ⟨i,F,n,h1,h2⟩
   ·rcases g.sub b z with z | z
    ·exact .inl (Zu _ (subF b z))
    ·exact .inr z
   ·exact .inl (Zu _ (dc h1 h2))
theorem pv {α β:Type}:∀ (as:List α) (bs:List β) (i:Nat) (a:α) (y:β),as[i]?=some a->(as.zip bs).set i (a,y)=as.zip (bs.set i y)
 | [],_,_,_,_,h=>by simp at h
 | a :: as,[],i,_,_,_=>by cases i <;> simp
 | a :: as,b :: bs,0,_,y,h=>by simp at h;subst h;rfl
 | a :: as,b :: bs,i+1,_,y,h=>by
  have:=pv as bs i _ y (by simpa using h)
  simp [this]
theorem jT {α β:Type} (p:α->Bool):∀ {as:List α} {bs:List β} {i:Nat},as.length=bs.length->(as.zip bs).findIdx? (fun q=>p q.1)=some i->∃ a b,as[i]?=some a/\bs[i]?=some b/\p a=true/\(as.zip bs).find? (fun q=>p q.1)=some (a,b)
 | [],[],_,_,h=>by simp at h
 | a :: as,b :: bs,i,hl,h=>by
  rw [Zc,XI] at h
  by_cases hp:p a=true
  ·rw [Zp hp] at h
   cases h
   exact ⟨a,b,rfl,rfl,hp,by simp [hp]⟩
  ·rw [Zo hp] at h
   obtain ⟨j,hj,rfl⟩:=Zy.mp h
   obtain ⟨a',b',h1,h2,h3,h4⟩:=jT p (by simpa using hl) hj
   exact ⟨a',b',by simpa using h1,by simpa using h2,h3,by simp [hp,h4]⟩
theorem kf (k k':Key):eqT (aO k') (aO k)=true ↔ k'=k:=by
 cases k with
 | inl i=>cases k' <;> simp [aO]
 | inr x =>
  obtain ⟨⟨x⟩⟩:=x
  cases k' with
  | inl j=>simp [aO]
  | inr y=>obtain ⟨⟨y⟩⟩:=y;simp [aO]
theorem tf {k:Key} {u:V}:∀ {ns:List Key} {ts:Wq} {vs:List V} {i:Nat},ns.length=ts.length->ns.length=vs.length->((ns.map aO).zip ts).findIdx? (fun q=>eqT q.1 (aO k))=some i->vs[i]?=some u->gm (ns.zip vs) k=some u
 | [],_,_,_,_,_,h,_=>by simp at h
 | n :: ns,t :: ts,v :: vs,i,h1,h2,h,hu=>by
  rw [Zn,Zc,XI] at h
  by_cases hp:eqT (aO n) (aO k)=true
  ·rw [Zp hp] at h
   cases h
   simp at hu;subst hu
   exact iG ((kf k n).mp hp)
  ·rw [Zo hp] at h
   obtain ⟨j,hj,rfl⟩:=Zy.mp h
   have hn:n ≠ k:=fun z=>hp ((kf k n).mpr z)
   have:gm ((n :: ns).zip (v :: vs)) k=gm (ns.zip vs) k:=by simp [gm,hn]
   rw [this]
   exact tf (by simpa using h1) (by simpa using h2) hj (by simpa using hu)
 | _ :: _,[],_,_,h,_,_,_=>by simp at h
 | _ :: _,_ :: _,[],_,_,h,_,_=>by simp at h
theorem dI {H:Hp} {v:V} {c:Nat} {q0:Nat×T} {fs:List (Nat×T)} {F:Wz} (r:Rp G H v (.obj (c+1) (q0 :: fs)) F):∃ (c':Nat) (a dx:Addr) (b:Bool) (ks:Ww) (vs:List V) (ts:Wq) (Fs:Xk),c+1=c'+1/\v=.ref a/\q0=(0,.bl b)/\fs=ks.zip ts/\F=a :: Fs.flatten ∧
  H a=some (.ins (G.ct (c'+1)).1 dx ((ks.map (G.ct (c'+1)).2).zip vs))/\ks.length=vs.length/\(b=true->G.me 0=some (.ref a))/\RpL G H vs ts Fs:=by
 generalize hz:T.obj (c+1) (q0 :: fs)=z at r
 cases r with
 | ins h l m q =>
  cases hz
  exact ⟨_,_,_,_,_,_,_,_,rfl,rfl,rfl,rfl,rfl,h,l,m,q⟩
 | _=>cases hz
theorem kD {H:Hp} {v:V} {m:Nat} {t:T} {F:Wz} (r:Rp G H v (.obj 0 [(0,.bl true),(m,t)]) F):∃ a,v=.ref a/\G.me m=some (.ref a)/\Rp G H (.ref a) t F:=by
 generalize hz:T.obj 0 [(0,.bl true),(m,t)]=z at r
 cases r with
 | mk h q =>
  cases hz
  exact ⟨_,rfl,h,q⟩
 | _=>cases hz
theorem p6 {c k0:Nat} (inj:∀ c k k':Nat,(G.ct c).2 k=(G.ct c).2 k'->k=k') {ns:Ww} {vs:List V} {ts:Wq} {u:V} {i:Nat} (hl:ns.length=vs.length) (h1:(ns.zip ts).findIdx? (fun q=>q.1 == k0)=some i) (g1:ns[i]?=some k0) (u1:vs[i]?=some u):((ns.map (G.ct c).2).zip vs).lookup ((G.ct c).2 k0)=some u:=by
 induction ns generalizing vs ts i with
 | nil=>simp at g1
 | cons a0 as ih =>
  cases vs with
  | nil=>simp at hl
  | cons b0 bs =>
   cases ts with
   | nil=>simp at h1
   | cons t0 ts =>
    rw [Zn,Zc,Yx]
    rw [Zc,XI] at h1
    by_cases q:(a0 == k0)=true
    ·rw [Zp q] at h1
     cases h1
     have:a0=k0:=by simpa using q
     subst this
     simp at u1
     simp [u1]
    ·rw [Zo q] at h1
     obtain ⟨j,hj,rfl⟩:=Zy.mp h1
     have:((G.ct c).2 k0 == (G.ct c).2 a0)=false:=by
      rw [ZM]
      intro z
      exact q (by simpa using (inj c _ _ z).symm)
     rw [this]
     exact ih (by simpa using hl) hj (by simpa using g1) (by simpa using u1)
theorem CY {α:Type} {f:T->Option (T×α)} {ks:List Ky} {t t':T} {y:α} (e:pm f (.un :: ks) t=some (t',y)):∃ m x z,t=.obj 0 [(0,.bl true),(m,x)]/\pm f ks x=some (z,y)/\t'=.obj 0 [(0,.bl true),(m,z)]:=by
 unfold pm at e
 split at e
 case h_6=>cases e
 all_goals first | (rename_i h0;cases h0;done) | skip
 all_goals
  rename_i h0
  cases h0
  obtain ⟨⟨z,y'⟩,e1,e2⟩:=Zy.mp e
  cases e2
  exact ⟨_,_,_,rfl,e1,rfl⟩
theorem gU {H:Hp} {α:Type} {f:T->Option (T×α)}:∀ (ks:List Ky) {v:V} {t t':T} {F:Wz} {y:α},(∀ c k k':Nat,(G.ct c).2 k=(G.ct c).2 k'->k=k')->Rp G H v t F->F.Nodup->pm f ks t=some (t',y) →
  ∃ w x F1 x',Pth G H ks v w/\Rp G H w x F1/\F1.Nodup/\f x=some (x',y)/\∀ H2 F1',Chg G H w F1 x' H2 F1'->∃ F',Chg G H v F t' H2 F'
 | [],v,t,t',F,y,_,r,nd,e=>⟨v,t,F,t',.nil v,r,nd,e,fun H2 F1' g=>⟨F1',g⟩⟩
 | .fld k :: ks,v,t,t',F,y,inj,r,nd,e=>by
  cases t with
  | obj c fs0 =>
   cases c with
   | zero=>cases e
   | succ c =>
   cases fs0 with
   | nil=>cases e
   | cons q0 fs =>
   obtain ⟨i,h1,e⟩:=Zz.mp e
   obtain ⟨p,h2,e⟩:=Zz.mp e
   obtain ⟨⟨z,y'⟩,e1,e2⟩:=Zy.mp e
   cases e2
   obtain ⟨c',a,dx,b,ns,vs,ts,Fs,ec,rfl,rfl,rfl,rfl,ha,hl,hb,ra⟩:=dI r
   cases ec
   have lts:ns.length=ts.length:=hl.trans ra.len.1
   obtain ⟨k0,x0,g1,g2,g3,g4⟩:=jT (fun n=>n == k) lts h1
   have ek:k0=k:=by simpa using g3
   subst ek
   have ep:p=(k0,x0):=by
    have:(ns.zip ts)[i]?=some (k0,x0):=by rw [Yc];exact ⟨g1,g2⟩
    rw [this] at h2;exact (Zm h2).symm
   subst ep
   obtain ⟨u,Fi,u1,u2,u3⟩:=ra.get i g2
   obtain ⟨w,x,F1,x',w1,w2,w3,w4,w5⟩:=gU ks inj u3 (((Zd.mp nd).2).sublist (cB u2)) e1
   refine ⟨w,x,F1,x',.fld (c:=c) ha (p6 inj hl h1 g1 u1) w1,w2,w3,w4,fun H2 F1' g=>?_⟩
   obtain ⟨Fi',gi⟩:=w5 H2 F1' g
   obtain ⟨s1,s2,s3,s4,s5⟩:=oN ha ra nd u1 u2 gi
   refine ⟨_,gi.kept,s5,gi.dom,?_,s3,s4⟩
   rw [pv ns ts i k0 z g1]
   exact .ins s1 hl hb s2
  | _=>cases e
 | .un :: ks,v,t,t',F,y,inj,r,nd,e=>by
  obtain ⟨m,x,z,rfl,e1,rfl⟩:=CY e
  obtain ⟨a,rfl,hm,rx⟩:=kD r
  obtain ⟨w,x0,F1,x',w1,w2,w3,w4,w5⟩:=gU ks inj rx nd e1
  refine ⟨w,x0,F1,x',.un w1,w2,w3,w4,fun H2 F1' g=>?_⟩
  obtain ⟨F',g'⟩:=w5 H2 F1' g
  exact ⟨F',g'.kept,g'.keep,g'.dom,.mk hm g'.rp,g'.nd,g'.sub⟩
 | .at k :: ks,v,t,t',F,y,inj,r,nd,e=>by
  cases t with
  | lst l =>
   cases k with
   | int i =>
    obtain ⟨j,h1,e⟩:=Zz.mp e
    obtain ⟨x0,h2,e⟩:=Zz.mp e
    obtain ⟨⟨z,y'⟩,e1,e2⟩:=Zy.mp e
    cases e2
    obtain ⟨a,vs,Fs,rfl,rfl,ha,ra⟩:=r.lst_inv
    obtain ⟨u,Fi,u1,u2,u3⟩:=ra.get j h2
    obtain ⟨w,x,F1,x',w1,w2,w3,w4,w5⟩:=gU ks inj u3 (((Zd.mp nd).2).sublist (cB u2)) e1
    refine ⟨w,x,F1,x',.ix ha (by rw [ra.len.1];exact h1) u1 w1,w2,w3,w4,fun H2 F1' g=>?_⟩
    obtain ⟨Fi',gi⟩:=w5 H2 F1' g
    obtain ⟨s1,s2,s3,s4,s5⟩:=oN ha ra nd u1 u2 gi
    exact ⟨_,gi.kept,s5,gi.dom,.lst s1 s2,s3,s4⟩
   | _=>cases e
  | dct kd l =>
   cases kd with
   | zero =>
    have hk:hU k=true/\((l.findIdx? fun p=>eqT p.1 k).bind fun i=>(l[i]?).bind fun p=>(pm f ks p.2).map fun z=>(T.dct 0 (l.set i (p.1,z.1)),z.2))=some (t',y):=by
     cases k with
     | int i=>exact ⟨rfl,e⟩
     | str s=>exact ⟨rfl,e⟩
     | _=>cases e
    obtain ⟨hk,e⟩:=hk
    obtain ⟨i,h1,e⟩:=Zz.mp e
    obtain ⟨p,h2,e⟩:=Zz.mp e
    obtain ⟨⟨z,y'⟩,e1,e2⟩:=Zy.mp e
    cases e2
    obtain ⟨a,ns,vs,ts,Fs,rfl,rfl,ha,hl,rfl,ra⟩:=eR r
    have lts:(ns.map aO).length=ts.length:=by rw [Zw];exact hl.trans ra.len.1
    obtain ⟨k0,x0,g1,g2,g3,g4⟩:=jT (fun n=>eqT n k) lts h1
    have ep:p=(k0,x0):=by
     have:((ns.map aO).zip ts)[i]?=some (k0,x0):=by rw [Yc];exact ⟨g1,g2⟩
     rw [this] at h2;exact (Zm h2).symm
    subst ep
    obtain ⟨kk,ekk⟩:∃ kk:Key,k=aO kk:=by
     cases k with
     | int i=>exact ⟨.inl i,rfl⟩
     | str s=>exact ⟨.inr (sx s),by simp [aO,sx]⟩
     | _=>cases hk
    subst ekk
    obtain ⟨u,Fi,u1,u2,u3⟩:=ra.get i g2
    obtain ⟨w,x,F1,x',w1,w2,w3,w4,w5⟩:=gU ks inj u3 (((Zd.mp nd).2).sublist (cB u2)) e1
    refine ⟨w,x,F1,x',.key ha ?_ w1,w2,w3,w4,fun H2 F1' g=>?_⟩
    ·exact tf (by simpa using lts) hl h1 u1
    ·obtain ⟨Fi',gi⟩:=w5 H2 F1' g
     obtain ⟨s1,s2,s3,s4,s5⟩:=oN ha ra nd u1 u2 gi
     refine ⟨_,gi.kept,s5,gi.dom,?_,s3,s4⟩
     rw [pv (ns.map aO) ts i k0 z g1]
     exact .dct s1 hl s2
   | succ kd=>cases k <;> cases e
  | _=>cases k <;> cases e
end
section
variable {G:Gx}
theorem Pth.same {H H':Hp} (e:aG H H') {ks:List Ky} {v w:V} (p:Pth G H ks v w):Pth G H' ks v w:=by
 induction p with
 | nil v=>exact .nil v
 | fld h l _ ih=>exact .fld (e _ _ h) l ih
 | ix h l m _ ih=>exact .ix (e _ _ h) l m ih
 | key h l _ ih=>exact .key (e _ _ h) l ih
 | un _ ih=>exact .un ih
theorem Pth.split {H:Hp} {k:Ky} {w:V}:∀ {ks:List Ky} {v:V},Pth G H (ks++[k]) v w->∃ u,Pth G H ks v u/\Pth G H [k] u w
 | [],v,p=>⟨v,.nil v,p⟩
 | _ :: ks,_,.fld h l p=>let ⟨u,a,b⟩:=Pth.split (ks:=ks) p;⟨u,.fld h l a,b⟩
 | _ :: ks,_,.ix h l m p=>let ⟨u,a,b⟩:=Pth.split (ks:=ks) p;⟨u,.ix h l m a,b⟩
 | _ :: ks,_,.key h l p=>let ⟨u,a,b⟩:=Pth.split (ks:=ks) p;⟨u,.key h l a,b⟩
 | _ :: ks,_,.un p=>let ⟨u,a,b⟩:=Pth.split (ks:=ks) p;⟨u,.un a,b⟩
theorem fJ {η:VS.Env} {s:Stp}:∀ {way:List Stp} {ks:List Ky},keys (way++[s]) η=some ks->∃ ks0 k,keys way η=some ks0/\keys [s] η=some [k]/\ks=ks0++[k]
 | [],ks,e=>by
  cases s with
  | fld k=>cases e;exact ⟨[],.fld k,rfl,rfl,rfl⟩
  | un=>cases e;exact ⟨[],.un,rfl,rfl,rfl⟩
  | ix c =>
   obtain ⟨x,h1,h2⟩:=Zz.mp (show (c η).bind (fun x=>(keys [] η).map (Ky.at x.2 :: ·))=some ks from e)
   cases h2
   exact ⟨[],.at x.2,rfl,by simp [keys,h1],rfl⟩
 | .fld k :: way,ks,e=>by
  obtain ⟨ks1,h1,h2⟩:=Zy.mp (show (keys (way++[s]) η).map (Ky.fld k :: ·)=some ks from e)
  obtain ⟨ks0,k',a,b,c⟩:=fJ h1
  exact ⟨.fld k :: ks0,k',by simp [keys,a],b,by rw [← h2,c];rfl⟩
 | .un :: way,ks,e=>by
  obtain ⟨ks1,h1,h2⟩:=Zy.mp (show (keys (way++[s]) η).map (Ky.un :: ·)=some ks from e)
  obtain ⟨ks0,k',a,b,c⟩:=fJ h1
  exact ⟨.un :: ks0,k',by simp [keys,a],b,by rw [← h2,c];rfl⟩
 | .ix c :: way,ks,e=>by
  obtain ⟨x,h0,h⟩:=Zz.mp (show (c η).bind (fun x=>(keys (way++[s]) η).map (Ky.at x.2 :: ·))=some ks from e)
  obtain ⟨ks1,h1,h2⟩:=Zy.mp h
  obtain ⟨ks0,k',a,b,d⟩:=fJ h1
  exact ⟨.at x.2 :: ks0,k',by simp [keys,h0,a],b,by rw [← h2,d];rfl⟩
noncomputable def tPl (G:Gx) (i:Nat) (way:List Stp):TE:=fun σ H Q=>∃ Φ η t ks v w,SR G Φ η σ H/\η[i]?=some (some (.ow t))/\σ[i]?=some (some v)/\keys way η=some ks/\Pth G H ks v w/\∀ H',aG H H'->Q w H'
noncomputable def PPl (G:Gx) (X:Cx) (e:Expr) (i:Nat) (way:List Stp):Prop:=PE X e (tPl G i way)
theorem PE.weakP {X:Cx} {e:Expr} {t:TE} {i:Nat} {way:List Stp} (h:PE X e t) (w:∀ σ H Q,tPl G i way σ H Q->t σ H Q):PPl G X e i way:=fun pins s σ H Q I q=>h pins s σ H Q I (w σ H Q q)
variable {X:Cx} {e:Expr} {es:List Expr} {i:Nat} {way:List Stp} {pos pos' p1 apos cpos:Pos} {c:Ex} {cs:Exs} {b:Expr} {k:Nat}
theorem bt (i:Nat) {x:Str} (hN:X.N[i]?=some x) (hv:Vis X.env.scope x) (hd:(x == ("__debug__" : Str))=false) (hcd:(x == ("__classdict__" : Str))=false):PPl G X (.Name x pos) i [] :=
 PE.weakP (fq hN hv hd hcd) fun σ H Q hq=>by
  obtain ⟨Φ,η,t,ks,v,w,s,h1,h2,h3,h4,h5⟩:=hq
  cases (show some ([]:List Ky)=some ks from h3)
  cases h4
  exact ⟨v,h2,h5 H (aG.refl _)⟩
theorem C0 (h:PPl G X e i way):PPl G X e i (way++[.un]) :=
 PE.weakP h fun σ H Q hq=>by
  obtain ⟨Φ,η,t,ks,v,w,s,h1,h2,h3,h4,h5⟩:=hq
  obtain ⟨ks0,k',a,b,rfl⟩:=fJ h3
  cases (show some [Ky.un]=some [k'] from b)
  obtain ⟨u,p1,p2⟩:=h4.split
  cases p2 with
  | un q =>
   cases q
   exact ⟨Φ,η,t,ks0,v,w,s,h1,h2,a,p1,h5⟩
structure FldOk (G:Gx) (K:X8) (k:Nat) (f:Str):Prop where
 nm:∀ c,(G.ct (c+1)).2 k=f
 cl:∀ c,Cls K (G.ct (c+1)).1
 no:∀ c,aS K (G.ct (c+1)).1 f
theorem fu (k:Nat) {f:Str} (F:FldOk G X.K k f) (h:PPl G X e i way) (hb:attributeBase e f X.env (eval e X.env)=eval e X.env):PPl G X (.Attribute e f pos) i (way++[.fld k]) :=
 PE.weakP (vi h hb) fun σ H Q hq=>by
  obtain ⟨Φ,η,t,ks,v,w,s,h1,h2,h3,h4,h5⟩:=hq
  obtain ⟨ks0,k',a,b,rfl⟩:=fJ h3
  cases (show some [Ky.fld k]=some [k'] from b)
  obtain ⟨u,p1,p2⟩:=h4.split
  refine ⟨Φ,η,t,ks0,v,u,s,h1,h2,a,p1,fun H' sm=>?_⟩
  cases p2 with
  | @fld c _ a dx fs u' _ _ ha hl q =>
   cases q
   rw [F.nm c] at hl
   exact ⟨a,_,dx,fs,w,rfl,sm a _ ha,F.cl c,F.no c,hl,h5 H' sm⟩
theorem Ao {kr:Nat} (hr:Room kr X.A) (h:PPl G X e i way) (hb:PV G X b c) (hs:gp b) (hK:X.K=G.K):PPl G X (.Subscript e b pos) i (way++[.ix c]) :=
 PE.weakP (mh (IxR.or jw (oB (kh hr))) h hb hs) fun σ H Q hq=>by
  obtain ⟨Φ,η,t,ks,v,w,s,h1,h2,h3,h4,h5⟩:=hq
  obtain ⟨ks0,k',a,b',rfl⟩:=fJ h3
  obtain ⟨⟨mx,x⟩,ec,e2⟩:=Zz.mp (show (c η).bind (fun x=>(keys [] η).map (Ky.at x.2 :: ·))=some [k'] from b')
  cases e2
  obtain ⟨u,p1,p2⟩:=h4.split
  refine ⟨Φ,η,t,ks0,v,u,s,h1,h2,a,p1,fun H1 sm=>⟨Φ,η,mx,x,s.same sm,ec,fun y H2 F2 sm2 r2 f2=>?_⟩⟩
  have p3:=(p2.same sm).same sm2
  have q:=h5 H2 (sm.trans sm2)
  cases p3 with
  | @ix a vs i0 j u' _ _ ha hl hu q' =>
   cases q'
   refine .inl (.inl ⟨a,vs,i0,w,rfl,r2.int_inv,SqL.of ha,jG hl hu,q⟩)
  | @key a kvs kk u' _ _ ha hl q' =>
   cases q'
   refine .inr ⟨a,w,rfl,?_,q⟩
   have hy:y=kV kk:=by
    cases kk with
    | inl n=>exact r2.int_inv
    | inr z =>
     have:=r2.str_inv.1
     rw [this]
     simp [kV,sx]
   rw [hy,← hl]
   exact gO.k ha
@[simp] noncomputable def ig (i:Nat) (way:List Stp) (f:T->Ws->Option (T×Val)) (as:Exs) (η:VS.Env):Option (Val×VS.Env):=match η[i]? with
 | some (some (.ow t))=>(keys way η).bind fun ks=>(as η).bind fun xs=>(pm (fun x=>f x xs) ks t).map fun z=>(z.2,η.set i (some (.ow z.1)))
 | _=>none
noncomputable def jr (G:Gx):Prop:=∀ c k k':Nat,(G.ct c).2 k=(G.ct c).2 k'->k=k'
theorem vW {T' id:String} {name:Str} {o:Expr} {r:V->List V->Hp->VK->Prop} {f:T->Ws->Option (T×Val)} (J:jr G) (pa:PlainAttrs T') (slot:Slot T' name id) (hty:typeOf (.builtin id)=pure (.type "method_descriptor")) (hm:MtR X id r) (ok:xJ G r f)
  (hT:∀ H v t F l z,Rp G H v t F->f t l=some z->tyV G.K T' v H) (ho:PPl G X o i way) (ha:PVs G X (e :: es) cs) (hK:X.K=G.K)
  (hbase:attributeBase o name X.env (eval o X.env)=eval o X.env)
  (hfew:((backTo cpos (starEach (e :: es) X.env)).all (fun x=>!x.1) && (backToKw cpos (keywordEach [] X.env)).all (fun x=>x.1.isSome)
   && decide ((e :: es).length+([]:List Keyword).length+(if ([]:List Keyword).isEmpty then 0 else 1) < 30))=true)
  (hline:(apos.endLine == cpos.line)=true) (hs:starEach (e :: es) X.env=(false,eval e X.env) :: starEach es X.env) (hplain:(backTo cpos (starEach es X.env)).any (·.1)=false)
  (hsw:swapsWith (.Call (.Attribute o name apos) (e :: es) [] cpos) none pos.line X.env=pure false) :
  PSV G X (.Expr (.Call (.Attribute o name apos) (e :: es) [] cpos) pos) (sX (ig i way f cs)) :=
 PS.weak (ka (qR pa slot hty hm ho ha hbase hfew hline hs hplain) hsw) fun D σ H hq=>by
  obtain ⟨Φ,η,out,s,e,k⟩:=hq
  refine L2.j4 fun P_ k_=>?_
  unfold sX ig at e
  obtain ⟨⟨x',η'⟩,e1,e2⟩:=Zy.mp e
  split at e1
  ·rename_i t ht
   obtain ⟨ks,ek,e3⟩:=Zz.mp e1
   obtain ⟨l,el,e4⟩:=Zz.mp e3
   obtain ⟨⟨t',x2⟩,e5,e6⟩:=Zy.mp e4
   cases e6
   cases e2
   obtain ⟨v,h1,h2⟩:=s.rp _ _ ht
   obtain ⟨w,x,F1,x3,w1,w2,w3,w4,w5⟩:=gU ks J h2 (s.nd i t ht) e5
   refine k_ ?_
   refine ⟨Φ,η,t,ks,v,w,s,ht,h1,ek,w1,fun H0 sm0=>⟨by rw [hK];exact hT H0 w x _ l _ (w2.same sm0) w4,Φ,η,l,s.same sm0,el,fun vs H' Fs q1 q2 q3=>?_⟩⟩
   refine ok Φ η H H' w x x3 F1 l vs Fs x2 _ w2 w3 ⟨sm0.trans q1,q2,⟨fun n v' F' a1 a2=>(q3.each n v' F' a1 a2).back sm0,q3.nd⟩⟩ w4 fun u H2 F' g=>?_
   obtain ⟨F2,g2⟩:=w5 H2 F' g
   obtain ⟨z1,z2⟩:=s.mut ht h1 g2
   exact k _ σ H2 z1 z2
  ·cases e1
end
section
variable {G:Gx} {X:Cx} {e o:Expr} {es:List Expr} {i:Nat} {way:List Stp} {pos pos' p1 apos cpos:Pos} {c:Ex} {cs:Exs} {b:Expr} {k:Nat} {ce ck:Ex}
noncomputable def jo (k v:Val):T->Option (T×Unit)
 | .lst l=>match k.2 with
  | .int n=>(fit v).bind fun t=>(ixP l.length n).map fun j=>(.lst (l.set j t),())
  | _=>none
 | .dct 0 l=>if hU k.2/\imm v.2/\l.length < fg then some (.dct 0 (dput l k.2 v.2),()) else none
 | _=>none
noncomputable def dh (i:Nat) (way:List Stp) (k e:Ex) (η:VS.Env):Option Out:=(e η).bind fun v=>match η[i]? with
 | some (some (.ow t))=>(keys way η).bind fun ks=>(k η).bind fun kv=>(pm (jo kv v) ks t).map fun z=>.nx (η.set i (some (.ow z.1)))
 | _=>none
theorem RpL.putAt {H:Hp}:∀ {vs:List V} {ts:Wq} {Fs:Xk} (j:Nat) {u:V} {x:T} {F:Wz},RpL G H vs ts Fs->Rp G H u x F->RpL G H (vs.set j u) (ts.set j x) (Fs.set j F)
 | _,_,_,_,_,_,_,.nil,_=>.nil
 | _,_,_,0,_,_,_,.cons r q,r'=>.cons r' q
 | _,_,_,j+1,_,_,_,.cons r q,r'=>.cons r (RpL.putAt j q r')
theorem tJ {H:Hp} {kk:Key} {xv:V} {t:T} (rv:Rp G H xv t []):∀ {ks:List Key} {vs:List V} {ts:Wq} {Fs:Xk},ks.length=vs.length->RpL G H vs ts Fs →
  ∃ vs' ts' Fs',(ks.zip vs).map (fun kv=>if kv.1=kk then (kv.1,xv) else kv)=ks.zip vs'/\ks.length=vs'.length/\((ks.map aO).zip ts).map (fun p=>if eqT p.1 (aO kk) then (p.1,t) else p)=(ks.map aO).zip ts'/\RpL G H vs' ts' Fs'/\Fs'.flatten.Sublist Fs.flatten
 | [],[],_,_,_,.nil=>⟨[],[],[],rfl,rfl,rfl,.nil,Y2 _⟩
 | k :: ks,v :: vs,_,_,hl,.cons (t:=t0) (F:=F) (ts:=ts) (Fs:=Fs) r q=>by
  obtain ⟨vs',ts',Fs',h1,h2,h3,h4,h5⟩:=tJ rv (by simpa using hl) q
  by_cases hk:k=kk
  ·have e:eqT (aO k) (aO kk)=true:=(kf kk k).mpr hk
   refine ⟨xv :: vs',t :: ts',[] :: Fs',?_,by simp [h2],?_,.cons rv h4,?_⟩
   ·rw [Zc,Zn,h1,Zc];simp [hk]
   ·rw [Zn,Zc,Zn,h3,Zc];simp [e]
   ·rw [ZP,ZP]
    exact h5.trans (Yd _ _)
  ·have e:¬ eqT (aO k) (aO kk)=true:=fun z=>hk ((kf kk k).mp z)
   refine ⟨v :: vs',t0 :: ts',F :: Fs',?_,by simp [h2],?_,.cons r h4,?_⟩
   ·rw [Zc,Zn,h1,Zc];simp [hk]
   ·rw [Zn,Zc,Zn,h3,Zc];simp [e]
   ·rw [ZP,ZP]
    exact List.Sublist.append (Y2 _) h5
theorem qE {kk:Key}:∀ {ks:List Key} {vs:List V} {ts:Wq},ks.length=vs.length->ks.length=ts.length->((ks.zip vs).any fun kv=>decide (kv.1=kk))=(((ks.map aO).zip ts).any fun p=>eqT p.1 (aO kk))
 | [],_,_,_,_=>by simp
 | k :: ks,v :: vs,t :: ts,h1,h2=>by
  rw [Zn,Zc,Zc,Yg,Yg,qE (by simpa using h1) (by simpa using h2)]
  have:decide (k=kk)=eqT (aO k) (aO kk):=by rw [Xw,decide_eq_true_eq];exact (kf kk k).symm
  rw [this]
 | _ :: _,[],_,h,_=>by simp at h
 | _ :: _,_ :: _,[],_,h=>by simp at h
theorem oS {H:Hp} {kk:Key} {xv:V} {t:T} (rv:Rp G H xv t []) {ks:List Key} {vs:List V} {ts:Wq} {Fs:Xk} (hl:ks.length=vs.length) (ra:RpL G H vs ts Fs) :
  ∃ (ks':List Key) (vs':List V) (ts':Wq) (Fs':Xk),putK (ks.zip vs) kk xv=ks'.zip vs'/\ks'.length=vs'.length/\dput ((ks.map aO).zip ts) (aO kk) t=(ks'.map aO).zip ts'/\RpL G H vs' ts' Fs'/\Fs'.flatten.Sublist Fs.flatten:=by
 have an:=qE (kk:=kk) hl (hl.trans ra.len.1)
 unfold putK dput
 rw [an]
 by_cases h:(((ks.map aO).zip ts).any fun p=>eqT p.1 (aO kk))=true
 ·rw [Zp h,Zp h]
  obtain ⟨vs',ts',Fs',h1,h2,h3,h4,h5⟩:=tJ (kk:=kk) rv hl ra
  exact ⟨ks,vs',ts',Fs',h1,h2,h3,h4,h5⟩
 ·rw [Zo h,Zo h]
  refine ⟨ks++[kk],vs++[xv],ts++[t],Fs++[[]],?_,by simp [hl],?_,ra.append (.cons rv .nil),by simp⟩
  ·rw [List.zip_append hl];rfl
  ·rw [ZA,List.zip_append (by rw [Zw];exact hl.trans ra.len.1)];rfl
noncomputable def Al:yH:=fun o i v H Q=>Aw o i v H Q\/∃ a H4,o=.ref a/\q8 H a i v H4/\Q H4
theorem wO (hu:X.A.units+1 < cLine):BJ X Al:=by
 intro pins s σ H o i v ov iv u Q I ro ri rv h
 rcases h with h | ⟨a,H4,rfl,g,q⟩
 ·exact set_list pins s σ H o i v ov iv u Q I ro ri rv h
 ·cases ro
  exact uW hu I g ri rv fun s4 I4=>⟨H4,I4,q⟩
theorem iR {kr:Nat} (J:jr G) (hr:Room kr X.A) (ho:PPl G X o i way) (hk:PV G X b ck) (he:PV G X e ce)
  (ha:∀ v,assign (.Subscript o b pos') X.env v=(do
   let ov ← holding [v] (eval o X.env)
   let iv ← holding [v,ov] (eval b X.env)
   standAt pos'
   holding [v,ov,iv] (setItem ov iv v)
   release [v,ov,iv] [])) (hs:swapsWithSole [.Subscript o b pos'] e pos.line X.env=pure false) (hw:swappedStores [.Subscript o b pos'] e X.env=pure none)
  (h1:(assignEach [.Subscript o b pos'] X.env).map (·.2)=[assign (.Subscript o b pos') X.env]):PSV G X (.Assign [.Subscript o b pos'] e pos) (dh i way ck ce) :=
 PS.weak (si he (rh ho hk (wO (kh hr)) ha) hs hw h1) fun D σ H hq=>by
  obtain ⟨Φ,η,out,s,e,k⟩:=hq
  refine L2.j4 fun P_ k_=>?_
  unfold dh at e
  obtain ⟨⟨mv,tv⟩,ev,e⟩:=Zz.mp e
  split at e
  ·rename_i t ht
   obtain ⟨ks,ek,e⟩:=Zz.mp e
   obtain ⟨⟨mk,tk⟩,ekk,e⟩:=Zz.mp e
   obtain ⟨⟨t',y'⟩,e5,e6⟩:=Zy.mp e
   cases e6
   obtain ⟨v,g1,g2⟩:=s.rp _ _ ht
   obtain ⟨w,x,F1,x3,w1,w2,w3,w4,w5⟩:=gU ks J g2 (s.nd i t ht) e5
   refine k_ ?_
   refine ⟨Φ,η,mv,tv,s,ev,fun xv H1 Fv sm1 rv fv=>?_⟩
   refine ⟨Φ,η,t,ks,v,w,s.same sm1,ht,g1,ek,w1.same sm1,fun H2 sm2=>⟨Φ,η,mk,tk,(s.same sm1).same sm2,ekk,fun kv H3 Fk sm3 rk fk=>?_⟩⟩
   have sm:aG H H3:=(sm1.trans sm2).trans sm3
   have rv3:Rp G H3 xv tv Fv:=(rv.same sm2).same sm3
   have fin:∀ H4 F',Chg G H w F1 x3 H4 F'->D.nx σ H4:=fun H4 F' g=>by
    obtain ⟨F2,g2'⟩:=w5 H4 F' g
    obtain ⟨z1,z2⟩:=s.mut ht g1 g2'
    exact k _ σ H4 z1 z2
   refine L2.j4 fun P_ k_=>?_
   cases x with
   | lst l =>
    cases tk with
    | int n =>
     obtain ⟨tt,et,e7⟩:=Zz.mp (show ((fit (mv,tv)).bind fun t=>(ixP l.length n).map fun j=>(T.lst (l.set j t),()))=some (x3,y') from w4)
     obtain ⟨j,ej,e8⟩:=Zy.mp e7
     cases e8
     have em:=lT et
     cases em
     obtain ⟨a,vs,Fs,rfl,rfl,ha',ra⟩:=w2.lst_inv
     have ha3:H3 a=some (.lst vs):=sm a _ ha'
     have nd:=Zd.mp w3
     have na:a ∉ Fv:=fun z=>by rw [fv.2 a z] at ha';cases ha'
     have m3:Mut (H3 a):=by rw [ha3];exact True.intro
     have off:∀ bb∈Fs.flatten,bb ∉ Fv:=fun bb hb hv=>Mut.ne_none (ra.dom bb hb) (fv.2 bb hv)
     refine k_ ?_
     refine .inl ⟨a,vs,n,j,rfl,rk.int_inv,ha3,by rw [← rT,ra.len.1];exact ej,fin _ (a :: (Fs.set j Fv).flatten) ?_⟩
     have keep:∀ {u:V} {x:T} {F:Wz},Rp G H3 u x F->a ∉ F->Rp G (upd H3 a (.lst (vs.set j xv))) u x F:=fun r hn=>r.keep (Kept.upd (.inl m3)) fun bb hb o' ho'=>by rw [aD (fun z=>hn (by rw [← z];exact hb))];exact ho'
     refine Chg.upd sm Zt m3 (.lst ax ((((ra.same sm).off m3 nd.1)).putAt j (keep rv3 na))) ?_ ?_
     ·rw [Zd]
      refine ⟨fun h=>?_,dU nd.2 fv.1 fun i' F' _ hi bb hb=>off bb (dc hi hb)⟩
      rcases cG h with z | ⟨i',F',_,h1,h2⟩
      ·exact na z
      ·exact nd.1 (dc h1 h2)
     ·intro bb hb
      rcases Zj.mp hb with rfl | hb
      ·exact .inl Zt
      ·rcases cG hb with z | ⟨i',F',_,h1,h2⟩
       ·exact .inr (fv.2 bb z)
       ·exact .inl (Zu _ (dc h1 h2))
    | _=>cases w4
   | dct kd l =>
    cases kd with
    | zero =>
     have hc:(hU tk=true/\imm tv=true/\l.length < fg)/\x3=.dct 0 (dput l tk tv):=by
      have w4':(if hU tk/\imm tv/\l.length < fg then some (T.dct 0 (dput l tk tv),()) else none)=some (x3,y'):=w4
      split at w4'
      ·rename_i hc
       cases w4'
       exact ⟨hc,rfl⟩
      ·cases w4'
     obtain ⟨⟨c1,c2,c3⟩,rfl⟩:=hc
     have eF:=rv3.imm c2
     subst eF
     obtain ⟨a,ns,vs,ts,Fs,rfl,rfl,ha',hl,rfl,ra⟩:=eR w2
     obtain ⟨kk,rfl,ekk'⟩:=dA rk c1
     subst ekk'
     have ha3:H3 a=some (.dK (ns.zip vs)):=sm a _ ha'
     have m3:Mut (H3 a):=by rw [ha3];exact True.intro
     have nd:=Zd.mp w3
     obtain ⟨ks',vs',ts',Fs',q1,q2,q3,q4,q5⟩:=oS (kk:=kk) rv3 hl (ra.same sm)
     have ln:(ns.zip vs).length < sizeLine:=by
      have:((ns.map aO).zip ts).length < 16777216:=c3
      rw [Yv,Zw] at this
      rw [Yv]
      have:=ra.len.1
      have:(sizeLine:Nat)=16777216:=rfl
      lia
     refine k_ ?_
     refine .inr ⟨a,_,rfl,q8.k ha3 ln,fin _ (a :: Fs'.flatten) ?_⟩
     rw [q1,q3]
     refine Chg.upd sm Zt m3 (.dct ax q2 (q4.off m3 fun z=>nd.1 (q5.subset z))) ?_ ?_
     ·exact Zd.mpr ⟨fun z=>nd.1 (q5.subset z),nd.2.sublist q5⟩
     ·intro bb hb
      rcases Zj.mp hb with rfl | hb
      ·exact .inl Zt
      ·exact .inl (Zu _ (q5.subset hb))
    | succ n=>cases w4
   | _=>cases w4
  ·cases e
end
theorem By {K:X8} {H:Hp} {a:Addr} {ns:Wv} (hO:xO H) (hS:SqL K H a (ns.map V.int)):k9 K H a ns:=by
 rcases hS with h | h
 ·rcases h with h | h
  ·rcases hO a with z | ⟨o,xs,z⟩
   ·rw [z] at h;cases h
   ·rw [z] at h;cases h
  ·exact .inl h
 ·exact .inr h
theorem A2 {G:Gx} {g:Fn} {H:Hp} {a:Addr} {ns:Wv} {E:XK} (hg:g [.scr ns]=some (.fr,.bl true)) (hO:xO H) (hS:SqL G.K H a (ns.map V.int)):spF G g [.ref a] H (fun v _=>v=.bl true) E :=
 ⟨[.scr ns],[[]],.fr,.bl true,.cons (.scr (By hO hS)) .nil,hg,fun v H' F _ r _=>r.bl_inv⟩
noncomputable def gx0 (K:X8):Gx:=⟨K,fun _=>(0,fun k=>⟨#[k]⟩),fun _=>none⟩
end VS
end
section
namespace L2
open PySem PySem.Spec PyProof.Rows
section
variable {X:Cx}
theorem rD (hc:X.calm=true):dD X (.type "list") (fun xs H Q=>∃ x:Str,xs=[.str x]/\x.cps.size<=sizeLine/\∀ l,H l=none->Q (.ref l) (upd H l (.lst (x.cps.toList.map fun c=>V.str ⟨#[c]⟩)))):=by
 intro pins s σ H xs us Q I rx h
 obtain ⟨x,rfl,hz,q⟩:=h
 obtain ⟨u,rfl,t,rfl⟩:=vals1 rx
 refine call_list_str (I.ok.hd hc) x t (fun h' tk acc c kp g ha=>?_) hz
 have hv:aN (x.cps.toList.map fun c=>V.str ⟨#[c]⟩) acc.toList:=by
  have key:∀ (cs:Ww) (vs:Wy),cs.length=vs.length->(∀ (i:Nat) (v:Value),vs[i]?=some v->∃ c u,cs[i]?=some c/\v=.str ⟨#[c]⟩ u)->aN (cs.map fun c=>V.str ⟨#[c]⟩) vs:=by
   intro cs
   induction cs with
   | nil =>
    intro vs hl _
    cases vs with
    | nil=>exact .nil
    | cons v vs=>simp at hl
   | cons c cs ih =>
    intro vs hl hg
    cases vs with
    | nil=>simp at hl
    | cons v vs =>
     obtain ⟨d,u,e1,e2⟩:=hg 0 v rfl
     cases e1
     exact .cons ⟨u,e2⟩ (ih vs (by simpa using hl) fun i w hw=>by simpa using hg (i+1) w (by simpa using hw))
  refine key _ _ (by rw [YW,YW,ha.1]) fun i v hi=>?_
  rw [Yn] at hi
  obtain ⟨d,u,e1,e2⟩:=ha.2 i v hi
  exact ⟨d,u,by rw [Yn];exact e1,e2⟩
 refine ⟨.ref s.heap.objs.size,_,I.laid kp (Zi _) (show bN X.prog X.w _ h' _ (.lst (x.cps.toList.map fun c=>V.str ⟨#[c]⟩)) from ⟨by rw [Zw,YW];exact hz,acc.toList,c,hv,g⟩),rfl,q _ (I.hok.fresh (Zi _))⟩
end
end L2
namespace VS
open PySem PySem.Spec PyProof.Rows L2
section
variable {G:Gx} {X:Cx} {a b c e tg:Expr} {es:List Expr} {ca cb cc ce ck:Ex} {cs:Exs} {pos p p1 p2 apos cpos pos':Pos} {k k' kr:Nat}
@[simp] noncomputable def kL:Ws->Wr
 | [(m,.lst l)]=>mkL m l
 | [(m,.tup l)]=>mkL m l
 | [(_,.str s)]=>mkL .fr (s.map fun c=>.str [c])
 | _=>none
theorem wV:fj G (fun xs H Q=>AD G.K xs H Q\/∃ x:Str,xs=[.str x]/\x.cps.size<=sizeLine/\∀ l,H l=none->Q (.ref l) (upd H l (.lst (x.cps.toList.map fun c=>V.str ⟨#[c]⟩)))) kL:=by
 intro Φ η H0 H l vs Fs m t Q A e k
 unfold kL at e
 split at e
 ·exact .inl (sL Φ η H0 H _ vs Fs m t Q A e k)
 ·exact .inl (sL Φ η H0 H _ vs Fs m t Q A e k)
 ·rename_i mx x
  obtain ⟨v,F,rfl,rfl,rx⟩:=(show RpL G H vs [.str x] Fs from A.rp).one
  have ts:=rx.str_inv.2
  refine .inr ⟨sx x,by rw [rx.str_inv.1],?_,fun q hq=>?_⟩
  ·have:=ts.1
   simp only [sx,ZX]
   exact this
  ·have ec:(sx x).cps.toList.map (fun c=>V.str ⟨#[c]⟩)=(x.map fun c=>[c]).map fun s=>V.str (sx s):=by
    simp [sx]
   have et:(x.map fun c=>T.str [c])=(x.map fun c=>[c]).map T.str:=by simp
   rw [ec]
   rw [et] at e
   have r0:=rH (G:=G) (H:=H) (ss:=x.map fun c=>[c]) fun s hs=>by
    obtain ⟨c,hc,rfl⟩:=Yk.mp hs
    exact ⟨by show 1<=fg;decide,fun y hy=>by rw [Za.mp hy];exact ts.2 c hc⟩
   refine iW A.same e r0 ?_ k q hq
   rw [qy]
   exact Fp.nil
 ·cases e
theorem t8 (hm:X.mg "list" = none) (ha:PVs G X [e] cs) (hg:Gl X "list" := by rfl) (hK:X.K=G.K:=by rfl) (hc:X.calm=true:=by rfl) (he:starEach [e] X.env=(false,eval e X.env) :: starEach [] X.env:=by rfl):PV G X (.Call (.Name "list" p) [e] [] pos) (eN kL cs) :=
 iY (ot.or (rD hc)) (hK ▸ wV) hg hm zM ha (he:=he) (hpl:=rfl)
end
end VS
end
section
namespace ST
open PySem PySem.Spec PyProof.Rows
variable {prog:Program} {w:World} {A:Around} {E:Z4} {s:Shared}
noncomputable abbrev dO (es:Array DictEntry) (ep:Nat):Obj:={ cls:=.type "dict",data:=.dict es ep }
noncomputable abbrev kO (d:Addr) (i n ep:Nat):Obj:={ cls:=.type "dict_keyiterator",data:=.fields #[.ref d,.int i 0,.int n 0,.int ep 0] }
theorem vA {d:Addr} {es:Array DictEntry} {ep:Nat} {Q:Z4} (hd:(d == sysModules)=false) (hm:s.heap.get? d=some (dO es ep)) (q:Q (.ref s.heap.objs.size) { s with heap:=s.heap.push (kO d 0 es.size ep) }) :
  wpAny (model prog w) A (pyIter (.ref d)) Q E s:=by
 have ty:s.TypeIs (.ref d) "dict" := ⟨_,hm,rfl⟩
 refine wpAny_pyIter_slot ty F.slot_dict_iter (Xv F.slot_dict_iter ty F.entry_dict_iter (show wpAny _ _ (Builtin.«dict.__iter__» _) _ _ _ from ?_) (F.args_dict_iter_1 _))
 unfold Builtin.«dict.__iter__» Builtin.Dict.dictSlotNone Builtin.Dict.showsAll
 refine Zq (Zq (wpAny_notOrdered_dict ty (show wpAny _ _ (pure (Value.ref d)) _ _ s from Ze (Zq (m:=Builtin.Dict.addrOf (.ref d)) (Ze ?_)))))
 rw [Zo (by rw [hd];exact Zg)]
 exact Zq (Ze (Zq (wpAny_dictEntries hm rfl (Zq (wpAny_dictEpoch hm rfl (Zq (Xc (Ze ⟨_,rfl, "dict_keyiterator",_,⟨_,ZV _ rfl,rfl⟩,YJ.lookup,q⟩))))))))
theorem qG {I d:Addr} {i ep:Nat} {es:Array DictEntry} {Q:Wx->Shared->Prop} (hh:A.handled=none) (hI:s.heap.get? I=some (kO d i es.size ep)) (hm:s.heap.get? d=some (dO es ep))
  (h1:∀ e,es[i]?=some e->∀ h',Heap.SameBut I s.heap h'->h'.get? I=some (kO d (i+1) es.size ep)->Q (some e.key) { s with heap:=h' })
  (h2:es[i]?=none->∀ h',(∀ b o,b ≠ I->s.heap.get? b=some o->h'.get? b=some o)->Q none { s with heap:=h' }):wpAny (model prog w) A (pyNext (.ref I)) Q E s:=by
 have ty:s.TypeIs (.ref I) "dict_keyiterator" := ⟨_,hI,rfl⟩
 unfold pyNext
 refine Zq (wpAny_attempt (wpAny_callSpecial?_slot (name:=Str.ofString "__next__") ty YJ (Xv YJ ty F.entry_dict_keyiterator_next (YM
  (Q:=fun f s'=>∃ v,f=.done (.ret v)/\Q (some v) s') (E:=fun e s'=>∃ x,e=.ref x/\(∃ o,s'.heap.get? x=some o/\o.cls=.type "StopIteration")/\Q none s') ?_ (fun f s' ⟨v,e,q⟩=>⟨v,e,Ze q⟩) fun e s' ⟨x,e1,⟨o,g,c⟩,q⟩=>?_) (F.args_dict_keyiterator_next_1 _))))
 ·refine Zq (Ze (Zq (Zq (Zq (Xu ty (Ze (Zq (wpAny_fieldsOf hI rfl ?_))))))))
  have own:Builtin.Dict_items.ownsTuple "dict_keyiterator" = false:=rfl
  simp only [own,YA,↓reduceIte]
  refine (show wpAny _ _ (if (Value.ref d == Value.none)=true then _ else _) _ _ s from ?_)
  rw [Zo (fun e:(Value.ref d == Value.none)=true=>Zg e)]
  refine Zq (Ze (Zq (wpAny_dictEntries hm rfl ?_)))
  rw [Zo (by simp)]
  refine Zq (Ze (Zq (wpAny_dictEpoch hm rfl ?_)))
  rw [Zo (by simp)]
  refine Ze ?_
  simp only [show ¬ ((i:Int) < 0) from by lia,↓reduceIte,Xo]
  cases he:es[i]? with
  | some e =>
   dsimp only
   have g1:(s.heap.update I (Obj.mapFields (·.setIfInBounds 1 (rawInt ((i:Int)+1))))).get? I=some (kO d (i+1) es.size ep):=Heap.get?_update_self _ hI rfl
   refine Zq (Zq (Xu ty (Ze (Zq (wpAny_isOneOf_keyiter ty ?_)))))
   refine (show wpAny _ _ (setField (.ref I) 1 (rawInt ((i:Int)+1)) >>= _) _ _ s from Zq (wpAny_setField hI rfl (by show 1 < 4;decide) (Zq (YI ?_))))
   refine Zq (wpAny_isOneOf_keyiter (s:={ s with heap:=s.heap.update I (Obj.mapFields (·.setIfInBounds 1 (rawInt ((i:Int)+1)))) }) ⟨_,g1,rfl⟩ ?_)
   refine (show wpAny _ _ (pure e.key) _ _ _ from Ze (Ze ⟨_,rfl,h1 e he _ (Heap.SameBut.update ..) g1⟩))
  | none =>
   dsimp only
   refine Zq (Zq (Xu ty (Ze ?_)))
   refine (show wpAny _ _ (setField (.ref I) 0 .none >>= _) _ _ s from Zq (wpAny_setField hI rfl (by show 0 < 4;decide) (DU hh fun h' x kp hx=>⟨x,rfl,hx,h2 he h' fun b o hb e=>kp b o ?_⟩)))
   rw [XT _ _ (Yh hb)]
   exact e
 ·subst e1
  exact Zq (wpAny_isInstance (T := "StopIteration") (b:=true) ⟨o,g,c⟩ isSubtype_stop (Ze q))
end ST
end
section
namespace VS
open PySem PySem.Spec PyProof.Rows L2 TS
section
variable {G:Gx} {X:Cx} {a b c e tg:Expr} {es:List Expr} {ca cb cc ce ck:Ex} {cs:Exs} {pos p p1 p2 apos cpos pos':Pos} {k k' kr:Nat}
noncomputable def AQ:T->Bool
 | .tup l=>l.all hU
 | _=>false
@[simp] noncomputable def Em (x y:Val):Wr:=match y.2 with
 | .dct 1 l=>if AQ x.2 then some (.fr,.bl (eU l x.2).isSome) else none
 | .lst l=>if AQ x.2 && l.all AQ then some (.fr,.bl (l.any fun z=>eqT z x.2)) else none
 | _=>none
@[simp] noncomputable def D4 (x y:Val):Wr:=match Em x y with
 | some (_,.bl b)=>some (.fr,.bl (!b))
 | _=>none
end
end VS
namespace VS
open PySem PySem.Spec PyProof.Rows L2
theorem DZ {G:Gx} {X:Cx} {i:Int} {j:Nat} {pos p:Pos}:PV G X (.UnaryOp .USub (.Constant (.int i) j p) pos) (Q2 (-i)) :=
 PE.weak (CW B6 ou) fun σ H Q hq=>by
  obtain ⟨Φ,η,m,t,s,e,k⟩:=hq
  cases (show some (Md.fr,T.int (-i))=some (m,t) from e)
  exact ⟨i,rfl,k _ H [] (aG.refl _) (.int _) Fp.nil⟩
end VS
end
section
namespace VS
open PySem PySem.Spec PyProof.Rows L2
section
variable {G:Gx} {X:Cx} {a b c e o tg:Expr} {es:List Expr} {ca cb cc ce ck cv:Ex} {cs:Exs} {pos p p1 p2 apos cpos pos' ap1 cp1 lp:Pos} {k k' kr i:Nat}
theorem Rp.tup_inv' {H:Hp} {v:V} {ts:Wq} {F:Wz} (r:Rp G H v (.tup ts) F):∃ b vs Fs,v=.ref b/\H b=some (.tup vs)/\RpL G H vs ts Fs:=by
 cases r with
 | tup h q=>exact ⟨_,_,_,rfl,h,q⟩
end
end VS
end
section
namespace L2
open PySem PySem.Spec PyProof.Rows
section
variable {X:Cx} {tg:Expr} {pos:Pos}
theorem vm {o:Obj} {es:Array DictEntry} {ep:Nat} (h:o.ExactDict) (e:o.data=.dict es ep):o=ST.dO es ep:=by
 obtain ⟨c,d,dt,sl⟩:=o
 obtain ⟨h1,h2,h3⟩:=h
 simp only at h1 h2 h3 e
 subst h1 h2 h3 e
 rfl
end
end L2
end
section
namespace VS
open PySem PySem.Spec PyProof.Rows L2
section
variable {G:Gx} {X:Cx} {e b:Expr} {cs:Exs} {cb:Ex} {pos p p1 p2 kp apos cpos:Pos} {k k' kr:Nat} {x:Str} {ps:List Str} {g:Fn}
theorem iC {a b c:Expr} {ca cb cc:Ex} (ha:PV G X a ca) (hb:PV G X b cb) (hc:PV G X c cc) (hm:lastMarks [.LtE,.Lt] [b,c]=false):PVT G X (.Compare a [.LtE,.Lt] [b,c] pos) (d9 oLe oLt ca cb cc) :=
 PT.weak (pI Cm mI ha hb hc hm) fun σ H Q h=>l5 h (fun η m r e=>by
  unfold d9 at e
  obtain ⟨x,ea,e⟩:=Zz.mp e
  obtain ⟨y,eb,e⟩:=Zz.mp e
  obtain ⟨⟨mz,z⟩,ez,e⟩:=Zz.mp e
  cases z with
  | bl q =>
   cases q with
   | false=>cases e;exact ⟨_,rfl⟩
   | true =>
    obtain ⟨z2,ec,e⟩:=Zz.mp (show (cc η).bind (fun z=>oLt y z)=some (m,r) from e)
    exact iL y z2 m r e
  | _=>cases e) fun Q h=>p5 CH qL h
theorem vr {ce:Ex} (h:PV G X e ce) (hsw:swapsWith e none pos.line X.env=pure false):PSV G X (.Expr e pos) (sX (xP ce)) :=
 PS.weak (ka h hsw) fun D σ H hq=>by
  obtain ⟨Φ,η,out,s,e,k⟩:=hq
  unfold sX xP at e
  obtain ⟨⟨v,η'⟩,e1,e2⟩:=Zy.mp e
  obtain ⟨⟨m,t⟩,e3,e4⟩:=Zy.mp e1
  cases e4
  cases e2
  exact ⟨Φ,η,m,t,s,e3,fun v H' F e1 r1 f1=>k Φ σ H' (s.same e1) (Frm.same e1)⟩
@[simp] noncomputable def EE (i:Nat) (c:Ex) (as:Exs) (η:VS.Env):Option (Val×VS.Env):=match η[i]? with
 | some (some (.ow (.lst l)))=>(c η).bind fun kv=>(int? kv.2).bind fun n=>(ixP l.length n).bind fun j=>(l[j]?).bind fun x=>(as η).bind fun xs=>(aA x xs).map fun z=>(z.2,η.set i (some (.ow (.lst (l.set j z.1)))))
 | _=>none
end
section
variable {G:Gx} {X:Cx} {a b e:Expr} {ca ck ce:Ex} {pos pos' p1:Pos} {kr:Nat}
theorem Bd {j pos'} (ha:PV G X a ca):PVT G X (.Compare a [.Is] [.Constant .none j pos'] pos) (zv ca) :=
 PT.weak (xn (BG ha)) fun σ H Q h=>AB h (fun η m r e=>by
  unfold zv at e
  obtain ⟨x,_,e⟩:=Zz.mp e
  cases e
  exact ⟨_,rfl⟩) fun Q hq=>by
   obtain ⟨Φ,η,m,r,s,e,q⟩:=hq
   unfold zv at e
   obtain ⟨⟨n,x⟩,ea,e⟩:=Zz.mp e
   cases e
   refine ⟨Φ,η,n,x,s,ea,fun v H' F e1 r1 f1=>?_⟩
   show Q (.bl (decide (v=.non))) H'
   rw [sD r1]
   exact q _ H' _ e1 (.bl _) Fp.nil
theorem jK {j pos'} (ha:PV G X a ca):PVT G X (.Compare a [.IsNot] [.Constant .none j pos'] pos) (dM ca) :=
 PT.weak (xn (zO ha)) fun σ H Q h=>AB h (fun η m r e=>by
  unfold dM at e
  obtain ⟨x,_,e⟩:=Zz.mp e
  cases e
  exact ⟨_,rfl⟩) fun Q hq=>by
   obtain ⟨Φ,η,m,r,s,e,q⟩:=hq
   unfold dM at e
   obtain ⟨⟨n,x⟩,ea,e⟩:=Zz.mp e
   cases e
   refine ⟨Φ,η,n,x,s,ea,fun v H' F e1 r1 f1=>?_⟩
   show Q (.bl (!decide (v=.non))) H'
   rw [sD r1]
   exact q _ H' _ e1 (.bl _) Fp.nil
noncomputable def qO (i:Nat) (k e:Ex) (η:VS.Env):Option Out:=(e η).bind fun v=>match η[i]? with
 | some (some (.ow (.dct 0 l)))=>(k η).bind fun kv=>if hU kv.2/\imm v.2/\l.length < fg then some (.nx (η.set i (some (.ow (.dct 0 (dput l kv.2 v.2)))))) else none
 | _=>none
theorem BA (i:Nat) {x:Str} (hr:Room kr X.A) (hk:PV G X b ck) (he:PV G X e ce) (hN:X.N[i]?=some x) (hv:Vis X.env.scope x) (hd:(x == ("__debug__" : Str))=false) (hcd:(x == ("__classdict__" : Str))=false)
  (ha:∀ v,assign (.Subscript (.Name x p1) b pos') X.env v=(do
   let ov ← holding [v] (eval (.Name x p1) X.env)
   let iv ← holding [v,ov] (eval b X.env)
   standAt pos'
   holding [v,ov,iv] (setItem ov iv v)
   release [v,ov,iv] [])) (hs:swapsWithSole [.Subscript (.Name x p1) b pos'] e pos.line X.env=pure false) (hw:swappedStores [.Subscript (.Name x p1) b pos'] e X.env=pure none)
  (h1:(assignEach [.Subscript (.Name x p1) b pos'] X.env).map (·.2)=[assign (.Subscript (.Name x p1) b pos') X.env]):PSV G X (.Assign [.Subscript (.Name x p1) b pos'] e pos) (qO i ck ce) :=
 PS.weak (si he (rh (fq hN hv hd hcd) hk (wO (kh hr)) ha) hs hw h1) fun D σ H hq=>by
  obtain ⟨Φ,η,out,s,e,k⟩:=hq
  unfold qO at e
  obtain ⟨⟨mv,tv⟩,ev,e⟩:=Zz.mp e
  split at e
  ·rename_i l ht
   obtain ⟨⟨mk,tk⟩,ekk,e⟩:=Zz.mp e
   split at e
   ·rename_i hc
    obtain ⟨c1,c2,c3⟩:=hc
    cases e
    obtain ⟨w,g1,w2⟩:=s.rp _ _ ht
    have w3:=s.nd i _ ht
    refine ⟨Φ,η,mv,tv,s,ev,fun xv H1 Fv sm1 rv fv=>⟨w,g1,Φ,η,mk,tk,s.same sm1,ekk,fun kv H3 Fk sm3 rk fk=>?_⟩⟩
    have sm:aG H H3:=sm1.trans sm3
    have rv3:Rp G H3 xv tv Fv:=rv.same sm3
    have eF:=rv3.imm c2
    subst eF
    obtain ⟨a,ns,vs,ts,Fs,rfl,eF1,ha',hl,rfl,ra⟩:=eR w2
    rw [eF1] at w3
    obtain ⟨kk,rfl,ekk'⟩:=dA rk c1
    subst ekk'
    have ha3:H3 a=some (.dK (ns.zip vs)):=sm a _ ha'
    have m3:Mut (H3 a):=by rw [ha3];exact True.intro
    have nd:=Zd.mp w3
    obtain ⟨ks',vs',ts',Fs',q1,q2,q3,q4,q5⟩:=oS (kk:=kk) rv3 hl (ra.same sm)
    have ln:(ns.zip vs).length < sizeLine:=by
     have:((ns.map aO).zip ts).length < 16777216:=c3
     rw [Yv,Zw] at this
     rw [Yv]
     have:=ra.len.1
     have:(sizeLine:Nat)=16777216:=rfl
     lia
    refine .inr ⟨a,_,rfl,q8.k ha3 ln,?_⟩
    have g:Chg G H (.ref a) (Φ i) (.dct 0 (dput ((ns.map aO).zip ts) (aO kk) tv)) (upd H3 a (.dK (putK (ns.zip vs) kk xv))) (a :: Fs'.flatten):=by
     rw [eF1,q1,q3]
     refine Chg.upd sm Zt m3 (.dct ax q2 (q4.off m3 fun z=>nd.1 (q5.subset z))) ?_ ?_
     ·exact Zd.mpr ⟨fun z=>nd.1 (q5.subset z),nd.2.sublist q5⟩
     ·intro bb hb
      rcases Zj.mp hb with rfl | hb
      ·exact .inl Zt
      ·exact .inl (Zu _ (q5.subset hb))
    obtain ⟨z1,z2⟩:=s.mut ht g1 g
    exact k _ σ _ z1 z2
   ·cases e
  ·cases e
end
end VS
end
section
namespace DP
open PySem PySem.Spec PyProof.Rows
variable {prog:Program} {w:World} {A:Around} {E:Z4}
theorem zw:typeLookup (.type "tuple") "keys" = pure none:=by rw [typeLookup_type,builtinLookup_eq_fast];kernel_rfl
theorem yk {h:Heap} {g:Array GenState} {d:Drawn} {tk:Nat} {os} {a:Addr} {xs:Array Value} {k:Nat} {sl:Array (Wx)} {u:Tok} {Q:Z4} (hx:h.get? a=some { cls:=.type "tuple",dict:=none,data:=.seq xs k,slots:=sl }) (hA:A.handled=none)
  (hE:∀ h' tk' e,Heap.NewExcOf h h' e "AttributeError" → E (.ref e) ⟨h',g,d,tk',os⟩):wpAny (model prog w) A (getAttrBy (.ref a) (.str "keys" u) false) Q E ⟨h,g,d,tk,os⟩:=by
 have hT:∀ tk',(⟨h,g,d,tk',os⟩:Shared).TypeIs (.ref a) "tuple" := fun _=>⟨_,hx,rfl⟩
 have f1:=sub_AttributeError
 have f3:=Xd.lookup
 have f4:=Xd.bind (.ref a)
 have f5:=am_tuple_getattr_none
 unfold getAttrBy
 repeat (any_goals (first | assumption | exact hT _ | ((with_reducible show wpAny _ _ (call (Value.builtin "tuple.__getattribute__") _ _) _ _ _);refine call_meets Xd (hT _) am_entry_tuple_getattribute (F.args_tuple_getattribute_2 _ _) (meets_getattribute_miss_tuple a xs k sl "keys" _ zw (by decide +kernel)) ⟨hx,hA,fun h' tk' e hx'=>?_⟩) | wp_step))
 obtain ⟨t',u',he⟩:=hx'.there
 show wpAny _ _ (getattributeRaised _ _ _ _ _ _ _) _ _ _
 unfold getattributeRaised
 repeat (any_goals (first | assumption | wp_step))
 exact hE _ _ _ hx'.of
end DP
end
section
namespace DP
open PySem PySem.Spec PyProof.Rows L2
variable {prog:Program} {w:World} {A:Around} {E:Z4}
theorem uF {h:Heap} {g:Array GenState} {d:Drawn} {tk:Nat} {os} {a:Addr} {xs:Array Value} {k:Nat} {sl:Array (Wx)} {Q:Wx->Shared->Prop} (hx:h.get? a=some { cls:=.type "tuple",dict:=none,data:=.seq xs k,slots:=sl }) (hA:A.handled=none)
  (hQ:∀ h' tk' e,Heap.NewExcOf h h' e "AttributeError" → Q none ⟨h',g,d,tk',os⟩):wpAny (model prog w) A (getAttr? (.ref a) "keys") Q E ⟨h,g,d,tk,os⟩:=by
 have f1:=sub_AttributeError
 unfold getAttr? getAttrBy?
 repeat (any_goals (first | assumption | (with_reducible refine yk hx (by assumption) fun h' tk' e hx'=>?_) | wp_step))
 obtain ⟨⟨oc,od,odt,osl⟩,vs,ge,ce,_,_⟩:=hx'.there
 dsimp only at ce
 subst ce
 repeat (any_goals (first | assumption | wp_step))
 exact hQ _ _ _ hx'
theorem mE:entryFor table "dict.update.loop" = some Builtin.«dict.update.loop» := entryFor_of_tree (by kernel_rfl)
theorem gY:plainId "dict.update.loop" = true:=by decide +kernel
section
variable {R:Result->Shared->Prop} {I:Addr} {fp wr:Wz} {G:Array GenState->Array GenState->Prop} {n:Nat} {P:Nat->Value->Prop} {St:Nat->Shared->Prop}
theorem loop (W:WalksS prog w A.in1 I fp wr G n P St) (d:Addr) (hdf:d ∉ fp) (h0:Heap) (kv:Nat->Key×Value)
  (hP:∀ i v,P i v->∃ p m sl kx,v=.ref p/\h0.get? p=some { cls:=.type "tuple",dict:=none,data:=.seq #[kx,(kv i).2] m,slots:=sl }/\(aJ prog w).is (kv i).1 kx=true/\p ∉ d :: wr) (hb:n<=sizeLine) :
  ∀ (k i:Nat) (s:Shared),n - i=k->i<=n->St i s->(∀ b o,b ∉ d :: wr->h0.get? b=some o->s.heap.get? b=some o)->s.heap.DictOf (aJ prog w) d (merged [] ((List.range i).map kv)) →
   (∀ s',Moved (d :: wr) G s s'->s'.heap.DictOf (aJ prog w) d (merged [] ((List.range n).map kv))->R (.ok (.ret .none)) s') →
   codeAny (model prog w) A (.builtin "dict.update.loop" ⟨[.ref d,.ref I,rawInt i,.none],[]⟩) R s:=by
 have hSw:d ∉ wr:=fun h=>hdf (W.sub _ h)
 have hsub:∀ b∈wr,b∈d :: wr:=fun b hb=>Zu _ hb
 intro k
 induction k with
 | zero =>
  intro i s hk hi hst hh hS hR
  have hin:i=n:=by lia
  subst hin
  refine codeAny_builtin mE ?_
  rw [X1 gY _]
  show wpAny _ A.in1 (pyNext (.ref I) >>= _) _ _ s
  refine Zq (W.done s _ _ hst fun s' hm=>?_)
  show wpAny _ A.in1 (Builtin.Dict.addKeywords d [] >>= fun _=>ret Value.none) _ _ s'
  refine Zq (Ze ?_)
  exact Ze (hR s' (hm.mono hsub) (by
   obtain ⟨o,es,ep,ho,rest⟩:=hS
   exact ⟨o,es,ep,hm.heap d _ hSw ho,rest⟩))
 | succ k ih =>
  intro i s hk hi hst hh hS hR
  have hlt:i < n:=by omega
  refine codeAny_builtin mE ?_
  rw [X1 gY _]
  show wpAny _ A.in1 (pyNext (.ref I) >>= _) _ _ s
  refine Zq (W.item i s _ _ hlt hst fun v s' hPv hst' hm=>?_)
  obtain ⟨p,m,sl,kx,rfl,hp,hkx,hpn⟩:=hP i v hPv
  have hp':s'.heap.get? p=some { cls:=.type "tuple",dict:=none,data:=.seq #[kx,(kv i).2] m,slots:=sl }:=hm.heap p _ (fun z=>hpn (hsub p z)) (hh p _ hpn hp)
  have hS':s'.heap.DictOf (aJ prog w) d (merged [] ((List.range i).map kv)):=by
   obtain ⟨o,es,ep,ho,rest⟩:=hS
   exact ⟨o,es,ep,hm.heap d _ hSw ho,rest⟩
  show wpAny _ A.in1 (holding [Value.ref p] _ >>= _) _ _ s'
  refine Zq (YI ?_)
  have ty:s'.TypeIs (.ref p) "tuple" := ⟨_,hp',rfl⟩
  refine Zq (thn (Q:=fun r s2=>r=[kx,(kv i).2]/\s2=s') ?pair fun r s2 hr=>?rest)
  case pair =>
   refine wpAny_tryCatch ?_
   unfold Builtin.Dict.pairItems
   repeat (any_goals (first | assumption | wp_step))
   exact ⟨rfl,rfl⟩
  case rest =>
   obtain ⟨rfl,rfl⟩:=hr
   dsimp only
   refine YI ?_
   refine wpAny_dictSet_pairs hkx hS' (fun h' dd sb=>?_) (by have:=merged_length_le (K:=Key) [] ((List.range i).map kv);simp at this;lia)
   have e1:((i:Int)+1)=((i+1:Nat):Int):=by lia
   rw [e1]
   have dd':h'.DictOf (aJ prog w) d (merged [] ((List.range (i+1)).map kv)):=by
    rw [List.range_succ,ZA,show merged ([]:List (Key×Value)) ((List.range i).map kv++[i].map kv)=stored (merged [] ((List.range i).map kv)) (kv i).1 (kv i).2 by unfold merged;rw [List.foldl_append];rfl]
    exact dd
   refine Ze ⟨plainId_quiet gY _,ih (i+1) _ (by omega) hlt (W.frame _ s2 _ _ hst' (Xp _) fun b hb o e=>?_) (fun b o hb e=>?_) dd' fun s'' hm'' hS''=>?_⟩
   ·rw [sb.2 b (fun h:b=d=>hdf (by rw [← h];exact hb))];exact e
   ·rw [sb.2 b (fun h:b=d=>hb (by rw [h];exact Zt))]
    exact hm.heap b _ (fun z=>hb (hsub b z)) (hh b o hb e)
   ·refine hR s'' (Moved.trans W.gtrans ((hm.mono hsub).then_heap (Xp _) fun b o hb e=>?_) hm'') hS''
    rw [sb.2 b (fun h:b=d=>hb (by rw [h];exact Zt))];exact e
end
end DP
end
section
namespace DP
open PySem PySem.Spec PyProof.Rows L2
variable {prog:Program} {w:World} {A:Around} {E:Z4} {s:Shared}
theorem l6:mroOf (.type "dict")=pure [.type "dict",.type "object"]:=by rw [mroOf_type];kernel_rfl
theorem lE:typeLookup (.type "dict") "__new__" = pure (some (.builtin "dict.__new__")):=by rw [typeLookup_type,builtinLookup_eq_fast];kernel_rfl
theorem qB:TypeCalled "dict" "dict.__new__" "dict.__init__" :=
 ⟨by decide +kernel,by decide +kernel,⟨_,_,l6⟩,madeBy_type l6 lE (by decide +kernel),by decide +kernel,by rw [isSubtype_type];kernel_rfl,F.slot_dict_init⟩
theorem lJ (a:Value):checkTypeCall "dict" ⟨[a],[]⟩=pure ():=by kernel_rfl
theorem mY (a:Value):checkBuiltinCall "dict.__new__" ⟨[.type "dict",a],[]⟩=pure ():=by kernel_rfl
theorem m9:entryFor table "dict.__new__" = some Builtin.«dict.__new__» := entryFor_of_tree (by kernel_rfl)
theorem iM:plainId "dict.__new__" = true:=by decide +kernel
theorem nr:isSubtype (.type "dict") (.type "dict")=pure true:=by rw [isSubtype_type];kernel_rfl
theorem ni (a:Value) {Q₁:Z4} (h:Q₁ (.ref s.heap.objs.size) { s with heap:=s.heap.push { cls:=.type "dict",data:=.dict #[] } }) :
  codeAny (model prog w) A (.call (.builtin "dict.__new__") ⟨[.type "dict",a],[]⟩) (wants Q₁ E) s:=by
 refine codeAny_of_tree (Zq (m:=checkBuiltinCall "dict.__new__" ⟨[.type "dict",a],[]⟩) (wpAny_of_eq (mY a) (Ze ⟨plainId_quiet iM _,codeAny_builtin m9 ?_⟩)))
 rw [X1 iM]
 have own:=nr
 have mro:=l6
 cases s
 unfold Builtin.«dict.__new__»
 wp_walk
 exact h
theorem uh {a:Addr} {its:Array Value} {m0:Nat} {sl0:Array (Wx)} {kv:Nat->Key×Value} {Q:Z4} (hh:A.handled=none) (ht:s.heap.get? a=some { cls:=.type "tuple",dict:=none,data:=.seq its m0,slots:=sl0 }) (hz:its.size<=sizeLine)
  (hp:∀ (i:Nat) (v:Value),its[i]?=some v->∃ p m sl kx,v=.ref p/\s.heap.get? p=some { cls:=.type "tuple",dict:=none,data:=.seq #[kx,(kv i).2] m,slots:=sl }/\(aJ prog w).is (kv i).1 kx=true)
  (h:∀ (h':Heap) (tk:Nat),h'.DictOf (aJ prog w) s.heap.objs.size (merged [] ((List.range its.size).map kv))->(∀ b o,s.heap.get? b=some o->h'.get? b=some o)->Q (.ref s.heap.objs.size) { s with heap:=h',toks:=tk }) :
  wpAny (model prog w) A (call (.type "dict") [.ref a]) Q E s:=by
 refine callType_codes (Q₁:=fun obj s₁=>obj=.ref s.heap.objs.size/\s₁={ s with heap:=s.heap.push { cls:=.type "dict",data:=.dict #[] } }) qB (lJ _) F.entry_dict_init (ni _ ⟨rfl,rfl⟩) fun obj s₁ hq=>?_
 obtain ⟨rfl,rfl⟩:=hq
 have ty:Shared.TypeIs { s with heap:=s.heap.push { cls:=.type "dict",data:=.dict #[] } } (.ref s.heap.objs.size) "dict" := ⟨_,ZV _ rfl,rfl⟩
 refine ⟨ty,F.args_dict_init_2 _ _,?_⟩
 obtain ⟨hp0,g,d,tk,os⟩:=s
 have at1:=Zk { cls:=.type "dict",data:=.dict #[] } ht
 unfold Builtin.«dict.__init__» Builtin.Dict.updateCommon Builtin.Dict.updateFrom
 generalize eP:pyIter=itr
 generalize eG:getAttr?=ga
 repeat (any_goals (first | assumption | wp_step))
 subst eG
 dsimp only at *
 refine uF at1 (by simp [hh]) fun h1 tk1 e ne=>?_
 simp only [Option.isNone_none,if_true]
 refine Zq (wpAny_rule ?_)
 subst eP
 have at2:=ne.keeps _ _ at1
 have dat:=ne.keeps hp0.objs.size { cls:=.type "dict",data:=.dict #[] } (ZV _ rfl)
 have dlt:=ZR dat
 have lt0:∀ {b:Addr} {o:Obj},hp0.get? b=some o->b < hp0.objs.size:=fun e=>ZR e
 have kp1:∀ b o,hp0.get? b=some o->h1.get? b=some o:=fun b o e=>ne.keeps _ _ (Zk _ e)
 have tup:h1.IsTuple a its:=⟨_,at2,rfl,m0,rfl⟩
 refine Zq (wpAny_pyIter_tuple tup (Ze ⟨plainId_quiet gY _,?_⟩))
 have alt:=lt0 ht
 have D0:(h1.push { cls:=.type "tuple_iterator",data:=.fields #[.ref a,.int 0 0] }).DictOf (aJ prog w) hp0.objs.size (merged [] ((List.range 0).map kv)):=by
  obtain ⟨o,es,ep,ho,rest⟩:=(Heap.DictOf.new (knd:=aJ prog w) hp0)
  exact ⟨o,es,ep,Zk _ (ne.keeps _ _ ho),rest⟩
 refine loop (A:=A.in1) ((Walks.tuple (by simp [hh]) h1.objs.size a (ZY (XF alt dlt)) its).toS) hp0.objs.size (by simp only [Zj,X5,or_false,not_or];exact ⟨ZY dlt,Nat.ne_of_gt alt⟩) hp0 kv (fun i v hv=>?_) hz its.size 0 _ (by lia) (Yp _) ?_ (fun b o hb e=>Zk _ (kp1 b o e)) D0 fun s' mv dd=>?_
 ·obtain ⟨p,m,sl,kx,rfl,g1,g2⟩:=hp i v hv
  have:=lt0 g1
  exact ⟨p,m,sl,kx,rfl,g1,g2,by simp only [Zj,X5,or_false,not_or];exact ⟨ZY this,ZY (XF this dlt)⟩⟩
 ·exact ⟨⟨_,ZV _ rfl,rfl,rfl⟩,tup.push _⟩
 ·obtain ⟨h',g',d',tk',os'⟩:=s'
  have e1:g'=g:=mv.gens
  have e2:d'=d:=mv.drawn
  have e3:os'=os:=mv.os
  subst e1 e2 e3
  refine ⟨rfl,h h' tk' dd fun b o e=>mv.heap b o (fun hin=>?_) (Zk _ (kp1 b o e))⟩
  have:=lt0 e
  simp only [Zj,X5,or_false] at hin
  rcases hin with q | q
  ·exact ZY this q
  ·exact ZY (XF this dlt) q
end DP
end
section
namespace L2
open PySem PySem.Spec PyProof.Rows
section
variable {X:Cx}
noncomputable abbrev DPr:=Addr×Key×V
theorem yK {pins:Y7} {σ:St} {H:Hp} {s:Shared} (I:Inv X pins σ H s) {q:DPr} (h:H q.1=some (.tup [kV q.2.1,q.2.2])):∃ vx m sl kx,RelV q.2.2 vx/\s.heap.get? q.1=some { cls:=.type "tuple",dict:=none,data:=.seq #[kx,vx] m,slots:=sl }/\(aJ X.prog X.w).is q.2.1 kx=true:=by
 obtain ⟨_,its,rv,nd,⟨oc,od,odt,osl⟩,g,gc,n,gd⟩:=(show bN X.prog X.w H s.heap q.1 (.tup [kV q.2.1,q.2.2]) from I.hok _ _ h)
 have hd:=nd _ g
 dsimp only at gc gd hd
 subst gc gd hd
 obtain ⟨kx,vx,rfl,r1,r2⟩:=vals2 rv
 exact ⟨vx,n,osl,kx,r2,g,lu r1⟩
theorem qj {pins:Y7} {σ:St} {H:Hp} {s:Shared} (I:Inv X pins σ H s):∀ (ps:List DPr),(∀ q∈ps,H q.1=some (.tup [kV q.2.1,q.2.2])) →
  ∃ kvs:List (Key×Value),Paired (fun (q:DPr) (kv:Key×Value)=>q.2.1=kv.1/\RelV q.2.2 kv.2/\∃ m sl kx,s.heap.get? q.1=some { cls:=.type "tuple",dict:=none,data:=.seq #[kx,kv.2] m,slots:=sl }/\(aJ X.prog X.w).is kv.1 kx=true) ps kvs
 | [],_=>⟨[],.nil⟩
 | q :: ps,h=>by
  obtain ⟨vx,m,sl,kx,r,g,k⟩:=yK I (h q Zt)
  obtain ⟨kvs,p⟩:=qj I ps fun x hx=>h x (Zu _ hx)
  exact ⟨(q.2.1,vx) :: kvs,.cons ⟨rfl,r,m,sl,kx,g,k⟩ p⟩
theorem nA {R:DPr->Key×Value->Prop} (hR:∀ q kv,R q kv->q.2.1=kv.1/\RelV q.2.2 kv.2):∀ {ps:List DPr} {kvs:List (Key×Value)},Paired R ps kvs->∀ {a:List (Key×V)} {b:List (Key×Value)},KV a b->KV (ps.foldl (fun acc q=>putK acc q.2.1 q.2.2) a) (merged b kvs)
 | _,_,.nil,_,_,r=>r
 | _,_,.cons (a:=q) (b:=kv) h t,a,b,r=>by
  obtain ⟨e1,e2⟩:=hR _ _ h
  have:=nA hR t (r.put kv.1 e2)
  simp only [YZ,merged]
  rw [e1]
  exact this
theorem qo:∀ (ps:List DPr) (a:List (Key×V)),(ps.foldl (fun acc q=>putK acc q.2.1 q.2.2) a).length<=a.length+ps.length
 | [],a=>Zi _
 | q :: ps,a=>by
  have h1:=qo ps (putK a q.2.1 q.2.2)
  have h2:=gq a q.2.1 q.2.2
  simp only [YZ,Zl]
  lia
theorem Paired.at_ {α β:Type} {R:α->β->Prop}:∀ {l:List α} {m:List β},Paired R l m->∀ (i:Nat) {a:α},l[i]?=some a->∃ b,m[i]?=some b/\R a b
 | _,_,.nil,i,a,h=>by simp at h
 | _,_,.cons r t,0,a,h=>by simp at h;subst h;exact ⟨_,rfl,r⟩
 | _,_,.cons r t,i+1,a,h=>by simpa using Paired.at_ t i (by simpa using h)
theorem rZ (hc:X.calm=true):dD X (.type "dict") (fun xs H Q=>∃ (p:Addr) (ps:List DPr),xs=[.ref p]/\H p=some (.tup (ps.map fun q=>V.ref q.1))/\(∀ q∈ps,H q.1=some (.tup [kV q.2.1,q.2.2])) ∧
  ∀ l,H l=none->Q (.ref l) (upd H l (.dK (ps.foldl (fun acc q=>putK acc q.2.1 q.2.2) [])))):=by
 intro pins s σ H xs us Q I rx h
 obtain ⟨p,ps,rfl,hp,hq,q⟩:=h
 obtain ⟨u,rfl,ru⟩:=rx.one
 cases ru
 obtain ⟨hz,its,rv,nd,⟨oc,od,odt,osl⟩,g,gc,n,gd⟩:=(show bN X.prog X.w H s.heap p (.tup (ps.map fun q=>V.ref q.1)) from I.hok _ _ hp)
 have hd:=nd _ g
 dsimp only at gc gd hd
 subst gc gd hd
 obtain ⟨kvs,pr⟩:=qj I ps hq
 have l1:its.length=ps.length:=by have:=rv.length;simpa using this.symm
 have l2:kvs.length=ps.length:=pr.length.symm
 rw [Zw] at hz
 have hkv:(List.range its.toArray.size).map (fun i=>(kvs[i]?).getD (.inl 0,.none))=kvs:=by
  apply List.ext_getElem?
  intro i
  rw [ZS]
  by_cases hi:i < kvs.length
  ·rw [List.getElem?_range (by simp;lia),Zr hi]
   simp [hi]
  ·rw [Z0 (by simp;lia),Z0 (by exact ZL hi)]
   rfl
 refine DP.uh (kv:=fun i=>(kvs[i]?).getD (.inl 0,.none)) (I.ok.hd hc) g (by simp;lia) (fun i v hv=>?_) fun h' tk dd kp=>?_
 ·rw [List.getElem?_toArray] at hv
  have hi:i < ps.length:=by have:=(Zh.mp hv).1;lia
  obtain ⟨w,e1,e2⟩:=Paired.at_ rv i (a:=V.ref ps[i].1) (by rw [ZS,Zr hi];rfl)
  rw [hv] at e1
  cases e1
  obtain ⟨kv,e3,e4,_,m,sl,kx,g1,g2⟩:=Paired.at_ pr i (Zr hi)
  rw [e3]
  exact ⟨ps[i].1,m,sl,kx,e2,g1,g2⟩
 ·rw [hkv] at dd
  have rel:=nA (fun _ _ h=>⟨h.1,h.2.1⟩) pr (.nil:KV [] [])
  have ln:=qo ps []
  exact ⟨.ref s.heap.objs.size,_,I.laid (t':=tk) kp (Zi _) (om (by simp at ln;exact ZI ln hz) (ZM.mpr (Yh (ZY I.big))) rel dd),rfl,q _ (I.hok.fresh (Zi _))⟩
end
end L2
end
section
namespace VS
open PySem PySem.Spec PyProof.Rows L2
noncomputable def oF:Wq->Option (List (T×T))
 | []=>some []
 | .tup [k,v] :: r=>if hU k/\imm v then (oF r).map ((k,v) :: ·) else none
 | _=>none
noncomputable def kU:Ws->Wr
 | [(_,.tup l)]=>(oF l).map fun ps=>(.fr,.dct 0 (ps.foldl (fun d q=>dput d q.1 q.2) []))
 | _=>none
section
variable {G:Gx} {X:Cx} {e:Expr} {cs:Exs} {p pos:Pos}
theorem zu {t:T} {l:Wq} {ps:List (T×T)} (h:oF (t :: l)=some ps):∃ k v qs,t=.tup [k,v]/\hU k=true/\imm v=true/\oF l=some qs/\ps=(k,v) :: qs:=by
 unfold oF at h
 split at h
 ·rename_i hh
  cases hh
 ·rename_i k v r hh
  cases hh
  split at h
  ·rename_i c
   obtain ⟨qs,e1,e2⟩:=Zy.mp h
   exact ⟨k,v,qs,rfl,c.1,c.2,e1,e2.symm⟩
  ·cases h
 ·cases h
theorem qU {H:Hp}:∀ {ts:Wq} {ws:List V} {Gs:Xk} {qs:List (T×T)},RpL G H ws ts Gs->oF ts=some qs →
  ∃ ps:List DPr,ws=ps.map (fun q=>V.ref q.1)/\(∀ q∈ps,H q.1=some (.tup [kV q.2.1,q.2.2]))/\Paired (fun (q:DPr) (x:T×T)=>x.1=aO q.2.1/\Rp G H q.2.2 x.2 []) ps qs
 | [],_,_,qs,r,h=>by
  cases r
  cases (show some ([]:List (T×T))=some qs from h)
  exact ⟨[],rfl,fun q hq=>by simp at hq,.nil⟩
 | t :: ts,_,_,qs,r,h=>by
  obtain ⟨k,v,qs',rfl,hk,hv,h2,rfl⟩:=zu h
  cases r with
  | cons r1 r2 =>
   obtain ⟨ps,e1,e2,e3⟩:=qU r2 h2
   obtain ⟨b,vs,Fs,rfl,hb,q⟩:=Rp.tup_inv' r1
   cases q with
   | cons rk q =>
    cases q with
    | cons rv q =>
     cases q
     obtain ⟨kk,rfl,ek⟩:=dA rk hk
     have ei:=rv.imm hv
     subst ei
     refine ⟨(b,kk,_) :: ps,by rw [e1];rfl,fun x hx=>?_,.cons ⟨ek,rv⟩ e3⟩
     rcases Zj.mp hx with rfl | hx
     ·exact hb
     ·exact e2 x hx
theorem qN {H:Hp}:∀ {ps:List DPr} {qs:List (T×T)},Paired (fun (q:DPr) (x:T×T)=>x.1=aO q.2.1/\Rp G H q.2.2 x.2 []) ps qs->∀ {ns:List Key} {vs:List V} {ts:Wq} {Fs:Xk},ns.length=vs.length->RpL G H vs ts Fs->Fs.flatten=[] →
  ∃ (ns':List Key) (vs':List V) (ts':Wq) (Fs':Xk),ps.foldl (fun acc q=>putK acc q.2.1 q.2.2) (ns.zip vs)=ns'.zip vs'/\qs.foldl (fun d q=>dput d q.1 q.2) ((ns.map aO).zip ts)=(ns'.map aO).zip ts'/\ns'.length=vs'.length/\RpL G H vs' ts' Fs'/\Fs'.flatten=[]
 | _,_,.nil,ns,vs,ts,Fs,hl,r,hF=>⟨ns,vs,ts,Fs,rfl,rfl,hl,r,hF⟩
 | _,_,.cons (a:=q) (b:=x) h t,ns,vs,ts,Fs,hl,r,hF=>by
  obtain ⟨ks',vs',ts',Fs',q1,q2,q3,q4,q5⟩:=oS (kk:=q.2.1) h.2 hl r
  rw [hF] at q5
  have hF':Fs'.flatten=[]:=List.sublist_nil.mp q5
  obtain ⟨n2,v2,t2,F2,a1,a2,a3,a4,a5⟩:=qN t q2 q4 hF'
  refine ⟨n2,v2,t2,F2,?_,?_,a3,a4,a5⟩
  ·rw [YZ,q1];exact a1
  ·rw [YZ,h.1,q3];exact a2
theorem v8:fj G (fun xs H Q=>∃ (p:Addr) (ps:List DPr),xs=[.ref p]/\H p=some (.tup (ps.map fun q=>V.ref q.1))/\(∀ q∈ps,H q.1=some (.tup [kV q.2.1,q.2.2])) ∧
  ∀ l,H l=none->Q (.ref l) (upd H l (.dK (ps.foldl (fun acc q=>putK acc q.2.1 q.2.2) [])))) kU:=by
 intro Φ η H0 H l vs Fs m t Q A e k
 unfold kU at e
 split at e
 ·rename_i mx ts
  obtain ⟨qs,e1,e2⟩:=Zy.mp e
  cases e2
  obtain ⟨v,F,rfl,rfl,r⟩:=(show RpL G H vs [.tup ts] Fs from A.rp).one
  obtain ⟨b,ws,Gs,rfl,hb,q⟩:=Rp.tup_inv' r
  obtain ⟨ps,rfl,hps,pr⟩:=qU q e1
  refine ⟨b,ps,rfl,hb,hps,fun l hl=>?_⟩
  obtain ⟨ns,us,ts',Fs',a1,a2,a3,a4,a5⟩:=qN pr (ns:=[]) (vs:=[]) (ts:=[]) (Fs:=[]) rfl .nil rfl
  have a1':ps.foldl (fun acc q=>putK acc q.2.1 q.2.2) []=ns.zip us:=a1
  have a2':qs.foldl (fun d q=>dput d q.1 q.2) []=(ns.map aO).zip ts':=a2
  rw [a1']
  have sm:aG H (upd H l (.dK (ns.zip us))):=cS hl
  refine k _ _ (l :: Fs'.flatten) sm (by rw [a2'];exact .dct ax a3 (a4.same sm)) ?_
  rw [a5]
  exact Fp.new (A.same.free hl) (by simp) Fp.nil
 ·cases e
theorem sr:bootBuiltins ("dict" : Str)=some (.type "dict"):=by decide +kernel
theorem yq (hm:X.mg "dict" = none) (ha:PVs G X [e] cs) (hg:Gl X "dict" := by rfl) (hc:X.calm=true:=by rfl) (he:starEach [e] X.env=(false,eval e X.env) :: starEach [] X.env:=by rfl):PV G X (.Call (.Name "dict" p) [e] [] pos) (eN kU cs) :=
 iY (rZ hc) v8 hg hm sr ha (he:=he) (hpl:=rfl)
@[simp] noncomputable def EL:Ws->Wr
 | [(_,.int i)]=>some (.fr,.int i)
 | [(_,.bl b)]=>some (.fr,.int (if b then 1 else 0))
 | _=>none
end
end VS
end
section
namespace L2
open PySem PySem.Spec PyProof.Rows
section
variable {X:Cx} {pins:Y7} {σ:St} {H:Hp} {s:Shared}
theorem oz {d:Addr} {kvs:List (Key×V)} {o:Obj} (I:Inv X pins σ H s) (e:H d=some (.dK kvs)) (g:s.heap.get? d=some o):Inv X pins σ (upd H d (.frz o (.dK kvs))) s :=
 lO (t':=s.toks) I (by rw [e];exact True.intro) ⟨rfl,fun _ _=>rfl⟩ ⟨o,g⟩ ⟨g,I.hok d _ e⟩
end
noncomputable def Itk (d:Addr) (o:Obj) (kvs:List (Key×V)):It :=
 ⟨fun i H=>H d=some (.frz o (.dK kvs))/\i < kvs.length,fun i H x H'=>H'=H/\∃ p,kvs[i]?=some p/\x=kV p.1,fun i H=>H d=some (.frz o (.dK kvs))/\kvs.length<=i⟩
theorem zL {k:Key} {v:Value} (h:ly k v=true):RelV (kV k) v:=by
 rcases bJ h with ⟨i,t,rfl,rfl⟩ | ⟨x,t,rfl,rfl⟩
 ·exact ⟨t,rfl⟩
 ·exact ⟨t,rfl⟩
theorem nW {P:Program} {w:World} {es:List DictEntry} {m:List (Key×Value)} (r:Pairs (aJ P w) es m) {i:Nat} {e:DictEntry} (h:es[i]?=some e):∃ q,m[i]?=some q/\ly q.1 e.key=true:=by
 induction r generalizing i with
 | nil=>simp at h
 | @cons e' kv es kvs h1 h2 _ ih =>
  cases i with
  | zero =>
   simp at h
   subst h
   exact ⟨kv,rfl,h1⟩
  | succ i=>simpa using ih (by simpa using h)
theorem BC {l:List (Key×V)} {m:List (Key×Value)} (r:KV l m) {i:Nat} {q:Key×Value} (h:m[i]?=some q):∃ p,l[i]?=some p/\p.1=q.1:=by
 induction r generalizing i with
 | nil=>simp at h
 | @cons p' q' ps qs hq t ih =>
  cases i with
  | zero=>simp at h;subst h;exact ⟨p',rfl,hq.1⟩
  | succ i=>simpa using ih (by simpa using h)
section
variable {X:Cx} {tg:Expr} {pos:Pos}
theorem B7 {P:Program} {w:World} {K:X8} (d it:Addr) {kvs:List (Key×V)} {es:Array DictEntry} {ep:Nat} {xs:List (Key×Value)} (rel:KV kvs xs) (he:Pairs (aJ P w) es.toList xs) :
  Turn P w K tg (Itk d (ST.dO es ep) kvs) [it] it (fun i h=>h.get? it=some (ST.kO d i es.size ep)) where
 mem:=by simp
 obj:=fun i h st b hb=>by
  rw [Za.mp hb]
  exact ⟨_,st,fun v z=>by cases z⟩
 keep:=fun i h h' st k=>k it (by simp) _ st
 item:=by
  intro X hP hw hK hc i pins s σ H E I hf st hg
  subst hP hw hK
  obtain ⟨f0,f1,f2,f3,f4,f5⟩:=hf it (by simp)
  refine ST.qG (I.ok.hd hc) st (show s.heap.get? d=some (ST.dO es ep) from (I.hok d _ hg.1).1) (fun e hi h' sb g=>?_) fun hn=>?_
  ·have I1:Inv X pins σ H { s with heap:=h' }:=I.turned (t':=s.toks) (fun b o hb e=>(sb.2 b hb).trans e) f0 f1 f3 f4 f5
   rw [← Yn] at hi
   obtain ⟨q,hq,hk⟩:=nW he hi
   obtain ⟨p,hp,hb⟩:=BC rel hq
   exact ⟨_,rfl,qk (s:={ s with heap:=h' }) g rfl rfl rfl ⟨kV p.1,H,I1,by rw [hb];exact zL hk,⟨rfl,p,hp,rfl⟩,g,fun b hb=>(hf b hb).1⟩⟩
  ·exfalso
   rw [← Yn,Yt,he.length,← Y0 rel] at hn
   exact absurd hg.2 (by lia)
 done:=by
  intro X hP hw hK hc i pins s σ H E I hf st hg
  subst hP hw hK
  obtain ⟨f0,f1,f2,f3,f4,f5⟩:=hf it (by simp)
  refine ST.qG (I.ok.hd hc) st (show s.heap.get? d=some (ST.dO es ep) from (I.hok d _ hg.1).1) (fun e hi h' sb g=>?_) fun hn h' kp=>⟨rfl,I.turned (t':=s.toks) (fun b o hb e=>kp b o hb e) f0 f1 f3 f4 f5⟩
  exfalso
  rw [← Yn] at hi
  obtain ⟨q,hq,hk⟩:=nW he hi
  have:=(Zh.mp hq).1
  have h2:=hg.2
  rw [Y0 rel] at h2
  lia
 self:=fun _ _ _ _ _ st hQ=>wpAny_pyIter_slot ⟨_,st,rfl⟩ F.slot_dict_keyiterator_iter (Xv F.slot_dict_keyiterator_iter ⟨_,st,rfl⟩ F.entry_dict_keyiterator_iter (show wpAny _ _ (ret (.ref it)) _ _ _ from Ze ⟨_,rfl, "dict_keyiterator",_,⟨_,st,rfl⟩,YJ.lookup,hQ⟩) (F.args_dict_keyiterator_iter_1 _))
noncomputable def iDk (tl:TE):TI:=fun σ H R=>tl σ H fun x H1=>∃ d kvs,x=.ref d/\H1 d=some (.dK kvs)/\∀ o,R (Itk d o kvs) (upd H1 d (.frz o (.dK kvs)))
theorem CG {l:Expr} {tl:TE} (hl:PE X l tl):PI X tg l (iDk tl):=by
 intro pins s σ H R I h
 refine thn (hl pins s σ H _ I h) fun v s1 ⟨x,H1,I1,r1,q1⟩=>?_
 obtain ⟨d,kvs,ex,e,q⟩:=q1
 subst ex
 cases r1
 obtain ⟨z,y,xs,rel,o,es,ep,g,ex,hd,_,he,hn⟩:=pJ I1.hok e
 have eo:=vm ex hd
 subst eo
 refine ST.vA y g ?_
 refine ⟨s1.heap.objs.size,[s1.heap.objs.size],_,_,_,rfl,(oz I1 e g).kept (t':=s1.toks) fun b o e=>Zk _ e,B7 d _ rel he,ZV _ rfl,fun b hb=>?_,q _⟩
 have eb:b=s1.heap.objs.size:=by simpa using hb
 subst eb
 exact (oz I1 e g).fpOk (Zi _) ((oz I1 e g).hok.fresh (Zi _))
end
end L2
end
section
namespace L2
theorem Cu {α:Type} {n:Nat} {us:List α} (hl:us.length=n+1):∃ a t,us=a :: t/\t.length=n:=by
 obtain ⟨a,t,e⟩:=List.exists_cons_of_length_eq_add_one hl
 subst e
 exact ⟨a,t,rfl,Nat.succ.inj hl⟩
theorem nq {α:Type} {us:List α} (hl:us.length=1):∃ a,us=[a]:=List.length_eq_one_iff.mp hl
theorem dN {α:Type} {us:List α} (hl:us.length=2):∃ a b,us=[a,b]:=by
 obtain ⟨a,t,rfl,ht⟩:=Cu hl
 obtain ⟨b,rfl⟩:=nq ht
 exact ⟨a,b,rfl⟩
theorem pG {α:Type} {us:List α} (hl:us.length=3):∃ a b c,us=[a,b,c]:=by
 obtain ⟨a,t,rfl,ht⟩:=Cu hl
 obtain ⟨b,c,rfl⟩:=dN ht
 exact ⟨a,b,c,rfl⟩
theorem CC {α:Type} {us:List α} (hl:us.length=4):∃ a b c d,us=[a,b,c,d]:=by
 obtain ⟨a,t,rfl,ht⟩:=Cu hl
 obtain ⟨b,c,d,rfl⟩:=pG ht
 exact ⟨a,b,c,d,rfl⟩
end L2
end
section
namespace VS
open PySem PySem.Spec PyProof.Rows L2
inductive Res where | ok (v:Val) | ex (x:Str)
inductive OutX where | ok (o:Out) | ex (x:Str) (η:VS.Env)
noncomputable abbrev ExX:=VS.Env->Option Res
noncomputable abbrev SxX:=VS.Env->Option OutX
end VS
end
section
namespace VS
open PySem PySem.Spec PyProof.Rows L2
section
variable {G:Gx} {X:Cx} {a b:Expr} {ca cb:Ex} {pos apos cpos:Pos}
noncomputable def xY:Val->Val->Wr
 | (_,.str x),(_,.str y)=>some (.fr,.bl (Txt.contains (sx y) (sx x)))
 | _,_=>none
noncomputable def DM (n:Bool):V->V->Hp->VK->Prop:=fun x y H Q=>∃ u w,x=.str u/\y=.str w/\Q (.bl (n != Txt.contains w u)) H
theorem AR:OpR X (compareOp .In) (DM false):=by
 intro pins s σ H x y v u Q I rx ry h
 obtain ⟨z,w',rfl,rfl,q⟩:=h
 obtain ⟨t,rfl⟩:=rx
 obtain ⟨t',rfl⟩:=ry
 exact SB.contains (show EP X pins σ Q _ s from ⟨.bl _,H,I,rfl,by simpa using q⟩)
theorem Cw:d8 G (DM false) xY:=by
 intro Φ η H0 H x y u w F1 F2 m t Q tw e k
 obtain ⟨m1,x⟩:=x
 obtain ⟨m2,y⟩:=y
 obtain ⟨same,r1,r2,f1,f2,nd⟩:=tw
 unfold xY at e
 split at e
 ·rename_i e1 e2
  cases e1
  cases e2
  cases e
  exact ⟨_,_,r1.str_inv.1,r2.str_inv.1,by rw [Bool.false_bne];exact bh k (.bl _)⟩
 ·cases e
theorem uu:Tells xY:=by
 intro x y m t e
 unfold xY at e
 split at e
 ·cases e;exact ⟨_,rfl⟩
 ·cases e
end
end VS
end
section
namespace TS
open PySem PySem.Spec PyProof.Rows
variable {prog:Program} {w:World} {A:Around} {E:Z4} {s:Shared}
theorem uJ {us:Wy} (hv:∀ v∈us,∃ x t,v=Value.str x t) {xs:Array Keyed} (hp:xs.Perm (pairsOf us)) (hs:SortedToK strKind xs (pairsOf us).size):((xs.map (·.2)).toList.map strOf).Pairwise (fun a b=>¬ b.cps.toList < a.cps.toList):=by
 obtain ⟨p1,p2⟩:=nB hp
 rw [XB,List.pairwise_iff_getElem]
 intro i j hi hj hij
 have key:∀ i (h:i < (xs.map (·.2)).toList.length),KK strKind xs i=(strOf (xs.map (·.2)).toList[i]).cps.toList:=fun i h=>by
  have e:xs[i]?=some ((xs.map (·.2)).toList[i],(xs.map (·.2)).toList[i]):=by
   rw [← Yn,← p2,ZS,Zr h]
   rfl
  obtain ⟨x,t,ex⟩:=hv _ (p1.mem_iff.mp (Z6 h))
  unfold KK
  rw [e]
  rw [ex]
  rfl
 have q:=hs i j (XD hij) (by rw [← hp.size_eq];simpa using hj)
 rw [key i hi,key j hj] at q
 exact of_decide_eq_false q
theorem pk {x:Value} {Q:Z4}
  (hcol:∀ (A':Around) (E':Z4),A'.handled=A.handled->wpAny (model prog w) A' (collect x) (fun us s1=>(∀ v∈us,∃ x t,v=Value.str x t)/\us.length < 64/\∀ (out:Wy) (h':Heap) (e:Nat),out.Perm us->(out.map strOf).Pairwise (fun a b=>¬ b.cps.toList < a.cps.toList)->(∀ b o,s1.heap.get? b=some o->h'.get? b=some o)->h'.get? s1.heap.objs.size=some (seqObj "list" out.toArray e)->Q (.ref s1.heap.objs.size) { s1 with heap:=h' }) E' s) :
  wpAny (model prog w) A (call (.builtin "sorted") [x]) Q E s:=by
 refine Calls.call_function_entry kind_sorted plain_sorted entry_sorted (args_sorted1 _) (show wpAny _ _ (Builtin.«sorted» _) _ _ _ from ?_)
 unfold Builtin.«sorted»
 refine Zq (m:=checkCount "sorted" 1 1 _) (Ze (Zq (YM (hcol A.in1 (fun _ _=>False) rfl) ?_ fun _ _ e=>e.elim)))
 rintro vs s1 ⟨hv,h64,h⟩
 refine Zq (wpAny_newList ?_ (by show vs.length<=sizeLine;rw [Y5];omega))
 have hoL:(s1.heap.push (seqObj "list" vs.toArray 0)).get? s1.heap.objs.size=some (seqObj "list" vs.toArray 0):=ZV _ rfl
 show wpAny _ _ _ _ _ { s1 with heap:=s1.heap.push (seqObj "list" vs.toArray 0) }
 refine Zq (YI (Xv slot_list_sort ⟨_,hoL,rfl⟩ entry_list_sort (list_sort_treeK strKind_oneLt hoL (strsAre_map _ hv).keysOf (fun v₁ v₂ rest e=>keyKind_strs (by rw [← e];exact strsAre_map _ hv)) h64 fun st' a1 a2=>⟨_,rfl,?_⟩) (args_list_sort _)))
 obtain ⟨e,he⟩:=sortedHeap_at (out:=(arrOf st').map (·.2)) hoL
 exact Ze ⟨_,rfl,h ((arrOf st').map (·.2)).toList _ e (nB a1).1 (uJ hv a1 a2) (fun b o eb=>by
  have hb:=ZR eb
  show (sortedHeap (s1.heap.push (seqObj "list" vs.toArray 0)) s1.heap.objs.size vs ((arrOf st').map (·.2))).get? b=some o
  rw [sortedHeap_old (ZY hb) (by rw [size_push'];exact XE hb),Heap.get?_push_ne _ _ _ (ZY hb)]
  exact eb) he⟩
end TS
namespace L2
open PySem PySem.Spec PyProof.Rows TS
section
variable {X:Cx}
theorem jD (hc:X.calm=true):dD X (.builtin "sorted") (fun xs H Q=>∃ p,∃ (ss:List Str) (vs:List V),xs=[.ref p]/\ss.length < 64/\ss.length=vs.length/\H p=some (.dK ((ss.map Sum.inr).zip vs)) ∧
  ∀ (l:Addr) (ss':List Str),H l=none->ss'.Perm ss->ss'.Pairwise (fun a b=>¬ b.cps.toList < a.cps.toList)->Q (.ref l) (upd H l (.lst (ss'.map V.str)))):=by
 intro pins s σ H xs us Q I rx h
 obtain ⟨p,ss,vs,rfl,h64,hl,hq,q⟩:=h
 obtain ⟨u,rfl,ru⟩:=rx.one
 cases ru
 obtain ⟨hz,hS,kvs,rel,dd⟩:=pJ I.hok hq
 obtain ⟨ep,dd⟩:=dd.dictAt
 have hkl:kvs.length=ss.length:=by
  have:=rel.length
  rw [Yv,Zw] at this
  lia
 have hky:∀ i:Nat,(kvs[i]?).map (fun x=>x.1)=(ss[i]?).map (Sum.inr:Str->Key):=fun i=>by
  have h1:((kvs.map (·.1)))[i]?=(ss.map (Sum.inr:Str->Key))[i]?:=by
   rw [← rel.keys]
   rw [X7 (by rw [Zw];exact XC hl)]
  rw [ZS,ZS] at h1
  exact h1
 refine TS.pk fun A' E' hA=>PySem.W.kdu_collect (PySem.W.kdl_dict hS) (hA.trans (I.ok.hd hc)) dd (by rw [Yv,Zw] at hz;lia) fun h' tk acc kp hacc=>?_
 have I1:Inv X pins σ H { s with heap:=h',toks:=tk }:=I.kept kp
 have hal:acc.toList.length=ss.length:=by rw [YW,hacc.1,hkl]
 have each:∀ i v,acc.toList[i]?=some v->∃ x t,v=Value.str x t/\ss[i]?=some x:=fun i v hv=>by
  rw [Yn] at hv
  obtain ⟨k,x,e1,e2⟩:=hacc.2 i v hv
  have e3:=hky i
  rw [e1] at e3
  cases e4:ss[i]? with
  | none=>rw [e4] at e3;cases e3
  | some y =>
   rw [e4] at e3
   have e5:k=Sum.inr y:=Zm e3
   subst e5
   obtain ⟨t,rfl⟩:=Value.isStrOf_shape (show Value.isStrOf y v=true from e2)
   exact ⟨y,t,rfl,e4⟩
 have hv:∀ v∈acc.toList,∃ x t,v=Value.str x t:=fun v hm=>by
  obtain ⟨i,hi,e⟩:=List.getElem_of_mem hm
  obtain ⟨x,t,e1,_⟩:=each i v (by rw [Zr hi,e])
  exact ⟨x,t,e1⟩
 have es:acc.toList.map strOf=ss:=by
  apply List.ext_getElem?
  intro i
  rw [ZS]
  cases e:acc.toList[i]? with
  | none =>
   have:acc.toList.length<=i:=Yt.mp e
   rw [Yt.mpr (by lia)]
   rfl
  | some v =>
   obtain ⟨x,t,rfl,e1⟩:=each i v e
   rw [e1]
   rfl
 refine ⟨hv,by omega,fun out h2 e o1 o2 kp2 he=>?_⟩
 have hv':∀ v∈out,∃ x t,v=Value.str x t:=fun v hm=>hv v (o1.mem_iff.mp hm)
 have hz2:((out.map strOf).map V.str).length<=sizeLine:=by rw [Zw,Zw,o1.length_eq,hal,Y5];omega
 exact ⟨.ref h'.objs.size,_,I1.laid (t':=tk) kp2 (Zi _) (show bN X.prog X.w _ h2 _ (.lst ((out.map strOf).map V.str)) from ⟨hz2,out,e,qi hv',he⟩),rfl,q _ _ (I1.hok.fresh (Zi _)) (by rw [← es];exact o1.map _) o2⟩
end
end L2
namespace VS
open PySem PySem.Spec PyProof.Rows L2
section
variable {G:Gx} {X:Cx} {e:Expr} {cs:Exs} {p pos:Pos}
noncomputable def gy:Ws->Wr
 | [(_,.dct 0 l)]=>(strs? (l.map (·.1))).bind fun ss=>if ss.length < 64/\ss.all txB=true then some (.fr,.lst ((d6 ss).map .str)) else none
 | _=>none
theorem xC:fj G (fun xs H Q=>∃ p,∃ (ss:List Str) (vs:List V),xs=[.ref p]/\ss.length < 64/\ss.length=vs.length/\H p=some (.dK ((ss.map Sum.inr).zip vs)) ∧
  ∀ (l:Addr) (ss':List Str),H l=none->ss'.Perm ss->ss'.Pairwise (fun a b=>¬ b.cps.toList < a.cps.toList)->Q (.ref l) (upd H l (.lst (ss'.map V.str)))) gy:=by
 intro Φ η H0 H l vs Fs m t Q A e k
 unfold gy at e
 split at e
 ·rename_i mx x
  obtain ⟨ss,e1,e2⟩:=Zz.mp e
  split at e2
  ·rename_i hb
   cases e2
   obtain ⟨v,F,rfl,rfl,rx⟩:=(show RpL G H vs [.dct 0 x] Fs from A.rp).one
   obtain ⟨a,ks,ys,ts,Gs,rfl,rfl,ha,hl,rfl,ra⟩:=eR rx
   have hl2:ks.length=ts.length:=by rw [hl,ra.len.1]
   have e3:((ks.map aO).zip ts).map (·.1)=ks.map aO:=X7 (by rw [Zw];exact XC hl2)
   rw [e3] at e1
   have e4:=keys_str e1
   refine ⟨a,ss.map sx,ys,rfl,by rw [Zw];exact hb.1,?_,by rw [← e4];exact ha,ve k A.same fun s hs=>Cc (Z8.mp hb.2 s hs)⟩
   rw [← hl,e4,Zw,Zw,Zw]
  ·cases e2
 ·cases e
theorem sR (hm:X.mg "sorted" = none) (ha:PVs G X [e] cs) (hg:Gl X "sorted" := by rfl) (hK:X.K=G.K:=by rfl) (hc:X.calm=true:=by rfl) (he:starEach [e] X.env=(false,eval e X.env) :: starEach [] X.env:=by rfl):PV G X (.Call (.Name "sorted" p) [e] [] pos) (eN gy cs) :=
 kg (jD hc) xC hg hm uy ha (he:=he) (hpl:=rfl)
end
@[simp] noncomputable def isT:T->Bool
 | .bl true=>true
 | _=>false
mutual
@[simp] noncomputable def dG:T->Bool
 | .tup l=>aY l
 | .lst l=>aY l
 | .dct _ l=>nM l
 | .obj _ l=>dE l
 | _=>true
@[simp] noncomputable def aY:Wq->Bool
 | []=>true
 | t :: r=>dG t && aY r
@[simp] noncomputable def nM:List (T×T)->Bool
 | []=>true
 | (_,v) :: r=>dG v && nM r
@[simp] noncomputable def dE:List (Nat×T)->Bool
 | []=>true
 | (n,v) :: r=>(dG v && !(n == 0 && isT v)) && dE r
end
theorem gQ:∀ {ks:Wq} {ts:Wq},ks.length=ts.length->nM (ks.zip ts)=true->aY ts=true
 | [],[],_,_=>rfl
 | _ :: _,[],h,_=>by simp at h
 | [],_ :: _,h,_=>by simp at h
 | k :: ks,t :: ts,h,e=>by
  rw [Zc,nM,Zf] at e
  rw [aY,Zf]
  exact ⟨e.1,gQ (by simpa using h) e.2⟩
theorem ed:∀ {ks:Ww} {ts:Wq},ks.length=ts.length->dE (ks.zip ts)=true->aY ts=true
 | [],[],_,_=>rfl
 | _ :: _,[],h,_=>by simp at h
 | [],_ :: _,h,_=>by simp at h
 | k :: ks,t :: ts,h,e=>by
  rw [Zc,dE,Zf,Zf] at e
  rw [aY,Zf]
  exact ⟨e.1.1,ed (by simpa using h) e.2⟩
section
variable {G:Gx} {H:Hp}
theorem Rp.at {v:V} {t:T} {F:Wz} (m:Me) (r:Rp G H v t F):dG t=true->Rp (G.at m) H v t F :=
 Rp.rec (G:=G) (H:=H) (motive_1:=fun v t F _=>dG t=true->Rp (G.at m) H v t F) (motive_2:=fun vs ts Fs _=>aY ts=true->RpL (G.at m) H vs ts Fs)
  (fun _=>.non) (fun b _=>.bl b) (fun i _=>.int i) (fun s h _=>.str s h) (fun h _=>.scr h) (fun h _ ih f=>.tup h (ih (by simpa using f))) (fun h _ ih f=>.lst h (ih (by simpa using f)))
  (fun h l q ih f=>.dct h l (ih (gQ (by rw [Zw,l];exact q.len.1) (by simpa using f)))) (fun h l q ih f=>.dctT h l (ih (gQ (by rw [Zw,l];exact q.len.1) (by simpa using f))))
  (fun h l n q ih f=>.dctN h l n (ih (gQ (by rw [Zw,l];exact q.len.1) (by simpa using f)))) (fun h l q ih f=>.dctZ h l (ih (gQ (by rw [Zw,l];exact q.len.1) (by simpa using f)))) (fun h hc _=>.exc h hc)
  (fun {c a dx b ks vs ts Fs} h l mm q ih f=>by
   rw [dG,dE,Zf] at f
   have hb:b=false:=by
    cases b with
    | false=>rfl
    | true=>simp at f
   refine .ins h l (fun z=>?_) (ih (ed (by rw [l];exact q.len.1) f.2))
   rw [hb] at z
   cases z)
  (fun _ _ _ f=>by simp [dG,dE,isT] at f)
  (fun _=>.nil) (fun _ _ i1 i2 f=>by
   rw [aY,Zf] at f
   exact .cons (i1 f.1) (i2 f.2)) r
theorem RpL.at (m:Me):∀ {vs:List V} {ts:Wq} {Fs:Xk},RpL G H vs ts Fs->aY ts=true->RpL (G.at m) H vs ts Fs
 | _,_,_,.nil,_=>.nil
 | _,_,_,.cons r q,f=>by
  rw [aY,Zf] at f
  exact .cons (r.at m f.1) (RpL.at m q f.2)
mutual
theorem kH:∀ t:T,imm t=true->dG t=true
 | .non,_=>rfl
 | .bl _,_=>rfl
 | .int _,_=>rfl
 | .str _,_=>rfl
 | .scr _,_=>rfl
 | .tup l,h=>by
  rw [dG]
  exact sC l (by simpa using h)
 | .lst _,h=>by simp at h
 | .dct _ _,h=>by simp at h
 | .obj _ _,h=>by simp at h
theorem sC:∀ l:Wq,dW l=true->aY l=true
 | [],_=>rfl
 | t :: l,h=>by
  rw [dW,Zf] at h
  rw [aY,Zf]
  exact ⟨kH t h.1,sC l h.2⟩
end
end
noncomputable def oP (k:Nat):T->Option T
 | .obj (_+1) (_ :: fs)=>(fs.findIdx? fun p=>p.1 == k).bind fun i=>(fs[i]?).map (·.2)
 | _=>none
noncomputable def aU (k:Nat) (a:Ex):Ex:=fun η=>(a η).bind fun x=>(oP k x.2).map fun t=>sub x.1 t
section
variable {G:Gx} {X:Cx} {a e o:Expr} {ca ce:Ex} {k i:Nat} {f x:Str} {pos pos' p1:Pos}
theorem w_fld (J:jr G) (F:FldOk G X.K k f) (ha:PV G X a ca) (hb:attributeBase a f X.env (eval a X.env)=eval a X.env):PV G X (.Attribute a f pos) (aU k ca) :=
 PE.weak (vi ha hb) fun σ H Q hq=>by
  obtain ⟨Φ,η,m,t,s,e,kq⟩:=hq
  unfold aU at e
  obtain ⟨⟨mx,y⟩,ea,e1⟩:=Zz.mp e
  obtain ⟨z,ez,e2⟩:=Zy.mp e1
  refine ⟨Φ,η,mx,y,s,ea,fun v H' F' sm r1 f1=>?_⟩
  unfold oP at ez
  split at ez
  ·rename_i c q0 fs hy
   dsimp only at hy
   subst hy
   obtain ⟨j,h1,e3⟩:=Zz.mp ez
   obtain ⟨p,h2,e4⟩:=Zy.mp e3
   subst e4
   obtain ⟨c',a,dx,b,ns,vs,ts,Fs,ec,rfl,rfl,rfl,rfl,hA,hl,hb,ra⟩:=dI r1
   cases ec
   have lts:ns.length=ts.length:=hl.trans ra.len.1
   obtain ⟨k0,x0,g1,g2,g3,g4⟩:=jT (fun n=>n == k) lts h1
   have ek:k0=k:=by simpa using g3
   subst ek
   have ep:p=(k0,x0):=by
    have:(ns.zip ts)[j]?=some (k0,x0):=by rw [Yc];exact ⟨g1,g2⟩
    rw [this] at h2;exact (Zm h2).symm
   subst ep
   obtain ⟨u,Fi,u1,u2,u3⟩:=ra.get j g2
   have hlk:=p6 (G:=G) (c:=c+1) J hl h1 g1 u1
   rw [F.nm c] at hlk
   refine ⟨a,_,dx,_,u,rfl,hA,F.cl c,F.no c,hlk,?_⟩
   have fp:=((f1.sub (Yz _ _)).sub (cB u2)).up u3
   unfold VS.sub at e2
   rw [e2] at fp
   have et:x0=t:=congrArg Prod.snd e2
   rw [et] at u3
   exact kq u H' Fi sm u3 fp
  ·cases ez
noncomputable def iT (i k:Nat) (e:Ex) (η:VS.Env):Option Out:=(e η).bind fun v=>match η[i]? with
 | some (some (.ow (.obj (c+1) (q :: fs))))=>(fit v).bind fun t=>if fs.length < 900/\(fs.all fun p=>!(p.1 == k))=true then some (.nx (η.set i (some (.ow (.obj (c+1) (q :: (fs++[(k,t)]))))))) else none
 | _=>none
theorem qW {g:Nat->Str} {k:Nat} {v:V} (J:∀ k k':Nat,g k=g k'->k=k'):∀ {ks:Ww} {vs:List V} {ts:Wq},ks.length=vs.length->ks.length=ts.length->((ks.zip ts).all fun p=>!(p.1 == k))=true->ir (g k) v ((ks.map g).zip vs)=((ks++[k]).map g).zip (vs++[v])
 | [],[],_,_,_,_=>rfl
 | [],_ :: _,_,h,_,_=>by simp at h
 | _ :: _,[],_,h,_,_=>by simp at h
 | _ :: _,_ :: _,[],_,h,_=>by simp at h
 | k0 :: ks,v0 :: vs,t0 :: ts,h1,h2,h3=>by
  rw [Zc,Xz,Zf] at h3
  have ne:g k0 ≠ g k:=fun z=>by
   have:=J _ _ z
   subst this
   simp at h3
  rw [Zn,Zc,ir,Zo ne,qW J (by simpa using h1) (by simpa using h2) h3.2]
  rfl
theorem kN (i k:Nat) (J:jr G) (F:FldOk G X.K k f) (he:PV G X e ce) (hN:X.N[i]?=some x) (hv:Vis X.env.scope x) (hd:(x == ("__debug__" : Str))=false) (hcd:(x == ("__classdict__" : Str))=false)
  (hs:swapsWith e (some (.Attribute (.Name x p1) f pos')) pos.line X.env=pure false):PSV G X (.Assign [.Attribute (.Name x p1) f pos'] e pos) (iT i k ce) :=
 PS.weak (Bo (fq hN hv hd hcd) he hs) fun D σ H hq=>by
  obtain ⟨Φ,η,out,s,e,kq⟩:=hq
  unfold iT at e
  obtain ⟨⟨mv,tv⟩,ev,e⟩:=Zz.mp e
  split at e
  ·rename_i c q0 fs ht
   obtain ⟨t,et,e⟩:=Zz.mp e
   have em:=lT et
   cases em
   split at e
   ·rename_i hc
    cases e
    obtain ⟨v,g1,g2⟩:=s.rp _ _ ht
    refine ⟨Φ,η,.fr,tv,s,ev,fun y H1 Fy sm ry fy=>⟨v,g1,?_⟩⟩
    obtain ⟨c',a,dx,b,ns,vs,ts,Fs,ec,rfl,rfl,rfl,eF,hA,hl,hb,ra⟩:=dI g2
    cases ec
    have nd:=s.nd i _ ht
    rw [eF] at nd
    have nd':=Zd.mp nd
    have hA1:H1 a=some (.ins (G.ct (c+1)).1 dx ((ns.map (G.ct (c+1)).2).zip vs)):=sm a _ hA
    have m1:Mut (H1 a):=by rw [hA1];exact True.intro
    have lts:ns.length=ts.length:=hl.trans ra.len.1
    have na:a ∉ Fy:=fun z=>by rw [fy.2 a z] at hA;cases hA
    have ln:((ns.map (G.ct (c+1)).2).zip vs).length < 1000:=by
     have:=hc.1
     rw [Yv] at this ⊢
     rw [Zw]
     lia
    refine ⟨a,_,dx,_,rfl,hA1,F.cl c,F.no c,ln,?_⟩
    have ep:=qW (g:=(G.ct (c+1)).2) (k:=k) (v:=y) (J (c+1)) hl lts hc.2
    rw [F.nm c] at ep
    rw [ep]
    have off:∀ bb∈Fs.flatten,bb ∉ Fy:=fun bb hb hw=>Mut.ne_none (ra.dom bb hb) (fy.2 bb hw)
    have g:Chg G H (.ref a) (Φ i) (.obj (c+1) ((0,.bl b) :: (ns.zip ts++[(k,tv)]))) (upd H1 a (.ins (G.ct (c+1)).1 dx (((ns++[k]).map (G.ct (c+1)).2).zip (vs++[y])))) (a :: (Fs++[Fy]).flatten):=by
     rw [eF,show ns.zip ts++[(k,tv)]=(ns++[k]).zip (ts++[tv]) from by rw [List.zip_append lts];rfl]
     refine Chg.upd sm Zt m1 (.ins ax (by simp [hl]) hb (((ra.same sm).off m1 nd'.1).append (.cons (ry.keep (Kept.upd (.inl m1)) fun bb hb o ho=>by rw [aD (fun z=>na (by rw [← z];exact hb))];exact ho) .nil))) ?_ ?_
     ·rw [Ys]
      refine Zd.mpr ⟨fun m=>?_,ZU.mpr ⟨nd'.2,by simpa using fy.1,fun b hb c hc z=>?_⟩⟩
      ·rcases Zb.mp m with m | m
       ·exact nd'.1 m
       ·exact na (by simpa using m)
      ·subst z;exact off b hb (by simpa using hc)
     ·intro bb hb
      rcases Zj.mp hb with rfl | hb
      ·exact .inl Zt
      ·rw [Ys] at hb
       rcases Zb.mp hb with hb | hb
       ·exact .inl (Zu _ hb)
       ·exact .inr (fy.2 bb (by simpa using hb))
    obtain ⟨z1,z2⟩:=s.mut ht g1 g
    exact kq _ σ _ z1 z2
   ·cases e
  ·cases e
end
noncomputable abbrev qu:=List (Nat×T)
noncomputable def meA (a:Addr):Me:=fun k=>if k=0 then some (.ref a) else none
noncomputable abbrev Mt:=qu->Wq->Option (qu×T)
noncomputable def mvF:List Bool->Xk->Wz
 | b :: bs,F :: Fs=>(if b then F else [])++mvF bs Fs
 | _,_=>[]
noncomputable def puF:List Bool->Xk->Wz
 | b :: bs,F :: Fs=>(if b then [] else F)++puF bs Fs
 | _,_=>[]
theorem gn:∀ {mv:List Bool} {Fs:Xk} {j:Nat} {F:Wz},mv[j]?=some true->Fs[j]?=some F->F.Sublist (mvF mv Fs)
 | [],_,_,_,h,_=>by simp at h
 | _ :: _,[],_,_,_,h=>by simp at h
 | b :: bs,F0 :: Fs,0,F,h1,h2=>by
  simp at h1 h2
  subst h1 h2
  rw [mvF,Zp rfl]
  exact List.sublist_append_left _ _
 | b :: bs,F0 :: Fs,j+1,F,h1,h2=>by
  rw [mvF]
  exact (gn (by simpa using h1) (by simpa using h2)).trans (Yd _ _)
theorem pA:∀ {mv:List Bool} {Fs:Xk} {j:Nat} {F:Wz},mv[j]?=some false->Fs[j]?=some F->F.Sublist (puF mv Fs)
 | [],_,_,_,h,_=>by simp at h
 | _ :: _,[],_,_,_,h=>by simp at h
 | b :: bs,F0 :: Fs,0,F,h1,h2=>by
  simp at h1 h2
  subst h1 h2
  rw [puF]
  exact List.sublist_append_left _ _
 | b :: bs,F0 :: Fs,j+1,F,h1,h2=>by
  rw [puF]
  exact (pA (by simpa using h1) (by simpa using h2)).trans (Yd _ _)
theorem t7:∀ {mv:List Bool} {Fs:Xk} {i j:Nat} {F F':Wz},(mvF mv Fs).Nodup->mv[i]?=some true->mv[j]?=some true->Fs[i]?=some F->Fs[j]?=some F'->i ≠ j->∀ a∈F,a ∉ F'
 | [],_,_,_,_,_,_,h,_,_,_,_=>by simp at h
 | _ :: _,[],_,_,_,_,_,_,_,h,_,_=>by simp at h
 | b :: bs,F0 :: Fs,0,0,F,F',_,_,_,_,_,n=>absurd rfl n
 | b :: bs,F0 :: Fs,0,j+1,F,F',nd,h1,h2,h3,h4,n=>fun a ha ha'=>by
  simp at h1 h3
  subst h1 h3
  rw [mvF,Zp rfl,ZU] at nd
  exact nd.2.2 a ha a ((gn (by simpa using h2) (by simpa using h4)).subset ha') rfl
 | b :: bs,F0 :: Fs,i+1,0,F,F',nd,h1,h2,h3,h4,n=>fun a ha ha'=>by
  simp at h2 h4
  subst h2 h4
  rw [mvF,Zp rfl,ZU] at nd
  exact nd.2.2 a ha' a ((gn (by simpa using h1) (by simpa using h3)).subset ha) rfl
 | b :: bs,F0 :: Fs,i+1,j+1,F,F',nd,h1,h2,h3,h4,n=>by
  rw [mvF,ZU] at nd
  exact t7 nd.2.1 (by simpa using h1) (by simpa using h2) (by simpa using h3) (by simpa using h4) (by lia)
theorem tN:∀ {mv:List Bool} {Fs:Xk} {a:Addr},a∈mvF mv Fs->∃ (j:Nat) (F:Wz),mv[j]?=some true/\Fs[j]?=some F/\a∈F
 | [],_,_,h=>by simp [mvF] at h
 | _ :: _,[],_,h=>by simp [mvF] at h
 | b :: bs,F0 :: Fs,a,h=>by
  rw [mvF] at h
  rcases Zb.mp h with h | h
  ·cases b with
   | true=>exact ⟨0,F0,rfl,rfl,h⟩
   | false=>simp at h
  ·obtain ⟨j,F,h1,h2,h3⟩:=tN h
   exact ⟨j+1,F,by simpa using h1,by simpa using h2,h3⟩
noncomputable def iz (b:Bool) (t:T):Wt:=some (if b then .ow t else .pu t)
noncomputable def wm (c:Nat) (η:VS.Env):Option qu:=match (η[(0:Nat)]?:Option (Wt)) with
 | some (some (.ow (.obj c' ((0,.bl true) :: fs))))=>if c'=c+1 then some fs else none
 | _=>none
noncomputable def mfn (c np nn:Nat) (mv:List Bool) (body:Sx):Mt:=fun fs ts=>if ts.length+1=np/\mv.length=ts.length then
 (body ((some (.ow (.obj (c+1) ((0,.bl true) :: fs))) :: List.zipWith iz mv ts)++List.replicate (nn - np) none)).bind fun o=>match o with
  | .rt v η=>(wm c η).bind fun fs'=>if imm v.2 then some (fs',v.2) else none
  | .nx η=>(wm c η).map fun fs'=>(fs',.non)
  | _=>none else none
noncomputable def spM (G:Gx) (c:Nat) (mv:List Bool) (g:Mt):Sp:=fun vs H Q _=>∃ (a:Addr) (us:List V) (fs:qu) (ts:Wq) (F:Wz) (Fs:Xk) (fs':qu) (x:T),vs=.ref a :: us/\Rp (G.at (meA a)) H (.ref a) (.obj (c+1) ((0,.bl true) :: fs)) F ∧
 RpL (G.at (meA a)) H us ts Fs/\mv.length=ts.length/\(F++mvF mv Fs).Nodup/\(∀ b∈F++mvF mv Fs,b ∉ puF mv Fs)/\g fs ts=some (fs',x) ∧
 ∀ u H' F',Chg (G.at (meA a)) H (.ref a) (F++mvF mv Fs) (.obj (c+1) ((0,.bl true) :: fs')) H' F'->Rp (G.at (meA a)) H' u x []->Q u H'
section
variable {G:Gx} {H:Hp}
theorem qg {v:V} {us:List V} {t:T} {ts:Wq} {F:Wz} {Fs:Xk} {mv:List Bool} (r0:Rp G H v t F) (r:RpL G H us ts Fs) (hm:mv.length=ts.length) (nd:(F++mvF mv Fs).Nodup) (sp:∀ b∈F++mvF mv Fs,b ∉ puF mv Fs) (n nv:Nat) (hn:nv=us.length+1) :
  SR G (fun i=>(F :: Fs).getD i []) ((some (.ow t) :: List.zipWith iz mv ts)++List.replicate (n - (ts.length+1)) none) ((v :: us).map some++List.replicate (n - nv) none) H ∧
  ∀ a,bF (fun i=>(F :: Fs).getD i []) ((some (.ow t) :: List.zipWith iz mv ts)++List.replicate (n - (ts.length+1)) none) a->a∈F++mvF mv Fs:=by
 subst hn
 have hl:=r.len
 have zl:(List.zipWith iz mv ts).length=ts.length:=by rw [List.length_zipWith,hm,Nat.min_self]
 have back:∀ {i:Nat} {c:Cell},((some (Cell.ow t) :: List.zipWith iz mv ts)++List.replicate (n - (ts.length+1)) none)[i]?=some (some c)->(i=0/\c=.ow t)\/∃ (j:Nat) (b:Bool) (u:T),i=j+1/\mv[j]?=some b/\ts[j]?=some u/\c=(if b then .ow u else .pu u):=fun {i c} h=>by
  cases i with
  | zero=>exact .inl ⟨rfl,(Zm (Zm h)).symm⟩
  | succ j =>
   rw [Xh,List.getElem?_cons_succ] at h
   by_cases hj:j < ts.length
   ·rw [ZF (by rw [zl];exact hj),List.getElem?_zipWith] at h
    have e1:mv[j]?=some mv[j]:=Zr (by rw [hm];exact hj)
    have e2:ts[j]?=some ts[j]:=Zr hj
    rw [e1,e2] at h
    exact .inr ⟨j,_,_,rfl,e1,e2,(Zm (Zm h)).symm⟩
   ·rw [Z7 (by rw [zl];exact ZL hj),Yi] at h
    split at h <;> cases h
 have fp:∀ {j:Nat} {u:T},ts[j]?=some u->∃ w Fj,us[j]?=some w/\Fs[j]?=some Fj/\Rp G H w u Fj:=fun {j u} h=>r.get j h
 have ow:∀ {i:Nat} {u:T},((some (Cell.ow t) :: List.zipWith iz mv ts)++List.replicate (n - (ts.length+1)) none)[i]?=some (some (.ow u))->i=0\/∃ j:Nat,i=j+1/\mv[j]?=some true/\ts[j]?=some u:=fun {i u} h=>by
  rcases back h with ⟨h1,h2⟩ | ⟨j,b,u',h1,h2,h3,h4⟩
  ·exact .inl h1
  ·cases b with
   | true=>cases h4;exact .inr ⟨j,h1,h2,h3⟩
   | false=>cases h4
 rw [ZU] at nd
 refine ⟨⟨?_,fun i c h=>?_,fun i u h=>?_,fun i j u c h1 h2 n=>?_⟩,fun a ⟨i,u,h1,h2⟩=>?_⟩
 ·simp [zl];lia
 ·rcases back h with ⟨rfl,rfl⟩ | ⟨j,b,u,rfl,h2,h3,h4⟩
  ·exact ⟨v,rfl,r0⟩
  ·obtain ⟨w,Fj,g1,g2,g3⟩:=fp h3
   refine ⟨w,?_,?_⟩
   ·rw [Zn,Xh,List.getElem?_cons_succ,ZF (by rw [Zw];exact (Zh.mp g1).1),ZS,g1]
    rfl
   ·show Rp G H w (iE c) ((F :: Fs).getD (j+1) [])
    rw [YX,Zs,g2,h4]
    cases b <;> exact g3
 ·rcases ow h with rfl | ⟨j,rfl,h2,h3⟩
  ·exact nd.1
  ·obtain ⟨w,Fj,g1,g2,g3⟩:=fp h3
   show ((F :: Fs).getD (j+1) []).Nodup
   rw [YX,Zs,g2]
   exact nd.2.1.sublist (gn h2 g2)
 ·rcases ow h1 with rfl | ⟨i',rfl,a2,a3⟩
  ·rcases back h2 with ⟨rfl,_⟩ | ⟨j',b,u',rfl,b2,b3,_⟩
   ·exact absurd rfl n
   ·obtain ⟨w,Fj,g1,g2,g3⟩:=fp b3
    intro a ha
    show a ∉ (F :: Fs).getD (j'+1) []
    rw [YX,Zs,g2]
    intro ha'
    cases b with
    | true=>exact nd.2.2 a ha a ((gn b2 g2).subset ha') rfl
    | false=>exact sp a (Yo _ ha) ((pA b2 g2).subset ha')
  ·obtain ⟨w,Fi,g1,g2,g3⟩:=fp a3
   have ei:(F :: Fs).getD (i'+1) []=Fi:=by rw [YX,Zs,g2];rfl
   show ∀ a∈(F :: Fs).getD (i'+1) [],_
   rw [ei]
   rcases back h2 with ⟨rfl,_⟩ | ⟨j',b,u',rfl,b2,b3,_⟩
   ·exact fun a ha ha'=>nd.2.2 a ha' a ((gn a2 g2).subset ha) rfl
   ·obtain ⟨w',Fj,k1,k2,k3⟩:=fp b3
    intro a ha
    show a ∉ (F :: Fs).getD (j'+1) []
    rw [YX,Zs,k2]
    intro ha'
    cases b with
    | true=>exact t7 nd.2.1 a2 b2 g2 k2 (fun z=>n (by rw [z])) a ha ha'
    | false=>exact sp a (ZK _ ((gn a2 g2).subset ha)) ((pA b2 k2).subset ha')
 ·rcases ow h1 with rfl | ⟨j,rfl,h3,h4⟩
  ·exact Yo _ h2
  ·obtain ⟨w,Fj,g1,g2,g3⟩:=fp h4
   have h2':a∈(F :: Fs).getD (j+1) []:=h2
   rw [YX,Zs,g2] at h2'
   exact ZK _ ((gn h3 g2).subset h2')
theorem vD {c:Nat} {η:VS.Env} {fs:qu} (h:wm c η=some fs):η[0]?=some (some (.ow (.obj (c+1) ((0,.bl true) :: fs)))):=by
 unfold wm at h
 split at h
 ·rename_i c' fs' e
  split at h
  ·rename_i hc
   cases h
   rw [e,hc]
  ·cases h
 ·cases h
end
section
variable {G:Gx} {P:Program} {w:World} {K:X8} {mg:X9} {base:Heap}
theorem DR {qual:Str} {st:Stmt} {f:Addr} {fd:FuncData} {N ps:List Str} {k np nn c:Nat} {mv:List Bool} {body:Sx} (ok:∀ {sp:Sp},(∀ vs H Q E,sp vs H Q E->vs.length=ps.length)->(∀ (cdv:Value) (A:Around) (outer:List PySem.Env) (s:Shared) (H:Hp) (vs:List V) (Q:VK) (E:XK),Room k (A.deeper (envOfC qual (ah st) s.heap.objs.size f cdv))->sp vs H Q E →
   ∃ t,PSs (il CX0 P w K mg base N qual (ah st) f cdv A outer s H E).nox (aQ st) t/\t { nx:=fun _ H'=>Q .non H',rt:=Q } (L2.start N vs) H)->FnOk P w K mg base CX0 (k+1) f fd ps sp) (hp:ps.length=np) (hn:N.length=nn)
  (hb:∀ (a:Addr) (cdv:Value) (A:Around) (outer:List PySem.Env) (s:Shared) (H:Hp) (E:XK),Room k (A.deeper (envOfC qual (ah st) s.heap.objs.size f cdv))->gk (G.at (meA a)) (il CX0 P w K mg base N qual (ah st) f cdv A outer s H E).nox (aQ st) body) :
  FnOk P w K mg base CX0 (k+1) f fd ps (spM G c mv (mfn c np nn mv body)):=by
 refine ok (fun vs H Q E h=>?_) fun cdv A outer s H vs Q E hr h=>?_
 ·obtain ⟨a,us,fs,ts,F,Fs,fs',y,rfl,r0,r,hm,nd,sp,e,q⟩:=h
  unfold mfn at e
  split at e
  ·rename_i hl
   rw [Zl,r.len.1,hl.1,hp]
  ·cases e
 ·obtain ⟨a,us,fs,ts,F,Fs,fs',y,rfl,r0,r,hm,nd,sp,e,q⟩:=h
  refine ⟨_,hb a cdv A outer s H E hr,?_⟩
  unfold mfn at e
  split at e
  ·rename_i hl
   obtain ⟨o,e1,e2⟩:=Zz.mp e
   obtain ⟨s0,ow0⟩:=qg r0 r hm nd sp nn (us.length+1) rfl
   rw [hl.1] at s0 ow0
   have e3:L2.start N (V.ref a :: us)=(V.ref a :: us).map some++List.replicate (nn - (us.length+1)) none:=by
    unfold L2.start
    rw [hn]
    rfl
   rw [e3]
   have fin:∀ {η':VS.Env} {Φ':Fps} {σ':L2.St} {H':Hp},wm c η'=some fs'->SR (G.at (meA a)) Φ' η' σ' H'->Frm (fun i=>(F :: Fs).getD i []) ((some (.ow (.obj (c+1) ((0,.bl true) :: fs))) :: List.zipWith iz mv ts)++List.replicate (nn - np) none) H Φ' η' H' →
     Chg (G.at (meA a)) H (.ref a) (F++mvF mv Fs) (.obj (c+1) ((0,.bl true) :: fs')) H' (Φ' 0):=fun {η' Φ' σ' H'} hme s' fr=>by
    have h0:=vD hme
    obtain ⟨v',g1,g2⟩:=s'.rp 0 _ h0
    have g2':Rp (G.at (meA a)) H' v' (.obj (c+1) ((0,.bl true) :: fs')) (Φ' 0):=g2
    obtain ⟨c',a',dx,b,ns,vs,ts',Fs',ec,rfl,eb,_,eF,hA,hl',hb',ra⟩:=dI g2'
    have hb1:b=true:=by cases eb;rfl
    have ea:some (V.ref a)=some (V.ref a'):=hb' hb1
    cases ea
    refine ⟨fr.kept,fun b' o' hb' ho=>(fr.keep b' o' ho fun z=>hb' (ow0 b' z)).1,fr.dom,g2',s'.nd 0 _ h0,fun b' hb'=>?_⟩
    rcases fr.ow b' ⟨0,_,h0,hb'⟩ with z | z
    ·exact .inl (ow0 b' z)
    ·exact .inr z
   refine ⟨_,_,o,s0,e1,?_⟩
   cases o with
   | nx η' =>
    obtain ⟨fs2,e4,e5⟩:=Zy.mp e2
    cases e5
    intro Φ' σ' H' s' fr
    exact q .non H' _ (fin e4 s' fr) .non
   | rt v η' =>
    obtain ⟨fs2,e4,e5⟩:=Zz.mp e2
    split at e5
    ·rename_i hi
     cases e5
     intro u H' F' Φ' σ' s' fr r' rf
     have:=r'.imm hi
     subst this
     exact q u H' _ (fin e4 s' fr) r'
    ·cases e5
   | bk η'=>cases e2
   | ct η'=>cases e2
  ·cases e
theorem fnM {x qual:Str} {st:Stmt} {f:Addr} {fd:FuncData} {N ps:List Str} {k np nn c:Nat} {mv:List Bool} {body:Sx} (F:Fun K x qual st f fd) (S:FnScope N ps (ah st)) (hp:ps.length=np) (hn:N.length=nn)
  (hb:∀ (a:Addr) (cdv:Value) (A:Around) (outer:List PySem.Env) (s:Shared) (H:Hp) (E:XK),Room k (A.deeper (envOfC qual (ah st) s.heap.objs.size f cdv))->gk (G.at (meA a)) (il CX0 P w K mg base N qual (ah st) f cdv A outer s H E).nox (aQ st) body) :
  FnOk P w K mg base CX0 (k+1) f fd ps (spM G c mv (mfn c np nn mv body)):=DR (fun l b=>F.ok S l b) hp hn hb
structure FunD (K:X8) (x qual:Str) (st:Stmt) (f:Addr) (fd:FuncData):Prop where
 ex:∃ (T:Addr) (oc:Value) (od:Option Addr) (kV doc pm:Value) (an:Option Addr) (cdv ct:Value) (osl:Array (Wx)) (o:Obj) (n:Nat),
  fd=PySem.W.fnOf x qual (cF st) (aQ st) (ah st) (.ref T) kV doc pm an cdv ct/\K.lookup f=some ⟨oc,od,.func fd,osl⟩/\PySem.W.codeIn K cdv qual=true/\K.lookup T=some o/\o.data=.seq #[.none] n
 kp:PySem.W.keepIn K (.ref f)=true
theorem FunD.ok {x qual:Str} {st:Stmt} {f:Addr} {fd:FuncData} {N ps:List Str} {k:Nat} {sp:Sp} (F:FunD K x qual st f fd) (S:FnScope N ps (ah st)) (len:∀ vs H Q E,sp vs H Q E->vs.length=ps.length)
  (hbody:∀ (cdv:Value) (A:Around) (outer:List PySem.Env) (s:Shared) (H:Hp) (vs:List V) (Q:VK) (E:XK),Room k (A.deeper (envOfC qual (ah st) s.heap.objs.size f cdv))->sp vs H Q E →
   ∃ t,PSs (il CX0 P w K mg base N qual (ah st) f cdv A outer s H E).nox (aQ st) t/\t { nx:=fun _ H'=>Q .non H',rt:=Q } (L2.start N vs) H):FnOk P w K mg base CX0 (k+1) f fd ps sp:=by
 obtain ⟨T,oc,od,kV,doc,pm,an,cdv,ct,osl,o,n,rfl,lk,hcd,_⟩:=F.ex
 refine An lk hcd S len fun A outer s H vs Q E hr hsp=>?_
 obtain ⟨t,h,q⟩:=hbody cdv A outer s H vs Q E hr hsp
 exact ⟨t,h.nox,q⟩
theorem FunD.binds {x qual:Str} {st:Stmt} {f:Addr} {fd:FuncData} {ps:List Str} (F:FunD K x qual st f fd)
  (h:∀ (s:Shared) (T:Addr) (kV doc pm:Value) (an:Option Addr) (cdv ct:Value) (o:Obj) (n:Nat) (us:Wy),K.In s.heap->K.lookup T=some o->o.data=.seq #[.none] n->us.length=ps.length->BindsTo s (PySem.W.fnOf x qual (cF st) (aQ st) (ah st) (.ref T) kV doc pm an cdv ct) ⟨us,[]⟩ (ps.zip us)):Binds K fd ps []:=by
 obtain ⟨T,oc,od,kV,doc,pm,an,cdv,ct,osl,o,n,rfl,lk,hcd,l2,l3⟩:=F.ex
 intro s us X hl
 rw [ZO] at hl ⊢
 exact h s T kV doc pm an cdv ct o n us X l2 l3 hl
end
noncomputable def argsOk:List Bool->Ws->Bool
 | [],[]=>true
 | b :: bs,v :: vs=>(if b then v.1 == .fr else imm v.2) && argsOk bs vs
 | _,_=>false
noncomputable def lh (c:Nat) (mv:List Bool) (g:Mt) (xs:Ws):T->Option (T×Val)
 | .obj c' ((0,.bl b) :: fs)=>if c'=c+1/\dE fs=true/\argsOk mv xs=true/\aY (trees xs)=true then (g fs (trees xs)).bind fun z=>if dE z.1=true/\imm z.2=true then some (.obj c' ((0,.bl b) :: z.1),(.fr,z.2)) else none else none
 | _=>none
noncomputable def bq (i:Nat) (way:List Stp) (c:Nat) (mv:List Bool) (g:Mt) (as:Exs) (η:VS.Env):Option (Val×VS.Env):=match (η[i]?:Option (Wt)) with
 | some (some (.ow t))=>(keys way η).bind fun ks=>(as η).bind fun xs=>(pm (lh c mv g xs) ks t).map fun z=>(z.2,η.set i (some (.ow z.1)))
 | _=>none
noncomputable def tX (G:Gx) (x:Xx):TE:=fun σ H Q=>∃ Φ η v η',SR G Φ η σ H/\x η=some (v,η')/\imm v.2=true/\∀ u H' Φ',SR G Φ' η' σ H'->Frm Φ η H Φ' η' H'->Rp G H' u v.2 []->Q u H'
noncomputable def PX (G:Gx) (X:Cx) (e:Expr) (x:Xx):Prop:=PE X e (tX G x)
theorem jH:∀ {mv:List Bool} {xs:Ws},argsOk mv xs=true->mv.length=xs.length
 | [],[],_=>rfl
 | [],_ :: _,h=>by simp [argsOk] at h
 | _ :: _,[],h=>by simp [argsOk] at h
 | b :: bs,v :: vs,h=>by
  rw [argsOk,Zf] at h
  rw [Zl,Zl,jH h.2]
theorem mU:∀ {mv:List Bool} {xs:Ws} {Fs:Xk},argsOk mv xs=true->(mvF mv Fs).Sublist (frs xs Fs)
 | [],[],_,_=>by simp [mvF]
 | [],_ :: _,_,h=>by simp [argsOk] at h
 | _ :: _,[],_,h=>by simp [argsOk] at h
 | b :: bs,v :: vs,[],h=>by simp [mvF]
 | b :: bs,(m,t) :: vs,F :: Fs,h=>by
  rw [argsOk,Zf] at h
  have ih:=mU (Fs:=Fs) h.2
  rw [mvF]
  cases b with
  | true =>
   have:m=.fr:=by simpa using h.1
   subst this
   exact List.Sublist.append (Y2 _) ih
  | false =>
   rw [Zo Zg,YR]
   cases m with
   | fr=>exact ih.trans (Yd _ _)
   | pu=>exact ih
   | bo=>exact ih
theorem oj {G:Gx} {H:Hp}:∀ {mv:List Bool} {xs:Ws} {us:List V} {Fs:Xk},argsOk mv xs=true->RpL G H us (trees xs) Fs->puF mv Fs=[]
 | [],[],_,_,_,_=>by simp [puF]
 | [],_ :: _,_,_,h,_=>by simp [argsOk] at h
 | _ :: _,[],_,_,h,_=>by simp [argsOk] at h
 | b :: bs,(m,t) :: vs,_,_,h,r=>by
  rw [argsOk,Zf] at h
  cases r with
  | cons r0 q =>
   rw [puF,oj h.2 q,ZO]
   cases b with
   | true=>rfl
   | false=>exact r0.imm (by simpa using h.1)
theorem tY {Φ:Fps} {η:VS.Env} {H:Hp} {mv:List Bool} {xs:Ws} {Fs:Xk} (h:argsOk mv xs=true) (f:FpL Φ η H xs Fs):∀ a∈mvF mv Fs,H a=none:=fun a ha=>by
 obtain ⟨j,F,h1,h2,h3⟩:=tN ha
 have key:∀ {mv:List Bool} {xs:Ws} {j:Nat},argsOk mv xs=true->mv[j]?=some true->∃ v,xs[j]?=some v/\v.1=.fr:=by
  intro mv
  induction mv with
  | nil=>intro xs j _ h;simp at h
  | cons b bs ih =>
   intro xs j h h1
   cases xs with
   | nil=>simp [argsOk] at h
   | cons v vs =>
    rw [argsOk,Zf] at h
    cases j with
    | zero =>
     simp at h1
     subst h1
     exact ⟨v,rfl,by simpa using h.1⟩
    | succ j =>
     obtain ⟨w,q1,q2⟩:=ih h.2 (by simpa using h1)
     exact ⟨w,by simpa using q1,q2⟩
 obtain ⟨v,q1,q2⟩:=key h h1
 have:=f.each j v F q1 h2
 rw [q2] at this
 exact this.2 a h3
section
variable {G:Gx} {X:Cx} {CX:CXT} {i c k k':Nat} {way:List Stp} {o e:Expr} {es:List Expr} {cs:Exs} {m:Str} {f:Addr} {fd:FuncData} {ps:List Str} {mv:List Bool} {g:Mt} {apos pos:Pos}
theorem p7 {σ:L2.St} {H:Hp} {Q:VK} {E:XK} {t:TA} (J:jr G) (hn:∀ k,(G.ct (c+1)).2 k ≠ m) (ht:∀ Φ η xs σ H (R:List V->Hp->Prop),SR G Φ η σ H->cs η=some xs->(∀ vs H' Fs,aG H H'->RpL G H' vs (trees xs) Fs->FpL Φ η H xs Fs->R vs H')->t σ H R)
  (h:tX G (bq i way c mv g cs) σ H Q):ud (G.ct (c+1)).1 m (spM G c mv g) [] E (tPl G i way) t σ H Q:=by
 obtain ⟨Φ,η,v,η',s,e,him,kq⟩:=h
 unfold bq at e
 split at e
 ·rename_i t0 h0
  obtain ⟨ks,ek,e3⟩:=Zz.mp e
  obtain ⟨xs,el,e4⟩:=Zz.mp e3
  obtain ⟨⟨t',x2⟩,e5,e6⟩:=Zy.mp e4
  cases e6
  obtain ⟨v0,h1,h2⟩:=s.rp _ _ h0
  obtain ⟨w,x,F1,x3,w1,w2,w3,w4,w5⟩:=gU ks J h2 (s.nd i t0 h0) e5
  unfold lh at w4
  split at w4
  ·rename_i c1 b fs
   split at w4
   ·rename_i hc
    obtain ⟨rfl,hno,hao,han⟩:=hc
    obtain ⟨⟨fs',y⟩,eg,e7⟩:=Zz.mp w4
    split at e7
    ·rename_i hno'
     cases e7
     obtain ⟨c',a,dx,b',ns,vs,ts,Fs,ec,rfl,eb,rfl,eF,hA,hl,hb,ra⟩:=dI w2
     cases ec
     cases eb
     have lts:ns.length=ts.length:=hl.trans ra.len.1
     refine ⟨Φ,η,t0,ks,v0,.ref a,s,h0,h1,ek,w1,fun H1 sm=>⟨a,dx,_,rfl,sm a _ hA,?_,?_⟩⟩
     ·have key:∀ (ns:Ww) (vs:List V),((ns.map (G.ct (c+1)).2).zip vs).lookup m=none:=by
       intro ns
       induction ns with
       | nil=>intro vs;simp
       | cons n ns ih =>
        intro vs
        cases vs with
        | nil=>simp
        | cons v vs =>
         rw [Zn,Zc,Yx]
         have:(m == (G.ct (c+1)).2 n)=false:=by
          rw [ZM]
          exact fun z=>hn n z.symm
         rw [this]
         exact ih vs
      exact key ns vs
     ·refine ht Φ η xs σ H1 _ (s.same sm) el fun us H2 Gs sm2 rp2 fp2=>?_
      have sm3:aG H H2:=sm.trans sm2
      have fp0:FpL Φ η H xs Gs:=⟨fun n v' F' a1 a2=>(fp2.each n v' F' a1 a2).back sm,fp2.nd⟩
      have mvn:=tY hao fp0
      have ra2:RpL (G.at (meA a)) H2 vs ts Fs:=(ra.same sm3).at (meA a) (ed lts hno)
      refine ⟨a,us,ns.zip ts,trees xs,F1,Gs,fs',y,by rw [ZO],?_,rp2.at (meA a) han,?_,?_,?_,eg,fun u H' F' gc ru=>?_⟩
      ·rw [eF]
       exact .ins (sm3 a _ hA) hl (fun _=>rfl) ra2
      ·rw [jH hao]
       simp [trees]
      ·refine ZU.mpr ⟨w3,fp2.nd.sublist (mU hao),fun b1 hb1 b2 hb2 z=>?_⟩
       subst z
       exact Mut.ne_none (w2.dom b1 hb1) (mvn b1 hb2)
      ·rw [oj hao rp2]
       exact fun b1 _ z=>nomatch z
      ·have back:Rp G H' (.ref a) (.obj (c+1) ((0,.bl b) :: fs')) F':=by
        obtain ⟨c2,a2,dx2,b2,ns2,vs2,ts2,Fs2,ec2,ea2,eb2,ef2,eF2,hA2,hl2,hb2,ra3⟩:=dI gc.rp
        cases ec2
        cases ea2
        subst ef2
        rw [eF2]
        exact .ins hA2 hl2 hb (ra3.at G.me (ed (hl2.trans ra3.len.1) hno'.1))
       have gG:Chg G H (.ref a) F1 (.obj (c+1) ((0,.bl b) :: fs')) H' F':=⟨(Kept.of sm3).trans gc.kept,fun b1 o1 hb1 ho=>gc.keep b1 o1 (fun z=>(Zb.mp z).elim hb1 fun z=>by rw [mvn b1 z] at ho;cases ho) (sm3 b1 o1 ho),fun b1 h=>gc.dom b1 fun z=>h (sm3.free z),back,gc.nd,fun b1 hb1=>by
        rcases gc.sub b1 hb1 with z | z
        ·rcases Zb.mp z with z | z
         ·exact .inl z
         ·exact .inr (mvn b1 z)
        ·exact .inr (sm3.free z)⟩
       obtain ⟨F2,g2⟩:=w5 H' F' gG
       obtain ⟨z1,z2⟩:=s.mut h0 h1 g2
       exact kq u H' _ z1 z2 (ru.at G.me (kH y hno'.2))
    ·cases e7
   ·cases w4
  ·cases w4
 ·cases e
theorem zI {pl:Sem Bool} (J:jr G) (hn:∀ k,(G.ct (c+1)).2 k ≠ m) (ho:PPl G X o i way) (hc:Cls X.K (G.ct (c+1)).1) (hm:Meth X.K (G.ct (c+1)).1 m f) (F:FnOk X.prog X.w X.K X.mg X.base CX0 k f fd ps (spM G c mv g)) (hr:Room k' X.A) (hk:k<=k') (hb:Binds X.K fd ps []) (ha:PVs G X (e :: es) cs)
  (hst:starEach (e :: es) X.env=(false,eval e X.env) :: starEach es X.env) (hpl:(backTo pos (starEach es X.env)).any (·.1)=false)
  (ht:eval (.Call (.Attribute o m apos) (e :: es) [] pos) X.env=(do
   let ov ← eval o X.env
   standAt apos.atName
   let (f,first) ← holding [ov] (getMethod ov m pl)
   callWith pos f first (backTo pos (starEach (e :: es) X.env)) (backToKw pos (keywordEach [] X.env)))):PX G X (.Call (.Attribute o m apos) (e :: es) [] pos) (bq i way c mv g cs) :=
 PE.weak (oA (E:=E0) ho hc hm F (hr.mono hk) hb .nil jc ha hst hpl ht) fun σ H Q h=>p7 (t:=tEs G cs) J hn (fun Φ η xs σ H R s e k=>⟨Φ,η,xs,s,e,k⟩) h
theorem we {pl:Sem Bool} (J:jr G) (hn:∀ k,(G.ct (c+1)).2 k ≠ m) (ho:PPl G X o i way) (hc:Cls X.K (G.ct (c+1)).1) (hm:Meth X.K (G.ct (c+1)).1 m f) (F:FnOk X.prog X.w X.K X.mg X.base CX0 k f fd ps (spM G c mv g)) (hr:Room k' X.A) (hk:k<=k') (hb:Binds X.K fd ps [])
  (ht:eval (.Call (.Attribute o m apos) [] [] pos) X.env=(do
   let ov ← eval o X.env
   standAt apos.atName
   let (f,first) ← holding [ov] (getMethod ov m pl)
   callWith pos f first (backTo pos (starEach [] X.env)) (backToKw pos (keywordEach [] X.env)))):PX G X (.Call (.Attribute o m apos) [] [] pos) (bq i way c mv g aj) :=
 PE.weak (qr (E:=E0) ho hc hm F (hr.mono hk) hb .nil jc ht) fun σ H Q h=>p7 (t:=rJ) J hn (fun Φ η xs σ H R s e k=>by
  cases (show some ([]:Ws)=some xs from e)
  exact k [] H [] (aG.refl _) .nil ⟨fun i v F h=>by simp at h,by simp [frs]⟩) h
noncomputable def sXM (x:Xx):Sx:=fun η=>(x η).bind fun z=>if imm z.1.2 then some (.nx z.2) else none
noncomputable def bW (j:Nat) (x:Xx):Sx:=fun η=>(x η).bind fun z=>if imm z.1.2=true/\j < z.2.length then some (.nx (z.2.set j (some (.pu z.1.2)))) else none
noncomputable def jN (x:Xx):Sx:=fun η=>(x η).bind fun z=>if imm z.1.2 then some (.rt (.fr,z.1.2) z.2) else none
variable {x:Xx}
theorem p9 (h:PX G X e x) (hsw:swapsWith e none pos.line X.env=pure false):PSV G X (.Expr e pos) (sXM x) :=
 PS.weak (ka h hsw) fun D σ H hq=>by
  obtain ⟨Φ,η,out,s,e,k⟩:=hq
  unfold sXM at e
  obtain ⟨⟨v,η'⟩,e1,e2⟩:=Zz.mp e
  split at e2
  ·rename_i hi
   cases e2
   exact ⟨Φ,η,v,η',s,e1,hi,fun u H' Φ' s' f r=>k Φ' σ H' s' f⟩
  ·cases e2
theorem sT (h:PX G X e x):PSV G X (.Return (some e) pos) (jN x) :=
 PS.weak (oJ h) fun D σ H hq=>by
  obtain ⟨Φ,η,out,s,e,k⟩:=hq
  unfold jN at e
  obtain ⟨⟨v,η'⟩,e1,e2⟩:=Zz.mp e
  split at e2
  ·rename_i hi
   cases e2
   exact ⟨Φ,η,v,η',s,e1,hi,fun u H' Φ' s' f r=>k u H' [] Φ' σ s' f r ⟨Z5,fun a h=>nomatch h⟩⟩
  ·cases e2
theorem bV {j:Nat} {nm:Str} {pos':Pos} (h:PX G X e x) (hN:X.N.Nodup) (hi:X.N[j]?=some nm) (hx:Loc X.env.scope nm) (hs:swapsWith e (some (.Name nm pos')) pos.line X.env=pure false) (hf:X.fn nm=true\/X.env.scope.names.lookup nm=some .local) :
  PSV G X (.Assign [.Name nm pos'] e pos) (bW j x) :=
 PS.weak (oZ hN hi hx h hs hf) fun D σ H hq=>by
  obtain ⟨Φ,η,out,s,e,k⟩:=hq
  unfold bW at e
  obtain ⟨⟨v,η'⟩,e1,e2⟩:=Zz.mp e
  split at e2
  ·rename_i hi
   cases e2
   refine ⟨Φ,η,v,η',s,e1,hi.1,fun u H' Φ' s' f r=>?_⟩
   obtain ⟨q1,q2⟩:=s'.val (c:=.pu v.2) (m:=.fr) hi.2 (aG.refl H') r ⟨Z5,fun a h=>nomatch h⟩ (.inl ⟨rfl,by decide⟩)
   exact k _ _ H' q1 (f.trans q2)
  ·cases e2
noncomputable def iF (i:Nat) (way:List Stp) (k:Ex) (x:Xx):Sx:=fun η=>(x η).bind fun z=>if imm z.1.2 then dh i way k (fun _=>some (.fr,z.1.2)) z.2 else none
theorem xi {Φ:Fps} {η:VS.Env} {σ:L2.St} {H H1:Hp} {t t':T} {ks:List Ky} {mk mv:Md} {tk tv:T} {y':Unit} {xv:V} {Fv:Wz} {ck:Ex} {D:L2.St->Hp->Prop} (J:jr G) (s:SR G Φ η σ H) (ht:η[i]?=some (some (.ow t))) (ek:keys way η=some ks) (ekk:ck η=some (mk,tk)) (e5:pm (jo (mk,tk) (mv,tv)) ks t=some (t',y'))
  (sm1:aG H H1) (rv:Rp G H1 xv tv Fv) (fv:Fp Φ η H mv Fv) (k:∀ Φ' H',SR G Φ' (η.set i (some (.ow t'))) σ H'->Frm Φ η H Φ' (η.set i (some (.ow t'))) H'->D σ H'):DB (tPl G i way) (tE G ck) Al xv σ H1 D:=by
   obtain ⟨v,g1,g2⟩:=s.rp _ _ ht
   obtain ⟨w,x,F1,x3,w1,w2,w3,w4,w5⟩:=gU ks J g2 (s.nd i t ht) e5
   refine ⟨Φ,η,t,ks,v,w,s.same sm1,ht,g1,ek,w1.same sm1,fun H2 sm2=>⟨Φ,η,mk,tk,(s.same sm1).same sm2,ekk,fun kv H3 Fk sm3 rk fk=>?_⟩⟩
   have sm:aG H H3:=(sm1.trans sm2).trans sm3
   have rv3:Rp G H3 xv tv Fv:=(rv.same sm2).same sm3
   have fin:∀ H4 F',Chg G H w F1 x3 H4 F'->D σ H4:=fun H4 F' g=>by
    obtain ⟨F2,g2'⟩:=w5 H4 F' g
    obtain ⟨z1,z2⟩:=s.mut ht g1 g2'
    exact k _ H4 z1 z2
   refine L2.j4 fun P_ k_=>?_
   cases x with
   | lst l =>
    cases tk with
    | int n =>
     obtain ⟨tt,et,e7⟩:=Zz.mp (show ((fit (mv,tv)).bind fun t=>(ixP l.length n).map fun j=>(T.lst (l.set j t),()))=some (x3,y') from w4)
     obtain ⟨j,ej,e8⟩:=Zy.mp e7
     cases e8
     have em:=lT et
     cases em
     obtain ⟨a,vs,Fs,rfl,rfl,ha',ra⟩:=w2.lst_inv
     have ha3:H3 a=some (.lst vs):=sm a _ ha'
     have nd:=Zd.mp w3
     have na:a ∉ Fv:=fun z=>by rw [fv.2 a z] at ha';cases ha'
     have m3:Mut (H3 a):=by rw [ha3];exact True.intro
     have off:∀ bb∈Fs.flatten,bb ∉ Fv:=fun bb hb hv=>Mut.ne_none (ra.dom bb hb) (fv.2 bb hv)
     refine k_ ?_
     refine .inl ⟨a,vs,n,j,rfl,rk.int_inv,ha3,by rw [← rT,ra.len.1];exact ej,fin _ (a :: (Fs.set j Fv).flatten) ?_⟩
     have keep:∀ {u:V} {x:T} {F:Wz},Rp G H3 u x F->a ∉ F->Rp G (upd H3 a (.lst (vs.set j xv))) u x F:=fun r hn=>r.keep (Kept.upd (.inl m3)) fun bb hb o' ho'=>by rw [aD (fun z=>hn (by rw [← z];exact hb))];exact ho'
     refine Chg.upd sm Zt m3 (.lst ax ((((ra.same sm).off m3 nd.1)).putAt j (keep rv3 na))) ?_ ?_
     ·rw [Zd]
      refine ⟨fun h=>?_,dU nd.2 fv.1 fun i' F' _ hi bb hb=>off bb (dc hi hb)⟩
      rcases cG h with z | ⟨i',F',_,h1,h2⟩
      ·exact na z
      ·exact nd.1 (dc h1 h2)
     ·intro bb hb
      rcases Zj.mp hb with rfl | hb
      ·exact .inl Zt
      ·rcases cG hb with z | ⟨i',F',_,h1,h2⟩
       ·exact .inr (fv.2 bb z)
       ·exact .inl (Zu _ (dc h1 h2))
    | _=>cases w4
   | dct kd l =>
    cases kd with
    | zero =>
     have hc:(hU tk=true/\imm tv=true/\l.length < fg)/\x3=.dct 0 (dput l tk tv):=by
      have w4':(if hU tk/\imm tv/\l.length < fg then some (T.dct 0 (dput l tk tv),()) else none)=some (x3,y'):=w4
      split at w4'
      ·rename_i hc
       cases w4'
       exact ⟨hc,rfl⟩
      ·cases w4'
     obtain ⟨⟨c1,c2,c3⟩,rfl⟩:=hc
     have eF:=rv3.imm c2
     subst eF
     obtain ⟨a,ns,vs,ts,Fs,rfl,rfl,ha',hl,rfl,ra⟩:=eR w2
     obtain ⟨kk,rfl,ekk'⟩:=dA rk c1
     subst ekk'
     have ha3:H3 a=some (.dK (ns.zip vs)):=sm a _ ha'
     have m3:Mut (H3 a):=by rw [ha3];exact True.intro
     have nd:=Zd.mp w3
     obtain ⟨ks',vs',ts',Fs',q1,q2,q3,q4,q5⟩:=oS (kk:=kk) rv3 hl (ra.same sm)
     have ln:(ns.zip vs).length < sizeLine:=by
      have:((ns.map aO).zip ts).length < 16777216:=c3
      rw [Yv,Zw] at this
      rw [Yv]
      have:=ra.len.1
      have:(sizeLine:Nat)=16777216:=rfl
      lia
     refine k_ ?_
     refine .inr ⟨a,_,rfl,q8.k ha3 ln,fin _ (a :: Fs'.flatten) ?_⟩
     rw [q1,q3]
     refine Chg.upd sm Zt m3 (.dct ax q2 (q4.off m3 fun z=>nd.1 (q5.subset z))) ?_ ?_
     ·exact Zd.mpr ⟨fun z=>nd.1 (q5.subset z),nd.2.sublist q5⟩
     ·intro bb hb
      rcases Zj.mp hb with rfl | hb
      ·exact .inl Zt
      ·exact .inl (Zu _ (q5.subset hb))
    | succ n=>cases w4
   | _=>cases w4
theorem oX {kr:Nat} {b:Expr} {ck:Ex} {pos':Pos} (J:jr G) (hr:Room kr X.A) (ho:PPl G X o i way) (hk:PV G X b ck) (he:PX G X e x)
  (ha:∀ v,assign (.Subscript o b pos') X.env v=(do
   let ov ← holding [v] (eval o X.env)
   let iv ← holding [v,ov] (eval b X.env)
   standAt pos'
   holding [v,ov,iv] (setItem ov iv v)
   release [v,ov,iv] [])) (hs:swapsWithSole [.Subscript o b pos'] e pos.line X.env=pure false) (hw:swappedStores [.Subscript o b pos'] e X.env=pure none)
  (h1:(assignEach [.Subscript o b pos'] X.env).map (·.2)=[assign (.Subscript o b pos') X.env]):PSV G X (.Assign [.Subscript o b pos'] e pos) (iF i way ck x) :=
 PS.weak (si he (rh ho hk (wO (kh hr)) ha) hs hw h1) fun D σ H hq=>by
  obtain ⟨Φ,η,out,s,e,k⟩:=hq
  unfold iF at e
  obtain ⟨⟨v,η'⟩,e1,e2⟩:=Zz.mp e
  split at e2
  ·rename_i hi
   refine ⟨Φ,η,v,η',s,e1,hi,fun u H' Φ' s' f r=>?_⟩
   unfold dh at e2
   obtain ⟨⟨mv,tv⟩,ev,e2⟩:=Zz.mp e2
   cases ev
   split at e2
   ·rename_i t ht
    obtain ⟨ks,ek,e2⟩:=Zz.mp e2
    obtain ⟨⟨mk,tk⟩,ekk,e2⟩:=Zz.mp e2
    obtain ⟨⟨t',y'⟩,e5,e6⟩:=Zy.mp e2
    cases e6
    exact xi J s' ht ek ekk e5 (aG.refl H') r (mv:=.fr) ⟨Z5,fun a h=>nomatch h⟩ fun Φ2 H2 z1 z2=>k _ σ H2 z1 (f.trans z2)
   ·cases e2
  ·cases e2
end
end VS
end
section
namespace L2
open PySem PySem.Spec PyProof.Rows
theorem rg {X:Cx}:dD X (.type "dict") (fun xs H Q=>∃ (d:Addr) (kvs:List (Key×V)),xs=[.ref d]/\H d=some (.dK kvs)/\∀ l,H l=none->Q (.ref l) (upd H l (.dK kvs))):=by
 intro pins s σ H xs us Q I rx h
 obtain ⟨d,kvs,rfl,hd,q⟩:=h
 obtain ⟨u,rfl,ru⟩:=rx.one
 cases ru
 obtain ⟨hz,hne,vs,rel,dd⟩:=pJ I.hok hd
 refine PySem.kt_call_dict hne dd (by rw [← Y0 rel];exact hz) fun h' dd' sb=>?_
 exact ⟨.ref s.heap.objs.size,_,I.laid (t':=s.toks) (fun b o e=>(sb.2 b (ZY (ZR e))).trans (Zk _ e)) (Zi _) (om hz (ZM.mpr (Yh (ZY I.big))) rel dd'),rfl,q _ (I.hok.fresh (Zi _))⟩
end L2
namespace VS
open PySem PySem.Spec PyProof.Rows L2
noncomputable def kP:Ws->Wr
 | [(_,.dct 0 l)]=>if dW (l.map (·.2))=true then some (.fr,.dct 0 l) else none
 | _=>none
section
variable {G:Gx} {X:Cx} {a b e o:Expr} {ca cb ce:Ex} {cs:Exs} {p pos cpos apos:Pos} {k kr:Nat}
theorem w6:fj G (fun xs H Q=>∃ (d:Addr) (kvs:List (Key×V)),xs=[.ref d]/\H d=some (.dK kvs)/\∀ l,H l=none->Q (.ref l) (upd H l (.dK kvs))) kP:=by
 intro Φ η H0 H l vs Fs m t Q A e k
 unfold kP at e
 split at e
 ·rename_i mx l0
  split at e
  ·rename_i hi
   cases e
   obtain ⟨v,F,rfl,rfl,r⟩:=(show RpL G H vs [.dct 0 l0] Fs from A.rp).one
   obtain ⟨a,ns,us,ts,Gs,rfl,rfl,ha,hl,rfl,ra⟩:=eR r
   refine ⟨a,_,rfl,ha,fun q hq=>?_⟩
   have sm:aG H (upd H q (.dK (ns.zip us))):=cS hq
   rw [List.map_snd_zip (by rw [Zw,hl,ra.len.1];exact Zi _)] at hi
   have eF:=ra.imm hi
   refine k _ _ (q :: Gs.flatten) sm (.dct ax hl (ra.same sm)) ?_
   rw [eF]
   exact Fp.new (A.same.free hq) (by simp) Fp.nil
  ·cases e
 ·cases e
theorem zg (hm:X.mg "dict" = none) (ha:PVs G X [e] cs) (hg:Gl X "dict") (he:starEach [e] X.env=(false,eval e X.env) :: starEach [] X.env):PV G X (.Call (.Name "dict" p) [e] [] pos) (eN kP cs) :=
 iY rg w6 hg hm sr ha (he:=he) (hpl:=rfl)
theorem AV {i i':Int} {j j':Nat} {q q':Pos}:PV G X (.Dict [some (.Constant (.int i) j q)] [.Constant (.int i') j' q'] pos) (qD 0 [(Q2 i,Q2 i')]) :=
 PE.weak (yw (vo ou ou yP) rfl rfl (by simp) (by show 1<=15;decide)) fun σ H Q hq=>by
  obtain ⟨Φ,η,m,r,s,e,k⟩:=hq
  cases (show some (Md.fr,T.dct 0 [(.int i,.int i')])=some (m,r) from e)
  intro p hp
  refine ⟨ax,[(Sum.inl i,.int i')],rfl,(by show 1<=15;decide),?_⟩
  rw [yU]
  have:Rp G (upd H p (.dK [(Sum.inl i,V.int i')])) (.ref p) (.dct 0 ((([Sum.inl i]:List Key).map aO).zip [.int i'])) (p :: ([[]]:Xk).flatten) :=
   .dct (ks:=[Sum.inl i]) (vs:=[V.int i']) ax rfl (.cons (.int i') .nil)
  exact k _ _ _ (cS hp) this ⟨by simp,fun b hb=>by simp at hb;rw [hb];exact hp⟩
noncomputable def ue (x y:Val):Wr:=match x.2 with
 | .dct 0 l=>if hU y.2 then some (match eU l y.2 with | some t=>sub x.1 t | none=>(.fr,.non)) else none
 | _=>none
theorem w_get (hr:Room kr X.A) (ho:PV G X o ca) (he:PV G X e cb) (hbase:attributeBase o "get" X.env (eval o X.env)=eval o X.env)
  (hfew:((backTo cpos (starEach [e] X.env)).all (fun x=>!x.1) && (backToKw cpos (keywordEach [] X.env)).all (fun x=>x.1.isSome)
   && decide (([e]:List Expr).length+([]:List Keyword).length+(if ([]:List Keyword).isEmpty then 0 else 1) < 30))=true)
  (hline:(apos.endLine == cpos.line)=true) (htr:backTo cpos (starEach [e] X.env)=[(false,eval e X.env)]):PV G X (.Call (.Attribute o "get" apos) [e] [] cpos) (e2 ue ca cb) :=
 PE.weak (xB (kh hr) ho he ⟨hbase,hfew,hline,htr⟩) fun σ H Q hq=>by
  obtain ⟨Φ,η,m,r,s,e,kq⟩:=hq
  unfold e2 at e
  obtain ⟨⟨m1,x⟩,ea,e⟩:=Zz.mp e
  obtain ⟨⟨m2,y⟩,eb,e⟩:=Zz.mp e
  unfold ue at e
  split at e
  ·rename_i l hx
   dsimp only at hx
   subst hx
   split at e
   ·rename_i hk
    have e':=Zm e
    refine ⟨Φ,η,m1,_,s,ea,fun v H1 F1 sm1 r1 f1=>?_⟩
    obtain ⟨a,ks,vs,ts,Fs,rfl,rfl,ha,hl,rfl,q⟩:=eR r1
    refine ⟨a,rfl,.inl ⟨_,.inl ha⟩,Φ,η,m2,y,s.same sm1,eb,fun v2 H2 F2 sm2 r2 f2=>?_⟩
    obtain ⟨kk,rfl,ek⟩:=dA r2 hk
    dsimp only at e'
    rw [ek] at e'
    rcases ke (k:=kk) hl (q.same sm2) with ⟨h1,h2⟩ | ⟨i,v,t2,F,a1,a2,a3,a4,a5⟩
    ·rw [h1] at e'
     cases e'
     refine ⟨_,gO.k (sm2 a _ ha),?_⟩
     rw [h2]
     exact kq .non H2 [] (sm1.trans sm2) .non Fp.nil
    ·rw [a1] at e'
     refine ⟨_,gO.k (sm2 a _ ha),?_⟩
     rw [a2]
     have f:=((f1.sub (Yz _ _)).sub (cB a4)).up a5
     unfold VS.sub at e'
     dsimp only at e'
     rw [e'] at f
     have et:t2=r:=congrArg Prod.snd e'
     rw [et] at a5
     exact kq v H2 F (sm1.trans sm2) a5 f
   ·cases e
  ·cases e
noncomputable def pq (x y:Val):Wr:=match x.2 with
 | .dct 3 l=>if hU y.2 then (eU l y.2).map (sub x.1) else none
 | _=>none
theorem pQ {H:Hp} {v:V} {l:List (T×T)} {F:Wz} (r:Rp G H v (.dct 3 l) F):∃ (a:Addr) (o:Obj) (ks:List Key) (vs:List V) (ts:Wq) (Fs:Xk),v=.ref a/\F=Fs.flatten/\H a=some (.frz o (.dK (ks.zip vs)))/\ks.length=vs.length/\l=(ks.map aO).zip ts/\RpL G H vs ts Fs:=by
 generalize hz:T.dct 3 l=z at r
 cases r with
 | dctZ h hl q=>cases hz;exact ⟨_,_,_,_,_,_,rfl,rfl,h,hl,rfl,q⟩
 | _=>cases hz
theorem BB:d8 G (DX G.K) pq:=by
 intro Φ η H0 H x y u w F1 F2 m t Q tw e k
 obtain ⟨m1,x⟩:=x
 unfold pq at e
 split at e
 ·rename_i l hx
  dsimp only at hx
  subst hx
  split at e
  ·rename_i hk
   obtain ⟨t',e1,e2⟩:=Zy.mp e
   obtain ⟨a,o,ks,vs,ts,Fs,rfl,rfl,ha,hl,rfl,q⟩:=pQ tw.r1
   obtain ⟨kk,rfl,ek⟩:=dA tw.r2 hk
   rw [ek] at e1
   rcases ke (k:=kk) hl q with ⟨h1,_⟩ | ⟨i,v,t2,F,a1,a2,a3,a4,a5⟩
   ·rw [h1] at e1;cases e1
   ·rw [a1] at e1
    cases e1
    cases e2
    refine .inr ⟨a,v,rfl,.inl ⟨_,kk,.inr ⟨o,ha⟩,rfl,a2.symm⟩,?_⟩
    have f:=(tw.f1.sub (cB a4)).up a5
    exact k v H F (aG.refl _) a5 f
  ·cases e
 ·cases e
theorem Ah (hr:Room kr X.A) (ha:PV G X a ca) (hb:PV G X b cb) (hs:gp b) (hK:X.K=G.K):PV G X (.Subscript a b pos) (e2 pq ca cb) :=
 PE.weak (mh (IxR.or jw (oB (kh hr))) ha hb hs) fun σ H Q h=>by rw [hK];exact kX BB h
end
noncomputable def eNew (c:Nat) (g:Mt) (cs:Exs):Ex:=fun η=>(cs η).bind fun xs=>if aY (trees xs)=true then (g [] (trees xs)).bind fun z=>if dE z.1=true/\isN z.2=true then some (.fr,.obj (c+1) ((0,.bl false) :: z.1)) else none else none
noncomputable def eY (c:Nat) (g:Fn) (ca:Ex) (cs:Exs):Ex:=fun η=>(ca η).bind fun x=>match x.2 with
 | .obj c' (_ :: _)=>if c'=c+1 then (cs η).bind fun xs=>(g (x.2 :: trees xs)).bind fun r=>match r.1 with
  | .fr=>some r
  | _=>none else none
 | _=>none
theorem vc {α:Type}:∀ (l:List α) (Fs:Xk),mvF (l.map fun _=>false) Fs=[]
 | [],_=>by simp [mvF]
 | _ :: _,[]=>by simp [mvF]
 | _ :: l,F :: Fs=>by
  rw [Zn,mvF,Zo Zg,YR]
  exact vc l Fs
theorem wg:∀ (mv:List Bool) (Fs:Xk),∀ a∈puF mv Fs,a∈Fs.flatten
 | [],_,a,h=>by simp [puF] at h
 | _ :: _,[],a,h=>by simp [puF] at h
 | b :: bs,F :: Fs,a,h=>by
  rw [puF] at h
  rw [ZP]
  rcases Zb.mp h with h | h
  ·cases b with
   | true=>simp at h
   | false=>exact Yo _ (by simpa using h)
  ·exact ZK _ (wg bs Fs a h)
section
variable {G:Gx} {X:Cx} {i c k k':Nat} {o e:Expr} {es:List Expr} {cs:Exs} {ca:Ex} {m x:Str} {f:Addr} {fd:FuncData} {ps:List Str} {g:Mt} {h:Fn} {apos pos p:Pos}
theorem Aa {G:Gx} {H:Hp} {u:V} {t:T} {F:Wz} (r:Rp G H u t F) (h:isN t=true):u=.non:=by
 cases r with
 | non=>rfl
 | _=>cases h
theorem xj {σ:L2.St} {H:Hp} {Q:VK} {E:XK} {t:TA} (F:∀ n,FnOk X.prog X.w X.K X.mg X.base CX0 k f fd ps (spM G c (List.replicate n false) g)->True) (ht:∀ Φ η xs σ H (R:List V->Hp->Prop),SR G Φ η σ H->cs η=some xs->(∀ vs H' Fs,aG H H'->RpL G H' vs (trees xs) Fs->FpL Φ η H xs Fs->R vs H')->t σ H R)
  (n:Nat) (hn:∀ η xs,cs η=some xs->xs.length=n) (hq:tE G (eNew c g cs) σ H Q):v7 (G.ct (c+1)).1 (spM G c (List.replicate n false) g) [] E t σ H Q:=by
 obtain ⟨Φ,η,mo,r,s,e,kq⟩:=hq
 unfold eNew at e
 obtain ⟨xs,el,e1⟩:=Zz.mp e
 split at e1
 ·rename_i han
  obtain ⟨⟨fs',y⟩,eg,e2⟩:=Zz.mp e1
  split at e2
  ·rename_i hc
   cases e2
   have lx:=hn η xs el
   refine ht Φ η xs σ H _ s el fun vs H1 Gs sm1 rp1 fp1 a dx ha hdx ne=>?_
   have hHa:H a=none:=sm1.free ha
   have sm2:aG H1 (upd (upd H1 dx (.own a)) a (.ins (G.ct (c+1)).1 dx [])):=fun b ob q=>by
    rw [aD (fun z=>by rw [z,ha] at q;cases q),aD (fun z=>by rw [z,hdx] at q;cases q)]
    exact q
   have em:List.replicate n false=(List.range n).map fun _=>false:=by rw [List.map_const',ZG]
   have mv0:mvF (List.replicate n false) Gs=[]:=by rw [em];exact vc _ _
   have fresh:∀ b,(upd (upd H1 dx (.own a)) a (.ins (G.ct (c+1)).1 dx [])) b=none->H b=none:=fun b z=>sm1.free (sm2.free z)
   refine ⟨a,vs,[],trees xs,[a],Gs,fs',y,by rw [ZO],.ins (ks:=[]) (vs:=[]) (ts:=[]) (Fs:=[]) ax rfl (fun _=>rfl) .nil,(rp1.same sm2).at (meA a) han,?_,?_,?_,eg,fun u H' F' gc ru=>⟨Aa ru hc.2,?_⟩⟩
   ·simp [trees,lx]
   ·rw [mv0];simp
   ·rw [mv0]
    intro b hb hb'
    have:b=a:=by simpa using hb
    subst this
    exact Mut.ne_none (rp1.dom b (wg _ _ b hb')) ha
   ·rw [mv0,ZO] at gc
    have back:Rp G H' (.ref a) (.obj (c+1) ((0,.bl false) :: fs')) F':=by
     obtain ⟨c2,a2,dx2,b2,ns2,vs2,ts2,Fs2,ec2,ea2,eb2,ef2,eF2,hA2,hl2,hb2,ra3⟩:=dI gc.rp
     cases ec2
     cases ea2
     subst ef2
     rw [eF2]
     exact .ins hA2 hl2 (fun z=>nomatch z) (ra3.at G.me (ed (hl2.trans ra3.len.1) hc.1))
    refine kq (.ref a) H' F' (fun b ob q=>gc.keep b ob (fun z=>?_) (sm2 b ob (sm1 b ob q))) back ⟨gc.nd,fun b hb=>?_⟩
    ·have:b=a:=by simpa using z
     rw [this,hHa] at q
     cases q
    ·rcases gc.sub b hb with z | z
     ·have:b=a:=by simpa using z
      rw [this]
      exact hHa
     ·exact fresh b z
  ·cases e2
 ·cases e1
theorem CB (n:Nat) (M:Mk X.K (G.ct (c+1)).1 f) (F:FnOk X.prog X.w X.K X.mg X.base CX0 k f fd ps (spM G c (List.replicate n false) g)) (hr:Room k' X.A) (hk:k+1<=k') (hg:Gl X x) (hm:X.mg x=some (.ref (G.ct (c+1)).1)) (hb:Binds X.K fd ps []) (ha:PVs G X (e :: es) cs) (hn:∀ η xs,cs η=some xs->xs.length=n)
  (hdb:(x == ("__debug__" : Str))=false) (he:starEach (e :: es) X.env=(false,eval e X.env) :: starEach es X.env) (hpl:(backTo pos (starEach es X.env)).any (·.1)=false):PV G X (.Call (.Name x p) (e :: es) [] pos) (eNew c g cs) :=
 PE.weak (yp (E:=E0) M F (hr.mono hk) hg hm hb .nil jc ha hdb he hpl) fun σ H Q h=>xj (X:=X) (k:=k) (f:=f) (fd:=fd) (ps:=ps) (t:=tEs G cs) (fun _ _=>True.intro) (fun Φ η xs σ H R s e k=>⟨Φ,η,xs,s,e,k⟩) n hn h
theorem Cf (M:Mk X.K (G.ct (c+1)).1 f) (F:FnOk X.prog X.w X.K X.mg X.base CX0 k f fd ps (spM G c [] g)) (hr:Room k' X.A) (hk:k+1<=k') (hg:Gl X x) (hm:X.mg x=some (.ref (G.ct (c+1)).1)) (hb:Binds X.K fd ps [])
  (hdb:(x == ("__debug__" : Str))=false):PV G X (.Call (.Name x p) [] [] pos) (eNew c g aj) :=
 PE.weak (vP (E:=E0) M F (hr.mono hk) hg hm hb .nil jc hdb) fun σ H Q h=>xj (X:=X) (k:=k) (f:=f) (fd:=fd) (ps:=ps) (t:=rJ) (fun _ _=>True.intro) (fun Φ η xs σ H R s e k=>by
  cases (show some ([]:Ws)=some xs from e)
  exact k [] H [] (aG.refl _) .nil ⟨fun i v F h=>by simp at h,by simp [frs]⟩) 0 (fun η xs e=>by
  cases (show some ([]:Ws)=some xs from e)
  rfl) h
theorem sS {g:Nat->Str} (hn:∀ k,g k ≠ m):∀ (ns:Ww) (vs:List V),((ns.map g).zip vs).lookup m=none
 | [],vs=>by simp
 | _ :: _,[]=>by simp
 | n :: ns,v :: vs=>by
  rw [Zn,Zc,Yx]
  have:(m == g n)=false:=by
   rw [ZM]
   exact fun z=>hn n z.symm
  rw [this]
  exact sS hn ns vs
theorem sU {σ:L2.St} {H:Hp} {Q:VK} {E:XK} {t:TA} (hn:∀ k,(G.ct (c+1)).2 k ≠ m) (ht:∀ Φ η xs σ H (R:List V->Hp->Prop),SR G Φ η σ H->cs η=some xs->(∀ vs H' Fs,aG H H'->RpL G H' vs (trees xs) Fs->FpL Φ η H xs Fs->R vs H')->t σ H R)
  (hq:tE G (eY c h ca cs) σ H Q):ud (G.ct (c+1)).1 m (spF G h) [] E (tE G ca) t σ H Q:=by
 obtain ⟨Φ,η,mo,r,s,e,kq⟩:=hq
 unfold eY at e
 obtain ⟨⟨mx,y⟩,ea,e1⟩:=Zz.mp e
 split at e1
 ·rename_i c' q0 fs hy
  dsimp only at hy
  subst hy
  split at e1
  ·rename_i hc
   subst hc
   obtain ⟨xs,el,e2⟩:=Zz.mp e1
   obtain ⟨⟨n,r'⟩,eg,e3⟩:=Zz.mp e2
   refine ⟨Φ,η,mx,_,s,ea,fun v H1 F1 sm1 r1 f1=>?_⟩
   obtain ⟨c2,a,dx,b,ns,vs,ts,Fs,ec,rfl,eb,ef,eF,hA,hl,hb,ra⟩:=dI r1
   cases ec
   refine ⟨a,dx,_,rfl,hA,sS hn _ _,ht Φ η xs σ H1 _ (s.same sm1) el fun us H2 Gs sm2 rp2 fp2=>?_⟩
   rw [ZO]
   refine ⟨_ :: trees xs,F1 :: Gs,n,r',.cons (r1.same sm2) rp2,eg,fun u H' F' sm3 r3 f3=>?_⟩
   cases n with
   | fr =>
    cases e3
    exact kq u H' F' ((sm1.trans sm2).trans sm3) r3 ⟨f3.1,fun b hb=>sm1.free (sm2.free (f3.2 b hb))⟩
   | pu=>cases e3
   | bo=>cases e3
  ·cases e1
 ·cases e1
theorem A3 {pl:Sem Bool} (hn:∀ k,(G.ct (c+1)).2 k ≠ m) (ho:PV G X o ca) (hc:Cls X.K (G.ct (c+1)).1) (hm:Meth X.K (G.ct (c+1)).1 m f) (F:FnOk X.prog X.w X.K X.mg X.base CX0 k f fd ps (spF G h)) (hr:Room k' X.A) (hk:k<=k') (hb:Binds X.K fd ps []) (ha:PVs G X (e :: es) cs)
  (hst:starEach (e :: es) X.env=(false,eval e X.env) :: starEach es X.env) (hpl:(backTo pos (starEach es X.env)).any (·.1)=false)
  (ht:eval (.Call (.Attribute o m apos) (e :: es) [] pos) X.env=(do
   let ov ← eval o X.env
   standAt apos.atName
   let (f,first) ← holding [ov] (getMethod ov m pl)
   callWith pos f first (backTo pos (starEach (e :: es) X.env)) (backToKw pos (keywordEach [] X.env)))):PV G X (.Call (.Attribute o m apos) (e :: es) [] pos) (eY c h ca cs) :=
 PE.weak (oA (E:=E0) ho hc hm F (hr.mono hk) hb .nil jc ha hst hpl ht) fun σ H Q q=>sU (t:=tEs G cs) hn (fun Φ η xs σ H R s e k=>⟨Φ,η,xs,s,e,k⟩) q
theorem zN {pl:Sem Bool} (hn:∀ k,(G.ct (c+1)).2 k ≠ m) (ho:PV G X o ca) (hc:Cls X.K (G.ct (c+1)).1) (hm:Meth X.K (G.ct (c+1)).1 m f) (F:FnOk X.prog X.w X.K X.mg X.base CX0 k f fd ps (spF G h)) (hr:Room k' X.A) (hk:k<=k') (hb:Binds X.K fd ps [])
  (ht:eval (.Call (.Attribute o m apos) [] [] pos) X.env=(do
   let ov ← eval o X.env
   standAt apos.atName
   let (f,first) ← holding [ov] (getMethod ov m pl)
   callWith pos f first (backTo pos (starEach [] X.env)) (backToKw pos (keywordEach [] X.env)))):PV G X (.Call (.Attribute o m apos) [] [] pos) (eY c h ca aj) :=
 PE.weak (qr (E:=E0) ho hc hm F (hr.mono hk) hb .nil jc ht) fun σ H Q q=>sU (t:=rJ) hn (fun Φ η xs σ H R s e k=>by
  cases (show some ([]:Ws)=some xs from e)
  exact k [] H [] (aG.refl _) .nil ⟨fun i v F h=>by simp at h,by simp [frs]⟩) q
end
noncomputable def mO (i:Nat) (way:List Stp) (j:Nat) (η:VS.Env):Option Out:=match (η[i]?:Option (Wt)),(η[j]?:Option (Wt)) with
 | some (some (.ow t)),some (some (.ow u))=>if i ≠ j then (keys way η).bind fun ks=>(pm (fun x=>aA x [(.fr,u)]) ks t).map fun z=>.nx ((η.set j none).set i (some (.ow z.1))) else none
 | _,_=>none
open Classical in
noncomputable def less (H:Hp) (F:Wz):Hp:=fun b=>if b∈F then none else H b
section
variable {G:Gx} {X:Cx} {i j:Nat} {way:List Stp} {o:Expr} {y:Str} {apos cpos pos p1:Pos}
theorem pE {H:Hp} {F:Wz} {b:Addr} (h:b∈F):less H F b=none:=Zp h
theorem gR {H:Hp} {F:Wz} {b:Addr} (h:b ∉ F):less H F b=H b:=Zo h
theorem gP {H:Hp} {F:Wz} {b:Addr} {o:HO} (h:less H F b=some o):H b=some o/\b ∉ F:=by
 by_cases q:b∈F
 ·rw [pE q] at h;cases h
 ·rw [gR q] at h;exact ⟨h,q⟩
theorem uK {H:Hp} {F:Wz} (h:∀ b∈F,Mut (H b)):Kept H (less H F) :=
 ⟨fun b xs e=>by
  rw [gR (fun z=>by have:=h b z;rw [e] at this;exact this)]
  exact e,fun b o u e=>by
  rw [gR (fun z=>by have:=h b z;rw [e] at this;exact this)]
  exact e⟩
theorem zt (J:jr G) (ho:PPl G X o i way) (hK:X.K=G.K) (hN:X.N[j]?=some y) (hv:Vis X.env.scope y) (hd:(y == ("__debug__" : Str))=false) (hcd:(y == ("__classdict__" : Str))=false)
  (hbase:attributeBase o "append" X.env (eval o X.env)=eval o X.env)
  (hfew:((backTo cpos (starEach [.Name y p1] X.env)).all (fun x=>!x.1) && (backToKw cpos (keywordEach [] X.env)).all (fun x=>x.1.isSome)
   && decide ([Expr.Name y p1].length+([]:List Keyword).length+(if ([]:List Keyword).isEmpty then 0 else 1) < 30))=true)
  (hline:(apos.endLine == cpos.line)=true) (hs:starEach [.Name y p1] X.env=(false,eval (.Name y p1) X.env) :: starEach [] X.env) (hplain:(backTo cpos (starEach [] X.env)).any (·.1)=false)
  (hsw:swapsWith (.Call (.Attribute o "append" apos) [.Name y p1] [] cpos) none pos.line X.env=pure false) :
  PSV G X (.Expr (.Call (.Attribute o "append" apos) [.Name y p1] [] cpos) pos) (mO i way j) :=
 PS.weak (ka (qR Xj Xm Xn i7 ho (cZ (fq hN hv hd hcd) g7 hs) hbase hfew hline hs hplain) hsw) fun D σ H hq=>by
  obtain ⟨Φ,η,out,s,e,k⟩:=hq
  unfold mO at e
  split at e
  ·rename_i t u ht hu
   split at e
   ·rename_i hij
    obtain ⟨ks,ek,e3⟩:=Zz.mp e
    obtain ⟨⟨t',x2⟩,e5,e6⟩:=Zy.mp e3
    cases e6
    obtain ⟨vj,j1,j2⟩:=s.rp _ _ hu
    have j2':Rp G H vj u (Φ j):=j2
    have ndj:=s.nd j u hu
    have mj:∀ b∈Φ j,Mut (H b):=j2'.dom
    have kp:=uK mj
    have sepj:∀ i' c',i' ≠ j->η[i']?=some (some c')->∀ b∈Φ i',b ∉ Φ j:=fun i' c' n h b hb hb'=>s.sep j i' u c' hu h (Yh n) b hb' hb
    have s0:SR G Φ (η.set j none) σ (less H (Φ j)):=⟨(s.drop j).len,fun i' c' h=>by
     obtain ⟨n,h'⟩:=cH h
     obtain ⟨v,h1,h2⟩:=s.rp i' c' h'
     exact ⟨v,h1,h2.keep kp fun b hb ob hob=>by rw [gR (sepj i' c' n h' b hb)];exact hob⟩,(s.drop j).nd,(s.drop j).sep⟩
    have ht0:(η.set j none)[i]?=some (some (.ow t)):=by
     rw [Yw (Yh hij)]
     exact ht
    obtain ⟨v,h1,h2⟩:=s0.rp _ _ ht0
    obtain ⟨w,x,F1,x3,w1,w2,w3,w4,w5⟩:=gU ks J h2 (s0.nd i t ht0) e5
    unfold aA at w4
    split at w4
    ·rename_i l yv heq
     cases heq
     obtain ⟨z,ez,e7⟩:=Zz.mp w4
     cases (show some u=some z from ez)
     split at e7
     ·rename_i hl
      cases e7
      obtain ⟨a,us,Gs,rfl,rfl,ha,ra⟩:=w2.lst_inv
      obtain ⟨haH,haj⟩:=gP ha
      have w1':Pth G H ks v (.ref a):=by
       have:∀ {ks:List Ky} {v w:V},Pth G (less H (Φ j)) ks v w->Pth G H ks v w:=by
        intro ks v w p
        induction p with
        | nil v=>exact .nil v
        | fld h l _ ih=>exact .fld (gP h).1 l ih
        | ix h l m _ ih=>exact .ix (gP h).1 l m ih
        | key h l _ ih=>exact .key (gP h).1 l ih
        | un _ ih=>exact .un ih
       exact this w1
      refine ⟨Φ,η,t,ks,v,.ref a,s,ht,h1,ek,w1',fun H0 sm0=>⟨.inl ⟨rfl,us,by rw [hK];exact SqL.of (sm0 a _ haH)⟩,vj,j1,a,us,vj,rfl,rfl,sm0 a _ haH,by rw [ra.len.1];exact hl,?_⟩⟩
      have m0:Mut (H0 a):=by rw [sm0 a _ haH];exact True.intro
      have nd1:=Zd.mp w3
      have offj:∀ b∈Gs.flatten,b ∉ Φ j:=fun b hb hb'=>by
       have:=ra.dom b hb
       rw [pE hb'] at this
       exact this
      have lsm:∀ b ob,less H (Φ j) b=some ob->H0 b=some ob:=fun b ob h=>sm0 b ob (gP h).1
      have kl:Kept (less H (Φ j)) H0:=⟨fun b xs h=>lsm b _ h,fun b ob u h=>lsm b _ h⟩
      have g:Chg G (less H (Φ j)) (.ref a) (a :: Gs.flatten) (.lst (l++[u])) (upd H0 a (.lst (us++[vj]))) (a :: (Gs++[Φ j]).flatten):=by
       refine ⟨kl.trans (Kept.upd (.inl m0)),fun b ob hb h=>by rw [aD (fun z=>hb (by rw [z];exact Zt))];exact lsm b ob h,fun b h z=>?_,.lst ax ((RpL.off (ra.keep kl fun b hb ob h=>lsm b ob h) m0 nd1.1).append (.cons (((j2'.same sm0)).keep (Kept.upd (.inl m0)) fun b hb ob ho=>by rw [aD (fun z=>haj (by rw [← z];exact hb))];exact ho) .nil)),?_,fun b hb=>?_⟩
       ·by_cases q:b=a
        ·rw [q,ax] at z;cases z
        ·rw [aD q] at z
         cases e:less H (Φ j) b with
         | none=>exact h e
         | some ob=>rw [lsm b ob e] at z;cases z
       ·rw [Ys]
        refine Zd.mpr ⟨fun m=>?_,ZU.mpr ⟨nd1.2,by simpa using ndj,fun b hb c hc z=>?_⟩⟩
        ·rcases Zb.mp m with m | m
         ·exact nd1.1 m
         ·exact haj (by simpa using m)
        ·subst z;exact offj b hb (by simpa using hc)
       ·rcases Zj.mp hb with rfl | hb
        ·exact .inl Zt
        ·rw [Ys] at hb
         rcases Zb.mp hb with hb | hb
         ·exact .inl (Zu _ hb)
         ·exact .inr (pE (by simpa using hb))
      obtain ⟨F2,g2⟩:=w5 _ _ g
      obtain ⟨z1,z2⟩:=s0.mut ht0 h1 g2
      have back:∀ b,less H (Φ j) b=none->bF Φ η b\/H b=none:=fun b h=>by
       by_cases q:b∈Φ j
       ·exact .inl ⟨j,u,hu,q⟩
       ·rw [gR q] at h;exact .inr h
      have ow0:∀ b,bF Φ (η.set j none) b->bF Φ η b:=fun b ⟨j',t',q1,q2⟩=>⟨j',t',(cH q1).2,q2⟩
      have pu0:∀ b,cO Φ (η.set j none) b->cO Φ η b:=fun b ⟨j',t',q1,q2⟩=>⟨j',t',(cH q1).2,q2⟩
      refine k _ σ _ z1 ⟨fun b ob h n=>?_,fun b h z=>?_,fun b h=>?_,fun b h=>?_,(Kept.of sm0).trans (Kept.upd (.inl m0))⟩
      ·have nj:b ∉ Φ j:=fun z=>n ⟨j,u,hu,z⟩
       exact z2.keep b ob (by rw [gR nj];exact h) fun z=>n (ow0 b z)
      ·by_cases q:b=a
       ·rw [q,ax] at z;cases z
       ·rw [aD q] at z;exact h (sm0.free z)
      ·rcases z2.ow b h with h | h
       ·exact .inl (ow0 b h)
       ·exact back b h
      ·rcases z2.pu b h with h | h | h
       ·exact .inl (pu0 b h)
       ·exact .inr (.inl (ow0 b h))
       ·exact (back b h).elim (fun z=>.inr (.inl z)) fun z=>.inr (.inr z)
     ·cases e7
    ·cases w4
   ·cases e
  ·cases e
end
end VS
end
section
namespace VS
open PySem PySem.Spec PyProof.Rows L2
noncomputable def isInt:T->Bool
 | .int _=>true
 | _=>false
noncomputable def qc (i:Nat):Its:=fun η=>match (η[i]?:Option (Wt)) with
 | some (some (.pu (.dct 3 l)))=>if (l.all fun p=>isInt p.1)=true then some (.fr,l.map (·.1)) else none
 | _=>none
noncomputable def wM (i:Nat) (tg:Tg) (ce:Ex):Sx:=fun η=>match (η[i]?:Option (Wt)) with
 | some (some (.ow (.dct 0 l)))=>(fe 1 tg (qc i) none ce (η.set i (some (.pu (.dct 3 l))))).bind fun v=>match v.1 with
  | .fr=>some (.rt v (η.set i none))
  | _=>none
 | _=>none
theorem zip_inj {α β:Type}:∀ {a c:List α} {b d:List β},a.length=b.length->c.length=d.length->a.zip b=c.zip d->a=c
 | [],[],_,_,_,_,_=>rfl
 | [],_ :: _,_,[],_,h,_=>by simp at h
 | [],_ :: _,[],_ :: _,_,_,h=>by simp at h
 | [],_ :: _,_ :: _,_ :: _,h,_,_=>by simp at h
 | _ :: _,_,[],_,h,_,_=>by simp at h
 | _ :: _,[],_ :: _,[],_,_,h=>by simp at h
 | _ :: _,[],_ :: _,_ :: _,_,h,_=>by simp at h
 | _ :: _,_ :: _,_ :: _,[],_,h,_=>by simp at h
 | x :: a,y :: c,z :: b,w :: d,h1,h2,h=>by
  rw [Zc,Zc] at h
  obtain ⟨e1,e2⟩:=XR h
  rw [zip_inj (by simpa using h1) (by simpa using h2) e2,(Xq e1).1]
section
variable {G:Gx} {X:Cx} {i:Nat} {elt tg:Expr} {sc:Scope} {pos pos' p1:Pos} {N:List Str} {x:Str} {g:Tg} {ce:Ex}
theorem Bs (i:Nat) (N:List Str) (hcalm:X.calm=true) (hN:X.N[i]?=some x) (hv:Vis X.env.scope x) (hd:(x == ("__debug__" : Str))=false) (hcd:(x == ("__classdict__" : Str))=false) (hin:xm 1 g)
  (hg:∀ cl C s H fp,PVG G (cU X N sc cl C s H fp) tg g) (he:∀ cl C s H fp,PV G (cU X N sc cl C s H fp) elt ce)
  (hsc:oy X.env sc=true) (hnm:lF sc (N.drop 1) X.N=true) (hNl:1<=N.length) (hs:∀ y,foldedSetIterable (.Name x p1) X.env y=pure y) :
  PSV G X (.Return (some (.ListComp elt [⟨tg,.Name x p1,[],0⟩] sc pos)) pos') (wM i g ce) :=
 PS.weak (oJ (lL hcalm (CG (fq hN hv hd hcd)) hsc hnm hNl (fun cl C s H fp=>⟨hg cl C s H fp,mK,he cl C s H fp⟩) hs)) fun D σ H hq=>by
  obtain ⟨Φ,η,out,s,e,k⟩:=hq
  unfold wM at e
  split at e
  ·rename_i l hl
   obtain ⟨⟨mv,tv⟩,ev,e1⟩:=Zz.mp e
   have hfr:mv=.fr/\out=.rt (.fr,tv) (η.set i none):=by
    cases mv with
    | fr=>cases e1;exact ⟨rfl,rfl⟩
    | pu=>cases e1
    | bo=>cases e1
   obtain ⟨rfl,rfl⟩:=hfr
   obtain ⟨v,g1,g2⟩:=s.rp _ _ hl
   obtain ⟨a,ns,vs,ts,Fs,rfl,eF,ha,hln,rfl,ra⟩:=eR g2
   have hlt:i < η.length:=(Zh.mp hl).1
   have nd:=s.nd i _ hl
   rw [eF] at nd
   have nd':=Zd.mp nd
   refine ⟨.ref a,g1,a,ns.zip vs,rfl,ha,fun o=>?_⟩
   have mu:Mut (H a):=by rw [ha];exact True.intro
   have kp:Kept H (upd H a (.frz o (.dK (ns.zip vs)))):=Kept.upd (.inl mu)
   have es:σ.set i (some (.ref a))=σ:=by
    obtain ⟨h,e⟩:=Zh.mp g1
    rw [← e]
    exact Xa h
   have aΦ:a∈Φ i:=by rw [eF];exact Zt
   have sub:∀ b∈Fs.flatten,b∈Φ i:=fun b hb=>by rw [eF];exact Zu _ hb
   have s1:SR G (lI Φ i Fs.flatten) (η.set i (some (.pu (.dct 3 ((ns.map aO).zip ts))))) σ (upd H a (.frz o (.dK (ns.zip vs)))):=by
    have:=s.put (c:=.pu (.dct 3 ((ns.map aO).zip ts))) (v:=.ref a) (F:=Fs.flatten) (H':=upd H a (.frz o (.dK (ns.zip vs)))) hlt (.dctZ ax hln (ra.off mu nd'.1)) (fun j c' n hj w q=>q.keep kp fun b hb ob ho=>by
     rw [aD (fun z=>s.sep i j _ c' hl hj (Yh n) a aΦ (by rw [← z];exact hb))];exact ho) (fun _ z=>nomatch z) (fun _ z=>nomatch z) fun j u n hj b hb hb'=>s.sep j i u _ hj hl n b hb (sub b hb')
    rw [es] at this
    exact this
   have hT:tE G (fe 1 g (qc i) none ce) σ (upd H a (.frz o (.dK (ns.zip vs)))) D.rt:=by
    refine ⟨_,_,.fr,tv,s1,ev,fun u H' F sm r f=>?_⟩
    have ee:(η.set i (some (.pu (.dct 3 ((ns.map aO).zip ts))))).set i none=η.set i none:=by rw [List.set_set]
    have sd:=(s1.drop i).same sm
    rw [ee] at sd
    have ow0:∀ b,bF (lI Φ i Fs.flatten) (η.set i none) b->bF Φ η b:=fun b ⟨j,t,q1,q2⟩=>by
     obtain ⟨n,q1'⟩:=cH q1
     rw [eK n] at q2
     exact ⟨j,t,q1',q2⟩
    refine k u H' F _ σ sd ⟨fun b ob h n=>?_,fun b h z=>?_,fun b h=>.inl (ow0 b h),fun b ⟨j,t,q1,q2⟩=>?_,kp.trans (Kept.of sm)⟩ r ⟨f.1,fun b hb=>.inl ?_⟩
    ·have nb:b ≠ a:=fun z=>n ⟨i,_,hl,by rw [z];exact aΦ⟩
     exact ⟨sm b ob (by rw [aD nb];exact h),fun z=>n (ow0 b z)⟩
    ·have z1:=sm.free z
     by_cases q:b=a
     ·rw [q,ax] at z1;cases z1
     ·rw [aD q] at z1;exact h z1
    ·obtain ⟨n,q1'⟩:=cH q1
     rw [eK n] at q2
     exact .inl ⟨j,t,q1',q2⟩
    ·have:=f.2 b hb
     by_cases q:b=a
     ·rw [q,ax] at this;cases this
     ·rw [aD q] at this;exact this
   obtain ⟨Φ2,η2,m2,l2,s2,e2,k2⟩:=pz (cond:=none) hin hT
   refine k2 (Itk a o (ns.zip vs)) _ [] (aG.refl _) ?_ (fun b hb=>nomatch hb)
   unfold qc at e2
   split at e2
   ·rename_i l3 h3
    split at e2
    ·rename_i hint
     cases e2
     obtain ⟨v3,q1,q2⟩:=s2.rp _ _ h3
     rw [g1] at q1
     cases q1
     obtain ⟨a3,o3,ks3,vs3,ts3,Fs3,ea3,_,ha3,hl3,rfl,ra3⟩:=pQ q2
     cases ea3
     rw [ax] at ha3
     have hz:ns.zip vs=ks3.zip vs3:=HO.dK.inj (HO.frz.inj (Zm ha3)).2
     have ek:=zip_inj hln hl3 hz
     subst ek
     have em:((ns.map aO).zip ts3).map (·.1)=ns.map aO:=X7 (by rw [Zw,hl3,ra3.len.1];exact Zi _)
     have zl:(ns.zip vs).length=ns.length:=by rw [Yv,hln,Nat.min_self]
     refine ⟨fun H2 kp2 _=>⟨fun n t hn=>?_,fun n hn=>?_⟩,fun b hb=>nomatch hb⟩
     ·rw [em,ZS] at hn
      obtain ⟨kk,hk1,hk2⟩:=Zy.mp hn
      have hnl:=(Zh.mp hk1).1
      refine ⟨⟨kp2.frz _ _ _ ax,by rw [zl];exact hnl⟩,fun y H3 hy=>?_⟩
      obtain ⟨rfl,p,hp,rfl⟩:=hy
      refine ⟨aG.refl _,[],?_,fun b hb=>nomatch hb⟩
      have hp1:p.1=kk:=by
       have hzip:(ns.zip vs)[n]?=some p:=hp
       rw [Yc] at hzip
       rw [hk1] at hzip
       exact (Zm hzip.1).symm
      have hi:isInt t=true:=by
       have:=Z8.mp hint (t,ts3[n]'(by rw [← ra3.len.1,← hl3];exact hnl)) (by
        refine YY (i:=n) ?_
        rw [Yc]
        exact ⟨by rw [ZS,hk1];exact congrArg some hk2,Zr _⟩)
       exact this
      rw [hp1,← hk2]
      rw [← hk2] at hi
      cases kk with
      | inl n=>exact .int n
      | inr z=>cases hi
     ·refine ⟨kp2.frz _ _ _ ax,?_⟩
      rw [em,Zw] at hn
      rw [zl]
      exact hn
    ·cases e2
   ·cases e2
  ·cases e
end
noncomputable def Br (c:Nat):Option (Wt)->Bool
 | some (some (.ow (.obj c' (_ :: _))))=>c' == c+1
 | _=>false
noncomputable def nZ (i c:Nat) (mv:List Bool) (g:Mt) (x:Xx) (cs:Exs) (η:VS.Env):Option (Val×VS.Env):=if Br c (η[i]?:Option (Wt))=true then (x η).bind fun z=>if imm z.1.2=true then (match (z.2[i]?:Option (Wt)) with
 | some (some (.ow t))=>(cs z.2).bind fun xs=>(lh c mv g ((.fr,z.1.2) :: xs) t).map fun r=>(r.2,z.2.set i (some (.ow r.1)))
 | _=>none) else none else none
section
variable {G:Gx} {X:Cx} {i c k k':Nat} {e:Expr} {es:List Expr} {cs:Exs} {m y:Str} {f:Addr} {fd:FuncData} {ps:List Str} {mv:List Bool} {g:Mt} {x:Xx} {apos pos p1:Pos}
theorem yE {pl:Sem Bool} (hn:∀ k,(G.ct (c+1)).2 k ≠ m) (hN:X.N[i]?=some y) (hv:Vis X.env.scope y) (hd:(y == ("__debug__" : Str))=false) (hcd:(y == ("__classdict__" : Str))=false) (hc:Cls X.K (G.ct (c+1)).1) (hm:Meth X.K (G.ct (c+1)).1 m f) (F:FnOk X.prog X.w X.K X.mg X.base CX0 k f fd ps (spM G c mv g)) (hr:Room k' X.A) (hk:k<=k') (hb:Binds X.K fd ps []) (h1:PX G X e x) (ha:PVs G X es cs)
  (hst:starEach (e :: es) X.env=(false,eval e X.env) :: starEach es X.env) (hpl:(backTo pos (starEach es X.env)).any (·.1)=false)
  (ht:eval (.Call (.Attribute (.Name y p1) m apos) (e :: es) [] pos) X.env=(do
   let ov ← eval (.Name y p1) X.env
   standAt apos.atName
   let (f,first) ← holding [ov] (getMethod ov m pl)
   callWith pos f first (backTo pos (starEach (e :: es) X.env)) (backToKw pos (keywordEach [] X.env)))):PX G X (.Call (.Attribute (.Name y p1) m apos) (e :: es) [] pos) (nZ i c mv g x cs) :=
 PE.weak (oA (E:=E0) (fq hN hv hd hcd) hc hm F (hr.mono hk) hb .nil jc (cZ h1 ha hst) hst hpl ht) fun σ H Q h=>by
  obtain ⟨Φ,η,v,η',s,e,him,kq⟩:=h
  unfold nZ at e
  split at e
  ·rename_i hob
   obtain ⟨⟨v1,η1⟩,e1,e2⟩:=Zz.mp e
   split at e2
   ·rename_i him1
    unfold Br at hob
    split at hob
    ·rename_i c0 q0 fs0 h0
     have ec0:c0=c+1:=by simpa using hob
     subst ec0
     obtain ⟨v0,g1,g2⟩:=s.rp _ _ h0
     have g2':Rp G H v0 (.obj (c+1) (q0 :: fs0)) (Φ i):=g2
     obtain ⟨c',a,dx,b,ns,vs,ts,Fs,ec,rfl,eb,ef,eF,hA,hl,hbb,ra⟩:=dI g2'
     cases ec
     have key:∀ (ns:Ww) (vs:List V),((ns.map (G.ct (c+1)).2).zip vs).lookup m=none:=by
      intro ns
      induction ns with
      | nil=>intro vs;simp
      | cons n ns ih =>
       intro vs
       cases vs with
       | nil=>simp
       | cons v vs =>
        rw [Zn,Zc,Yx]
        have:(m == (G.ct (c+1)).2 n)=false:=by
         rw [ZM]
         exact fun z=>hn n z.symm
        rw [this]
        exact ih vs
     refine ⟨.ref a,g1,a,dx,_,rfl,hA,key _ _,Φ,η,v1,η1,s,e1,him1,fun u1 H1 Φ1 s1 f1 r1=>?_⟩
     dsimp only at e2
     split at e2
     ·rename_i t1 ht1
      obtain ⟨xs,el,e3⟩:=Zz.mp e2
      obtain ⟨⟨x3,y3⟩,w4,e4⟩:=Zy.mp e3
      cases e4
      obtain ⟨va,q1,w2⟩:=s1.rp _ _ ht1
      rw [g1] at q1
      cases q1
      have w3:=s1.nd i t1 ht1
      refine ⟨Φ1,η1,xs,s1,el,fun us H2 Gs sm2 rp2 fp2=>?_⟩
      show spM G c mv g (V.ref a :: ((u1 :: us)++[])) H2 Q E0
      rw [ZO]
      unfold lh at w4
      split at w4
      ·rename_i c1 b1 fs
       split at w4
       ·rename_i hcc
        obtain ⟨rfl,hno,hao,han⟩:=hcc
        obtain ⟨⟨fs',z⟩,eg,e7⟩:=Zz.mp w4
        split at e7
        ·rename_i hno'
         cases e7
         have w2':Rp G H1 (.ref a) (.obj (c+1) ((0,.bl b1) :: fs)) (Φ1 i):=w2
         obtain ⟨c2,a2,dx2,b2,ns2,vs2,ts2,Fs2,ec2,ea2,eb2,rfl,eF2,hA2,hl2,hb2,ra2⟩:=dI w2'
         cases ec2
         cases ea2
         cases eb2
         have lts:ns2.length=ts2.length:=hl2.trans ra2.len.1
         have fpl:FpL Φ1 η1 H1 ((.fr,v1.2) :: xs) ([] :: Gs):=⟨fun n v' F' a1 a2=>by
          cases n with
          | zero=>cases a1;cases a2;exact Fp.nil
          | succ n=>exact fp2.each n v' F' (by simpa using a1) (by simpa using a2),by
          show ([]++frs xs Gs).Nodup
          exact fp2.nd⟩
         have mvn:=tY hao fpl
         have rpA:RpL G H2 (u1 :: us) (trees ((.fr,v1.2) :: xs)) ([] :: Gs):=.cons (r1.same sm2) rp2
         refine ⟨a,u1 :: us,ns2.zip ts2,trees ((.fr,v1.2) :: xs),Φ1 i,[] :: Gs,fs',z,rfl,?_,rpA.at (meA a) han,?_,?_,?_,eg,fun u H' F' gc ru=>?_⟩
         ·rw [eF2]
          exact .ins (sm2 a _ hA2) hl2 (fun _=>rfl) ((ra2.same sm2).at (meA a) (ed lts hno))
         ·rw [jH hao]
          simp [trees]
         ·refine ZU.mpr ⟨w3,fpl.nd.sublist (mU hao),fun b1 hb1 b2 hb2 z=>?_⟩
          subst z
          exact Mut.ne_none (w2.dom b1 hb1) (mvn b1 hb2)
         ·rw [oj hao rpA]
          exact fun b1 _ z=>nomatch z
         ·have back:Rp G H' (.ref a) (.obj (c+1) ((0,.bl b1) :: fs')) F':=by
           obtain ⟨c3,a3,dx3,b3,ns3,vs3,ts3,Fs3,ec3,ea3,eb3,ef3,eF3,hA3,hl3,hb3,ra3⟩:=dI gc.rp
           cases ec3
           cases ea3
           subst ef3
           rw [eF3]
           exact .ins hA3 hl3 hb2 (ra3.at G.me (ed (hl3.trans ra3.len.1) hno'.1))
          have gG:Chg G H1 (.ref a) (Φ1 i) (.obj (c+1) ((0,.bl b1) :: fs')) H' F':=⟨(Kept.of sm2).trans gc.kept,fun b1 o1 hb1 ho=>gc.keep b1 o1 (fun z=>(Zb.mp z).elim hb1 fun z=>by rw [mvn b1 z] at ho;cases ho) (sm2 b1 o1 ho),fun b1 h=>gc.dom b1 fun z=>h (sm2.free z),back,gc.nd,fun b1 hb1=>by
           rcases gc.sub b1 hb1 with z | z
           ·rcases Zb.mp z with z | z
            ·exact .inl z
            ·exact .inr (mvn b1 z)
           ·exact .inr (sm2.free z)⟩
          obtain ⟨z1,z2⟩:=s1.mut ht1 g1 gG
          exact kq u H' _ z1 (f1.trans z2) (ru.at G.me (kH z hno'.2))
        ·cases e7
       ·cases w4
      ·cases w4
     ·cases e2
    ·cases hob
   ·cases e2
  ·cases e
end
noncomputable def fnm (ns:List Str) (k:Nat):Str:=match ns[k]? with
 | some x=>x
 | none=>⟨#[k]⟩
noncomputable def gxO (ns:List Str) (K:X8) (C D:Addr):Gx:=⟨K,fun c=>(if c=2 then D else C,fnm ns),fun _=>none⟩
theorem y0 {ns:List Str} (nd:ns.Nodup) (h:∀ x∈ns,x.cps.size ≠ 1) (k k':Nat) (e:fnm ns k=fnm ns k'):k=k':=by
 unfold fnm at e
 by_cases h1:k < ns.length
 ·by_cases h2:k' < ns.length
  ·rw [Zr h1,Zr h2] at e
   exact (List.getElem_inj nd).mp e
  ·rw [Zr h1,Z0 (ZL h2)] at e
   have e':ns[k]=(⟨#[k']⟩:Str):=e
   exact absurd (by rw [e'];rfl) (h _ (Z6 h1))
 ·by_cases h2:k' < ns.length
  ·rw [Z0 (ZL h1),Zr h2] at e
   have e':(⟨#[k]⟩:Str)=ns[k']:=e
   exact absurd (by rw [← e'];rfl) (h _ (Z6 h2))
  ·rw [Z0 (ZL h1),Z0 (ZL h2)] at e
   have e':(⟨#[k]⟩:Str)=⟨#[k']⟩:=e
   cases e'
   rfl
theorem zG {ns:List Str} {K:X8} {C D:Addr} {m:Me} (nd:ns.Nodup) (h:∀ x∈ns,x.cps.size ≠ 1):jr ((gxO ns K C D).at m):=fun _ k k' e=>y0 nd h k k' e
theorem gb {ns:List Str} {x:Str} (h:x ∉ ns) (h1:x.cps.size ≠ 1) (k:Nat):fnm ns k ≠ x:=fun e=>by
 unfold fnm at e
 split at e
 ·rename_i y hy
  exact h (e ▸ YY hy)
 ·exact h1 (by rw [← e];rfl)
theorem um {ns:List Str} {K:X8} {C D:Addr} {m:Me} {k:Nat} {f:Str} (hk:ns[k]?=some f) (cC:Cls K C) (cD:Cls K D) (nC:aS K C f) (nD:aS K D f):FldOk ((gxO ns K C D).at m) K k f :=
 ⟨fun c=>by show fnm ns k=f;unfold fnm;rw [hk],fun c=>by show Cls K (if c+1=2 then D else C);split <;> assumption,fun c=>by show aS K (if c+1=2 then D else C) f;split <;> assumption⟩
structure MtAt (P:Program) (w:World) (K:X8) (mg:X9) (base:Heap) (k:Nat) (G:Gx) (c:Nat) (x:Str) (ps:List Str) (mv:List Bool) (g:Mt):Prop where
 ex:∃ f fd,FnOk P w K mg base CX0 k f fd ps (spM G c mv g)/\Meth K (G.ct (c+1)).1 x f/\Binds K fd ps []
 cl:Cls K (G.ct (c+1)).1
 no:∀ k,(G.ct (c+1)).2 k ≠ x
structure MpAt (P:Program) (w:World) (K:X8) (mg:X9) (base:Heap) (k:Nat) (G:Gx) (c:Nat) (x:Str) (ps:List Str) (h:Fn):Prop where
 ex:∃ f fd,FnOk P w K mg base CX0 k f fd ps (spF G h)/\Meth K (G.ct (c+1)).1 x f/\Binds K fd ps []
 cl:Cls K (G.ct (c+1)).1
 no:∀ k,(G.ct (c+1)).2 k ≠ x
structure InAt (P:Program) (w:World) (K:X8) (mg:X9) (base:Heap) (k:Nat) (G:Gx) (c n:Nat) (x:Str) (ps:List Str) (g:Mt):Prop where
 ex:∃ f fd,FnOk P w K mg base CX0 k f fd ps (spM G c (List.replicate n false) g)/\Mk K (G.ct (c+1)).1 f/\Binds K fd ps []
 mg:mg x=some (.ref (G.ct (c+1)).1)
section
variable {P:Program} {w:World} {K:X8} {mg:X9} {base:Heap} {k c n:Nat} {G:Gx} {x:Str} {ps:List Str} {mv:List Bool} {g:Mt}
theorem MtAt.at {m:Me} (h:MtAt P w K mg base k G c x ps mv g):MtAt P w K mg base k (G.at m) c x ps mv g:=⟨h.ex,h.cl,h.no⟩
theorem InAt.at {m:Me} (h:InAt P w K mg base k G c n x ps g):InAt P w K mg base k (G.at m) c n x ps g:=⟨h.ex,h.mg⟩
theorem kJ {qual:Str} {st:Stmt} {f:Addr} {fd:FuncData} {N:List Str} {np nn:Nat} {body:Sx} (F:Fun K x qual st f fd) (hm:Meth K (G.ct (c+1)).1 x f) (hc:Cls K (G.ct (c+1)).1) (hno:∀ k,(G.ct (c+1)).2 k ≠ x) (S:FnScope N ps (ah st)) (hp:ps.length=np) (hn:N.length=nn)
  (hbd:∀ (kV doc pm:Value) (an:Option Addr) (cdv ct:Value) (us:Wy),us.length=ps.length->bindArgs (PySem.W.fnOf x qual (cF st) (aQ st) (ah st) .none kV doc pm an cdv ct) ⟨us,[]⟩=pure (ps.zip us))
  (hb:∀ (a:Addr) (cdv:Value) (A:Around) (outer:List PySem.Env) (s:Shared) (H:Hp) (E:XK),Room k (A.deeper (envOfC qual (ah st) s.heap.objs.size f cdv))->gk (G.at (meA a)) (il CX0 P w K mg base N qual (ah st) f cdv A outer s H E).nox (aQ st) body) :
  MtAt P w K mg base (k+1) G c x ps mv (mfn c np nn mv body):=⟨⟨f,fd,fnM F S hp hn hb,hm,F.binds hbd⟩,hc,hno⟩
theorem BU {y qual:Str} {st:Stmt} {f:Addr} {fd:FuncData} {N:List Str} {np nn:Nat} {body:Sx} (F:Fun K y qual st f fd) (hm:Mk K (G.ct (c+1)).1 f) (hg:mg x=some (.ref (G.ct (c+1)).1)) (S:FnScope N ps (ah st)) (hp:ps.length=np) (hn:N.length=nn)
  (hbd:∀ (kV doc pm:Value) (an:Option Addr) (cdv ct:Value) (us:Wy),us.length=ps.length->bindArgs (PySem.W.fnOf y qual (cF st) (aQ st) (ah st) .none kV doc pm an cdv ct) ⟨us,[]⟩=pure (ps.zip us))
  (hb:∀ (a:Addr) (cdv:Value) (A:Around) (outer:List PySem.Env) (s:Shared) (H:Hp) (E:XK),Room k (A.deeper (envOfC qual (ah st) s.heap.objs.size f cdv))->gk (G.at (meA a)) (il CX0 P w K mg base N qual (ah st) f cdv A outer s H E).nox (aQ st) body) :
  InAt P w K mg base (k+1) G c n x ps (mfn c np nn (List.replicate n false) body):=⟨⟨f,fd,fnM F S hp hn hb,hm,F.binds hbd⟩,hg⟩
theorem ze {y qual:Str} {st:Stmt} {f:Addr} {fd:FuncData} {N:List Str} {np nn:Nat} {body:Sx} (F:FunD K y qual st f fd) (hm:Mk K (G.ct (c+1)).1 f) (hg:mg x=some (.ref (G.ct (c+1)).1)) (S:FnScope N ps (ah st)) (hp:ps.length=np) (hn:N.length=nn)
  (hbd:∀ (s:Shared) (T:Addr) (kV doc pm:Value) (an:Option Addr) (cdv ct:Value) (o:Obj) (n:Nat) (us:Wy),K.In s.heap->K.lookup T=some o->o.data=.seq #[.none] n->us.length=ps.length->BindsTo s (PySem.W.fnOf y qual (cF st) (aQ st) (ah st) (.ref T) kV doc pm an cdv ct) ⟨us,[]⟩ (ps.zip us))
  (hb:∀ (a:Addr) (cdv:Value) (A:Around) (outer:List PySem.Env) (s:Shared) (H:Hp) (E:XK),Room k (A.deeper (envOfC qual (ah st) s.heap.objs.size f cdv))->gk (G.at (meA a)) (il CX0 P w K mg base N qual (ah st) f cdv A outer s H E).nox (aQ st) body) :
  InAt P w K mg base (k+1) G c n x ps (mfn c np nn (List.replicate n false) body):=⟨⟨f,fd,DR (fun l b=>F.ok S l b) hp hn hb,hm,F.binds hbd⟩,hg⟩
theorem lU {qual:Str} {st:Stmt} {f:Addr} {fd:FuncData} {N:List Str} {np nn:Nat} {body:Sx} (F:Fun K x qual st f fd) (hm:Meth K (G.ct (c+1)).1 x f) (hc:Cls K (G.ct (c+1)).1) (hno:∀ k,(G.ct (c+1)).2 k ≠ x) (S:FnScope N ps (ah st)) (hp:ps.length=np) (hn:N.length=nn)
  (hbd:∀ (kV doc pm:Value) (an:Option Addr) (cdv ct:Value) (us:Wy),us.length=ps.length->bindArgs (PySem.W.fnOf x qual (cF st) (aQ st) (ah st) .none kV doc pm an cdv ct) ⟨us,[]⟩=pure (ps.zip us))
  (hb:∀ (cdv:Value) (A:Around) (outer:List PySem.Env) (s:Shared) (H:Hp) (E:XK),Room k (A.deeper (envOfC qual (ah st) s.heap.objs.size f cdv))->gk G (il CX0 P w K mg base N qual (ah st) f cdv A outer s H E).nox (aQ st) body) :
  MpAt P w K mg base (k+1) G c x ps (fn np nn body):=⟨⟨f,fd,fnV F S hp hn hb,hm,F.binds hbd⟩,hc,hno⟩
end
section
variable {G:Gx} {X:Cx} {i j c k k' kr n:Nat} {way:List Stp} {o e b:Expr} {es:List Expr} {cs:Exs} {ca ck ce:Ex} {m x:Str} {ps:List Str} {mv:List Bool} {g:Mt} {h:Fn} {xc:Xx} {f:Str} {apos cpos pos pos' p p1:Pos}
theorem g8 {pl:Sem Bool} (J:jr G) (F:MtAt X.prog X.w X.K X.mg X.base k G c m ps mv g) (hr:Room k' X.A) (hk:k<=k') (ho:PPl G X o i way) (ha:PVs G X (e :: es) cs)
  (hst:starEach (e :: es) X.env=(false,eval e X.env) :: starEach es X.env) (hpl:(backTo pos (starEach es X.env)).any (·.1)=false)
  (ht:eval (.Call (.Attribute o m apos) (e :: es) [] pos) X.env=(do
   let ov ← eval o X.env
   standAt apos.atName
   let (f,first) ← holding [ov] (getMethod ov m pl)
   callWith pos f first (backTo pos (starEach (e :: es) X.env)) (backToKw pos (keywordEach [] X.env)))):PX G X (.Call (.Attribute o m apos) (e :: es) [] pos) (bq i way c mv g cs):=by
 obtain ⟨f,fd,h1,h2,h3⟩:=F.ex
 exact zI J F.no ho F.cl h2 h1 hr hk h3 ha hst hpl ht
theorem wZ {pl:Sem Bool} (J:jr G) (F:MtAt X.prog X.w X.K X.mg X.base k G c m ps mv g) (hr:Room k' X.A) (hk:k<=k') (ho:PPl G X o i way)
  (ht:eval (.Call (.Attribute o m apos) [] [] pos) X.env=(do
   let ov ← eval o X.env
   standAt apos.atName
   let (f,first) ← holding [ov] (getMethod ov m pl)
   callWith pos f first (backTo pos (starEach [] X.env)) (backToKw pos (keywordEach [] X.env)))):PX G X (.Call (.Attribute o m apos) [] [] pos) (bq i way c mv g aj):=by
 obtain ⟨f,fd,h1,h2,h3⟩:=F.ex
 exact we J F.no ho F.cl h2 h1 hr hk h3 ht
theorem AY {pl:Sem Bool} (F:MtAt X.prog X.w X.K X.mg X.base k G c m ps mv g) (hr:Room k' X.A) (hk:k<=k') (hN:X.N[i]?=some x) (hv:Vis X.env.scope x) (hd:(x == ("__debug__" : Str))=false) (hcd:(x == ("__classdict__" : Str))=false) (h1:PX G X e xc) (ha:PVs G X es cs)
  (hst:starEach (e :: es) X.env=(false,eval e X.env) :: starEach es X.env) (hpl:(backTo pos (starEach es X.env)).any (·.1)=false)
  (ht:eval (.Call (.Attribute (.Name x p1) m apos) (e :: es) [] pos) X.env=(do
   let ov ← eval (.Name x p1) X.env
   standAt apos.atName
   let (f,first) ← holding [ov] (getMethod ov m pl)
   callWith pos f first (backTo pos (starEach (e :: es) X.env)) (backToKw pos (keywordEach [] X.env)))):PX G X (.Call (.Attribute (.Name x p1) m apos) (e :: es) [] pos) (nZ i c mv g xc cs):=by
 obtain ⟨f,fd,h2,h3,h4⟩:=F.ex
 exact yE F.no hN hv hd hcd F.cl h3 h2 hr hk h4 h1 ha hst hpl ht
theorem zj {pl:Sem Bool} (F:MpAt X.prog X.w X.K X.mg X.base k G c m ps h) (hr:Room k' X.A) (hk:k<=k') (ho:PV G X o ca) (ha:PVs G X (e :: es) cs)
  (hst:starEach (e :: es) X.env=(false,eval e X.env) :: starEach es X.env) (hpl:(backTo pos (starEach es X.env)).any (·.1)=false)
  (ht:eval (.Call (.Attribute o m apos) (e :: es) [] pos) X.env=(do
   let ov ← eval o X.env
   standAt apos.atName
   let (f,first) ← holding [ov] (getMethod ov m pl)
   callWith pos f first (backTo pos (starEach (e :: es) X.env)) (backToKw pos (keywordEach [] X.env)))):PV G X (.Call (.Attribute o m apos) (e :: es) [] pos) (eY c h ca cs):=by
 obtain ⟨f,fd,h1,h2,h3⟩:=F.ex
 exact A3 F.no ho F.cl h2 h1 hr hk h3 ha hst hpl ht
theorem l7 {pl:Sem Bool} (F:MpAt X.prog X.w X.K X.mg X.base k G c m ps h) (hr:Room k' X.A) (hk:k<=k') (ho:PV G X o ca)
  (ht:eval (.Call (.Attribute o m apos) [] [] pos) X.env=(do
   let ov ← eval o X.env
   standAt apos.atName
   let (f,first) ← holding [ov] (getMethod ov m pl)
   callWith pos f first (backTo pos (starEach [] X.env)) (backToKw pos (keywordEach [] X.env)))):PV G X (.Call (.Attribute o m apos) [] [] pos) (eY c h ca aj):=by
 obtain ⟨f,fd,h1,h2,h3⟩:=F.ex
 exact zN F.no ho F.cl h2 h1 hr hk h3 ht
theorem C6 {e:Ex}:∀ (η:VS.Env) (xs:Ws),ab e aj η=some xs->xs.length=1:=fun η xs h=>by
 obtain ⟨a,_,h⟩:=Zz.mp h
 cases h
 rfl
theorem Ct (F:InAt X.prog X.w X.K X.mg X.base k G c n x ps g) (hr:Room k' X.A) (hk:k+1<=k') (ha:PVs G X (e :: es) cs) (hn:∀ η xs,cs η=some xs->xs.length=n) (hg:Gl X x)
  (hdb:(x == ("__debug__" : Str))=false) (he:starEach (e :: es) X.env=(false,eval e X.env) :: starEach es X.env) (hpl:(backTo pos (starEach es X.env)).any (·.1)=false):PV G X (.Call (.Name x p) (e :: es) [] pos) (eNew c g cs):=by
 obtain ⟨f,fd,h1,h2,h3⟩:=F.ex
 exact CB n h2 h1 hr hk hg F.mg h3 ha hn hdb he hpl
theorem yY (F:InAt X.prog X.w X.K X.mg X.base k G c 0 x ps g) (hr:Room k' X.A) (hk:k+1<=k') (hg:Gl X x) (hdb:(x == ("__debug__" : Str))=false):PV G X (.Call (.Name x p) [] [] pos) (eNew c g aj):=by
 obtain ⟨f,fd,h1,h2,h3⟩:=F.ex
 exact Cf h2 h1 hr hk hg F.mg h3 hdb
theorem pw (J:jr G) (ho:PPl G X o i way) (ha:PVs G X [e] cs) (hK:X.K=G.K)
  (hbase:attributeBase o "append" X.env (eval o X.env)=eval o X.env)
  (hfew:((backTo cpos (starEach [e] X.env)).all (fun x=>!x.1) && (backToKw cpos (keywordEach [] X.env)).all (fun x=>x.1.isSome)
   && decide ([e].length+([]:List Keyword).length+(if ([]:List Keyword).isEmpty then 0 else 1) < 30))=true)
  (hline:(apos.endLine == cpos.line)=true) (hs:starEach [e] X.env=(false,eval e X.env) :: starEach [] X.env) (hplain:(backTo cpos (starEach [] X.env)).any (·.1)=false)
  (hsw:swapsWith (.Call (.Attribute o "append" apos) [e] [] cpos) none pos.line X.env=pure false) :
  PSV G X (.Expr (.Call (.Attribute o "append" apos) [e] [] cpos) pos) (sX (ig i way aA cs)) :=
 vW J Xj Xm Xn i7 nG (fun H v t F l z r h=>lb r h) ho ha hK hbase hfew hline hs hplain hsw
end
noncomputable def mkT (m:Nat) (t:T):T:=.obj 0 [(0,.bl true),(m,t)]
noncomputable def unT:T->Option (Nat×T)
 | .obj 0 [(0,.bl true),(m,t)]=>some (m,t)
 | _=>none
theorem jW {t u:T} {m:Nat} (h:unT t=some (m,u)):t=mkT m u:=by
 unfold unT at h
 split at h
 ·cases h;rfl
 ·cases h
noncomputable def qw (vs:List V):Me:=fun k=>match k with
 | 0=>none
 | k+1=>vs[k]?
noncomputable def markL:Nat->List Bool->Wq->Wq
 | k,b :: bs,t :: ts=>(if b then mkT (k+1) t else t) :: markL (k+1) bs ts
 | _,_,_=>[]
noncomputable def kZ (η:VS.Env):Nat->List Bool->Option (Wq)
 | _,[]=>some []
 | k,true :: bs=>match (η[k]?:Option (Wt)) with
  | some (some (.ow t))=>(unT t).bind fun z=>if z.1=k+1 then (kZ η (k+1) bs).map (z.2 :: ·) else none
  | _=>none
 | k,false :: bs=>kZ η (k+1) bs
noncomputable def dq {α:Type}:List Bool->List α->List α
 | true :: bs,x :: xs=>x :: dq bs xs
 | false :: bs,_ :: xs=>dq bs xs
 | _,_=>[]
noncomputable def ioΦ (Φ:Fps):Nat->List Bool->Xk
 | _,[]=>[]
 | k,true :: bs=>Φ k :: ioΦ Φ (k+1) bs
 | k,false :: bs=>ioΦ Φ (k+1) bs
noncomputable def xw:T->Bool
 | .str _=>true
 | _=>false
noncomputable def uL (os:Wq) (v:Val):Bool:=imm v.2 || (match os,v with
 | [.lst [.int _]],(.fr,.lst ts)=>ts.all xw
 | _,_=>false)
theorem yR {os:Wq} {v:Val} (h:uL os v=true):imm v.2=true\/∃ n ts,os=[.lst [.int n]]/\v=(.fr,.lst ts)/\ts.all xw=true:=by
 unfold uL at h
 rcases Bool.or_eq_true_iff.mp h with h | h
 ·exact .inl h
 ·split at h
  ·exact .inr ⟨_,_,rfl,rfl,h⟩
  ·cases h
theorem qT {ts:Wq} (h:ts.all xw=true):dW ts=true/\aY ts=true:=by
 induction ts with
 | nil=>exact ⟨rfl,rfl⟩
 | cons t ts ih =>
  rw [Xz,Zf] at h
  cases t <;> first | exact ih h.2 | cases h.1
noncomputable def ifn (np nn:Nat) (mv:List Bool) (body:Sx):Wq->Option (Wq×T)
 | t0 :: ts=>if ts.length+1=np/\mv.length=ts.length then
  (body ((some (.ow (mkT 1 t0)) :: List.zipWith iz mv (markL 1 mv ts))++List.replicate (nn - np) none)).bind fun o=>match o with
   | .rt v η=>(kZ η 0 (true :: mv)).bind fun os=>if uL os v=true/\aY os=true then some (os,v.2) else none
   | .nx η=>(kZ η 0 (true :: mv)).bind fun os=>if aY os=true then some (os,.non) else none
   | _=>none else none
 | []=>none
structure ChI (G:Gx) (H:Hp) (mv:List Bool) (vs:List V) (Fs:Xk) (os:Wq) (H2:Hp) (Gs:Xk):Prop where
 kept:Kept H H2
 keep:∀ b o,b ∉ mvF mv Fs->H b=some o->H2 b=some o
 dom:∀ b,H b ≠ none->H2 b ≠ none
 rp:RpL G H2 (dq mv vs) os Gs
 nd:Gs.flatten.Nodup
 sub:∀ a∈Gs.flatten,a∈mvF mv Fs\/H a=none
noncomputable def spI (G:Gx) (mv:List Bool) (g:Wq->Option (Wq×T)):Sp:=fun vs H Q _=>∃ (a:Addr) (us:List V) (t0:T) (ts:Wq) (F:Wz) (Fs:Xk) (os:Wq) (x:T),vs=.ref a :: us/\Rp G H (.ref a) t0 F/\RpL G H us ts Fs/\(∀ v∈dq mv us,∃ b,v=.ref b)/\dG t0=true/\aY ts=true/\mv.length=ts.length ∧
 (F++mvF mv Fs).Nodup/\(∀ b∈F++mvF mv Fs,b ∉ puF mv Fs)/\g (t0 :: ts)=some (os,x)/\∀ u H' Gs Fu,ChI G H (true :: mv) vs (F :: Fs) os H' Gs->Rp G H' u x Fu->Fu.Nodup->(∀ a∈Fu,a ∉ Gs.flatten)->(∀ a∈Fu,H a=none\/a∈F++mvF mv Fs)->Q u H'
section
variable {G:Gx} {H:Hp}
theorem new_apart {G':Gx} {vs:List V} {n:Int} {Gs:Xk} {u:V} {ts:Wq} {F:Wz} (r:RpL G H vs [.lst [.int n]] Gs) (q:Rp G' H u (.lst ts) F) (hs:ts.all xw=true):∀ a∈F,a ∉ Gs.flatten:=by
 cases r with
 | cons r0 r1 =>
  cases r1
  obtain ⟨a,vs,Fs,rfl,rfl,h1,h2⟩:=r0.lst_inv
  obtain ⟨p,ws,Hs,rfl,rfl,g1,g2⟩:=q.lst_inv
  rw [g2.imm (qT hs).1]
  intro b hb hb'
  rw [Za] at hb
  subst hb
  cases h2 with
  | cons i0 i1 =>
   cases i1
   cases i0
   have:b=a:=by simpa using hb'
   subst this
   rw [h1] at g1
   cases g1
   cases g2 with
   | cons k0 k1 =>
    cases k1
    cases k0
    cases hs
theorem tm {m:Me}:∀ {bs:List Bool} {us:List V} {ts:Wq} {Fs:Xk} (k:Nat),RpL (G.at m) H us ts Fs->(∀ v∈dq bs us,∃ b,v=.ref b)->(∀ j,m (k+1+j)=us[j]?)->bs.length=ts.length->RpL (G.at m) H us (markL k bs ts) Fs
 | [],_,_,_,k,.nil,_,_,_=>.nil
 | [],_,_,_,k,.cons _ _,_,_,h=>by simp at h
 | _ :: _,_,_,_,k,.nil,_,_,h=>by simp at h
 | b :: bs,v :: us,t :: ts,F :: Fs,k,.cons r q,hr,hm,hl=>by
  have ih:=tm (bs:=bs) (k+1) q (fun w hw=>hr w (by cases b <;> simp [dq,hw])) (fun j=>by rw [show k+1+1+j=k+1+(j+1) by omega,hm (j+1)];rfl) (by simpa using hl)
  cases b with
  | false=>exact .cons r ih
  | true =>
   obtain ⟨a,rfl⟩:=hr v (by simp [dq])
   exact .cons (.mk (hm 0) r) ih
theorem rm {vs:List V} {Φ:Fps} {η:VS.Env} {σ:L2.St} (s:SR (G.at (qw vs)) Φ η σ H):∀ (bs:List Bool) (k:Nat) (os:Wq),kZ η k bs=some os->aY os=true →
  RpL G H (dq bs (vs.drop k)) os (ioΦ Φ k bs)/\(ioΦ Φ k bs).flatten.Nodup/\∀ a∈(ioΦ Φ k bs).flatten,∃ j t,k<=j/\η[j]?=some (some (.ow t))/\a∈Φ j
 | [],k,os,h,_=>by
  cases h
  refine ⟨?_,Z5,fun a h=>nomatch h⟩
  cases vs.drop k <;> exact .nil
 | false :: bs,k,os,h,hn=>by
  obtain ⟨h1,h2,h3⟩:=rm s bs (k+1) os h hn
  refine ⟨?_,h2,fun a ha=>?_⟩
  ·rw [← List.drop_drop,List.drop_one] at h1
   cases hv:vs.drop k with
   | nil=>rw [hv] at h1;cases bs <;> (try rename_i b _;cases b) <;> exact h1
   | cons v r=>rw [hv] at h1;exact h1
  ·obtain ⟨j,t,a1,a2⟩:=h3 a ha
   exact ⟨j,t,by omega,a2⟩
 | true :: bs,k,os,h,hn=>by
  unfold kZ at h
  split at h
  ·rename_i t ht
   obtain ⟨⟨m,u⟩,e1,e2⟩:=Zz.mp h
   split at e2
   ·rename_i hm
    obtain ⟨os',e3,rfl⟩:=Zy.mp e2
    rw [aY,Zf] at hn
    obtain ⟨h1,h2,h3⟩:=rm s bs (k+1) os' e3 hn.2
    have et:=jW e1
    subst et
    have hm':m=k+1:=hm
    subst hm'
    obtain ⟨v,g1,g2⟩:=s.rp k _ ht
    obtain ⟨a,rfl,g3,g4⟩:=kD (show Rp (G.at (qw vs)) H v (.obj 0 [(0,.bl true),(k+1,u)]) (Φ k) from g2)
    have g5:vs[k]?=some (.ref a):=g3
    have hd:vs.drop k=.ref a :: vs.drop (k+1):=by
     obtain ⟨hk,e⟩:=Zh.mp g5
     rw [List.drop_eq_getElem_cons hk,e]
    refine ⟨?_,?_,fun b hb=>?_⟩
    ·rw [hd]
     exact .cons (g4.at G.me hn.1) h1
    ·show (Φ k++(ioΦ Φ (k+1) bs).flatten).Nodup
     refine ZU.mpr ⟨s.nd k _ ht,h2,fun b hb c hc z=>?_⟩
     subst z
     obtain ⟨j,t',a1,a2,a3⟩:=h3 b hc
     exact s.sep k j _ _ ht a2 (by omega) b hb a3
    ·rcases Zb.mp (show b∈Φ k++(ioΦ Φ (k+1) bs).flatten from hb) with z | z
     ·exact ⟨k,_,Zi _,ht,z⟩
     ·obtain ⟨j,t',a1,a2⟩:=h3 b z
      exact ⟨j,t',by omega,a2⟩
   ·cases e2
  ·cases h
end
section
variable {G:Gx} {P:Program} {w:World} {K:X8} {mg:X9} {base:Heap}
theorem fnI {x qual:Str} {st:Stmt} {f:Addr} {fd:FuncData} {N ps:List Str} {k np nn:Nat} {mv:List Bool} {body:Sx} (F:Fun K x qual st f fd) (S:FnScope N ps (ah st)) (hp:ps.length=np) (hn:N.length=nn)
  (hb:∀ (m:Me) (cdv:Value) (A:Around) (outer:List PySem.Env) (s:Shared) (H:Hp) (E:XK),Room k (A.deeper (envOfC qual (ah st) s.heap.objs.size f cdv))->gk (G.at m) (il CX0 P w K mg base N qual (ah st) f cdv A outer s H E).nox (aQ st) body) :
  FnOk P w K mg base CX0 (k+1) f fd ps (spI G mv (ifn np nn mv body)):=by
 refine F.ok S (fun vs H Q E h=>?_) fun cdv A outer s H vs Q E hr h=>?_
 ·obtain ⟨a,us,t0,ts,F0,Fs,os,y,rfl,r0,r,rf,no,nos,hm,nd,sp,e,q⟩:=h
  dsimp only [ifn] at e
  split at e
  ·rename_i hl
   rw [Zl,r.len.1,hl.1,hp]
  ·cases e
 ·obtain ⟨a,us,t0,ts,F0,Fs,os,y,rfl,r0,r,rf,no,nos,hm,nd,sp,e,q⟩:=h
  refine ⟨_,hb (qw (.ref a :: us)) cdv A outer s H E hr,?_⟩
  dsimp only [ifn] at e
  split at e
  ·rename_i hl
   obtain ⟨o,e1,e2⟩:=Zz.mp e
   have hml:∀ (bs:List Bool) (ts:Wq) (k:Nat),bs.length=ts.length->(markL k bs ts).length=ts.length:=by
    intro bs
    induction bs with
    | nil=>intro ts k h;cases ts <;> simp_all [markL]
    | cons b bs ih =>
     intro ts k h
     cases ts with
     | nil=>simp at h
     | cons t ts=>simp only [markL,Zl];rw [ih ts (k+1) (by simpa using h)]
   have m1:=tm (m:=qw (.ref a :: us)) (bs:=mv) 1 (r.at (qw (.ref a :: us)) nos) rf (fun j=>by rw [show 1+1+j=(1+j)+1 by omega];show (V.ref a :: us)[1+j]?=_;rw [Nat.add_comm 1 j];rfl) hm
   obtain ⟨s0,ow0⟩:=qg (mv:=mv) (Rp.mk (m:=1) (show (G.at (qw (.ref a :: us))).me 1=some (.ref a) from rfl) (r0.at (qw (.ref a :: us)) no)) m1 (by rw [hml mv ts 1 hm];exact hm) nd sp nn (us.length+1) rfl
   rw [hml mv ts 1 hm,hl.1] at s0 ow0
   have e3:L2.start N (V.ref a :: us)=(V.ref a :: us).map some++List.replicate (nn - (us.length+1)) none:=by
    unfold L2.start
    rw [hn]
    rfl
   rw [e3]
   have ow1:∀ b,bF (fun i=>(F0 :: Fs).getD i []) ((some (.ow (mkT 1 t0)) :: List.zipWith iz mv (markL 1 mv ts))++List.replicate (nn - np) none) b->b∈mvF (true :: mv) (F0 :: Fs):=ow0
   have fin:∀ {η':VS.Env} {Φ':Fps} {σ':L2.St} {H':Hp} {os:Wq},kZ η' 0 (true :: mv)=some os->aY os=true->SR (G.at (qw (.ref a :: us))) Φ' η' σ' H'->Frm (fun i=>(F0 :: Fs).getD i []) ((some (.ow (mkT 1 t0)) :: List.zipWith iz mv (markL 1 mv ts))++List.replicate (nn - np) none) H Φ' η' H' →
     ChI G H (true :: mv) (.ref a :: us) (F0 :: Fs) os H' (ioΦ Φ' 0 (true :: mv)):=fun {η' Φ' σ' H' os} ho hno s' fr=>by
    obtain ⟨h1,h2,h3⟩:=rm s' (true :: mv) 0 os ho hno
    refine ⟨fr.kept,fun b' o' hb' ho=>(fr.keep b' o' ho fun z=>hb' (ow1 b' z)).1,fr.dom,h1,h2,fun b' hb'=>?_⟩
    obtain ⟨j,t,_,a2,a3⟩:=h3 b' hb'
    rcases fr.ow b' ⟨j,t,a2,a3⟩ with z | z
    ·exact .inl (ow1 b' z)
    ·exact .inr z
   refine ⟨_,_,o,s0,e1,?_⟩
   cases o with
   | nx η' =>
    obtain ⟨os2,e4,e5⟩:=Zz.mp e2
    split at e5
    ·rename_i hi
     cases e5
     intro Φ' σ' H' s' fr
     exact q .non H' _ [] (fin e4 hi s' fr) .non Z5 (fun a h=>nomatch h) fun a h=>nomatch h
    ·cases e5
   | rt v η' =>
    obtain ⟨os2,e4,e5⟩:=Zz.mp e2
    split at e5
    ·rename_i hi
     cases e5
     intro u H' F' Φ' σ' s' fr r' rf
     rcases yR hi.1 with z | ⟨n,ts',rfl,rfl,z⟩
     ·have:=r'.imm z
      subst this
      exact q u H' _ [] (fin e4 hi.2 s' fr) (r'.at G.me (kH _ z)) Z5 (fun a h=>nomatch h) fun a h=>nomatch h
     ·have ch:=fin e4 hi.2 s' fr
      exact q u H' _ F' ch (r'.at G.me (qT z).2) rf.1 (new_apart ch.rp r' z) fun a ha=>(rf.2 a ha).imp id (ow1 a)
    ·cases e5
   | bk η'=>cases e2
   | ct η'=>cases e2
  ·cases e
end
section
variable {G:Gx}
theorem SR.mutS {Φ Φ':Fps} {η η':VS.Env} {σ:L2.St} {H H2:Hp} {S:Nat->Prop} (s:SR G Φ η σ H) (hl:η'.length=η.length) (off:∀ j,¬ S j->η'[j]?=η[j]?/\Φ' j=Φ j) (on:∀ j,S j->∃ t t' v,η[j]?=some (some (.ow t))/\η'[j]?=some (some (.ow t'))/\σ[j]?=some (some v)/\Rp G H2 v t' (Φ' j)/\(Φ' j).Nodup)
  (ap:∀ i j,S i->S j->i ≠ j->∀ a∈Φ' i,a ∉ Φ' j) (kept:Kept H H2) (keep:∀ b o,(∀ j,S j->b ∉ Φ j)->H b=some o->H2 b=some o) (dom:∀ b,H b ≠ none->H2 b ≠ none) (sub:∀ j,S j->∀ a∈Φ' j,(∃ i,S i/\a∈Φ i)\/H a=none) :
  SR G Φ' η' σ H2/\Frm Φ η H Φ' η' H2:=by
 have far:∀ j c,¬ S j->η[j]?=some (some c)->∀ a∈Φ j,∀ i,S i->a ∉ Φ i:=fun j c hj hc a ha i hi ha'=>by
  obtain ⟨t,_,_,h1,_⟩:=on i hi
  exact s.sep i j t c h1 hc (fun e=>hj (e ▸ hi)) a ha' ha
 have new:∀ i,S i->∀ a∈Φ' i,∀ j c,¬ S j->η[j]?=some (some c)->a ∉ Φ j:=fun i hi a ha j c hj hc ha'=>by
  rcases sub i hi a ha with ⟨k,hk,z⟩ | z
  ·exact far j c hj hc a ha' k hk z
  ·obtain ⟨w,_,q⟩:=s.rp j c hc
   exact Mut.ne_none (q.dom a ha') z
 refine ⟨⟨hl.trans s.len,fun i c h=>?_,fun i t h=>?_,fun i j t c h1 h2 n=>?_⟩,⟨fun a o h n=>⟨keep a o (fun j hj z=>?_) h,fun z=>?_⟩,dom,fun a h=>?_,fun a h=>?_,kept⟩⟩
 ·by_cases hi:S i
  ·obtain ⟨t,t',v,g1,g2,g3,g4,_⟩:=on i hi
   rw [g2] at h
   cases h
   exact ⟨v,g3,g4⟩
  ·obtain ⟨g1,g2⟩:=off i hi
   rw [g1] at h
   obtain ⟨v,q1,q2⟩:=s.rp i c h
   rw [g2]
   exact ⟨v,q1,q2.keep kept fun a ha o ho=>keep a o (fun j hj=>far i c hi h a ha j hj) ho⟩
 ·by_cases hi:S i
  ·exact (on i hi).choose_spec.choose_spec.choose_spec.2.2.2.2
  ·obtain ⟨g1,g2⟩:=off i hi
   rw [g1] at h
   rw [g2]
   exact s.nd i t h
 ·by_cases hi:S i
  ·by_cases hj:S j
   ·exact ap i j hi hj n
   ·obtain ⟨g1,g2⟩:=off j hj
    rw [g1] at h2
    rw [g2]
    exact fun a ha=>new i hi a ha j c hj h2
  ·obtain ⟨g1,g2⟩:=off i hi
   rw [g1] at h1
   rw [g2]
   by_cases hj:S j
   ·exact fun a ha ha'=>new j hj a ha' i _ hi h1 ha
   ·obtain ⟨g3,g4⟩:=off j hj
    rw [g3] at h2
    rw [g4]
    exact s.sep i j t c h1 h2 n
 ·obtain ⟨t,_,_,h1,_⟩:=on j hj
  exact n ⟨j,t,h1,z⟩
 ·obtain ⟨j,t,h1,h2⟩:=z
  by_cases hj:S j
  ·rcases sub j hj a h2 with ⟨i,hi,z⟩ | z
   ·obtain ⟨t,_,_,g1,_⟩:=on i hi
    exact n ⟨i,t,g1,z⟩
   ·rw [z] at h;cases h
  ·obtain ⟨g1,g2⟩:=off j hj
   rw [g1] at h1
   rw [g2] at h2
   exact n ⟨j,t,h1,h2⟩
 ·obtain ⟨j,t,h1,h2⟩:=h
  by_cases hj:S j
  ·rcases sub j hj a h2 with ⟨i,hi,z⟩ | z
   ·obtain ⟨t,_,_,g1,_⟩:=on i hi
    exact .inl ⟨i,t,g1,z⟩
   ·exact .inr z
  ·obtain ⟨g1,g2⟩:=off j hj
   rw [g1] at h1
   rw [g2] at h2
   exact .inl ⟨j,t,h1,h2⟩
 ·obtain ⟨j,t,h1,h2⟩:=h
  by_cases hj:S j
  ·obtain ⟨t,t',v,g1,g2,_⟩:=on j hj
   rw [g2] at h1
   cases h1
  ·obtain ⟨g1,g2⟩:=off j hj
   rw [g1] at h1
   rw [g2] at h2
   exact .inl ⟨j,t,h1,h2⟩
end
inductive Ia where | io (i:Nat) (un:Bool) | ex (c:Ex)
noncomputable def ioV (un:Bool):Option (Wt)->Option T
 | some (some (.ow t))=>if un then (unT t).map (·.2) else if nV t then some t else none
 | _=>none
noncomputable def exV (v:Val):Option T:=match v.1 with
 | .bo=>if imm v.2 then some v.2 else none
 | _=>some v.2
noncomputable def iu (η:VS.Env):List Ia->Option (Wq)
 | []=>some []
 | .io i un :: as=>(ioV un η[i]?).bind fun t=>(iu η as).map (t :: ·)
 | .ex c :: as=>(c η).bind fun v=>(exV v).bind fun t=>(iu η as).map (t :: ·)
noncomputable def iaB:List Ia->List Bool
 | []=>[]
 | .io _ _ :: as=>true :: iaB as
 | .ex _ :: as=>false :: iaB as
noncomputable def iaS:List Ia->Ww
 | []=>[]
 | .io i _ :: as=>i :: iaS as
 | .ex _ :: as=>iaS as
noncomputable def nN (un:Bool) (c:Option (Wt)) (o:T):T:=if un then (match c with
 | some (some (.ow t))=>(match unT t with
  | some z=>mkT z.1 o
  | none=>o)
 | _=>o) else o
noncomputable def ij:List Ia->Wq->VS.Env->VS.Env
 | .io i un :: as,o :: os,η=>ij as os (η.set i (some (.ow (nN un η[i]? o))))
 | .ex _ :: as,os,η=>ij as os η
 | _,_,η=>η
noncomputable def gx (as:List Ia) (g:Wq->Option (Wq×T)):Xx:=fun η=>(iu η as).bind fun ts=>if aY ts=true/\(iaS as).Nodup then (g ts).map fun z=>((.fr,z.2),ij as z.1 η) else none
inductive IaR (Φ:Fps) (η:VS.Env) (σ:L2.St) (H:Hp):List Ia->List V->Xk->Prop
 | nil:IaR Φ η σ H [] [] []
 | io {i:Nat} {un:Bool} {a:Addr} {as:List Ia} {vs:List V} {Fs:Xk}:σ[i]?=some (some (.ref a))->IaR Φ η σ H as vs Fs->IaR Φ η σ H (.io i un :: as) (.ref a :: vs) (Φ i :: Fs)
 | ex {c:Ex} {v:V} {F:Wz} {as:List Ia} {vs:List V} {Fs:Xk}:(∀ a∈F,H a=none\/cO Φ η a)->IaR Φ η σ H as vs Fs->IaR Φ η σ H (.ex c :: as) (v :: vs) (F :: Fs)
noncomputable def tIa (G:Gx) (as:List Ia):TA:=fun σ H Q=>∃ Φ η ts,SR G Φ η σ H/\iu η as=some ts/\∀ vs H' Fs,aG H H'->RpL G H' vs ts Fs->IaR Φ η σ H as vs Fs->Q vs H'
noncomputable def PIa (G:Gx) (X:Cx) (es:List Expr) (as:List Ia):Prop:=PA X es (tIa G as)
section
variable {G:Gx} {X:Cx} {e:Expr} {es:List Expr} {as:List Ia} {c:Ex} {pos:Pos}
theorem vH {H:Hp} {v:V} {t:T} {F:Wz} (r:Rp G H v t F) (h:nV t=true):∃ a,v=.ref a:=by
 cases r <;> first | exact ⟨_,rfl⟩ | (simp at h)
theorem IaR.mono {Φ:Fps} {η:VS.Env} {σ:L2.St} {H H1:Hp} (e:aG H H1) {as:List Ia} {vs:List V} {Fs:Xk} (h:IaR Φ η σ H1 as vs Fs):IaR Φ η σ H as vs Fs:=by
 induction h with
 | nil=>exact .nil
 | io h _ ih=>exact .io h ih
 | ex h _ ih=>exact .ex (fun a ha=>(h a ha).imp e.free id) ih
theorem yg:PIa G X [] []:=PA.weak g7 fun σ H Q hq=>by
 obtain ⟨Φ,η,ts,s,e,k⟩:=hq
 cases e
 exact k [] H [] (aG.refl _) .nil .nil
theorem BK (i:Nat) (un:Bool) {x:Str} (hN:X.N[i]?=some x) (hv:Vis X.env.scope x) (hd:(x == ("__debug__" : Str))=false) (hcd:(x == ("__classdict__" : Str))=false) (hr:PIa G X es as)
  (hs:starEach (.Name x pos :: es) X.env=(false,eval (.Name x pos) X.env) :: starEach es X.env):PIa G X (.Name x pos :: es) (.io i un :: as) :=
 PA.weak (cZ (fq hN hv hd hcd) hr hs) fun σ H Q hq=>by
  obtain ⟨Φ,η,ts,s,e,k⟩:=hq
  obtain ⟨t,e1,e2⟩:=Zz.mp (show (ioV un η[i]?).bind (fun t=>(iu η as).map (t :: ·))=some ts from e)
  obtain ⟨ts',e3,rfl⟩:=Zy.mp e2
  unfold ioV at e1
  split at e1
  ·rename_i t0 h0
   obtain ⟨v,h1,h2⟩:=s.rp _ _ h0
   have h2':Rp G H v t0 (Φ i):=h2
   have key:∃ a,v=.ref a/\Rp G H (.ref a) t (Φ i):=by
    split at e1
    ·obtain ⟨⟨m,u⟩,g1,g2⟩:=Zy.mp e1
     cases g2
     rw [jW g1] at h2'
     obtain ⟨a,q1,_,q2⟩:=kD h2'
     exact ⟨a,q1,q2⟩
    ·split at e1
     ·rename_i hm
      cases e1
      obtain ⟨a,rfl⟩:=vH h2' hm
      exact ⟨a,rfl,h2'⟩
     ·cases e1
   obtain ⟨a,rfl,r⟩:=key
   exact ⟨_,h1,Φ,η,ts',s,e3,fun vs H' Fs sm rp ia=>k _ H' _ sm (.cons (r.same sm) rp) (.io h1 ia)⟩
  ·cases e1
theorem vT (h:PV G X e c) (hr:PIa G X es as) (hs:starEach (e :: es) X.env=(false,eval e X.env) :: starEach es X.env):PIa G X (e :: es) (.ex c :: as) :=
 PA.weak (cZ h hr hs) fun σ H Q hq=>by
  obtain ⟨Φ,η,ts,s,e,k⟩:=hq
  obtain ⟨⟨m,t⟩,e1,e2⟩:=Zz.mp (show (c η).bind (fun v=>(exV v).bind fun t=>(iu η as).map (t :: ·))=some ts from e)
  obtain ⟨t',e3,e4⟩:=Zz.mp e2
  obtain ⟨ts',e5,rfl⟩:=Zy.mp e4
  refine ⟨Φ,η,m,t,s,e1,fun v H1 F sm r f=>⟨Φ,η,ts',s.same sm,e5,fun vs H2 Fs sm2 rp ia=>?_⟩⟩
  have key:t'=t/\∀ a∈F,H a=none\/cO Φ η a:=by
   unfold exV at e3
   cases m with
   | fr=>cases e3;exact ⟨rfl,fun a ha=>.inl (f.2 a ha)⟩
   | pu=>cases e3;exact ⟨rfl,f⟩
   | bo =>
    dsimp only at e3
    split at e3
    ·rename_i hi
     cases e3
     rw [r.imm hi]
     exact ⟨rfl,fun a ha=>nomatch ha⟩
    ·cases e3
  obtain ⟨rfl,hf⟩:=key
  exact k _ H2 _ (sm.trans sm2) (.cons (r.same sm2) rp) (.ex hf (ia.mono sm))
end
section
variable {G:Gx} {Φ:Fps} {η:VS.Env} {σ:L2.St} {H:Hp}
structure IaF (G:Gx) (Φ:Fps) (η:VS.Env) (σ:L2.St) (H:Hp) (as:List Ia) (ts:Wq) (vs:List V) (Fs:Xk):Prop where
 ref:∀ v∈dq (iaB as) vs,∃ b,v=.ref b
 len:(iaB as).length=ts.length
 mv:∀ a,a∈mvF (iaB as) Fs ↔ ∃ j∈iaS as,a∈Φ j
 pu:∀ a∈puF (iaB as) Fs,H a=none\/cO Φ η a
 ow:∀ i un,Ia.io i un∈as->∃ t a,η[i]?=some (some (.ow t))/\σ[i]?=some (some (.ref a))/\(un=true->∃ m u,unT t=some (m,u)/\G.me m=some (.ref a))
 nd:(iaS as).Nodup->(mvF (iaB as) Fs).Nodup
theorem iV:∀ {as:List Ia} {i:Nat},i∈iaS as ↔ ∃ un,Ia.io i un∈as
 | [],i=>⟨(fun h=>nomatch h),fun ⟨_,h⟩=>nomatch h⟩
 | .io j un :: as,i=>by
  show i∈j :: iaS as ↔ _
  rw [Zj,iV]
  constructor
  ·rintro (rfl | ⟨u,h⟩)
   ·exact ⟨un,Zt⟩
   ·exact ⟨u,Zu _ h⟩
  ·rintro ⟨u,h⟩
   rcases Zj.mp h with h | h
   ·cases h;exact .inl rfl
   ·exact .inr ⟨u,h⟩
 | .ex c :: as,i=>by
  show i∈iaS as ↔ _
  rw [iV]
  exact ⟨fun ⟨u,h⟩=>⟨u,Zu _ h⟩,fun ⟨u,h⟩=>by
   rcases Zj.mp h with h | h
   ·cases h
   ·exact ⟨u,h⟩⟩
theorem xp (s:SR G Φ η σ H):∀ {as:List Ia} {ts:Wq} {vs:List V} {Fs:Xk},iu η as=some ts->IaR Φ η σ H as vs Fs->IaF G Φ η σ H as ts vs Fs:=by
 intro as
 induction as with
 | nil =>
  intro ts vs Fs e r
  cases e
  cases r
  exact ⟨(fun v h=>nomatch h),rfl,fun a=>⟨(fun h=>nomatch h),fun ⟨_,h,_⟩=>nomatch h⟩,(fun a h=>nomatch h),(fun i un h=>nomatch h),fun _=>Z5⟩
 | cons x as ih =>
  intro ts vs Fs e r
  cases r with
  | @io i un a _ vs Fs h r =>
   obtain ⟨t,e1,e2⟩:=Zz.mp (show (ioV un η[i]?).bind (fun t=>(iu η as).map (t :: ·))=some ts from e)
   obtain ⟨ts',e3,rfl⟩:=Zy.mp e2
   have f:=ih e3 r
   have hi:∃ t0,η[i]?=some (some (.ow t0))/\(un=true->∃ m u,unT t0=some (m,u)/\G.me m=some (.ref a)):=by
    unfold ioV at e1
    split at e1
    ·rename_i t0 h0
     refine ⟨t0,h0,fun hu=>?_⟩
     rw [hu,Zp rfl] at e1
     obtain ⟨⟨m,u⟩,g1,g2⟩:=Zy.mp e1
     obtain ⟨v,h1,h2⟩:=s.rp _ _ h0
     rw [h] at h1
     cases h1
     have h2':Rp G H (.ref a) t0 (Φ i):=h2
     rw [jW g1] at h2'
     obtain ⟨a',q1,q2,_⟩:=kD h2'
     cases q1
     exact ⟨m,u,g1,q2⟩
    ·cases e1
   obtain ⟨t0,h0,hu⟩:=hi
   have mvc:∀ b,b∈Φ i++mvF (iaB as) Fs ↔ ∃ j∈i :: iaS as,b∈Φ j:=fun b=>by
    rw [Zb,f.mv]
    constructor
    ·rintro (z | ⟨j,hj,z⟩)
     ·exact ⟨i,Zt,z⟩
     ·exact ⟨j,Zu _ hj,z⟩
    ·rintro ⟨j,hj,z⟩
     rcases Zj.mp hj with rfl | hj
     ·exact .inl z
     ·exact .inr ⟨j,hj,z⟩
   refine ⟨fun v hv=>?_,?_,mvc,?_,fun i' un' h'=>?_,fun nd=>?_⟩
   ·rcases Zj.mp (show v∈V.ref a :: dq (iaB as) vs from hv) with rfl | hv
    ·exact ⟨a,rfl⟩
    ·exact f.ref v hv
   ·show (iaB as).length+1=ts'.length+1
    rw [f.len]
   ·exact fun b hb=>f.pu b hb
   ·rcases Zj.mp h' with h' | h'
    ·cases h'
     exact ⟨t0,a,h0,h,hu⟩
    ·exact f.ow i' un' h'
   ·have nd':=Zd.mp (show (i :: iaS as).Nodup from nd)
    show (Φ i++mvF (iaB as) Fs).Nodup
    refine ZU.mpr ⟨s.nd i _ h0,f.nd nd'.2,fun b hb b' hb' z=>?_⟩
    subst z
    obtain ⟨j,hj,z⟩:=(f.mv b).mp hb'
    obtain ⟨un',hj'⟩:=iV.mp hj
    obtain ⟨t',_,g1,_⟩:=f.ow j un' hj'
    exact s.sep i j _ _ h0 g1 (fun e=>nd'.1 (e ▸ hj)) b hb z
  | @ex c v F _ vs Fs h r =>
   obtain ⟨⟨m,t⟩,e1,e2⟩:=Zz.mp (show (c η).bind (fun v=>(exV v).bind fun t=>(iu η as).map (t :: ·))=some ts from e)
   obtain ⟨t',_,e4⟩:=Zz.mp e2
   obtain ⟨ts',e5,rfl⟩:=Zy.mp e4
   have f:=ih e5 r
   refine ⟨f.ref,?_,f.mv,fun a ha=>?_,fun i' un' h'=>?_,f.nd⟩
   ·show (iaB as).length+1=ts'.length+1
    rw [f.len]
   ·rcases Zb.mp (show a∈F++puF (iaB as) Fs from ha) with z | z
    ·exact h a z
    ·exact f.pu a z
   ·rcases Zj.mp h' with h' | h'
    ·cases h'
    ·exact f.ow i' un' h'
theorem ux {H2:Hp}:∀ {as:List Ia} {vs:List V} {Fs:Xk} {os:Wq} {Gs:Xk} {η:VS.Env},(∀ i un,Ia.io i un∈as->∃ t a,η[i]?=some (some (.ow t))/\σ[i]?=some (some (.ref a))/\(un=true->∃ m u,unT t=some (m,u)/\G.me m=some (.ref a)))->(iaS as).Nodup →
  (∀ (n:Nat) (v:V),(dq (iaB as) vs)[n]?=some v->∃ i:Nat,(iaS as)[n]?=some i/\σ[i]?=some (some v))->RpL G H2 (dq (iaB as) vs) os Gs->(dq (iaB as) vs).length=(iaS as).length →
  (ij as os η).length=η.length/\(∀ j:Nat,j ∉ iaS as->(ij as os η)[j]?=η[j]?)/\∀ (n j:Nat),(iaS as)[n]?=some j->∃ (t t':T) (v:V) (F:Wz),η[j]?=some (some (Cell.ow t))/\(ij as os η)[j]?=some (some (Cell.ow t'))/\σ[j]?=some (some v)/\Gs[n]?=some F/\Rp G H2 v t' F:=by
 intro as
 induction as with
 | nil=>intro vs Fs os Gs η _ _ _ r _;exact ⟨rfl,fun _ _=>rfl,fun n j h=>by simp [iaS] at h⟩
 | cons x as ih =>
  intro vs Fs os Gs η ow nd al r hl
  cases x with
  | ex c =>
   cases vs with
   | nil =>
    have e:(dq (iaB (.ex c :: as)) ([]:List V))=[]:=rfl
    have e2:iaS as=[]:=List.length_eq_zero_iff.mp (by rw [e] at hl;exact hl.symm)
    rw [e] at r
    cases r
    obtain ⟨a1,a2,a3⟩:=ih (vs:=[]) (os:=[]) (Gs:=[]) (Fs:=Fs) (η:=η) (fun i un h=>ow i un (Zu _ h)) nd (fun n v h=>by cases iaB as <;> (try rename_i b _;cases b) <;> simp [dq] at h) (by cases iaB as <;> (try rename_i b _;cases b) <;> exact .nil) (by rw [e2];cases iaB as <;> (try rename_i b _;cases b) <;> rfl)
    exact ⟨a1,a2,a3⟩
   | cons v vs=>exact ih (Fs:=Fs) (fun i un h=>ow i un (Zu _ h)) nd al r hl
  | io i un =>
   have nd':=Zd.mp (show (i :: iaS as).Nodup from nd)
   cases vs with
   | nil=>simp [iaB,dq,iaS] at hl
   | cons v vs =>
    cases r with
    | @cons _ o F _ os Gs r0 r =>
     obtain ⟨t,a,h0,h1,hu⟩:=ow i un Zt
     have hil:i < η.length:=(Zh.mp h0).1
     have hv:v=.ref a:=by
      obtain ⟨i',g1,g2⟩:=al 0 v rfl
      cases (show some i=some i' from g1)
      rw [h1] at g2
      cases g2
      rfl
     subst hv
     obtain ⟨a1,a2,a3⟩:=ih (vs:=vs) (os:=os) (Gs:=Gs) (Fs:=Fs) (η:=η.set i (some (.ow (nN un η[i]? o)))) (fun i' un' h=>by
      obtain ⟨t',a',g1,g2⟩:=ow i' un' (Zu _ h)
      have ne:i ≠ i':=fun e=>nd'.1 (e ▸ iV.mpr ⟨un',h⟩)
      exact ⟨t',a',by rw [Yw ne];exact g1,g2⟩) nd'.2 (fun n w h=>by
      obtain ⟨i',g1,g2⟩:=al (n+1) w h
      exact ⟨i',g1,g2⟩) r (by simpa [iaB,dq,iaS] using hl)
     refine ⟨by rw [show ij (.io i un :: as) (o :: os) η=ij as os (η.set i (some (.ow (nN un η[i]? o)))) from rfl,a1,Z2],fun j hj=>?_,fun n j hn=>?_⟩
     ·have hj':j ≠ i/\j ∉ iaS as:=⟨fun e=>hj (e ▸ Zt),fun z=>hj (Zu _ z)⟩
      exact (a2 j hj'.2).trans (Yw (Yh hj'.1))
     ·cases n with
      | zero =>
       cases (show some i=some j from hn)
       refine ⟨t,_,.ref a,F,h0,(a2 i nd'.1).trans (Y1 hil),h1,rfl,?_⟩
       cases un with
       | false=>exact r0
       | true =>
        obtain ⟨m,u,g1,g2⟩:=hu rfl
        have:nN true η[i]? o=mkT m o:=by
         unfold nN
         rw [Zp rfl,h0]
         show (match unT t with | some z=>mkT z.1 o | none=>o)=_
         rw [g1]
        rw [this]
        exact .mk g2 r0
      | succ n =>
       obtain ⟨t',t2,v',F',g1,g2,g3,g4,g5⟩:=a3 n j hn
       have ne:i ≠ j:=fun e=>nd'.1 (e ▸ YY (show (iaS as)[n]?=some j from hn))
       rw [Yw ne] at g1
       exact ⟨t',t2,v',F',g1,g2,g3,g4,g5⟩
theorem CO {H1:Hp}:∀ {as:List Ia} {vs:List V} {Fs:Xk},IaR Φ η σ H1 as vs Fs->(∀ (n:Nat) (v:V),(dq (iaB as) vs)[n]?=some v->∃ i:Nat,(iaS as)[n]?=some i/\σ[i]?=some (some v))/\(dq (iaB as) vs).length=(iaS as).length:=by
 intro as vs Fs r
 induction r with
 | nil=>exact ⟨fun n v h=>by simp [iaB,dq] at h,rfl⟩
 | @io i un a as vs Fs h _ ih =>
  refine ⟨fun n v hn=>?_,by simpa [iaB,dq,iaS] using ih.2⟩
  cases n with
  | zero=>cases (show some (V.ref a)=some v from hn);exact ⟨i,rfl,h⟩
  | succ n=>exact ih.1 n v hn
 | ex _ _ ih=>exact ih
end
section
variable {G:Gx} {X:Cx} {k:Nat} {f:Addr} {fd:FuncData} {ps:List Str} {x:Str} {p pos:Pos} {e:Expr} {es:List Expr} {as:List Ia} {i:Nat} {un:Bool} {g:Wq->Option (Wq×T)}
structure New (Φ:Fps) (η:VS.Env) (H:Hp) (Φ':Fps) (η':VS.Env) (F:Wz):Prop where
 nd:F.Nodup
 ap:∀ j c,η'[j]?=some (some c)->∀ a∈F,a ∉ Φ' j
 of:∀ a∈F,H a=none\/bF Φ η a
noncomputable def tXN (G:Gx) (x:Xx):TE:=fun σ H Q=>∃ Φ η v η',SR G Φ η σ H/\x η=some (v,η')/\∀ u H' Φ' F,SR G Φ' η' σ H'->Frm Φ η H Φ' η' H'->Rp G H' u v.2 F->New Φ η H Φ' η' F->Q u H'
noncomputable def PXN (G:Gx) (X:Cx) (e:Expr) (x:Xx):Prop:=PE X e (tXN G x)
theorem PXN.px {x:Xx} (h:PXN G X e x):PX G X e x:=PE.weak h fun σ H Q hq=>by
 obtain ⟨Φ,η,v,η',s,e,hi,k⟩:=hq
 exact ⟨Φ,η,v,η',s,e,fun u H' Φ' F s' f r _=>k u H' Φ' s' f (r.imm hi ▸ r)⟩
theorem New.back {Φ Φ1 Φ':Fps} {η η1 η':VS.Env} {H H1:Hp} {F:Wz} (f:Frm Φ η H Φ1 η1 H1) (n:New Φ1 η1 H1 Φ' η' F):New Φ η H Φ' η' F :=
 ⟨n.nd,n.ap,fun a ha=>(n.of a ha).elim (fun z=>.inl (f.none z)) fun z=>(f.ow a z).elim .inr .inl⟩
theorem lY {Φ:Fps} {η η':VS.Env} {σ:L2.St} {H H1:Hp} {v:Val} {ts:Wq} {vs:List V} {Fs:Xk} {Q:VK} {E:XK} (s:SR G Φ η σ H) (e:gx (.io i un :: as) g η=some (v,η')) (e0:iu η (.io i un :: as)=some ts) (sm:aG H H1) (rp:RpL G H1 vs ts Fs) (ia:IaR Φ η σ H (.io i un :: as) vs Fs)
  (kq:∀ u H' Φ' F,SR G Φ' η' σ H'->Frm Φ η H Φ' η' H'->Rp G H' u v.2 F->New Φ η H Φ' η' F->Q u H'):spI G (iaB as) g vs H1 Q E:=by
 unfold gx at e
 rw [e0,Zx] at e
 have e2:=e
 have e1:=e0
 split at e2
 ·rename_i hc
  obtain ⟨⟨os,y⟩,eg,e3⟩:=Zy.mp e2
  ·cases e3
   have ff:=xp s e1 ia
   have al:=CO ia
   cases ia with
   | @io _ _ a _ us Fs hσ ia =>
    cases rp with
    | @cons _ t0 _ _ ts' _ r0 rp =>
     have no:dG t0=true/\aY ts'=true:=by
      have:=hc.1
      rw [aY,Zf] at this
      exact this
     refine ⟨a,us,t0,ts',Φ i,Fs,os,y,rfl,r0,rp,fun v hv=>ff.ref v (Zu _ hv),no.1,no.2,by simpa [iaB] using ff.len,ff.nd hc.2,fun b hb hb'=>?_,eg,fun u H' Gs Fu ch ru fnd fap fof=>?_⟩
     ·obtain ⟨j,hj,z⟩:=(ff.mv b).mp hb
      obtain ⟨un',hj'⟩:=iV.mp hj
      obtain ⟨t,_,g1,_⟩:=ff.ow j un' hj'
      rcases ff.pu b hb' with q | ⟨j2,t2,q1,q2⟩
      ·exact Mut.ne_none (s.ow_dom ⟨j,t,g1,z⟩) q
      ·refine s.sep j j2 t _ g1 q1 (fun e=>?_) b z q2
       rw [e,q1] at g1
       cases g1
     ·obtain ⟨p1,p2,p3⟩:=ux (Fs:=[]) (η:=η) ff.ow hc.2 al.1 ch.rp al.2
      have at_:∀ j,j∈iaS (.io i un :: as)->∃ n F,(iaS (.io i un :: as))[n]?=some j/\n=(iaS (.io i un :: as)).idxOf j/\Gs[n]?=some F:=fun j hj=>by
       have hn:=Xl.mpr hj
       have:(iaS (.io i un :: as))[(iaS (.io i un :: as)).idxOf j]?=some j:=by
        rw [Zr hn,List.getElem_idxOf]
       obtain ⟨_,_,_,F,_,_,_,q,_⟩:=p3 _ j this
       exact ⟨_,F,this,rfl,q⟩
      have Φe:∀ j,j∈iaS (.io i un :: as)->(if j∈iaS (.io i un :: as) then Gs.getD ((iaS (.io i un :: as)).idxOf j) [] else Φ j)=Gs.getD ((iaS (.io i un :: as)).idxOf j) []:=fun j hj=>Zp hj
      obtain ⟨z1,z2⟩:=s.mutS (S:=fun j=>j∈iaS (.io i un :: as)) (H2:=H') (η':=ij (.io i un :: as) os η) (Φ':=fun j=>if j∈iaS (.io i un :: as) then Gs.getD ((iaS (.io i un :: as)).idxOf j) [] else Φ j) p1 (fun j hj=>⟨p2 j hj,Zo hj⟩) (fun j hj=>by
       obtain ⟨n,F,q1,q2,q3⟩:=at_ j hj
       obtain ⟨t,t',v,F',w1,w2,w3,w4,w5⟩:=p3 n j q1
       rw [q3] at w4
       cases w4
       have eF:(if j∈iaS (.io i un :: as) then Gs.getD ((iaS (.io i un :: as)).idxOf j) [] else Φ j)=F:=by rw [Φe j hj,← q2,Zs,q3];rfl
       refine ⟨t,t',v,w1,w2,w3,?_,?_⟩
       ·rw [eF];exact w5
       ·rw [eF];exact ch.nd.sublist (cB q3)) (fun j j' hj hj' n a ha ha'=>by
       rw [Φe j hj] at ha
       rw [Φe j' hj'] at ha'
       obtain ⟨n1,F,q1,q2,q3⟩:=at_ j hj
       obtain ⟨n2,F',q1',q2',q3'⟩:=at_ j' hj'
       rw [← q2,Zs,q3] at ha
       rw [← q2',Zs,q3'] at ha'
       exact pB ch.nd q3 q3' (fun e=>n (by rw [e,q1'] at q1;exact (Zm q1).symm)) ha ha') ((Kept.of sm).trans ch.kept) (fun b o hb ho=>ch.keep b o (fun z=>by
       obtain ⟨j,hj,z'⟩:=(ff.mv b).mp z
       exact hb j hj z') (sm b o ho)) (fun b h=>ch.dom b fun z=>h (sm.free z)) (fun j hj a ha=>by
       rw [Φe j hj] at ha
       obtain ⟨n1,F,q1,q2,q3⟩:=at_ j hj
       rw [← q2,Zs,q3] at ha
       rcases ch.sub a ((cB q3).subset ha) with z | z
       ·exact .inl ((ff.mv a).mp z)
       ·exact .inr (sm.free z))
      have fof':∀ a∈Fu,H a=none\/∃ j t,j∈iaS (.io i un :: as)/\η[j]?=some (some (.ow t))/\a∈Φ j:=fun a ha=>by
       rcases fof a ha with z | z
       ·exact .inl (sm.free z)
       ·obtain ⟨j,hj,z'⟩:=(ff.mv a).mp z
        obtain ⟨un',hj'⟩:=iV.mp hj
        obtain ⟨t,_,g1,_⟩:=ff.ow j un' hj'
        exact .inr ⟨j,t,hj,g1,z'⟩
      refine kq u H' _ Fu z1 z2 ru ⟨fnd,fun j c hc a ha ha'=>?_,fun a ha=>(fof' a ha).imp id fun ⟨j,t,_,g1,g2⟩=>⟨j,t,g1,g2⟩⟩
      by_cases hj:j∈iaS (.io i un :: as)
      ·rw [Φe j hj] at ha'
       obtain ⟨n1,F,q1,q2,q3⟩:=at_ j hj
       rw [← q2,Zs,q3] at ha'
       exact fap a ha ((cB q3).subset ha')
      ·rw [Zo hj] at ha'
       rw [p2 j hj] at hc
       rcases fof' a ha with z | ⟨j2,t,g0,g1,g2⟩
       ·obtain ⟨w,_,q⟩:=s.rp j c hc
        exact Mut.ne_none (q.dom a ha') z
       ·exact s.sep j2 j t c g1 hc (fun e=>hj (e ▸ g0)) a g2 ha'
 ·cases e2
theorem vw (F:FnOk X.prog X.w X.K X.mg X.base CX0 k f fd ps (spI G (iaB as) g)) (hr:Room k X.A) (hg:Gl X x) (hm:X.mg x=some (.ref f)) (hk:PySem.W.keepIn X.K (.ref f)=true) (hb:Binds X.K fd ps []) (ha:PIa G X (e :: es) (.io i un :: as))
  (hdb:(x == ("__debug__" : Str))=false) (he:starEach (e :: es) X.env=(false,eval e X.env) :: starEach es X.env) (hpl:(backTo pos (starEach es X.env)).any (·.1)=false):PX G X (.Call (.Name x p) (e :: es) [] pos) (gx (.io i un :: as) g) :=
 PE.weak (o5 (E:=E0) F hr hg hm hk hb .nil jc ha hdb he hpl) fun σ H Q h=>by
  obtain ⟨Φ,η,v,η',s,e,him,kq⟩:=h
  have e':=e
  unfold gx at e'
  obtain ⟨ts,e1,_⟩:=Zz.mp e'
  refine ⟨Φ,η,ts,s,e1,fun vs H1 Fs sm rp ia=>?_⟩
  show spI G (iaB as) g (vs++[]) H1 Q _
  rw [ZO]
  exact lY s e e1 sm rp ia fun u H' Φ' F s' f r _=>kq u H' Φ' s' f (r.imm him ▸ r)
end
noncomputable def eUn (c:Ex):Ex:=fun η=>(c η).bind fun v=>(unT v.2).map fun z=>(v.1,z.2)
noncomputable abbrev Xt:=VS.Env->Option (Bool×VS.Env)
noncomputable def tXT (G:Gx) (x:Xt):TT:=fun σ H Q=>∃ Φ η b η',SR G Φ η σ H/\x η=some (b,η')/\∀ H' Φ',SR G Φ' η' σ H'->Frm Φ η H Φ' η' H'->Q b H'
noncomputable def PXT (G:Gx) (X:Cx) (e:Expr) (x:Xt):Prop:=PT X e (tXT G x)
noncomputable def PXW (G:Gx) (X:Cx) (e:Expr) (x:Xt):Prop:=PW X e (tXT G x)
noncomputable def xtV (x:Xx):Xt:=fun η=>(x η).bind fun z=>match z.1.2 with
 | .bl b=>some (b,z.2)
 | _=>none
noncomputable def rB (x:Xt) (a b:Sx):Sx:=fun η=>(x η).bind fun z=>if z.1 then a z.2 else b z.2
section
variable {G:Gx} {X:Cx} {e a b:Expr} {rest:List Expr} {c cb:Ex} {x:Xx} {xt:Xt} {pos pos':Pos} {c1 c2:Sx}
theorem Dr (h:PV G X e c):PV G X e (eUn c):=PE.weak h fun σ H Q hq=>by
 obtain ⟨Φ,η,m,t,s,e,k⟩:=hq
 obtain ⟨⟨mx,y⟩,e1,e2⟩:=Zz.mp e
 obtain ⟨⟨n,u⟩,e3,e4⟩:=Zy.mp e2
 cases e4
 refine ⟨Φ,η,mx,y,s,e1,fun v H' F sm r f=>k v H' F sm ?_ f⟩
 have r':Rp G H' v y F:=r
 rw [jW (show unT y=some (n,u) from e3)] at r'
 obtain ⟨a,rfl,_,q⟩:=kD r'
 exact q
theorem PXW.pxt (h:PXW G X e xt):PXT G X e xt:=PW.pt h
theorem vB {as bs:List Stmt} (hc:PXT G X e xt) (ha:gk G X as c1) (hb:gk G X bs c2):PSV G X (.If e as bs pos) (rB xt c1 c2):=PS.weak (Am hc ha hb) fun D σ H hq=>by
 obtain ⟨Φ,η,o,s,e,k⟩:=hq
 obtain ⟨⟨b0,η1⟩,e1,e2⟩:=Zz.mp e
 refine ⟨Φ,η,b0,η1,s,e1,fun H1 Φ1 s1 f1=>?_⟩
 cases b0 with
 | true=>exact uG ⟨Φ1,η1,o,s1,e2,k.back f1⟩
 | false=>exact uv ⟨Φ1,η1,o,s1,e2,k.back f1⟩
end
structure IoAt (P:Program) (w:World) (K:X8) (mg:X9) (base:Heap) (k:Nat) (x:Str) (ps:List Str) (G:Gx) (mv:List Bool) (g:Wq->Option (Wq×T)):Prop where
 ex:∃ f fd,FnOk P w K mg base CX0 k f fd ps (spI G mv g)/\mg x=some (.ref f)/\PySem.W.keepIn K (.ref f)=true/\Binds K fd ps []
section
variable {P:Program} {w:World} {K:X8} {mg:X9} {base:Heap} {k:Nat} {G:Gx} {x:Str} {ps:List Str} {mv:List Bool}
theorem ma {st:Stmt} {f:Addr} {fd:FuncData} {N:List Str} {np nn:Nat} {body:Sx} (F:Fun K x x st f fd) (hm:mg x=some (.ref f)) (S:FnScope N ps (ah st)) (hp:ps.length=np) (hn:N.length=nn)
  (hbd:∀ (kV doc pm:Value) (an:Option Addr) (cdv ct:Value) (us:Wy),us.length=ps.length->bindArgs (PySem.W.fnOf x x (cF st) (aQ st) (ah st) .none kV doc pm an cdv ct) ⟨us,[]⟩=pure (ps.zip us))
  (hb:∀ (m:Me) (cdv:Value) (A:Around) (outer:List PySem.Env) (s:Shared) (H:Hp) (E:XK),Room k (A.deeper (envOfC x (ah st) s.heap.objs.size f cdv))->gk (G.at m) (il CX0 P w K mg base N x (ah st) f cdv A outer s H E).nox (aQ st) body) :
  IoAt P w K mg base (k+1) x ps G mv (ifn np nn mv body):=⟨f,fd,fnI F S hp hn hb,hm,F.kp,F.binds hbd⟩
end
section
variable {G:Gx} {X:Cx} {e a b:Expr} {es rest:List Expr} {as:List Ia} {c cb:Ex} {xc:Xx} {xt:Xt} {p pos pos':Pos} {c1 c2:Sx} {i k k':Nat} {un:Bool} {x:Str} {ps:List Str} {g:Wq->Option (Wq×T)} {way:List Stp}
theorem zJ (F:IoAt X.prog X.w X.K X.mg X.base k x ps G (iaB as) g) (hr:Room k' X.A) (ha:PIa G X (e :: es) (.io i un :: as)) (hk:k<=k') (hg:Gl X x) (hdb:(x == ("__debug__" : Str))=false) (he:starEach (e :: es) X.env=(false,eval e X.env) :: starEach es X.env) (hpl:(backTo pos (starEach es X.env)).any (·.1)=false) :
  PX G X (.Call (.Name x p) (e :: es) [] pos) (gx (.io i un :: as) g):=by
 obtain ⟨f,fd,h1,h2,h3,h4⟩:=F.ex
 exact vw h1 (hr.mono hk) hg h2 h3 h4 ha hdb he hpl
end
end VS
end
section
namespace VS
open PySem PySem.Spec PyProof.Rows L2
section
variable {G:Gx} {X:Cx} {e b:Expr} {ck ce:Ex} {pos pos' p1:Pos} {kr:Nat}
theorem m6 {a b c:Expr} {ca cb cc:Ex} (ha:PV G X a ca) (hb:PV G X b cb) (hc:PV G X c cc) (hm:lastMarks [.Lt,.Lt] [b,c]=false):PVT G X (.Compare a [.Lt,.Lt] [b,c] pos) (d9 oLt oLt ca cb cc) :=
 PT.weak (pI mI mI ha hb hc hm) fun σ H Q h=>l5 h (fun η m r e=>by
  unfold d9 at e
  obtain ⟨x,ea,e⟩:=Zz.mp e
  obtain ⟨y,eb,e⟩:=Zz.mp e
  obtain ⟨⟨mz,z⟩,ez,e⟩:=Zz.mp e
  cases z with
  | bl q =>
   cases q with
   | false=>cases e;exact ⟨_,rfl⟩
   | true =>
    obtain ⟨z2,ec,e⟩:=Zz.mp (show (cc η).bind (fun z=>oLt y z)=some (m,r) from e)
    exact iL y z2 m r e
  | _=>cases e) fun Q h=>p5 qL qL h
end
noncomputable def xI (c:Ex):Xx:=fun η=>(c η).bind fun v=>if imm v.2=true then some ((.fr,v.2),η) else none
noncomputable def x2 (f:Val->Val->Wr) (a b:Xx):Xx:=fun η=>(a η).bind fun z=>(b z.2).bind fun w=>(f (.fr,z.1.2) (.fr,w.1.2)).bind fun v=>if imm z.1.2=true/\imm w.1.2=true/\imm v.2=true then some ((.fr,v.2),w.2) else none
noncomputable def iJ (c:Ex) (x:Xt):Xt:=fun η=>(c η).bind fun v=>(tru v.2).bind fun b=>if b then x η else some (false,η)
noncomputable def lj (c:Ex) (b:Xx):Xx:=fun η=>(c η).bind fun x=>match x with
 | (.fr,.lst ts)=>(b η).bind fun z=>match z.1.2 with
  | .int i=>(ixP ts.length i).bind fun j=>(ts[j]?).bind fun t=>if dW ts=true/\imm t=true then some ((.fr,t),z.2) else none
  | _=>none
 | _=>none
noncomputable def nY (n:Nat) (b:Xx):Xx:=fun η=>match (η[n]?:Option (Wt)) with
 | some (some _)=>(b η).bind fun z=>match z.1.2,(z.2[n]?:Option (Wt)) with
  | .int i,some (some c)=>(match iE c with
   | .lst ts=>(ixP ts.length i).bind fun j=>(ts[j]?).bind fun t=>if imm t=true then some ((.fr,t),z.2) else none
   | _=>none)
  | _,_=>none
 | _=>none
section
variable {G:Gx} {X:Cx} {e a b:Expr} {rest:List Expr} {ca cb:Ex} {xa xb:Xx} {xt:Xt} {pos:Pos} {f:Val->Val->Wr} {r:R2}
theorem ay (h:PV G X e ca):PX G X e (xI ca):=PE.weak h fun σ H Q hq=>by
 obtain ⟨Φ,η,v,η',s,e,hi,k⟩:=hq
 obtain ⟨⟨m,t⟩,e1,e2⟩:=Zz.mp e
 split at e2
 ·rename_i him
  cases e2
  refine ⟨Φ,η,m,t,s,e1,fun u H' F sm r f=>k u H' Φ (s.same sm) (Frm.same sm) ?_⟩
  have:=r.imm him
  subst this
  exact r
 ·cases e2
theorem x5 (ok:d8 G r f) {σ:L2.St} {H:Hp} {Q:VK} (h:tX G (x2 f xa xb) σ H Q):tOp r (tX G xa) (tX G xb) σ H Q:=by
 obtain ⟨Φ,η,v,η',s,e,hi,k⟩:=h
 obtain ⟨z,ea,e1⟩:=Zz.mp e
 obtain ⟨w,eb,e2⟩:=Zz.mp e1
 obtain ⟨⟨m,t⟩,ef,e3⟩:=Zz.mp e2
 split at e3
 ·rename_i hc
  cases e3
  refine ⟨Φ,η,z.1,z.2,s,ea,hc.1,fun u1 H1 Φ1 s1 f1 r1=>⟨Φ1,z.2,w.1,w.2,s1,eb,hc.2.1,fun u2 H2 Φ2 s2 f2 r2=>?_⟩⟩
  refine ok Φ2 w.2 H2 H2 (.fr,z.1.2) (.fr,w.1.2) u1 u2 [] [] m t Q ⟨aG.refl _,r1.keep f2.kept (fun a h=>nomatch h),r2,Fp.nil,Fp.nil,fun _ _=>Z5⟩ ef fun v' H' F sm r' f'=>k v' H' Φ2 (s2.same sm) ((f1.trans f2).trans (Frm.same sm)) ?_
  have:=r'.imm hc.2.2
  subst this
  exact r'
 ·cases e3
theorem AC {op:Operator} (ho:OpR X (binaryOp op) r) (ok:d8 G r f) (ha:PX G X a xa) (hb:PX G X b xb):PX G X (.BinOp a op b pos) (x2 f xa xb):=PE.weak (Ai ho ha hb) fun σ H Q h=>x5 ok h
theorem sM {op:CmpOp} (ho:OpR X (compareOp op) r) (ok:d8 G r f) (ha:PX G X a xa) (hb:PX G X b xb) (hm:behindInMarks op b=false):PXT G X (.Compare a [op] [b] pos) (xtV (x2 f xa xb)):=PT.weak (sZ ho ha hb hm) fun σ H Q h=>by
 obtain ⟨Φ,η,b,η',s,e,k⟩:=h
 obtain ⟨⟨⟨m,t⟩,η1⟩,e1,e2⟩:=Zz.mp e
 dsimp only at e2
 split at e2
 ·cases e2
  exact x5 (Q:=fun x H'=>∃ k,x=.bl k/\Q k H') ok ⟨Φ,η,_,_,s,e1,rfl,fun u H' Φ' s' f r=>⟨b,r.bl_inv,k H' Φ' s' f⟩⟩
 ·cases e2
theorem Av (ha:PX G X a xa) (hb:PX G X b xb) (hs:gp b) (hK:X.K=G.K):PX G X (.Subscript a b pos) (x2 aB xa xb):=PE.weak (mh jw ha hb hs) fun σ H Q h=>by
 rw [hK]
 exact x5 rL h
theorem xW (h:PXT G X e xt):PXW G X (.BoolOp .And [e] pos) xt:=lP h
theorem zc (ha:PVT G X a ca) (hb:PXW G X (.BoolOp .And (b :: rest) pos) xt):PXW G X (.BoolOp .And (a :: b :: rest) pos) (iJ ca xt):=PW.weak (vb ha hb) fun σ H Q hq=>by
 obtain ⟨Φ,η,r,η',s,e,k⟩:=hq
 obtain ⟨⟨m,t⟩,e1,e2⟩:=Zz.mp e
 obtain ⟨b0,e3,e4⟩:=Zz.mp e2
 refine ⟨Φ,η,m,t,b0,s,e1,e3,fun H1 sm=>?_⟩
 cases b0 with
 | true=>exact uG ⟨Φ,η,r,η',s.same sm,e4,fun H' Φ' s' f=>k H' Φ' s' ((Frm.same sm).trans f)⟩
 | false =>
  cases e4
  exact uv (k H1 Φ (s.same sm) (Frm.same sm))
theorem pf (ha:PV G X a ca) (hb:PX G X b xb) (hs:gp b) (hK:X.K=G.K):PX G X (.Subscript a b pos) (lj ca xb):=PE.weak (mh jw ha hb hs) fun σ H Q hq=>by
 obtain ⟨Φ,η,v,η',s,e,hi,k⟩:=hq
 obtain ⟨x,ea,e1⟩:=Zz.mp e
 split at e1
 ·rename_i ts
  obtain ⟨z,eb,e2⟩:=Zz.mp e1
  split at e2
  ·rename_i i0 hz
   obtain ⟨j,ej,e3⟩:=Zz.mp e2
   obtain ⟨t,et,e4⟩:=Zz.mp e3
   split at e4
   ·rename_i hc
    cases e4
    refine ⟨Φ,η,.fr,.lst ts,s,ea,fun u H1 F1 sm r1 f1=>⟨Φ,η,z.1,z.2,s.same sm,eb,by rw [hz];rfl,fun w H2 Φ2 s2 f2 r2=>?_⟩⟩
    obtain ⟨a,vs,Fs,rfl,rfl,ha1,ra⟩:=r1.lst_inv
    have hn:¬ bF Φ η a:=fun z=>Mut.ne_none (s.ow_dom z) (f1.2 a Zt)
    have ha2:=(f2.keep a _ ha1 hn).1
    obtain ⟨x,Fx,u1,u2,u3⟩:=ra.get j et
    have hx:=u3.imm hc.2
    subst hx
    rw [hz] at r2
    refine .inl ⟨a,vs,i0,x,rfl,r2.int_inv,by rw [hK];exact SqL.of ha2,jG (by rw [ra.len.1];exact ej) u1,?_⟩
    exact k x H2 Φ2 s2 ((Frm.same sm).trans f2) (u3.keep f2.kept (fun a h=>nomatch h))
   ·cases e4
  ·cases e2
 ·cases e1
end
section
variable {G:Gx} {Φ Φ5:Fps} {η η5:VS.Env} {σ:L2.St} {H H5:Hp}
noncomputable def psΦ (Φ:Fps):Fps:=fun i=>match i with
 | 0=>[]
 | i+1=>Φ i
theorem vp {t:T} {a:Addr}:bF (psΦ Φ) (some (.pu t) :: η) a ↔ bF Φ η a:=by
 constructor
 ·rintro ⟨j,u,h1,h2⟩
  cases j with
  | zero=>cases (show some (some (Cell.pu t))=some (some (Cell.ow u)) from h1)
  | succ j=>exact ⟨j,u,h1,h2⟩
 ·rintro ⟨j,u,h1,h2⟩
  exact ⟨j+1,u,h1,h2⟩
theorem Df {t:T} {a:Addr} (h:cO (psΦ Φ) (some (.pu t) :: η) a):cO Φ η a:=by
 obtain ⟨j,u,h1,h2⟩:=h
 cases j with
 | zero=>exact nomatch h2
 | succ j=>exact ⟨j,u,h1,h2⟩
theorem SR.ps {v:V} {t:T} (s:SR G Φ η σ H) (r:Rp G H v t []):SR G (psΦ Φ) (some (.pu t) :: η) (some v :: σ) H:=by
 refine ⟨by rw [Zl,Zl,s.len],fun i c h=>?_,fun i u h=>?_,fun i j u c h1 h2 n=>?_⟩
 ·cases i with
  | zero=>cases (show some (some (Cell.pu t))=some (some c) from h);exact ⟨v,rfl,r⟩
  | succ i=>exact s.rp i c h
 ·cases i with
  | zero=>cases (show some (some (Cell.pu t))=some (some (Cell.ow u)) from h)
  | succ i=>exact s.nd i u h
 ·cases i with
  | zero=>cases (show some (some (Cell.pu t))=some (some (Cell.ow u)) from h1)
  | succ i =>
   cases j with
   | zero=>exact fun a _ h=>nomatch h
   | succ j=>exact s.sep i j u c h1 h2 (fun e=>n (by rw [e]))
theorem SR.pop {c:Wt} {v:Option V} (s:SR G Φ5 (c :: η5) (v :: σ) H):SR G (fun i=>Φ5 (i+1)) η5 σ H :=
 ⟨by have:=s.len;simpa using this,fun i c h=>s.rp (i+1) c h,fun i u h=>s.nd (i+1) u h,fun i j u c h1 h2 n=>s.sep (i+1) (j+1) u c h1 h2 (fun e=>n (by omega))⟩
theorem Frm.pop {t:T} {c:Wt} (f:Frm (psΦ Φ) (some (.pu t) :: η) H Φ5 (c :: η5) H5):Frm Φ η H (fun i=>Φ5 (i+1)) η5 H5:=by
 have ow:∀ a,bF (fun i=>Φ5 (i+1)) η5 a->bF Φ5 (c :: η5) a:=fun a ⟨j,u,h1,h2⟩=>⟨j+1,u,h1,h2⟩
 refine ⟨fun a o h n=>?_,f.dom,fun a h=>?_,fun a h=>?_,f.kept⟩
 ·obtain ⟨h1,h2⟩:=f.keep a o h fun z=>n (vp.mp z)
  exact ⟨h1,fun z=>h2 (ow a z)⟩
 ·exact (f.ow a (ow a h)).imp vp.mp id
 ·obtain ⟨j,u,h1,h2⟩:=h
  rcases f.pu a ⟨j+1,u,h1,h2⟩ with z | z | z
  ·exact .inl (Df z)
  ·exact .inr (.inl (vp.mp z))
  ·exact .inr (.inr z)
end
noncomputable def gK (x:Xx):Wv->VS.Env->Option (Wq×VS.Env)
 | [],η=>some ([],η)
 | i :: r,η=>(x (some (.pu (.int i)) :: η)).bind fun z=>match z.2 with
  | _ :: η'=>if imm z.1.2=true then (gK x r η').map fun w=>(z.1.2 :: w.1,w.2) else none
  | []=>none
noncomputable def iot (i n:Nat):Wv:=(List.range' i n).map fun (k:Nat)=>(k:Int)
noncomputable def pP (xa x:Xx) (η:VS.Env):Option (Wq×VS.Env):=(xa η).bind fun z=>match z.1.2 with
 | .int j=>if 0<=j/\j < 1000000 then gK x (iot 0 j.toNat) z.2 else none
 | _=>none
noncomputable def tXL (G:Gx) (y:VS.Env->Option (Wq×VS.Env)):TE:=fun σ H Q=>∃ Φ η ts η',SR G Φ η σ H/\y η=some (ts,η')/\∀ D vs H' Φ',SR G Φ' η' σ H'->Frm Φ η H Φ' η' H'->H' D=some (.lst vs)->RpL G H' vs ts (List.replicate ts.length [])->H D=none->¬ bF Φ' η' D->¬ cO Φ' η' D->Q (.ref D) H'
theorem oQ {α:Type}:∀ n:Nat,(List.replicate n ([]:List α)).flatten=[]
 | 0=>rfl
 | n+1=>by rw [YF,ZP,oQ n];rfl
section
variable {G:Gx} {X:Cx} {elt a:Expr} {sc:Scope} {pos p p2 p3:Pos} {N:List Str} {nm:Str} {xa x:Xx} {g:TG}
theorem xk {σ:L2.St} {H:Hp} {Q:VK} (hg:∀ v σ H (R:L2.St->Hp->Prop),R (σ.set 0 (some v)) H->g v σ H R) (h:tXL G (pP xa x) σ H Q):sy 1 (AE (Aj (tX G xa) rJ)) g (fun σ H Q=>Q true H) (tX G x) σ H Q:=by
 obtain ⟨Φ,η,ts,η',s,e,kq⟩:=h
 obtain ⟨z,ea,e1⟩:=Zz.mp e
 split at e1
 ·rename_i j hj
  split at e1
  ·rename_i hb
   obtain ⟨n,hn⟩:∃ n:Nat,n=j.toNat:=⟨_,rfl⟩
   rw [← hn] at e1
   refine ⟨Φ,η,z.1,z.2,s,ea,by rw [hj];rfl,fun u H1 Φ1 s1 f1 r1=>⟨j,by rw [hj] at r1;rw [r1.int_inv],by omega,by omega,fun D hD=>?_⟩⟩
   have hHD:H D=none:=f1.none hD
   rw [← hn]
   refine ⟨fun i m σ' H'=>m=n - i/\i<=n/\∃ Φ2 η2 vs xs rest c0,σ'=c0 :: σ/\SR G Φ2 η2 σ H'/\Frm Φ1 z.2 H1 Φ2 η2 H'/\H' D=some (.lst xs)/\¬ bF Φ2 η2 D/\¬ cO Φ2 η2 D/\RpL G H' xs vs (List.replicate vs.length [])/\gK x (iot i (n - i)) η2=some (rest,η')/\vs++rest=ts,⟨n,by omega,Yp _,Φ1,z.2,[],[],ts,none,rfl,?_,Frm.same (cS hD),ax,?_,?_,.nil,e1,rfl⟩,?_⟩
   ·exact s1.off (.inr hD) (fun q=>Mut.ne_none (s1.pu_dom q) hD) fun q=>Mut.ne_none (s1.ow_dom q) hD
   ·exact fun q=>Mut.ne_none (s1.ow_dom q) hD
   ·exact fun q=>Mut.ne_none (s1.pu_dom q) hD
   ·rintro i m σ' H' ⟨rfl,hin,Φ2,η2,vs,xs,rest,c0,rfl,s2,f2,hD2,no2,np2,rp,er,ev⟩
    by_cases hlt:i < n
    ·right
     refine ⟨hlt,fun y H2 yl=>hg _ _ _ _ ?_⟩
     obtain ⟨rfl,rfl⟩:=yl
     rw [show n - i=(n - (i+1))+1 by omega] at er
     unfold iot at er
     rw [X4,Zn,gK] at er
     obtain ⟨w,ex,er2⟩:=Zz.mp er
     split at er2
     ·rename_i c3 η3 hw
      split at er2
      ·rename_i him
       obtain ⟨q,eq,e3⟩:=Zy.mp er2
       cases e3
       show (if true=true then _ else _)
       rw [Zp rfl]
       have s3:=s2.ps (v:=.int ((0:Int)+(i:Int))) (t:=.int (i:Int)) (by rw [Int.zero_add];exact .int _)
       refine ⟨psΦ Φ2,some (.pu (.int (i:Int))) :: η2,w.1,w.2,s3,ex,him,fun u5 H5 Φ5 s5 f5 r5=>?_⟩
       rw [hw] at s5 f5
       have s6:=s5.pop
       have f6:=f5.pop
       obtain ⟨hD5,no5⟩:=f6.keep D _ hD2 no2
       have np5:¬ cO (fun i=>Φ5 (i+1)) η3 D:=fun q=>by
        rcases f6.pu D q with q | q | q
        ·exact np2 q
        ·exact no2 q
        ·rw [hD2] at q;cases q
       have mD5:Mut (H5 D):=by rw [hD5];exact True.intro
       have lx:xs.length=vs.length:=rp.len.1
       refine ⟨xs,hD5,?_,n - (i+1),by omega,rfl,hlt,fun i=>Φ5 (i+1),η3,vs++[w.1.2],xs++[u5],q.1,_,rfl,s6.off (.inl mD5) np5 no5,?_,ax,no5,np5,?_,eq,?_⟩
       ·have:vs.length<=n:=by
         have hc:∀ (l:Wv) (η:VS.Env) (r:Wq) (η':VS.Env),gK x l η=some (r,η')->r.length=l.length:=by
          intro l
          induction l with
          | nil=>intro η r η' h;cases h;rfl
          | cons a l ih =>
           intro η r η' h
           rw [gK] at h
           obtain ⟨w',_,h2⟩:=Zz.mp h
           split at h2
           ·split at h2
            ·obtain ⟨q',h3,h4⟩:=Zy.mp h2
             cases h4
             rw [Zl,Zl,ih _ _ _ h3]
            ·cases h2
           ·cases h2
         have h1:=hc _ _ _ _ e1
         have h2:=hc _ _ _ _ eq
         unfold iot at h1
         rw [Zw,Xr] at h1
         rw [← ev,Zv] at h1
         omega
        have hs:(sizeLine:Nat)=16777216:=rfl
        omega
       ·have ff:=f2.trans f6
        refine ⟨fun a o h1 h2=>?_,fun a h1 h2=>?_,ff.ow,ff.pu,ff.kept.trans (Kept.upd (.inl mD5))⟩
        ·obtain ⟨q1,q2⟩:=ff.keep a o h1 h2
         exact ⟨by rw [aD (fun z=>by rw [z,hD] at h1;cases h1)];exact q1,q2⟩
        ·by_cases q:a=D
         ·rw [q,ax] at h2;cases h2
         ·rw [aD q] at h2
          exact ff.dom a h1 h2
       ·have r1:RpL G (upd H5 D (.lst (xs++[u5]))) xs vs (List.replicate vs.length []):=(rp.keep f6.kept (by rw [oQ];exact fun a h=>nomatch h)).keep (Kept.upd (.inl mD5)) (by rw [oQ];exact fun a h=>nomatch h)
        have r2:Rp G (upd H5 D (.lst (xs++[u5]))) u5 w.1.2 []:=r5.keep (Kept.upd (.inl mD5)) (fun a h=>nomatch h)
        have:=r1.append (.cons r2 .nil)
        rw [Zv,ZW,List.replicate_succ']
        exact this
       ·rw [ZJ]
        exact ev
      ·cases er2
     ·cases er2
    ·left
     have hni:n - i=0:=by omega
     rw [hni] at er
     cases (show some (([]:Wq),η2)=some (rest,η') from er)
     rw [ZO] at ev
     subst ev
     refine ⟨by show n<=i;omega,kq D xs H' Φ2 s2 (f1.trans f2) hD2 rp hHD no2 np2⟩
  ·cases e1
 ·cases e1
end
noncomputable def t6 (sep:Tx) (y:VS.Env->Option (Wq×VS.Env)):Xx:=fun η=>(y η).bind fun z=>(jk (.fr,.str sep) [(.fr,.lst z.1)]).map fun v=>((.fr,v.2),z.2)
section
variable {G:Gx} {X:Cx} {e a:Expr} {y:VS.Env->Option (Wq×VS.Env)} {sep:Tx} {elt:Expr} {sc:Scope} {pos p p2 p3:Pos} {N:List Str} {nm:Str} {xa x:Xx}
theorem yL {apos cpos:Pos} (ho:PV G X a (eC (.str sep))) (hc:PE X e (tXL G y)) (hK:X.K=G.K)
  (hbase:attributeBase a "join" X.env (eval a X.env)=eval a X.env)
  (hfew:((backTo cpos (starEach [e] X.env)).all (fun x=>!x.1) && (backToKw cpos (keywordEach [] X.env)).all (fun x=>x.1.isSome)
   && decide ([e].length+([]:List Keyword).length+(if ([]:List Keyword).isEmpty then 0 else 1) < 30))=true)
  (hline:(apos.endLine == cpos.line)=true) (hs:starEach [e] X.env=(false,eval e X.env) :: starEach [] X.env) (hplain:(backTo cpos (starEach [] X.env)).any (·.1)=false) :
  PX G X (.Call (.Attribute a "join" apos) [e] [] cpos) (t6 sep y) :=
 PE.weak (qR PySem.F.plainAttrs_str PySem.F.slot_str_join PySem.F.type_str_join sY ho (cZ hc g7 hs) hbase hfew hline hs hplain) fun σ H Q h=>by
  obtain ⟨Φ,η,v,η',s,e,hi,k⟩:=h
  obtain ⟨z,ey,e1⟩:=Zz.mp e
  obtain ⟨v0,e2,e3⟩:=Zy.mp e1
  cases e3
  unfold jk at e2
  obtain ⟨ss,es',e4⟩:=Zz.mp e2
  split at e4
  ·rename_i hl
   cases e4
   refine ⟨Φ,η,.fr,.str sep,s,rfl,fun u H1 F1 sm r1 f1=>⟨by rw [hK];exact pH r1 ⟨_,rfl⟩,Φ,η,z.1,z.2,s.same sm,ey,fun D vs H2 Φ2 s2 f2 hD rp hHD no np=>?_⟩⟩
   rw [oH rp es'] at hD
   refine ⟨sep,D,ss,r1.str_inv.1,rfl,by rw [hK];exact SqL.of hD,hl,k _ H2 Φ2 s2 ((Frm.same sm).trans f2) (.str _ ⟨ZI (jz sep ss) hl,fun c hc=>(jy sep ss c hc).elim (r1.str_inv.2.2 c) fun ⟨s',hs',hc'⟩=>jA rp es' s' hs' c hc'⟩)⟩
  ·cases e4
end
inductive Ix where | io (i:Nat) (un:Bool) | px (x:Xx)
noncomputable def jb:List Ix->VS.Env->Option (List Ia×VS.Env)
 | [],η=>some ([],η)
 | .io i un :: r,η=>match (η[i]?:Option (Wt)) with
  | some (some _)=>(jb r η).map fun w=>(.io i un :: w.1,w.2)
  | _=>none
 | .px x :: r,η=>(x η).bind fun z=>if imm z.1.2=true then (jb r z.2).map fun w=>(.ex (eC z.1.2) :: w.1,w.2) else none
noncomputable def ixB:List Ix->List Bool
 | []=>[]
 | .io _ _ :: r=>true :: ixB r
 | .px _ :: r=>false :: ixB r
noncomputable def aM (as:List Ix) (g:Wq->Option (Wq×T)):Xx:=fun η=>(jb as η).bind fun w=>gx w.1 g w.2
inductive IxR (G:Gx) (σ:L2.St) (H:Hp):List Ia->List V->Prop
 | nil:IxR G σ H [] []
 | io {i:Nat} {un:Bool} {v:V} {as:List Ia} {vs:List V}:σ[i]?=some (some v)->IxR G σ H as vs->IxR G σ H (.io i un :: as) (v :: vs)
 | ex {t:T} {v:V} {as:List Ia} {vs:List V}:imm t=true->Rp G H v t []->IxR G σ H as vs->IxR G σ H (.ex (eC t) :: as) (v :: vs)
noncomputable def tIx (G:Gx) (as:List Ix):TA:=fun σ H Q=>∃ Φ η ias η',SR G Φ η σ H/\jb as η=some (ias,η')/\∀ vs H' Φ',SR G Φ' η' σ H'->Frm Φ η H Φ' η' H'->IxR G σ H' ias vs->Q vs H'
noncomputable def PIx (G:Gx) (X:Cx) (es:List Expr) (as:List Ix):Prop:=PA X es (tIx G as)
section
variable {G:Gx} {X:Cx} {e:Expr} {es:List Expr} {as:List Ix} {x:Xx} {pos p:Pos} {i:Nat} {un:Bool} {g:Wq->Option (Wq×T)} {mv:List Bool}
theorem rE:∀ {as:List Ix} {η η':VS.Env} {ias:List Ia},jb as η=some (ias,η')->iaB ias=ixB as
 | [],_,_,_,h=>by cases h;rfl
 | .io i un :: as,η,η',ias,h=>by
  unfold jb at h
  split at h
  ·obtain ⟨w,h1,h2⟩:=Zy.mp h
   cases h2
   show true :: iaB w.1=true :: ixB as
   rw [rE (ias:=w.1) (η':=w.2) h1]
  ·cases h
 | .px x :: as,η,η',ias,h=>by
  unfold jb at h
  obtain ⟨z,_,h0⟩:=Zz.mp h
  split at h0
  ·obtain ⟨w,h1,h2⟩:=Zy.mp h0
   cases h2
   show false :: iaB w.1=false :: ixB as
   rw [rE (ias:=w.1) (η':=w.2) h1]
  ·cases h0
theorem IxR.keep {σ:L2.St} {H H':Hp} (k:Kept H H') {as:List Ia} {vs:List V} (h:IxR G σ H as vs):IxR G σ H' as vs:=by
 induction h with
 | nil=>exact .nil
 | io h _ ih=>exact .io h ih
 | ex hi r _ ih=>exact .ex hi (r.keep k (fun a h=>nomatch h)) ih
theorem DS {Φ:Fps} {η:VS.Env} {σ:L2.St} {H:Hp} (s:SR G Φ η σ H) {as:List Ia} {vs:List V} (h:IxR G σ H as vs):∀ {ts:Wq},iu η as=some ts->∃ Fs,RpL G H vs ts Fs/\IaR Φ η σ H as vs Fs:=by
 induction h with
 | nil=>intro ts e;cases e;exact ⟨[],.nil,.nil⟩
 | @io i un v as vs hv _ ih =>
  intro ts e
  obtain ⟨t,e1,e2⟩:=Zz.mp (show (ioV un η[i]?).bind (fun t=>(iu η as).map (t :: ·))=some ts from e)
  obtain ⟨ts',e3,rfl⟩:=Zy.mp e2
  obtain ⟨Fs,r,q⟩:=ih e3
  unfold ioV at e1
  split at e1
  ·rename_i t0 h0
   obtain ⟨v0,h1,h2⟩:=s.rp _ _ h0
   rw [hv] at h1
   cases h1
   have h2':Rp G H v t0 (Φ i):=h2
   have key:∃ a,v=.ref a/\Rp G H (.ref a) t (Φ i):=by
    split at e1
    ·obtain ⟨⟨m,u⟩,g1,g2⟩:=Zy.mp e1
     cases g2
     rw [jW g1] at h2'
     obtain ⟨a,q1,_,q2⟩:=kD h2'
     exact ⟨a,q1,q2⟩
    ·split at e1
     ·rename_i hm
      cases e1
      obtain ⟨a,rfl⟩:=vH h2' hm
      exact ⟨a,rfl,h2'⟩
     ·cases e1
   obtain ⟨a,rfl,r0⟩:=key
   exact ⟨Φ i :: Fs,.cons r0 r,.io hv q⟩
  ·cases e1
 | @ex t v as vs hi rv _ ih =>
  intro ts e
  obtain ⟨v0,e1,e2⟩:=Zz.mp (show (eC t η).bind (fun v=>(exV v).bind fun t=>(iu η as).map (t :: ·))=some ts from e)
  have ev:v0.2=t:=by
   unfold eC at e1
   cases e1
   rfl
  obtain ⟨t',e3,e4⟩:=Zz.mp e2
  obtain ⟨ts',e5,rfl⟩:=Zy.mp e4
  have et:t'=t:=by
   unfold exV at e3
   split at e3
   ·split at e3
    ·cases e3;exact ev
    ·cases e3
   ·cases e3;exact ev
  subst et
  obtain ⟨Fs,r,q⟩:=ih e5
  exact ⟨[] :: Fs,.cons rv r,.ex (fun a h=>nomatch h) q⟩
theorem bc:PIx G X [] []:=PA.weak g7 fun σ H Q hq=>by
 obtain ⟨Φ,η,ias,η',s,e,k⟩:=hq
 cases e
 exact k [] H Φ s (Frm.refl _ _ _) .nil
theorem bM (i:Nat) (un:Bool) {n:Str} (hN:X.N[i]?=some n) (hv:Vis X.env.scope n) (hd:(n == ("__debug__" : Str))=false) (hcd:(n == ("__classdict__" : Str))=false) (hr:PIx G X es as)
  (hs:starEach (.Name n pos :: es) X.env=(false,eval (.Name n pos) X.env) :: starEach es X.env):PIx G X (.Name n pos :: es) (.io i un :: as) :=
 PA.weak (cZ (fq hN hv hd hcd) hr hs) fun σ H Q hq=>by
  obtain ⟨Φ,η,ias,η',s,e,k⟩:=hq
  unfold jb at e
  split at e
  ·rename_i c hc
   obtain ⟨w,e1,e2⟩:=Zy.mp e
   cases e2
   obtain ⟨v,h1,_⟩:=s.rp _ _ hc
   exact ⟨v,h1,Φ,η,w.1,w.2,s,e1,fun vs H' Φ' s' f ix=>k _ H' Φ' s' f (.io h1 ix)⟩
  ·cases e
theorem bC (h:PX G X e x) (hr:PIx G X es as) (hs:starEach (e :: es) X.env=(false,eval e X.env) :: starEach es X.env):PIx G X (e :: es) (.px x :: as) :=
 PA.weak (cZ h hr hs) fun σ H Q hq=>by
  obtain ⟨Φ,η,ias,η',s,e,k⟩:=hq
  unfold jb at e
  obtain ⟨z,e1,e2⟩:=Zz.mp e
  split at e2
  ·rename_i him
   obtain ⟨w,e3,e4⟩:=Zy.mp e2
   cases e4
   exact ⟨Φ,η,z.1,z.2,s,e1,him,fun u H1 Φ1 s1 f1 r1=>⟨Φ1,z.2,w.1,w.2,s1,e3,fun vs H' Φ' s' f' ix=>k _ H' Φ' s' (f1.trans f') (.ex him (r1.keep f'.kept (fun a h=>nomatch h)) ix)⟩⟩
  ·cases e2
theorem nP {k:Nat} {f:Addr} {fd:FuncData} {ps:List Str} {n:Str} (F:FnOk X.prog X.w X.K X.mg X.base CX0 k f fd ps (spI G (ixB as) g)) (hr:Room k X.A) (hg:Gl X n) (hm:X.mg n=some (.ref f)) (hk:PySem.W.keepIn X.K (.ref f)=true) (hb:Binds X.K fd ps []) (ha:PIx G X (e :: es) (.io i un :: as))
  (hdb:(n == ("__debug__" : Str))=false) (he:starEach (e :: es) X.env=(false,eval e X.env) :: starEach es X.env) (hpl:(backTo pos (starEach es X.env)).any (·.1)=false):PXN G X (.Call (.Name n p) (e :: es) [] pos) (aM (.io i un :: as) g) :=
 PE.weak (o5 (E:=E0) F hr hg hm hk hb .nil jc ha hdb he hpl) fun σ H Q h=>by
  obtain ⟨Φ,η,v,η',s,e,kq⟩:=h
  obtain ⟨⟨ias,η1⟩,e1,e2⟩:=Zz.mp e
  have eB:=rE e1
  refine ⟨Φ,η,ias,η1,s,e1,fun vs H1 Φ1 s1 f1 ix=>?_⟩
  show spI G (ixB as) g (vs++[]) H1 Q _
  rw [ZO]
  cases ix with
  | nil=>cases eB
  | ex _ _ _=>cases eB
  | @io i' un' v' as' vs' h0 ix' =>
   have eB':iaB as'=ixB as:=(XR (show true :: iaB as'=true :: ixB as from eB)).2
   have e2':=e2
   unfold gx at e2'
   obtain ⟨ts,e3,_⟩:=Zz.mp e2'
   obtain ⟨Fs,rp,ia⟩:=DS s1 (.io h0 ix') e3
   rw [← eB']
   exact lY s1 e2 e3 (aG.refl _) rp ia fun u H' Φ' F s' f' r n=>kq u H' Φ' F s' (f1.trans f') r (n.back f1)
end
noncomputable def k8 (o:Option Xx) (η:VS.Env):Option (Option Int×VS.Env):=match o with
 | none=>some (none,η)
 | some x=>(x η).bind fun z=>match z.1.2 with
  | .int i=>some (some i,z.2)
  | _=>none
noncomputable def xSl (a:Xx) (lo hi:Option Xx):Xx:=fun η=>(a η).bind fun z=>match z.1.2 with
 | .str t=>(k8 lo z.2).bind fun l=>(k8 hi l.2).map fun h=>((.fr,.str (cut t l.1 h.1)),h.2)
 | _=>none
noncomputable def tXO (G:Gx) (o:Option Xx):TO:=fun σ H Q=>∃ Φ η i η',SR G Φ η σ H/\k8 o η=some (i,η')/\∀ H' Φ',SR G Φ' η' σ H'->Frm Φ η H Φ' η' H'->Q i H'
section
variable {G:Gx} {X:Cx} {e a b:Expr} {lo hi:Option Expr} {xl xh:Option Xx} {xa x xb:Xx} {pos p2:Pos} {i:Nat} {n:Str}
theorem qJ:PO X none (tXO G none):=PO.weak yV fun σ H Q hq=>by
 obtain ⟨Φ,η,o,η',s,e,k⟩:=hq
 cases e
 exact k H Φ s (Frm.refl _ _ _)
theorem jO (h:PX G X e x):PO X (some e) (tXO G (some x)):=PO.weak (ub h) fun σ H Q hq=>by
 obtain ⟨Φ,η,o,η',s,e,k⟩:=hq
 obtain ⟨z,e1,e2⟩:=Zz.mp e
 split at e2
 ·rename_i j hj
  cases e2
  refine ⟨Φ,η,z.1,z.2,s,e1,by rw [hj];rfl,fun u H' Φ' s' f r=>⟨j,?_,k H' Φ' s' f⟩⟩
  rw [hj] at r
  exact r.int_inv
 ·cases e2
theorem wF (ha:PX G X a xa) (hl:PO X lo (tXO G xl)) (hh:PO X hi (tXO G xh)):PX G X (.Subscript a (.Slice lo hi none p2) pos) (xSl xa xl xh) :=
 PE.weak (qd wK ha hl hh) fun σ H Q hq=>by
  obtain ⟨Φ,η,v,η',s,e,him,k⟩:=hq
  obtain ⟨z,e1,e2⟩:=Zz.mp e
  split at e2
  ·rename_i t ht
   obtain ⟨l,e3,e4⟩:=Zz.mp e2
   obtain ⟨h,e5,e6⟩:=Zy.mp e4
   cases e6
   refine ⟨Φ,η,z.1,z.2,s,e1,by rw [ht];rfl,fun u H1 Φ1 s1 f1 r1=>⟨Φ1,z.2,l.1,l.2,s1,e3,fun H2 Φ2 s2 f2=>⟨Φ2,l.2,h.1,h.2,s2,e5,fun H3 Φ3 s3 f3=>?_⟩⟩⟩
   rw [ht] at r1
   obtain ⟨rfl,hz⟩:=r1.str_inv
   refine ⟨_,rfl,by rw [dz,← fD];exact hz.1,?_⟩
   rw [ji]
   exact k _ H3 Φ3 s3 ((f1.trans f2).trans f3) (.str _ ⟨ZI (t9 _ _ _) hz.1,fun c hc=>hz.2 c ((oY _ _ _).subset hc)⟩)
  ·cases e2
theorem wk (i:Nat) (hN:X.N[i]?=some n) (hv:Vis X.env.scope n) (hd:(n == ("__debug__" : Str))=false) (hcd:(n == ("__classdict__" : Str))=false) (hb:PX G X b xb) (hs:gp b) (hK:X.K=G.K):PX G X (.Subscript (.Name n p2) b pos) (nY i xb) :=
 PE.weak (mh jw (fq hN hv hd hcd) hb hs) fun σ H Q hq=>by
  obtain ⟨Φ,η,v,η',s,e,him,k⟩:=hq
  unfold nY at e
  split at e
  ·rename_i c0 hc0
   obtain ⟨v0,h0,_⟩:=s.rp _ _ hc0
   obtain ⟨z,e1,e2⟩:=Zz.mp e
   split at e2
   ·rename_i i0 c hz hc
    split at e2
    ·rename_i ts hts
     obtain ⟨j,ej,e3⟩:=Zz.mp e2
     obtain ⟨t,et,e4⟩:=Zz.mp e3
     split at e4
     ·rename_i hit
      cases e4
      refine ⟨v0,h0,Φ,η,z.1,z.2,s,e1,by rw [hz];rfl,fun w H2 Φ2 s2 f2 r2=>?_⟩
      obtain ⟨v1,h1,r1⟩:=s2.rp _ _ hc
      rw [h0] at h1
      cases h1
      rw [hts] at r1
      rw [hz] at r2
      obtain ⟨a,vs,Fs,rfl,eF,ha1,ra⟩:=r1.lst_inv
      obtain ⟨x,Fx,u1,u2,u3⟩:=ra.get j et
      have hx:=u3.imm hit
      subst hx
      exact .inl ⟨a,vs,i0,x,rfl,r2.int_inv,by rw [hK];exact SqL.of ha1,jG (by rw [ra.len.1];exact ej) u1,k x H2 Φ2 s2 f2 u3⟩
     ·cases e4
    ·cases e2
   ·cases e2
  ·cases e
end
section
variable {G:Gx} {X:Cx} {elt a:Expr} {sc:Scope} {pos p p2 p3:Pos} {N:List Str} {nm:Str} {xa x:Xx}
theorem xQ (N:List Str) (hcalm:X.calm=true) (hg:Gl X "range") (hm:X.mg "range" = none) (ha:PX G X a xa) (hgn:∀ cl C s H fp,PG (cU X N sc cl C s H fp) (.Name nm p2) (tZ 0)) (he:∀ cl C s H fp,PX G (cU X N sc cl C s H fp) elt x)
  (hs:starEach [a] X.env=(false,eval a X.env) :: starEach [] X.env) (hs':starEach [a] X.env=[(false,eval a X.env)]) (hsc:oy X.env sc=true) (hnm:lF sc (N.drop 1) X.N=true) (hNl:1<=N.length) (hf:∀ x,foldedSetIterable (.Call (.Name "range" p) [a] [] p3) X.env x=pure x) :
  PE X (.ListComp elt [⟨.Name nm p2,.Call (.Name "range" p) [a] [] p3,[],0⟩] sc pos) (tXL G (pP xa x)) :=
 PE.weak (lL hcalm (kG hg hm (cZ ha g7 hs) hs') hsc hnm hNl (fun cl C s H fp=>⟨hgn cl C s H fp,mK,he cl C s H fp⟩) hf) fun σ H Q h=>xk (g:=tZ 0) (fun v σ H R r=>r) h
end
section
variable {G:Gx} {X:Cx} {e a b elt:Expr} {es rest:List Expr} {ca cb:Ex} {xa xb xc:Xx} {xt:Xt} {as:List Ix} {lo hi:Option Expr} {xl xh:Option Xx} {y:VS.Env->Option (Wq×VS.Env)} {sep:Tx} {sc:Scope} {N:List Str} {p pos pos' p1 p2 p3 apos cpos:Pos} {i j k k':Nat} {un:Bool} {n nm x:Str} {ps:List Str} {g:Wq->Option (Wq×T)}
theorem ic (ha:PX G X a xa) (hb:PX G X b xb):PX G X (.BinOp a .Add b pos) (x2 aZ xa xb):=AC sv wX ha hb
theorem tD (ha:PVT G X a ca) (hb:PXT G X b xt):PXT G X (.BoolOp .And [a,b] pos) (iJ ca xt):=(zc ha (xW hb)).pxt
theorem bj (F:IoAt X.prog X.w X.K X.mg X.base k x ps G (ixB as) g) (hr:Room k' X.A) (ha:PIx G X (e :: es) (.io i un :: as)) (hk:k<=k') (hg:Gl X x) (hdb:(x == ("__debug__" : Str))=false) (he:starEach (e :: es) X.env=(false,eval e X.env) :: starEach es X.env) (hpl:(backTo pos (starEach es X.env)).any (·.1)=false) :
  PX G X (.Call (.Name x p) (e :: es) [] pos) (aM (.io i un :: as) g):=by
 obtain ⟨f,fd,h1,h2,h3,h4⟩:=F.ex
 exact (nP h1 (hr.mono hk) hg h2 h3 h4 ha hdb he hpl).px
theorem yO (F:IoAt X.prog X.w X.K X.mg X.base k x ps G (ixB as) g) (hr:Room k' X.A) (ha:PIx G X (e :: es) (.io i un :: as)) (hk:k<=k') (hg:Gl X x) (hdb:(x == ("__debug__" : Str))=false) (he:starEach (e :: es) X.env=(false,eval e X.env) :: starEach es X.env) (hpl:(backTo pos (starEach es X.env)).any (·.1)=false) :
  PXN G X (.Call (.Name x p) (e :: es) [] pos) (aM (.io i un :: as) g):=by
 obtain ⟨f,fd,h1,h2,h3,h4⟩:=F.ex
 exact nP h1 (hr.mono hk) hg h2 h3 h4 ha hdb he hpl
end
noncomputable def pj (j:Nat) (x:Xx):Sx:=fun η=>(x η).bind fun z=>if j < z.2.length then some (.nx (z.2.set j (some (.pu z.1.2)))) else none
noncomputable def sW (g:Tg) (x:Xx) (b:Sx):Sx:=fun η=>(x η).bind fun z=>if imm z.1.2=true then gz g (cq (eC z.1.2)) b z.2 else none
section
variable {G:Gx} {X:Cx} {e a b:Expr} {ca:Ex} {xc:Xx} {y:VS.Env->Option (Wq×VS.Env)} {pos pos':Pos} {j:Nat} {nm:Str}
theorem wt (h:PXN G X e xc) (hN:X.N.Nodup) (hi:X.N[j]?=some nm) (hx:Loc X.env.scope nm) (hsw:swapsWith e (some (.Name nm pos')) pos.line X.env=pure false) (hf:X.fn nm=true\/X.env.scope.names.lookup nm=some .local) :
  PSV G X (.Assign [.Name nm pos'] e pos) (pj j xc) :=
 PS.weak (oZ hN hi hx h hsw hf) fun D σ H hq=>by
  obtain ⟨Φ,η,o,s,e,k⟩:=hq
  obtain ⟨z,e1,e2⟩:=Zz.mp e
  split at e2
  ·rename_i hc
   cases e2
   refine ⟨Φ,η,z.1,z.2,s,e1,fun u H1 Φ1 F s1 f1 r1 n1=>?_⟩
   refine k _ _ _ (s1.put (c:=.pu z.1.2) (H':=H1) hc r1 (fun _ _ _ _ _ q=>q) (fun _ h=>nomatch h) (fun _ h=>nomatch h) fun j' t _ hj a ha ha'=>n1.ap j' _ hj a ha' ha) ⟨fun a o h n=>⟨(f1.keep a o h n).1,fun z=>?_⟩,f1.dom,fun a h=>?_,fun a h=>?_,f1.kept⟩
   ·rcases jE z with ⟨_,q,_⟩ | z
    ·cases q
    ·exact (f1.keep a o h n).2 z
   ·rcases jE h with ⟨_,q,_⟩ | z
    ·cases q
    ·exact f1.ow a z
   ·rcases oI h with ⟨_,_,ha⟩ | z
    ·rcases n1.of a ha with q | q
     ·exact .inr (.inr q)
     ·exact .inr (.inl q)
    ·exact f1.pu a z
  ·cases e2
theorem Bj {tg:Expr} {body:List Stmt} {g:Tg} {cb:Sx} {p p2:Pos} (hp:PassesOwn (model X.prog X.w) X.A X.env X.xe) (hc:X.calm=true) (hgl:Gl X "range") (hm:X.mg "range" = none) (hx:PX G X a xc) (hg:PVG G X tg g) (hb:gk G X body cb)
  (hs:starEach [a] X.env=(false,eval a X.env) :: starEach [] X.env) (hs':starEach [a] X.env=[(false,eval a X.env)]) (hf:∀ x,foldedSetIterable (.Call (.Name "range" p) [a] [] p2) X.env x=pure x):PSV G X (.For tg (.Call (.Name "range" p) [a] [] p2) body [] pos) (sW g xc cb) :=
 PS.weak (vz hp hc (kG hgl hm (cZ hx g7 hs) hs') hg hb hf) fun D σ H hq=>by
  obtain ⟨Φ,η,o,s,e,k⟩:=hq
  obtain ⟨z,e1,e2⟩:=Zz.mp e
  split at e2
  ·rename_i hi
   refine ⟨Φ,η,z.1,z.2,s,e1,hi,fun u H1 Φ1 s1 f1 r1=>?_⟩
   obtain ⟨Φ3,η3,m,l,s3,e3,k3⟩:=wq (g:=g) (cb:=cb) ⟨Φ1,z.2,o,s1,e2,k.back f1⟩
   unfold cq at e3
   obtain ⟨⟨mx,x⟩,ea,e4⟩:=Zz.mp e3
   obtain ⟨j,ej,e5⟩:=Zz.mp e4
   cases (show some ((Md.fr,z.1.2):Val)=some (mx,x) from ea)
   split at e5
   ·rename_i hj
    cases e5
    generalize z.1.2=t at *
    cases t with
    | int j' =>
     cases ej
     refine ⟨j,by rw [r1.int_inv],?_,?_,k3 _ H1 [] (aG.refl _) (qH H1 0 j.toNat) fun a h=>nomatch h⟩
     ·have:=hj.1;unfold B62 at this;omega
     ·have:=hj.2;unfold B62 at this;omega
    | _=>cases ej
   ·cases e5
  ·cases e2
end
noncomputable def wU:Fn:=fun ts=>match ts with
 | [.scr ns]=>if ns.length<=63 then some (.fr,.bl true) else none
 | _=>none
section
variable {P:Program} {w:World} {K:X8} {mg:X9} {base:Heap} {G:Gx}
theorem yr {k:Nat} {f:Addr} {fd:FuncData} {y:Str} {g:Fn} (hK:G.K=K) (F:FnOk P w K mg base CX0 k f fd [y] (spF G g)) (hg:∀ ns:Wv,ns.length<=63->g [.scr ns]=some (.fr,.bl true)) :
  FnOk P w K mg base CX0 k f fd [y] (spF (gx0 K) wU):=F.imp fun vs H Q E h=>by
 obtain ⟨ts,Fs,m,r,h1,h2,q⟩:=h
 unfold wU at h2
 split at h2
 ·rename_i ns
  split at h2
  ·rename_i hn
   cases h2
   cases h1 with
   | cons r1 r2 =>
    cases r2
    cases r1 with
    | scr hs=>exact ⟨[.scr ns],[[]],.fr,.bl true,.cons (.scr (by rw [hK];exact hs)) .nil,hg ns hn,fun v H' F e1 r f1=>q v H' F e1 (by cases r;exact .bl _) f1⟩
  ·cases h2
 ·cases h2
end
theorem wI {l:PySem.W.OpenLaw} {q:Program} {loose:List Str} {XP:(X9)->Heap->Prop} {d:DefRec} {K:Params->X8} {x:Str} {k:Nat} (hn:l.most=some 63) (hdf:d.params.defaults=[]) (hr:Room k callerA)
  (F:∀ (w:World) (mg:X9) (fa:Addr) (h:Heap),(K w.params).In h->h.Ns mainGlobals mg->mg d.name=some (.ref fa) →
   ∃ fd:FuncData,(∀ (s:Shared) (u:Value),BindsTo s fd ⟨[u],[]⟩ [(x,u)])/\∀ base:Heap,(K w.params).In base->base.Ns mainGlobals mg->FnOk l.prog w (K w.params) mg base CX0 k fa fd [x] (spF (gx0 (K w.params)) wU)) :
  PySem.W.WalkO q loose XP (fun w h=>(K w.params).In h) l.row.toRowW d [] (fun f vs=>PySem.call f vs) :=
 L2.zA (n:=63) (k:=k) (x:=x) (CX:=fun _=>CX0) (sp:=fun w=>spF (gx0 (K w.params)) wU) hn (by decide) hdf hr (fun _ _ h=>h) F (fun w H a ns hl hO hS=>A2 (G:=gx0 (K w.params)) (Zp hl) hO hS) fun _ _ _ _ _ z=>z
end VS
end
section
namespace T40
open VS
noncomputable def aF:Mt:=mfn 0 4 4 [false,false,true]
  (aq (sX (ig 0 [.fld 1] aA (ab (aa 1) aj)))
  (aq (sX (ig 0 [.fld 2] aA (ab (aa 2) aj)))
  (aq (mO 0 [.fld 3] 3)
  (gB (e2 nh (eN cA (ab (aU 1 (aa 0)) aj)) (Q2 1))))))
noncomputable def c8:Mt:=mfn 0 1 1 (List.replicate 0 false)
  (aq (iT 0 1 (dF aj))
  (aq (iT 0 2 (dF aj))
  (aq (iT 0 3 (dF aj))
  (sXM (bq 0 [] 0 [false,false,true] aF (ab (Q2 0) (ab (eC .non) (ab (qD 0 []) aj))))))))
noncomputable def bI:Sx :=
  (aq (dh 0 [.fld 3,.ix (aa 1)] (aa 2) (aa 5))
  (aL 1 (e2 aB (aU 2 (aa 0)) (aa 1))))
noncomputable def av:Mt:=mfn 0 3 6 [false,false]
  (aq (aL 3 (e2 oIx (e2 aB (aU 3 (aa 0)) (aa 1)) (aa 2)))
  (aq (aL 4 (e2 aZ (e2 aB (aU 1 (aa 0)) (aa 1)) (Q2 1)))
  (aq (sIf (e2 oEq (e2 aB (aU 1 (aa 0)) (aa 3)) (aa 4)) (eV 3) eX)
  (aq (bW 5 (bq 0 [] 0 [false,false,true] aF (ab (aa 4) (ab (e2 aB (aU 2 (aa 0)) (aa 3)) (ab (eN kP (ab (e2 aB (aU 3 (aa 0)) (aa 3)) aj)) aj)))))
  (aq (dh 0 [.fld 2] (aa 3) (aa 5))
  (aq (jI (iN (dM (aa 1)) (e2 oEq (e2 ue (e2 aB (aU 3 (aa 0)) (aa 1)) (aa 2)) (aa 3))) bI)
  (eV 5)))))))
noncomputable def bG:Sx :=
  (aq (dh 0 [.fld 3,.ix (aa 4)] (aa 2) (aa 3))
  (aL 4 (e2 aB (aU 2 (aa 0)) (aa 4))))
noncomputable def bE:Mt:=mfn 0 3 5 [false,false]
  (aq (sIf (e2 kF (aa 2) (e2 aB (aU 3 (aa 0)) (aa 1))) (jN (bq 0 [] 0 [false,false] av (ab (aa 1) (ab (aa 2) aj)))) eX)
  (aq (bW 3 (bq 0 [] 0 [false,false,true] aF (ab (e2 aZ (e2 aB (aU 1 (aa 0)) (aa 1)) (Q2 1)) (ab (Q2 0) (ab (qD 0 []) aj)))))
  (aq (aL 4 (aa 1))
  (aq (jI (iN (dM (aa 4)) (e2 du (aa 2) (e2 aB (aU 3 (aa 0)) (aa 4)))) bG)
  (aq (sIf (dM (aa 4)) (iF 0 [.fld 2] (aa 3) (bq 0 [] 0 [false,false] av (ab (aa 4) (ab (aa 2) aj)))) eX)
  (eV 3))))))
noncomputable def bT:Sx :=
  (bW 1 (bq 0 [] 0 [false,false] bE (ab (aa 1) (ab (aa 3) aj))))
noncomputable def aK:Mt:=mfn 0 3 4 [false,false]
  (aq (gz (bH 3) (iq (aa 2)) bT)
  (eV 1))
noncomputable def ba:Sx :=
  (sIf (e2 du (e2 oIx (aa 4) (aa 5)) (aa 1)) (aq (qO 1 (e2 oIx (aa 4) (aa 5)) (eN cA (ab (aa 2) aj)))
  (sX (lD 2 [] aA (ab (e2 oIx (aa 4) (aa 5)) aj)))) eX)
noncomputable def bQ:Sx :=
  (aq (aL 4 (e2 aB (aU 3 (aa 0)) (e2 aB (aa 2) (aa 3))))
  (aq (gz (bH 5) (iq (eN gy (ab (aa 4) aj))) ba)
  (aL 3 (e2 aZ (aa 3) (Q2 1)))))
noncomputable def aC:Fn:=fn 1 6
  (aq (ja 1 (qD 0 [((Q2 0),(Q2 0))]))
  (aq (ja 2 (dF (ab (Q2 0) aj)))
  (aq (aL 3 (Q2 0))
  (aq (jI (e2 oLt (aa 3) (eN cA (ab (aa 2) aj))) bQ)
  (aq (xN 2)
  (eV 1))))))
noncomputable def bO:Fn:=fn 3 6
  (aq (aL 3 (e2 aB (aU 2 (aa 0)) (aa 1)))
  (aq (aL 4 (e2 aB (aU 3 (aa 0)) (aa 1)))
  (aq (aL 5 (eN j6 (ab (fe 1 (bH 0) (iq (eN gy (ab (aa 4) aj))) none (lW (ab (aa 0) (ab (e2 pq (aa 3) (e2 oIx (aa 5) (aa 0))) aj)))) aj)))
  (aq (sIf (zv (aa 3)) (gB (lW (ab (Q2 0) (ab (Q2 0) (ab (eC .non) (ab (aa 5) aj)))))) eX)
  (gB (lW (ab (e2 aZ (e2 aB (aU 1 (aa 0)) (aa 3)) (Q2 1)) (ab (e2 aB (aU 1 (aa 0)) (aa 1)) (ab (e2 pq (aa 2) (aa 3)) (ab (aa 5) aj))))))))))
noncomputable def dn:Fn:=fn 1 2
  (aq (ja 1 (eY 0 aC (aa 0) aj))
  (wM 1 (bH 0) (eY 0 bO (aa 1) (ab (aa 0) (ab (aa 2) aj)))))
noncomputable def bg:Mt:=mfn 1 1 1 []
  (aq (sIf (e2 oGe (eN cA (ab (aU 4 (aa 0)) aj)) (Q2 8)) sNo eX)
  (aq (sX (ig 0 [.fld 4] aA (ab (eC (.str [])) aj)))
  (aq (sX (ig 0 [.fld 5] aA (ab (Q2 0) aj)))
  (gB (e2 nh (eN cA (ab (aU 4 (aa 0)) aj)) (Q2 1))))))
noncomputable def fR:Fn:=fn 1 1
  (gB (iN (eIs .int (aa 0)) (j7 (eIs .bool (aa 0)))))
noncomputable def aX:Fn:=fn 2 2
  (sIf (eOr (j7 (bx fR (ab (aa 1) aj))) (j7 (d9 oLe oLt (Q2 0) (aa 1) (eN cA (ab (aa 0) aj))))) sNo eX)
noncomputable def gg:Fn:=fn 1 1
  (gB (eN yj (ab (fe 1 (bH 0) (iq (aa 0)) none (eN cA (ab (aa 0) aj))) aj)))
noncomputable def bf:Mt:=mfn 1 3 3 [false,false]
  (aq (sX (xP (bx aX (ab (aU 4 (aa 0)) (ab (aa 1) aj)))))
  (aq (sIf (e2 oGt (e2 aZ (bx gg (ab (aU 4 (aa 0)) aj)) (eN cA (ab (aa 2) aj))) (Q2 120)) sNo eX)
  (aq (iF 0 [.fld 5] (aa 1) (bq 0 [.fld 6] 0 [false,false] aK (ab (e2 aB (aU 5 (aa 0)) (aa 1)) (ab (aa 2) aj))))
  (dh 0 [.fld 4] (aa 1) (e2 aZ (e2 aB (aU 4 (aa 0)) (aa 1)) (aa 2))))))
noncomputable def bp:Sx :=
  (sXM (nZ 0 1 [false,false] bf (bq 0 [] 1 [] bg aj) (ab (aa 2) aj)))
noncomputable def aT:Mt:=mfn 1 2 3 (List.replicate 1 false)
  (aq (iT 0 4 (dF aj))
  (aq (iT 0 5 (dF aj))
  (aq (iT 0 6 (eNew 0 c8 aj))
  (sIf (dM (aa 1)) (gz (bH 2) (iq (aa 1)) bp) eX))))
noncomputable def mD:Fn:=fn 1 1
  (gB (eN kL (ab (aU 4 (aa 0)) aj)))
noncomputable def bY:Fn:=fn 1 1
  (gB (eY 0 dn (aU 6 (aa 0)) aj))
noncomputable def bA:Fn:=fn 2 2
  (sIf (eOr (j7 (bx fR (ab (aa 1) aj))) (j7 (d9 oLe oLt (Q2 0) (aa 1) (eN cA (ab (aa 0) aj))))) sNo eX)
noncomputable def gT:Sx :=
  (aq (sX (lD 2 [] aA (ab (aa 1) aj)))
  (aL 1 (e2 aB (e2 aB (aa 0) (aa 1)) (Q2 2))))
noncomputable def iX:Fn:=fn 2 3
  (aq (sX (xP (bx bA (ab (aa 0) (ab (aa 1) aj)))))
  (aq (ja 2 (dF aj))
  (aq (jI (dM (aa 1)) gT)
  (eV 2))))
noncomputable def bK:Sx :=
  (aq (aL 5 (eN kU (ab (e2 aB (e2 aB (aa 0) (aa 4)) (Q2 3)) aj)))
  (sIf (e2 kF (aa 3) (aa 5)) (gB (lW (ab (e2 oIx (aa 5) (aa 3)) (ab (e2 aZ (eN qq (ab (aa 2) (ab (e2 aB (e2 aB (aa 0) (aa 4)) (Q2 1)) aj))) (Q2 1)) aj)))) eX))
noncomputable def di:Fn:=fn 4 6
  (aq (gz (bH 4) (iq (bx iX (ab (aa 0) (ab (aa 1) aj)))) bK)
  (gB (lW (ab (Q2 0) (ab (Q2 0) aj)))))
noncomputable def jM:Sx :=
  (aq (aL 2 (bx di (ab (aa 0) (ab (e2 aB (aa 2) (Q2 0)) (ab (e2 aB (aa 2) (Q2 1)) (ab (aa 4) aj))))))
  (sX (lD 3 [] aA (ab (e2 aB (aa 2) (Q2 1)) aj))))
noncomputable def fI:Fn:=fn 2 5
  (aq (aL 2 (lW (ab (Q2 0) (ab (Q2 0) aj))))
  (aq (ja 3 (dF (ab (Q2 0) aj)))
  (aq (gz (bH 4) (iq (aa 1)) jM)
  (eV 3))))
noncomputable def fh:Sx :=
  (aq (aL 3 (e2 oMod (e2 aZ (e2 aZ (e2 gj (aa 3) (Q2 69621)) (e2 gj (Q2 7) (aa 5))) (Q2 1)) (Q2 2147483647)))
  (aq (aL 6 (e2 oMod (e2 gj (aa 3) (aa 3)) (Q2 2147483629)))
  (aL 4 (e2 aZ (e2 gj (aa 4) (Q2 999983)) (e2 oMod (e2 gj (aa 6) (e2 aZ (e2 oMod (aa 6) (Q2 65521)) (Q2 3))) (Q2 999983))))))
noncomputable def b7:Fn:=fn 2 7
  (aq (aL 2 (e2 aZ (e2 gj (aa 1) (Q2 7919)) (Q2 104729)))
  (aq (sIf (e2 oGt (eN cA (ab (aa 0) aj)) (Q2 0)) (aL 2 (e2 aZ (e2 aB (aa 0) (e2 oMod (aa 1) (eN cA (ab (aa 0) aj)))) (e2 gj (e2 jd (aa 1) (eN cA (ab (aa 0) aj))) (Q2 48271)))) eX)
  (aq (sIf (e2 oEq (e2 oMod (aa 2) (Q2 2)) (Q2 0)) (gB (dF (ab (e2 jd (aa 2) (Q2 2)) aj))) eX)
  (aq (aL 3 (e2 oMod (e2 aZ (e2 jd (aa 2) (Q2 2)) (e2 gj (Q2 40503) (aa 1))) (Q2 2147483629)))
  (aq (aL 4 (Q2 0))
  (aq (gz (bH 5) (cq (Q2 24)) fh)
  (gB (dF (ab (aa 4) aj)))))))))
noncomputable def au:Wq->Option (Wq×T):=ifn 2 3 [false]
  (aq (aL 2 (e2 oMod (e2 aB (eUn (aa 0)) (Q2 0)) (aa 1)))
  (aq (dh 0 [.un] (Q2 0) (e2 jd (e2 aB (eUn (aa 0)) (Q2 0)) (aa 1)))
  (eV 2)))
noncomputable def cT:Wq->Option (Wq×T):=ifn 3 3 [false,false]
  (jN (t6 [] (pP (aM [(.io 0 true),(.px (xI (e2 aZ (aa 2) (Q2 1))))] au) (x2 aB (xI (aa 2)) (aM [(.io 1 true),(.px (xI (eN cA (ab (aa 2) aj))))] au)))))
noncomputable def gr:Wq->Option (Wq×T):=ifn 1 5 []
  (aq (aL 1 (eC (.str [97,98,99,100,101,102,103,104,105,106,107,108,109,110,111,112,113,114,115,116,117,118,119,120,121,122])))
  (aq (bW 2 (lj (dF (ab (Q2 2) (ab (Q2 1) (ab (Q2 3) (ab (Q2 2) (ab (Q2 4) (ab (Q2 2) (ab (Q2 3) (ab (Q2 26) aj))))))))) (aM [(.io 0 true),(.px (xI (Q2 8)))] au)))
  (aq (bW 3 (aM [(.io 0 true),(.px (xI (Q2 26)))] au))
  (aq (bW 4 (lj (dF (ab (Q2 1) (ab (Q2 3) (ab (Q2 25) (ab (Q2 7) aj))))) (aM [(.io 0 true),(.px (xI (Q2 4)))] au)))
  (gB (eM jk (eC (.str [])) (ab (fe 1 (bH 0) (cq (aa 2)) none (e2 aB (aa 2) (e2 oMod (e2 aZ (aa 4) (e2 gj (aa 5) (aa 0))) (Q2 26)))) aj)))))))
noncomputable def dg:Sx :=
  (aq (bW 5 (aM [(.io 0 true),(.px (xI (aa 1))),(.px (lj (dF (ab (Q2 6) (ab (Q2 3) (ab (Q2 10) (ab (Q2 8) aj))))) (aM [(.io 0 true),(.px (xI (Q2 4)))] au)))] cT))
  (aq (rB (iJ (e2 oGt (aa 4) (Q2 0)) (xtV (x2 oEq (aM [(.io 0 true),(.px (xI (Q2 4)))] au) (xI (Q2 1))))) (aq (bW 6 (nY 3 (aM [(.io 0 true),(.px (xI (aa 4)))] au)))
  (bW 5 (xSl (x2 aZ (xSl (xI (aa 6)) (some (aM [(.io 0 true),(.px (xI (e2 aZ (eN cA (ab (aa 6) aj)) (Q2 1))))] au)) none) (xI (aa 5))) none (some (xI (Q2 14)))))) eX)
  (sX (lD 3 [] aA (ab (aa 5) aj)))))
noncomputable def hV:Wq->Option (Wq×T):=ifn 2 7 [false]
  (aq (bW 2 (lj (dF (ab (Q2 2) (ab (Q2 1) (ab (Q2 3) (ab (Q2 2) (ab (Q2 4) (ab (Q2 0) (ab (Q2 1) (ab (Q2 8) aj))))))))) (aM [(.io 0 true),(.px (xI (Q2 8)))] au)))
  (aq (ja 3 (dF aj))
  (aq (gz (bH 4) (cq (aa 2)) dg)
  (aq (rB (iJ (d9 oLt oLt (Q2 0) (aa 2) (Q2 3)) (xtV (x2 oEq (aM [(.io 0 true),(.px (xI (Q2 6)))] au) (xI (Q2 1))))) (iF 3 [] (Q2 0) (x2 sN (x2 aZ (x2 aZ (xI (e2 aB (aa 3) (Q2 0))) (aM [(.io 0 true),(.px (xI (aa 1))),(.px (xI (Q2 24)))] cT)) (xI (e2 aB (aa 3) (Q2 (-1))))) (x2 aZ (xI (Q2 1)) (aM [(.io 0 true),(.px (xI (Q2 2)))] au)))) eX)
  (eV 3)))))
noncomputable def eO:Sx :=
  (aq (bW 5 (aM [(.io 0 true),(.px (xI (Q2 6)))] au))
  (sIf (e2 oLt (aa 5) (Q2 2)) (bW 3 (x2 aZ (xI (aa 3)) (aM [(.io 0 true),(.px (xI (aa 2))),(.px (xI (Q2 7)))] cT))) (sIf (e2 oEq (aa 5) (Q2 2)) (bW 3 (x2 aZ (xI (aa 3)) (x2 aB (xI (eC (.str [97,98,99,100,101,102,103,104,105,106,107,108,109,110,111,112,113,114,115,116,117,118,119,120,121,122]))) (aM [(.io 0 true),(.px (xI (Q2 26)))] au)))) (sIf (e2 oNe (aa 1) (dF aj)) (aq (bW 6 (nY 1 (aM [(.io 0 true),(.px (xI (eN cA (ab (aa 1) aj))))] au)))
  (aq (bW 7 (aM [(.io 0 true),(.px (xI (e2 aZ (eN cA (ab (aa 6) aj)) (Q2 1))))] au))
  (bW 3 (x2 aZ (xI (aa 3)) (xSl (xI (aa 6)) (some (xI (aa 7))) (some (x2 aZ (xI (e2 aZ (aa 7) (Q2 1))) (aM [(.io 0 true),(.px (xI (Q2 40)))] au)))))))) eX))))
noncomputable def h9:Wq->Option (Wq×T):=ifn 3 8 [false,false]
  (aq (aL 3 (eC (.str [])))
  (aq (sW (bH 4) (x2 aZ (xI (Q2 1)) (aM [(.io 0 true),(.px (xI (Q2 5)))] au)) eO)
  (eV 3)))
noncomputable def cL:Fn:=fn 2 2
  (gB (e2 oGt (eN cA (ab (fe 1 (bH 0) (iq (aa 0)) (some (e2 xY (aa 2) (aa 0))) (aa 0)) aj)) (Q2 0)))
noncomputable def jS:Sx :=
  (aL 4 (e2 nh (aa 4) (Q2 1)))
noncomputable def jV:Sx :=
  (aq (aL 4 (aa 3))
  (aq (jI (iN (e2 oGt (aa 4) (Q2 0)) (j7 (bx cL (ab (aa 0) (ab (eSl (aa 1) (some (e2 nh (aa 3) (aa 4))) (some (aa 3))) aj))))) jS)
  (sX (lD 2 [] aA (ab (aa 4) aj)))))
noncomputable def gS:Fn:=fn 2 5
  (aq (ja 2 (dF aj))
  (aq (gz (bH 3) (cq (e2 aZ (eN cA (ab (aa 1) aj)) (Q2 1))) jV)
  (eV 2)))
noncomputable def qX:Sx :=
  (aq (ja 11 (bx fI (ab (aa 9) (ab (aa 7) aj))))
  (aq (sIf (eOr (j7 (eIs .list (aa 11))) (eOr (e2 oNe (aa 11) (aa 8)) (e2 oNe (aa 9) (aa 4)))) (gB (eC (.bl false))) eX)
  (aq (sIf (e2 oNe (fe 1 (bH 0) (iq (aa 11)) (some (eIs .bool (aa 0))) (aa 0)) (dF aj)) (gB (eC (.bl false))) eX)
  (sX (lD 11 [] aA (ab (Q2 0) aj))))))
noncomputable def mR:Sx :=
  (aq (bW 7 (gx [(.io 5 false),(.ex (aa 3)),(.ex (aa 2))] h9))
  (aq (aL 8 (bx gS (ab (aa 3) (ab (aa 7) aj))))
  (aq (aL 9 (eN kL (ab (aa 4) aj)))
  (gz (bH 10) (cq (Q2 2)) qX))))
noncomputable def wj:Fn:=fn 1 12
  (aq (ja 1 (bx b7 (ab (aa 0) (ab (Q2 0) aj))))
  (aq (bW 2 (aM [(.io 1 false)] gr))
  (aq (pj 3 (aM [(.io 1 false),(.px (xI (aa 2)))] hV))
  (aq (xN 1)
  (aq (aL 4 (eY 1 bY (eNew 1 aT (ab (aa 3) aj)) aj))
  (aq (ja 5 (bx b7 (ab (aa 0) (ab (Q2 1) aj))))
  (aq (gz (bH 6) (cq (Q2 3)) mR)
  (aq (xN 5)
  (gB (eC (.bl true)))))))))))
end T40
end
section
namespace AU
structure St where
 lg:Ww
 lk:List (Option Nat)
 wy:List (List (Nat×Nat))
noncomputable def gW (w:List (Nat×Nat)) (c:Nat):Option Nat:=(w.find? fun p=>p.1 == c).map (·.2)
noncomputable def pW (w:List (Nat×Nat)) (c m:Nat):List (Nat×Nat):=if w.any (fun p=>p.1 == c) then w.map (fun p=>if p.1 == c then (p.1,m) else p) else w++[(c,m)]
structure WF (S:St):Prop where
 lk:S.lk.length=S.lg.length
 wy:S.wy.length=S.lg.length
 pos:0 < S.lg.length
 up:∀ i n,S.lk.getD i none=some n->n < S.lg.length
 on:∀ i c n,gW (S.wy.getD i []) c=some n->n < S.lg.length
 nd:∀ w∈S.wy,(w.map (·.1)).Nodup
 az:∀ w∈S.wy,∀ p∈w,97<=p.1/\p.1<=122
theorem sub_len {α:Type} [DecidableEq α]:∀ (l r:List α),l.Nodup->(∀ x∈l,x∈r)->l.length<=r.length
 | [],_,_,_=>Yp _
 | a :: l,r,nd,h=>by
  obtain ⟨h1,h2⟩:=Zd.mp nd
  have hr:a∈r:=h a Zt
  have:=sub_len l (r.erase a) h2 fun x hx=>(List.mem_erase_of_ne (show x ≠ a from fun e=>h1 (by rw [← e];exact hx))).mpr (h x (Zu _ hx))
  rw [List.length_erase_of_mem hr] at this
  have:0 < r.length:=List.length_pos_of_mem hr
  rw [Zl]
  omega
theorem WF.small {S:St} (W:WF S) (i:Nat):(S.wy.getD i []).length < 16777216:=by
 by_cases h:i < S.wy.length
 ·have hm:S.wy.getD i []∈S.wy:=by
   rw [Zs,Zr h]
   exact Z6 h
  have:=sub_len ((S.wy.getD i []).map (·.1)) (List.range 123) (W.nd _ hm) fun x hx=>by
   obtain ⟨p,hp,rfl⟩:=Yk.mp hx
   have:=(W.az _ hm p hp).2
   exact YK.mpr (by omega)
  rw [Zw,ZG] at this
  omega
 ·rw [Zs,Z0 (ZL h)]
  decide
theorem Bg (w:List (Nat×Nat)) (c:Nat):(w.any fun p=>p.1 == c)=(gW w c).isSome:=by
 unfold gW
 rw [Yj,Xw,Ym,List.find?_isSome]
theorem Ad (w:List (Nat×Nat)) (c m d:Nat):gW (pW w c m) d=if d=c then some m else gW w d:=by
 unfold pW
 split
 ·rename_i h
  induction w with
  | nil=>simp at h
  | cons p w ih =>
   rw [Zn]
   unfold gW
   rw [Z3,Z3]
   by_cases q:p.1=c
   ·rw [Zp (by simpa using q)]
    by_cases r:p.1=d
    ·have:(p.1 == d)=true:=by simpa using r
     simp only [this]
     rw [Zp (by rw [← r,q])]
     rfl
    ·have r':(p.1 == d)=false:=by simpa using r
     have:d ≠ c:=fun e=>r (by rw [e,q])
     simp only [r',Zo this]
     have key:∀ w:List (Nat×Nat),(w.map fun p=>if p.1 == c then (p.1,m) else p).find? (fun p=>p.1 == d)=w.find? fun p=>p.1 == d:=by
      intro w
      induction w with
      | nil=>rfl
      | cons x w ih =>
       rw [Zn,Z3,Z3,ih]
       by_cases y:x.1=c
       ·rw [Zp (by simpa using y)]
        have:(x.1 == d)=false:=by simpa using fun e=>this (by rw [← e,y])
        simp only [this]
       ·rw [Zo (by simpa using y)]
     rw [key w]
   ·rw [Zo (by simpa using q)]
    have h':(w.any fun p=>p.1 == c)=true:=by
     rw [Yg] at h
     simpa [q] using h
    have ih':=ih h'
    unfold gW at ih'
    by_cases r:p.1=d
    ·have r':(p.1 == d)=true:=by simpa using r
     simp only [r']
     rw [Zo (fun e=>q (by rw [r,e]))]
    ·have r':(p.1 == d)=false:=by simpa using r
     simp only [r']
     exact ih'
 ·rename_i h
  unfold gW
  rw [List.find?_append]
  by_cases q:d=c
  ·subst q
   have:w.find? (fun p=>p.1 == d)=none:=by
    rw [List.find?_eq_none]
    intro p hp e
    exact h (Ym.mpr ⟨p,hp,e⟩)
   rw [this,Zp rfl]
   simp
  ·rw [Zo q]
   have:((c == d)=false):=by simpa using fun e=>q e.symm
   simp [this]
theorem zr (w:List (Nat×Nat)) (c m:Nat) (nd:(w.map (·.1)).Nodup):((pW w c m).map (·.1)).Nodup:=by
 unfold pW
 split
 ·rw [Yy]
  have:((fun p:Nat×Nat=>p.1) ∘ fun p=>if (p.1 == c)=true then (p.1,m) else p)=fun p=>p.1:=by
   funext p
   simp only [Function.comp]
   split <;> rfl
  rw [this]
  exact nd
 ·rename_i h
  rw [ZA,ZU]
  refine ⟨nd,by simp,fun a ha b hb e=>?_⟩
  have hb':b=c:=by simpa using hb
  subst e hb'
  obtain ⟨p,hp,e⟩:=Yk.mp ha
  exact h (Ym.mpr ⟨p,hp,by simpa using e⟩)
theorem Cd {w:List (Nat×Nat)} {c m:Nat} {p:Nat×Nat} (h:p∈pW w c m):p.1=c\/p∈w:=by
 unfold pW at h
 split at h
 ·obtain ⟨q,hq,rfl⟩:=Yk.mp h
  by_cases r:(q.1 == c)=true
  ·rw [Zp r];exact .inl (by simpa using r)
  ·rw [Zo r];exact .inr hq
 ·rcases Zb.mp h with h | h
  ·exact .inr h
  ·rw [Za.mp h];exact .inl rfl
theorem gH {α:Type} (l:List α) (i j:Nat) (x d:α):(l.set i x).getD j d=if i=j/\i < l.length then x else l.getD j d:=by
 rw [Zs,Zs,XA]
 by_cases h:i=j
 ·subst h
  by_cases h2:i < l.length
  ·rw [Zp rfl,Zp h2,Zp ⟨rfl,h2⟩];rfl
  ·rw [Zp rfl,Zo h2,Zo (fun z=>h2 z.2),Z0 (ZL h2)]
 ·rw [Zo h,Zo (fun z=>h z.1)]
theorem bS {α:Type} (l:List α) (x d:α) (j:Nat):(l++[x]).getD j d=if j=l.length then x else l.getD j d:=by
 rw [Zs,Zs]
 by_cases h:j < l.length
 ·rw [ZF h,Zo (ZY h)]
 ·rw [Z7 (ZL h)]
  by_cases h2:j=l.length
  ·rw [Zp h2,h2,Nat.sub_self];rfl
  ·rw [Zo h2,Z0 (ZL h),Z0 (by simp;omega)]
theorem WF.way {S:St} (W:WF S) {n c v:Nat} (hv:v < S.lg.length) (hc:97<=c/\c<=122):WF ⟨S.lg,S.lk,S.wy.set n (pW (S.wy.getD n []) c v)⟩:=by
 refine ⟨W.lk,by rw [Z2];exact W.wy,W.pos,W.up,fun i d m h=>?_,fun w hw=>?_,fun w hw p hp=>?_⟩
 ·show m < S.lg.length
  have h':gW ((S.wy.set n (pW (S.wy.getD n []) c v)).getD i []) d=some m:=h
  rw [gH] at h'
  split at h'
  ·rw [Ad] at h'
   split at h'
   ·cases h';exact hv
   ·exact W.on n d m h'
  ·exact W.on i d m h'
 ·by_cases hn:n < S.wy.length
  ·rcases List.mem_or_eq_of_mem_set hw with h | h
   ·exact W.nd w h
   ·rw [h]
    refine zr _ c v (W.nd _ ?_)
    rw [Zs,Zr hn]
    exact Z6 hn
  ·rw [List.set_eq_of_length_le (ZL hn)] at hw
   exact W.nd w hw
 ·by_cases hn:n < S.wy.length
  ·rcases List.mem_or_eq_of_mem_set hw with h | h
   ·exact W.az w h p hp
   ·rw [h] at hp
    rcases Cd hp with e | e
    ·rw [e];exact hc
    ·refine W.az _ ?_ p e
     rw [Zs,Zr hn]
     exact Z6 hn
  ·rw [List.set_eq_of_length_le (ZL hn)] at hw
   exact W.az w hw p hp
theorem WF.link {S:St} (W:WF S) {n v:Nat} (hv:v < S.lg.length):WF ⟨S.lg,S.lk.set n (some v),S.wy⟩:=by
 refine ⟨by rw [Z2];exact W.lk,W.wy,W.pos,fun i m h=>?_,W.on,W.nd,W.az⟩
 have h':(S.lk.set n (some v)).getD i none=some m:=h
 rw [gH] at h'
 split at h'
 ·cases h';exact hv
 ·exact W.up i m h'
theorem WF.more {S:St} (W:WF S) {l:Nat} {o:Option Nat} {w:List (Nat×Nat)} (ho:∀ n,o=some n->n < S.lg.length) (hw:∀ c n,gW w c=some n->n < S.lg.length) (nd:(w.map (·.1)).Nodup) (az:∀ p∈w,97<=p.1/\p.1<=122):WF ⟨S.lg++[l],S.lk++[o],S.wy++[w]⟩:=by
 have hs:∀ {n},n < S.lg.length->n < (S.lg++[l]).length:=fun h=>by rw [Zv,ZW];omega
 refine ⟨by rw [Zv,Zv,W.lk];rfl,by rw [Zv,Zv,W.wy];rfl,by rw [Zv];exact ZQ W.pos (YU _ _),fun i n h=>?_,fun i c n h=>?_,fun x hx=>?_,fun x hx=>?_⟩
 ·have h':(S.lk++[o]).getD i none=some n:=h
  rw [bS] at h'
  split at h'
  ·exact hs (ho n h')
  ·exact hs (W.up i n h')
 ·have h':gW ((S.wy++[w]).getD i []) c=some n:=h
  rw [bS] at h'
  split at h'
  ·exact hs (hw c n h')
  ·exact hs (W.on i c n h')
 ·rcases Zb.mp hx with h | h
  ·exact W.nd x h
  ·rw [Za.mp h];exact nd
 ·rcases Zb.mp hx with h | h
  ·exact W.az x h
  ·rw [Za.mp h];exact az
noncomputable def up1 (c v:Nat):Nat->St->Option Nat->Option (St×Option Nat)
 | _,S,none=>some (S,none)
 | 0,_,some _=>none
 | k+1,S,some n=>if (gW (S.wy.getD n []) c).isSome then some (S,some n) else up1 c v k ⟨S.lg,S.lk,S.wy.set n (pW (S.wy.getD n []) c v)⟩ (S.lk.getD n none)
noncomputable def up2 (c old v:Nat):Nat->St->Option Nat->Option St
 | _,S,none=>some S
 | 0,_,some _=>none
 | k+1,S,some n=>if gW (S.wy.getD n []) c=some old then up2 c old v k ⟨S.lg,S.lk,S.wy.set n (pW (S.wy.getD n []) c v)⟩ (S.lk.getD n none) else some S
noncomputable def njb (S:St) (n c:Nat):Option (St×Nat):=(gW (S.wy.getD n []) c).bind fun old=>if S.lg.getD old 0=S.lg.getD n 0+1 then some (S,old) else
 (up2 c old S.lg.length 1000 ⟨S.lg++[S.lg.getD n 0+1],(S.lk++[S.lk.getD old none]).set old (some S.lg.length),S.wy++[S.wy.getD old []]⟩ (some n)).map fun S'=>(S',S.lg.length)
noncomputable def hb (S:St) (h c:Nat):Option (St×Nat):=if (gW (S.wy.getD h []) c).isSome then njb S h c else
 (up1 c S.lg.length 1000 ⟨S.lg++[S.lg.getD h 0+1],S.lk++[some 0],S.wy++[[]]⟩ (some h)).bind fun z=>match z.2 with
  | none=>some (z.1,S.lg.length)
  | some n=>(njb z.1 n c).map fun y=>(⟨y.1.lg,y.1.lk.set S.lg.length (some y.2),y.1.wy⟩,S.lg.length)
noncomputable def hg (S:St) (h:Nat):Ww->Option (St×Nat)
 | []=>some (S,h)
 | c :: r=>(hb S h c).bind fun z=>hg z.1 z.2 r
noncomputable def Sm (S:St):Prop:=S.lg.length<=100001
theorem WF.wnd {S:St} (W:WF S) (i:Nat):((S.wy.getD i []).map (·.1)).Nodup/\∀ p∈S.wy.getD i [],97<=p.1/\p.1<=122:=by
 by_cases h:i < S.wy.length
 ·have hm:S.wy.getD i []∈S.wy:=by
   rw [Zs,Zr h]
   exact Z6 h
  exact ⟨W.nd _ hm,W.az _ hm⟩
 ·rw [Zs,Z0 (ZL h)]
  exact ⟨Z5,fun p hp=>nomatch hp⟩
noncomputable def S0:St:=⟨[0],[none],[[]]⟩
theorem AF:WF S0:=by
 refine ⟨rfl,rfl,by decide,fun i n h=>?_,fun i c n h=>?_,fun w hw=>?_,fun w hw p hp=>?_⟩
 ·cases i with
  | zero=>cases h
  | succ i=>cases h
 ·cases i with
  | zero=>cases h
  | succ i=>cases h
 ·rw [Za.mp hw];exact Z5
 ·rw [Za.mp hw] at hp;cases hp
end AU
end
section
namespace VS
theorem e2v {f:Val->Val->Wr} {a b:Ex} {η:Env} {x y z:Val} (h1:a η=some x) (h2:b η=some y) (h3:f x y=some z):e2 f a b η=some z:=by
 show (a η).bind _=_
 rw [h1,Zx,h2]
 exact h3
theorem xv {a:Ex} {r:Exs} {η:Env} {x:Val} {xs:Ws} (h1:a η=some x) (h2:r η=some xs):ab a r η=some (x :: xs):=by
 show (a η).bind _=_
 rw [h1,Zx,h2]
 rfl
theorem lB {c:Ex} {a b:Sx} {η:Env} {m:Md} (h:c η=some (m,.bl true)):sIf c a b η=a η:=by
 show (c η).bind _=_
 rw [h]
 rfl
theorem g9 {c:Ex} {a b:Sx} {η:Env} {m:Md} (h:c η=some (m,.bl false)):sIf c a b η=b η:=by
 show (c η).bind _=_
 rw [h]
 rfl
theorem js {f:Ws->Wr} {as:Exs} {η:Env} {xs:Ws} {v:Val} (h:as η=some xs) (h2:f xs=some v):eN f as η=some v:=by
 show (as η).bind f=_
 rw [h,Zx,h2]
theorem fY {e:Ex} {η:Env} {t:T} (h:e η=some (.fr,t)):gB e η=some (.rt (.fr,t) η):=by
 show (e η).bind _=_
 rw [h]
 rfl
theorem kc {a b:Sx} {η η1:Env} {v:Val} (h:a η=some (.rt v η1)):aq a b η=some (.rt v η1):=by
 show (a η).bind _=_
 rw [h]
 rfl
theorem ag {a b:Sx} {η η1:Env} (h:a η=some (.nx η1)):aq a b η=b η1:=by
 show (a η).bind _=_
 rw [h]
 rfl
theorem fK {np nn:Nat} {b:Sx} {ts:Wq} {v:Val} {η:Env} (hl:ts.length=np) (h:b (ts.map (fun t=>some (.pu t))++List.replicate (nn - np) none)=some (.rt v η)):fn np nn b ts=some v:=by
 unfold fn
 rw [Zp hl,h]
 rfl
theorem C3 {np nn:Nat} {b:Sx} {ts:Wq} {η:Env} (hl:ts.length=np) (h:b (ts.map (fun t=>some (.pu t))++List.replicate (nn - np) none)=some (.nx η)):fn np nn b ts=some (.fr,.non):=by
 unfold fn
 rw [Zp hl,h]
 rfl
theorem rM {a b:Ex} {η:Env} {m:Md} {x:Bool} {v:Val} (h1:a η=some (m,.bl x)) (h2:x=true->b η=some v) (h3:x=false->v=(.fr,.bl false)):iN a b η=some v:=by
 show (a η).bind _=_
 rw [h1,Zx]
 cases x with
 | true=>exact h2 rfl
 | false=>exact congrArg some (h3 rfl).symm
theorem Ak {a b:Ex} {η:Env} {m:Md} {x:Bool} {v:Val} (h1:a η=some (m,.bl x)) (h2:x=false->b η=some v) (h3:x=true->v=(.fr,.bl true)):eOr a b η=some v:=by
 show (a η).bind _=_
 rw [h1,Zx]
 cases x with
 | false=>exact h2 rfl
 | true=>exact congrArg some (h3 rfl).symm
theorem D8 {a b:Ex} {η:Env} {m n:Md} {x y:Bool} (h1:a η=some (m,.bl x)) (h2:b η=some (.fr,.bl y)):iN a b η=some (.fr,.bl (x && y)):=rM h1 (fun e=>by rw [e];exact h2) (fun e=>by rw [e];rfl)
theorem or2 {a b:Ex} {η:Env} {m n:Md} {x y:Bool} (h1:a η=some (m,.bl x)) (h2:b η=some (.fr,.bl y)):eOr a b η=some (.fr,.bl (x || y)):=Ak h1 (fun e=>by rw [e];exact h2) (fun e=>by rw [e];rfl)
theorem rq {a:Ex} {η:Env} {m:Md} {b:Bool} (h:a η=some (m,.bl b)):j7 a η=some (.fr,.bl (!b)):=by
 show (a η).bind _=_
 rw [h]
 rfl
theorem pb {f g:Val->Val->Wr} {a b c:Ex} {η:Env} {x y z v:Val} (h1:a η=some x) (h2:b η=some y) (h3:f x y=some (.fr,.bl true)) (h4:c η=some z) (h5:g y z=some v):d9 f g a b c η=some v:=by
 show (a η).bind _=_
 rw [h1,Zx,h2,Zx,h3,Zx]
 show (c η).bind _=_
 rw [h4]
 exact h5
theorem zx {f g:Val->Val->Wr} {a b c:Ex} {η:Env} {x y:Val} (h1:a η=some x) (h2:b η=some y) (h3:f x y=some (.fr,.bl false)):d9 f g a b c η=some (.fr,.bl false):=by
 show (a η).bind _=_
 rw [h1,Zx,h2,Zx,h3]
 rfl
theorem sQ {n:Nat} {i:Int} (h0:0<=i) (h1:i < n):ixP n i=some i.toNat:=by rw [ixP,Zp h0,Zp h1]
theorem uY {n:Nat} {i:Nat} (h1:i < n):ixP n (i:Int)=some i:=by
 rw [ixP,Zp (Int.natCast_nonneg i),Zp (Int.ofNat_lt.mpr h1)]
 rfl
theorem yu {m n:Md} (l:Wv) (i:Int) (h0:0<=i) (h1:i < l.length):aB (m,.scr l) (n,.int i)=some (.fr,.int (l.getD i.toNat 0)):=by
 have b2:i.toNat < l.length:=by lia
 show (ixP l.length i).bind _=_
 rw [sQ h0 h1,Zx,Zs,Zr b2]
 rfl
theorem rO {m n:Md} (t:Tx) (i:Int) (h0:0<=i) (h1:i < t.length):aB (m,.str t) (n,.int i)=some (.fr,.str [t.getD i.toNat 0]):=by
 have b2:i.toNat < t.length:=by lia
 show (ixP t.length i).bind _=_
 rw [sQ h0 h1,Zx,Zs,Zr b2]
 rfl
theorem p8 {m n:Md} {a b:T} {r:Bool} (ha:eqD 60 a=true) (hb:eqD 60 b=true) (h:eqT a b=r):oEq (m,a) (n,b)=some (.fr,.bl r):=by
 show (if eqD 60 a/\eqD 60 b then some (Md.fr,T.bl (eqT a b)) else none)=_
 rw [Zp ⟨ha,hb⟩,h]
theorem wN {m n:Md} {a b:T} {r:Bool} (ha:eqD 60 a=true) (hb:eqD 60 b=true) (h:eqT a b=r):oNe (m,a) (n,b)=some (.fr,.bl (!r)):=by
 show (if eqD 60 a/\eqD 60 b then some (Md.fr,T.bl (!eqT a b)) else none)=_
 rw [Zp ⟨ha,hb⟩,h]
theorem kB {i:Nat} {e:Ex} {η:Env} {l:Wq} {v:T} (h0:η[i]?=some (some (.ow (.lst l)))) (h1:e η=some (.fr,v)) (h2:l.length < 16777216):sX (lD i [] aA (ab e aj)) η=some (.nx (η.set i (some (.ow (.lst (l++[v])))))):=by
 have h3:ab e aj η=some [(.fr,v)]:=xv h1 rfl
 unfold sX lD
 rw [h0]
 show ((some ([]:List Ky)).bind _ |>.map _)=_
 rw [Zx,h3,Zx]
 show ((aA (.lst l) [(.fr,v)]).map _ |>.map _)=_
 rw [eI h2]
 rfl
end VS
end
section
namespace T40
open VS AU
noncomputable abbrev pc (t:T):Wt:=some (.pu t)
abbrev Q0 (i:Int):Option Cell:=some (.pu (.int i))
abbrev Q1 (t:Tx):Option Cell:=some (.pu (.str t))
noncomputable abbrev oc (t:T):Wt:=some (.ow t)
noncomputable def wT' (w:List (Nat×Nat)):T:=.dct 0 (w.map fun p=>(T.str [p.1],T.int (p.2:Int)))
noncomputable def lkT:Option Nat->T
 | none=>.non
 | some n=>.int (n:Int)
noncomputable def fsT (S:St):qu:=[(1,.lst (S.lg.map fun (n:Nat)=>T.int (n:Int))),(2,.lst (S.lk.map lkT)),(3,.lst (S.wy.map wT'))]
noncomputable def obT (S:St) (b:Bool):T:=.obj 1 ((0,.bl b) :: fsT S)
theorem kT (o:Option Nat):imm (lkT o)=true:=by cases o <;> rfl
theorem dC {α:Type} (f:α->T) (h:∀ a,dG (f a)=true):∀ l:List α,aY (l.map f)=true
 | []=>rfl
 | a :: l=>by rw [Zn,aY,h a,dC f h l];rfl
theorem ya (w:List (Nat×Nat)):dG (wT' w)=true:=by
 show nM (w.map fun p=>(T.str [p.1],T.int (p.2:Int)))=true
 induction w with
 | nil=>rfl
 | cons p w ih=>rw [Zn,nM,ih];rfl
theorem km (S:St):dE (fsT S)=true:=by
 have h1:dG (.lst (S.lg.map fun (n:Nat)=>T.int (n:Int)))=true:=dC _ (fun _=>rfl) _
 have h2:dG (.lst (S.lk.map lkT))=true:=dC _ (fun o=>kH _ (kT o)) _
 have h3:dG (.lst (S.wy.map wT'))=true:=dC _ ya _
 show ((dG _ && !(1 == 0 && isT _)) && ((dG _ && !(2 == 0 && isT _)) && ((dG _ && !(3 == 0 && isT _)) && true)))=true
 rw [h1,h2,h3]
 rfl
theorem DH (S:St) (b:Bool):oP 1 (obT S b)=some (.lst (S.lg.map fun (n:Nat)=>T.int (n:Int))):=rfl
theorem Eo (S:St) (b:Bool):oP 2 (obT S b)=some (.lst (S.lk.map lkT)):=rfl
theorem Es (S:St) (b:Bool):oP 3 (obT S b)=some (.lst (S.wy.map wT')):=rfl
theorem gC {k:Nat} {a:Ex} {η:Env} {m:Md} {t u:T} (h:a η=some (m,t)) (h2:oP k t=some u):aU k a η=some (sub m u):=by
 unfold aU
 rw [h,Zx,h2]
 rfl
theorem lq {α:Type} {m n:Md} (f:α->T) (l:List α) (i:Nat) (d:α) (h:i < l.length):aB (m,.lst (l.map f)) (n,.int (i:Int))=some (sub m (f (l.getD i d))):=by
 show (ixP (l.map f).length (i:Int)).bind _=_
 rw [Zw,uY h,Zx,ZS,Zr h,Zs,Zr h]
 rfl
section
variable {η:Env} {m n:Md} {S:St} {b:Bool} {a e:Ex} {i:Nat}
theorem qm (h:a η=some (m,obT S b)) (he:e η=some (n,.int (i:Int))) (hi:i < S.lg.length):e2 aB (aU 1 a) e η=some (.fr,.int ((S.lg.getD i 0:Nat):Int)):=e2v (gC h (DH S b)) he (lq _ _ i 0 hi)
theorem tU (h:a η=some (m,obT S b)) (he:e η=some (n,.int (i:Int))) (hi:i < S.lk.length):e2 aB (aU 2 a) e η=some (.fr,lkT (S.lk.getD i none)):=(e2v (gC h (Eo S b)) he (lq _ _ i none hi)).trans (by
 show some (up _ _)=_
 unfold up
 rw [kT]
 rfl)
theorem ng (h:a η=some (m,obT S b)) (he:e η=some (n,.int (i:Int))) (hi:i < S.wy.length):e2 aB (aU 3 a) e η=some (m,wT' (S.wy.getD i [])):=e2v (gC h (Es S b)) he (lq _ _ i [] hi)
theorem Bt (h:a η=some (m,obT S b)):eN cA (ab (aU 1 a) aj) η=some (.fr,.int (S.lg.length:Nat)):=js (xv (gC h (DH S b)) rfl) (by
 show some (Md.fr,T.int (((S.lg.map fun (n:Nat)=>T.int (n:Int)).length:Nat):Int))=_
 rw [Zw])
end
theorem B9 (a c:Nat):eqT (.str [a]) (.str [c])=(a == c):=by
 simp only [eqT]
 by_cases h:a=c
 ·simp [h]
 ·simp [h]
theorem pD (w:List (Nat×Nat)) (c:Nat):eU (w.map fun p=>(T.str [p.1],T.int (p.2:Int))) (.str [c])=(gW w c).map fun (n:Nat)=>T.int (n:Int):=by
 unfold eU gW
 rw [List.find?_map]
 have:((fun p:T×T=>eqT p.1 (.str [c])) ∘ fun p:Nat×Nat=>(T.str [p.1],T.int (p.2:Int)))=fun p:Nat×Nat=>p.1 == c:=by
  funext p
  exact B9 p.1 c
 rw [this]
 cases w.find? fun p=>p.1 == c with
 | none=>rfl
 | some p=>rfl
theorem CA (w:List (Nat×Nat)) (c m:Nat):dput (w.map fun p=>(T.str [p.1],T.int (p.2:Int))) (.str [c]) (.int (m:Int))=(pW w c m).map fun p=>(T.str [p.1],T.int (p.2:Int)):=by
 have h1:(w.map fun p=>(T.str [p.1],T.int (p.2:Int))).any (fun p=>eqT p.1 (.str [c]))=w.any fun p=>p.1 == c:=by
  rw [List.any_map]
  congr 1
  funext p
  exact B9 p.1 c
 unfold dput pW
 rw [h1]
 split
 ·rw [Yy,Yy]
  apply XW
  intro p _
  simp only [Function.comp,B9]
  split <;> rfl
 ·rw [ZA]
  rfl
section
variable {η:Env} {m n k:Md} {S:St} {b:Bool} {a e ec ev:Ex} {i c v:Nat} {w:List (Nat×Nat)}
theorem CZ (h:a η=some (m,wT' w)) (he:e η=some (n,.str [c])):e2 kF e a η=some (.fr,.bl (gW w c).isSome):=e2v he h (by
 show (if true=true then some (Md.fr,T.bl (eU _ _).isSome) else none)=_
 rw [Zp rfl,pD,Yj])
theorem CV (h:a η=some (m,wT' w)) (he:e η=some (n,.str [c])):e2 du e a η=some (.fr,.bl (!(gW w c).isSome)):=e2v he h (by
 show (match (if true=true then some (Md.fr,T.bl (eU (w.map fun p=>(T.str [p.1],T.int (p.2:Int))) (.str [c])).isSome) else none) with | some (_,.bl b)=>some (Md.fr,T.bl (!b)) | _=>none)=_
 rw [Zp rfl,pD,Yj])
theorem uV (h:a η=some (m,wT' w)) (he:e η=some (n,.str [c])) (hv:gW w c=some v):e2 oIx a e η=some (.fr,.int (v:Int)):=e2v h he (by
 show (if true=true then (eU _ _).map (sub m) else none)=_
 rw [Zp rfl,pD,hv]
 rfl)
theorem DL (h:a η=some (m,wT' w)) (he:e η=some (n,.str [c])):e2 ue a e η=some (.fr,lkT (gW w c)):=e2v h he (by
 show (if true=true then some (match eU (w.map fun p=>(T.str [p.1],T.int (p.2:Int))) (.str [c]) with | some t=>sub m t | none=>(.fr,.non)) else none)=_
 rw [Zp rfl,pD]
 cases gW w c with
 | none=>rfl
 | some v=>rfl)
theorem xG {r:List (Wt)} (hi:i < S.wy.length) (he:e (oc (obT S b) :: r)=some (n,.int (i:Int))) (hc:ec (oc (obT S b) :: r)=some (m,.str [c])) (hv:ev (oc (obT S b) :: r)=some (k,.int (v:Int))) (hl:(S.wy.getD i []).length < 16777216) :
  dh 0 [.fld 3,.ix e] ec ev (oc (obT S b) :: r)=some (.nx (oc (obT ⟨S.lg,S.lk,S.wy.set i (pW (S.wy.getD i []) c v)⟩ b) :: r)):=by
 unfold dh
 rw [hv,Zx]
 show ((keys [.fld 3,.ix e] (oc (obT S b) :: r)).bind _)=_
 have hk:keys [.fld 3,.ix e] (oc (obT S b) :: r)=some [.fld 3,.at (.int (i:Int))]:=by
  show ((e _).bind _).map _=_
  rw [he]
  rfl
 rw [hk,Zx,hc,Zx]
 have hp:pm (jo (m,.str [c]) (k,.int (v:Int))) [.fld 3,.at (.int (i:Int))] (obT S b)=some (obT ⟨S.lg,S.lk,S.wy.set i (pW (S.wy.getD i []) c v)⟩ b,()):=by
  show ((pm (jo (m,.str [c]) (k,.int (v:Int))) [.at (.int (i:Int))] (.lst (S.wy.map wT'))).map _)=_
  have:pm (jo (m,.str [c]) (k,.int (v:Int))) [.at (.int (i:Int))] (.lst (S.wy.map wT'))=some (.lst ((S.wy.set i (pW (S.wy.getD i []) c v)).map wT'),()):=by
   show ((ixP (S.wy.map wT').length (i:Int)).bind _)=_
   rw [Zw,uY hi,Zx,ZS,Zr hi]
   show ((jo (m,.str [c]) (k,.int (v:Int)) (wT' S.wy[i])).map _)=_
   have e1:S.wy.getD i []=S.wy[i]:=by rw [Zs,Zr hi];rfl
   rw [e1] at hl ⊢
   show ((if true=true/\true=true/\(S.wy[i].map _).length < fg then some (T.dct 0 (dput _ _ _),()) else none).map _)=_
   rw [Zp ⟨rfl,rfl,by rw [Zw];exact hl⟩,CA,Xf]
   rfl
  rw [this]
  rfl
 rw [hp]
 rfl
theorem x9 {r:List (Wt)} (hi:i < S.lk.length) (he:e (oc (obT S b) :: r)=some (n,.int (i:Int))) (hv:ev (oc (obT S b) :: r)=some (.fr,.int (v:Int))) :
  dh 0 [.fld 2] e ev (oc (obT S b) :: r)=some (.nx (oc (obT ⟨S.lg,S.lk.set i (some v),S.wy⟩ b) :: r)):=by
 unfold dh
 rw [hv,Zx]
 show ((keys [.fld 2] (oc (obT S b) :: r)).bind _)=_
 have hk:keys [.fld 2] (oc (obT S b) :: r)=some [.fld 2]:=rfl
 rw [hk,Zx,he,Zx]
 have hp:pm (jo (n,.int (i:Int)) (.fr,.int (v:Int))) [.fld 2] (obT S b)=some (obT ⟨S.lg,S.lk.set i (some v),S.wy⟩ b,()):=by
  show ((jo (n,.int (i:Int)) (.fr,.int (v:Int)) (.lst (S.lk.map lkT))).map _)=_
  have:jo (n,.int (i:Int)) (.fr,.int (v:Int)) (.lst (S.lk.map lkT))=some (.lst ((S.lk.set i (some v)).map lkT),()):=by
   show ((ixP (S.lk.map lkT).length (i:Int)).map _)=_
   rw [Zw,uY hi,Xf]
   rfl
  rw [this]
  rfl
 rw [hp]
 rfl
end
end T40
end
section
namespace VS
noncomputable def wr (un:Bool) (k:Nat) (t:T):T:=if un then mkT k t else t
noncomputable def exA (l:Wq):List Ia:=l.map fun t=>Ia.ex (eC t)
theorem wA (η:Env):∀ l:Wq,iu η (exA l)=some l
 | []=>rfl
 | t :: l=>by
  show ((some (Md.fr,t):Wr).bind fun v=>(exV v).bind fun t=>(iu η (exA l)).map (t :: ·))=_
  rw [wA η l]
  rfl
theorem sP (η:Env):∀ l:Wq,ij (exA l) [] η=η
 | []=>rfl
 | t :: l=>sP η l
theorem Ar:∀ l:Wq,iaS (exA l)=[]
 | []=>rfl
 | t :: l=>Ar l
section
variable {i k j:Nat} {un:Bool} {r:List Ix} {l:Wq} {η η1 η2 η3:Env} {c0:Cell} {s t t0 t1 u y:T} {g:Wq->Option (Wq×T)} {x a b:Xx} {c:Ex} {m:Md} {f:Val->Val->Wr}
theorem ci {r:List Ia} (h1:η[i]?=some (some (.ow (wr un k t0)))) (hr:iu η r=some l) (hS:iaS r=[]) (hp:∀ η,ij r [] η=η) (hm:nV t0=true) (hn:dG t0=true) (hl:aY l=true) (hg:g (t0 :: l)=some ([t1],y)) :
  gx (.io i un :: r) g η=some ((.fr,y),η.set i (some (.ow (wr un k t1)))):=by
 have e2:iu η (.io i un :: r)=some (t0 :: l):=by
  show (ioV un η[i]?).bind _=_
  rw [h1]
  have:ioV un (some (some (.ow (wr un k t0))))=some t0:=by
   cases un
   ·show (if nV t0 then some t0 else none)=_
    rw [Zp hm]
   ·rfl
  rw [this]
  show (iu η r).map _=_
  rw [hr]
  rfl
 unfold gx
 rw [e2,Zx,Zp ⟨by rw [aY,hn,hl];rfl,by show (i :: iaS r).Nodup;rw [hS];exact Zd.mpr ⟨(fun h=>nomatch h),Z5⟩⟩,hg]
 show some ((Md.fr,y),ij r [] (η.set i (some (.ow (nN un η[i]? t1)))))=_
 rw [hp,h1]
 cases un <;> rfl
theorem cx (h0:η[i]?=some (some c0)) (hr:jb r η=some (exA l,η1)) (h1:η1[i]?=some (some (.ow (wr un k t0)))) (hm:nV t0=true) (hn:dG t0=true) (hl:aY l=true) (hg:g (t0 :: l)=some ([t1],y)) :
  aM (.io i un :: r) g η=some ((.fr,y),η1.set i (some (.ow (wr un k t1)))):=by
 have e1:jb (.io i un :: r) η=some (.io i un :: exA l,η1):=by
  unfold jb
  rw [h0]
  show (jb r η).map _=_
  rw [hr]
  rfl
 unfold aM
 rw [e1]
 exact ci h1 (wA η1 l) (Ar l) (fun η=>sP η l) hm hn hl hg
theorem n8 (hx:x η=some ((.fr,t),η1)) (hi:imm t=true) (hr:jb r η1=some (exA l,η2)):jb (.px x :: r) η=some (exA (t :: l),η2):=by
 unfold jb
 rw [hx,Zx,Zp hi,hr]
 rfl
theorem b9 (h:c η=some (m,t)) (hi:imm t=true):xI c η=some ((.fr,t),η):=by
 unfold xI
 rw [h,Zx,Zp hi]
theorem iB (h1:a η=some ((.fr,s),η1)) (h2:b η1=some ((.fr,t),η2)) (h3:f (.fr,s) (.fr,t)=some (m,u)) (hs:imm s=true) (ht:imm t=true) (hu:imm u=true):x2 f a b η=some ((.fr,u),η2):=by
 unfold x2
 rw [h1,Zx,h2,Zx,h3,Zx,Zp ⟨hs,ht,hu⟩]
theorem c6 (h:x η=some ((.fr,t),η1)) (hi:imm t=true) (hj:j < η1.length):bW j x η=some (.nx (η1.set j (some (.pu t)))):=by
 unfold bW
 rw [h,Zx,Zp ⟨hi,hj⟩]
theorem yG (h:x η=some ((.fr,t),η1)) (hi:imm t=true):jN x η=some (.rt (.fr,t) η1):=by
 unfold jN
 rw [h,Zx,Zp hi]
theorem uH (l:Wv):dW (l.map .int)=true:=by
 induction l with
 | nil=>rfl
 | cons a l ih=>exact ih
theorem lK {i:Int} (l:Wv) (h1:c η=some (.fr,.lst (l.map .int))) (h2:b η=some ((.fr,.int i),η1)) (h0:0<=i) (hi:i < l.length):lj c b η=some ((.fr,.int (l.getD i.toNat 0)),η1):=by
 unfold lj
 rw [h1,Zx]
 show (b η).bind _=_
 rw [h2,Zx]
 show (ixP (l.map T.int).length i).bind _=_
 rw [Zw,sQ h0 hi,Zx,ZS,Zr (by omega)]
 show (if dW (l.map .int)=true/\imm (T.int (l[i.toNat]'(by omega)))=true then some ((Md.fr,T.int (l[i.toNat]'(by omega))),η1) else none)=_
 rw [Zp ⟨uH l,rfl⟩,Zs,Zr (by omega)]
 rfl
theorem sI {n:Nat} {c c':Cell} {i:Int} (l:List Tx) (hc:η[n]?=some (some c)) (h2:b η=some ((.fr,.int i),η1)) (h3:η1[n]?=some (some c')) (h4:iE c'=.lst (l.map .str)) (h0:0<=i) (hi:i < l.length):nY n b η=some ((.fr,.str (l.getD i.toNat [])),η1):=by
 unfold nY
 rw [hc]
 show (b η).bind _=_
 rw [h2,Zx]
 dsimp only
 rw [h3]
 dsimp only
 rw [h4]
 show (ixP (l.map T.str).length i).bind _=_
 rw [Zw,sQ h0 hi,Zx,ZS,Zr (by omega)]
 show some ((Md.fr,T.str (l[i.toNat]'(by omega))),η1)=_
 rw [Zs,Zr (by omega)]
 rfl
theorem lM {i:Int} (h:x η=some ((.fr,.int i),η1)):k8 (some x) η=some (some i,η1):=by
 show (x η).bind _=_
 rw [h]
 rfl
theorem vK {lo hi:Option Xx} {w:Tx} {p q:Option Int} (h:a η=some ((.fr,.str w),η1)) (h1:k8 lo η1=some (p,η2)) (h2:k8 hi η2=some (q,η3)):xSl a lo hi η=some ((.fr,.str (cut w p q)),η3):=by
 unfold xSl
 rw [h,Zx]
 show (k8 lo η1).bind _=_
 rw [h1,Zx]
 show (k8 hi η2).map _=_
 rw [h2]
 rfl
theorem m8 {np nn:Nat} {mv:List Bool} {body:Sx} {ts os:Wq} {v:Val} (hl:ts.length+1=np/\mv.length=ts.length) (hb:body ((some (.ow (mkT 1 t0)) :: List.zipWith iz mv (markL 1 mv ts))++List.replicate (nn - np) none)=some (.rt v η)) (ho:kZ η 0 (true :: mv)=some os) (ha:uL os v=true) (hn:aY os=true):ifn np nn mv body (t0 :: ts)=some (os,v.2):=by
 dsimp only [ifn]
 rw [Zp hl,hb,Zx]
 dsimp only
 rw [ho,Zx,Zp ⟨ha,hn⟩]
theorem Ag {xt:Xt} {p q:Sx} (h:xt η=some (true,η1)):rB xt p q η=p η1:=by
 unfold rB
 rw [h]
 rfl
theorem sH {xt:Xt} {p q:Sx} (h:xt η=some (false,η1)):rB xt p q η=q η1:=by
 unfold rB
 rw [h]
 rfl
theorem xo {xt:Xt} (h:c η=some (m,.bl false)):iJ c xt η=some (false,η):=by
 unfold iJ
 rw [h]
 rfl
theorem wb {xt:Xt} (h:c η=some (m,.bl true)):iJ c xt η=xt η:=by
 unfold iJ
 rw [h]
 rfl
theorem DD {b:Bool} (h:x η=some ((.fr,.bl b),η1)):xtV x η=some (b,η1):=by
 unfold xtV
 rw [h]
 rfl
theorem sJ {i j:Int} (h1:a η=some ((.fr,.int i),η1)) (h2:b η1=some ((.fr,.int j),η2)):xtV (x2 oEq a b) η=some (i == j,η2):=DD (iB h1 h2 (p8 rfl rfl (by simp only [eqT])) rfl rfl rfl)
theorem BL {f:Val->Ws->Wr} {o:Ex} {as:Exs} {x v:Val} {xs:Ws} (h1:o η=some x) (h2:as η=some xs) (h3:f x xs=some v):eM f o as η=some v:=by
 unfold eM
 rw [h1,Zx,h2]
 exact h3
end
end VS
end
section
namespace T40
open VS
noncomputable abbrev sp (un:Bool) (n:Int):Wt:=oc (wr un 1 (.lst [.int n]))
theorem Ba (n m:Int) (h:0 < m/\m < 1073741824):au [.lst [.int n],.int m]=some ([.lst [.int (n / m)]],.int (n % m)):=by
 have s1:aL 2 (e2 oMod (e2 aB (eUn (aa 0)) (Q2 0)) (aa 1)) [sp true n,Q0 m,none]=some (.nx [sp true n,Q0 m,Q0 (n % m)]) :=
  aR (m:=.fr) (e2v (x:=(.fr,.int n)) (y:=(.fr,.int m)) rfl rfl (fG h.1)) (by decide) (by show 2 < 3;decide)
 have s2:dh 0 [.un] (Q2 0) (e2 jd (e2 aB (eUn (aa 0)) (Q2 0)) (aa 1)) [sp true n,Q0 m,Q0 (n % m)]=some (.nx [sp true (n / m),Q0 m,Q0 (n % m)]):=by
  unfold dh
  rw [e2v (f:=jd) (x:=(.fr,.int n)) (y:=(.fr,.int m)) (η:=[sp true n,Q0 m,Q0 (n % m)]) (a:=e2 aB (eUn (aa 0)) (Q2 0)) (b:=aa 1) rfl rfl (jJ h)]
  rfl
 exact m8 (v:=(.fr,.int (n % m))) ⟨rfl,rfl⟩ ((ag s1).trans ((ag s2).trans rfl)) rfl rfl rfl
section
variable {i:Nat} {un:Bool} {η η1:Env} {c0:Cell} {n m:Int} {x:Xx}
theorem nx (hm:0 < m/\m < 1073741824) (h0:η[i]?=some (some c0)) (hx:x η=some ((.fr,.int m),η1)) (h1:η1[i]?=some (sp un n)):∃ d n',0<=d/\d < m/\aM [.io i un,.px x] au η=some ((.fr,.int d),η1.set i (sp un n')) :=
 ⟨n % m,n / m,YO _ (by omega),Ye _ hm.1,cx h0 (n8 hx rfl rfl) h1 rfl rfl rfl (Ba n m hm)⟩
end
theorem rG {x:Xx} {i:Int} {r:Wv} {η η1 η2:Env} {c:Wt} {t:T} {ts:Wq} (h:x (Q0 i :: η)=some ((.fr,t),c :: η1)) (hi:imm t=true) (hr:gK x r η1=some (ts,η2)):gK x (i :: r) η=some (t :: ts,η2):=by
 unfold gK
 rw [h,Zx]
 show (if imm t=true then (gK x r η1).map _ else _)=_
 rw [Zp hi,hr]
 rfl
theorem zS {y:Env->Option (Wq×Env)} {η η2:Env} {s:Tx} (h:y η=some (s.map fun c=>T.str [c],η2)) (hl:s.length<=100000):t6 [] y η=some ((.fr,.str s),η2):=by
 unfold t6
 rw [h,Zx]
 have:=oh (m:=.fr) (n:=.fr) (strs_map (fun x=>[x]) s) (by rw [fE];omega)
 rw [fE] at this
 show (jk (.fr,.str []) [(.fr,.lst (s.map fun c=>T.str [c]))]).map _=_
 rw [this]
 rfl
theorem zK {xa x:Xx} {j:Int} {η η1 η2:Env} {ts:Wq} (ha:xa η=some ((.fr,.int j),η1)) (hj:0<=j/\j < 1000000) (h:gK x (iot 0 j.toNat) η1=some (ts,η2)):pP xa x η=some (ts,η2):=by
 unfold pP
 rw [ha,Zx]
 show (if 0<=j/\j < 1000000 then gK x (iot 0 j.toNat) η1 else none)=_
 rw [Zp hj]
 exact h
theorem zV (n:Nat):(iot 0 n).length=n:=by unfold iot;rw [Zw,Xr]
theorem vg (L:Tx) (most n:Int) (hl:0 < L.length) (hl2:L.length < 1000) (h0:0<=most) (h1:most < 1000):∃ (n':Int) (t:Tx),cT [.lst [.int n],.str L,.int most]=some ([.lst [.int n']],.str t)/\t.length<=most.toNat/\∀ c∈t,c∈L:=by
 have loop:∀ (r:Wv) (n:Int),∃ (n':Int) (s:Tx),gK (x2 aB (xI (aa 2)) (aM [(.io 1 true),(.px (xI (eN cA (ab (aa 2) aj))))] au)) r [sp true n,Q1 L,Q0 most]=some (s.map fun c=>T.str [c],[sp true n',Q1 L,Q0 most])/\s.length=r.length/\∀ c∈s,c∈L:=by
  intro r
  induction r with
  | nil=>intro n;exact ⟨n,[],rfl,rfl,fun _ h=>nomatch h⟩
  | cons i r ih =>
   intro n
   obtain ⟨d,n1,d0,d1,e⟩:=nx (i:=1) (un:=true) (m:=(L.length:Int)) (n:=n) (x:=xI (eN cA (ab (aa 2) aj))) (η:=[Q0 i,sp true n,Q1 L,Q0 most]) (η1:=[Q0 i,sp true n,Q1 L,Q0 most]) (by omega) rfl (b9 (m:=.fr) rfl rfl) rfl
   obtain ⟨n',s,e2',hs,hc⟩:=ih n1
   have hd:d.toNat < L.length:=by omega
   refine ⟨n',L.getD d.toNat 0 :: s,rG (iB (b9 (m:=.fr) rfl rfl) e (rO L d d0 d1) rfl rfl rfl) rfl e2',by rw [Zl,Zl,hs],fun c hc'=>?_⟩
   rcases Zj.mp hc' with rfl | h
   ·rw [Zs,Zr hd]
    exact Z6 hd
   ·exact hc c h
 obtain ⟨d,n1,d0,d1,e⟩:=nx (i:=0) (un:=true) (m:=most+1) (n:=n) (x:=xI (e2 aZ (aa 2) (Q2 1))) (η:=[sp true n,Q1 L,Q0 most]) (by omega) rfl (b9 (m:=.fr) rfl rfl) rfl
 obtain ⟨n',s,e2',hs,hc⟩:=loop (iot 0 d.toNat) n1
 have hsl:s.length=d.toNat:=by rw [hs,zV]
 exact ⟨n',s,m8 (v:=(.fr,.str s)) (η:=[sp true n',Q1 L,Q0 most]) ⟨rfl,rfl⟩ (yG (zS (zK e ⟨d0,by omega⟩ e2') (by omega)) rfl) rfl rfl rfl,by omega,hc⟩
noncomputable def az:Tx:=[97,98,99,100,101,102,103,104,105,106,107,108,109,110,111,112,113,114,115,116,117,118,119,120,121,122]
theorem xV:∀ c∈az,97<=c/\c<=122:=by decide
theorem getD_mem' {l:Tx} {i:Nat} (h:i < l.length):l.getD i 0∈l:=by
 rw [Zs,Zr h]
 exact Z6 h
theorem zz (n:Int):∃ (n':Int) (s:Tx),gr [.lst [.int n]]=some ([.lst [.int n']],.str s)/\0 < s.length/\s.length<=26/\∀ c∈s,97<=c/\c<=122:=by
 obtain ⟨d,n1,d0,d1,e⟩:=nx (i:=0) (un:=true) (m:=8) (n:=n) (x:=xI (Q2 8)) (η:=[sp true n,Q1 az,none,none,none]) (by decide) rfl (b9 (m:=.fr) rfl rfl) rfl
 have hf:∀ k,k < 8->1<=([2,1,3,2,4,2,3,26]:Wv).getD k 0/\([2,1,3,2,4,2,3,26]:Wv).getD k 0<=26:=by decide
 have f1:=hf d.toNat (by omega)
 have s2:=c6 (j:=2) (lK (c:=(dF (ab (Q2 2) (ab (Q2 1) (ab (Q2 3) (ab (Q2 2) (ab (Q2 4) (ab (Q2 2) (ab (Q2 3) (ab (Q2 26) aj)))))))))) ([2,1,3,2,4,2,3,26]:Wv) rfl e d0 d1) rfl (by show 2 < 5;decide)
 generalize ([2,1,3,2,4,2,3,26]:Wv).getD d.toNat 0=few at f1 s2
 obtain ⟨d',n2,a0,a1,e3⟩:=nx (i:=0) (un:=true) (m:=26) (n:=n1) (x:=xI (Q2 26)) (η:=[sp true n1,Q1 az,Q0 few,none,none]) (by decide) rfl (b9 (m:=.fr) rfl rfl) rfl
 obtain ⟨d2,n3,b0,b1,e4⟩:=nx (i:=0) (un:=true) (m:=4) (n:=n2) (x:=xI (Q2 4)) (η:=[sp true n2,Q1 az,Q0 few,Q0 d',none]) (by decide) rfl (b9 (m:=.fr) rfl rfl) rfl
 have s4:=c6 (j:=4) (lK (c:=(dF (ab (Q2 1) (ab (Q2 3) (ab (Q2 25) (ab (Q2 7) aj)))))) ([1,3,25,7]:Wv) rfl e4 b0 b1) rfl (by show 4 < 5;decide)
 have hs:∀ k,k < 4->0<=([1,3,25,7]:Wv).getD k 0/\([1,3,25,7]:Wv).getD k 0<=26:=by decide
 have g1:=hs d2.toNat (by omega)
 generalize ([1,3,25,7]:Wv).getD d2.toNat 0=st at g1 s4
 have c1:=i6 (k:=1) (tg:=bH 0) (it:=cq (aa 2)) (elt:=e2 aB (aa 2) (e2 oMod (e2 aZ (aa 4) (e2 gj (aa 5) (aa 0))) (Q2 26))) (m:=.fr) (η:=[sp true n3,Q1 az,Q0 few,Q0 d',Q0 st]) (fun (j:Nat)=>T.int (j:Int)) (fun j=>T.str [az.getD ((d'+st * (j:Int)) % 26).toNat 0]) (List.range few.toNat) (by
   rw [dy (m:=.fr) (j:=few) rfl (by omega),fM]) rfl (by rw [ZG];omega) fun j hj=>⟨_,rfl,by
   refine e2v (x:=(.fr,.str az)) rfl (e2v (x:=(.fr,.int (d'+st * (j:Int)))) (y:=(.fr,.int 26)) (e2v (x:=(.fr,.int d')) rfl (e2v (x:=(.fr,.int st)) (y:=(.fr,.int (j:Int))) rfl rfl (jq (by omega))) rfl) rfl (fG (by decide))) (rO az _ (YO _ (by decide)) (Ye _ (by decide)))⟩
 have j1:=oh (m:=.fr) (n:=.fr) (strs_map (fun (j:Nat)=>[az.getD ((d'+st * (j:Int)) % 26).toNat 0]) (List.range few.toNat)) (by rw [show (List.range few.toNat).map (fun (j:Nat)=>[az.getD ((d'+st * (j:Int)) % 26).toNat 0])=((List.range few.toNat).map fun (j:Nat)=>az.getD ((d'+st * (j:Int)) % 26).toNat 0).map (fun x=>[x]) from by rw [Yy];rfl,fE,Zw,ZG];omega)
 rw [show (List.range few.toNat).map (fun (j:Nat)=>[az.getD ((d'+st * (j:Int)) % 26).toNat 0])=((List.range few.toNat).map fun (j:Nat)=>az.getD ((d'+st * (j:Int)) % 26).toNat 0).map (fun x=>[x]) from by rw [Yy];rfl,fE] at j1
 refine ⟨n3,(List.range few.toNat).map fun (j:Nat)=>az.getD ((d'+st * (j:Int)) % 26).toNat 0,m8 (v:=(.fr,.str _)) ⟨rfl,rfl⟩ ((ag (η1:=[sp true n,Q1 az,none,none,none]) rfl).trans ((ag s2).trans ((ag (c6 e3 rfl (by show 3 < 5;decide))).trans ((ag s4).trans (fY ?_))))) rfl rfl rfl,by rw [Zw,ZG];omega,by rw [Zw,ZG];omega,fun c hc=>?_⟩
 ·exact BL rfl (xv c1 rfl) j1
 ·obtain ⟨j,_,rfl⟩:=Yk.mp hc
  have:=YO (d'+st * (j:Int)) (b:=26) (by decide)
  have:=Ye (d'+st * (j:Int)) (b:=26) (by decide)
  exact xV _ (getD_mem' (by show _ < 26;omega))
theorem fZ {β:Type} {tg:Tg} {body:Sx} (g:β->T) (Inv:List β->Env->Prop) (h:∀ t r η,Inv (t :: r) η->∃ η1 η2,tg (g t) η=some η1/\body η1=some (.nx η2)/\Inv r η2):∀ (l:List β) (η:Env),Inv l η->∃ η',forL tg body (l.map g) η=some (.nx η')/\Inv [] η'
 | [],η,hi=>⟨η,rfl,hi⟩
 | t :: l,η,hi=>by
  obtain ⟨η1,η2,e1,e2,hi2⟩:=h t l η hi
  obtain ⟨η',e3,hi3⟩:=fZ g Inv h l η2 hi2
  exact ⟨η',(gv e1 e2).trans e3,hi3⟩
noncomputable def Az (t:Tx):Prop:=∀ c∈t,97<=c/\c<=122
noncomputable abbrev EB (n:Int) (L:Tx) (many:Int) (bk:List Tx) (z4 z5 z6:Wt):Env:=[sp true n,Q1 L,Q0 many,oc (.lst (bk.map .str)),z4,z5,z6]
section
variable {L:Tx} {many:Int} {bk:List Tx} {z4 z5 z6:Wt}
theorem nxB (n m:Int) (hm:0 < m/\m < 1073741824) {c:Ex} (hc:c (EB n L many bk z4 z5 z6)=some (.fr,.int m)):∃ d n',0<=d/\d < m/\aM [.io 0 true,.px (xI c)] au (EB n L many bk z4 z5 z6)=some ((.fr,.int d),EB n' L many bk z4 z5 z6) :=
 nx (i:=0) (un:=true) (n:=n) hm rfl (b9 hc rfl) rfl
theorem txB (hL:0 < L.length/\L.length<=26/\Az L) (n n1 most:Int) (hm:0<=most/\most < 1000) {x:Xx} (hc:x (EB n L many bk z4 z5 z6)=some ((.fr,.int most),EB n1 L many bk z4 z5 z6)):∃ (n':Int) (t:Tx),t.length<=most.toNat/\Az t/\aM [.io 0 true,.px (xI (aa 1)),.px x] cT (EB n L many bk z4 z5 z6)=some ((.fr,.str t),EB n' L many bk z4 z5 z6):=by
 obtain ⟨n',t,e,h1,h2⟩:=vg L most n1 hL.1 (by omega) hm.1 hm.2
 exact ⟨n',t,h1,fun c h=>hL.2.2 c (h2 c h),cx (i:=0) (un:=true) (k:=1) (r:=[.px (xI (aa 1)),.px x]) (l:=[.str L,.int most]) (η1:=EB n1 L many bk z4 z5 z6) rfl (n8 (t:=.str L) (b9 (m:=.fr) rfl rfl) rfl (n8 hc rfl rfl)) rfl rfl rfl rfl e⟩
end
theorem se {t:Tx} {p q:Option Int} (h:Az t):Az (cut t p q):=fun c hc=>h c (yJ t p q hc)
theorem kA {s t:Tx} (h:Az s) (g:Az t):Az (s++t):=fun c hc=>(Zb.mp hc).elim (h c) (g c)
theorem vY (t:Tx) (k:Nat):(cut t none (some (k:Int))).length<=k:=by
 rw [BD]
 exact List.length_take_le _ _
theorem za:∀ k,k < 8->0<=([2,1,3,2,4,0,1,8]:Wv).getD k 0/\([2,1,3,2,4,0,1,8]:Wv).getD k 0<=8:=by decide
theorem yQ:∀ k,k < 4->0<=([6,3,10,8]:Wv).getD k 0/\([6,3,10,8]:Wv).getD k 0<=10:=by decide
theorem i5 {l:List Tx} {i:Nat} (h:i < l.length):l.getD i []∈l:=by
 rw [Zs,Zr h]
 exact Z6 h
theorem uz {L:Tx} (hL:0 < L.length/\L.length<=26/\Az L) {many:Int} {bk:List Tx} (hb:∀ t∈bk,t.length<=14/\Az t) (h8:bk.length < 8) (n:Int) (z5 z6:Wt) :
  ∃ (n':Int) (t:Tx) (z5' z6':Wt),dg (EB n L many bk (Q0 (bk.length:Int)) z5 z6)=some (.nx (EB n' L many (bk++[t]) (Q0 (bk.length:Int)) z5' z6'))/\t.length<=14/\Az t:=by
 obtain ⟨d,n1,d0,d1,e⟩:=nxB (L:=L) (many:=many) (bk:=bk) (z4:=Q0 (bk.length:Int)) (z5:=z5) (z6:=z6) n 4 (by decide) (c:=Q2 4) rfl
 have g:=yQ d.toNat (by omega)
 obtain ⟨n2,t,ht,hz,e2'⟩:=txB hL n n1 _ ⟨g.1,by omega⟩ (lK (c:=dF (ab (Q2 6) (ab (Q2 3) (ab (Q2 10) (ab (Q2 8) aj))))) ([6,3,10,8]:Wv) rfl e d0 d1)
 have ht':t.length<=14:=by omega
 have s1:=c6 (j:=5) e2' rfl (by show 5 < 7;decide)
 have fin:∀ (n':Int) (t:Tx) (z6':Wt),t.length<=14->Az t->∃ (n'':Int) (t':Tx) (z5' z6'':Wt),sX (lD 3 [] aA (ab (aa 5) aj)) (EB n' L many bk (Q0 (bk.length:Int)) (Q1 t) z6')=some (.nx (EB n'' L many (bk++[t']) (Q0 (bk.length:Int)) z5' z6''))/\t'.length<=14/\Az t':=fun n' t z6' h1 h2=>by
  refine ⟨n',t,Q1 t,z6',?_,h1,h2⟩
  rw [kB (i:=3) (l:=bk.map T.str) (v:=.str t) rfl rfl (by rw [Zw];omega)]
  show some (Out.nx [sp true n',Q1 L,Q0 many,oc (.lst (bk.map T.str++[.str t])),Q0 (bk.length:Int),Q1 t,z6'])=_
  rw [show bk.map T.str++[.str t]=(bk++[t]).map T.str from by rw [ZA];rfl]
 by_cases hk:bk.length=0
 ·obtain ⟨n3,t3,a,b,f1,f2⟩:=fin n2 t z6 ht' hz
  refine ⟨n3,t3,a,b,(ag s1).trans ((ag ((sH (xo (m:=.fr) ?_)).trans rfl)).trans f1),f2⟩
  refine e2v (x:=(.fr,.int (bk.length:Int))) (y:=(.fr,.int 0)) rfl rfl ?_
  show some (Md.fr,T.bl (decide ((0:Int) < (bk.length:Int))))=_
  rw [ZZ (by omega)]
 ·obtain ⟨d2,n3,a0,a1,e3⟩:=nxB (L:=L) (many:=many) (bk:=bk) (z4:=Q0 (bk.length:Int)) (z5:=Q1 t) (z6:=z6) n2 4 (by decide) (c:=Q2 4) rfl
  have tt:iJ (e2 oGt (aa 4) (Q2 0)) (xtV (x2 oEq (aM [(.io 0 true),(.px (xI (Q2 4)))] au) (xI (Q2 1)))) (EB n2 L many bk (Q0 (bk.length:Int)) (Q1 t) z6)=some (d2 == 1,EB n3 L many bk (Q0 (bk.length:Int)) (Q1 t) z6):=by
   refine (wb (m:=.fr) ?_).trans (sJ e3 (b9 (m:=.fr) rfl rfl))
   refine e2v (x:=(.fr,.int (bk.length:Int))) (y:=(.fr,.int 0)) rfl rfl ?_
   show some (Md.fr,T.bl (decide ((0:Int) < (bk.length:Int))))=_
   rw [decide_eq_true (by omega)]
  cases hd:(d2 == 1) with
  | false =>
   rw [hd] at tt
   obtain ⟨n4,t3,a,b,f1,f2⟩:=fin n3 t z6 ht' hz
   exact ⟨n4,t3,a,b,(ag s1).trans ((ag ((sH tt).trans rfl)).trans f1),f2⟩
  | true =>
   rw [hd] at tt
   obtain ⟨d3,n4,b0,b1,e4⟩:=nxB (L:=L) (many:=many) (bk:=bk) (z4:=Q0 (bk.length:Int)) (z5:=Q1 t) (z6:=z6) n3 (bk.length:Int) (by omega) (c:=aa 4) rfl
   have s5:=c6 (j:=6) (sI (n:=3) bk rfl e4 rfl rfl b0 b1) rfl (by show 6 < 7;decide)
   have ho:=hb _ (i5 (l:=bk) (i:=d3.toNat) (by omega))
   generalize bk.getD d3.toNat []=old at s5 ho
   obtain ⟨d4,n5,_,_,e5⟩:=nxB (L:=L) (many:=many) (bk:=bk) (z4:=Q0 (bk.length:Int)) (z5:=Q1 t) (z6:=Q1 old) n4 ((old.length:Int)+1) (by omega) (c:=e2 aZ (eN cA (ab (aa 6) aj)) (Q2 1)) rfl
   have hcl:(cut old (some d4) none).length<=old.length:=x4 old (some d4) none
   have y1:xI (aa 6) (EB n4 L many bk (Q0 (bk.length:Int)) (Q1 t) (Q1 old))=some ((.fr,.str old),_):=b9 (m:=.fr) rfl rfl
   have y2:xI (aa 5) (EB n5 L many bk (Q0 (bk.length:Int)) (Q1 t) (Q1 old))=some ((.fr,.str t),_):=b9 (m:=.fr) rfl rfl
   have y3:xI (Q2 14) (EB n5 L many bk (Q0 (bk.length:Int)) (Q1 t) (Q1 old))=some ((.fr,.int 14),_):=b9 (m:=.fr) rfl rfl
   have s6:=c6 (j:=5) (vK (iB (f:=aZ) (vK (hi:=none) y1 (lM e5) rfl) y2 (iI (by omega)) rfl rfl rfl) (lo:=none) rfl (lM y3)) rfl (by show 5 < 7;decide)
   obtain ⟨n6,t3,a,b,f1,f2⟩:=fin n5 (cut (cut old (some d4) none++t) none (some 14)) (Q1 old) (vY _ 14) (se (kA (se ho.2) hz))
   exact ⟨n6,t3,a,b,(ag s1).trans ((ag ((Ag tt).trans ((ag s5).trans s6))).trans f1),f2⟩
theorem B1 {bk:List Tx} (h:∀ t∈bk,t.length<=14):(bk.map List.length).sum<=14 * bk.length:=by
 induction bk with
 | nil=>exact Zi _
 | cons a l ih =>
  have:=ih fun t ht=>h t (Zu _ ht)
  have:=h a Zt
  rw [Zn,YD,Zl]
  omega
theorem v9 (n:Int) (bk:List Tx):uL [.lst [.int n]] (.fr,.lst (bk.map .str))=true:=by
 unfold uL
 rw [Bool.or_eq_true]
 refine .inr ?_
 show (bk.map T.str).all xw=true
 rw [Xe]
 exact Z8.mpr fun _ _=>rfl
theorem vF {α:Type} {m n:Md} (f:α->T) (l:List α) (d:α) (h:0 < l.length):aB (m,.lst (l.map f)) (n,.int (-1))=some (sub m (f (l.getD (l.length - 1) d))):=by
 show ((ixP (l.map f).length (-1)).bind _)=_
 have:ixP (l.map f).length (-1)=some (l.length - 1):=by
  unfold ixP
  rw [Zw,Zo (by decide),Zp (by omega)]
  congr 1
  omega
 rw [this,Zx,ZS,Zs,Zr (by omega)]
 rfl
theorem tQ (w:Tx):∀ k,(List.replicate k w).flatten.length=k * w.length
 | 0=>by rw [Nat.zero_mul];rfl
 | k+1=>by rw [YF,ZP,Zv,tQ w k,Nat.succ_mul,Nat.add_comm]
theorem BF {L:Tx} (hL:0 < L.length/\L.length<=26/\Az L) (n:Int):∃ (n':Int) (bk:List Tx),hV [.lst [.int n],.str L]=some ([.lst [.int n']],.lst (bk.map .str))/\bk.length<=8/\(bk.map List.length).sum<=120/\∀ t∈bk,Az t:=by
 obtain ⟨d,n1,d0,d1,e⟩:=nx (i:=0) (un:=true) (m:=8) (n:=n) (x:=xI (Q2 8)) (η:=[sp true n,Q1 L,none,none,none,none,none]) (by decide) rfl (b9 (m:=.fr) rfl rfl) rfl
 have hf:=za d.toNat (by omega)
 have s1:=c6 (j:=2) (lK (c:=(dF (ab (Q2 2) (ab (Q2 1) (ab (Q2 3) (ab (Q2 2) (ab (Q2 4) (ab (Q2 0) (ab (Q2 1) (ab (Q2 8) aj)))))))))) ([2,1,3,2,4,0,1,8]:Wv) rfl e d0 d1) rfl (by show 2 < 7;decide)
 generalize ([2,1,3,2,4,0,1,8]:Wv).getD d.toNat 0=many at hf s1
 obtain ⟨η',f1,n2,bk,z4,z5,z6,rfl,_,hb,hlen⟩:=fZ (tg:=bH 4) (body:=dg) (fun (k:Nat)=>T.int (k:Int)) (fun r η=>∃ (n:Int) (bk:List Tx) (z4 z5 z6:Wt),η=EB n L many bk z4 z5 z6/\r=List.range' bk.length r.length/\(∀ t∈bk,t.length<=14/\Az t)/\bk.length+r.length=many.toNat) (by
  rintro k r _ ⟨n,bk,z4,z5,z6,rfl,hr,hb,hl⟩
  rw [Zl] at hl
  rw [Zl,X4] at hr
  obtain ⟨rfl,hr2⟩:=XR hr
  obtain ⟨n',t,z5',z6',e,h1,h2⟩:=uz (many:=many) hL hb (by omega) n z5 z6
  refine ⟨EB n L many bk (Q0 (bk.length:Int)) z5 z6,_,rfl,e,n',bk++[t],_,z5',z6',rfl,by rw [Zv];exact hr2,fun u hu=>?_,by rw [Zv,ZW];omega⟩
  rcases Zb.mp hu with h | h
  ·exact hb u h
  ·rw [Za.mp h]
   exact ⟨h1,h2⟩) (List.range many.toNat) (EB n1 L many [] none none none) ⟨n1,[],none,none,none,rfl,by rw [ZG];exact List.range_eq_range',(fun _ h=>nomatch h),by rw [ZG];exact XG _⟩
 have hlen':bk.length=many.toNat:=hlen
 have s3:gz (bH 4) (cq (aa 2)) dg (EB n1 L many [] none none none)=some (.nx (EB n2 L many bk z4 z5 z6)):=by
  refine (dP (m:=.fr) ?_ rfl).trans f1
  rw [dy (m:=.fr) (j:=many) rfl (by omega),fM]
 have fin:∀ {n3:Int} {bk':List Tx} (b:Sx),b (EB n2 L many bk z4 z5 z6)=some (.nx (EB n3 L many bk' z4 z5 z6))->ifn 2 7 [false] (aq (bW 2 (lj (dF (ab (Q2 2) (ab (Q2 1) (ab (Q2 3) (ab (Q2 2) (ab (Q2 4) (ab (Q2 0) (ab (Q2 1) (ab (Q2 8) aj))))))))) (aM [(.io 0 true),(.px (xI (Q2 8)))] au))) (aq (ja 3 (dF aj)) (aq (gz (bH 4) (cq (aa 2)) dg) (aq b (eV 3))))) [.lst [.int n],.str L]=some ([.lst [.int n3]],.lst (bk'.map .str)):=fun b hb =>
  m8 (v:=(.fr,.lst (_:Wq))) ⟨rfl,rfl⟩ ((ag s1).trans ((ag (η1:=EB n1 L many [] none none none) rfl).trans ((ag s3).trans ((ag hb).trans rfl)))) rfl (v9 _ _) rfl
 have fin0:bk.length<=8/\(bk.map List.length).sum<=120/\∀ t∈bk,Az t:=⟨by omega,by have:=B1 fun t ht=>(hb t ht).1;omega,fun t ht=>(hb t ht).2⟩
 obtain ⟨d2,n3,a0,a1,e3⟩:=nxB (L:=L) (many:=many) (bk:=bk) (z4:=z4) (z5:=z5) (z6:=z6) n2 6 (by decide) (c:=Q2 6) rfl
 by_cases hm:0 < many/\many < 3
 ·have tt:iJ (d9 oLt oLt (Q2 0) (aa 2) (Q2 3)) (xtV (x2 oEq (aM [(.io 0 true),(.px (xI (Q2 6)))] au) (xI (Q2 1)))) (EB n2 L many bk z4 z5 z6)=some (d2 == 1,EB n3 L many bk z4 z5 z6):=by
   refine (wb (m:=.fr) (pb (x:=(.fr,.int 0)) (y:=(.fr,.int many)) (z:=(.fr,.int 3)) rfl rfl ?_ rfl ?_)).trans (sJ e3 (b9 (m:=.fr) rfl rfl))
   ·show some (Md.fr,T.bl (decide ((0:Int) < many)))=_
    rw [decide_eq_true hm.1]
   ·show some (Md.fr,T.bl (decide (many < 3)))=_
    rw [decide_eq_true hm.2]
  cases hd:(d2 == 1) with
  | false =>
   rw [hd] at tt
   exact ⟨n3,bk,fin _ ((sH tt).trans rfl),fin0⟩
  | true =>
   rw [hd] at tt
   have hpos:0 < bk.length:=by omega
   obtain ⟨n4,t,ht,hz,e4⟩:=txB (bk:=bk) (z4:=z4) (z5:=z5) (z6:=z6) (many:=many) hL n3 n3 24 (by decide) (x:=xI (Q2 24)) (b9 (m:=.fr) rfl rfl)
   obtain ⟨d3,n5,b0,b1,e5⟩:=nxB (L:=L) (many:=many) (bk:=bk) (z4:=z4) (z5:=z5) (z6:=z6) n4 2 (by decide) (c:=Q2 2) rfl
   have i0:e2 aB (aa 3) (Q2 0) (EB n3 L many bk z4 z5 z6)=some (.fr,.str (bk.getD 0 [])):=e2v (x:=(.bo,.lst (bk.map .str))) (y:=(.fr,.int ((0:Nat):Int))) rfl rfl (lq T.str bk 0 [] hpos)
   have i1:e2 aB (aa 3) (Q2 (-1)) (EB n4 L many bk z4 z5 z6)=some (.fr,.str (bk.getD (bk.length - 1) [])):=e2v (x:=(.bo,.lst (bk.map .str))) (y:=(.fr,.int (-1))) rfl rfl (vF T.str bk [] hpos)
   have q0:=hb _ (i5 (l:=bk) hpos)
   have q1:=hb _ (i5 (l:=bk) (i:=bk.length - 1) (by omega))
   generalize hA:bk.getD 0 []=A at i0 q0
   generalize bk.getD (bk.length - 1) []=B at i1 q1
   have xl:=iB (iB (b9 i0 rfl) e4 (iI (by omega)) rfl rfl rfl) (b9 i1 rfl) (iI (by rw [Zv];omega)) rfl rfl rfl
   have xr:=iB (f:=aZ) (b9 (c:=Q2 1) (m:=.fr) rfl rfl) e5 (u:=.int (1+d3)) rfl rfl rfl rfl
   have hlen2:(A++t++B).length<=52:=by rw [Zv,Zv];omega
   have hazz:Az (A++t++B):=kA (kA q0.2 hz) q1.2
   generalize A++t++B=w at xl hlen2 hazz
   have xx:=iB xl xr (f:=sN) (m:=.fr) (u:=.str (List.replicate (1+d3).toNat w).flatten) (by
    show (if w.length * (1+d3).toNat<=16777216/\-4611686018427387904<=1+d3/\1+d3 < 4611686018427387904 then _ else _)=_
    rw [Zp ⟨by
     have:w.length * (1+d3).toNat<=52 * 2:=Nat.mul_le_mul hlen2 (by omega)
     omega,by omega,by omega⟩]) rfl rfl rfl
   have hwl:(List.replicate (1+d3).toNat w).flatten.length<=104:=by
    rw [tQ]
    have:(1+d3).toNat * w.length<=2 * 52:=Nat.mul_le_mul (by omega) hlen2
    omega
   have hwz:Az (List.replicate (1+d3).toNat w).flatten:=fun c hc=>by
    obtain ⟨u,hu,hc'⟩:=X6.mp hc
    rw [(List.mem_replicate.mp hu).2] at hc'
    exact hazz c hc'
   generalize (List.replicate (1+d3).toNat w).flatten=W at xx hwl hwz
   refine ⟨n5,bk.set 0 W,fin _ ((Ag tt).trans ?_),?_⟩
   ·refine (congrArg (fun z=>Option.bind z _) xx).trans ?_
    show dh 3 [] (Q2 0) (fun _=>some (.fr,.str W)) (EB n5 L many bk z4 z5 z6)=_
    show ((((ixP (bk.map T.str).length 0).map fun j=>(T.lst ((bk.map T.str).set j (.str W)),())).map _):Option Out)=_
    rw [Zw,show ixP bk.length 0=some 0 from uY (i:=0) hpos]
    show some (Out.nx [sp true n5,Q1 L,Q0 many,oc (.lst ((bk.map T.str).set 0 (.str W))),z4,z5,z6])=_
    rw [show (bk.map T.str).set 0 (.str W)=(bk.set 0 W).map T.str from by rw [Xf]]
   ·have:bk.length=1\/bk.length=2:=by omega
    rcases this with h | h
    ·obtain ⟨a,rfl⟩:=List.length_eq_one_iff.mp h
     refine ⟨by show 1<=8;decide,by show W.length+0<=120;omega,fun t ht=>?_⟩
     rw [Za.mp (show t∈[W] from ht)]
     exact hwz
    ·match bk,h with
     | [a,b],_ =>
      have hbb:=hb b (by simp)
      refine ⟨by show 2<=8;decide,by show W.length+(b.length+0)<=120;omega,fun t ht=>?_⟩
      rcases Zj.mp (show t∈[W,b] from ht) with rfl | ht
      ·exact hwz
      ·rw [Za.mp ht]
       exact hbb.2
 ·have tt:iJ (d9 oLt oLt (Q2 0) (aa 2) (Q2 3)) (xtV (x2 oEq (aM [(.io 0 true),(.px (xI (Q2 6)))] au) (xI (Q2 1)))) (EB n2 L many bk z4 z5 z6)=some (false,EB n2 L many bk z4 z5 z6):=by
   refine xo (m:=.fr) ?_
   by_cases h0:0 < many
   ·refine pb (x:=(.fr,.int 0)) (y:=(.fr,.int many)) (z:=(.fr,.int 3)) rfl rfl ?_ rfl ?_
    ·show some (Md.fr,T.bl (decide ((0:Int) < many)))=_
     rw [decide_eq_true h0]
    ·show some (Md.fr,T.bl (decide (many < 3)))=_
     rw [ZZ (by omega)]
   ·refine zx (x:=(.fr,.int 0)) (y:=(.fr,.int many)) rfl rfl ?_
    show some (Md.fr,T.bl (decide ((0:Int) < many)))=_
    rw [ZZ h0]
  exact ⟨n2,bk,fin _ ((sH tt).trans rfl),fin0⟩
noncomputable abbrev s1 (c:Nat):T:=.str [c]
theorem eq_int {a:Ex} {η:Env} {m:Md} {i:Int} (k:Int) (h:a η=some (m,.int i)):e2 oEq a (Q2 k) η=some (.fr,.bl (i == k)):=e2v h rfl (p8 rfl rfl (by simp only [eqT]))
theorem mul_r {m n:Md} {i j:Int} (h:-18446744073709551616 < j/\j < 18446744073709551616):gj (m,.int i) (n,.int j)=some (.fr,.int (i * j)):=Zp (.inr h)
theorem qP (ns:Wv) (hns:ns.length<=63) (k:Nat) (hk:k < 1000):∃ n,b7 [.scr ns,.int k]=some (.fr,.lst [.int n]):=by
 have s1:aL 2 (e2 aZ (e2 gj (aa 1) (Q2 7919)) (Q2 104729)) [pc (.scr ns),Q0 k,none,none,none,none,none]=some (.nx [pc (.scr ns),Q0 k,Q0 ((k:Int) * 7919+104729),none,none,none,none]) :=
  aR (m:=.fr) (e2v (e2v (x:=(.fr,.int k)) (y:=(.fr,.int 7919)) rfl rfl (jq (by omega))) (y:=(.fr,.int 104729)) rfl rfl) (by decide) (by show 2 < 7;decide)
 have q2:∃ c,sIf (e2 oGt (eN cA (ab (aa 0) aj)) (Q2 0)) (aL 2 (e2 aZ (e2 aB (aa 0) (e2 oMod (aa 1) (eN cA (ab (aa 0) aj)))) (e2 gj (e2 jd (aa 1) (eN cA (ab (aa 0) aj))) (Q2 48271)))) eX [pc (.scr ns),Q0 k,Q0 ((k:Int) * 7919+104729),none,none,none,none]=some (.nx [pc (.scr ns),Q0 k,Q0 c,none,none,none,none]):=by
  have cg:e2 oGt (eN cA (ab (aa 0) aj)) (Q2 0) [pc (.scr ns),Q0 k,Q0 ((k:Int) * 7919+104729),none,none,none,none]=some (.fr,.bl (decide ((0:Int) < (ns.length:Int)))):=e2v (x:=(.fr,.int (ns.length:Int))) (y:=(.fr,.int 0)) rfl rfl rfl
  by_cases h:0 < ns.length
  ·have m0:=YO (k:Int) (b:=(ns.length:Int)) (by omega)
   have m1:=Ye (k:Int) (b:=(ns.length:Int)) (by omega)
   exact ⟨_,(lB (cg.trans (by rw [decide_eq_true (by omega)]))).trans (aR (m:=.fr) (e2v (e2v (x:=(.fr,.scr ns)) rfl (e2v (x:=(.fr,.int k)) (y:=(.fr,.int (ns.length:Int))) rfl rfl (fG (by omega))) (yu ns _ m0 m1)) (e2v (e2v (x:=(.fr,.int k)) (y:=(.fr,.int (ns.length:Int))) rfl rfl (jJ (by omega))) (y:=(.fr,.int 48271)) rfl (mul_r (by decide))) rfl) (by decide) (by show 2 < 7;decide))⟩
  ·exact ⟨_,(g9 (cg.trans (by rw [ZZ (by omega)]))).trans rfl⟩
 obtain ⟨c,q2⟩:=q2
 have c3:e2 oEq (e2 oMod (aa 2) (Q2 2)) (Q2 0) [pc (.scr ns),Q0 k,Q0 c,none,none,none,none]=some (.fr,.bl (c % 2 == 0)):=eq_int 0 (m:=.fr) (e2v (x:=(.fr,.int c)) (y:=(.fr,.int 2)) rfl rfl (fG (by decide)))
 cases hb:(c % 2 == 0) with
 | true =>
  rw [hb] at c3
  refine ⟨c / 2,fK rfl ((ag s1).trans ((ag q2).trans (kc ((lB c3).trans (fY ?_)))))⟩
  unfold dF
  rw [xv (r:=aj) (e2v (x:=(.fr,.int c)) (y:=(.fr,.int 2)) rfl rfl (jJ (by decide))) rfl]
  rfl
 | false =>
  rw [hb] at c3
  have q4:=aR (η:=[pc (.scr ns),Q0 k,Q0 c,none,none,none,none]) (i:=3) (m:=.fr) (e2v (e2v (f:=aZ) (z:=(.fr,.int (c / 2+40503 * (k:Int)))) (e2v (x:=(.fr,.int c)) (y:=(.fr,.int 2)) (a:=aa 2) (b:=Q2 2) rfl rfl (jJ (by decide))) (e2v (x:=(.fr,.int 40503)) (y:=(.fr,.int k)) (a:=Q2 40503) (b:=aa 1) rfl rfl (jq (by decide))) rfl) (y:=(.fr,.int 2147483629)) (b:=Q2 2147483629) rfl (fG (by decide))) (by decide) (by show 3 < 7;decide)
  have l0:=YO (c / 2+40503 * (k:Int)) (b:=2147483629) (by decide)
  have l1:=Ye (c / 2+40503 * (k:Int)) (b:=2147483629) (by decide)
  generalize (c / 2+40503 * (k:Int)) % 2147483629=left at q4 l0 l1
  obtain ⟨η',f1,l,n,z5,z6,rfl,_⟩:=fZ (tg:=bH 5) (body:=fh) (fun (j:Nat)=>T.int (j:Int)) (fun r η=>∃ (l n:Int) (z5 z6:Wt),η=[pc (.scr ns),Q0 k,Q0 c,Q0 l,Q0 n,z5,z6]/\0<=l/\l < 2147483647/\∀ j∈r,j < 24) (by
   rintro j r _ ⟨l,n,z5,z6,rfl,h0,h1,hj⟩
   have hj':=hj j Zt
   have a1:aL 3 (e2 oMod (e2 aZ (e2 aZ (e2 gj (aa 3) (Q2 69621)) (e2 gj (Q2 7) (aa 5))) (Q2 1)) (Q2 2147483647)) [pc (.scr ns),Q0 k,Q0 c,Q0 l,Q0 n,Q0 (j:Int),z6]=some (.nx [pc (.scr ns),Q0 k,Q0 c,Q0 ((l * 69621+7 * (j:Int)+1) % 2147483647),Q0 n,Q0 (j:Int),z6]) :=
    aR (m:=.fr) (e2v (e2v (e2v (e2v (x:=(.fr,.int l)) (y:=(.fr,.int 69621)) rfl rfl (jq (by omega))) (e2v (x:=(.fr,.int 7)) (y:=(.fr,.int (j:Int))) rfl rfl (jq (by decide))) rfl) (y:=(.fr,.int 1)) rfl rfl) (y:=(.fr,.int 2147483647)) rfl (fG (by decide))) (by decide) (by show 3 < 7;decide)
   have g0:=YO (l * 69621+7 * (j:Int)+1) (b:=2147483647) (by decide)
   have g1:=Ye (l * 69621+7 * (j:Int)+1) (b:=2147483647) (by decide)
   generalize (l * 69621+7 * (j:Int)+1) % 2147483647=l2 at a1 g0 g1
   have a2:aL 6 (e2 oMod (e2 gj (aa 3) (aa 3)) (Q2 2147483629)) [pc (.scr ns),Q0 k,Q0 c,Q0 l2,Q0 n,Q0 (j:Int),z6]=some (.nx [pc (.scr ns),Q0 k,Q0 c,Q0 l2,Q0 n,Q0 (j:Int),Q0 (l2 * l2 % 2147483629)]) :=
    aR (m:=.fr) (e2v (e2v (x:=(.fr,.int l2)) (y:=(.fr,.int l2)) rfl rfl (jq (by omega))) (y:=(.fr,.int 2147483629)) rfl (fG (by decide))) (by decide) (by show 6 < 7;decide)
   have k0:=YO (l2 * l2) (b:=2147483629) (by decide)
   have k1:=Ye (l2 * l2) (b:=2147483629) (by decide)
   generalize l2 * l2 % 2147483629=mo at a2 k0 k1
   have a3:aL 4 (e2 aZ (e2 gj (aa 4) (Q2 999983)) (e2 oMod (e2 gj (aa 6) (e2 aZ (e2 oMod (aa 6) (Q2 65521)) (Q2 3))) (Q2 999983))) [pc (.scr ns),Q0 k,Q0 c,Q0 l2,Q0 n,Q0 (j:Int),Q0 mo]=some (.nx [pc (.scr ns),Q0 k,Q0 c,Q0 l2,Q0 (n * 999983+mo * (mo % 65521+3) % 999983),Q0 (j:Int),Q0 mo]) :=
    aR (m:=.fr) (e2v (e2v (x:=(.fr,.int n)) (y:=(.fr,.int 999983)) rfl rfl (mul_r (by decide))) (e2v (e2v (x:=(.fr,.int mo)) rfl (e2v (e2v (x:=(.fr,.int mo)) (y:=(.fr,.int 65521)) rfl rfl (fG (by decide))) (y:=(.fr,.int 3)) rfl rfl) (jq (by omega))) (y:=(.fr,.int 999983)) rfl (fG (by decide))) rfl) (by decide) (by show 4 < 7;decide)
   exact ⟨_,_,rfl,(ag a1).trans ((ag a2).trans a3),l2,_,_,_,rfl,g0,g1,fun i hi=>hj i (Zu _ hi)⟩) (List.range 24) [pc (.scr ns),Q0 k,Q0 c,Q0 left,Q0 0,none,none] ⟨left,0,none,none,rfl,l0,by omega,fun j hj=>YK.mp hj⟩
  have q6:gz (bH 5) (cq (Q2 24)) fh [pc (.scr ns),Q0 k,Q0 c,Q0 left,Q0 0,none,none]=some (.nx [pc (.scr ns),Q0 k,Q0 c,Q0 l,Q0 n,z5,z6]):=by
   refine (dP (m:=.fr) ?_ rfl).trans f1
   rw [dy (m:=.fr) (j:=24) rfl (by decide),fM]
   rfl
  refine ⟨n,fK rfl ((ag s1).trans ((ag q2).trans ((ag ((g9 c3).trans rfl)).trans ((ag q4).trans ((ag (η1:=[pc (.scr ns),Q0 k,Q0 c,Q0 left,Q0 0,none,none]) rfl).trans ((ag q6).trans (fY ?_)))))))⟩
  rfl
theorem xH (l:List Tx):eqD 60 (.lst (l.map .str))=true:=by
 show ((l.map T.str).all (eqD 59))=true
 rw [Xe]
 exact Z8.mpr fun _ _=>rfl
theorem ne_nil {η:Env} {a b:Ex} {m n:Md} {l:List Tx} (h1:a η=some (m,.lst (l.map .str))) (h2:b η=some (n,.lst [])):e2 oNe a b η=some (.fr,.bl (!l.isEmpty)):=e2v h1 h2 (wN (xH l) rfl (by cases l <;> rfl))
noncomputable abbrev EV (n:Int) (bk:List Tx) (L w:Tx) (z4 z5 z6 z7:Wt):Env:=[sp true n,pc (.lst (bk.map .str)),Q1 L,Q1 w,z4,z5,z6,z7]
section
variable {L:Tx} {bk:List Tx} (hL:0 < L.length/\L.length<=26/\Az L) (hb:∀ t∈bk,t.length<=120/\Az t) (h8:bk.length<=8)
include hL hb h8
theorem uT {w:Tx} (hw:Az w) (hl:w.length<=10000) (n:Int) (z4 z5 z6 z7:Wt):∃ n' w' y5 y6 y7,eO (EV n bk L w z4 z5 z6 z7)=some (.nx (EV n' bk L w' z4 y5 y6 y7))/\Az w'/\w'.length<=w.length+120:=by
 have nv:∀ (n m:Int) (z5 z6 z7:Wt) (c:Ex),0 < m/\m < 1073741824->c (EV n bk L w z4 z5 z6 z7)=some (.fr,.int m)->∃ d n',0<=d/\d < m/\aM [.io 0 true,.px (xI c)] au (EV n bk L w z4 z5 z6 z7)=some ((.fr,.int d),EV n' bk L w z4 z5 z6 z7):=fun n m z5 z6 z7 c hm hc=>nx (i:=0) (un:=true) (n:=n) hm rfl (b9 hc rfl) rfl
 obtain ⟨d,n1,d0,d1,e⟩:=nv n 6 z5 z6 z7 (Q2 6) (by decide) rfl
 have q1:=c6 (j:=5) e rfl (by show 5 < 8;decide)
 have ad:∀ (n2 n3:Int) (z6 z7:Wt) (x:Xx) (t:Tx),x (EV n2 bk L w z4 (Q0 d) z6 z7)=some ((.fr,.str t),EV n3 bk L w z4 (Q0 d) z6 z7)->t.length<=120->bW 3 (x2 aZ (xI (aa 3)) x) (EV n2 bk L w z4 (Q0 d) z6 z7)=some (.nx (EV n3 bk L (w++t) z4 (Q0 d) z6 z7)):=fun n2 n3 z6 z7 x t h ht=>c6 (j:=3) (iB (b9 (m:=.fr) (t:=.str w) rfl rfl) h (iI (by omega)) rfl rfl rfl) rfl (by show 3 < 8;decide)
 have le:∀ t:Tx,t.length<=120->(w++t).length<=w.length+120:=fun t h=>by rw [Zv];omega
 have c2:e2 oLt (aa 5) (Q2 2) (EV n1 bk L w z4 (Q0 d) z6 z7)=some (.fr,.bl (decide (d < 2))):=e2v (x:=(.fr,.int d)) (y:=(.fr,.int 2)) rfl rfl rfl
 by_cases h2:d < 2
 ·obtain ⟨n2,t,e2',ht,hz⟩:=vg L 7 n1 hL.1 (by omega) (by decide) (by decide)
  have ht':t.length<=120:=ZI ht (by decide)
  exact ⟨n2,w++t,_,z6,z7,(ag q1).trans ((lB (c2.trans (by rw [decide_eq_true h2]))).trans (ad n1 n2 z6 z7 _ t (cx (i:=0) (un:=true) (k:=1) (r:=[.px (xI (aa 2)),.px (xI (Q2 7))]) (l:=[.str L,.int 7]) (η1:=EV n1 bk L w z4 (Q0 d) z6 z7) rfl (n8 (t:=.str L) (b9 (m:=.fr) rfl rfl) rfl (n8 (t:=.int 7) (b9 (m:=.fr) rfl rfl) rfl rfl)) rfl rfl rfl rfl e2') ht')),kA hw fun c h=>hL.2.2 c (hz c h),le t ht'⟩
 ·have c2:=c2.trans (by rw [ZZ h2])
  have c3:e2 oEq (aa 5) (Q2 2) (EV n1 bk L w z4 (Q0 d) z6 z7)=some (.fr,.bl (d == 2)):=eq_int 2 (m:=.fr) rfl
  by_cases h3:d=2
  ·obtain ⟨d',n2,a0,a1,e3⟩:=nv n1 26 (Q0 d) z6 z7 (Q2 26) (by decide) rfl
   have hm:=xV _ (getD_mem' (l:=az) (i:=d'.toNat) (by show _ < 26;omega))
   exact ⟨n2,w++[az.getD d'.toNat 0],_,z6,z7,(ag q1).trans ((g9 c2).trans ((lB (c3.trans (by rw [h3];rfl))).trans (ad n1 n2 z6 z7 _ _ (iB (b9 (m:=.fr) (t:=.str az) rfl rfl) e3 (rO az d' a0 a1) rfl rfl rfl) (by show 1<=120;decide)))),kA hw fun c h=>by rw [Za.mp h];exact hm,le _ (by show 1<=120;decide)⟩
  ·have c3:=c3.trans (by rw [ZM.mpr h3])
   have c4:e2 oNe (aa 1) (dF aj) (EV n1 bk L w z4 (Q0 d) z6 z7)=some (.fr,.bl (!bk.isEmpty)):=ne_nil (m:=.pu) (n:=.fr) rfl rfl
   cases hbk:bk.isEmpty with
   | true =>
    rw [hbk] at c4
    exact ⟨n1,w,_,z6,z7,(ag q1).trans ((g9 c2).trans ((g9 c3).trans ((g9 c4).trans rfl))),hw,YU _ _⟩
   | false =>
    rw [hbk] at c4
    have hp:0 < bk.length:=by cases bk with
     | nil=>cases hbk
     | cons=>exact Nat.succ_pos _
    obtain ⟨d2,n2,a0,a1,e3⟩:=nv n1 (bk.length:Int) (Q0 d) z6 z7 (eN cA (ab (aa 1) aj)) (by omega) (js (xv (r:=aj) (x:=(.pu,.lst (bk.map .str))) rfl rfl) (by show some (Md.fr,T.int (((bk.map T.str).length:Nat):Int))=_;rw [Zw]))
    have q5:=c6 (j:=6) (sI (n:=1) bk rfl e3 rfl rfl a0 a1) rfl (by show 6 < 8;decide)
    have ho:=hb _ (i5 (l:=bk) (i:=d2.toNat) (by omega))
    generalize bk.getD d2.toNat []=old at q5 ho
    obtain ⟨d3,n3,b0,b1,e4⟩:=nv n2 ((old.length:Int)+1) (Q0 d) (Q1 old) z7 (e2 aZ (eN cA (ab (aa 6) aj)) (Q2 1)) (by omega) rfl
    have q6:=c6 (j:=7) e4 rfl (by show 7 < 8;decide)
    obtain ⟨d4,n4,g0,g1,e5⟩:=nv n3 40 (Q0 d) (Q1 old) (Q0 d3) (Q2 40) (by decide) rfl
    have hcl:=x4 old (some d3) (some (d3+1+d4))
    exact ⟨n4,w++cut old (some d3) (some (d3+1+d4)),_,_,_,(ag q1).trans ((g9 c2).trans ((g9 c3).trans ((lB c4).trans ((ag q5).trans ((ag q6).trans (ad n3 n4 _ _ _ _ (vK (b9 (m:=.fr) (t:=.str old) rfl rfl) (lM (b9 (m:=.fr) (t:=.int d3) rfl rfl)) (lM (iB (f:=aZ) (b9 (m:=.fr) (t:=.int (d3+1)) rfl rfl) e5 (u:=.int (d3+1+d4)) rfl rfl rfl rfl))) (by omega))))))),kA hw (se ho.2),le _ (by omega)⟩
theorem AK (n:Int):∃ (n':Int) (w:Tx),h9 [.lst [.int n],.lst (bk.map .str),.str L]=some ([.lst [.int n']],.str w)/\Az w/\w.length<=1000:=by
 obtain ⟨d,n1,d0,d1,e⟩:=nx (i:=0) (un:=true) (m:=5) (n:=n) (x:=xI (Q2 5)) (η:=EV n bk L [] none none none none) (by decide) rfl (b9 (m:=.fr) rfl rfl) rfl
 obtain ⟨η',f1,n2,w,z4,z5,z6,z7,rfl,hw,hl⟩:=fZ (tg:=bH 4) (body:=eO) (fun (k:Nat)=>T.int (k:Int)) (fun r η=>∃ (n:Int) (w:Tx) (z4 z5 z6 z7:Wt),η=EV n bk L w z4 z5 z6 z7/\Az w/\w.length+120 * r.length<=1000) (by
  rintro k r _ ⟨n,w,z4,z5,z6,z7,rfl,hw,hl⟩
  rw [Zl] at hl
  obtain ⟨n',w',y5,y6,y7,e,h1,h2⟩:=uT hL hb h8 hw (by omega) n (Q0 (k:Int)) z5 z6 z7
  exact ⟨_,_,rfl,e,n',w',_,y5,y6,y7,rfl,h1,by omega⟩) (List.range (1+d).toNat) (EV n1 bk L [] none none none none) ⟨n1,[],none,none,none,none,rfl,(fun _ h=>nomatch h),by rw [ZG];show 0+_<=1000;omega⟩
 have q2:sW (bH 4) (x2 aZ (xI (Q2 1)) (aM [(.io 0 true),(.px (xI (Q2 5)))] au)) eO (EV n bk L [] none none none none)=some (.nx (EV n2 bk L w z4 z5 z6 z7)):=by
  unfold sW
  rw [iB (f:=aZ) (b9 (c:=Q2 1) (m:=.fr) rfl rfl) e (u:=.int (1+d)) rfl rfl rfl rfl]
  refine (dP (m:=.fr) ?_ rfl).trans f1
  rw [dy (m:=.fr) (j:=1+d) rfl (by omega),fM]
 exact ⟨n2,w,m8 (v:=(.fr,.str w)) ⟨rfl,rfl⟩ ((ag (η1:=EV n bk L [] none none none none) rfl).trans ((ag q2).trans rfl)) rfl rfl rfl,hw,by simpa using hl⟩
end
end T40
end
section
namespace T40
open VS AU
theorem j0 {c:Ex} {body:Sx} {n:Nat} {η η':Env} {m:Md} (h1:c η=some (m,.bl true)) (h2:body η=some (.nx η')):c9 c body (n+1) η=c9 c body n η':=by
 show (c η).bind _=_
 rw [h1]
 show (if true=true then (body η).bind _ else some (.nx η))=_
 rw [Zp rfl,h2]
 rfl
theorem dY {c:Ex} {body:Sx} {n:Nat} {η:Env} {m:Md} (h1:c η=some (m,.bl false)):c9 c body (n+1) η=some (.nx η):=by
 show (c η).bind _=_
 rw [h1]
 rfl
theorem iH {mv:List Bool} {g:Mt} {as:Exs} {xs:Ws} {S S':St} {v:T} {b:Bool} {r:List (Wt)} (ha:as (oc (obT S b) :: r)=some xs) (hao:argsOk mv xs=true) (hno:aY (trees xs)=true) (hg:g (fsT S) (trees xs)=some (fsT S',v)) (hv:imm v=true) :
  bq 0 [] 0 mv g as (oc (obT S b) :: r)=some ((.fr,v),oc (obT S' b) :: r):=by
 show ((some ([]:List Ky)).bind fun ks=>(as (oc (obT S b) :: r)).bind fun xs=>(pm (lh 0 mv g xs) ks (obT S b)).map fun z=>(z.2,(oc (obT S b) :: r).set 0 (oc z.1)))=_
 rw [Zx,ha,Zx]
 show ((if 1=0+1/\dE (fsT S)=true/\argsOk mv xs=true/\aY (trees xs)=true then (g (fsT S) (trees xs)).bind fun z=>if dE z.1=true/\imm z.2=true then some (T.obj 1 ((0,.bl b) :: z.1),(Md.fr,z.2)) else none else none).map _)=_
 rw [Zp ⟨rfl,km S,hao,hno⟩,hg,Zx,Zp ⟨km S',hv⟩]
 rfl
theorem Bq {e:Ex} {S:St} {b:Bool} {r:List (Wt)} {v:Nat} (h:e (oc (obT S b) :: r)=some (.fr,.int (v:Int))) (hl:S.lg.length < 16777216):sX (ig 0 [.fld 1] aA (ab e aj)) (oc (obT S b) :: r)=some (.nx (oc (obT ⟨S.lg++[v],S.lk,S.wy⟩ b) :: r)):=by
 show (((some [Ky.fld 1]).bind fun ks=>(ab e aj (oc (obT S b) :: r)).bind fun xs=>(pm (fun x=>aA x xs) ks (obT S b)).map _).map _)=_
 rw [Zx,xv (r:=aj) h rfl,Zx]
 show (((aA (.lst (S.lg.map fun (n:Nat)=>T.int (n:Int))) [(.fr,.int (v:Int))]).map _).map _ |>.map _)=_
 rw [eI (by rw [Zw];exact hl),show (S.lg.map fun (n:Nat)=>T.int (n:Int))++[.int (v:Int)]=(S.lg++[v]).map fun (n:Nat)=>T.int (n:Int) from by rw [ZA];rfl]
 rfl
theorem BP {e:Ex} {S:St} {b:Bool} {r:List (Wt)} {v:Option Nat} (h:e (oc (obT S b) :: r)=some (.fr,lkT v)) (hl:S.lk.length < 16777216):sX (ig 0 [.fld 2] aA (ab e aj)) (oc (obT S b) :: r)=some (.nx (oc (obT ⟨S.lg,S.lk++[v],S.wy⟩ b) :: r)):=by
 show (((some [Ky.fld 2]).bind fun ks=>(ab e aj (oc (obT S b) :: r)).bind fun xs=>(pm (fun x=>aA x xs) ks (obT S b)).map _).map _)=_
 rw [Zx,xv (r:=aj) h rfl,Zx]
 show (((aA (.lst (S.lk.map lkT)) [(.fr,lkT v)]).map _).map _ |>.map _)=_
 rw [eI (by rw [Zw];exact hl),show (S.lk.map lkT)++[lkT v]=(S.lk++[v]).map lkT from by rw [ZA];rfl]
 rfl
theorem Bn (o:Option Nat):up .pu (lkT o)=(.fr,lkT o):=by
 unfold up
 rw [kT]
 rfl
theorem xS (S:St) (l:Nat) (o:Option Nat) (w:List (Nat×Nat)) (h1:S.lg.length < 16777216) (h2:S.lk.length < 16777216) (h3:S.wy.length < 16777216):aF (fsT S) [.int (l:Int),lkT o,wT' w]=some (fsT ⟨S.lg++[l],S.lk++[o],S.wy++[w]⟩,.int (S.lg.length:Int)):=by
 have a1:=Bq (S:=S) (b:=true) (r:=[Q0 (l:Int),pc (lkT o),oc (wT' w)]) (e:=aa 1) (v:=l) rfl h1
 have a2:=BP (S:=⟨S.lg++[l],S.lk,S.wy⟩) (b:=true) (r:=[Q0 (l:Int),pc (lkT o),oc (wT' w)]) (e:=aa 2) (v:=o) (congrArg some (Bn o)) h2
 have a3:mO 0 [.fld 3] 3 [oc (obT ⟨S.lg++[l],S.lk++[o],S.wy⟩ true),Q0 (l:Int),pc (lkT o),oc (wT' w)]=some (.nx [oc (obT ⟨S.lg++[l],S.lk++[o],S.wy++[w]⟩ true),Q0 (l:Int),pc (lkT o),none]):=by
  show ((aA (.lst (S.wy.map wT')) [(.fr,wT' w)]).map _ |>.map _)=_
  rw [eI (by rw [Zw];exact h3),show (S.wy.map wT')++[wT' w]=(S.wy++[w]).map wT' from by rw [ZA];rfl]
  rfl
 have a4:=fY (e:=e2 nh (eN cA (ab (aU 1 (aa 0)) aj)) (Q2 1)) (η:=[oc (obT ⟨S.lg++[l],S.lk++[o],S.wy++[w]⟩ true),Q0 (l:Int),pc (lkT o),none]) (t:=.int (S.lg.length:Int)) (e2v (Bt (m:=.bo) rfl) rfl (by
  show some (Md.fr,T.int ((((S.lg++[l]).length:Nat):Int) - 1))=_
  rw [Zv,ZW,show (((S.lg.length+1:Nat)):Int) - 1=(S.lg.length:Int) by omega]))
 unfold aF mfn
 rw [Zp ⟨rfl,rfl⟩]
 have body:=(ag (b:=aq (sX (ig 0 [.fld 2] aA (ab (aa 2) aj))) (aq (mO 0 [.fld 3] 3) (gB (e2 nh (eN cA (ab (aU 1 (aa 0)) aj)) (Q2 1))))) a1).trans ((ag a2).trans ((ag a3).trans a4))
 exact congrArg (fun z:Option Out=>z.bind _) body
theorem A5 {c old v:Nat} (hc:97<=c/\c<=122):∀ (k:Nat) (S S':St) (o:Option Nat),WF S->v < S.lg.length->(∀ n,o=some n->n < S.lg.length)->up2 c old v k S o=some S'->WF S'/\S'.lg=S.lg/\∃ o',∀ N,k < N->∀ z:Wt,
  c9 (iN (dM (aa 1)) (e2 oEq (e2 ue (e2 aB (aU 3 (aa 0)) (aa 1)) (aa 2)) (aa 3))) bI N [oc (obT S true),pc (lkT o),Q1 ([c]),Q0 (old:Int),z,Q0 (v:Int)] =
   some (.nx [oc (obT S' true),pc (lkT o'),Q1 ([c]),Q0 (old:Int),z,Q0 (v:Int)]):=by
 intro k
 induction k with
 | zero =>
  intro S S' o W hv ho e
  cases o with
  | none =>
   cases (show some S=some S' from e)
   refine ⟨W,rfl,none,fun N hN z=>?_⟩
   obtain ⟨N,rfl⟩:∃ M,N=M+1:=⟨N - 1,by omega⟩
   exact dY (m:=.fr) rfl
  | some n=>cases e
 | succ k ih =>
  intro S S' o W hv ho e
  cases o with
  | none =>
   cases (show some S=some S' from e)
   refine ⟨W,rfl,none,fun N hN z=>?_⟩
   obtain ⟨N,rfl⟩:∃ M,N=M+1:=⟨N - 1,by omega⟩
   exact dY (m:=.fr) rfl
  | some n =>
   have hn:=ho n rfl
   have hnw:n < S.wy.length:=by rw [W.wy];exact hn
   have cond:∀ z:Wt,iN (dM (aa 1)) (e2 oEq (e2 ue (e2 aB (aU 3 (aa 0)) (aa 1)) (aa 2)) (aa 3)) [oc (obT S true),Q0 (n:Int),Q1 ([c]),Q0 (old:Int),z,Q0 (v:Int)]=some (.fr,.bl (decide (gW (S.wy.getD n []) c=some old))):=fun z=>by
    refine rM (m:=.fr) (x:=true) rfl (fun _=>?_) (fun h=>by cases h)
    refine e2v (DL (m:=.bo) (ng (m:=.bo) (n:=.fr) rfl rfl hnw) (n:=.fr) rfl) (y:=(.fr,.int (old:Int))) rfl ?_
    cases hg:gW (S.wy.getD n []) c with
    | none=>rw [ZZ (by simp)];exact p8 rfl rfl rfl
    | some q =>
     refine (p8 rfl rfl (show eqT (.int (q:Int)) (.int (old:Int))=decide (some q=some old) from ?_))
     simp only [eqT]
     by_cases h:q=old
     ·subst h;simp
     ·have h1:¬ (q:Int)=(old:Int):=by omega
      have h2:¬ some q=some old:=fun z=>h (Zm z)
      rw [ZZ h2]
      exact ZM.mpr h1
   unfold up2 at e
   split at e
   ·rename_i hq
    have W':=W.way (n:=n) (c:=c) (v:=v) hv hc
    obtain ⟨w1,w2,o',w3⟩:=ih _ S' (S.lk.getD n none) W' hv (fun m hm=>W.up n m hm) e
    refine ⟨w1,w2,o',fun N hN z=>?_⟩
    obtain ⟨N,rfl⟩:∃ M,N=M+1:=⟨N - 1,by omega⟩
    refine (j0 (m:=.fr) ((cond z).trans (by rw [decide_eq_true hq])) ?_).trans (w3 N (by omega) z)
    unfold bI
    refine (ag (xG (S:=S) (i:=n) (n:=.fr) (m:=.fr) (k:=.fr) (c:=c) (v:=v) hnw rfl rfl rfl (W.small n))).trans ?_
    have hlk:n < S.lk.length:=by rw [W.lk];exact hn
    exact aR (m:=.fr) (t:=lkT (S.lk.getD n none)) (tU (S:=⟨S.lg,S.lk,S.wy.set n (pW (S.wy.getD n []) c v)⟩) (m:=.bo) (n:=.fr) rfl rfl hlk) (by decide) (by decide:1 < 6)
   ·rename_i hq
    cases e
    refine ⟨W,rfl,some n,fun N hN z=>?_⟩
    obtain ⟨N,rfl⟩:∃ M,N=M+1:=⟨N - 1,by omega⟩
    exact dY (m:=.fr) ((cond z).trans (by rw [ZZ hq]))
theorem A1 {c v:Nat} (hc:97<=c/\c<=122):∀ (k:Nat) (S S':St) (o o':Option Nat),WF S->v < S.lg.length->(∀ n,o=some n->n < S.lg.length)->up1 c v k S o=some (S',o')->WF S'/\S'.lg=S.lg/\(∀ n,o'=some n->n < S.lg.length)/\∀ N,k < N->∀ z:Wt,
  c9 (iN (dM (aa 4)) (e2 du (aa 2) (e2 aB (aU 3 (aa 0)) (aa 4)))) bG N [oc (obT S true),z,Q1 ([c]),Q0 (v:Int),pc (lkT o)] =
   some (.nx [oc (obT S' true),z,Q1 ([c]),Q0 (v:Int),pc (lkT o')]):=by
 intro k
 induction k with
 | zero =>
  intro S S' o o' W hv ho e
  cases o with
  | none =>
   cases (show some (S,none)=some (S',o') from e)
   refine ⟨W,rfl,(fun n h=>nomatch h),fun N hN z=>?_⟩
   obtain ⟨N,rfl⟩:∃ M,N=M+1:=⟨N - 1,by omega⟩
   exact dY (m:=.fr) rfl
  | some n=>cases e
 | succ k ih =>
  intro S S' o o' W hv ho e
  cases o with
  | none =>
   cases (show some (S,none)=some (S',o') from e)
   refine ⟨W,rfl,(fun n h=>nomatch h),fun N hN z=>?_⟩
   obtain ⟨N,rfl⟩:∃ M,N=M+1:=⟨N - 1,by omega⟩
   exact dY (m:=.fr) rfl
  | some n =>
   have hn:=ho n rfl
   have hnw:n < S.wy.length:=by rw [W.wy];exact hn
   have cond:∀ z:Wt,iN (dM (aa 4)) (e2 du (aa 2) (e2 aB (aU 3 (aa 0)) (aa 4))) [oc (obT S true),z,Q1 ([c]),Q0 (v:Int),Q0 (n:Int)]=some (.fr,.bl (!(gW (S.wy.getD n []) c).isSome)):=fun z =>
    rM (m:=.fr) (x:=true) rfl (fun _=>CV (m:=.bo) (n:=.fr) (ng (m:=.bo) (n:=.fr) rfl rfl hnw) rfl) (fun h=>by cases h)
   unfold up1 at e
   split at e
   ·rename_i hq
    cases e
    refine ⟨W,rfl,ho,fun N hN z=>?_⟩
    obtain ⟨N,rfl⟩:∃ M,N=M+1:=⟨N - 1,by omega⟩
    exact dY (m:=.fr) ((cond z).trans (by rw [hq];rfl))
   ·rename_i hq
    have W':=W.way (n:=n) (c:=c) (v:=v) hv hc
    obtain ⟨w1,w2,w4,w3⟩:=ih _ S' (S.lk.getD n none) o' W' hv (fun m hm=>W.up n m hm) e
    refine ⟨w1,w2,w4,fun N hN z=>?_⟩
    obtain ⟨N,rfl⟩:∃ M,N=M+1:=⟨N - 1,by omega⟩
    have hq':(gW (S.wy.getD n []) c).isSome=false:=by simpa using hq
    refine (j0 (m:=.fr) ((cond z).trans (by rw [hq'];rfl)) ?_).trans (w3 N (by omega) z)
    unfold bG
    refine (ag (xG (S:=S) (i:=n) (n:=.fr) (m:=.fr) (k:=.fr) (c:=c) (v:=v) hnw rfl rfl rfl (W.small n))).trans ?_
    have hlk:n < S.lk.length:=by rw [W.lk];exact hn
    exact aR (m:=.fr) (t:=lkT (S.lk.getD n none)) (tU (S:=⟨S.lg,S.lk,S.wy.set n (pW (S.wy.getD n []) c v)⟩) (m:=.bo) (n:=.fr) rfl rfl hlk) (by decide) (by decide:4 < 5)
theorem AM (a b:Nat) {m n:Md}:oEq (m,.int (a:Int)) (n,.int (b:Int))=some (.fr,.bl (decide (a=b))):=p8 rfl rfl (by
 simp only [eqT]
 by_cases h:a=b
 ·subst h;simp
 ·rw [ZZ h]
  exact ZM.mpr (by omega))
theorem vf {S S':St} {n c r:Nat} (W:WF S) (hs:Sm S) (hn:n < S.lg.length) (hc:97<=c/\c<=122) (e:njb S n c=some (S',r)):WF S'/\r < S'.lg.length/\S.lg.length<=S'.lg.length/\S'.lg.length<=S.lg.length+1/\av (fsT S) [.int (n:Int),.str [c]]=some (fsT S',.int (r:Int)):=by
 unfold njb at e
 obtain ⟨old,ho,e⟩:=Zz.mp e
 have hold:=W.on n c old ho
 have hnw:n < S.wy.length:=by rw [W.wy];exact hn
 have how:old < S.wy.length:=by rw [W.wy];exact hold
 have hok:old < S.lk.length:=by rw [W.lk];exact hold
 have hs1:S.lg.length<=100001:=hs
 unfold av mfn
 rw [Zp ⟨rfl,rfl⟩]
 have s1:=aR (i:=3) (m:=.fr) (e:=e2 oIx (e2 aB (aU 3 (aa 0)) (aa 1)) (aa 2)) (η:=[oc (obT S true),Q0 (n:Int),Q1 ([c]),none,none,none]) (uV (m:=.bo) (n:=.fr) (ng (m:=.bo) (n:=.fr) rfl rfl hnw) rfl ho) (by decide) (by decide:3 < 6)
 have s2:=aR (i:=4) (m:=.fr) (e:=e2 aZ (e2 aB (aU 1 (aa 0)) (aa 1)) (Q2 1)) (η:=[oc (obT S true),Q0 (n:Int),Q1 ([c]),Q0 (old:Int),none,none]) (t:=.int ((S.lg.getD n 0+1:Nat):Int)) (e2v (qm (m:=.bo) (n:=.fr) rfl rfl hn) rfl rfl) (by decide) (by decide:4 < 6)
 have cd:e2 oEq (e2 aB (aU 1 (aa 0)) (aa 3)) (aa 4) [oc (obT S true),Q0 (n:Int),Q1 ([c]),Q0 (old:Int),Q0 ((S.lg.getD n 0+1:Nat):Int),none]=some (.fr,.bl (decide (S.lg.getD old 0=S.lg.getD n 0+1))):=e2v (qm (m:=.bo) (n:=.fr) rfl rfl hold) (y:=(.fr,.int ((S.lg.getD n 0+1:Nat):Int))) rfl (AM _ _)
 split at e
 ·rename_i hq
  obtain ⟨rfl,rfl⟩:=Xq (Zm e)
  rw [decide_eq_true hq] at cd
  refine ⟨W,hold,Zi _,Xp _,?_⟩
  have body:∀ b:Sx,aq (aL 3 (e2 oIx (e2 aB (aU 3 (aa 0)) (aa 1)) (aa 2))) (aq (aL 4 (e2 aZ (e2 aB (aU 1 (aa 0)) (aa 1)) (Q2 1))) (aq (sIf (e2 oEq (e2 aB (aU 1 (aa 0)) (aa 3)) (aa 4)) (eV 3) eX) b)) [oc (obT S true),Q0 (n:Int),Q1 ([c]),none,none,none]=some (.rt (.fr,.int (old:Int)) [oc (obT S true),Q0 (n:Int),Q1 ([c]),Q0 (old:Int),Q0 ((S.lg.getD n 0+1:Nat):Int),none]):=fun b =>
   (ag s1).trans ((ag s2).trans (kc ((lB cd).trans rfl)))
  exact congrArg (fun z:Option Out=>z.bind _) (body _)
 ·rename_i hq
  rw [ZZ hq] at cd
  obtain ⟨S2,e2',e3⟩:=Zy.mp e
  obtain ⟨rfl,rfl⟩:=Xq e3
  have wn:=W.wnd old
  have W1:=W.more (l:=S.lg.getD n 0+1) (o:=S.lk.getD old none) (w:=S.wy.getD old []) (fun m hm=>W.up old m hm) (fun d m hm=>W.on old d m hm) wn.1 wn.2
  have hlen:(S.lg++[S.lg.getD n 0+1]).length=S.lg.length+1:=by rw [Zv];rfl
  have W2:=W1.link (n:=old) (v:=S.lg.length) (by show S.lg.length < (S.lg++[S.lg.getD n 0+1]).length;omega)
  obtain ⟨w1,w2,o',w3⟩:=A5 hc 1000 _ S2 (some n) W2 (by show S.lg.length < (S.lg++[S.lg.getD n 0+1]).length;omega) (fun m hm=>by cases hm;show n < (S.lg++[S.lg.getD n 0+1]).length;omega) e2'
  have w2':S2.lg.length=S.lg.length+1:=by rw [w2];exact hlen
  refine ⟨w1,by omega,by omega,by omega,?_⟩
  have nw:=xS S (S.lg.getD n 0+1) (S.lk.getD old none) (S.wy.getD old []) (by omega) (by rw [W.lk];omega) (by rw [W.wy];omega)
  have args:ab (aa 4) (ab (e2 aB (aU 2 (aa 0)) (aa 3)) (ab (eN kP (ab (e2 aB (aU 3 (aa 0)) (aa 3)) aj)) aj)) [oc (obT S true),Q0 (n:Int),Q1 ([c]),Q0 (old:Int),Q0 ((S.lg.getD n 0+1:Nat):Int),none]=some [(.fr,.int ((S.lg.getD n 0+1:Nat):Int)),(.fr,lkT (S.lk.getD old none)),(.fr,wT' (S.wy.getD old []))] :=
   xv rfl (xv (tU (m:=.bo) (n:=.fr) rfl rfl hok) (xv (js (xv (ng (m:=.bo) (n:=.fr) rfl rfl how) rfl) (by
    show (if dW (((S.wy.getD old []).map fun p=>(T.str [p.1],T.int (p.2:Int))).map (·.2))=true then some (Md.fr,wT' (S.wy.getD old [])) else none)=_
    rw [Zp (by rw [Yy];exact lX _ (fun _=>rfl) _)])) rfl))
  have ao:argsOk [false,false,true] [(.fr,.int ((S.lg.getD n 0+1:Nat):Int)),(.fr,lkT (S.lk.getD old none)),(.fr,wT' (S.wy.getD old []))]=true:=by
   show (true && (imm (lkT (S.lk.getD old none)) && true))=true
   rw [kT]
   rfl
  have an:aY (trees [(Md.fr,T.int ((S.lg.getD n 0+1:Nat):Int)),(.fr,lkT (S.lk.getD old none)),(.fr,wT' (S.wy.getD old []))])=true:=by
   show (true && (dG (lkT (S.lk.getD old none)) && (dG (wT' (S.wy.getD old [])) && true)))=true
   rw [kH _ (kT _),ya]
   rfl
  have cm:=iH (b:=true) args ao an nw rfl
  have s3:bW 5 (bq 0 [] 0 [false,false,true] aF (ab (aa 4) (ab (e2 aB (aU 2 (aa 0)) (aa 3)) (ab (eN kP (ab (e2 aB (aU 3 (aa 0)) (aa 3)) aj)) aj)))) [oc (obT S true),Q0 (n:Int),Q1 ([c]),Q0 (old:Int),Q0 ((S.lg.getD n 0+1:Nat):Int),none]=some (.nx [oc (obT ⟨S.lg++[S.lg.getD n 0+1],S.lk++[S.lk.getD old none],S.wy++[S.wy.getD old []]⟩ true),Q0 (n:Int),Q1 ([c]),Q0 (old:Int),Q0 ((S.lg.getD n 0+1:Nat):Int),Q0 (S.lg.length:Int)]):=by
   unfold bW
   rw [cm]
   rfl
  have s4:=x9 (S:=⟨S.lg++[S.lg.getD n 0+1],S.lk++[S.lk.getD old none],S.wy++[S.wy.getD old []]⟩) (b:=true) (r:=[Q0 (n:Int),Q1 ([c]),Q0 (old:Int),Q0 ((S.lg.getD n 0+1:Nat):Int),Q0 (S.lg.length:Int)]) (i:=old) (v:=S.lg.length) (n:=.fr) (e:=aa 3) (ev:=aa 5) (by show old < (S.lk++[S.lk.getD old none]).length;rw [Zv];omega) rfl rfl
  have s5:=w3 rQ (by decide) (Q0 ((S.lg.getD n 0+1:Nat):Int))
  exact congrArg (fun z:Option Out=>z.bind _) ((ag s1).trans ((ag s2).trans ((ag ((g9 cd).trans rfl)).trans ((ag s3).trans ((ag s4).trans ((ag s5).trans rfl))))))
theorem DK {S S':St} {h c r:Nat} (W:WF S) (hs1:S.lg.length<=100000) (hh:h < S.lg.length) (hc:97<=c/\c<=122) (e:hb S h c=some (S',r)):WF S'/\r < S'.lg.length/\S.lg.length<=S'.lg.length/\S'.lg.length<=S.lg.length+2/\bE (fsT S) [.int (h:Int),.str [c]]=some (fsT S',.int (r:Int)):=by
 have hw:h < S.wy.length:=by rw [W.wy];exact hh
 unfold hb at e
 unfold bE mfn
 rw [Zp ⟨rfl,rfl⟩]
 have cd:e2 kF (aa 2) (e2 aB (aU 3 (aa 0)) (aa 1)) [oc (obT S true),Q0 (h:Int),Q1 ([c]),none,none]=some (.fr,.bl (gW (S.wy.getD h []) c).isSome):=CZ (m:=.bo) (n:=.fr) (ng (m:=.bo) (n:=.fr) rfl rfl hw) rfl
 split at e
 ·rename_i hq
  rw [hq] at cd
  obtain ⟨w1,w2,w3,w4,w5⟩:=vf W (Nat.le_succ_of_le hs1) hh hc e
  refine ⟨w1,w2,w3,by omega,?_⟩
  have cm:=iH (mv:=[false,false]) (as:=ab (aa 1) (ab (aa 2) aj)) (xs:=[(.fr,.int (h:Int)),(.fr,.str [c])]) (b:=true) (r:=[Q0 (h:Int),Q1 ([c]),none,none]) rfl rfl rfl w5 rfl
  have s1:jN (bq 0 [] 0 [false,false] av (ab (aa 1) (ab (aa 2) aj))) [oc (obT S true),Q0 (h:Int),Q1 ([c]),none,none]=some (.rt (.fr,.int (r:Int)) [oc (obT S' true),Q0 (h:Int),Q1 ([c]),none,none]):=by
   unfold jN
   rw [cm]
   rfl
  exact congrArg (fun z:Option Out=>z.bind _) (kc ((lB cd).trans s1))
 ·rename_i hq
  have hq':(gW (S.wy.getD h []) c).isSome=false:=by simpa using hq
  rw [hq'] at cd
  obtain ⟨⟨S2,o⟩,e1,e2'⟩:=Zz.mp e
  have W1:=W.more (l:=S.lg.getD h 0+1) (o:=some 0) (w:=[]) (fun m hm=>by cases hm;exact W.pos) (fun d m hm=>by cases hm) Z5 (fun p hp=>nomatch hp)
  have hlen:(S.lg++[S.lg.getD h 0+1]).length=S.lg.length+1:=by rw [Zv];rfl
  obtain ⟨w1,w2,w3,w4⟩:=A1 hc 1000 _ S2 (some h) o W1 (by show S.lg.length < (S.lg++[S.lg.getD h 0+1]).length;omega) (fun m hm=>by cases hm;show h < (S.lg++[S.lg.getD h 0+1]).length;omega) e1
  have w2':S2.lg.length=S.lg.length+1:=by rw [w2];exact hlen
  have nw:=xS S (S.lg.getD h 0+1) (some 0) [] (by omega) (by rw [W.lk];omega) (by rw [W.wy];omega)
  have args:ab (e2 aZ (e2 aB (aU 1 (aa 0)) (aa 1)) (Q2 1)) (ab (Q2 0) (ab (qD 0 []) aj)) [oc (obT S true),Q0 (h:Int),Q1 ([c]),none,none]=some [(.fr,.int ((S.lg.getD h 0+1:Nat):Int)),(.fr,.int 0),(.fr,.dct 0 [])] :=
   xv (e2v (qm (m:=.bo) (n:=.fr) rfl rfl hh) rfl rfl) (xv rfl (xv rfl rfl))
  have cm:=iH (mv:=[false,false,true]) (b:=true) args rfl rfl nw rfl
  have s1:bW 3 (bq 0 [] 0 [false,false,true] aF (ab (e2 aZ (e2 aB (aU 1 (aa 0)) (aa 1)) (Q2 1)) (ab (Q2 0) (ab (qD 0 []) aj)))) [oc (obT S true),Q0 (h:Int),Q1 ([c]),none,none]=some (.nx [oc (obT ⟨S.lg++[S.lg.getD h 0+1],S.lk++[some 0],S.wy++[[]]⟩ true),Q0 (h:Int),Q1 ([c]),Q0 (S.lg.length:Int),none]):=by
   unfold bW
   rw [cm]
   rfl
  have s2:=w4 rQ (by decide) (Q0 (h:Int))
  have hd:∀ b:Sx,aq (sIf (e2 kF (aa 2) (e2 aB (aU 3 (aa 0)) (aa 1))) (jN (bq 0 [] 0 [false,false] av (ab (aa 1) (ab (aa 2) aj)))) eX)
    (aq (bW 3 (bq 0 [] 0 [false,false,true] aF (ab (e2 aZ (e2 aB (aU 1 (aa 0)) (aa 1)) (Q2 1)) (ab (Q2 0) (ab (qD 0 []) aj)))))
    (aq (aL 4 (aa 1)) (aq (jI (iN (dM (aa 4)) (e2 du (aa 2) (e2 aB (aU 3 (aa 0)) (aa 4)))) bG) b))) [oc (obT S true),Q0 (h:Int),Q1 ([c]),none,none] =
    b [oc (obT S2 true),Q0 (h:Int),Q1 ([c]),Q0 (S.lg.length:Int),pc (lkT o)]:=fun b =>
   (ag ((g9 cd).trans rfl)).trans ((ag s1).trans ((ag rfl).trans (ag s2)))
  cases o with
  | none =>
   obtain ⟨rfl,rfl⟩:=Xq (Zm e2')
   have fin:aq (sIf (dM (aa 4)) (iF 0 [.fld 2] (aa 3) (bq 0 [] 0 [false,false] av (ab (aa 4) (ab (aa 2) aj)))) eX) (eV 3) [oc (obT S2 true),Q0 (h:Int),Q1 ([c]),Q0 (S.lg.length:Int),pc (lkT none)] =
     some (.rt (.fr,.int (S.lg.length:Int)) [oc (obT S2 true),Q0 (h:Int),Q1 ([c]),Q0 (S.lg.length:Int),pc (lkT none)]):=(ag ((g9 (m:=.fr) rfl).trans rfl)).trans rfl
   refine ⟨w1,by show S.lg.length < S2.lg.length;omega,by show S.lg.length<=S2.lg.length;omega,by show S2.lg.length<=_;omega,?_⟩
   exact congrArg (fun z:Option Out=>z.bind _) ((hd _).trans fin)
  | some n =>
   obtain ⟨⟨S3,m⟩,e3,e4⟩:=Zy.mp e2'
   obtain ⟨rfl,rfl⟩:=Xq e4
   have hn:n < S2.lg.length:=by
    have:=w3 n rfl
    rw [w2]
    exact this
   obtain ⟨v1,v2,v3,v4,v5⟩:=vf w1 (by show S2.lg.length<=100001;omega) hn hc e3
   have v6:=v1.link (n:=S.lg.length) (v:=m) v2
   have cm:=iH (mv:=[false,false]) (as:=ab (aa 4) (ab (aa 2) aj)) (xs:=[(.fr,.int (n:Int)),(.fr,.str [c])]) (b:=true) (r:=[Q0 (h:Int),Q1 ([c]),Q0 (S.lg.length:Int),Q0 (n:Int)]) rfl rfl rfl v5 rfl
   have pl:=x9 (S:=S3) (b:=true) (r:=[Q0 (h:Int),Q1 ([c]),Q0 (S.lg.length:Int),Q0 (n:Int)]) (i:=S.lg.length) (v:=m) (n:=.fr) (e:=aa 3) (ev:=fun _=>some (.fr,.int (m:Int))) (by rw [v1.lk];omega) rfl rfl
   have s3:iF 0 [.fld 2] (aa 3) (bq 0 [] 0 [false,false] av (ab (aa 4) (ab (aa 2) aj))) [oc (obT S2 true),Q0 (h:Int),Q1 ([c]),Q0 (S.lg.length:Int),Q0 (n:Int)]=some (.nx [oc (obT ⟨S3.lg,S3.lk.set S.lg.length (some m),S3.wy⟩ true),Q0 (h:Int),Q1 ([c]),Q0 (S.lg.length:Int),Q0 (n:Int)]):=by
    unfold iF
    rw [cm]
    exact pl
   have fin:aq (sIf (dM (aa 4)) (iF 0 [.fld 2] (aa 3) (bq 0 [] 0 [false,false] av (ab (aa 4) (ab (aa 2) aj)))) eX) (eV 3) [oc (obT S2 true),Q0 (h:Int),Q1 ([c]),Q0 (S.lg.length:Int),Q0 (n:Int)] =
     some (.rt (.fr,.int (S.lg.length:Int)) [oc (obT ⟨S3.lg,S3.lk.set S.lg.length (some m),S3.wy⟩ true),Q0 (h:Int),Q1 ([c]),Q0 (S.lg.length:Int),Q0 (n:Int)]):=(ag ((lB (m:=.fr) rfl).trans s3)).trans rfl
   refine ⟨v6,by show S.lg.length < S3.lg.length;omega,by show S.lg.length<=S3.lg.length;omega,by show S3.lg.length<=_;omega,?_⟩
   exact congrArg (fun z:Option Out=>z.bind _) ((hd _).trans fin)
theorem vI {S S':St}:∀ {word:Ww} {h r:Nat},WF S->S.lg.length+2 * word.length<=100000->h < S.lg.length->(∀ c∈word,97<=c/\c<=122)->hg S h word=some (S',r) →
  WF S'/\r < S'.lg.length/\S'.lg.length<=S.lg.length+2 * word.length/\∀ z3:Wt,∀ z2:T,∃ z3',forL (bH 3) bT (word.map fun c=>T.str [c]) [oc (obT S true),Q0 (h:Int),pc z2,z3]=some (.nx [oc (obT S' true),Q0 (r:Int),pc z2,z3'])
 | [],h,r,W,hl,hh,hc,e=>by
  obtain ⟨rfl,rfl⟩:=Xq (Zm e)
  exact ⟨W,hh,by simp,fun z3 z2=>⟨z3,rfl⟩⟩
 | c :: word,h,r,W,hl,hh,hc,e=>by
  obtain ⟨⟨S1,h1⟩,e1,e2'⟩:=Zz.mp e
  rw [Zl] at hl
  obtain ⟨w1,w2,w3,w4,w5⟩:=DK W (by omega) hh (hc c Zt) e1
  obtain ⟨v1,v2,v3,v4⟩:=vI (S:=S1) (S':=S') (word:=word) w1 (by omega) w2 (fun d hd=>hc d (Zu _ hd)) e2'
  refine ⟨v1,v2,by rw [Zl];omega,fun z3 z2=>?_⟩
  obtain ⟨z3',q⟩:=v4 (Q1 ([c])) z2
  refine ⟨z3',?_⟩
  rw [Zn]
  refine (gv (η1:=[oc (obT S true),Q0 (h:Int),pc z2,Q1 ([c])]) rfl ?_).trans q
  have cm:=iH (mv:=[false,false]) (as:=ab (aa 1) (ab (aa 3) aj)) (xs:=[(.fr,.int (h:Int)),(.fr,.str [c])]) (b:=true) (r:=[Q0 (h:Int),pc z2,Q1 ([c])]) rfl rfl rfl w5 rfl
  unfold bT bW
  rw [cm]
  rfl
theorem AH {S S':St} {word:Tx} {h r:Nat} (W:WF S) (hl:S.lg.length+2 * word.length<=100000) (hh:h < S.lg.length) (hc:∀ c∈word,97<=c/\c<=122) (e:hg S h word=some (S',r)) :
  WF S'/\r < S'.lg.length/\S'.lg.length<=S.lg.length+2 * word.length/\aK (fsT S) [.int (h:Int),.str word]=some (fsT S',.int (r:Int)):=by
 obtain ⟨w1,w2,w3,w4⟩:=vI W hl hh hc e
 obtain ⟨z3,q⟩:=w4 none (.str word)
 refine ⟨w1,w2,w3,?_⟩
 unfold aK mfn
 rw [Zp ⟨rfl,rfl⟩]
 have s1:=(dP (tg:=bH 3) (it:=iq (aa 2)) (body:=bT) (η:=[oc (obT S true),Q0 (h:Int),Q1 word,none]) (m:=.fr) (l:=word.map fun c=>T.str [c]) rfl rfl).trans q
 exact congrArg (fun z:Option Out=>z.bind _) ((ag s1).trans rfl)
end T40
end
section
namespace AU
noncomputable abbrev Wd:=Ww
noncomputable abbrev W (wd:List Wd) (n:Nat):Wd:=wd.getD n []
structure I (fr:Option Nat) (S:St) (nd:Wd->Option Nat) (wd:List Wd):Prop where
 wf:WF S
 len:wd.length=S.lg.length
 lg:∀ n,n < wd.length->S.lg.getD n 0=(W wd n).length
 z:nd []=some 0
 wz:W wd 0=[]
 lt:∀ {x n},nd x=some n->n < wd.length
 sf:∀ {x n},nd x=some n->x <:+ W wd n
 top:∀ {n},n < wd.length->nd (W wd n)=some n
 iv:∀ {x y n},nd x=some n->x <:+ y->y <:+ W wd n->nd y=some n
 pre:∀ {x c n},nd (x++[c])=some n->∃ m,nd x=some m
 suf:∀ {x y n},nd y=some n->x <:+ y->∃ m,nd x=some m
 lk0:S.lk.getD 0 none=none
 lk:∀ {n},0 < n->n < wd.length->some n ≠ fr->∃ m,S.lk.getD n none=some m/\(m < wd.length/\some m ≠ fr)/\W wd m <:+ W wd n/\(W wd m).length < (W wd n).length/\∀ y,y <:+ W wd n->(W wd m).length < y.length->nd y=some n
 wy:∀ {x n},nd x=some n->∀ c,gW (S.wy.getD n []) c=nd (x++[c])
theorem bX {α:Type} {x y w:List α} (h1:x <:+ w) (h2:y <:+ w) (hl:x.length<=y.length):x <:+ y:=List.suffix_of_suffix_length_le h1 h2 hl
section
variable {fr:Option Nat} {S:St} {nd:Wd->Option Nat} {wd:List Wd}
theorem I.up (H:I fr S nd wd):∀ (k n:Nat) (x:Wd),(W wd n).length<=k->n < wd.length->some n ≠ fr->x <:+ W wd n->∃ m,nd x=some m/\W wd m <:+ W wd n:=by
 intro k
 induction k with
 | zero =>
  intro n x hk hn hf hx
  have e:W wd n=[]:=List.length_eq_zero_iff.mp (Nat.le_zero.mp hk)
  rw [e] at hx
  have:x=[]:=Yb.mp hx
  subst this
  exact ⟨0,H.z,by rw [H.wz];exact Ya⟩
 | succ k ih =>
  intro n x hk hn hf hx
  by_cases h0:n=0
  ·subst h0
   rw [H.wz] at hx
   have:x=[]:=Yb.mp hx
   subst this
   exact ⟨0,H.z,ZC _⟩
  ·obtain ⟨m,h1,⟨h2,h2'⟩,h3,h4,h5⟩:=H.lk (Yf h0) hn hf
   by_cases hl:(W wd m).length < x.length
   ·exact ⟨n,h5 x hx hl,ZC _⟩
   ·obtain ⟨q,q1,q2⟩:=ih m x (by omega) h2 h2' (bX hx h3 (by omega))
    exact ⟨q,q1,q2.trans h3⟩
theorem I.up' (H:I fr S nd wd) {n:Nat} {x:Wd} (hn:n < wd.length) (hf:some n ≠ fr) (hx:x <:+ W wd n):∃ m,nd x=some m/\W wd m <:+ W wd n:=H.up _ n x (Zi _) hn hf hx
theorem I.all (H:I fr S nd wd) {n q:Nat} {x y:Wd} (hq:q < wd.length) (hf:some q ≠ fr) (hx:nd x=some n) (hy:nd y=some n) (h:x <:+ W wd q):y <:+ W wd q:=by
 obtain ⟨m,h1,h2⟩:=H.up' hq hf h
 rw [hx] at h1
 cases h1
 exact (H.sf hy).trans h2
theorem I.inj (H:I fr S nd wd) {m n:Nat} (hm:m < wd.length) (hn:n < wd.length) (h:W wd m=W wd n):m=n:=by
 have:=H.top hm
 rw [h,H.top hn] at this
 exact (Zm this).symm
theorem I.way (H:I fr S nd wd) {n c old:Nat} (hn:n < wd.length) (h:gW (S.wy.getD n []) c=some old):nd (W wd n++[c])=some old:=by
 rw [← H.wy (H.top hn) c]
 exact h
theorem I.zero (H:I fr S nd wd) {x:Wd} (h:nd x=some 0):x=[]:=by
 have:=H.sf h
 rw [H.wz] at this
 exact Yb.mp this
theorem I.low (H:I fr S nd wd) {n m:Nat} {y:Wd} (hf:some n ≠ fr) (hl:S.lk.getD n none=some m) (hy:nd y=some n):(W wd m).length < y.length/\m < wd.length/\W wd m <:+ W wd n/\some m ≠ fr:=by
 have hn:=H.lt hy
 by_cases h0:n=0
 ·subst h0;rw [H.lk0] at hl;cases hl
 ·obtain ⟨m',h1,⟨h2,h2'⟩,h3,h4,h5⟩:=H.lk (Yf h0) hn hf
  rw [h1] at hl
  cases hl
  refine ⟨Nat.lt_of_not_le fun hle=>?_,h2,h3,h2'⟩
  have:=H.iv hy (bX (H.sf hy) h3 hle) h3
  rw [H.top h2] at this
  cases this
  exact Yl _ h4
theorem I.below (H:I fr S nd wd) {n q m:Nat} (hn:n < wd.length) (hf:some n ≠ fr) (hl:S.lk.getD n none=some q) (hm:m < wd.length) (hs:W wd m <:+ W wd n) (hne:m ≠ n):W wd m <:+ W wd q:=by
 by_cases h0:n=0
 ·subst h0;rw [H.lk0] at hl;cases hl
 ·obtain ⟨q',h1,⟨h2,_⟩,h3,h4,h5⟩:=H.lk (Yf h0) hn hf
  rw [h1] at hl
  cases hl
  refine bX hs h3 (ZL fun hlt=>hne ?_)
  have:=h5 _ hs hlt
  rw [H.top hm] at this
  exact Zm this
theorem I.root (H:I fr S nd wd) {n m:Nat} (hn:n < wd.length) (hf:some n ≠ fr) (hl:S.lk.getD n none=none) (hm:m < wd.length) (hs:W wd m <:+ W wd n):m=n:=by
 have h0:n=0:=Nat.eq_zero_of_not_pos fun hp=>by
  obtain ⟨q,h1,_⟩:=H.lk hp hn hf
  rw [h1] at hl
  cases hl
 subst h0
 rw [H.wz] at hs
 exact H.inj hm hn (by rw [H.wz,Yb.mp hs])
theorem fP (wy:List (List (Nat×Nat))) (n m c v d:Nat) (hn:n < wy.length):gW ((wy.set n (pW (wy.getD n []) c v)).getD m []) d=if m=n/\d=c then some v else gW (wy.getD m []) d:=by
 rw [gH]
 by_cases h:n=m
 ·subst h
  rw [Zp ⟨rfl,hn⟩,Ad]
  by_cases hd:d=c
  ·rw [Zp hd,Zp ⟨rfl,hd⟩]
  ·rw [Zo hd,Zo (fun z=>hd z.2)]
 ·rw [Zo (fun z=>h z.1),Zo (fun z=>h z.1.symm)]
theorem I.climb2 (H:I fr S nd wd) {c old v:Nat}:∀ (k:Nat) (T:St) (n:Nat),n < wd.length->some n ≠ fr->(W wd n).length < k->(∀ m,m < wd.length->W wd m <:+ W wd n->T.lk.getD m none=S.lk.getD m none)->wd.length<=T.wy.length →
  (∀ m m',m < wd.length->m' < wd.length->W wd m <:+ W wd m'->W wd m' <:+ W wd n->gW (T.wy.getD m []) c=some old->gW (T.wy.getD m' []) c=some old) →
  ∃ wy',up2 c old v k T (some n)=some ⟨T.lg,T.lk,wy'⟩/\wy'.length=T.wy.length/\∀ m d,gW (wy'.getD m []) d=if d=c/\m < wd.length/\W wd m <:+ W wd n/\gW (T.wy.getD m []) c=some old then some v else gW (T.wy.getD m []) d:=by
 intro k
 induction k with
 | zero=>intro T n _ _ h;omega
 | succ k ih =>
  intro T n hn hf hk hlk hw mono
  have hnw:n < T.wy.length:=ZQ hn hw
  unfold up2
  by_cases hq:gW (T.wy.getD n []) c=some old
  ·rw [Zp hq,hlk n hn (ZC _)]
   cases hl:S.lk.getD n none with
   | none =>
    refine ⟨T.wy.set n (pW (T.wy.getD n []) c v),by cases k <;> rfl,Z2,fun m d=>?_⟩
    rw [fP _ _ _ _ _ _ hnw]
    by_cases hm:m=n/\d=c
    ·rw [Zp hm,Zp ⟨hm.2,by rw [hm.1];exact hn,by rw [hm.1];exact ZC _,by rw [hm.1];exact hq⟩]
    ·rw [Zo hm,Zo fun z=>hm ⟨H.root hn hf hl z.2.1 z.2.2.1,z.1⟩]
   | some q =>
    obtain ⟨l1,l2,l3,l4⟩:=H.low hf hl (H.top hn)
    have ne:∀ m,W wd m <:+ W wd q->m ≠ n:=fun m hm e=>by
     rw [e] at hm
     have:=hm.length_le
     omega
    obtain ⟨wy',e1,e2,e3⟩:=ih ⟨T.lg,T.lk,T.wy.set n (pW (T.wy.getD n []) c v)⟩ q l2 l4 (by omega) (fun m hm hs=>hlk m hm (hs.trans l3)) (by show _<=(T.wy.set _ _).length;rw [Z2];exact hw) (fun m m' hm hm' hs hs' h=>by
     have h':gW ((T.wy.set n (pW (T.wy.getD n []) c v)).getD m []) c=some old:=h
     show gW ((T.wy.set n (pW (T.wy.getD n []) c v)).getD m' []) c=some old
     rw [fP _ _ _ _ _ _ hnw,Zo (fun z=>ne m (hs.trans hs') z.1)] at h'
     rw [fP _ _ _ _ _ _ hnw,Zo (fun z=>ne m' hs' z.1)]
     exact mono m m' hm hm' hs (hs'.trans l3) h')
    refine ⟨wy',e1,by rw [e2];exact Z2,fun m d=>?_⟩
    rw [e3 m d]
    show (if d=c/\m < wd.length/\W wd m <:+ W wd q/\gW ((T.wy.set n (pW (T.wy.getD n []) c v)).getD m []) c=some old then some v else gW ((T.wy.set n (pW (T.wy.getD n []) c v)).getD m []) d)=_
    by_cases hm:m=n
    ·subst hm
     rw [Zo (fun z=>ne m z.2.2.1 rfl),fP _ _ _ _ _ _ hnw]
     by_cases hd:d=c
     ·rw [Zp ⟨rfl,hd⟩,Zp ⟨hd,hn,ZC _,hq⟩]
     ·rw [Zo (fun z=>hd z.2),Zo (fun z=>hd z.1)]
    ·have g1:∀ d,gW ((T.wy.set n (pW (T.wy.getD n []) c v)).getD m []) d=gW (T.wy.getD m []) d:=fun d=>by rw [fP _ _ _ _ _ _ hnw,Zo (fun z=>hm z.1)]
     rw [g1,g1]
     by_cases hc:d=c/\m < wd.length/\W wd m <:+ W wd n/\gW (T.wy.getD m []) c=some old
     ·rw [Zp hc,Zp ⟨hc.1,hc.2.1,H.below hn hf hl hc.2.1 hc.2.2.1 hm,hc.2.2.2⟩]
     ·rw [Zo hc,Zo fun z=>hc ⟨z.1,z.2.1,z.2.2.1.trans l3,z.2.2.2⟩]
  ·rw [Zo hq]
   refine ⟨T.wy,rfl,rfl,fun m d=>?_⟩
   rw [Zo fun z=>hq (mono m n z.2.1 hn z.2.2.1 (ZC _) z.2.2.2)]
theorem I.climb1 (H:I fr S nd wd) {c v:Nat}:∀ (k:Nat) (T:St) (n:Nat),n < wd.length->some n ≠ fr->(W wd n).length < k->(∀ m,m < wd.length->W wd m <:+ W wd n->T.lk.getD m none=S.lk.getD m none)->wd.length<=T.wy.length →
  (∀ m m',m < wd.length->m' < wd.length->W wd m <:+ W wd m'->W wd m' <:+ W wd n->(gW (T.wy.getD m' []) c).isSome->(gW (T.wy.getD m []) c).isSome) →
  ∃ wy' o',up1 c v k T (some n)=some (⟨T.lg,T.lk,wy'⟩,o')/\wy'.length=T.wy.length/\(∀ m d,gW (wy'.getD m []) d=if d=c/\m < wd.length/\W wd m <:+ W wd n/\gW (T.wy.getD m []) c=none then some v else gW (T.wy.getD m []) d) ∧
   (o'=none->∀ m,m < wd.length->W wd m <:+ W wd n->gW (T.wy.getD m []) c=none) ∧
   ∀ p,o'=some p->p < wd.length/\W wd p <:+ W wd n/\(gW (T.wy.getD p []) c).isSome/\∀ m,m < wd.length->W wd m <:+ W wd n->(W wd p).length < (W wd m).length->gW (T.wy.getD m []) c=none:=by
 intro k
 induction k with
 | zero=>intro T n _ _ h;omega
 | succ k ih =>
  intro T n hn hf hk hlk hw mono
  have hnw:n < T.wy.length:=ZQ hn hw
  unfold up1
  by_cases hq:(gW (T.wy.getD n []) c).isSome=true
  ·rw [Zp hq]
   refine ⟨T.wy,some n,rfl,rfl,fun m d=>?_,(fun h=>nomatch h),fun p hp=>?_⟩
   ·rw [Zo fun z=>?_]
    have:=mono m n z.2.1 hn z.2.2.1 (ZC _) hq
    rw [z.2.2.2] at this
    cases this
   ·cases hp
    refine ⟨hn,ZC _,hq,fun m hm hs hl=>?_⟩
    have:=hs.length_le
    omega
  ·have hq':gW (T.wy.getD n []) c=none:=by
    cases h:gW (T.wy.getD n []) c with
    | none=>rfl
    | some x=>rw [h] at hq;exact absurd rfl hq
   rw [Zo hq,hlk n hn (ZC _)]
   cases hl:S.lk.getD n none with
   | none =>
    refine ⟨T.wy.set n (pW (T.wy.getD n []) c v),none,by cases k <;> rfl,Z2,fun m d=>?_,fun _ m hm hs=>?_,(fun p hp=>nomatch hp)⟩
    ·rw [fP _ _ _ _ _ _ hnw]
     by_cases hm:m=n/\d=c
     ·rw [Zp hm,Zp ⟨hm.2,by rw [hm.1];exact hn,by rw [hm.1];exact ZC _,by rw [hm.1];exact hq'⟩]
     ·rw [Zo hm,Zo fun z=>hm ⟨H.root hn hf hl z.2.1 z.2.2.1,z.1⟩]
    ·rw [H.root hn hf hl hm hs];exact hq'
   | some q =>
    obtain ⟨l1,l2,l3,l4⟩:=H.low hf hl (H.top hn)
    have ne:∀ m,W wd m <:+ W wd q->m ≠ n:=fun m hm e=>by
     rw [e] at hm
     have:=hm.length_le
     omega
    obtain ⟨wy',o',e1,e2,e3,e4,e5⟩:=ih ⟨T.lg,T.lk,T.wy.set n (pW (T.wy.getD n []) c v)⟩ q l2 l4 (by omega) (fun m hm hs=>hlk m hm (hs.trans l3)) (by show _<=(T.wy.set _ _).length;rw [Z2];exact hw) (fun m m' hm hm' hs hs' h=>by
     have h':(gW ((T.wy.set n (pW (T.wy.getD n []) c v)).getD m' []) c).isSome:=h
     show (gW ((T.wy.set n (pW (T.wy.getD n []) c v)).getD m []) c).isSome
     rw [fP _ _ _ _ _ _ hnw,Zo (fun z=>ne m' hs' z.1)] at h'
     rw [fP _ _ _ _ _ _ hnw,Zo (fun z=>ne m (hs.trans hs') z.1)]
     exact mono m m' hm hm' hs (hs'.trans l3) h')
    have old:∀ m,W wd m <:+ W wd q->gW ((T.wy.set n (pW (T.wy.getD n []) c v)).getD m []) c=gW (T.wy.getD m []) c:=fun m hm=>by rw [fP _ _ _ _ _ _ hnw,Zo (fun z=>ne m hm z.1)]
    refine ⟨wy',o',e1,by rw [e2];exact Z2,fun m d=>?_,fun ho m hm hs=>?_,fun p hp=>?_⟩
    ·rw [e3 m d]
     show (if d=c/\m < wd.length/\W wd m <:+ W wd q/\gW ((T.wy.set n (pW (T.wy.getD n []) c v)).getD m []) c=none then some v else gW ((T.wy.set n (pW (T.wy.getD n []) c v)).getD m []) d)=_
     by_cases hm:m=n
     ·subst hm
      rw [Zo (fun z=>ne m z.2.2.1 rfl),fP _ _ _ _ _ _ hnw]
      by_cases hd:d=c
      ·rw [Zp ⟨rfl,hd⟩,Zp ⟨hd,hn,ZC _,hq'⟩]
      ·rw [Zo (fun z=>hd z.2),Zo (fun z=>hd z.1)]
     ·have g1:∀ d,gW ((T.wy.set n (pW (T.wy.getD n []) c v)).getD m []) d=gW (T.wy.getD m []) d:=fun d=>by rw [fP _ _ _ _ _ _ hnw,Zo (fun z=>hm z.1)]
      rw [g1,g1]
      by_cases hc:d=c/\m < wd.length/\W wd m <:+ W wd n/\gW (T.wy.getD m []) c=none
      ·rw [Zp hc,Zp ⟨hc.1,hc.2.1,H.below hn hf hl hc.2.1 hc.2.2.1 hm,hc.2.2.2⟩]
      ·rw [Zo hc,Zo fun z=>hc ⟨z.1,z.2.1,z.2.2.1.trans l3,z.2.2.2⟩]
    ·by_cases hmn:m=n
     ·rw [hmn];exact hq'
     ·have hb:=H.below hn hf hl hm hs hmn
      rw [← old m hb]
      exact e4 ho m hm hb
    ·obtain ⟨p1,p2,p3,p4⟩:=e5 p hp
     have p3':(gW ((T.wy.set n (pW (T.wy.getD n []) c v)).getD p []) c).isSome:=p3
     rw [old p p2] at p3'
     refine ⟨p1,p2.trans l3,p3',fun m hm hs hlt=>?_⟩
     by_cases hmn:m=n
     ·rw [hmn];exact hq'
     ·have hb:=H.below hn hf hl hm hs hmn
      rw [← old m hb]
      exact p4 m hm hb hlt
end
theorem Cy {c old v:Nat} (hc:97<=c/\c<=122):∀ (k:Nat) (S S':St) (o:Option Nat),WF S->v < S.lg.length->up2 c old v k S o=some S'->WF S':=by
 intro k
 induction k with
 | zero =>
  intro S S' o H hv e
  cases o with
  | none=>cases (show some S=some S' from e);exact H
  | some n=>cases e
 | succ k ih =>
  intro S S' o H hv e
  cases o with
  | none=>cases (show some S=some S' from e);exact H
  | some n =>
   unfold up2 at e
   split at e
   ·exact ih ⟨S.lg,S.lk,S.wy.set n (pW (S.wy.getD n []) c v)⟩ S' _ (H.way (n:=n) hv hc) hv e
   ·cases e;exact H
theorem Bl {c v:Nat} (hc:97<=c/\c<=122):∀ (k:Nat) (S S':St) (o o':Option Nat),WF S->v < S.lg.length->up1 c v k S o=some (S',o')->WF S':=by
 intro k
 induction k with
 | zero =>
  intro S S' o o' H hv e
  cases o with
  | none=>cases (show some (S,none)=some (S',o') from e);exact H
  | some n=>cases e
 | succ k ih =>
  intro S S' o o' H hv e
  cases o with
  | none=>cases (show some (S,none)=some (S',o') from e);exact H
  | some n =>
   unfold up1 at e
   split at e
   ·cases e;exact H
   ·exact ih ⟨S.lg,S.lk,S.wy.set n (pW (S.wy.getD n []) c v)⟩ S' _ o' (H.way (n:=n) hv hc) hv e
theorem iP {α:Type} {x y:List α} {a b:α} (h:x++[a] <:+ y++[b]):a=b/\x <:+ y:=by
 obtain ⟨t,e⟩:=h
 rw [← ZJ] at e
 obtain ⟨e1,e2⟩:=List.append_inj' e rfl
 exact ⟨by simpa using e2,⟨t,e1⟩⟩
theorem gE {α:Type} {x y:List α} (a:α) (h:x <:+ y):x++[a] <:+ y++[a]:=by
 obtain ⟨t,e⟩:=h
 exact ⟨t,by rw [← e,ZJ]⟩
noncomputable def ip (nd:Wd->Option Nat) (old l h:Nat) (x:Wd):Option Nat:=if nd x=some old/\x.length<=l then some h else nd x
theorem I.split {fr:Option Nat} {S:St} {nd:Wd->Option Nat} {wd:List Wd} (H:I fr S nd wd) {n c old:Nat} (hn:n < wd.length) (hf:some n ≠ fr) (hc:97<=c/\c<=122) (ho:gW (S.wy.getD n []) c=some old) (hof:some old ≠ fr) (hfr:fr ≠ some wd.length) (hne:S.lg.getD old 0 ≠ S.lg.getD n 0+1) (hk:(W wd n).length < 1000) :
  ∃ S',njb S n c=some (S',S.lg.length)/\I fr S' (ip nd old ((W wd n).length+1) wd.length) (wd++[W wd n++[c]]):=by
 have hL:S.lg.length=wd.length:=H.len.symm
 have hw:=H.way hn ho
 have hold:=H.lt hw
 have hsf:=H.sf hw
 have lw:(W wd n++[c]).length=(W wd n).length+1:=by rw [Zv];rfl
 rw [H.lg old hold,H.lg n hn] at hne
 have hlt:(W wd n).length+1 < (W wd old).length:=by
  have:=hsf.length_le
  rw [lw] at this
  omega
 have o0:old ≠ 0:=fun e=>by
  rw [e,H.wz] at hlt
  simp at hlt
 have hLp:0 < wd.length:=by rw [H.len];exact H.wf.pos
 have l1:S.lk.length=wd.length:=by rw [H.wf.lk,hL]
 have l2:S.wy.length=wd.length:=by rw [H.wf.wy,hL]
 have lk':∀ m,((S.lk++[S.lk.getD old none]).set old (some S.lg.length)).getD m none=if m=old then some wd.length else if m=wd.length then S.lk.getD old none else S.lk.getD m none:=fun m=>by
  rw [gH,bS,l1,hL]
  by_cases h:m=old
  ·rw [Zp ⟨h.symm,by rw [Zv,l1];omega⟩,Zp h]
  ·rw [Zo (fun z=>h z.1.symm),Zo h]
 have wy':∀ m,(S.wy++[S.wy.getD old []]).getD m []=if m=wd.length then S.wy.getD old [] else S.wy.getD m []:=fun m=>by rw [bS,l2]
 have wyl:∀ m,m < wd.length->(S.wy++[S.wy.getD old []]).getD m []=S.wy.getD m []:=fun m hm=>by rw [wy',Zo (ZY hm)]
 obtain ⟨w2,e1,e2,e3⟩:=H.climb2 (c:=c) (old:=old) (v:=S.lg.length) 1000 ⟨S.lg++[S.lg.getD n 0+1],(S.lk++[S.lk.getD old none]).set old (some S.lg.length),S.wy++[S.wy.getD old []]⟩ n hn hf hk (fun m hm hs=>by
   have:=hs.length_le
   show ((S.lk++[S.lk.getD old none]).set old (some S.lg.length)).getD m none=_
   rw [lk',Zo (fun e=>by rw [e] at this;omega),Zo (ZY hm)])
  (by show _<=(S.wy++[S.wy.getD old []]).length;rw [Zv,l2];omega)
  (fun m m' hm hm' hs hs' h=>by
   have h':gW ((S.wy++[S.wy.getD old []]).getD m []) c=some old:=h
   show gW ((S.wy++[S.wy.getD old []]).getD m' []) c=some old
   rw [wyl m hm] at h'
   rw [wyl m' hm',H.wy (H.top hm') c]
   rw [H.wy (H.top hm) c] at h'
   exact H.iv h' (gE c hs) ((gE c hs').trans hsf))
 have wn:=H.wf.wnd old
 have W1:=H.wf.more (l:=S.lg.getD n 0+1) (o:=S.lk.getD old none) (w:=S.wy.getD old []) (fun m hm=>H.wf.up old m hm) (fun d m hm=>H.wf.on old d m hm) wn.1 wn.2
 have hlen:(S.lg++[S.lg.getD n 0+1]).length=S.lg.length+1:=by rw [Zv];rfl
 have W2:=W1.link (n:=old) (v:=S.lg.length) (by show S.lg.length < (S.lg++[S.lg.getD n 0+1]).length;omega)
 have wfS:=Cy hc 1000 _ _ _ W2 (by show S.lg.length < (S.lg++[S.lg.getD n 0+1]).length;omega) e1
 refine ⟨⟨S.lg++[S.lg.getD n 0+1],(S.lk++[S.lk.getD old none]).set old (some S.lg.length),w2⟩,?_,?_⟩
 ·unfold njb
  rw [ho,Zx,Zo (by rw [H.lg old hold,H.lg n hn];exact hne),e1]
  rfl
 have Wn:∀ m,W (wd++[W wd n++[c]]) m=if m=wd.length then W wd n++[c] else W wd m:=fun m=>bS wd _ _ m
 have WL:W (wd++[W wd n++[c]]) wd.length=W wd n++[c]:=by rw [Wn,Zp rfl]
 have Wl:∀ {m},m < wd.length->W (wd++[W wd n++[c]]) m=W wd m:=fun {m} hm=>by rw [Wn,Zo (ZY hm)]
 have dN:(wd++[W wd n++[c]]).length=wd.length+1:=by rw [Zv];rfl
 have tell:∀ {x m},ip nd old ((W wd n).length+1) wd.length x=some m->(m=wd.length/\nd x=some old/\x.length<=(W wd n).length+1)\/(m < wd.length/\nd x=some m/\¬ (m=old/\x.length<=(W wd n).length+1)):=fun {x m} h=>by
  unfold ip at h
  split at h
  ·rename_i q
   cases h
   exact .inl ⟨rfl,q.1,q.2⟩
  ·rename_i q
   exact .inr ⟨H.lt h,h,fun z=>q ⟨by rw [h,z.1],z.2⟩⟩
 have tL:∀ {x},nd x=some old->x.length<=(W wd n).length+1->ip nd old ((W wd n).length+1) wd.length x=some wd.length:=fun {x} h1 h2=>Zp ⟨h1,h2⟩
 have tO:∀ {x m},nd x=some m->¬ (m=old/\x.length<=(W wd n).length+1)->ip nd old ((W wd n).length+1) wd.length x=some m:=fun {x m} h1 h2=>by
  unfold ip
  rw [Zo (fun z=>h2 ⟨by rw [h1] at z;exact Zm z.1,z.2⟩),h1]
 have some_:∀ {x m},nd x=some m->∃ m',ip nd old ((W wd n).length+1) wd.length x=some m':=fun {x m} h=>by
  unfold ip
  split
  ·exact ⟨_,rfl⟩
  ·exact ⟨m,h⟩
 have un:∀ {x m},ip nd old ((W wd n).length+1) wd.length x=some m->∃ m',nd x=some m':=fun {x m} h=>(tell h).elim (fun z=>⟨_,z.2.1⟩) fun z=>⟨_,z.2.1⟩
 refine ⟨wfS,by rw [dN,hlen,hL],fun m hm=>?_,tO H.z (fun z=>o0 z.1.symm),by rw [Wl hLp];exact H.wz,fun {x m} h=>by rcases tell h with z | z <;> omega,fun {x m} h=>?_,fun {m} hm=>?_,fun {x y m} h hxy hy=>?_,fun {x d m} h=>?_,fun {x y m} h hxy=>?_,?_,fun {m} h0 hm hmf=>?_,fun {x m} h d=>?_⟩
 ·rw [dN] at hm
  show (S.lg++[S.lg.getD n 0+1]).getD m 0=_
  rw [bS,hL]
  by_cases e:m=wd.length
  ·rw [Zp e,e,WL,H.lg n hn,lw]
  ·rw [Zo e,Wl (by omega),H.lg m (by omega)]
 ·rcases tell h with ⟨rfl,z1,z2⟩ | ⟨z0,z1,_⟩
  ·rw [WL]
   exact bX (H.sf z1) hsf (by rw [lw];exact z2)
  ·rw [Wl z0]
   exact H.sf z1
 ·rw [dN] at hm
  by_cases e:m=wd.length
  ·rw [e,WL]
   exact tL hw (by rw [lw];exact Zi _)
  ·rw [Wl (by omega)]
   exact tO (H.top (by omega)) (fun z=>by have:=z.2;rw [z.1] at this;omega)
 ·rcases tell h with ⟨rfl,z1,z2⟩ | ⟨z0,z1,z2⟩
  ·rw [WL] at hy
   have:=hy.length_le
   rw [lw] at this
   exact tL (H.iv z1 hxy (hy.trans hsf)) this
  ·rw [Wl z0] at hy
   exact tO (H.iv z1 hxy hy) (fun z=>z2 ⟨z.1,ZI hxy.length_le z.2⟩)
 ·obtain ⟨m',h'⟩:=un h
  obtain ⟨q,hq⟩:=H.pre h'
  exact some_ hq
 ·obtain ⟨m',h'⟩:=un h
  obtain ⟨q,hq⟩:=H.suf h' hxy
  exact some_ hq
 ·show ((S.lk++[S.lk.getD old none]).set old (some S.lg.length)).getD 0 none=none
  rw [lk',Zo (Yh o0),Zo (by omega)]
  exact H.lk0
 ·rw [dN] at hm
  show ∃ q,((S.lk++[S.lk.getD old none]).set old (some S.lg.length)).getD m none=some q/\_
  rw [lk',dN]
  obtain ⟨q,q1,⟨q2,q2'⟩,q3,q4,q5⟩:=H.lk (Yf o0) hold hof
  obtain ⟨lo,_⟩:=H.low hof q1 hw
  rw [lw] at lo
  by_cases e:m=old
  ·subst e
   rw [Zp rfl]
   refine ⟨wd.length,rfl,⟨by omega,fun z=>hfr z.symm⟩,?_,?_,fun y hy hl=>?_⟩
   ·rw [WL,Wl hold];exact hsf
   ·rw [WL,Wl hold,lw];exact hlt
   ·rw [WL,lw] at hl
    rw [Wl hold] at hy
    exact tO (H.iv hw (bX hsf hy (by rw [lw];omega)) hy) (fun z=>by have:=z.2;omega)
  ·rw [Zo e]
   by_cases eL:m=wd.length
   ·subst eL
    rw [Zp rfl,q1]
    refine ⟨q,rfl,⟨by omega,q2'⟩,?_,?_,fun y hy hl=>?_⟩
    ·rw [WL,Wl q2];exact bX q3 hsf (by rw [lw];omega)
    ·rw [WL,Wl q2,lw];exact lo
    ·rw [WL] at hy
     rw [Wl q2] at hl
     have:=hy.length_le
     rw [lw] at this
     exact tL (q5 y (hy.trans hsf) hl) this
   ·rw [Zo eL]
    have hm':m < wd.length:=by omega
    obtain ⟨r,r1,⟨r2,r2'⟩,r3,r4,r5⟩:=H.lk h0 hm' hmf
    rw [r1]
    refine ⟨r,rfl,⟨by omega,r2'⟩,by rw [Wl r2,Wl hm'];exact r3,by rw [Wl r2,Wl hm'];exact r4,fun y hy hl=>?_⟩
    rw [Wl hm'] at hy
    rw [Wl r2] at hl
    exact tO (r5 y hy hl) (fun z=>e z.1)
 ·show gW (w2.getD m []) d=_
  rw [e3 m d]
  show (if d=c/\m < wd.length/\W wd m <:+ W wd n/\gW ((S.wy++[S.wy.getD old []]).getD m []) c=some old then some S.lg.length else gW ((S.wy++[S.wy.getD old []]).getD m []) d)=_
  rcases tell h with ⟨rfl,z1,z2⟩ | ⟨z0,z1,z2⟩
  ·rw [Zo (fun z=>Yl _ z.2.1),wy',Zp rfl,H.wy z1 d]
   unfold ip
   rw [Zo]
   intro z
   have h1:=z.1
   rw [← H.wy z1 d,H.wy (H.top hold) d] at h1
   have:=(H.sf h1).length_le
   rw [Zv,ZW] at this
   omega
  ·rw [wyl m z0,H.wy z1 c,H.wy z1 d]
   unfold ip
   by_cases hq:nd (x++[d])=some old/\(x++[d]).length<=(W wd n).length+1
   ·have hs2:=bX (H.sf hq.1) hsf (by rw [lw];exact hq.2)
    obtain ⟨rfl,hx⟩:=iP hs2
    obtain ⟨m',m1,m2⟩:=H.up' hn hf hx
    rw [z1] at m1
    cases m1
    rw [Zp ⟨rfl,z0,m2,hq.1⟩,Zp hq,hL]
   ·rw [Zo hq,Zo]
    rintro ⟨rfl,_,a3,a4⟩
    refine hq ⟨a4,?_⟩
    have b1:=(H.sf z1).length_le
    have b2:=a3.length_le
    rw [Zv,ZW]
    omega
end AU
end
section
namespace AU
open Classical in
noncomputable def ib (nd:Wd->Option Nat) (w:Wd) (f:Nat) (x:Wd):Option Nat:=match nd x with
 | some m=>some m
 | none=>if x <:+ w then some f else none
theorem dr {nd:Wd->Option Nat} {w:Wd} {f m:Nat} {x:Wd} (h:nd x=some m):ib nd w f x=some m:=by
 unfold ib
 rw [h]
theorem fL {nd:Wd->Option Nat} {w:Wd} {f:Nat} {x:Wd} (h:nd x=none) (hx:x <:+ w):ib nd w f x=some f:=by
 unfold ib
 rw [h]
 exact Zp hx
theorem cJ {nd:Wd->Option Nat} {w:Wd} {f m:Nat} {x:Wd} (h:ib nd w f x=some m):nd x=some m\/(m=f/\nd x=none/\x <:+ w):=by
 unfold ib at h
 split at h
 ·rename_i q e
  cases h
  exact .inl e
 ·rename_i e
  split at h
  ·rename_i hx
   cases h
   exact .inr ⟨rfl,e,hx⟩
  ·cases h
theorem vC {α:Type} {y t:List α} {c:α} (h:y <:+ t++[c]) (hy:y ≠ []):∃ y',y=y'++[c]/\y' <:+ t:=by
 rcases List.eq_nil_or_concat y with e | ⟨y',b,e⟩
 ·exact absurd e hy
 ·rw [List.concat_eq_append] at e
  subst e
  obtain ⟨e1,e2⟩:=iP h
  exact ⟨y',by rw [e1],e2⟩
section
variable {S:St} {nd:Wd->Option Nat} {wd:List Wd}
theorem I.fresh (H:I none S nd wd) {h c:Nat} (hh:h < wd.length) (hc:97<=c/\c<=122) (hn:gW (S.wy.getD h []) c=none) (hk:(W wd h).length < 1000) :
  ∃ S2 o',up1 c S.lg.length 1000 ⟨S.lg++[S.lg.getD h 0+1],S.lk++[some 0],S.wy++[[]]⟩ (some h)=some (S2,o')/\I (some wd.length) S2 (ib nd (W wd h++[c]) wd.length) (wd++[W wd h++[c]])/\S2.lk.getD wd.length none=some 0/\S2.lg.length=S.lg.length+1 ∧
   (∀ m,m < wd.length->(gW (S.wy.getD m []) c).isSome->gW (S2.wy.getD m []) c=gW (S.wy.getD m []) c) ∧
   (o'=none->∀ m,m < wd.length->W wd m <:+ W wd h->gW (S.wy.getD m []) c=none) ∧
   ∀ p,o'=some p->p < wd.length/\W wd p <:+ W wd h/\(gW (S.wy.getD p []) c).isSome/\∀ m,m < wd.length->W wd m <:+ W wd h->(W wd p).length < (W wd m).length->gW (S.wy.getD m []) c=none:=by
 have hL:S.lg.length=wd.length:=H.len.symm
 have l1:S.lk.length=wd.length:=by rw [H.wf.lk,hL]
 have l2:S.wy.length=wd.length:=by rw [H.wf.wy,hL]
 have hLp:0 < wd.length:=by rw [H.len];exact H.wf.pos
 have lk':∀ m,(S.lk++[some 0]).getD m none=if m=wd.length then some 0 else S.lk.getD m none:=fun m=>by rw [bS,l1]
 have wy':∀ m,(S.wy++[[]]).getD m []=if m=wd.length then [] else S.wy.getD m []:=fun m=>by rw [bS,l2]
 have wyl:∀ m,m < wd.length->(S.wy++[[]]).getD m []=S.wy.getD m []:=fun m hm=>by rw [wy',Zo (ZY hm)]
 have nt:nd (W wd h++[c])=none:=by rw [← H.wy (H.top hh) c];exact hn
 obtain ⟨w2,o',e1,e2,e3,e4,e5⟩:=H.climb1 (c:=c) (v:=S.lg.length) 1000 ⟨S.lg++[S.lg.getD h 0+1],S.lk++[some 0],S.wy++[[]]⟩ h hh (fun z=>nomatch z) hk (fun m hm _=>by
   show (S.lk++[some 0]).getD m none=_
   rw [lk',Zo (ZY hm)])
  (by show _<=(S.wy++[[]]).length;rw [Zv,l2];omega)
  (fun m m' hm hm' hs hs' q=>by
   have q':(gW ((S.wy++[[]]).getD m' []) c).isSome:=q
   show (gW ((S.wy++[[]]).getD m []) c).isSome
   rw [wyl m' hm',H.wy (H.top hm') c] at q'
   rw [wyl m hm,H.wy (H.top hm) c]
   obtain ⟨r,hr⟩:=Yr.mp q'
   obtain ⟨r',hr'⟩:=H.suf hr (gE c hs)
   rw [hr']
   rfl)
 have hlen:(S.lg++[S.lg.getD h 0+1]).length=S.lg.length+1:=by rw [Zv];rfl
 have W1:=H.wf.more (l:=S.lg.getD h 0+1) (o:=some 0) (w:=[]) (fun m hm=>by cases hm;exact H.wf.pos) (fun d m hm=>by cases hm) Z5 (fun p hp=>nomatch hp)
 have wfS:=Bl hc 1000 _ _ _ _ W1 (by show S.lg.length < (S.lg++[S.lg.getD h 0+1]).length;omega) e1
 have lw:(W wd h++[c]).length=(W wd h).length+1:=by rw [Zv];rfl
 have Wn:∀ m,W (wd++[W wd h++[c]]) m=if m=wd.length then W wd h++[c] else W wd m:=fun m=>bS wd _ _ m
 have WL:W (wd++[W wd h++[c]]) wd.length=W wd h++[c]:=by rw [Wn,Zp rfl]
 have Wl:∀ {m},m < wd.length->W (wd++[W wd h++[c]]) m=W wd m:=fun {m} hm=>by rw [Wn,Zo (ZY hm)]
 have dN:(wd++[W wd h++[c]]).length=wd.length+1:=by rw [Zv];rfl
 refine ⟨⟨S.lg++[S.lg.getD h 0+1],S.lk++[some 0],w2⟩,o',e1,?_,by show (S.lk++[some 0]).getD wd.length none=_;rw [lk',Zp rfl],hlen,fun m hm hs=>?_,fun ho m hm hs=>?_,fun p hp=>?_⟩
 rotate_left
 ·show gW (w2.getD m []) c=_
  rw [e3 m c]
  show (if c=c/\m < wd.length/\W wd m <:+ W wd h/\gW ((S.wy++[[]]).getD m []) c=none then some S.lg.length else gW ((S.wy++[[]]).getD m []) c)=_
  rw [wyl m hm,Zo (fun z=>by rw [z.2.2.2] at hs;cases hs)]
 ·have:=e4 ho m hm hs
  have this':gW ((S.wy++[[]]).getD m []) c=none:=this
  rw [wyl m hm] at this'
  exact this'
 ·obtain ⟨p1,p2,p3,p4⟩:=e5 p hp
  have p3':(gW ((S.wy++[[]]).getD p []) c).isSome:=p3
  rw [wyl p p1] at p3'
  refine ⟨p1,p2,p3',fun m hm hs hl=>?_⟩
  have:=p4 m hm hs hl
  have this':gW ((S.wy++[[]]).getD m []) c=none:=this
  rw [wyl m hm] at this'
  exact this'
 refine ⟨wfS,by rw [dN];show _=(S.lg++[S.lg.getD h 0+1]).length;rw [hlen,hL],fun m hm=>?_,dr H.z,by rw [Wl hLp];exact H.wz,fun {x m} q=>?_,fun {x m} q=>?_,fun {m} hm=>?_,fun {x y m} q hxy hy=>?_,fun {x d m} q=>?_,fun {x y m} q hxy=>?_,?_,fun {m} h0 hm hmf=>?_,fun {x m} q d=>?_⟩
 ·rw [dN] at hm
  show (S.lg++[S.lg.getD h 0+1]).getD m 0=_
  rw [bS,hL]
  by_cases e:m=wd.length
  ·rw [Zp e,e,WL,H.lg h hh,lw]
  ·rw [Zo e,Wl (by omega),H.lg m (by omega)]
 ·rw [dN]
  rcases cJ q with z | z
  ·have:=H.lt z;omega
  ·omega
 ·rcases cJ q with z | ⟨rfl,_,z⟩
  ·rw [Wl (H.lt z)];exact H.sf z
  ·rw [WL];exact z
 ·rw [dN] at hm
  by_cases e:m=wd.length
  ·rw [e,WL];exact fL nt (ZC _)
  ·rw [Wl (by omega)];exact dr (H.top (by omega))
 ·rcases cJ q with z | ⟨rfl,z1,z2⟩
  ·rw [Wl (H.lt z)] at hy
   exact dr (H.iv z hxy hy)
  ·rw [WL] at hy
   refine fL ?_ hy
   cases e:nd y with
   | none=>rfl
   | some r =>
    obtain ⟨r',hr⟩:=H.suf e hxy
    rw [z1] at hr
    cases hr
 ·rcases cJ q with z | ⟨_,_,z⟩
  ·obtain ⟨r,hr⟩:=H.pre z
   exact ⟨r,dr hr⟩
  ·obtain ⟨_,hx⟩:=iP z
   obtain ⟨r,hr⟩:=H.suf (H.top hh) hx
   exact ⟨r,dr hr⟩
 ·rcases cJ q with z | ⟨_,_,z⟩
  ·obtain ⟨r,hr⟩:=H.suf z hxy
   exact ⟨r,dr hr⟩
  ·cases e:nd x with
   | none=>exact ⟨_,fL e (hxy.trans z)⟩
   | some r=>exact ⟨r,dr e⟩
 ·show (S.lk++[some 0]).getD 0 none=none
  rw [lk',Zo (by omega)]
  exact H.lk0
 ·rw [dN] at hm
  have hm':m < wd.length:=by
   have:m ≠ wd.length:=fun e=>hmf (by rw [e])
   omega
  show ∃ q,(S.lk++[some 0]).getD m none=some q/\_
  rw [lk',Zo (ZY hm'),dN]
  obtain ⟨r,r1,⟨r2,_⟩,r3,r4,r5⟩:=H.lk h0 hm' (fun z=>nomatch z)
  refine ⟨r,r1,⟨by omega,fun z=>?_⟩,by rw [Wl r2,Wl hm'];exact r3,by rw [Wl r2,Wl hm'];exact r4,fun y hy hl=>?_⟩
  ·have:=Zm z
   omega
  ·rw [Wl hm'] at hy
   rw [Wl r2] at hl
   exact dr (r5 y hy hl)
 ·show gW (w2.getD m []) d=_
  rw [e3 m d]
  show (if d=c/\m < wd.length/\W wd m <:+ W wd h/\gW ((S.wy++[[]]).getD m []) c=none then some S.lg.length else gW ((S.wy++[[]]).getD m []) d)=_
  rcases cJ q with z | ⟨rfl,z1,z2⟩
  ·have hm:=H.lt z
   rw [wyl m hm,H.wy z c,H.wy z d]
   cases e:nd (x++[d]) with
   | some r =>
    rw [dr e,Zo]
    rintro ⟨rfl,_,_,a⟩
    rw [e] at a
    cases a
   | none =>
    by_cases hs:x++[d] <:+ W wd h++[c]
    ·obtain ⟨rfl,hx⟩:=iP hs
     obtain ⟨m',m1,m2⟩:=H.up' hh (fun z=>nomatch z) hx
     rw [z] at m1
     cases m1
     rw [fL e hs,Zp ⟨rfl,hm,m2,e⟩,hL]
    ·have:ib nd (W wd h++[c]) wd.length (x++[d])=none:=by
      unfold ib
      rw [e]
      exact Zo hs
     rw [this,Zo]
     rintro ⟨rfl,_,a,_⟩
     exact hs (gE d ((H.sf z).trans a))
  ·rw [Zo (fun a=>Yl _ a.2.1),wy',Zp rfl]
   have e:nd (x++[d])=none:=by
    cases e:nd (x++[d]) with
    | none=>rfl
    | some r =>
     obtain ⟨r',hr⟩:=H.pre e
     rw [z1] at hr
     cases hr
   have:ib nd (W wd h++[c]) wd.length (x++[d])=none:=by
    unfold ib
    rw [e]
    refine Zo fun hs=>?_
    obtain ⟨_,hx⟩:=iP hs
    obtain ⟨r,hr⟩:=H.suf (H.top hh) hx
    rw [z1] at hr
    cases hr
   rw [this]
   rfl
theorem I.fix {f m:Nat} (H:I (some f) S nd wd) (hf:f < wd.length) (hm:m < wd.length) (hs:W wd m <:+ W wd f) (hl:(W wd m).length < (W wd f).length) (hy:∀ y,y <:+ W wd f->(W wd m).length < y.length->nd y=some f):I none ⟨S.lg,S.lk.set f (some m),S.wy⟩ nd wd:=by
 have f0:f ≠ 0:=fun e=>by
  rw [e,H.wz] at hl
  simp at hl
 have lf:f < S.lk.length:=by rw [H.wf.lk,← H.len];exact hf
 refine ⟨H.wf.link (by rw [← H.len];exact hm),H.len,H.lg,H.z,H.wz,H.lt,H.sf,H.top,H.iv,H.pre,H.suf,?_,fun {n} h0 hn _=>?_,H.wy⟩
 ·show (S.lk.set f (some m)).getD 0 none=none
  rw [gH,Zo (fun z=>f0 z.1)]
  exact H.lk0
 ·show ∃ q,(S.lk.set f (some m)).getD n none=some q/\_
  rw [gH]
  by_cases e:f=n
  ·subst e
   rw [Zp ⟨rfl,lf⟩]
   exact ⟨m,rfl,⟨hm,fun z=>nomatch z⟩,hs,hl,hy⟩
  ·rw [Zo (fun z=>e z.1)]
   obtain ⟨r,r1,⟨r2,_⟩,r3⟩:=H.lk h0 hn (fun z=>e (Zm z).symm)
   exact ⟨r,r1,⟨r2,fun z=>nomatch z⟩,r3⟩
end
end AU
end
section
namespace AU
structure Fine (nd nd':Wd->Option Nat) (w:Wd):Prop where
 eq:∀ {x y m n},nd' x=some m->nd' y=some n->(m=n ↔ nd x=nd y/\(x <:+ w ↔ y <:+ w))
section
variable {fr:Option Nat} {S:St} {nd:Wd->Option Nat} {wd:List Wd}
theorem I.just (H:I fr S nd wd) {n c old:Nat} (hn:n < wd.length) (hf:some n ≠ fr) (hc:97<=c/\c<=122) (ho:gW (S.wy.getD n []) c=some old) (hof:some old ≠ fr) (hfr:fr ≠ some wd.length) (hk:(W wd n).length < 1000) :
  ∃ S' r nd' wd',njb S n c=some (S',r)/\I fr S' nd' wd'/\r < wd'.length/\some r ≠ fr/\W wd' r=W wd n++[c]/\(∀ m,m < wd.length->W wd' m=W wd m)/\wd.length<=wd'.length/\wd'.length<=wd.length+1 ∧
   (∀ x,(∃ m,nd' x=some m) ↔ ∃ m,nd x=some m)/\Fine nd nd' (W wd n++[c])/\∀ x f,f ≠ old->nd x=some f->nd' x=some f:=by
 have hw:=H.way hn ho
 have hold:=H.lt hw
 have hsf:=H.sf hw
 have lw:(W wd n++[c]).length=(W wd n).length+1:=by rw [Zv];rfl
 by_cases hne:S.lg.getD old 0=S.lg.getD n 0+1
 ·have hWo:W wd old=W wd n++[c]:=by
   have:=hne
   rw [H.lg old hold,H.lg n hn] at this
   exact (hsf.eq_of_length (by rw [lw,this])).symm
  refine ⟨S,old,nd,wd,?_,H,hold,hof,hWo,fun m _=>rfl,Zi _,Xp _,fun x=>Iff.rfl,⟨fun {x y m k} h1 h2=>?_⟩,fun x f _ h=>h⟩
  ·unfold njb
   rw [ho,Zx,Zp hne]
  ·constructor
   ·rintro rfl
    exact ⟨by rw [h1,h2],fun h=>by rw [← hWo] at h ⊢;exact H.all hold hof h1 h2 h,fun h=>by rw [← hWo] at h ⊢;exact H.all hold hof h2 h1 h⟩
   ·rintro ⟨h,_⟩
    rw [h1,h2] at h
    exact Zm h
 ·obtain ⟨S',e1,H'⟩:=H.split hn hf hc ho hof hfr hne hk
  have WL:W (wd++[W wd n++[c]]) wd.length=W wd n++[c]:=(bS wd _ _ _).trans (Zp rfl)
  have Wl:∀ m,m < wd.length->W (wd++[W wd n++[c]]) m=W wd m:=fun m hm=>(bS wd _ _ m).trans (Zo (ZY hm))
  have dN:(wd++[W wd n++[c]]).length=wd.length+1:=by rw [Zv];rfl
  have inv:∀ {x m},ip nd old ((W wd n).length+1) wd.length x=some m->(m=wd.length/\nd x=some old/\x.length<=(W wd n).length+1)\/nd x=some m:=fun {x m} h=>by
   unfold ip at h
   split at h
   ·rename_i q;cases h;exact .inl ⟨rfl,q.1,q.2⟩
   ·exact .inr h
  have sfx:∀ {x},nd x=some old->(x.length<=(W wd n).length+1 ↔ x <:+ W wd n++[c]):=fun {x} h=>⟨fun hl=>bX (H.sf h) hsf (by rw [lw];exact hl),fun hs=>by have:=hs.length_le;rw [lw] at this;exact this⟩
  refine ⟨S',S.lg.length,_,_,e1,H',by rw [dN,← H.len];exact Yu _,by rw [← H.len];exact fun z=>hfr z.symm,by rw [← H.len];exact WL,Wl,by omega,by omega,fun x=>⟨fun ⟨m,h⟩=>(inv h).elim (fun z=>⟨_,z.2.1⟩) fun z=>⟨_,z⟩,fun ⟨m,h⟩=>?_⟩,⟨fun {x y m k} h1 h2=>?_⟩,fun x f hfo h=>?_⟩
  ·unfold ip
   split
   ·exact ⟨_,rfl⟩
   ·exact ⟨m,h⟩
  ·constructor
   ·rintro rfl
    have hq:wd.length < (wd++[W wd n++[c]]).length:=by omega
    have a1:=fun h=>H'.all hq (fun z=>hfr z.symm) h1 h2 h
    have a2:=fun h=>H'.all hq (fun z=>hfr z.symm) h2 h1 h
    rw [WL] at a1 a2
    refine ⟨?_,a1,a2⟩
    rcases inv h1 with ⟨z1,z2,_⟩ | z
    ·rcases inv h2 with ⟨_,y2,_⟩ | y
     ·rw [z2,y2]
     ·have:=H.lt y;omega
    ·rcases inv h2 with ⟨y1,_,_⟩ | y
     ·have:=H.lt z;omega
     ·rw [z,y]
   ·rintro ⟨h,hs⟩
    have:ip nd old ((W wd n).length+1) wd.length x=ip nd old ((W wd n).length+1) wd.length y:=by
     unfold ip
     rw [h]
     by_cases q:nd y=some old
     ·have e1:=sfx (show nd x=some old by rw [h,q])
      have e2:=sfx q
      by_cases l:y.length<=(W wd n).length+1
      ·rw [Zp ⟨q,e1.mpr (hs.mpr (e2.mp l))⟩,Zp ⟨q,l⟩]
      ·rw [Zo (fun z=>l (e2.mpr (hs.mp (e1.mp z.2)))),Zo (fun z=>l z.2)]
     ·rw [Zo (fun z=>q z.1),Zo (fun z=>q z.1)]
    rw [h1,h2] at this
    exact Zm this
  ·unfold ip
   rw [Zo (fun z=>hfo (by rw [h] at z;exact Zm z.1))]
   exact h
end
section
variable {S:St} {nd:Wd->Option Nat} {wd:List Wd}
theorem I.step (H:I none S nd wd) {h c:Nat} (hh:h < wd.length) (hc:97<=c/\c<=122) (hk:(W wd h).length+1 < 1000) :
  ∃ S' r nd' wd',hb S h c=some (S',r)/\I none S' nd' wd'/\r < wd'.length/\W wd' r=W wd h++[c]/\(∀ m,m < wd.length->W wd' m=W wd m)/\wd.length<=wd'.length/\wd'.length<=wd.length+2 ∧
   (∀ x,(∃ m,nd' x=some m) ↔ (∃ m,nd x=some m)\/x <:+ W wd h++[c])/\Fine nd nd' (W wd h++[c]):=by
 cases hg:gW (S.wy.getD h []) c with
 | some old =>
  obtain ⟨S',r,nd',wd',e,H',h1,_,h2,h3,h4,h5,h6,h7,_⟩:=H.just hh (fun z=>nomatch z) hc hg (fun z=>nomatch z) (fun z=>nomatch z) (by omega)
  refine ⟨S',r,nd',wd',?_,H',h1,h2,h3,h4,by omega,fun x=>(h6 x).trans ⟨.inl,fun z=>z.elim id fun z=>H.suf (H.way hh hg) z⟩,h7⟩
  unfold hb
  rw [hg]
  exact e
 | none =>
  have hL:S.lg.length=wd.length:=H.len.symm
  obtain ⟨S2,o',e1,H2,k0,k1,k2,k3,k4⟩:=H.fresh hh hc hg (by omega)
  have WL:W (wd++[W wd h++[c]]) wd.length=W wd h++[c]:=(bS wd _ _ _).trans (Zp rfl)
  have Wl:∀ m,m < wd.length->W (wd++[W wd h++[c]]) m=W wd m:=fun m hm=>(bS wd _ _ m).trans (Zo (ZY hm))
  have dN:(wd++[W wd h++[c]]).length=wd.length+1:=by rw [Zv];rfl
  have lw:(W wd h++[c]).length=(W wd h).length+1:=by rw [Zv];rfl
  have nt:nd (W wd h++[c])=none:=by rw [← H.wy (H.top hh) c];exact hg
  have ex:∀ x,(∃ m,ib nd (W wd h++[c]) wd.length x=some m) ↔ (∃ m,nd x=some m)\/x <:+ W wd h++[c]:=fun x=>⟨fun ⟨m,q⟩=>(cJ q).elim (fun z=>.inl ⟨_,z⟩) fun z=>.inr z.2.2,fun q=>by
   cases e:nd x with
   | some m=>exact ⟨m,dr e⟩
   | none=>exact q.elim (fun ⟨m,z⟩=>by rw [e] at z;cases z) fun z=>⟨_,fL e z⟩⟩
  have same:∀ {x y m n},ib nd (W wd h++[c]) wd.length x=some m->ib nd (W wd h++[c]) wd.length y=some n->(m=n ↔ nd x=nd y):=fun {x y m n} q1 q2=>by
   rcases cJ q1 with z | ⟨z1,z2,_⟩
   ·rcases cJ q2 with y' | ⟨y1,y2,_⟩
    ·rw [z,y'];exact ⟨fun e=>by rw [e],fun e=>Zm e⟩
    ·have:=H.lt z
     refine ⟨fun e=>by omega,fun e=>?_⟩
     rw [z,y2] at e;cases e
   ·rcases cJ q2 with y' | ⟨y1,y2,_⟩
    ·have:=H.lt y'
     refine ⟨fun e=>by omega,fun e=>?_⟩
     rw [z2,y'] at e;cases e
    ·exact ⟨fun _=>by rw [z2,y2],fun _=>by rw [z1,y1]⟩
  have tails:∀ {y},y <:+ W wd h++[c]->y ≠ []->∀ {q},nd y=some q->∃ y' m,y=y'++[c]/\y' <:+ W wd h/\nd y'=some m/\m < wd.length/\W wd m <:+ W wd h/\(gW (S.wy.getD m []) c).isSome:=fun {y} hy hne {q} hq=>by
   obtain ⟨y',rfl,hy'⟩:=vC hy hne
   obtain ⟨m,m1,m2⟩:=H.up' hh (fun z=>nomatch z) hy'
   exact ⟨y',m,rfl,hy',m1,H.lt m1,m2,by rw [H.wy m1 c,hq];rfl⟩
  unfold hb
  rw [hg,Zo (by simp),e1]
  cases o' with
  | none =>
   have kn:=k3 rfl
   have none_:∀ {y},y <:+ W wd h++[c]->y ≠ []->nd y=none:=fun {y} hy hne=>by
    cases e:nd y with
    | none=>rfl
    | some q =>
     obtain ⟨y',m,_,_,_,m3,m4,m5⟩:=tails hy hne e
     rw [kn m m3 m4] at m5
     cases m5
   have H3:=H2.fix (f:=wd.length) (m:=0) (by omega) (by omega) (by rw [H2.wz];exact Ya) (by rw [H2.wz,WL,lw];exact Nat.succ_pos _) (fun y hy hl=>by
    rw [WL] at hy
    rw [H2.wz] at hl
    exact fL (none_ hy (fun e=>by rw [e] at hl;cases hl)) hy)
   have eS:(⟨S2.lg,S2.lk.set wd.length (some 0),S2.wy⟩:St)=S2:=by
    have hl:wd.length < S2.lk.length:=by rw [H2.wf.lk,← H2.len,dN];exact Yu _
    have:S2.lk.set wd.length (some 0)=S2.lk:=by
     rw [Zs,Zr hl,Y8] at k0
     rw [← k0]
     exact Xa hl
    rw [this]
   rw [eS] at H3
   refine ⟨S2,S.lg.length,_,_,rfl,H3,by rw [dN,hL];exact Yu _,by rw [hL];exact WL,Wl,by omega,by omega,ex,⟨fun {x y m n} q1 q2=>?_⟩⟩
   rw [same q1 q2]
   refine ⟨fun e=>⟨e,?_⟩,fun e=>e.1⟩
   have key:∀ {x y m n},ib nd (W wd h++[c]) wd.length x=some m->ib nd (W wd h++[c]) wd.length y=some n->nd x=nd y->x <:+ W wd h++[c]->y <:+ W wd h++[c]:=fun {x y m n} q1 q2 e hx=>by
    rcases cJ q2 with z | z
    ·rw [z] at e
     by_cases hx0:x=[]
     ·subst hx0
      rw [H.z] at e
      cases e
      rw [H.zero z]
      exact Ya
     ·rw [none_ hx hx0] at e
      cases e
    ·exact z.2.2
   exact ⟨key q1 q2 e,key q2 q1 e.symm⟩
  | some p =>
   obtain ⟨p1,p2,p3,p4⟩:=k4 p rfl
   obtain ⟨old,ho⟩:=Yr.mp p3
   have ho2:gW (S2.wy.getD p []) c=some old:=by rw [k2 p p1 p3];exact ho
   have ndw:=H.way p1 ho
   have hold:=H.lt ndw
   have ph:(W wd p).length < (W wd h).length:=by
    rcases Nat.lt_or_eq_of_le p2.length_le with l | l
    ·exact l
    ·have:=H.inj p1 hh (p2.eq_of_length l)
     rw [this,hg] at ho
     cases ho
   obtain ⟨S3,r,nd',wd',f1,H3,f2,f2',f3,f4,f5,f6,f7,f8,f9⟩:=H2.just (n:=p) (c:=c) (old:=old) (by omega) (fun z=>by have:=Zm z;omega) hc ho2 (fun z=>by have:=Zm z;omega) (fun z=>by have:=Zm z;omega) (by rw [Wl p p1];omega)
   rw [Wl p p1] at f3 f8
   have lwp:(W wd p++[c]).length=(W wd p).length+1:=by rw [Zv];rfl
   have WL':W wd' wd.length=W wd h++[c]:=by rw [f4 _ (by omega),WL]
   have none_:∀ {y},y <:+ W wd h++[c]->(W wd p).length+1 < y.length->nd y=none:=fun {y} hy hl=>by
    cases e:nd y with
    | none=>rfl
    | some q =>
     obtain ⟨y',m,rfl,m1,m2,m3,m4,m5⟩:=tails hy (fun e=>by rw [e] at hl;cases hl) e
     have l1:=(H.sf m2).length_le
     rw [Zv,ZW] at hl
     rw [p4 m m3 m4 (by omega)] at m5
     cases m5
   have H4:=H3.fix (f:=wd.length) (m:=r) (by omega) f2 (by rw [f3,WL'];exact gE c p2) (by rw [f3,WL',lwp,lw];omega) (fun y hy hl=>by
    rw [WL'] at hy
    rw [f3,lwp] at hl
    exact f9 y wd.length (by omega) (fL (none_ hy hl) hy))
   refine ⟨⟨S3.lg,S3.lk.set S.lg.length (some r),S3.wy⟩,S.lg.length,nd',wd',?_,by rw [hL];exact H4,by rw [hL];omega,by rw [hL];exact WL',fun m hm=>by rw [f4 m (by omega),Wl m hm],by omega,by omega,fun x=>(f7 x).trans (ex x),⟨fun {x y m n} q1 q2=>?_⟩⟩
   ·show (njb S2 p c).map _=_
    rw [f1]
    rfl
   ·rw [f8.eq q1 q2]
    obtain ⟨m1,g1⟩:=(f7 x).mp ⟨m,q1⟩
    obtain ⟨n1,g2⟩:=(f7 y).mp ⟨n,q2⟩
    have e1:ib nd (W wd h++[c]) wd.length x=ib nd (W wd h++[c]) wd.length y ↔ nd x=nd y:=by
     rw [g1,g2]
     exact ⟨fun e=>(same g1 g2).mp (Zm e),fun e=>by rw [(same g1 g2).mpr e]⟩
    rw [e1]
    have sw:W wd p++[c] <:+ W wd h++[c]:=gE c p2
    have kn:∀ {z q},nd z=some q->(z <:+ W wd h++[c] ↔ z <:+ W wd p++[c]):=fun {z q} hz=>⟨fun a=>bX a sw (by
     rw [lwp]
     refine ZL fun b=>?_
     rw [none_ a b] at hz
     cases hz),fun a=>a.trans sw⟩
    have un:∀ {z q},nd z=none->ib nd (W wd h++[c]) wd.length z=some q->z <:+ W wd h++[c]/\¬ z <:+ W wd p++[c]:=fun {z q} hz a=>by
     rcases cJ a with b | b
     ·rw [hz] at b;cases b
     ·refine ⟨b.2.2,fun a=>?_⟩
      obtain ⟨q',hq⟩:=H.suf ndw a
      rw [hz] at hq
      cases hq
    refine ⟨fun ⟨a,b⟩=>⟨a,?_⟩,fun ⟨a,b⟩=>⟨a,?_⟩⟩
    ·cases ez:nd x with
     | some q=>rw [kn ez,kn (show nd y=some q by rw [← a,ez])];exact b
     | none =>
      have u1:=un ez g1
      have u2:=un (show nd y=none by rw [← a,ez]) g2
      exact ⟨fun _=>u2.1,fun _=>u1.1⟩
    ·cases ez:nd x with
     | some q=>rw [← kn ez,← kn (show nd y=some q by rw [← a,ez])];exact b
     | none =>
      have u1:=un ez g1
      have u2:=un (show nd y=none by rw [← a,ez]) g2
      exact ⟨fun z=>absurd z u1.2,fun z=>absurd z u2.2⟩
end
structure K (P:Wd->Prop) (S:St) (nd:Wd->Option Nat) (wd:List Wd):Prop where
 i:I none S nd wd
 nil:P []
 some:∀ x,(∃ m,nd x=some m) ↔ ∃ p,P p/\x <:+ p
 eq:∀ {x y m n},nd x=.some m->nd y=.some n->(m=n ↔ ∀ p,P p->(x <:+ p ↔ y <:+ p))
theorem K.congr {P Q:Wd->Prop} {S:St} {nd:Wd->Option Nat} {wd:List Wd} (H:K P S nd wd) (h:∀ p,P p ↔ Q p):K Q S nd wd:=by
 have:P=Q:=funext fun p=>propext (h p)
 rw [← this]
 exact H
noncomputable def nd0 (x:Wd):Option Nat:=if x=[] then some 0 else none
theorem fF {x:Wd} {n:Nat} (h:nd0 x=some n):x=[]/\n=0:=by
 unfold nd0 at h
 split at h
 ·exact ⟨by assumption,(Zm h).symm⟩
 ·cases h
theorem K0:K (fun p=>p=[]) S0 nd0 [[]]:=by
 refine ⟨⟨AF,rfl,fun n hn=>?_,rfl,rfl,fun {x n} h=>?_,fun {x n} h=>?_,fun {n} hn=>?_,fun {x y n} h h1 h2=>?_,fun {x c n} h=>?_,fun {x y n} h h1=>?_,rfl,fun {n} h1 h2=>?_,fun {x n} h c=>?_⟩,rfl,fun x=>?_,fun {x y m n} h1 h2=>?_⟩
 ·have:n=0:=Nat.lt_one_iff.mp hn
  subst this;rfl
 ·rw [(fF h).2];exact Nat.one_pos
 ·rw [(fF h).1];exact Ya
 ·have:n=0:=Nat.lt_one_iff.mp hn
  subst this;rfl
 ·have e:=(fF h).2
  subst e
  have:y=[]:=Yb.mp h2
  subst this;rfl
 ·have:=(fF h).1
  exact absurd this (by simp)
 ·have e:=(fF h).1
  subst e
  have:x=[]:=Yb.mp h1
  subst this
  exact ⟨0,rfl⟩
 ·have:n < 1:=h2
  omega
 ·have e:=fF h
  obtain ⟨rfl,rfl⟩:=e
  rfl
 ·constructor
  ·rintro ⟨m,h⟩
   exact ⟨[],rfl,by rw [(fF h).1];exact Ya⟩
  ·rintro ⟨p,rfl,h⟩
   have:x=[]:=Yb.mp h
   subst this
   exact ⟨0,rfl⟩
 ·obtain ⟨rfl,rfl⟩:=fF h1
  obtain ⟨rfl,rfl⟩:=fF h2
  exact ⟨fun _ _ _=>Iff.rfl,fun _=>rfl⟩
section
variable {P:Wd->Prop} {S:St} {nd:Wd->Option Nat} {wd:List Wd}
theorem K.step (H:K P S nd wd) {h c:Nat} (hh:h < wd.length) (hc:97<=c/\c<=122) (hk:(W wd h).length+1 < 1000) :
  ∃ S' r nd' wd',hb S h c=.some (S',r)/\K (fun p=>P p\/p=W wd h++[c]) S' nd' wd'/\r < wd'.length/\W wd' r=W wd h++[c]/\(∀ m,m < wd.length->W wd' m=W wd m)/\wd.length<=wd'.length/\wd'.length<=wd.length+2:=by
 obtain ⟨S',r,nd',wd',e,H',h1,h2,h3,h4,h5,h6,h7⟩:=H.i.step hh hc hk
 refine ⟨S',r,nd',wd',e,⟨H',.inl H.nil,fun x=>?_,fun {x y m n} g1 g2=>?_⟩,h1,h2,h3,h4,h5⟩
 ·rw [h6,H.some]
  constructor
  ·rintro (⟨p,a,b⟩ | a)
   ·exact ⟨p,.inl a,b⟩
   ·exact ⟨_,.inr rfl,a⟩
  ·rintro ⟨p,a | rfl,b⟩
   ·exact .inl ⟨p,a,b⟩
   ·exact .inr b
 ·rw [h7.eq g1 g2]
  have un:∀ {z q},nd' z=.some q->nd z=none->z <:+ W wd h++[c]/\∀ p,P p->¬ z <:+ p:=fun {z q} a b=>⟨((h6 z).mp ⟨q,a⟩).elim (fun ⟨m,x⟩=>by rw [b] at x;cases x) id,fun p hp hz=>by
   obtain ⟨m,x⟩:=(H.some z).mpr ⟨p,hp,hz⟩
   rw [b] at x
   cases x⟩
  have old:nd x=nd y ↔ ∀ p,P p->(x <:+ p ↔ y <:+ p):=by
   cases ex:nd x with
   | some a =>
    cases ey:nd y with
    | some b=>exact ⟨fun e=>(H.eq ex ey).mp (Zm e),fun e=>by rw [(H.eq ex ey).mpr e]⟩
    | none =>
     refine ⟨fun e=>(nomatch e),fun e=>?_⟩
     obtain ⟨p,hp,hx⟩:=(H.some x).mp ⟨a,ex⟩
     exact absurd ((e p hp).mp hx) ((un g2 ey).2 p hp)
   | none =>
    cases ey:nd y with
    | some b =>
     refine ⟨fun e=>(nomatch e),fun e=>?_⟩
     obtain ⟨p,hp,hx⟩:=(H.some y).mp ⟨b,ey⟩
     exact absurd ((e p hp).mpr hx) ((un g1 ex).2 p hp)
    | none=>exact ⟨fun _ p hp=>⟨fun z=>absurd z ((un g1 ex).2 p hp),fun z=>absurd z ((un g2 ey).2 p hp)⟩,fun _=>rfl⟩
  rw [old]
  constructor
  ·rintro ⟨a,b⟩ p (hp | rfl)
   ·exact a p hp
   ·exact b
  ·intro a
   exact ⟨fun p hp=>a p (.inl hp),a _ (.inr rfl)⟩
end
theorem K.grow:∀ (w:Ww) {P:Wd->Prop} {S:St} {nd:Wd->Option Nat} {wd:List Wd} (H:K P S nd wd) {h:Nat},h < wd.length->P (W wd h)->(∀ c∈w,97<=c/\c<=122)->(W wd h).length+w.length < 1000 →
  ∃ S' r nd' wd',hg S h w=.some (S',r)/\K (fun p=>P p\/∃ v,v <+: w/\p=W wd h++v) S' nd' wd'/\r < wd'.length/\W wd' r=W wd h++w/\(∀ m,m < wd.length->W wd' m=W wd m)/\wd.length<=wd'.length/\wd'.length<=wd.length+2 * w.length:=by
 intro w
 induction w with
 | nil =>
  intro P S nd wd H h hh hp hw hk
  refine ⟨S,h,nd,wd,rfl,H.congr fun p=>⟨.inl,?_⟩,hh,(ZO _).symm,fun _ _=>rfl,Zi _,Zi _⟩
  rintro (a | ⟨v,a,rfl⟩)
  ·exact a
  ·rw [List.prefix_nil.mp a,ZO]
   exact hp
 | cons c w ih =>
  intro P S nd wd H h hh hp hw hk
  rw [Zl] at hk
  obtain ⟨S1,r1,nd1,wd1,e1,H1,a1,a2,a3,a4,a5⟩:=H.step hh (hw c Zt) (by omega)
  obtain ⟨S2,r2,nd2,wd2,e2,H2,b1,b2,b3,b4,b5⟩:=ih H1 a1 (.inr a2) (fun d hd=>hw d (Zu _ hd)) (by rw [a2,Zv,ZW];omega)
  refine ⟨S2,r2,nd2,wd2,?_,H2.congr fun p=>?_,b1,?_,fun m hm=>by rw [b3 m (by omega),a3 m hm],by omega,by rw [Zl];omega⟩
  ·show (hb S h c).bind _=_
   rw [e1]
   exact e2
  ·rw [a2]
   constructor
   ·rintro ((a | rfl) | ⟨v,a,rfl⟩)
    ·exact .inl a
    ·exact .inr ⟨[c],XY.mpr ⟨rfl,List.nil_prefix⟩,rfl⟩
    ·exact .inr ⟨c :: v,XY.mpr ⟨rfl,a⟩,by rw [ZJ];rfl⟩
   ·rintro (a | ⟨v,a,rfl⟩)
    ·exact .inl (.inl a)
    ·cases v with
     | nil=>rw [ZO];exact .inl (.inl hp)
     | cons d v =>
      obtain ⟨rfl,a'⟩:=XY.mp a
      exact .inr ⟨v,a',by rw [ZJ];rfl⟩
  ·rw [b2,a2,ZJ];rfl
noncomputable def mB (S:St):List Wd->Option St
 | []=>some S
 | t :: b=>(hg S 0 t).bind fun z=>mB z.1 b
theorem K.book:∀ (b:List Wd) {P:Wd->Prop} {S:St} {nd:Wd->Option Nat} {wd:List Wd} (H:K P S nd wd),(∀ t∈b,∀ c∈t,97<=c/\c<=122)->(∀ t∈b,t.length < 1000) →
  ∃ S' nd' wd',mB S b=.some S'/\K (fun p=>P p\/∃ t∈b,p <+: t) S' nd' wd'/\wd.length<=wd'.length/\wd'.length<=wd.length+2 * (b.map List.length).sum:=by
 intro b
 induction b with
 | nil =>
  intro P S nd wd H _ _
  refine ⟨S,nd,wd,rfl,H.congr fun p=>⟨.inl,?_⟩,Zi _,YU _ _⟩
  rintro (a | ⟨t,ht,_⟩)
  ·exact a
  ·cases ht
 | cons t b ih =>
  intro P S nd wd H ha hl
  have hz:0 < wd.length:=H.i.lt H.i.z
  obtain ⟨S1,r1,nd1,wd1,e1,H1,a1,a2,a3,a4,a5⟩:=H.grow t hz (by rw [H.i.wz];exact H.nil) (ha t Zt) (by rw [H.i.wz];have:=hl t Zt;simpa using this)
  obtain ⟨S2,nd2,wd2,e2,H2,b1,b2⟩:=ih H1 (fun t ht=>ha t (Zu _ ht)) (fun t ht=>hl t (Zu _ ht))
  refine ⟨S2,nd2,wd2,?_,H2.congr fun p=>?_,by omega,by rw [Zn,YD];omega⟩
  ·show (hg S 0 t).bind _=_
   rw [e1]
   exact e2
  ·rw [H.i.wz]
   constructor
   ·rintro ((a | ⟨v,a,rfl⟩) | ⟨u,hu,a⟩)
    ·exact .inl a
    ·exact .inr ⟨t,Zt,a⟩
    ·exact .inr ⟨u,Zu _ hu,a⟩
   ·rintro (a | ⟨u,hu,a⟩)
    ·exact .inl (.inl a)
    ·rcases Zj.mp hu with rfl | hu
     ·exact .inl (.inr ⟨p,a,rfl⟩)
     ·exact .inr ⟨u,hu,a⟩
noncomputable def Hd (b:List Wd) (p:Wd):Prop:=p=[]\/∃ t∈b,p <+: t
theorem K.of (b:List Wd) (ha:∀ t∈b,∀ c∈t,97<=c/\c<=122) (hl:∀ t∈b,t.length < 1000):∃ S nd wd,mB S0 b=.some S/\K (Hd b) S nd wd/\wd.length<=1+2 * (b.map List.length).sum:=by
 obtain ⟨S,nd,wd,e,H,_,l⟩:=K0.book b ha hl
 exact ⟨S,nd,wd,e,H,l⟩
noncomputable def sk (w:List (Nat×Nat)):Ww:=(List.range' 97 26).filter fun c=>(gW w c).isSome
noncomputable def visit (w:List (Nat×Nat)):Ww->Ww->Ww
 | [],met=>met
 | c :: r,met=>visit w r (if (gW w c).getD 0∈met then met else met++[(gW w c).getD 0])
noncomputable def bfs (S:St):Nat->Ww->Nat->Option (Ww)
 | k,met,d=>if d < met.length then (match k with
  | 0=>none
  | k+1=>bfs S k (visit (S.wy.getD (met.getD d 0) []) (sk (S.wy.getD (met.getD d 0) [])) met) (d+1)) else some met
noncomputable def steps (S:St) (met:Ww) (n:Nat):List (Nat×Nat):=(sk (S.wy.getD n [])).map fun c=>(c,met.idxOf ((gW (S.wy.getD n []) c).getD 0))
noncomputable abbrev Row:=Nat×Nat×Option Nat×List (Nat×Nat)
noncomputable def row (S:St) (met:Ww) (n:Nat):Row:=match S.lk.getD n none with
 | none=>(0,0,none,steps S met n)
 | some l=>(S.lg.getD l 0+1,S.lg.getD n 0,some (met.idxOf l),steps S met n)
noncomputable def tab (S:St) (met:Ww):List Row:=met.map (row S met)
section
variable {S T:St} {f:Nat->Nat}
theorem mN {w:List (Nat×Nat)} {c:Nat} (h:c∈sk w):∃ m,gW w c=some m:=Yr.mp (YQ.mp h).2
theorem md {w:List (Nat×Nat)} {N:Nat} (hw:∀ c m,gW w c=some m->m < N):∀ (r met:Ww),(∀ c∈r,∃ m,gW w c=some m)->(∀ x∈met,x < N)->∀ x∈visit w r met,x < N
 | [],met,_,hm=>hm
 | c :: r,met,hr,hm=>by
  refine md hw r _ (fun d hd=>hr d (Zu _ hd)) ?_
  obtain ⟨m,e⟩:=hr c Zt
  rw [e,Y8]
  split
  ·exact hm
  ·intro x hx
   rcases Zb.mp hx with h | h
   ·exact hm x h
   ·rw [Za.mp h];exact hw c m e
theorem getD_mem {l:Ww} {d:Nat} (h:d < l.length):l.getD d 0∈l:=by
 rw [Zs,Zr h]
 exact Z6 h
end
theorem ky {w:List (Nat×Nat)}:∀ (r met:Ww),∃ l,visit w r met=met++l
 | [],met=>⟨[],(ZO _).symm⟩
 | c :: r,met=>by
  obtain ⟨l,e⟩:=ky (w:=w) r (if (gW w c).getD 0∈met then met else met++[(gW w c).getD 0])
  show ∃ l,visit w r _=_
  rw [e]
  split
  ·exact ⟨l,rfl⟩
  ·exact ⟨_,ZJ _ _ _⟩
theorem my {w:List (Nat×Nat)}:∀ (r met:Ww),met.Nodup->(visit w r met).Nodup
 | [],met,h=>h
 | c :: r,met,h=>by
  refine my (w:=w) r _ ?_
  split
  ·exact h
  ·rename_i q
   rw [ZU]
   refine ⟨h,by simp,fun a ha b hb e=>q ?_⟩
   rw [Za.mp hb] at e
   rw [← e]
   exact ha
theorem nU {w:List (Nat×Nat)}:∀ (r met:Ww),∀ c∈r,(gW w c).getD 0∈visit w r met
 | d :: r,met,c,hc=>by
  rcases Zj.mp hc with rfl | hc
  ·obtain ⟨l,e⟩:=ky (w:=w) r (if (gW w c).getD 0∈met then met else met++[(gW w c).getD 0])
   show _∈visit w r _
   rw [e]
   refine Yo _ ?_
   split
   ·assumption
   ·exact ZK _ Zt
  ·exact nU r _ c hc
theorem wc {w:List (Nat×Nat)} (az:∀ p∈w,97<=p.1/\p.1<=122) {c m:Nat} (h:gW w c=some m):c∈sk w:=by
 refine YQ.mpr ⟨?_,by rw [h];rfl⟩
 unfold gW at h
 obtain ⟨p,hp,_⟩:=Zy.mp h
 have e:=List.find?_some hp
 have:=az p (List.mem_of_find?_eq_some hp)
 have e':p.1=c:=by simpa using e
 rw [e'] at this
 rw [List.mem_range'_1]
 omega
theorem AZ {S:St} (WS:WF S):∀ (k:Nat) (met:Ww) (d:Nat),met.Nodup->(∀ x∈met,x < S.lg.length)->d<=met.length->S.lg.length<=k+d->(∀ i,i < d->∀ c m,gW (S.wy.getD (met.getD i 0) []) c=some m->m∈met) →
  ∃ l,bfs S k met d=some (met++l)/\(met++l).Nodup/\(∀ x∈met++l,x < S.lg.length)/\∀ n∈met++l,∀ c m,gW (S.wy.getD n []) c=some m->m∈met++l:=by
 intro k
 have fin:∀ (met:Ww) (d:Nat),¬ d < met.length->d<=met.length->(∀ i,i < d->∀ c m,gW (S.wy.getD (met.getD i 0) []) c=some m->m∈met)->∀ n∈met,∀ c m,gW (S.wy.getD n []) c=some m->m∈met:=by
  intro met d h1 h2 h n hn c m e
  obtain ⟨i,hi,q⟩:=List.mem_iff_getElem.mp hn
  refine h i (by omega) c m ?_
  have:met.getD i 0=n:=by rw [Zs,Zr hi,q];rfl
  rw [this]
  exact e
 induction k with
 | zero =>
  intro met d nd lt hd hk h
  have hl:met.length<=S.lg.length:=by
   have:=sub_len met (List.range S.lg.length) nd fun x hx=>YK.mpr (lt x hx)
   rwa [ZG] at this
  have hlt:¬ d < met.length:=by omega
  refine ⟨[],?_,?_⟩
  ·unfold bfs
   rw [Zo hlt,ZO]
  ·rw [ZO]
   exact ⟨nd,lt,fin met d hlt hd h⟩
 | succ k ih =>
  intro met d nd lt hd hk h
  by_cases hlt:d < met.length
  ·obtain ⟨l1,e1⟩:=ky (w:=S.wy.getD (met.getD d 0) []) (sk (S.wy.getD (met.getD d 0) [])) met
   obtain ⟨l,e,h1,h2,h3⟩:=ih (visit (S.wy.getD (met.getD d 0) []) (sk (S.wy.getD (met.getD d 0) [])) met) (d+1) (my _ _ nd) (md (fun c m e=>WS.on _ c m e) _ _ (fun c hc=>mN hc) lt) (by rw [e1,Zv];omega) (by omega) (fun i hi c m e=>by
    have gi:(visit (S.wy.getD (met.getD d 0) []) (sk (S.wy.getD (met.getD d 0) [])) met).getD i 0=met.getD i 0:=by
     rw [e1,Zs,Zs,ZF (by omega)]
    rw [gi] at e
    by_cases q:i=d
    ·subst q
     have:=nU (w:=S.wy.getD (met.getD i 0) []) (sk (S.wy.getD (met.getD i 0) [])) met c (wc (WS.wnd _).2 e)
     rw [e] at this
     exact this
    ·rw [e1]
     exact Yo _ (h i (by omega) c m e))
   rw [e1,ZJ] at h1 h2 h3
   refine ⟨l1++l,?_,h1,h2,h3⟩
   unfold bfs
   rw [Zp hlt]
   show bfs S k _ (d+1)=_
   rw [e,e1,ZJ]
  ·refine ⟨[],?_,?_⟩
   ·unfold bfs
    rw [Zo hlt,ZO]
   ·rw [ZO]
    exact ⟨nd,lt,fin met d hlt hd h⟩
theorem zb {α:Type} {p:List α->Prop} (h0:p []) (h1:∀ l a,p l->p (l++[a])) (l:List α):p l:=by
 have:∀ l:List α,p l.reverse:=by
  intro l
  induction l with
  | nil=>exact h0
  | cons a l ih=>rw [List.reverse_cons];exact h1 _ a ih
 rw [← List.reverse_reverse l]
 exact this _
theorem K.met {P:Wd->Prop} {S:St} {nd:Wd->Option Nat} {wd:List Wd} (H:K P S nd wd) {k:Nat} (hk:wd.length<=k):∃ l,bfs S k [0] 0=Option.some (0 :: l)/\(0 :: l).Nodup/\(∀ x,x∈0 :: l ↔ x < wd.length)/\(0 :: l).length=wd.length:=by
 have L:S.lg.length=wd.length:=H.i.len.symm
 obtain ⟨l,e,h1,h2,h3⟩:=AZ H.i.wf k [0] 0 (by simp) (fun x hx=>by rw [Za.mp hx];exact H.i.wf.pos) (Yp _) (by omega) (fun i hi=>absurd hi (Xy _))
 have h0:∀ (x:Wd) n,nd x=Option.some n->n∈0 :: l:=by
  intro x
  induction x using zb with
  | h0=>intro n e;rw [H.i.z] at e;cases e;exact Zt
  | h1 x c ih =>
   intro n e
   obtain ⟨m,hm⟩:=H.i.pre e
   exact h3 m (ih m hm) c n (by rw [H.i.wy hm];exact e)
 have hx:∀ x,x∈0 :: l ↔ x < wd.length:=fun x=>⟨fun z=>by rw [← L];exact h2 x z,fun z=>h0 _ x (H.i.top z)⟩
 refine ⟨l,e,h1,hx,Nat.le_antisymm ?_ ?_⟩
 ·have:=sub_len (0 :: l) (List.range wd.length) h1 fun x z=>YK.mpr ((hx x).mp z)
  rwa [ZG] at this
 ·have:=sub_len (List.range wd.length) (0 :: l) List.nodup_range fun x z=>(hx x).mpr (YK.mp z)
  rwa [ZG] at this
end AU
end
section
namespace T40
open VS AU
theorem zk (w:List (Nat×Nat)) (c:Nat):c∈w.map (·.1) ↔ (gW w c).isSome=true:=by
 rw [← Bg,Ym,Yk]
 exact ⟨fun ⟨p,h1,h2⟩=>⟨p,h1,by rw [h2];exact beq_self_eq_true c⟩,fun ⟨p,h1,h2⟩=>⟨p,h1,by simpa using h2⟩⟩
theorem sO {w:List (Nat×Nat)} (nd:(w.map (·.1)).Nodup) (az:∀ p∈w,97<=p.1/\p.1<=122):(sk w).Perm (w.map (·.1)):=by
 refine (List.perm_ext_iff_of_nodup ?_ nd).mpr fun c=>?_
 ·exact List.Nodup.sublist List.filter_sublist List.nodup_range'
 ·rw [zk]
  constructor
  ·intro h
   exact (YQ.mp h).2
  ·intro h
   obtain ⟨m,e⟩:=Yr.mp h
   exact wc az e
theorem wQ {m:Md} {w:List (Nat×Nat)} (nd:(w.map (·.1)).Nodup) (az:∀ p∈w,97<=p.1/\p.1<=122):gy [(m,wT' w)]=some (.fr,.lst ((sk w).map fun c=>T.str [c])):=by
 show ((strs? ((w.map fun p=>(T.str [p.1],T.int (p.2:Int))).map (·.1))).bind _)=_
 have e1:(w.map fun p=>(T.str [p.1],T.int (p.2:Int))).map (·.1)=(w.map (·.1)).map fun c=>T.str [c]:=by
  rw [Yy,Yy]
  rfl
 rw [e1,strs_map (fun c=>[c]),Zx,Zp]
 ·have:(sk w).map (fun c=>[c])=d6 ((w.map (·.1)).map fun c=>[c]):=by
   refine og ((sO nd az).map _) ?_
   rw [XB]
   refine List.Pairwise.imp ?_ (List.Pairwise.filter _ (List.pairwise_lt_range' (s:=97) (n:=26)))
   intro a b hab h
   rcases Y6.mp h with h | ⟨_,h⟩
   ·omega
   ·exact absurd h (List.not_lt_nil _)
  rw [← this,Yy]
  rfl
 ·refine ⟨?_,Z8.mpr ?_⟩
  ·rw [Zw,← (sO nd az).length_eq]
   have:(sk w).length<=(List.range' 97 26).length:=XZ _ _
   rw [Xr] at this
   omega
  intro s hs
  obtain ⟨c,hc,rfl⟩:=Yk.mp hs
  obtain ⟨p,hp,rfl⟩:=Yk.mp hc
  have:=az p hp
  show (decide (1<=fg) && (decide (p.1 < 1114112) && true))=true
  rw [decide_eq_true (show p.1 < 1114112 by omega)]
  rfl
noncomputable def nE:Nat->Ww->List (T×T)
 | _,[]=>[]
 | k,n :: r=>(T.int (n:Int),T.int (k:Int)) :: nE (k+1) r
theorem yb:∀ (met:Ww) (k:Nat),(nE k met).length=met.length
 | [],_=>rfl
 | _ :: r,k=>by rw [nE,Zl,Zl,yb r]
theorem oW:∀ (met:Ww) (k:Nat),(nE k met).map (·.1)=met.map fun (n:Nat)=>T.int (n:Int)
 | [],_=>rfl
 | _ :: r,k=>by rw [nE,Zn,Zn,oW r]
theorem vd:∀ (met:Ww) (k n:Nat),nE k (met++[n])=nE k met++[(T.int (n:Int),T.int ((k+met.length:Nat):Int))]
 | [],k,n=>rfl
 | m :: r,k,n=>by
  rw [Xh,nE,nE,vd r (k+1) n,Zl,Xh]
  rw [show k+1+r.length=k+(r.length+1) by omega]
theorem D5 (a b:Nat):eqT (.int (a:Int)) (.int (b:Int))=(a == b):=by
 simp only [eqT]
 by_cases h:a=b
 ·simp [h]
 ·have h1:¬ (a:Int)=(b:Int):=by omega
  rw [ZM.mpr h,ZM.mpr h1]
theorem oU:∀ (met:Ww) (k n:Nat),eU (nE k met) (.int (n:Int))=if n∈met then some (T.int ((k+met.idxOf n:Nat):Int)) else none
 | [],_,_=>rfl
 | m :: r,k,n=>by
  show ((((T.int (m:Int),T.int (k:Int)) :: nE (k+1) r).find? fun p=>eqT p.1 (.int (n:Int))).map (·.2))=_
  rw [Z3]
  simp only [D5]
  by_cases h:m=n
  ·subst h
   simp [List.idxOf_cons]
  ·have hb:(m == n)=false:=ZM.mpr h
   have ih:=oU r (k+1) n
   unfold eU at ih
   simp only [hb]
   rw [ih,List.idxOf_cons,hb]
   by_cases q:n∈r
   ·rw [Zp q,Zp (Zu _ q)]
    show some (T.int ((k+1+r.idxOf n:Nat):Int))=some (T.int ((k+(r.idxOf n+1):Nat):Int))
    rw [show k+1+r.idxOf n=k+(r.idxOf n+1) by omega]
   ·rw [Zo q,Zo (fun z=>(Zj.mp z).elim (fun e=>h e.symm) q)]
theorem BM (met:Ww) (n:Nat) (h:n ∉ met):dput (nE 0 met) (.int (n:Int)) (.int (met.length:Int))=nE 0 (met++[n]):=by
 unfold dput
 rw [Zo,vd]
 ·rw [XG]
 ·intro z
  obtain ⟨p,hp,e⟩:=Ym.mp z
  have:(eU (nE 0 met) (.int (n:Int))).isSome=true:=by
   unfold eU
   rw [Yj,List.find?_isSome]
   exact ⟨p,hp,e⟩
  rw [oU,Zo h] at this
  cases this
noncomputable def nT (met:Ww):T:=.dct 0 (nE 0 met)
noncomputable def mT (met:Ww):T:=.lst (met.map fun (n:Nat)=>T.int (n:Int))
theorem AI {η:Env} {m k:Md} {met:Ww} {n:Nat} {a e:Ex} (h:a η=some (m,nT met)) (he:e η=some (k,.int (n:Int))):e2 du e a η=some (.fr,.bl (decide (n ∉ met))):=e2v he h (by
 show (match (if true=true then some (Md.fr,T.bl (eU (nE 0 met) (.int (n:Int))).isSome) else none) with | some (_,.bl b)=>some (Md.fr,T.bl (!b)) | _=>none)=_
 rw [Zp rfl,oU]
 by_cases q:n∈met
 ·rw [Zp q,ZZ (fun z=>z q)];rfl
 ·rw [Zo q,decide_eq_true q];rfl)
section
variable {S:St} {w:List (Nat×Nat)}
theorem xf {d:Nat} {ob:Wt}:∀ (r met:Ww) (z:Wt),(∀ c∈r,∃ m,gW w c=some m)->met.length+r.length < 16777216->∃ z',forL (bH 5) ba (r.map fun c=>T.str [c]) [ob,oc (nT met),oc (mT met),Q0 (d:Int),pc (wT' w),z]=some (.nx [ob,oc (nT (visit w r met)),oc (mT (visit w r met)),Q0 (d:Int),pc (wT' w),z'])
 | [],met,z,_,_=>⟨z,rfl⟩
 | c :: r,met,z,hr,hl=>by
  obtain ⟨m,e⟩:=hr c Zt
  rw [Zl] at hl
  have hlen:(nE 0 met).length=met.length:=yb met 0
  by_cases q:m∈met
  ·obtain ⟨z',ih⟩:=xf r met (Q1 ([c])) (fun d hd=>hr d (Zu _ hd)) (by omega)
   refine ⟨z',?_⟩
   have ev:visit w (c :: r) met=visit w r met:=by
    show visit w r (if (gW w c).getD 0∈met then met else met++[(gW w c).getD 0])=_
    rw [e,Y8,Zp q]
   rw [ev,Zn]
   refine (gv (η1:=[ob,oc (nT met),oc (mT met),Q0 (d:Int),pc (wT' w),Q1 ([c])]) rfl ?_).trans ih
   unfold ba
   refine (g9 (m:=.fr) ?_).trans rfl
   refine (AI (m:=.bo) (k:=.fr) (met:=met) (n:=m) rfl (uV (m:=.pu) (n:=.fr) (c:=c) (w:=w) rfl rfl e)).trans ?_
   rw [ZZ (fun z=>z q)]
  ·obtain ⟨z',ih⟩:=xf r (met++[m]) (Q1 ([c])) (fun d hd=>hr d (Zu _ hd)) (by rw [Zv,ZW];omega)
   refine ⟨z',?_⟩
   have ev:visit w (c :: r) met=visit w r (met++[m]):=by
    show visit w r (if (gW w c).getD 0∈met then met else met++[(gW w c).getD 0])=_
    rw [e,Y8,Zo q]
   rw [ev,Zn]
   refine (gv (η1:=[ob,oc (nT met),oc (mT met),Q0 (d:Int),pc (wT' w),Q1 ([c])]) rfl ?_).trans ih
   unfold ba
   refine (lB (m:=.fr) ?_).trans ?_
   ·refine (AI (m:=.bo) (k:=.fr) (met:=met) (n:=m) rfl (uV (m:=.pu) (n:=.fr) (c:=c) (w:=w) rfl rfl e)).trans ?_
    rw [decide_eq_true q]
   ·have ix1:∀ nn mm:Wt,e2 oIx (aa 4) (aa 5) [ob,nn,mm,Q0 (d:Int),pc (wT' w),Q1 ([c])]=some (.fr,.int (m:Int)):=fun nn mm=>uV (m:=.pu) (n:=.fr) (c:=c) (w:=w) rfl rfl e
    have p1:qO 1 (e2 oIx (aa 4) (aa 5)) (eN cA (ab (aa 2) aj)) [ob,oc (nT met),oc (mT met),Q0 (d:Int),pc (wT' w),Q1 ([c])]=some (.nx [ob,oc (nT (met++[m])),oc (mT met),Q0 (d:Int),pc (wT' w),Q1 ([c])]):=by
     have l1:eN cA (ab (aa 2) aj) [ob,oc (nT met),oc (mT met),Q0 (d:Int),pc (wT' w),Q1 ([c])]=some (.fr,.int (met.length:Int)):=js (xv (x:=(.bo,mT met)) rfl rfl) (by
      show some (Md.fr,T.int (((met.map fun (n:Nat)=>T.int (n:Int)).length:Nat):Int))=_
      rw [Zw])
     unfold qO
     rw [l1,Zx]
     show ((e2 oIx (aa 4) (aa 5) [ob,oc (nT met),oc (mT met),Q0 (d:Int),pc (wT' w),Q1 ([c])]).bind _)=_
     rw [ix1,Zx]
     show (if true=true/\true=true/\(nE 0 met).length < fg then some (Out.nx [ob,oc (.dct 0 (dput (nE 0 met) (.int (m:Int)) (.int (met.length:Int)))),oc (mT met),Q0 (d:Int),pc (wT' w),Q1 ([c])]) else none)=_
     rw [Zp ⟨rfl,rfl,by rw [hlen];show met.length < 16777216;omega⟩,BM met m q]
     rfl
    refine (ag p1).trans ?_
    refine (kB (i:=2) (l:=met.map fun (n:Nat)=>T.int (n:Int)) (v:=.int (m:Int)) rfl (ix1 _ _) (by rw [Zw];omega)).trans ?_
    rw [show (met.map fun (n:Nat)=>T.int (n:Int))++[.int (m:Int)]=(met++[m]).map fun (n:Nat)=>T.int (n:Int) from by rw [ZA];rfl]
    rfl
end
theorem rN (w:List (Nat×Nat)):(sk w).length<=26:=by
 refine ZI (XZ _ _) ?_
 rw [Xr]
 exact Zi _
theorem zY {S:St} {met:Ww} (nd:met.Nodup) (lt:∀ x∈met,x < S.lg.length):met.length<=S.lg.length:=by
 have:=sub_len met (List.range S.lg.length) nd fun x hx=>YK.mpr (lt x hx)
 rwa [ZG] at this
theorem Dx {S:St} (WS:WF S) (hs:S.lg.length<=100001):∀ (k:Nat) (met:Ww) (d:Nat) (M:Ww),met.Nodup->(∀ x∈met,x < S.lg.length)->bfs S k met d=some M->∀ N,k < N->∀ z4 z5:Wt,∃ d' z4' z5',
  c9 (e2 oLt (aa 3) (eN cA (ab (aa 2) aj))) bQ N [pc (obT S false),oc (nT met),oc (mT met),Q0 ((d:Nat):Int),z4,z5] =
   some (.nx [pc (obT S false),oc (nT M),oc (mT M),pc d',z4',z5']):=by
 have cond:∀ (met:Ww) (d:Nat) (z4 z5:Wt),e2 oLt (aa 3) (eN cA (ab (aa 2) aj)) [pc (obT S false),oc (nT met),oc (mT met),Q0 ((d:Nat):Int),z4,z5]=some (.fr,.bl (decide (d < met.length))):=fun met d z4 z5 =>
  e2v (x:=(.fr,.int (d:Int))) rfl (js (v:=(.fr,.int (met.length:Int))) (xv (x:=(.bo,mT met)) rfl rfl) (by
   show some (Md.fr,T.int (((met.map fun (n:Nat)=>T.int (n:Int)).length:Nat):Int))=_
   rw [Zw])) (by
   show some (Md.fr,T.bl (decide ((d:Int) < (met.length:Int))))=_
   rw [show decide ((d:Int) < (met.length:Int))=decide (d < met.length) from decide_eq_decide.mpr (by omega)])
 intro k
 induction k with
 | zero =>
  intro met d M nd lt e N hN z4 z5
  obtain ⟨N,rfl⟩:∃ M,N=M+1:=⟨N - 1,by omega⟩
  unfold bfs at e
  split at e
  ·cases e
  ·rename_i h
   cases e
   exact ⟨_,z4,z5,dY (m:=.fr) ((cond _ _ _ _).trans (by rw [ZZ h]))⟩
 | succ k ih =>
  intro met d M nd lt e N hN z4 z5
  obtain ⟨N,rfl⟩:∃ M,N=M+1:=⟨N - 1,by omega⟩
  unfold bfs at e
  split at e
  ·rename_i h
   have hn:=lt _ (getD_mem h)
   have hnw:met.getD d 0 < S.wy.length:=by rw [WS.wy];exact hn
   have ml:=zY nd lt
   have sl:=rN (S.wy.getD (met.getD d 0) [])
   obtain ⟨z',l1⟩:=xf (w:=S.wy.getD (met.getD d 0) []) (d:=d) (ob:=pc (obT S false)) (sk (S.wy.getD (met.getD d 0) [])) met z5 (fun c hc=>mN hc) (by omega)
   obtain ⟨d',y4,y5,q⟩:=ih _ (d+1) M (my _ _ nd) (md (fun c m e=>WS.on _ c m e) _ _ (fun c hc=>mN hc) lt) e N (by omega) (pc (wT' (S.wy.getD (met.getD d 0) []))) z'
   refine ⟨d',y4,y5,(j0 (m:=.fr) ((cond _ _ _ _).trans (by rw [decide_eq_true h])) ?_).trans q⟩
   unfold bQ
   have ix:e2 aB (aa 2) (aa 3) [pc (obT S false),oc (nT met),oc (mT met),Q0 ((d:Nat):Int),z4,z5]=some (.fr,.int ((met.getD d 0:Nat):Int)):=e2v (x:=(.bo,mT met)) (y:=(.fr,.int (d:Int))) rfl rfl (lq _ met d 0 h)
   have s1:aL 4 (e2 aB (aU 3 (aa 0)) (e2 aB (aa 2) (aa 3))) [pc (obT S false),oc (nT met),oc (mT met),Q0 ((d:Nat):Int),z4,z5]=some (.nx [pc (obT S false),oc (nT met),oc (mT met),Q0 ((d:Nat):Int),pc (wT' (S.wy.getD (met.getD d 0) [])),z5]) :=
    aR (m:=.pu) (ng (S:=S) (b:=false) (m:=.pu) (n:=.fr) rfl ix hnw) (by decide) (by decide:4 < 6)
   refine (ag s1).trans ?_
   have nw:=WS.wnd (met.getD d 0)
   refine (ag ((dP (m:=.fr) (l:=(sk (S.wy.getD (met.getD d 0) [])).map fun c=>T.str [c]) ?_ rfl).trans l1)).trans ?_
   ·show (eN gy (ab (aa 4) aj) _).bind Cr=_
    rw [js (xv (x:=(.pu,wT' (S.wy.getD (met.getD d 0) []))) rfl rfl) (wQ nw.1 nw.2)]
    rfl
   ·exact aR (m:=.fr) (t:=.int (((d+1:Nat)):Int)) rfl (by decide) (by decide:3 < 6)
  ·rename_i h
   cases e
   exact ⟨_,z4,z5,dY (m:=.fr) ((cond _ _ _ _).trans (by rw [ZZ h]))⟩
theorem Bh {S:St} (WS:WF S) (hs:S.lg.length<=100001) {M:Ww} {k:Nat} (hk:k < 1000000) (e:bfs S k [0] 0=some M):aC [obT S false]=some (.fr,nT M):=by
 obtain ⟨d',z4,z5,q⟩:=Dx WS hs k [0] 0 M (by simp) (fun x hx=>by rw [Za.mp hx];exact WS.pos) e rQ (by show k < 1000000;exact hk) none none
 refine fK (η:=[pc (obT S false),none,pc (mT M),pc d',z4,z5]) rfl ?_
 exact (ag rfl).trans ((ag rfl).trans ((ag rfl).trans ((ag q).trans ((ag rfl).trans rfl))))
noncomputable def stT (l:List (Nat×Nat)):T:=.tup (l.map fun p=>T.tup [.str [p.1],.int (p.2:Int)])
noncomputable def jF (r:Row):T:=.tup [.int (r.1:Int),.int (r.2.1:Int),lkT r.2.2.1,stT r.2.2.2]
theorem tP:∀ l:List (Nat×Nat),dW (l.map fun p=>T.tup [.str [p.1],.int (p.2:Int)])=true
 | []=>rfl
 | p :: l=>by
  rw [Zn]
  show (true && dW _)=true
  rw [tP l]
  rfl
theorem o9 (l:List (Nat×Nat)):imm (stT l)=true:=tP l
theorem sE (r:Row):imm (jF r)=true:=by
 show (true && (true && (imm (lkT r.2.2.1) && (imm (stT r.2.2.2) && true))))=true
 rw [kT,o9]
 rfl
theorem CK {a b c d:Ex} {η:Env} {x y z w:T} (h1:a η=some (.fr,x)) (h2:b η=some (.fr,y)) (h3:c η=some (.fr,z)) (h4:d η=some (.fr,w)):lW (ab a (ab b (ab c (ab d aj)))) η=some (.fr,.tup [x,y,z,w]):=by
 show (ab a (ab b (ab c (ab d aj))) η).bind qV=_
 rw [xv h1 (xv h2 (xv h3 (xv (r:=aj) h4 rfl))),Zx]
 show some (up .fr _)=_
 unfold up
 split <;> rfl
theorem Cj {S:St} (WS:WF S) {met:Ww} (all:∀ x,x < S.lg.length->x∈met) {n:Nat} (hn:n < S.lg.length):bO [obT S false,.int (n:Int),.dct 3 (nE 0 met)]=some (.fr,jF (row S met n)):=by
 have hw:n < S.wy.length:=by rw [WS.wy];exact hn
 have hk:n < S.lk.length:=by rw [WS.lk];exact hn
 have nw:=WS.wnd n
 have get:∀ v,v < S.lg.length->eU (nE 0 met) (.int (v:Int))=some (T.int ((met.idxOf v:Nat):Int)):=fun v hv=>by rw [oU,Zp (all v hv),XG]
 have s1:aL 3 (e2 aB (aU 2 (aa 0)) (aa 1)) [pc (obT S false),Q0 (n:Int),pc (.dct 3 (nE 0 met)),none,none,none]=some (.nx [pc (obT S false),Q0 (n:Int),pc (.dct 3 (nE 0 met)),pc (lkT (S.lk.getD n none)),none,none]):=aR (m:=.fr) (tU (S:=S) (b:=false) (m:=.pu) (n:=.fr) rfl rfl hk) (by decide) (by decide:3 < 6)
 have s2:aL 4 (e2 aB (aU 3 (aa 0)) (aa 1)) [pc (obT S false),Q0 (n:Int),pc (.dct 3 (nE 0 met)),pc (lkT (S.lk.getD n none)),none,none]=some (.nx [pc (obT S false),Q0 (n:Int),pc (.dct 3 (nE 0 met)),pc (lkT (S.lk.getD n none)),pc (wT' (S.wy.getD n [])),none]):=aR (m:=.pu) (ng (S:=S) (b:=false) (m:=.pu) (n:=.fr) rfl rfl hw) (by decide) (by decide:4 < 6)
 have c5:eN j6 (ab (fe 1 (bH 0) (iq (eN gy (ab (aa 4) aj))) none (lW (ab (aa 0) (ab (e2 pq (aa 3) (e2 oIx (aa 5) (aa 0))) aj)))) aj) [pc (obT S false),Q0 (n:Int),pc (.dct 3 (nE 0 met)),pc (lkT (S.lk.getD n none)),pc (wT' (S.wy.getD n [])),none]=some (.fr,stT (steps S met n)):=by
  have c1:=i6 (k:=1) (tg:=bH 0) (it:=iq (eN gy (ab (aa 4) aj))) (elt:=lW (ab (aa 0) (ab (e2 pq (aa 3) (e2 oIx (aa 5) (aa 0))) aj))) (m:=.fr) (η:=[pc (obT S false),Q0 (n:Int),pc (.dct 3 (nE 0 met)),pc (lkT (S.lk.getD n none)),pc (wT' (S.wy.getD n [])),none]) (fun c=>T.str [c]) (fun c=>T.tup [.str [c],.int ((met.idxOf ((gW (S.wy.getD n []) c).getD 0):Nat):Int)]) (sk (S.wy.getD n [])) (by
   show (eN gy (ab (aa 4) aj) _).bind Cr=_
   rw [js (xv (x:=(.pu,wT' (S.wy.getD n []))) rfl rfl) (wQ nw.1 nw.2)]
   rfl) rfl (ZI (rN _) (by decide)) (fun c hc=>by
   obtain ⟨v,ev⟩:=mN hc
   refine ⟨[Q1 ([c]),pc (obT S false),Q0 (n:Int),pc (.dct 3 (nE 0 met)),pc (lkT (S.lk.getD n none)),pc (wT' (S.wy.getD n [])),none],rfl,?_⟩
   have i1:e2 pq (aa 3) (e2 oIx (aa 5) (aa 0)) [Q1 ([c]),pc (obT S false),Q0 (n:Int),pc (.dct 3 (nE 0 met)),pc (lkT (S.lk.getD n none)),pc (wT' (S.wy.getD n [])),none]=some (.fr,.int ((met.idxOf v:Nat):Int)) :=
    e2v (x:=(.pu,.dct 3 (nE 0 met))) rfl (uV (m:=.pu) (n:=.fr) (c:=c) (w:=S.wy.getD n []) rfl rfl ev) (by
     show (if true=true then (eU (nE 0 met) (.int (v:Int))).map (sub .pu) else none)=_
     rw [Zp rfl,get v (WS.on n c v ev)]
     rfl)
   rw [ev,Y8]
   show (ab (aa 0) (ab (e2 pq (aa 3) (e2 oIx (aa 5) (aa 0))) aj) _).bind qV=_
   rw [xv (x:=(.fr,.str [c])) rfl (xv (r:=aj) i1 rfl)]
   rfl)
  refine js (xv (r:=aj) c1 rfl) ?_
  show (if _<=fg then some (up .fr (.tup _)) else none)=_
  rw [Zp (by rw [Zw];exact ZI (rN _) (by decide))]
  have:T.tup ((sk (S.wy.getD n [])).map fun c=>T.tup [.str [c],.int ((met.idxOf ((gW (S.wy.getD n []) c).getD 0):Nat):Int)])=stT (steps S met n):=by
   unfold stT steps
   rw [Yy]
   rfl
  rw [this]
  unfold up
  rw [o9]
  rfl
 have s3:=aR (i:=5) c5 (by decide) (by decide:5 < 6)
 have v5:∀ η:Env,η[5]?=some (pc (stT (steps S met n)))->aa 5 η=some (.fr,stT (steps S met n)):=fun η h=>by
  show (match η[5]? with | some (some (.pu t))=>some (up .pu t) | some (some (.ow t))=>some (.bo,t) | _=>none)=_
  rw [h]
  show some (up .pu _)=_
  unfold up
  rw [o9]
  rfl
 unfold row
 cases el:S.lk.getD n none with
 | none =>
  rw [el] at s1 s2 s3
  refine fK (v:=(.fr,jF (0,0,none,steps S met n))) (η:=[pc (obT S false),Q0 (n:Int),pc (.dct 3 (nE 0 met)),pc (lkT none),pc (wT' (S.wy.getD n [])),pc (stT (steps S met n))]) rfl ?_
  refine (ag s1).trans ((ag s2).trans ((ag s3).trans (kc ((lB (m:=.fr) rfl).trans (fY (CK rfl rfl rfl (v5 _ rfl)))))))
 | some l =>
  rw [el] at s1 s2 s3
  have hl:=WS.up n l el
  refine fK (v:=(.fr,jF (S.lg.getD l 0+1,S.lg.getD n 0,some (met.idxOf l),steps S met n))) (η:=[pc (obT S false),Q0 (n:Int),pc (.dct 3 (nE 0 met)),pc (lkT (some l)),pc (wT' (S.wy.getD n [])),pc (stT (steps S met n))]) rfl ?_
  refine (ag s1).trans ((ag s2).trans ((ag s3).trans ((ag ((g9 (m:=.fr) rfl).trans rfl)).trans (fY (CK ?_ ?_ ?_ (v5 _ rfl))))))
  ·exact e2v (qm (S:=S) (b:=false) (m:=.pu) (n:=.fr) (i:=l) rfl rfl hl) rfl rfl
  ·exact qm (S:=S) (b:=false) (m:=.pu) (n:=.fr) (i:=n) rfl rfl hn
  ·exact e2v (x:=(.pu,.dct 3 (nE 0 met))) (y:=(.fr,.int (l:Int))) rfl rfl (by
    show (if true=true then (eU (nE 0 met) (.int (l:Int))).map (sub .pu) else none)=_
    rw [Zp rfl,get l hl]
    rfl)
noncomputable def tbT (t:List Row):T:=.lst (t.map jF)
theorem Bu {S:St} (WS:WF S) (hs:S.lg.length<=100001) {M:Ww} {k:Nat} (hk:k < 1000000) (e:bfs S k [0] 0=some M) (all:∀ x,x∈M ↔ x < S.lg.length) (hl:M.length<=16777216):dn [obT S false]=some (.fr,tbT (tab S M)):=by
 have n1:=Bh WS hs hk e
 refine fK (η:=[pc (obT S false),none]) rfl ?_
 have s1:ja 1 (eY 0 aC (aa 0) aj) [pc (obT S false),none]=some (.nx [pc (obT S false),oc (nT M)]):=by
  show (eY 0 aC (aa 0) aj [pc (obT S false),none]).bind _=_
  have:eY 0 aC (aa 0) aj [pc (obT S false),none]=some (.fr,nT M):=by
   show ((aC [obT S false]).bind _)=_
   rw [n1]
   rfl
  rw [this]
  rfl
 refine (ag s1).trans ?_
 have c1:=i6 (k:=1) (tg:=bH 0) (it:=qc 1) (elt:=eY 0 bO (aa 1) (ab (aa 0) (ab (aa 2) aj))) (m:=.fr) (η:=[pc (obT S false),pc (.dct 3 (nE 0 M))]) (fun (n:Nat)=>T.int (n:Int)) (fun n=>jF (row S M n)) M (by
  show (if ((nE 0 M).all fun p=>isInt p.1)=true then some (Md.fr,(nE 0 M).map (·.1)) else none)=_
  rw [Zp,oW]
  rw [Z8]
  intro p hp
  have:p.1∈(nE 0 M).map (·.1):=List.mem_map_of_mem hp
  rw [oW] at this
  obtain ⟨n,_,e⟩:=Yk.mp this
  rw [← e]
  rfl) rfl hl (fun n hn=>by
  refine ⟨[Q0 (n:Int),pc (obT S false),pc (.dct 3 (nE 0 M))],rfl,?_⟩
  show ((bO [obT S false,.int (n:Int),.dct 3 (nE 0 M)]).bind _)=_
  rw [Cj WS (fun x hx=>(all x).mpr hx) ((all n).mp hn)]
  rfl)
 show ((fe 1 (bH 0) (qc 1) none (eY 0 bO (aa 1) (ab (aa 0) (ab (aa 2) aj))) [pc (obT S false),pc (.dct 3 (nE 0 M))]).bind _)=_
 rw [c1]
 unfold tbT tab
 rw [Yy]
 rfl
noncomputable def fsM (tx:List Tx) (hd:Ww) (S:St):qu:=[(4,.lst (tx.map .str)),(5,.lst (hd.map fun (n:Nat)=>T.int (n:Int))),(6,obT S false)]
noncomputable def maT (tx:List Tx) (hd:Ww) (S:St) (b:Bool):T:=.obj 2 ((0,.bl b) :: fsM tx hd S)
theorem zZ (S:St):dG (obT S false)=true:=by
 show ((true && !(0 == 0 && false)) && dE (fsT S))=true
 rw [km]
 rfl
theorem jU (tx:List Tx) (hd:Ww) (S:St):dE (fsM tx hd S)=true:=by
 have h1:dG (.lst (tx.map T.str))=true:=dC _ (fun _=>rfl) _
 have h2:dG (.lst (hd.map fun (n:Nat)=>T.int (n:Int)))=true:=dC _ (fun _=>rfl) _
 show ((dG _ && !(4 == 0 && isT _)) && ((dG _ && !(5 == 0 && isT _)) && ((dG _ && !(6 == 0 && isT _)) && true)))=true
 rw [h1,h2,zZ]
 rfl
theorem zy (tx:List Tx) (hd:Ww) (S:St) (b:Bool):oP 4 (maT tx hd S b)=some (.lst (tx.map .str)):=rfl
theorem En (tx:List Tx) (hd:Ww) (S:St) (b:Bool):oP 5 (maT tx hd S b)=some (.lst (hd.map fun (n:Nat)=>T.int (n:Int))):=rfl
theorem Er (tx:List Tx) (hd:Ww) (S:St) (b:Bool):oP 6 (maT tx hd S b)=some (obT S false):=rfl
section
variable {tx:List Tx} {hd:Ww} {S S':St} {b:Bool} {r:List (Wt)}
theorem vM {a:Ex} {η:Env} {m:Md} (h:a η=some (m,maT tx hd S b)):eN cA (ab (aU 4 a) aj) η=some (.fr,.int (tx.length:Nat)):=js (xv (gC h (zy tx hd S b)) rfl) (by
 show some (Md.fr,T.int (((tx.map T.str).length:Nat):Int))=_
 rw [Zw])
theorem Ck {e:Ex} {v:Tx} (h:e (oc (maT tx hd S b) :: r)=some (.fr,.str v)) (hl:tx.length < 16777216):sX (ig 0 [.fld 4] aA (ab e aj)) (oc (maT tx hd S b) :: r)=some (.nx (oc (maT (tx++[v]) hd S b) :: r)):=by
 show (((some [Ky.fld 4]).bind fun ks=>(ab e aj (oc (maT tx hd S b) :: r)).bind fun xs=>(pm (fun x=>aA x xs) ks (maT tx hd S b)).map _).map _)=_
 rw [Zx,xv (r:=aj) h rfl,Zx]
 show (((aA (.lst (tx.map T.str)) [(.fr,.str v)]).map _).map _ |>.map _)=_
 rw [eI (by rw [Zw];exact hl),show (tx.map T.str)++[.str v]=(tx++[v]).map T.str from by rw [ZA];rfl]
 rfl
theorem B5 {e:Ex} {v:Nat} (h:e (oc (maT tx hd S b) :: r)=some (.fr,.int (v:Int))) (hl:hd.length < 16777216):sX (ig 0 [.fld 5] aA (ab e aj)) (oc (maT tx hd S b) :: r)=some (.nx (oc (maT tx (hd++[v]) S b) :: r)):=by
 show (((some [Ky.fld 5]).bind fun ks=>(ab e aj (oc (maT tx hd S b) :: r)).bind fun xs=>(pm (fun x=>aA x xs) ks (maT tx hd S b)).map _).map _)=_
 rw [Zx,xv (r:=aj) h rfl,Zx]
 show (((aA (.lst (hd.map fun (n:Nat)=>T.int (n:Int))) [(.fr,.int (v:Int))]).map _).map _ |>.map _)=_
 rw [eI (by rw [Zw];exact hl),show (hd.map fun (n:Nat)=>T.int (n:Int))++[.int (v:Int)]=(hd++[v]).map fun (n:Nat)=>T.int (n:Int) from by rw [ZA];rfl]
 rfl
theorem vJ (hl:tx.length < 8) (hh:hd.length=tx.length):bg (fsM tx hd S) []=some (fsM (tx++[[]]) (hd++[0]) S,.int (tx.length:Int)):=by
 unfold bg mfn
 rw [Zp ⟨rfl,rfl⟩]
 have c1:e2 oGe (eN cA (ab (aU 4 (aa 0)) aj)) (Q2 8) [oc (maT tx hd S true)]=some (.fr,.bl false):=e2v (vM (m:=.bo) rfl) rfl (by
  show some (Md.fr,T.bl (decide ((8:Int)<=(tx.length:Int))))=_
  rw [ZZ (by omega)])
 have a1:=Ck (tx:=tx) (hd:=hd) (S:=S) (b:=true) (r:=[]) (e:=eC (.str [])) (v:=[]) rfl (by omega)
 have a2:=B5 (tx:=tx++[[]]) (hd:=hd) (S:=S) (b:=true) (r:=[]) (e:=Q2 0) (v:=0) rfl (by omega)
 have a4:=fY (e:=e2 nh (eN cA (ab (aU 4 (aa 0)) aj)) (Q2 1)) (η:=[oc (maT (tx++[[]]) (hd++[0]) S true)]) (t:=.int (tx.length:Int)) (e2v (vM (m:=.bo) rfl) rfl (by
  show some (Md.fr,T.int ((((tx++[[]]).length:Nat):Int) - 1))=_
  rw [Zv,ZW,show (((tx.length+1:Nat)):Int) - 1=(tx.length:Int) by omega]))
 exact congrArg (fun z:Option Out=>z.bind _) ((ag ((g9 c1).trans rfl)).trans ((ag a1).trans ((ag a2).trans a4)))
theorem As {l:Wq} {i:Nat} (hi:i < l.length):aX [.lst l,.int (i:Int)]=some (.fr,.non):=by
 refine C3 (η:=[pc (.lst l),Q0 (i:Int)]) rfl ?_
 refine (g9 (m:=.fr) (Ak (m:=.fr) (x:=false) ?_ (fun _=>?_) (fun h=>by cases h))).trans rfl
 ·exact rq (m:=.fr) (b:=true) rfl
 ·refine rq (m:=.fr) (b:=true) (pb (x:=(.fr,.int 0)) (y:=(.fr,.int (i:Int))) (z:=(.fr,.int (l.length:Int))) rfl rfl ?_ (js (xv (x:=(.pu,.lst l)) rfl rfl) rfl) ?_)
  ·show some (Md.fr,T.bl (decide ((0:Int)<=(i:Int))))=_
   rw [decide_eq_true (by omega)]
  ·show some (Md.fr,T.bl (decide ((i:Int) < (l.length:Int))))=_
   rw [decide_eq_true (by omega)]
theorem uB {i:Nat} (hi:i < tx.length):aX [.lst (tx.map .str),.int (i:Int)]=some (.fr,.non):=As (by rw [Zw];exact hi)
end
noncomputable def d5 (tx:List Tx):Nat:=(tx.map List.length).sum
theorem tH:∀ tx:List Tx,(tx.map fun t=>(t.length:Int)).sum=(d5 tx:Int)
 | []=>rfl
 | t :: tx=>by
  rw [Zn,YD,tH tx]
  unfold d5
  rw [Zn,YD]
  omega
theorem xR (tx:List Tx) (hl:tx.length<=16777216):gg [.lst (tx.map .str)]=some (.fr,.int (d5 tx:Int)):=by
 refine fK (η:=[pc (.lst (tx.map .str))]) rfl ?_
 refine fY (js (xv (r:=aj) (i6 (m:=.pu) T.str (fun (t:Tx)=>T.int (t.length:Int)) tx rfl rfl hl (fun t ht=>⟨[Q1 t,pc (.lst (tx.map .str))],rfl,rfl⟩)) rfl) ?_)
 show (mF (tx.map fun (t:Tx)=>T.int (t.length:Int))).bind _=_
 rw [ints_map (fun (t:Tx)=>(t.length:Int)),Zx,tH]
section
variable {tx:List Tx} {hd:Ww} {S S':St} {b:Bool}
theorem AO {i v:Nat} {e ev:Ex} {n:Md} {r:List (Wt)} (hi:i < hd.length) (he:e (oc (maT tx hd S b) :: r)=some (n,.int (i:Int))) (hv:ev (oc (maT tx hd S b) :: r)=some (.fr,.int (v:Int))) :
  dh 0 [.fld 5] e ev (oc (maT tx hd S b) :: r)=some (.nx (oc (maT tx (hd.set i v) S b) :: r)):=by
 unfold dh
 rw [hv,Zx]
 show ((keys [.fld 5] (oc (maT tx hd S b) :: r)).bind _)=_
 have hk:keys [.fld 5] (oc (maT tx hd S b) :: r)=some [.fld 5]:=rfl
 rw [hk,Zx,he,Zx]
 have hp:pm (jo (n,.int (i:Int)) (.fr,.int (v:Int))) [.fld 5] (maT tx hd S b)=some (maT tx (hd.set i v) S b,()):=by
  show ((jo (n,.int (i:Int)) (.fr,.int (v:Int)) (.lst (hd.map fun (n:Nat)=>T.int (n:Int)))).map _)=_
  have:jo (n,.int (i:Int)) (.fr,.int (v:Int)) (.lst (hd.map fun (n:Nat)=>T.int (n:Int)))=some (.lst ((hd.set i v).map fun (n:Nat)=>T.int (n:Int)),()):=by
   show ((ixP (hd.map fun (n:Nat)=>T.int (n:Int)).length (i:Int)).map _)=_
   rw [Zw,uY hi,Xf]
   rfl
  rw [this]
  rfl
 rw [hp]
 rfl
theorem B0 {i:Nat} {v:Tx} {e ev:Ex} {n:Md} {r:List (Wt)} (hi:i < tx.length) (he:e (oc (maT tx hd S b) :: r)=some (n,.int (i:Int))) (hv:ev (oc (maT tx hd S b) :: r)=some (.fr,.str v)) :
  dh 0 [.fld 4] e ev (oc (maT tx hd S b) :: r)=some (.nx (oc (maT (tx.set i v) hd S b) :: r)):=by
 unfold dh
 rw [hv,Zx]
 show ((keys [.fld 4] (oc (maT tx hd S b) :: r)).bind _)=_
 have hk:keys [.fld 4] (oc (maT tx hd S b) :: r)=some [.fld 4]:=rfl
 rw [hk,Zx,he,Zx]
 have hp:pm (jo (n,.int (i:Int)) (.fr,.str v)) [.fld 4] (maT tx hd S b)=some (maT (tx.set i v) hd S b,()):=by
  show ((jo (n,.int (i:Int)) (.fr,.str v) (.lst (tx.map T.str))).map _)=_
  have:jo (n,.int (i:Int)) (.fr,.str v) (.lst (tx.map T.str))=some (.lst ((tx.set i v).map T.str),()):=by
   show ((ixP (tx.map T.str).length (i:Int)).map _)=_
   rw [Zw,uY hi,Xf]
   rfl
  rw [this]
  rfl
 rw [hp]
 rfl
theorem yT {i r:Nat} {w:Tx} (W:WF S) (hh:hd.length=tx.length) (hi:i < tx.length) (h8:tx.length<=8) (hs:d5 tx+w.length<=120) (hl:S.lg.length+2 * w.length<=100000) (hn:hd.getD i 0 < S.lg.length) (hc:∀ c∈w,97<=c/\c<=122) (ht:(tx.getD i []).length<=120) (e:hg S (hd.getD i 0) w=some (S',r)) :
  bf (fsM tx hd S) [.int (i:Int),.str w]=some (fsM (tx.set i (tx.getD i []++w)) (hd.set i r) S',.non):=by
 obtain ⟨w1,w2,w3,w4⟩:=AH W hl hn hc e
 unfold bf mfn
 rw [Zp ⟨rfl,rfl⟩]
 have s1:sX (xP (bx aX (ab (aU 4 (aa 0)) (ab (aa 1) aj)))) [oc (maT tx hd S true),Q0 (i:Int),Q1 w]=some (.nx [oc (maT tx hd S true),Q0 (i:Int),Q1 w]):=by
  have:bx aX (ab (aU 4 (aa 0)) (ab (aa 1) aj)) [oc (maT tx hd S true),Q0 (i:Int),Q1 w]=some (.fr,.non):=dR (xv (gC (m:=.bo) (t:=maT tx hd S true) rfl (zy tx hd S true)) (xv (x:=(.fr,.int (i:Int))) rfl rfl)) (uB hi)
  show (((bx aX _ _).map _).map _)=_
  rw [this]
  rfl
 have c2:e2 oGt (e2 aZ (bx gg (ab (aU 4 (aa 0)) aj)) (eN cA (ab (aa 2) aj))) (Q2 120) [oc (maT tx hd S true),Q0 (i:Int),Q1 w]=some (.fr,.bl false) :=
  e2v (x:=(.fr,.int ((d5 tx:Int)+(w.length:Int)))) (e2v (dR (xv (r:=aj) (gC (m:=.bo) (t:=maT tx hd S true) rfl (zy tx hd S true)) rfl) (xR tx (by omega))) (y:=(.fr,.int (w.length:Int))) rfl rfl) rfl (by
   show some (Md.fr,T.bl (decide ((120:Int) < (d5 tx:Int)+(w.length:Int))))=_
   rw [ZZ (by omega)])
 have x3:bq 0 [.fld 6] 0 [false,false] aK (ab (e2 aB (aU 5 (aa 0)) (aa 1)) (ab (aa 2) aj)) [oc (maT tx hd S true),Q0 (i:Int),Q1 w]=some ((.fr,.int (r:Int)),[oc (maT tx hd S' true),Q0 (i:Int),Q1 w]):=by
  show ((some [Ky.fld 6]).bind fun ks=>(ab (e2 aB (aU 5 (aa 0)) (aa 1)) (ab (aa 2) aj) [oc (maT tx hd S true),Q0 (i:Int),Q1 w]).bind fun xs=>(pm (lh 0 [false,false] aK xs) ks (maT tx hd S true)).map fun z=>(z.2,[oc z.1,Q0 (i:Int),Q1 w]))=_
  rw [Zx,xv (x:=(.fr,.int ((hd.getD i 0:Nat):Int))) (e2v (gC (m:=.bo) (t:=maT tx hd S true) rfl (En tx hd S true)) (y:=(.fr,.int (i:Int))) rfl (lq _ hd i 0 (by omega))) (xv (r:=aj) (x:=(.fr,.str w)) rfl rfl),Zx]
  show (((if 1=0+1/\dE (fsT S)=true/\argsOk [false,false] [(Md.fr,T.int ((hd.getD i 0:Nat):Int)),(Md.fr,T.str w)]=true/\aY (trees [(Md.fr,T.int ((hd.getD i 0:Nat):Int)),(Md.fr,T.str w)])=true then (aK (fsT S) [.int ((hd.getD i 0:Nat):Int),.str w]).bind fun z=>if dE z.1=true/\imm z.2=true then some (T.obj 1 ((0,.bl false) :: z.1),(Md.fr,z.2)) else none else none).map _).map _)=_
  rw [Zp ⟨rfl,km S,rfl,rfl⟩,w4,Zx,Zp ⟨km S',rfl⟩]
  rfl
 have s3:iF 0 [.fld 5] (aa 1) (bq 0 [.fld 6] 0 [false,false] aK (ab (e2 aB (aU 5 (aa 0)) (aa 1)) (ab (aa 2) aj))) [oc (maT tx hd S true),Q0 (i:Int),Q1 w]=some (.nx [oc (maT tx (hd.set i r) S' true),Q0 (i:Int),Q1 w]):=by
  unfold iF
  rw [x3]
  exact AO (tx:=tx) (hd:=hd) (S:=S') (b:=true) (r:=[Q0 (i:Int),Q1 w]) (e:=aa 1) (ev:=fun _=>some (.fr,.int (r:Int))) (i:=i) (v:=r) (n:=.fr) (by omega) rfl rfl
 have s4:dh 0 [.fld 4] (aa 1) (e2 aZ (e2 aB (aU 4 (aa 0)) (aa 1)) (aa 2)) [oc (maT tx (hd.set i r) S' true),Q0 (i:Int),Q1 w]=some (.nx [oc (maT (tx.set i (tx.getD i []++w)) (hd.set i r) S' true),Q0 (i:Int),Q1 w]) :=
  B0 (n:=.fr) hi rfl (e2v (gC (m:=.bo) (t:=maT tx (hd.set i r) S' true) rfl (zy tx (hd.set i r) S' true) |> fun h=>e2v h (y:=(.fr,.int (i:Int))) rfl (lq T.str tx i [] hi)) (y:=(.fr,.str w)) rfl (iI (by omega)))
 exact congrArg (fun z:Option Out=>z.bind _) ((ag s1).trans ((ag ((g9 c2).trans rfl)).trans ((ag s3).trans s4)))
end
theorem iA {α:Type} (l:List α) (x d:α):(l++[x]).getD l.length d=x:=(bS l x d l.length).trans (Zp rfl)
theorem sG {α:Type} (l:List α) (x y:α):(l++[x]).set l.length y=l++[y]:=by
 rw [List.set_append_right _ _ (Zi _),Nat.sub_self]
 rfl
theorem qQ (a b:List Tx):d5 (a++b)=d5 a+d5 b:=by
 unfold d5
 rw [ZA,List.sum_append]
theorem Bp:∀ (rest:List Tx) {tx:List Tx} {hd:Ww} {S S':St} {B:T} {z:Wt},WF S->hd.length=tx.length->tx.length+rest.length<=8->d5 tx+d5 rest<=120->S.lg.length+2 * d5 rest<=100000->(∀ t∈rest,∀ c∈t,97<=c/\c<=122)->mB S rest=some S' →
  ∃ hd' z',forL (bH 2) bp (rest.map .str) [oc (maT tx hd S true),pc B,z]=some (.nx [oc (maT (tx++rest) hd' S' true),pc B,z']):=by
 intro rest
 induction rest with
 | nil =>
  intro tx hd S S' B z W hh h8 hs hl hc e
  cases (show some S=some S' from e)
  exact ⟨hd,z,by rw [ZO];rfl⟩
 | cons t rest ih =>
  intro tx hd S S' B z W hh h8 hs hl hc e
  obtain ⟨⟨S1,r⟩,e1,e2'⟩:=Zz.mp (show (hg S 0 t).bind _=some S' from e)
  rw [Zl] at h8
  have hsum:d5 (t :: rest)=t.length+d5 rest:=by unfold d5;rw [Zn,YD]
  rw [hsum] at hs hl
  have e1':hg S ((hd++[0]).getD tx.length 0) t=some (S1,r):=by rw [← hh,iA];exact e1
  have hgo:=AH W (by omega) W.pos (hc t Zt) e1
  have g:=yT (tx:=tx++[[]]) (hd:=hd++[0]) (S:=S) (S':=S1) (i:=tx.length) (r:=r) (w:=t) W (by rw [Zv,Zv,hh];rfl) (by rw [Zv];exact Yu _) (by rw [Zv];show tx.length+1<=8;omega) (by rw [qQ];show d5 tx+0+t.length<=120;omega) (by omega) (by rw [← hh,iA];exact W.pos) (hc t Zt) (by rw [iA];exact Yp _) e1'
  rw [iA,sG,YR] at g
  have g2:(hd++[0]).set tx.length r=hd++[r]:=by rw [← hh];exact sG hd 0 r
  rw [g2] at g
  have b:=vJ (tx:=tx) (hd:=hd) (S:=S) (by omega) hh
  obtain ⟨hd',z',q⟩:=ih (tx:=tx++[t]) (hd:=hd++[r]) (S:=S1) (S':=S') (B:=B) (z:=Q1 t) hgo.1 (by rw [Zv,Zv,hh];rfl) (by rw [Zv,ZW];omega) (by rw [qQ];show d5 tx+(t.length+0)+d5 rest<=120;omega) (by have:=hgo.2.2.1;omega) (fun u hu=>hc u (Zu _ hu)) e2'
  refine ⟨hd',z',?_⟩
  rw [Zn]
  refine (gv (η1:=[oc (maT tx hd S true),pc B,Q1 t]) rfl ?_).trans (q.trans (by rw [ZJ];rfl))
  have x1:bq 0 [] 1 [] bg aj [oc (maT tx hd S true),pc B,Q1 t]=some ((.fr,.int (tx.length:Int)),[oc (maT (tx++[[]]) (hd++[0]) S true),pc B,Q1 t]):=by
   show (((if 2=1+1/\dE (fsM tx hd S)=true/\argsOk [] []=true/\aY (trees [])=true then (bg (fsM tx hd S) (trees [])).bind fun z=>if dE z.1=true/\imm z.2=true then some (T.obj 2 ((0,.bl true) :: z.1),(Md.fr,z.2)) else none else none).map _))=_
   rw [Zp ⟨rfl,jU tx hd S,rfl,rfl⟩,show trees []=[] from rfl,b,Zx,Zp ⟨jU _ _ _,rfl⟩]
   rfl
  have x2:nZ 0 1 [false,false] bf (bq 0 [] 1 [] bg aj) (ab (aa 2) aj) [oc (maT tx hd S true),pc B,Q1 t]=some ((.fr,.non),[oc (maT (tx++[t]) (hd++[r]) S1 true),pc B,Q1 t]):=by
   unfold nZ
   rw [Zp (show Br 1 [oc (maT tx hd S true),pc B,pc (T.str t)][0]?=true from rfl),x1,Zx,Zp (show imm (T.int (tx.length:Int))=true from rfl)]
   have ct:lh 1 [false,false] bf [(Md.fr,T.int (tx.length:Int)),(Md.fr,T.str t)] (maT (tx++[[]]) (hd++[0]) S true)=some (maT (tx++[t]) (hd++[r]) S1 true,(Md.fr,T.non)):=by
    show (if 2=1+1/\dE (fsM (tx++[[]]) (hd++[0]) S)=true/\argsOk [false,false] [(Md.fr,T.int (tx.length:Int)),(Md.fr,T.str t)]=true/\aY (trees [(Md.fr,T.int (tx.length:Int)),(Md.fr,T.str t)])=true then (bf (fsM (tx++[[]]) (hd++[0]) S) (trees [(Md.fr,T.int (tx.length:Int)),(Md.fr,T.str t)])).bind fun z=>if dE z.1=true/\imm z.2=true then some (T.obj 2 ((0,.bl true) :: z.1),(Md.fr,z.2)) else none else none)=_
    rw [Zp ⟨rfl,jU _ _ _,rfl,rfl⟩,show trees [(Md.fr,T.int (tx.length:Int)),(Md.fr,T.str t)]=[T.int (tx.length:Int),T.str t] from rfl,g,Zx,Zp ⟨jU _ _ _,rfl⟩]
    rfl
   show ((lh 1 [false,false] bf [(Md.fr,T.int (tx.length:Int)),(Md.fr,T.str t)] (maT (tx++[[]]) (hd++[0]) S true)).map _)=_
   rw [ct]
   rfl
  unfold bp sXM
  rw [x2]
  rfl
structure Bok (bk:List Tx):Prop where
 few:bk.length<=8
 sum:d5 bk<=120
 az:∀ t∈bk,∀ c∈t,97<=c/\c<=122
theorem Bok.sum1 {t:Tx}:∀ {l:List Tx},t∈l->t.length<=d5 l
 | a :: l,h=>by
  have e:d5 (a :: l)=a.length+d5 l:=by unfold d5;rw [Zn,YD]
  rw [e]
  rcases Zj.mp h with rfl | h
  ·omega
  ·have:=Bok.sum1 h;omega
theorem Bok.len {bk:List Tx} (h:Bok bk):∀ t∈bk,t.length < 1000:=fun t ht=>XM (Bok.sum1 ht) (XM h.sum (by decide))
noncomputable def bu (bk:List Tx):St:=(mB S0 bk).getD S0
noncomputable def cR (bk:List Tx):Ww:=(bfs (bu bk) 1000 [0] 0).getD []
noncomputable def tabOf (bk:List Tx):List Row:=tab (bu bk) (cR bk)
theorem Bok.k {bk:List Tx} (h:Bok bk):mB S0 bk=some (bu bk)/\∃ nd wd,K (Hd bk) (bu bk) nd wd/\wd.length<=241/\bfs (bu bk) 1000 [0] 0=some (cR bk)/\(∀ x,x∈cR bk ↔ x < (bu bk).lg.length)/\(cR bk).length=wd.length/\(cR bk).idxOf 0=0:=by
 obtain ⟨S,nd,wd,e,H,l⟩:=K.of bk h.az h.len
 have eS:bu bk=S:=by unfold bu;rw [e];rfl
 rw [eS]
 have l':wd.length<=241:=by
  have:=h.sum
  unfold d5 at this
  omega
 obtain ⟨m,e2,_,e3,e4⟩:=H.met (k:=1000) (by omega)
 have eM:cR bk=0 :: m:=by unfold cR;rw [eS,e2];rfl
 rw [eM]
 exact ⟨e,nd,wd,H,l',e2,fun x=>by rw [e3,H.i.len],e4,List.idxOf_cons_self⟩
theorem AW {bk:List Tx} (h:Bok bk):∃ hd,aT [] [.lst (bk.map .str)]=some (fsM bk hd (bu bk),.non):=by
 obtain ⟨e,_⟩:=h.k
 have hsm:=h.sum
 obtain ⟨hd,z,q⟩:=Bp bk (tx:=[]) (hd:=[]) (S:=S0) (S':=bu bk) (B:=.lst (bk.map .str)) (z:=none) AF rfl (by have:=h.few;simpa using this) (by show 0+d5 bk<=120;omega) (by show 1+2 * d5 bk<=100000;omega) h.az e
 rw [YR] at q
 refine ⟨hd,?_⟩
 unfold aT mfn
 rw [Zp ⟨rfl,rfl⟩]
 have f:=(dP (tg:=bH 2) (it:=iq (aa 1)) (body:=bp) (η:=[oc (maT [] [] S0 true),pc (.lst (bk.map .str)),none]) (m:=.pu) (l:=bk.map .str) rfl rfl).trans q
 have body:=(ag (a:=iT 0 4 (dF aj)) (b:=aq (iT 0 5 (dF aj)) (aq (iT 0 6 (eNew 0 c8 aj)) (sIf (dM (aa 1)) (gz (bH 2) (iq (aa 1)) bp) eX))) (η:=[oc (.obj 2 [(0,.bl true)]),pc (.lst (bk.map .str)),none]) (η1:=[oc (.obj 2 [(0,.bl true),(4,.lst [])]),pc (.lst (bk.map .str)),none]) rfl).trans
  ((ag (η1:=[oc (.obj 2 [(0,.bl true),(4,.lst []),(5,.lst [])]),pc (.lst (bk.map .str)),none]) rfl).trans ((ag (η1:=[oc (maT [] [] S0 true),pc (.lst (bk.map .str)),none]) rfl).trans ((lB (m:=.fr) rfl).trans f)))
 exact congrArg (fun z:Option Out=>z.bind _) body
theorem yB {bk:List Tx} (h:Bok bk) {arg:Ex} {η:Env} {m:Md} (ha:arg η=some (m,.lst (bk.map .str))):eY 1 bY (eNew 1 aT (ab arg aj)) aj η=some (.fr,tbT (tabOf bk)):=by
 obtain ⟨hd,e⟩:=AW h
 obtain ⟨_,nd,wd,H,l,e2,e3,e4,_⟩:=h.k
 have hlen:(bu bk).lg.length<=100001:=by rw [← H.i.len];omega
 have t1:=Bu H.i.wf hlen (k:=1000) (by decide) e2 e3 (by omega)
 have n1:eNew 1 aT (ab arg aj) η=some (.fr,maT bk hd (bu bk) false):=by
  unfold eNew
  rw [xv (r:=aj) ha rfl,Zx]
  have hno:aY (trees [(m,T.lst (bk.map .str))])=true:=by
   show (aY (bk.map T.str) && true)=true
   rw [dC _ (fun _=>rfl)]
   rfl
  rw [Zp hno,show trees [(m,T.lst (bk.map .str))]=[T.lst (bk.map .str)] from rfl,e,Zx,Zp ⟨jU _ _ _,rfl⟩]
  rfl
 have t2:bY [maT bk hd (bu bk) false]=some (.fr,tbT (tabOf bk)):=by
  refine fK (η:=[pc (maT bk hd (bu bk) false)]) rfl (fY ?_)
  have f6:aU 6 (aa 0) [pc (maT bk hd (bu bk) false)]=some (.pu,obT (bu bk) false):=gC (m:=.pu) (t:=maT bk hd (bu bk) false) rfl (Er bk hd (bu bk) false)
  unfold eY
  show ((aU 6 (aa 0) [pc (maT bk hd (bu bk) false)]).bind _)=_
  rw [f6]
  show ((dn [obT (bu bk) false]).bind _)=_
  rw [t1]
  rfl
 show ((eNew 1 aT (ab arg aj) η).bind _)=_
 rw [n1]
 show ((bY [maT bk hd (bu bk) false]).bind _)=_
 rw [t2]
 rfl
noncomputable abbrev wd' (ws:List (Nat×Nat)):List (T×T):=ws.map fun p=>(T.str [p.1],T.int (p.2:Int))
noncomputable abbrev wTT (p:Nat×Nat):T:=.tup [.str [p.1],.int (p.2:Int)]
theorem DY (ws:List (Nat×Nat)):oF (ws.map wTT)=some (wd' ws):=by
 induction ws with
 | nil=>rfl
 | cons w ws ih =>
  show (if hU (T.str [w.1])/\imm (T.int (w.2:Int)) then (oF (ws.map wTT)).map _ else none)=_
  rw [Zp ⟨rfl,rfl⟩,ih]
  rfl
theorem pY:∀ (ws acc:List (Nat×Nat)),((acc++ws).map (·.1)).Nodup->(wd' ws).foldl (fun d q=>dput d q.1 q.2) (wd' acc)=wd' (acc++ws)
 | [],acc,_=>by rw [ZO];rfl
 | w :: ws,acc,h=>by
  have hn:w.1 ∉ acc.map (·.1):=fun z=>by
   rw [ZA,Zn] at h
   exact (ZU.mp h).2.2 w.1 z w.1 Zt rfl
  have e:dput (wd' acc) (T.str [w.1]) (T.int (w.2:Int))=wd' (acc++[w]):=by
   unfold dput
   rw [Zo (by
    simp only [Ym,not_exists,not_and]
    intro p hp
    obtain ⟨q,hq,rfl⟩:=Yk.mp hp
    simp only [eqT,beq_iff_eq,List.cons.injEq,and_true]
    intro z
    exact hn (Yk.mpr ⟨q,hq,z⟩))]
   simp [wd']
  show (wd' ws).foldl _ (dput (wd' acc) (T.str [w.1]) (T.int (w.2:Int)))=_
  rw [e,pY ws (acc++[w]) (by rw [ZJ];exact h),ZJ]
  rfl
theorem vG (w:List (Nat×Nat)):(sk w).Nodup:=by
 unfold sk
 exact List.Nodup.sublist List.filter_sublist (by decide)
theorem rC (S:St) (M:Ww) (n:Nat):(steps S M n).map (·.1)=sk (S.wy.getD n []):=by
 unfold steps
 rw [Yy]
 exact List.map_id' _
theorem Eg {m:Md} (S:St) (M:Ww) (n:Nat):kU [(m,stT (steps S M n))]=some (.fr,.dct 0 (wd' (steps S M n))):=by
 show (oF ((steps S M n).map wTT)).map _=_
 rw [DY,Option.map_some]
 have:=pY (steps S M n) [] (by rw [YR,rC];exact vG _)
 rw [YR] at this
 exact congrArg (fun z=>some (Md.fr,T.dct 0 z)) this
theorem xT (S:St) (M:Ww) (n c:Nat) (hc:97<=c/\c<=122):gW (steps S M n) c=(gW (S.wy.getD n []) c).map fun m=>M.idxOf m:=by
 have key:∀ l:Ww,gW (l.map fun c=>(c,M.idxOf ((gW (S.wy.getD n []) c).getD 0))) c=if c∈l then some (M.idxOf ((gW (S.wy.getD n []) c).getD 0)) else none:=by
  intro l
  induction l with
  | nil=>rfl
  | cons a l ih =>
   unfold gW at ih ⊢
   rw [Zn,Z3]
   by_cases h:a=c
   ·subst h
    simp
   ·have:(a == c)=false:=by simpa using h
    rw [this]
    show (List.map _ l |>.find? _).map _=_
    rw [ih]
    simp [Yh h]
 unfold steps
 rw [key]
 cases hg:gW (S.wy.getD n []) c with
 | none =>
  rw [Zo fun z=>by
   obtain ⟨m,hm⟩:=mN z
   rw [hg] at hm
   cases hm]
  rfl
 | some m =>
  rw [Zp (by
   unfold sk
   refine YQ.mpr ⟨List.mem_range'_1.mpr (by omega),by rw [hg];rfl⟩)]
  rfl
theorem uN (S:St) (M:Ww) (n:Nat):(row S M n).2.2.2=steps S M n:=by
 unfold row
 split <;> rfl
noncomputable def Pt (bk:List Tx) (w:Tx):Prop:=w=[]\/∃ t∈bk,w <:+: t
theorem DW {bk:List Tx} {w:Tx}:Pt bk w ↔ ∃ p,Hd bk p/\w <:+ p:=by
 constructor
 ·rintro (rfl | ⟨t,ht,a,b,rfl⟩)
  ·exact ⟨[],.inl rfl,ZC _⟩
  ·exact ⟨a++w,.inr ⟨_,ht,⟨b,rfl⟩⟩,⟨a,rfl⟩⟩
 ·rintro ⟨p,rfl | ⟨t,ht,hp⟩,hs⟩
  ·exact .inl (Yb.mp hs)
  ·exact .inr ⟨t,ht,hs.isInfix.trans hp.isInfix⟩
theorem ym {a b c:Ex} {η:Env} {m n n':Md} {t:Tx} {k j i:Nat} (ha:a η=some (m,.str t)) (hb:b η=some (n,.int (k:Int))) (hc:c η=some (n',.int (i:Int))) (hi:i=k+j) (h:i<=t.length):eSl a (some b) (some c) η=some (.fr,.str ((t.drop k).take j)):=by
 unfold eSl t4
 dsimp only
 rw [ha,hb,hc]
 show some (Md.fr,T.str ((t.drop (clip t.length (k:Int))).take (clip t.length (i:Int) - clip t.length (k:Int))))=_
 have h1:clip t.length (k:Int)=k:=by
  unfold clip
  rw [Zo (by omega),Xo,YB (by omega)]
 have h2:clip t.length (i:Int)=i:=by
  unfold clip
  rw [Zo (by omega),Xo,YB h]
 rw [h1,h2,hi,Nat.add_sub_cancel_left]
noncomputable abbrev nsT (l:Ww):T:=.lst (l.map fun (n:Nat)=>T.int (n:Int))
noncomputable abbrev ix (bk:List Tx) (m:Nat):Nat:=(cR bk).idxOf m
noncomputable def chL (S:St):Nat->Nat->Ww
 | 0,m=>[m]
 | k+1,m=>m :: match S.lk.getD m none with
  | none=>[]
  | some r=>chL S k r
section
variable {bk:List Tx} {nd:Wd->Option Nat} {wd:List Wd} (H:K (Hd bk) (bu bk) nd wd) (hM:∀ x,x∈cR bk ↔ x < (bu bk).lg.length) (h0:(cR bk).idxOf 0=0)
include hM
theorem Dh {m:Nat} (hm:m < (bu bk).lg.length):ix bk m < (tabOf bk).length:=by
 unfold tabOf tab
 rw [Zw]
 exact Xl.mpr ((hM m).mpr hm)
theorem rV {m:Nat} (hm:m < (bu bk).lg.length) {a b:Ex} {η:Env} {n:Md} (ha:a η=some (.pu,tbT (tabOf bk))) (hb:b η=some (n,.int (ix bk m:Int))):e2 aB a b η=some (.fr,jF (row (bu bk) (cR bk) m)):=by
 refine e2v ha hb ?_
 have hl:ix bk m < (cR bk).length:=Xl.mpr ((hM m).mpr hm)
 unfold tbT tabOf tab
 rw [Yy,lq (jF ∘ row (bu bk) (cR bk)) (cR bk) (ix bk m) 0 hl,Zs,Zr hl]
 show some (up .pu (jF (row (bu bk) (cR bk) (cR bk)[ix bk m])))=_
 rw [show (cR bk)[ix bk m]=m from List.getElem_idxOf _]
 unfold up
 rw [sE]
 rfl
include H
theorem A9 {m:Nat} (hm:m < wd.length):(row (bu bk) (cR bk) m).2.1=(W wd m).length:=by
 unfold row
 rw [← H.i.lg m hm]
 split
 ·rename_i h
  by_cases h0:m=0
  ·rw [h0,H.i.lg 0 (by omega),H.i.wz]
   rfl
  ·obtain ⟨r,e,_⟩:=H.i.lk (Yf h0) hm (by simp)
   rw [h] at e
   cases e
 ·rfl
theorem Dy:∀ (k m:Nat) (acc:Ww) (F:Nat),m < wd.length->(W wd m).length<=k->k+1 < F->acc.length+k < 1000000->c9 (dM (aa 1)) gT F [pc (tbT (tabOf bk)),Q0 (ix bk m:Int),oc (nsT acc)]=some (.nx [pc (tbT (tabOf bk)),pc .non,oc (nsT (acc++(chL (bu bk) k m).map (ix bk)))]):=by
 intro k
 induction k using Nat.strongRecOn with
 | ind k ih =>
  intro m acc F hm hk hF ha
  obtain ⟨F,rfl⟩:∃ j,F=j+2:=⟨F - 2,by omega⟩
  have hm':m < (bu bk).lg.length:=by rw [← H.i.len];exact hm
  have a1:=kB (i:=2) (η:=[pc (tbT (tabOf bk)),Q0 (ix bk m:Int),oc (nsT acc)]) (e:=aa 1) (l:=acc.map fun (n:Nat)=>T.int (n:Int)) rfl rfl (by rw [Zw];omega)
  rw [show acc.map (fun (n:Nat)=>T.int (n:Int))++[T.int (ix bk m:Int)]=(acc++[ix bk m]).map fun (n:Nat)=>T.int (n:Int) from by rw [ZA];rfl] at a1
  have a2:aL 1 (e2 aB (e2 aB (aa 0) (aa 1)) (Q2 2)) [pc (tbT (tabOf bk)),Q0 (ix bk m:Int),oc (nsT (acc++[ix bk m]))]=some (.nx [pc (tbT (tabOf bk)),pc (lkT (((bu bk).lk.getD m none).map (ix bk))),oc (nsT (acc++[ix bk m]))]):=by
   refine aR (m:=.fr) (e2v (rV hM hm' (n:=.fr) rfl rfl) (y:=(.fr,.int 2)) rfl ?_) (by decide) (by show 1 < 3;decide)
   show some (up .fr (lkT (row (bu bk) (cR bk) m).2.2.1))=_
   unfold row
   split <;> (rename_i e;rw [e];rfl)
  have st:c9 (dM (aa 1)) gT (F+2) [pc (tbT (tabOf bk)),Q0 (ix bk m:Int),oc (nsT acc)]=c9 (dM (aa 1)) gT (F+1) [pc (tbT (tabOf bk)),pc (lkT (((bu bk).lk.getD m none).map (ix bk))),oc (nsT (acc++[ix bk m]))]:=j0 (m:=.fr) rfl ((ag a1).trans a2)
  rw [st]
  cases hl:(bu bk).lk.getD m none with
  | none =>
   rw [show chL (bu bk) k m=[m] from by cases k with | zero=>rfl | succ k=>rw [chL,hl]]
   exact dY (m:=.fr) rfl
  | some r =>
   have h1:0 < m:=Yf fun z=>by rw [z,H.i.lk0] at hl;cases hl
   obtain ⟨r',e,⟨g1,_⟩,_,g2,_⟩:=H.i.lk h1 hm (by simp)
   rw [hl] at e
   cases e
   obtain ⟨k,rfl⟩:∃ j,k=j+1:=⟨k - 1,by omega⟩
   have:=ih k (Yu _) r (acc++[ix bk m]) (F+1) g1 (by omega) (by omega) (by rw [Zv,ZW];omega)
   rw [show chL (bu bk) (k+1) m=m :: chL (bu bk) k r from by rw [chL,hl]]
   exact this.trans (by rw [ZJ];rfl)
theorem yS {m:Nat} (hm:m < wd.length) (hk:(W wd m).length<=1000):iX [tbT (tabOf bk),.int (ix bk m:Int)]=some (.fr,nsT ((chL (bu bk) 1000 m).map (ix bk))):=by
 have hm':m < (bu bk).lg.length:=by rw [← H.i.len];exact hm
 have r1:sX (xP (bx bA (ab (aa 0) (ab (aa 1) aj)))) [pc (tbT (tabOf bk)),Q0 (ix bk m:Int),none]=some (.nx [pc (tbT (tabOf bk)),Q0 (ix bk m:Int),none]):=by
  show (((bx bA _ _).map _).map _)=_
  rw [dR (xv (x:=(.pu,tbT (tabOf bk))) rfl (xv (r:=aj) (x:=(.fr,.int (ix bk m:Int))) rfl rfl)) (show bA [tbT (tabOf bk),.int (ix bk m:Int)]=some (.fr,.non) from As (by rw [Zw];exact Dh hM hm'))]
  rfl
 exact fK rfl ((ag r1).trans ((ag (η1:=[pc (tbT (tabOf bk)),Q0 (ix bk m:Int),oc (nsT [])]) rfl).trans ((ag (Dy H hM 1000 m [] rQ hm hk (by decide) (by decide))).trans rfl)))
noncomputable def Ls (nd:Wd->Option Nat) (v t:Tx):Prop:=(∃ m,nd t=some m)/\t <:+ v/\∀ y,y <:+ v->t.length < y.length->nd y=none
noncomputable abbrev ET (bk:List Tx) (s:T) (l:Nat) (c:Nat) (z4 z5:Wt):Env:=[pc (tbT (tabOf bk)),pc s,Q0 (l:Int),pc (s1 c),z4,z5]
theorem tl {c:Nat} (hc:97<=c/\c<=122) (s:T) {t:Tx} (ht:t.length<=100000):∀ (k m:Nat) (u:Tx) (z4 z5:Wt),nd u=some m->u <:+ t->u.length=min t.length (W wd m).length->(∀ y,y <:+ t->u.length < y.length->nd (y++[c])=none)->(W wd m).length<=k →
  (∃ u' m' η',forL (bH 4) bK (((chL (bu bk) k m).map (ix bk)).map fun (n:Nat)=>T.int (n:Int)) (ET bk s t.length c z4 z5)=some (.rt (.fr,.tup [.int (ix bk m':Int),.int ((u'++[c]).length:Int)]) η')/\nd (u'++[c])=some m'/\u' <:+ t/\∀ y,y <:+ t->u'.length < y.length->nd (y++[c])=none) ∨
  ((∀ y,y <:+ t->nd (y++[c])=none)/\∃ y4 y5,forL (bH 4) bK (((chL (bu bk) k m).map (ix bk)).map fun (n:Nat)=>T.int (n:Int)) (ET bk s t.length c z4 z5)=some (.nx (ET bk s t.length c y4 y5))):=by
 intro k
 induction k using Nat.strongRecOn with
 | ind k ih =>
  intro m u z4 z5 hu hut hl hy hk
  have hm:=H.i.lt hu
  have hm':m < (bu bk).lg.length:=by rw [← H.i.len];exact hm
  have hs:=(xT (bu bk) (cR bk) m c hc).trans (congrArg (Option.map _) (H.i.wy hu c))
  have b1:aL 5 (eN kU (ab (e2 aB (e2 aB (aa 0) (aa 4)) (Q2 3)) aj)) (ET bk s t.length c (Q0 (ix bk m:Int)) z5)=some (.nx (ET bk s t.length c (Q0 (ix bk m:Int)) (pc (wT' (steps (bu bk) (cR bk) m))))):=by
   refine aR (m:=.fr) (js (xv (r:=aj) (x:=(.fr,stT (steps (bu bk) (cR bk) m))) (e2v (rV hM hm' (n:=.fr) rfl rfl) (y:=(.fr,.int 3)) rfl ?_) rfl) (Eg _ _ _)) (by decide) (by show 5 < 6;decide)
   rw [← uN]
   show some (up .fr (stT _))=_
   unfold up
   rw [o9]
   rfl
  generalize steps (bu bk) (cR bk) m=ws at b1 hs
  have ci:e2 kF (aa 3) (aa 5) (ET bk s t.length c (Q0 (ix bk m:Int)) (pc (wT' ws)))=some (.fr,.bl (nd (u++[c])).isSome):=by
   rw [show (nd (u++[c])).isSome=(gW ws c).isSome from by rw [hs,Yj]]
   exact CZ (m:=.pu) (n:=.fr) rfl rfl
  cases hn:nd (u++[c]) with
  | some m' =>
   rw [hn] at ci hs
   refine .inl ⟨u,m',ET bk s t.length c (Q0 (ix bk m:Int)) (pc (wT' ws)),?_,hn,hut,hy⟩
   have hch:∃ r,chL (bu bk) k m=m :: r:=by cases k with
    | zero=>exact ⟨[],rfl⟩
    | succ k=>exact ⟨_,rfl⟩
   obtain ⟨r,hr⟩:=hch
   rw [hr,Zn,Zn]
   refine zq rfl ((ag b1).trans ((lB ci).trans (fY ?_)))
   have mn:e2 aZ (eN qq (ab (aa 2) (ab (e2 aB (e2 aB (aa 0) (aa 4)) (Q2 1)) aj))) (Q2 1) (ET bk s t.length c (Q0 (ix bk m:Int)) (pc (wT' ws)))=some (.fr,.int ((u++[c]).length:Int)):=by
    refine e2v (x:=(.fr,.int (u.length:Int))) (y:=(.fr,.int 1)) (js (xv (x:=(.fr,.int (t.length:Int))) rfl (xv (r:=aj) (x:=(.fr,.int ((W wd m).length:Int))) (e2v (rV hM hm' (n:=.fr) rfl rfl) (y:=(.fr,.int 1)) rfl (by rw [← A9 H hM hm];rfl)) rfl)) ?_) rfl ?_
    ·show some (Md.fr,T.int (if ((W wd m).length:Int) < (t.length:Int) then ((W wd m).length:Int) else (t.length:Int)))=_
     congr 3
     split <;> omega
    ·show some (Md.fr,T.int ((u.length:Int)+1))=_
     rw [Zv]
     rfl
   show (ab _ _ _).bind qV=_
   rw [xv (uV (m:=.pu) (n:=.fr) rfl rfl hs) (xv (r:=aj) mn rfl)]
   rfl
  | none =>
   rw [hn] at ci
   have bo:bK (ET bk s t.length c (Q0 (ix bk m:Int)) z5)=some (.nx (ET bk s t.length c (Q0 (ix bk m:Int)) (pc (wT' ws)))):=(ag b1).trans ((g9 ci).trans rfl)
   cases hlk:(bu bk).lk.getD m none with
   | none =>
    rw [show chL (bu bk) k m=[m] from by cases k with | zero=>rfl | succ k=>rw [chL,hlk]]
    have m0:m=0:=Nat.eq_zero_of_not_pos fun z=>by
     obtain ⟨r,e,_⟩:=H.i.lk z hm (by simp)
     rw [hlk] at e
     cases e
    have u0:u=[]:=H.i.zero (m0 ▸ hu)
    refine .inr ⟨fun y hyt=>?_,_,_,gv rfl bo⟩
    by_cases h:y=[]
    ·rw [u0] at hn;rw [h];exact hn
    ·exact hy y hyt (by rw [u0];exact List.length_pos_iff.mpr h)
   | some r =>
    obtain ⟨g1,g2,g3,_⟩:=H.i.low (by simp) hlk hu
    have h1:0 < m:=Yf fun z=>by rw [z,H.i.lk0] at hlk;cases hlk
    obtain ⟨r',e,_,_,g4,g5⟩:=H.i.lk h1 hm (by simp)
    rw [hlk] at e
    cases e
    obtain ⟨k,rfl⟩:∃ j,k=j+1:=⟨k - 1,by omega⟩
    have hle:=hut.length_le
    rw [show chL (bu bk) (k+1) m=m :: chL (bu bk) k r from by rw [chL,hlk],Zn,Zn,show forL (bH 4) bK (T.int (ix bk m:Int) :: _) (ET bk s t.length c z4 z5)=_ from gv rfl bo]
    exact ih k (Yu _) r (W wd r) _ _ (H.i.top g2) ((bX g3 (H.i.sf hu) (by omega)).trans hut) (by omega) (fun y hyt hl2=>by
     by_cases h:u.length < y.length
     ·exact hy y hyt h
     ·have:nd y=some m:=g5 y ((bX hyt hut (by omega)).trans (H.i.sf hu)) hl2
      rw [← H.i.wy this c,H.i.wy hu c]
      exact hn) (by omega)
include h0
theorem AN {c:Nat} (hc:97<=c/\c<=122) {v t:Tx} {m:Nat} (hv:v.length<=1000) (hm:nd t=some m) (hs:t <:+ v) (hy:∀ y,y <:+ v->t.length < y.length->nd y=none) (hw:(W wd m).length<=1000):∃ t' m',di [tbT (tabOf bk),.int (ix bk m:Int),.int (t.length:Int),s1 c]=some (.fr,.tup [.int (ix bk m':Int),.int (t'.length:Int)])/\nd t'=some m'/\t' <:+ v++[c]/\∀ y,y <:+ v++[c]->t'.length < y.length->nd y=none:=by
 have f0:∀ z4 z5,gz (bH 4) (iq (bx iX (ab (aa 0) (ab (aa 1) aj)))) bK (ET bk (.int (ix bk m:Int)) t.length c z4 z5)=_:=fun z4 z5=>dP (m:=.fr) (l:=((chL (bu bk) 1000 m).map (ix bk)).map fun (n:Nat)=>T.int (n:Int)) (by
  show (bx iX _ _).bind _=_
  rw [dR (xv (x:=(.pu,tbT (tabOf bk))) rfl (xv (r:=aj) (x:=(.fr,.int (ix bk m:Int))) rfl rfl)) (yS H hM (H.i.lt hm) hw)]
  rfl) rfl
 have hl:=hs.length_le
 have hsf:=(H.i.sf hm).length_le
 have key:∀ y',y' <:+ v->(y' <:+ t->nd (y'++[c])=none)->nd (y'++[c])=none:=fun y' hy' h=>by
  cases hq:nd (y'++[c]) with
  | none=>rfl
  | some q =>
   obtain ⟨p,hp⟩:=H.i.pre hq
   rw [h (bX hy' hs (ZL fun z=>by rw [hy y' hy' z] at hp;cases hp))] at hq
   cases hq
 have ends:∀ y,y <:+ v++[c]->y=[]\/∃ y',y=y'++[c]/\y' <:+ v:=fun y h=>List.suffix_concat_iff.mp h
 rcases tl H hM hc (.int (ix bk m:Int)) (t:=t) (by omega) 1000 m t none none hm (ZC _) (by omega) (fun y hyt hl2=>absurd hyt.length_le (by omega)) hw with ⟨u,m',η',e,h1,h2,h3⟩ | ⟨h1,y4,y5,e⟩
 ·refine ⟨u++[c],m',fK rfl (kc ((f0 _ _).trans e)),h1,by
   obtain ⟨p,rfl⟩:=h2.trans hs
   exact ⟨p,by rw [ZJ]⟩,fun y hyv hl2=>?_⟩
  rw [Zv,ZW] at hl2
  rcases ends y hyv with rfl | ⟨y',rfl,hy'⟩
  ·exact absurd hl2 (Xy _)
  ·rw [Zv,ZW] at hl2
   exact key y' hy' fun z=>h3 y' z (by omega)
 ·refine ⟨[],0,fK (η:=ET bk (.int (ix bk m:Int)) t.length c y4 y5) rfl ((ag ((f0 _ _).trans e)).trans ?_),H.i.z,Ya,fun y hyv hl2=>?_⟩
  ·rw [show ix bk 0=0 from h0]
   rfl
  ·rcases ends y hyv with rfl | ⟨y',rfl,hy'⟩
   ·exact absurd hl2 (Xy _)
   ·exact key y' hy' (h1 y')
noncomputable abbrev EM (bk:List Tx) (W:Tx) (m l:Nat) (fo:Ww) (z4:Wt):Env:=[pc (tbT (tabOf bk)),Q1 W,pc (.tup [.int (ix bk m:Int),.int (l:Int)]),oc (nsT fo),z4]
theorem mt {Wo:Tx} (hw:∀ m,m < wd.length->(W wd m).length<=1000):∀ (r v t:Tx) (m:Nat) (fo:Ww) (z4:Wt),Az r->v.length+r.length<=1000->fo.length+r.length<=100000->nd t=some m->t <:+ v->(∀ y,y <:+ v->t.length < y.length->nd y=none) →
  ∃ l m' k y4,forL (bH 4) jM (r.map s1) (EM bk Wo m t.length fo z4)=some (.nx (EM bk Wo m' k (fo++l) y4))/\l.length=r.length/\∀ i,i < r.length->∃ t',l.getD i 0=t'.length/\Ls nd (v++r.take (i+1)) t':=by
 intro r
 induction r with
 | nil=>exact fun v t m fo z4 _ _ _ _ _ _=>⟨[],m,t.length,z4,by rw [ZO];rfl,rfl,fun i h=>absurd h (Xy _)⟩
 | cons c r ih =>
  intro v t m fo z4 hz hl hf hm hs hy
  rw [Zl] at hl hf
  obtain ⟨t',m',e,h1,h2,h3⟩:=AN H hM h0 (hz c Zt) (by omega) hm hs hy (hw m (H.i.lt hm))
  obtain ⟨l,m2,k,y4,i1,i2,i3⟩:=ih (v++[c]) t' m' (fo++[t'.length]) (pc (s1 c)) (fun x hx=>hz x (Zu _ hx)) (by rw [Zv,ZW];omega) (by rw [Zv,ZW];omega) h1 h2 h3
  have q1:aL 2 (bx di (ab (aa 0) (ab (e2 aB (aa 2) (Q2 0)) (ab (e2 aB (aa 2) (Q2 1)) (ab (aa 4) aj))))) (EM bk Wo m t.length fo (pc (s1 c)))=some (.nx (EM bk Wo m' t'.length fo (pc (s1 c)))):=aR (m:=.fr) (dR (xv (x:=(.pu,tbT (tabOf bk))) rfl (xv (x:=(.fr,.int (ix bk m:Int))) rfl (xv (x:=(.fr,.int (t.length:Int))) rfl (xv (r:=aj) (x:=(.fr,s1 c)) rfl rfl)))) e) (by decide) (by show 2 < 5;decide)
  have q2:=kB (i:=3) (η:=EM bk Wo m' t'.length fo (pc (s1 c))) (e:=e2 aB (aa 2) (Q2 1)) (l:=fo.map fun (n:Nat)=>T.int (n:Int)) (v:=.int (t'.length:Int)) rfl rfl (by rw [Zw];omega)
  rw [show fo.map (fun (n:Nat)=>T.int (n:Int))++[T.int (t'.length:Int)]=(fo++[t'.length]).map fun (n:Nat)=>T.int (n:Int) from by rw [ZA];rfl] at q2
  refine ⟨t'.length :: l,m2,k,y4,(gv rfl ((ag q1).trans q2)).trans (i1.trans (by rw [ZJ];rfl)),by rw [Zl,Zl,i2],fun i hi=>?_⟩
  cases i with
  | zero=>exact ⟨t',rfl,⟨m',h1⟩,h2,h3⟩
  | succ i =>
   obtain ⟨u,g1,g2⟩:=i3 i (Nat.lt_of_succ_lt_succ hi)
   exact ⟨u,g1,by rw [List.take_succ_cons,List.append_cons];exact g2⟩
noncomputable def Dl (nd:Wd->Option Nat) (Wo:Tx) (l:Ww):Prop:=l.length=Wo.length+1/\∀ i,i<=Wo.length->∃ t,l.getD i 0=t.length/\Ls nd (Wo.take i) t
theorem uk {Wo:Tx} (hw:∀ m,m < wd.length->(W wd m).length<=1000) (hz:Az Wo) (hl:Wo.length<=1000):∃ l,fI [tbT (tabOf bk),.str Wo]=some (.fr,nsT l)/\Dl nd Wo l:=by
 obtain ⟨l,m',k,y4,i1,i2,i3⟩:=mt H hM h0 (Wo:=Wo) hw Wo [] [] 0 [0] none hz (by show 0+_<=_;omega) (by show 1+_<=_;omega) H.i.z (ZC _) fun y hy h=>absurd hy.length_le (by show ¬ y.length<=0;exact Nat.not_le_of_lt h)
 have e0:EM bk Wo 0 0 [0] none=[pc (tbT (tabOf bk)),Q1 Wo,pc (.tup [.int 0,.int 0]),oc (nsT [0]),none]:=by
  show [_,_,pc (.tup [.int (ix bk 0:Int),.int ((0:Nat):Int)]),_,_]=_
  rw [show ix bk 0=0 from h0]
  rfl
 refine ⟨0 :: l,fK rfl ((ag (η1:=[pc (tbT (tabOf bk)),Q1 Wo,pc (.tup [.int 0,.int 0]),none,none]) rfl).trans ((ag (η1:=EM bk Wo 0 0 [0] none) (by rw [e0];rfl)).trans ((ag ((dP (m:=.fr) rfl rfl).trans i1)).trans rfl))),by rw [Zl,i2],fun i hi=>?_⟩
 ·cases i with
  | zero=>exact ⟨[],rfl,⟨0,H.i.z⟩,Ya,fun y hy h=>absurd hy.length_le (Nat.not_le_of_lt h)⟩
  | succ i=>exact i3 i hi
end
theorem xu (x y:Tx):PySem.Txt.contains (sx y) (sx x)=true ↔ x <:+: y:=by
 refine (PySem.StrLaws.found_iff (sx y) (sx x)).trans ⟨fun ⟨i,h,h2⟩=>?_,fun ⟨a,b,e⟩=>⟨a.length,?_,?_⟩⟩
 ·rw [PySem.StrLaws.subAt_eq] at h2
  have:(y.drop i).take x.length=x:=by simpa [sx,PySem.Str.length] using h2
  rw [← this]
  exact ((List.take_prefix _ _).isInfix).trans (List.drop_suffix _ _).isInfix
 ·show a.length+x.length<=y.length
  rw [← e,Zv,Zv]
  omega
 ·rw [PySem.StrLaws.subAt_eq]
  have:(y.drop a.length).take x.length=x:=by rw [← e,ZJ,List.drop_left,List.take_left]
  simpa [sx,PySem.Str.length] using this
theorem yX {α:Type} (q:α->Bool) (l:List α):decide ((0:Int) < ((l.filter q).length:Int))=l.any q:=by
 cases h:l.any q with
 | false =>
  rw [List.filter_eq_nil_iff.mpr fun a ha z=>by rw [Ym.mpr ⟨a,ha,z⟩] at h;cases h]
  rfl
 | true =>
  obtain ⟨a,ha,z⟩:=Ym.mp h
  have:=List.length_pos_of_mem (YQ.mpr ⟨ha,z⟩)
  exact decide_eq_true (by omega)
section
variable {bk:List Tx} {nd:Wd->Option Nat} (hP:∀ w,(nd w).isSome=true ↔ Pt bk w) (h8:bk.length<=8)
include h8
theorem Be (u:Tx):cL [.lst (bk.map .str),.str u]=some (.fr,.bl (bk.any fun t=>PySem.Txt.contains (sx t) (sx u))):=by
 refine fK (η:=[pc (.lst (bk.map .str)),Q1 u]) rfl (fY ?_)
 rw [← yX]
 refine e2v (x:=(.fr,.int ((bk.filter fun t=>PySem.Txt.contains (sx t) (sx u)).length:Int))) (y:=(.fr,.int 0)) (js (xv (r:=aj) (jZ (k:=1) (tg:=bH 0) (m:=.pu) T.str (fun t=>PySem.Txt.contains (sx t) (sx u)) T.str bk rfl rfl (by omega) fun t ht=>⟨_,_,rfl,e2v (x:=(.fr,.str u)) (y:=(.fr,.str t)) rfl rfl rfl,rfl,fun _=>rfl⟩) rfl) ?_) rfl rfl
 show some (Md.fr,T.int ((((bk.filter _).map T.str).length:Nat):Int))=_
 rw [Zw]
include hP
theorem CF {u:Tx} (hu:u ≠ []):(bk.any fun t=>PySem.Txt.contains (sx t) (sx u))=(nd u).isSome:=by
 rw [Xw,hP,Ym]
 constructor
 ·rintro ⟨t,ht,h⟩
  exact .inr ⟨t,ht,(xu u t).mp h⟩
 ·rintro (h | ⟨t,ht,h⟩)
  ·exact absurd h hu
  ·exact ⟨t,ht,(xu u t).mpr h⟩
noncomputable abbrev ED (bk:List Tx) (W:Tx) (fo:Ww) (e:Nat) (z4:Wt):Env:=[pc (.lst (bk.map .str)),Q1 W,oc (nsT fo),Q0 (e:Int),z4]
noncomputable abbrev WD:=c9 (iN (e2 oGt (aa 4) (Q2 0)) (j7 (bx cL (ab (aa 0) (ab (eSl (aa 1) (some (e2 nh (aa 3) (aa 4))) (some (aa 3))) aj))))) jS
theorem dw {Wo:Tx} {e:Nat} (he:e<=Wo.length) (fo:Ww):∀ (k F:Nat),k<=e->k < F->(∀ y,y <:+ Wo.take e->k < y.length->nd y=none)->∃ t,WD F (ED bk Wo fo e (Q0 (k:Int)))=some (.nx (ED bk Wo fo e (Q0 (t.length:Int))))/\Ls nd (Wo.take e) t:=by
 have cn:∀ k,k<=e->iN (e2 oGt (aa 4) (Q2 0)) (j7 (bx cL (ab (aa 0) (ab (eSl (aa 1) (some (e2 nh (aa 3) (aa 4))) (some (aa 3))) aj)))) (ED bk Wo fo e (Q0 (k:Int)))=some (.fr,.bl (decide ((0:Int) < (k:Int)) && !bk.any fun t=>PySem.Txt.contains (sx t) (sx ((Wo.drop (e - k)).take k)))):=fun k hk=>D8 (m:=.fr) (n:=.fr) (e2v (x:=(.fr,.int (k:Int))) (y:=(.fr,.int 0)) rfl rfl rfl) (rq (m:=.fr) (dR (xv (x:=(.pu,.lst (bk.map .str))) rfl (xv (r:=aj) (ym (m:=.fr) (n:=.fr) (n':=.fr) (k:=e - k) (j:=k) (i:=e) rfl (by
  show some (Md.fr,T.int ((e:Int) - (k:Int)))=_
  rw [show (e:Int) - (k:Int)=((e - k:Nat):Int) by omega]) rfl (by omega) he) rfl)) (Be h8 _)))
 have n0:∃ m,nd []=some m:=Yr.mp ((hP []).mpr (.inl rfl))
 intro k
 induction k with
 | zero =>
  intro F _ hF hy
  obtain ⟨F,rfl⟩:∃ j,F=j+1:=⟨F - 1,by omega⟩
  exact ⟨[],dY (cn 0 (Yp _)),n0,Ya,hy⟩
 | succ k ih =>
  intro F hk hF hy
  obtain ⟨F,rfl⟩:∃ j,F=j+1:=⟨F - 1,by omega⟩
  have hlen:(Wo.take e).length=e:=by rw [YH];omega
  have hu:(Wo.drop (e - (k+1))).take (k+1)=(Wo.take e).drop (e - (k+1)):=by rw [List.drop_take,show e - (e - (k+1))=k+1 by omega]
  have cn':=cn (k+1) hk
  rw [hu] at cn'
  have hul:((Wo.take e).drop (e - (k+1))).length=k+1:=by rw [YT,hlen];omega
  have uq:∀ y,y <:+ Wo.take e->y.length=k+1->y=(Wo.take e).drop (e - (k+1)):=fun y h1 h2=>by
   have:=List.suffix_iff_eq_drop.mp h1
   rwa [hlen,h2] at this
  have hus:(Wo.take e).drop (e - (k+1)) <:+ Wo.take e:=List.drop_suffix _ _
  generalize (Wo.take e).drop (e - (k+1))=u at *
  rw [CF hP h8 (fun z=>by rw [z] at hul;cases hul),decide_eq_true (by omega)] at cn'
  cases hn:nd u with
  | some m =>
   rw [hn] at cn'
   exact ⟨u,by rw [hul];exact dY cn',⟨m,hn⟩,hus,fun y h1 h2=>hy y h1 (by omega)⟩
  | none =>
   rw [hn] at cn'
   obtain ⟨t,e1,e2'⟩:=ih F (by omega) (by omega) fun y h1 h2=>by
    by_cases h:y.length=k+1
    ·rw [uq y h1 h];exact hn
    ·exact hy y h1 (by omega)
   refine ⟨t,(j0 cn' (aR (m:=.fr) (t:=.int (k:Int)) (e2v (x:=(.fr,.int ((k+1:Nat):Int))) (y:=(.fr,.int 1)) rfl rfl ?_) (by decide) (by show 4 < 5;decide))).trans e1,e2'⟩
   show some (Md.fr,T.int (((k+1:Nat):Int) - 1))=_
   rw [show ((k+1:Nat):Int) - 1=(k:Int) by omega]
theorem CU {Wo:Tx} (hl:Wo.length<=1000):∃ l,gS [.lst (bk.map .str),.str Wo]=some (.fr,nsT l)/\Dl nd Wo l:=by
 obtain ⟨η',f1,fo,z3,z4,rfl,hlen,hd⟩:=fZ (tg:=bH 3) (body:=jV) (fun (k:Nat)=>T.int (k:Int)) (fun r η=>∃ (fo:Ww) (z3 z4:Wt),η=[pc (.lst (bk.map .str)),Q1 Wo,oc (nsT fo),z3,z4]/\(r=List.range' fo.length r.length/\fo.length+r.length=Wo.length+1)/\∀ i,i < fo.length->∃ t,fo.getD i 0=t.length/\Ls nd (Wo.take i) t) (by
  rintro e r _ ⟨fo,z3,z4,rfl,⟨hr,hl2⟩,hd⟩
  rw [Zl] at hl2
  rw [Zl,X4] at hr
  obtain ⟨rfl,hr2⟩:=XR hr
  obtain ⟨t,e1,e2'⟩:=dw hP h8 (Wo:=Wo) (e:=fo.length) (by omega) fo fo.length rQ (Zi _) (by show _ < 1000000;omega) fun y h1 h2=>absurd h1.length_le (by rw [YH];omega)
  have a3:=kB (i:=2) (η:=ED bk Wo fo fo.length (Q0 (t.length:Int))) (e:=aa 4) (l:=fo.map fun (n:Nat)=>T.int (n:Int)) rfl rfl (by rw [Zw];omega)
  rw [show fo.map (fun (n:Nat)=>T.int (n:Int))++[T.int (t.length:Int)]=(fo++[t.length]).map fun (n:Nat)=>T.int (n:Int) from by rw [ZA];rfl] at a3
  refine ⟨ED bk Wo fo fo.length z4,ED bk Wo (fo++[t.length]) fo.length (Q0 (t.length:Int)),rfl,(ag (η1:=ED bk Wo fo fo.length (Q0 (fo.length:Int))) rfl).trans ((ag e1).trans a3),fo++[t.length],_,_,rfl,⟨by rw [Zv];exact hr2,by rw [Zv,ZW];omega⟩,fun i hi=>?_⟩
  rw [Zv,ZW] at hi
  by_cases h:i < fo.length
  ·obtain ⟨u,g1,g2⟩:=hd i h
   exact ⟨u,by rw [Zs,ZF h,← Zs];exact g1,g2⟩
  ·cases (show i=fo.length by omega)
   exact ⟨t,iA _ _ _,e2'⟩) (List.range (Wo.length+1)) [pc (.lst (bk.map .str)),Q1 Wo,oc (nsT []),none,none] ⟨[],none,none,rfl,⟨by rw [ZG];exact List.range_eq_range',by rw [ZG];exact XG _⟩,fun i h=>absurd h (Xy _)⟩
 refine ⟨fo,fK rfl ((ag (η1:=[pc (.lst (bk.map .str)),Q1 Wo,oc (nsT []),none,none]) rfl).trans ((ag ((dP (m:=.fr) ?_ rfl).trans f1)).trans rfl)),hlen.2,fun i hi=>hd i (by have:=hlen.2;simp at this;omega)⟩
 rw [dy (m:=.fr) (j:=(Wo.length:Int)+1) rfl (by omega),show ((Wo.length:Int)+1).toNat=Wo.length+1 by omega,fM]
end
theorem Dl.same {nd:Wd->Option Nat} {Wo:Tx} {l l':Ww} (h:Dl nd Wo l) (h':Dl nd Wo l'):l=l':=by
 have le:∀ {t t':Tx} {v:Tx},Ls nd v t->Ls nd v t'->t'.length<=t.length:=fun {t t' v} a b=>ZL fun z=>by
  obtain ⟨m,e⟩:=b.1
  rw [a.2.2 _ b.2.1 z] at e
  cases e
 refine List.ext_getElem (by rw [h.1,h'.1]) fun i h1 h2=>?_
 obtain ⟨t,e,a⟩:=h.2 i (by rw [h.1] at h1;omega)
 obtain ⟨t',e',b⟩:=h'.2 i (by rw [h.1] at h1;omega)
 rw [Zs,Zr h1] at e
 rw [Zs,Zr h2] at e'
 exact (show l[i]=t.length from e).trans ((Nat.le_antisymm (le b a) (le a b)).trans (show l'[i]=t'.length from e').symm)
theorem yC (r:Row):eqD 59 (jF r)=true:=by
 have h1:eqD 58 (lkT r.2.2.1)=true:=by cases r.2.2.1 <;> rfl
 have h2:eqD 58 (stT r.2.2.2)=true:=by
  show (r.2.2.2.map fun p=>T.tup [.str [p.1],.int (p.2:Int)]).all (eqD 57)=true
  rw [Xe]
  exact Z8.mpr fun _ _=>rfl
 show (true && (true && (eqD 58 (lkT r.2.2.1) && (eqD 58 (stT r.2.2.2) && true))))=true
 rw [h1,h2]
 rfl
theorem q9 (t:List Row):eqD 60 (tbT t)=true:=by
 show (t.map jF).all (eqD 59)=true
 rw [Xe]
 exact Z8.mpr fun r _=>yC r
theorem zo (t:List Row):dW (t.map jF)=true:=by
 induction t with
 | nil=>rfl
 | cons r t ih =>
  show (imm (jF r) && dW (t.map jF))=true
  rw [sE,ih]
  rfl
theorem wR {j:Nat} {x:Xx} {η η1:Env} {m:Md} {t:T} (h:x η=some ((m,t),η1)) (hj:j < η1.length):pj j x η=some (.nx (η1.set j (some (.pu t)))):=by
 unfold pj
 rw [h,Zx,Zp hj]
theorem DC {np nn:Nat} {b:Sx} {ts:Wq} {v:Val} (hl:ts.length=np) (h:∃ η,b (ts.map (fun t=>some (.pu t))++List.replicate (nn - np) none)=some (.rt v η)):fn np nn b ts=some v:=by
 obtain ⟨η,h⟩:=h
 exact fK hl h
theorem lr {a b:Sx} {η η1:Env} {v:Val} (h:a η=some (.nx η1)) (q:∃ z,b η1=some (.rt v z)):∃ z,aq a b η=some (.rt v z):=by
 obtain ⟨z,q⟩:=q
 exact ⟨z,(ag h).trans q⟩
theorem spr {ns:Wv} {j k:Nat} {n:Int} {η:Env} (e:b7 [.scr ns,.int k]=some (.fr,.lst [.int n])) (h0:η[0]?=some (pc (.scr ns))) (hj:j < η.length):ja j (bx b7 (ab (aa 0) (ab (Q2 k) aj))) η=some (.nx (η.set j (oc (.lst [.int n])))):=by
 show (bx b7 _ _).bind _=_
 rw [dR (xv (x:=(.fr,.scr ns)) (by unfold aa;rw [h0];rfl) (xv (r:=aj) (x:=(.fr,.int (k:Int))) rfl rfl)) e,Zx]
 exact Zp hj
theorem rz (l:Ww):eqD 60 (nsT l)=true:=by
 show (l.map fun (n:Nat)=>T.int (n:Int)).all (eqD 59)=true
 rw [Xe]
 exact Z8.mpr fun _ _=>rfl
noncomputable abbrev EX (e:T×T×T) (bk:List Tx) (n:Int) (z6 z7 z8 z9 z10 z11:Wt):Env:=[pc e.1,pc e.2.1,pc e.2.2,pc (.lst (bk.map .str)),pc (tbT (tabOf bk)),oc (.lst [.int n]),z6,z7,z8,z9,z10,z11]
theorem yh {bk:List Tx} (h:Bok bk) {L:Tx} (hL:0 < L.length/\L.length<=26/\Az L) (s S:T) (n:Int) (z6 z7 z8 z9 z10 z11:Wt):∃ n' y7 y8 y9 y10 y11,mR (EX (s,S,.str L) bk n z6 z7 z8 z9 z10 z11)=some (.nx (EX (s,S,.str L) bk n' z6 y7 y8 y9 y10 y11)):=by
 obtain ⟨_,nd,wd,H,l,e2',e3,e4,e0⟩:=h.k
 have hP:∀ w,(nd w).isSome=true ↔ Pt bk w:=fun w=>by rw [DW,← H.some,Yr]
 obtain ⟨n',w,e1,hz,hl⟩:=AK hL (fun t ht=>⟨ZI (Bok.sum1 ht) h.sum,h.az t ht⟩) h.few n
 obtain ⟨l1,e5,d1⟩:=uk H e3 e0 (Wo:=w) (fun m hm=>by
  rcases (hP _).mp (by rw [H.i.top hm];rfl) with z | ⟨t,ht,z⟩
  ·rw [z];exact Yp _
  ·have:=z.length_le
   have:=Bok.sum1 ht
   have:=h.sum
   omega) hz hl
 obtain ⟨l2,e6,d2⟩:=CU hP h.few hl
 cases d1.same d2
 have hll:l1.length<=1001:=by rw [d1.1];omega
 have a0:=c6 (j:=7) (ci (i:=5) (un:=false) (k:=0) (r:=[.ex (aa 3),.ex (aa 2)]) (l:=[.lst (bk.map .str),.str L]) (η:=EX (s,S,.str L) bk n z6 z7 z8 z9 z10 z11) rfl rfl rfl (fun _=>rfl) rfl rfl (by
  show (aY (bk.map T.str) && true)=true
  rw [dC _ (fun _=>rfl)]
  rfl) e1) rfl (by show 7 < 12;decide)
 have a1:aL 8 (bx gS (ab (aa 3) (ab (aa 7) aj))) (EX (s,S,.str L) bk n' z6 (Q1 w) z8 z9 z10 z11)=some (.nx (EX (s,S,.str L) bk n' z6 (Q1 w) (pc (nsT l1)) z9 z10 z11)):=aR (m:=.fr) (dR (xv (x:=(.pu,.lst (bk.map .str))) rfl (xv (r:=aj) (x:=(.fr,.str w)) rfl rfl)) e6) (by decide) (by show 8 < 12;decide)
 have a2:aL 9 (eN kL (ab (aa 4) aj)) (EX (s,S,.str L) bk n' z6 (Q1 w) (pc (nsT l1)) z9 z10 z11)=some (.nx (EX (s,S,.str L) bk n' z6 (Q1 w) (pc (nsT l1)) (pc (tbT (tabOf bk))) z10 z11)):=by
  refine aR (m:=.fr) (js (xv (r:=aj) (x:=(.pu,tbT (tabOf bk))) rfl rfl) ?_) (by decide) (by show 9 < 12;decide)
  show mkL .pu ((tabOf bk).map jF)=_
  rw [r6 (by unfold tabOf tab;rw [Zw,Zw,e4];omega),Zp (zo _)]
  rfl
 obtain ⟨η',f1,y10,y11,rfl⟩:=fZ (tg:=bH 10) (body:=qX) (fun (k:Nat)=>T.int (k:Int)) (fun _ η=>∃ (z10 z11:Wt),η=EX (s,S,.str L) bk n' z6 (Q1 w) (pc (nsT l1)) (pc (tbT (tabOf bk))) z10 z11) (by
  rintro k r _ ⟨z10,z11,rfl⟩
  have b1:ja 11 (bx fI (ab (aa 9) (ab (aa 7) aj))) (EX (s,S,.str L) bk n' z6 (Q1 w) (pc (nsT l1)) (pc (tbT (tabOf bk))) (Q0 (k:Int)) z11)=some (.nx (EX (s,S,.str L) bk n' z6 (Q1 w) (pc (nsT l1)) (pc (tbT (tabOf bk))) (Q0 (k:Int)) (oc (nsT l1)))):=by
   show (bx fI _ _).bind _=_
   rw [dR (xv (x:=(.pu,tbT (tabOf bk))) rfl (xv (r:=aj) (x:=(.fr,.str w)) rfl rfl)) e5]
   rfl
  have c3:=jZ (k:=1) (tg:=bH 0) (it:=iq (aa 11)) (c:=eIs .bool (aa 0)) (elt:=aa 0) (m:=.bo) (η:=EX (s,S,.str L) bk n' z6 (Q1 w) (pc (nsT l1)) (pc (tbT (tabOf bk))) (Q0 (k:Int)) (oc (nsT l1))) (fun (n:Nat)=>T.int (n:Int)) (fun _=>false) (fun (n:Nat)=>T.int (n:Int)) l1 rfl (lX _ (fun _=>rfl) l1) (by omega) fun t _=>⟨_,(.fr,.bl false),rfl,rfl,rfl,fun z=>nomatch z⟩
  rw [show l1.filter (fun _=>false)=[] from List.filter_eq_nil_iff.mpr fun _ _ z=>nomatch z] at c3
  have a4:=kB (i:=11) (η:=EX (s,S,.str L) bk n' z6 (Q1 w) (pc (nsT l1)) (pc (tbT (tabOf bk))) (Q0 (k:Int)) (oc (nsT l1))) (e:=Q2 0) (l:=l1.map fun (n:Nat)=>T.int (n:Int)) rfl rfl (by rw [Zw];omega)
  exact ⟨_,_,rfl,(ag b1).trans ((ag ((g9 (m:=.fr) (or2 (m:=.fr) (n:=.fr) (x:=false) (y:=false) rfl (or2 (m:=.fr) (n:=.fr) (x:=false) (y:=false) (e2v (x:=(.bo,nsT l1)) (y:=(.pu,nsT l1)) rfl rfl (wN (r:=true) (rz l1) (rz l1) (lZ 60 _ (rz l1)))) (e2v (x:=(.pu,tbT (tabOf bk))) (y:=(.pu,tbT (tabOf bk))) rfl rfl (wN (r:=true) (q9 _) (q9 _) (lZ 60 _ (q9 _))))))).trans rfl)).trans ((ag ((g9 (m:=.fr) (e2v c3 (y:=(.fr,.lst [])) rfl rfl)).trans rfl)).trans a4)),_,_,rfl⟩) (List.range 2) (EX (s,S,.str L) bk n' z6 (Q1 w) (pc (nsT l1)) (pc (tbT (tabOf bk))) z10 z11) ⟨z10,z11,rfl⟩
 refine ⟨n',_,_,_,y10,y11,(ag a0).trans ((ag a1).trans ((ag a2).trans ((dP (m:=.fr) ?_ rfl).trans f1)))⟩
 rw [dy (m:=.fr) (j:=2) rfl (by decide),fM]
 rfl
noncomputable abbrev EY (ns:Wv) (c1 c2 c3 c4 c5:Wt):Env:=[pc (.scr ns),c1,c2,c3,c4,c5,none,none,none,none,none,none]
theorem wY (ns:Wv) (hns:ns.length<=63):wj [.scr ns]=some (.fr,.bl true):=by
 obtain ⟨n,e1⟩:=qP ns hns 0 (by decide)
 obtain ⟨n1,L,e2',l0,l26,lz⟩:=zz n
 have hL:0 < L.length/\L.length<=26/\Az L:=⟨l0,l26,lz⟩
 obtain ⟨n2,bk,e3,b8,bs,bz⟩:=BF hL n1
 have hB:Bok bk:=⟨b8,bs,bz⟩
 obtain ⟨m,e5⟩:=qP ns hns 1 (by decide)
 have q2:=c6 (j:=2) (cx (i:=1) (un:=false) (k:=0) (r:=[]) (l:=[]) (η:=EY ns (oc (.lst [.int n])) none none none none) rfl rfl rfl rfl rfl rfl e2') rfl (by show 2 < 12;decide)
 have q3:=wR (j:=3) (cx (i:=1) (un:=false) (k:=0) (r:=[.px (xI (aa 2))]) (l:=[.str L]) (η:=EY ns (oc (.lst [.int n1])) (Q1 L) none none none) rfl (n8 (t:=.str L) (b9 (m:=.fr) rfl rfl) rfl rfl) rfl rfl rfl rfl e3) (by show 3 < 12;decide)
 obtain ⟨η',f1,m',z6,z7,z8,z9,z10,z11,rfl⟩:=fZ (tg:=bH 6) (body:=mR) (fun (k:Nat)=>T.int (k:Int)) (fun _ η=>∃ (m:Int) (z6 z7 z8 z9 z10 z11:Wt),η=EX (.scr ns,.lst [.int n2],.str L) bk m z6 z7 z8 z9 z10 z11) (by
  rintro k r _ ⟨m,z6,z7,z8,z9,z10,z11,rfl⟩
  obtain ⟨m',y7,y8,y9,y10,y11,e⟩:=yh hB hL (.scr ns) (.lst [.int n2]) m (Q0 (k:Int)) z7 z8 z9 z10 z11
  exact ⟨_,_,rfl,e,m',_,_,_,_,_,_,rfl⟩) (List.range 3) (EX (.scr ns,.lst [.int n2],.str L) bk m none none none none none none) ⟨m,_,_,_,_,_,_,rfl⟩
 refine DC rfl (lr (spr (k:=0) e1 rfl (by show 1 < 12;decide)) (lr q2 (lr q3 (lr (η1:=EY ns (pc (.lst [.int n2])) (Q1 L) (pc (.lst (bk.map .str))) none none) rfl (lr (aR (m:=.fr) (yB hB (m:=.pu) rfl) (by decide) (by show 4 < 12;decide)) (lr (spr (k:=1) e5 rfl (by show 5 < 12;decide)) (lr ((dP (m:=.fr) ?_ rfl).trans f1) (lr (η1:=(EX (.scr ns,.lst [.int n2],.str L) bk m' z6 z7 z8 z9 z10 z11).set 5 (pc (.lst [.int m']))) rfl ⟨_,rfl⟩))))))))
 rw [dy (m:=.fr) (j:=3) rfl (by decide),fM]
 rfl
end T40
end
section
namespace T40
open PySem PySem.Spec PyProof.Rows L2 VS
theorem qv {G:Gx} {X:Cx} {x:Str} {p:Pos} (i:Nat) (a:X.N[i]?=some x) (b:Vis X.env.scope x:=by exact Or.inl rfl) (c:(x == ("__debug__" : Str))=false:=by rfl) (d:(x == ("__classdict__" : Str))=false:=by rfl):PV G X (.Name x p) (aa i):=dH i a b c d
theorem Q3 {α:Sort _} {x:α} {b:Prop}:x=x∨b:=.inl rfl
abbrev Q4:List Str:=["_law_book_here", "_law_word_here"]
abbrev Q5:List Str:=["_law_k", "_law_spring_here", "_law_letters", "_law_few", "_law_start", "_law_step"]
abbrev Q6:List Str:=["_law_k", "_law_spring_here", "_law_signs_here", "_law_most"]
abbrev Q7:List Str:=["_law_long", "_law_script", "_law_spring_here", "_law_signs_here", "_law_book_here", "_law_table", "_law_more", "_law_turn", "_law_word_here", "_law_due_here", "_law_handed", "_law_again", "_law_got"]
abbrev Q8:List Str:=["_law_script", "_law_k"]
abbrev Q9:List Str:=["_law_spring_here", "_law_book_here", "_law_signs_here"]
abbrev Qa:List Str:=["_law_spring_here", "_law_most"]
abbrev Qb:List Str:=["_law_spring_here", "_law_signs_here", "_law_most"]
abbrev Qc:List Str:=["_law_spring_here", "_law_signs_here"]
abbrev Qd:List Str:=["_law_spring_here"]
abbrev Qe:List Str:=["_law_text_here", "_law_book_here", "_law_word_here"]
abbrev Qf:List Str:=["book", "number"]
abbrev Qg:List Str:=["self", "head", "sign"]
abbrev Qh:List Str:=["self", "head", "word"]
abbrev Qi:List Str:=["self", "long", "link", "ways"]
abbrev Qj:List Str:=["self", "node", "numbers"]
abbrev Qk:List Str:=["self", "node", "sign"]
abbrev Ql:List Str:=["self", "text", "word"]
abbrev Qm:List Str:=["self"]
abbrev Qn:List Str:=["sign", "self", "node", "numbers", "link", "ways", "steps"]
abbrev Qo:List Str:=["table", "stand", "long", "sign"]
abbrev Qp:List Str:=["table", "stand"]
noncomputable def top (i:Nat):Stmt:=PySem.Challenge.pw_allparts_k40_matches.main.body.getD i (.Pass ⟨0,0,0,0⟩)
structure Blt (mg:X9):Prop where
 b_bool:mg "bool" = none
 b_dict:mg "dict" = none
 b_int:mg "int" = none
 b_isinstance:mg "isinstance" = none
 b_len:mg "len" = none
 b_list:mg "list" = none
 b_min:mg "min" = none
 b_range:mg "range" = none
 b_sorted:mg "sorted" = none
 b_sum:mg "sum" = none
 b_tuple:mg "tuple" = none
 c_MOST_SIGNS:∃ t,mg "MOST_SIGNS" = some (.int 120 t)
 c_MOST_TEXTS:∃ t,mg "MOST_TEXTS" = some (.int 8 t)
noncomputable abbrev nsL:List Str:=["  ", "longs", "links", "ways", "texts", "heads", "nodes"]
noncomputable abbrev gX (K:X8) (C D:Addr):Gx:=gxO nsL K C D
theorem gJ {K:X8} {C D:Addr} {m:Me}:jr ((gxO nsL K C D).at m):=zG (by decide +kernel) (by decide +kernel)
structure ObF (K:X8) (mg:X9) (C D:Addr):Prop where
 cl_Nodes:Cls K C
 mg_Nodes:mg "Nodes" = some (.ref C)
 n_longs_Nodes:aS K C "longs"
 n_links_Nodes:aS K C "links"
 n_ways_Nodes:aS K C "ways"
 n_texts_Nodes:aS K C "texts"
 n_heads_Nodes:aS K C "heads"
 n_nodes_Nodes:aS K C "nodes"
 cl_Machine:Cls K D
 mg_Machine:mg "Machine" = some (.ref D)
 n_longs_Machine:aS K D "longs"
 n_links_Machine:aS K D "links"
 n_ways_Machine:aS K D "ways"
 n_texts_Machine:aS K D "texts"
 n_heads_Machine:aS K D "heads"
 n_nodes_Machine:aS K D "nodes"
theorem eT {K:X8} {mg:X9} {C D:Addr} {m:Me} (O:ObF K mg C D):FldOk ((gxO nsL K C D).at m) K 1 "longs" := um rfl O.cl_Nodes O.cl_Machine O.n_longs_Nodes O.n_longs_Machine
theorem eW {K:X8} {mg:X9} {C D:Addr} {m:Me} (O:ObF K mg C D):FldOk ((gxO nsL K C D).at m) K 2 "links" := um rfl O.cl_Nodes O.cl_Machine O.n_links_Nodes O.n_links_Machine
theorem dJ {K:X8} {mg:X9} {C D:Addr} {m:Me} (O:ObF K mg C D):FldOk ((gxO nsL K C D).at m) K 3 "ways" := um rfl O.cl_Nodes O.cl_Machine O.n_ways_Nodes O.n_ways_Machine
theorem dX {K:X8} {mg:X9} {C D:Addr} {m:Me} (O:ObF K mg C D):FldOk ((gxO nsL K C D).at m) K 4 "texts" := um rfl O.cl_Nodes O.cl_Machine O.n_texts_Nodes O.n_texts_Machine
theorem j8 {K:X8} {mg:X9} {C D:Addr} {m:Me} (O:ObF K mg C D):FldOk ((gxO nsL K C D).at m) K 5 "heads" := um rfl O.cl_Nodes O.cl_Machine O.n_heads_Nodes O.n_heads_Machine
theorem mL {K:X8} {mg:X9} {C D:Addr} {m:Me} (O:ObF K mg C D):FldOk ((gxO nsL K C D).at m) K 6 "nodes" := um rfl O.cl_Nodes O.cl_Machine O.n_nodes_Nodes O.n_nodes_Machine
section
variable (P:Program) (w:World) (base:Heap) {K:X8} {mg:X9} {C D:Addr}
noncomputable abbrev eD:Stmt:=inClass (top 19) 1
theorem kj:FnScope Qi Qi (ah eD):=by constructor <;> first | rfl | decide +kernel
theorem aI {f:Addr} {fd:FuncData} (F:Fun K "new_node" "Nodes.new_node" eD f fd) (hm:Meth K C "new_node" f) (B:Blt mg) (O:ObF K mg C D) :
  MtAt P w K mg base 1 (gX K C D) 0 "new_node" Qi [false,false,true] aF:=kJ F hm O.cl_Nodes (gb (by decide +kernel) (by decide +kernel)) kj rfl rfl (fun _ _ _ _ _ _ us hl=>by obtain ⟨_,_,_,_,rfl⟩:=L2.CC hl;rfl) fun _ _ _ _ _ _ _ hr =>
  (af (pw gJ (fu 1 (eT O) (bt 0 rfl (Or.inl rfl) rfl rfl) rfl) (ae (qv 1 rfl) ak rfl) rfl rfl rfl rfl rfl rfl rfl)
  (af (pw gJ (fu 2 (eW O) (bt 0 rfl (Or.inl rfl) rfl rfl) rfl) (ae (qv 2 rfl) ak rfl) rfl rfl rfl rfl rfl rfl rfl)
  (af (zt gJ (fu 3 (dJ O) (bt 0 rfl (Or.inl rfl) rfl rfl) rfl) rfl rfl Q3 rfl rfl rfl rfl rfl rfl rfl rfl)
  (ar (b6 (iU oR oC (dZ B.b_len (ae (w_fld gJ (eT O) (qv 0 rfl) rfl) ak rfl) rfl rfl rfl) ai))))))
noncomputable abbrev eu:Stmt:=inClass (top 19) 0
theorem jX:FnScope Qm Qm (ah eu):=by constructor <;> first | rfl | decide +kernel
theorem cu {f:Addr} {fd:FuncData} (F:Fun K "__init__" "Nodes.__init__" eu f fd) (hm:Mk K C f) (B:Blt mg) (O:ObF K mg C D) (aI:MtAt P w K mg base 1 (gX K C D) 0 "new_node" Qi [false,false,true] aF) :
  InAt P w K mg base 2 (gX K C D) 0 0 "Nodes" Qm c8:=BU F hm O.mg_Nodes jX rfl rfl (fun _ _ _ _ _ _ us hl=>by obtain ⟨_,rfl⟩:=L2.nq hl;rfl) fun _ _ _ _ _ _ _ hr =>
  (af (kN 0 1 gJ (eT O) (cM ak) rfl Q3 rfl rfl rfl)
  (af (kN 0 2 gJ (eW O) (cM ak) rfl Q3 rfl rfl rfl)
  (af (kN 0 3 gJ (dJ O) (cM ak) rfl Q3 rfl rfl rfl)
  (ar (p9 (g8 gJ aI.at hr (by decide) (bt 0 rfl (Or.inl rfl) rfl rfl) (ae ai (ae vh (ae yd ak rfl) rfl) rfl) rfl rfl rfl) rfl)))))
noncomputable abbrev cp:Stmt:=inClass (top 19) 4
theorem aV:FnScope ["self", "node", "sign", "old", "long", "half"] Qk (ah cp):=by constructor <;> first | rfl | decide +kernel
theorem aP {f:Addr} {fd:FuncData} (F:Fun K "node_just_behind" "Nodes.node_just_behind" cp f fd) (hm:Meth K C "node_just_behind" f) (B:Blt mg) (O:ObF K mg C D) (aI:MtAt P w K mg base 1 (gX K C D) 0 "new_node" Qi [false,false,true] aF) :
  MtAt P w K mg base 2 (gX K C D) 0 "node_just_behind" Qk [false,false] av:=kJ F hm O.cl_Nodes (gb (by decide +kernel) (by decide +kernel)) aV rfl rfl (fun _ _ _ _ _ _ us hl=>by obtain ⟨_,_,_,rfl⟩:=L2.pG hl;rfl) fun _ _ _ _ _ _ _ hr =>
  (af (aE (uj hr (bB (w_fld gJ (dJ O) (qv 0 rfl) rfl) (qv 1 rfl) (fun _ _=>rfl) rfl) (qv 2 rfl) (fun _ _=>rfl) rfl) aV.nd rfl Q3 rfl Q3)
  (af (aE (w_add (bB (w_fld gJ (eT O) (qv 0 rfl) rfl) (qv 1 rfl) (fun _ _=>rfl) rfl) ai) aV.nd rfl Q3 rfl Q3)
  (af (cN (tj hr (bB (w_fld gJ (eT O) (qv 0 rfl) rfl) (qv 3 rfl) (fun _ _=>rfl) rfl) (qv 4 rfl)) (ar (cP 3 rfl (Or.inl rfl) rfl rfl)) bU)
  (af (bV (g8 gJ aI.at hr (by decide) (bt 0 rfl (Or.inl rfl) rfl rfl) (ae (qv 4 rfl) (ae (bB (w_fld gJ (eW O) (qv 0 rfl) rfl) (qv 3 rfl) (fun _ _=>rfl) rfl) (ae (zg B.b_dict (ae (bB (w_fld gJ (dJ O) (qv 0 rfl) rfl) (qv 3 rfl) (fun _ _=>rfl) rfl) ak rfl) rfl rfl) ak rfl) rfl) rfl) rfl rfl rfl) aV.nd rfl Q3 rfl Q3)
  (af (iR gJ hr (fu 2 (eW O) (bt 0 rfl (Or.inl rfl) rfl rfl) rfl) (qv 3 rfl) (qv 5 rfl) (fun _=>rfl) rfl rfl rfl)
  (af (gI Z1 (PVW.pvt (o7 (jK (qv 1 rfl)) (lP (tj hr (w_get hr (bB (w_fld gJ (dJ O) (qv 0 rfl) rfl) (qv 1 rfl) (fun _ _=>rfl) rfl) (qv 2 rfl) rfl rfl rfl rfl) (qv 3 rfl)))))
  (af (iR gJ hr (Ao hr (fu 3 (dJ O) (bt 0 rfl (Or.inl rfl) rfl rfl) rfl) (qv 1 rfl) (fun _ _=>rfl) rfl) (qv 2 rfl) (qv 5 rfl) (fun _=>rfl) rfl rfl rfl)
  (ar (aE (bB (w_fld gJ (eW O) (qv 0 rfl) rfl) (qv 1 rfl) (fun _ _=>rfl) rfl) aV.nd rfl Q3 rfl Q3))))
  (ar (cP 5 rfl (Or.inl rfl) rfl rfl))))))))
noncomputable abbrev df:Stmt:=inClass (top 19) 3
theorem cj:FnScope ["self", "head", "sign", "fresh", "node"] Qg (ah df):=by constructor <;> first | rfl | decide +kernel
theorem bD {f:Addr} {fd:FuncData} (F:Fun K "head_behind" "Nodes.head_behind" df f fd) (hm:Meth K C "head_behind" f) (B:Blt mg) (O:ObF K mg C D) (aI:MtAt P w K mg base 1 (gX K C D) 0 "new_node" Qi [false,false,true] aF) (aP:MtAt P w K mg base 2 (gX K C D) 0 "node_just_behind" Qk [false,false] av) :
  MtAt P w K mg base 3 (gX K C D) 0 "head_behind" Qg [false,false] bE:=kJ F hm O.cl_Nodes (gb (by decide +kernel) (by decide +kernel)) cj rfl rfl (fun _ _ _ _ _ _ us hl=>by obtain ⟨_,_,_,rfl⟩:=L2.pG hl;rfl) fun _ _ _ _ _ _ _ hr =>
  (af (cN (AA hr (qv 2 rfl) (bB (w_fld gJ (dJ O) (qv 0 rfl) rfl) (qv 1 rfl) (fun _ _=>rfl) rfl) (by with_unfolding_all rfl) rfl) (ar (sT (g8 gJ aP.at hr (by decide) (bt 0 rfl (Or.inl rfl) rfl rfl) (ae (qv 1 rfl) (ae (qv 2 rfl) ak rfl) rfl) rfl rfl rfl))) bU)
  (af (bV (g8 gJ aI.at hr (by decide) (bt 0 rfl (Or.inl rfl) rfl rfl) (ae (w_add (bB (w_fld gJ (eT O) (qv 0 rfl) rfl) (qv 1 rfl) (fun _ _=>rfl) rfl) ai) (ae ai (ae yd ak rfl) rfl) rfl) rfl rfl rfl) cj.nd rfl Q3 rfl Q3)
  (af (aE (qv 1 rfl) cj.nd rfl Q3 rfl Q3)
  (af (gI Z1 (PVW.pvt (o7 (jK (qv 4 rfl)) (lP (xA hr (qv 2 rfl) (bB (w_fld gJ (dJ O) (qv 0 rfl) rfl) (qv 4 rfl) (fun _ _=>rfl) rfl) (by with_unfolding_all rfl) rfl))))
  (af (iR gJ hr (Ao hr (fu 3 (dJ O) (bt 0 rfl (Or.inl rfl) rfl rfl) rfl) (qv 4 rfl) (fun _ _=>rfl) rfl) (qv 2 rfl) (qv 3 rfl) (fun _=>rfl) rfl rfl rfl)
  (ar (aE (bB (w_fld gJ (eW O) (qv 0 rfl) rfl) (qv 4 rfl) (fun _ _=>rfl) rfl) cj.nd rfl Q3 rfl Q3))))
  (af (cN (jK (qv 4 rfl)) (ar (oX gJ hr (fu 2 (eW O) (bt 0 rfl (Or.inl rfl) rfl rfl) rfl) (qv 3 rfl) (g8 gJ aP.at hr (by decide) (bt 0 rfl (Or.inl rfl) rfl rfl) (ae (qv 4 rfl) (ae (qv 2 rfl) ak rfl) rfl) rfl rfl rfl) (fun _=>rfl) rfl rfl rfl)) bU)
  (ar (cP 3 rfl (Or.inl rfl) rfl rfl)))))))
noncomputable abbrev dB:Stmt:=inClass (top 19) 2
theorem da:FnScope ["self", "head", "word", "sign"] Qh (ah dB):=by constructor <;> first | rfl | decide +kernel
theorem bR {f:Addr} {fd:FuncData} (F:Fun K "head_grown" "Nodes.head_grown" dB f fd) (hm:Meth K C "head_grown" f) (B:Blt mg) (O:ObF K mg C D) (bD:MtAt P w K mg base 3 (gX K C D) 0 "head_behind" Qg [false,false] bE) :
  MtAt P w K mg base 4 (gX K C D) 0 "head_grown" Qh [false,false] aK:=kJ F hm O.cl_Nodes (gb (by decide +kernel) (by decide +kernel)) da rfl rfl (fun _ _ _ _ _ _ us hl=>by obtain ⟨_,_,_,rfl⟩:=L2.pG hl;rfl) fun _ _ _ _ _ _ _ hr =>
  (af (eQ Z1 rfl (fH (qv 2 rfl) rfl) (bw 3 da.nd rfl Q3 Q3)
  (ar (bV (g8 gJ bD.at hr (by decide) (bt 0 rfl (Or.inl rfl) rfl rfl) (ae (qv 1 rfl) (ae (qv 3 rfl) ak rfl) rfl) rfl rfl rfl) da.nd rfl Q3 rfl Q3)) (fun _=>rfl))
  (ar (cP 1 rfl (Or.inl rfl) rfl rfl)))
noncomputable abbrev cy:Stmt:=inClass (top 19) 6
theorem aH:FnScope ["self", "numbers", "met", "done", "ways", "sign"] Qm (ah cy):=by constructor <;> first | rfl | decide +kernel
theorem aW {m:Me} {f:Addr} {fd:FuncData} (F:Fun K "numbers_by_node" "Nodes.numbers_by_node" cy f fd) (hm:Meth K C "numbers_by_node" f) (B:Blt mg) (O:ObF K mg C D) :
  MpAt P w K mg base 1 ((gX K C D).at m) 0 "numbers_by_node" Qm aC:=lU F hm O.cl_Nodes (gb (by decide +kernel) (by decide +kernel)) aH rfl rfl (fun _ _ _ _ _ _ us hl=>by obtain ⟨_,rfl⟩:=L2.nq hl;rfl) fun _ _ _ _ _ _ hr =>
  (af (eJ AV aH.nd rfl Q3 rfl Q3)
  (af (eJ (cM (ae ai ak rfl)) aH.nd rfl Q3 rfl Q3)
  (af (aE ai aH.nd rfl Q3 rfl Q3)
  (af (gI Z1 (fC mI qL iL (qv 3 rfl) (dZ B.b_len (ae (qv 2 rfl) ak rfl) rfl rfl rfl) (ie _))
  (af (aE (bB (w_fld gJ (dJ O) (qv 0 rfl) rfl) (bB (qv 2 rfl) (qv 3 rfl) (fun _ _=>rfl) rfl) (fun _ _=>rfl) rfl) aH.nd rfl Q3 rfl Q3)
  (af (eQ Z1 rfl (fH (sR B.b_sorted (ae (qv 4 rfl) ak rfl) rfl rfl rfl rfl) rfl) (bw 5 aH.nd rfl Q3 Q3)
  (ar (cN (xA hr (uj hr (qv 4 rfl) (qv 5 rfl) (fun _ _=>rfl) rfl) (qv 1 rfl) (by with_unfolding_all rfl) rfl) (af (BA 1 hr (uj hr (qv 4 rfl) (qv 5 rfl) (fun _ _=>rfl) rfl) (dZ B.b_len (ae (qv 2 rfl) ak rfl) rfl rfl rfl) rfl Q3 rfl rfl (fun _=>rfl) rfl rfl rfl)
  (ar (gF 2 (ae (uj hr (qv 4 rfl) (qv 5 rfl) (fun _ _=>rfl) rfl) ak rfl) rfl rfl Q3 rfl rfl rfl rfl rfl))) bU)) (fun _=>rfl))
  (ar (aE (w_add (qv 3 rfl) ai) aH.nd rfl Q3 rfl Q3)))))
  (oM 2 (ar (cP 1 rfl (Or.inl rfl) rfl rfl)))))))
noncomputable abbrev fS:Stmt:=inClass (top 19) 7
theorem dv:FnScope ["self", "node", "numbers", "link", "ways", "steps"] Qj (ah fS):=by constructor <;> first | rfl | decide +kernel
theorem cX {m:Me} {f:Addr} {fd:FuncData} (F:Fun K "row_of" "Nodes.row_of" fS f fd) (hm:Meth K C "row_of" f) (B:Blt mg) (O:ObF K mg C D) :
  MpAt P w K mg base 1 ((gX K C D).at m) 0 "row_of" Qj bO:=lU F hm O.cl_Nodes (gb (by decide +kernel) (by decide +kernel)) dv rfl rfl (fun _ _ _ _ _ _ us hl=>by obtain ⟨_,_,_,rfl⟩:=L2.pG hl;rfl) fun _ _ _ _ _ _ hr =>
  (af (aE (bB (w_fld gJ (eW O) (qv 0 rfl) rfl) (qv 1 rfl) (fun _ _=>rfl) rfl) dv.nd rfl Q3 rfl Q3)
  (af (aE (bB (w_fld gJ (dJ O) (qv 0 rfl) rfl) (qv 1 rfl) (fun _ _=>rfl) rfl) dv.nd rfl (Or.inr rfl) rfl Q3)
  (af (aE (zF B.b_tuple (ae (oO 1 Qn rfl (fH (sR B.b_sorted (ae (dH 4 rfl (Or.inr Q3) rfl rfl) ak rfl) rfl rfl rfl rfl) rfl) (iZ (by decide)) (fun _ _ _ _ _=>(bw 0 (show List.Nodup Qn from by decide +kernel) rfl Q3 (Or.inr rfl))) (fun _ _ _ _ _=>(kz (ae (qv 0 rfl) (ae (Ah hr (dH 3 rfl (Or.inr Q3) rfl rfl) (uj hr (dH 5 rfl (Or.inr Q3) rfl rfl) (qv 0 rfl) (fun _ _=>rfl) rfl) (fun _ _=>rfl) rfl) ak rfl) rfl))) rfl rfl (by decide) (fun _=>rfl)) ak rfl) rfl rfl rfl) dv.nd rfl Q3 rfl Q3)
  (af (cN (Bd (qv 3 rfl)) (ar (b6 (kz (ae ai (ae ai (ae vh (ae (qv 5 rfl) ak rfl) rfl) rfl) rfl)))) bU)
  (ar (b6 (kz (ae (w_add (bB (w_fld gJ (eT O) (qv 0 rfl) rfl) (qv 3 rfl) (fun _ _=>rfl) rfl) ai) (ae (bB (w_fld gJ (eT O) (qv 0 rfl) rfl) (qv 1 rfl) (fun _ _=>rfl) rfl) (ae (Ah hr (dH 2 rfl (Or.inr Q3) rfl rfl) (qv 3 rfl) (fun _ _=>rfl) rfl) (ae (qv 5 rfl) ak rfl) rfl) rfl) rfl))))))))
noncomputable abbrev gD:Stmt:=inClass (top 19) 5
theorem iD:FnScope ["self", "numbers"] Qm (ah gD):=by constructor <;> first | rfl | decide +kernel
theorem dj {m:Me} {f:Addr} {fd:FuncData} (F:Fun K "table" "Nodes.table" gD f fd) (hm:Meth K C "table" f) (B:Blt mg) (O:ObF K mg C D) (aW:∀ m,MpAt P w K mg base 1 ((gX K C D).at m) 0 "numbers_by_node" Qm aC) (cX:∀ m,MpAt P w K mg base 1 ((gX K C D).at m) 0 "row_of" Qj bO) :
  MpAt P w K mg base 2 ((gX K C D).at m) 0 "table" Qm dn:=lU F hm O.cl_Nodes (gb (by decide +kernel) (by decide +kernel)) iD rfl rfl (fun _ _ _ _ _ _ us hl=>by obtain ⟨_,rfl⟩:=L2.nq hl;rfl) fun _ _ _ _ _ _ hr =>
  (af (eJ (l7 (aW _) hr (by decide) (dH 0 rfl (Or.inr Q3) rfl rfl) rfl) iD.nd rfl (Or.inr rfl) rfl Q3)
  (ar (Bs 1 ["node", "self", "numbers"] rfl rfl (Or.inr Q3) rfl rfl (iZ (by decide)) (fun _ _ _ _ _=>(bw 0 (show List.Nodup (["node", "self", "numbers"]:List Str) from by decide +kernel) rfl Q3 (Or.inr rfl))) (fun _ _ _ _ _=>(zj (cX _) hr (by decide) (dH 1 rfl (Or.inr Q3) rfl rfl) (ae (qv 0 rfl) (ae (dH 2 rfl (Or.inr Q3) rfl rfl) ak rfl) rfl) rfl rfl rfl)) rfl rfl (by decide) (fun _=>rfl))))
noncomputable abbrev fz:Stmt:=inClass (top 21) 1
theorem kW:FnScope Qm Qm (ah fz):=by constructor <;> first | rfl | decide +kernel
theorem cI {f:Addr} {fd:FuncData} (F:Fun K "begin" "Machine.begin" fz f fd) (hm:Meth K D "begin" f) (B:Blt mg) (O:ObF K mg C D) :
  MtAt P w K mg base 1 (gX K C D) 1 "begin" Qm [] bg:=kJ F hm O.cl_Machine (gb (by decide +kernel) (by decide +kernel)) kW rfl rfl (fun _ _ _ _ _ _ us hl=>by obtain ⟨_,rfl⟩:=L2.nq hl;rfl) fun _ _ _ _ _ _ _ hr =>
  (af (cN (Dj (dZ B.b_len (ae (w_fld gJ (dX O) (qv 0 rfl) rfl) ak rfl) rfl rfl rfl) (tF B.c_MOST_TEXTS rfl rfl)) (ar oG) bU)
  (af (pw gJ (fu 4 (dX O) (bt 0 rfl (Or.inl rfl) rfl rfl) rfl) (ae (kM (by decide +kernel) (by decide)) ak rfl) rfl rfl rfl rfl rfl rfl rfl)
  (af (pw gJ (fu 5 (j8 O) (bt 0 rfl (Or.inl rfl) rfl rfl) rfl) (ae ai ak rfl) rfl rfl rfl rfl rfl rfl rfl)
  (ar (b6 (iU oR oC (dZ B.b_len (ae (w_fld gJ (dX O) (qv 0 rfl) rfl) ak rfl) rfl rfl rfl) ai))))))
noncomputable abbrev jC:Stmt:=top 8
theorem qh:FnScope ["thing"] ["thing"] (ah jC):=by constructor <;> first | rfl | decide +kernel
theorem cW {m:Me} {f:Addr} {fd:FuncData} (F:Fun K "is_whole" "is_whole" jC f fd) (hm:mg "is_whole" = some (.ref f)) (B:Blt mg) (O:ObF K mg C D) :
  FnAt P w K mg base 1 "is_whole" ["thing"] ((gX K C D).at m) fR:=jh F hm qh rfl rfl (fun _ _ _ _ _ _ us hl=>by obtain ⟨_,rfl⟩:=L2.nq hl;rfl) fun _ _ _ _ _ _ hr =>
  (ar (b6 (BZ (w_is .int B.b_isinstance B.b_int (qv 0 rfl) rfl rfl rfl rfl) (Cs (Cq (w_is .bool B.b_isinstance B.b_bool (qv 0 rfl) rfl rfl rfl rfl))))))
noncomputable abbrev eE:Stmt:=top 9
theorem jL:FnScope Qf Qf (ah eE):=by constructor <;> first | rfl | decide +kernel
theorem cw {m:Me} {f:Addr} {fd:FuncData} (F:Fun K "refuse_no_text" "refuse_no_text" eE f fd) (hm:mg "refuse_no_text" = some (.ref f)) (B:Blt mg) (O:ObF K mg C D) (cW:∀ m,FnAt P w K mg base 1 "is_whole" ["thing"] ((gX K C D).at m) fR) :
  FnAt P w K mg base 2 "refuse_no_text" Qf ((gX K C D).at m) aX:=jh F hm jL rfl rfl (fun _ _ _ _ _ _ us hl=>by obtain ⟨_,_,rfl⟩:=L2.dN hl;rfl) fun _ _ _ _ _ _ hr =>
  (ar (cN (PVW.pvt (oK (i4 (ki (fi (cW _) hr (ae (qv 1 rfl) ak rfl) (by decide) rfl rfl rfl rfl) rfl (fun _=>rfl))) (rW (i4 (iC ai (qv 1 rfl) (dZ B.b_len (ae (qv 0 rfl) ak rfl) rfl rfl rfl) (by with_unfolding_all rfl)))))) (ar oG) bU))
noncomputable abbrev jv:Stmt:=top 10
theorem qI:FnScope ["book"] ["book"] (ah jv):=by constructor <;> first | rfl | decide +kernel
theorem fQ {m:Me} {f:Addr} {fd:FuncData} (F:Fun K "signs_in" "signs_in" jv f fd) (hm:mg "signs_in" = some (.ref f)) (B:Blt mg) (O:ObF K mg C D) :
  FnAt P w K mg base 1 "signs_in" ["book"] ((gX K C D).at m) gg:=jh F hm qI rfl rfl (fun _ _ _ _ _ _ us hl=>by obtain ⟨_,rfl⟩:=L2.nq hl;rfl) fun _ _ _ _ _ _ hr =>
  (ar (b6 (w_sum B.b_sum (ae (oO 1 ["text", "book"] rfl (fH (qv 0 rfl) rfl) (iZ (by decide)) (fun _ _ _ _ _=>(bw 0 (show List.Nodup (["text", "book"]:List Str) from by decide +kernel) rfl Q3 (Or.inr rfl))) (fun _ _ _ _ _=>(dZ B.b_len (ae (qv 0 rfl) ak rfl) rfl rfl rfl)) rfl rfl (by decide) (fun _=>rfl)) ak rfl) rfl rfl rfl rfl)))
noncomputable abbrev fO:Stmt:=inClass (top 21) 2
theorem lC:FnScope Ql Ql (ah fO):=by constructor <;> first | rfl | decide +kernel
theorem cQ {f:Addr} {fd:FuncData} (F:Fun K "grow" "Machine.grow" fO f fd) (hm:Meth K D "grow" f) (B:Blt mg) (O:ObF K mg C D) (bR:MtAt P w K mg base 4 (gX K C D) 0 "head_grown" Qh [false,false] aK) (cw:∀ m,FnAt P w K mg base 2 "refuse_no_text" Qf ((gX K C D).at m) aX) (fQ:∀ m,FnAt P w K mg base 1 "signs_in" ["book"] ((gX K C D).at m) gg) :
  MtAt P w K mg base 5 (gX K C D) 1 "grow" Ql [false,false] bf:=kJ F hm O.cl_Machine (gb (by decide +kernel) (by decide +kernel)) lC rfl rfl (fun _ _ _ _ _ _ us hl=>by obtain ⟨_,_,_,rfl⟩:=L2.pG hl;rfl) fun _ _ _ _ _ _ _ hr =>
  (af (vr (fi (cw _) hr (ae (w_fld gJ (dX O) (qv 0 rfl) rfl) (ae (qv 1 rfl) ak rfl) rfl) (by decide) rfl rfl rfl rfl) rfl)
  (af (cN (ua (w_add (fi (fQ _) hr (ae (w_fld gJ (dX O) (qv 0 rfl) rfl) ak rfl) (by decide) rfl rfl rfl rfl) (dZ B.b_len (ae (qv 2 rfl) ak rfl) rfl rfl rfl)) (tF B.c_MOST_SIGNS rfl rfl)) (ar oG) bU)
  (af (oX gJ hr (fu 5 (j8 O) (bt 0 rfl (Or.inl rfl) rfl rfl) rfl) (qv 1 rfl) (g8 gJ bR.at hr (by decide) (fu 6 (mL O) (bt 0 rfl (Or.inl rfl) rfl rfl) rfl) (ae (bB (w_fld gJ (j8 O) (qv 0 rfl) rfl) (qv 1 rfl) (fun _ _=>rfl) rfl) (ae (qv 2 rfl) ak rfl) rfl) rfl rfl rfl) (fun _=>rfl) rfl rfl rfl)
  (ar (iR gJ hr (fu 4 (dX O) (bt 0 rfl (Or.inl rfl) rfl rfl) rfl) (qv 1 rfl) (w_add (bB (w_fld gJ (dX O) (qv 0 rfl) rfl) (qv 1 rfl) (fun _ _=>rfl) rfl) (qv 2 rfl)) (fun _=>rfl) rfl rfl rfl)))))
noncomputable abbrev bP:Stmt:=inClass (top 21) 0
theorem fA:FnScope ["self", "book", "text"] ["self", "book"] (ah bP):=by constructor <;> first | rfl | decide +kernel
theorem bL {f:Addr} {fd:FuncData} (F:FunD K "__init__" "Machine.__init__" bP f fd) (hm:Mk K D f) (B:Blt mg) (O:ObF K mg C D) (cI:MtAt P w K mg base 1 (gX K C D) 1 "begin" Qm [] bg) (cQ:MtAt P w K mg base 5 (gX K C D) 1 "grow" Ql [false,false] bf) (cu:InAt P w K mg base 2 (gX K C D) 0 0 "Nodes" Qm c8) :
  InAt P w K mg base 6 (gX K C D) 1 1 "Machine" ["self", "book"] aT:=ze F hm O.mg_Machine fA rfl rfl (fun _ _ _ _ _ _ _ _ _ _ us X ho hs hl=>by obtain ⟨_,_,rfl⟩:=L2.dN hl;exact PySem.W.binds_K X rfl ho hs rfl rfl) fun _ _ _ _ _ _ _ hr =>
  (af (kN 0 4 gJ (dX O) (cM ak) rfl Q3 rfl rfl rfl)
  (af (kN 0 5 gJ (j8 O) (cM ak) rfl Q3 rfl rfl rfl)
  (af (kN 0 6 gJ (mL O) (yY cu.at hr (by decide) rfl rfl) rfl Q3 rfl rfl rfl)
  (ar (cN (jK (qv 1 rfl)) (ar (eQ Z1 rfl (fH (qv 1 rfl) rfl) (bw 2 fA.nd rfl Q3 Q3)
  (ar (p9 (AY cQ.at hr (by decide) rfl Q3 rfl rfl (wZ gJ cI.at hr (by decide) (bt 0 rfl (Or.inl rfl) rfl rfl) rfl) (ae (qv 2 rfl) ak rfl) rfl rfl rfl) rfl)) (fun _=>rfl))) bU)))))
noncomputable abbrev gf:Stmt:=inClass (top 21) 3
theorem lG:FnScope Qm Qm (ah gf):=by constructor <;> first | rfl | decide +kernel
theorem iQ {m:Me} {f:Addr} {fd:FuncData} (F:Fun K "book" "Machine.book" gf f fd) (hm:Meth K D "book" f) (B:Blt mg) (O:ObF K mg C D) :
  MpAt P w K mg base 1 ((gX K C D).at m) 1 "book" Qm mD:=lU F hm O.cl_Machine (gb (by decide +kernel) (by decide +kernel)) lG rfl rfl (fun _ _ _ _ _ _ us hl=>by obtain ⟨_,rfl⟩:=L2.nq hl;rfl) fun _ _ _ _ _ _ hr =>
  (ar (b6 (t8 B.b_list (ae (w_fld gJ (dX O) (qv 0 rfl) rfl) ak rfl) rfl rfl rfl rfl)))
noncomputable abbrev fm:Stmt:=inClass (top 21) 4
theorem kR:FnScope Qm Qm (ah fm):=by constructor <;> first | rfl | decide +kernel
theorem cK {m:Me} {f:Addr} {fd:FuncData} (F:Fun K "table" "Machine.table" fm f fd) (hm:Meth K D "table" f) (B:Blt mg) (O:ObF K mg C D) (dj:∀ m,MpAt P w K mg base 2 ((gX K C D).at m) 0 "table" Qm dn) :
  MpAt P w K mg base 3 ((gX K C D).at m) 1 "table" Qm bY:=lU F hm O.cl_Machine (gb (by decide +kernel) (by decide +kernel)) kR rfl rfl (fun _ _ _ _ _ _ us hl=>by obtain ⟨_,rfl⟩:=L2.nq hl;rfl) fun _ _ _ _ _ _ hr =>
  (ar (b6 (l7 (dj _) hr (by decide) (w_fld gJ (mL O) (qv 0 rfl) rfl) rfl)))
noncomputable abbrev dS:Stmt:=top 12
theorem jB:FnScope Qp Qp (ah dS):=by constructor <;> first | rfl | decide +kernel
theorem cf {m:Me} {f:Addr} {fd:FuncData} (F:Fun K "refuse_no_stand" "refuse_no_stand" dS f fd) (hm:mg "refuse_no_stand" = some (.ref f)) (B:Blt mg) (O:ObF K mg C D) (cW:∀ m,FnAt P w K mg base 1 "is_whole" ["thing"] ((gX K C D).at m) fR) :
  FnAt P w K mg base 2 "refuse_no_stand" Qp ((gX K C D).at m) bA:=jh F hm jB rfl rfl (fun _ _ _ _ _ _ us hl=>by obtain ⟨_,_,rfl⟩:=L2.dN hl;rfl) fun _ _ _ _ _ _ hr =>
  (ar (cN (PVW.pvt (oK (i4 (ki (fi (cW _) hr (ae (qv 1 rfl) ak rfl) (by decide) rfl rfl rfl rfl) rfl (fun _=>rfl))) (rW (i4 (iC ai (qv 1 rfl) (dZ B.b_len (ae (qv 0 rfl) ak rfl) rfl rfl rfl) (by with_unfolding_all rfl)))))) (ar oG) bU))
noncomputable abbrev oi:Stmt:=top 14
theorem mw:FnScope ["table", "stand", "met"] Qp (ah oi):=by constructor <;> first | rfl | decide +kernel
theorem jP {m:Me} {f:Addr} {fd:FuncData} (F:Fun K "chain" "chain" oi f fd) (hm:mg "chain" = some (.ref f)) (B:Blt mg) (O:ObF K mg C D) (cf:∀ m,FnAt P w K mg base 2 "refuse_no_stand" Qp ((gX K C D).at m) bA) :
  FnAt P w K mg base 3 "chain" Qp ((gX K C D).at m) iX:=jh F hm mw rfl rfl (fun _ _ _ _ _ _ us hl=>by obtain ⟨_,_,rfl⟩:=L2.dN hl;rfl) fun _ _ _ _ _ _ hr =>
  (af (vr (fi (cf _) hr (ae (qv 0 rfl) (ae (qv 1 rfl) ak rfl) rfl) (by decide) rfl rfl rfl rfl) rfl)
  (af (eJ (cM ak) mw.nd rfl Q3 rfl Q3)
  (af (gI Z1 (jK (qv 1 rfl))
  (af (gF 2 (ae (qv 1 rfl) ak rfl) rfl rfl Q3 rfl rfl rfl rfl rfl)
  (ar (aE (bB (bB (qv 0 rfl) (qv 1 rfl) (fun _ _=>rfl) rfl) ai (fun _ _=>rfl) rfl) mw.nd rfl Q3 rfl Q3))))
  (ar (cP 2 rfl (Or.inl rfl) rfl rfl)))))
noncomputable abbrev gw:Stmt:=top 17
theorem gh:FnScope ["table", "stand", "long", "sign", "kept", "ways"] Qo (ah gw):=by constructor <;> first | rfl | decide +kernel
theorem dm {m:Me} {f:Addr} {fd:FuncData} (F:Fun K "tail_behind" "tail_behind" gw f fd) (hm:mg "tail_behind" = some (.ref f)) (B:Blt mg) (O:ObF K mg C D) (jP:∀ m,FnAt P w K mg base 3 "chain" Qp ((gX K C D).at m) iX) :
  FnAt P w K mg base 4 "tail_behind" Qo ((gX K C D).at m) di:=jh F hm gh rfl rfl (fun _ _ _ _ _ _ us hl=>by obtain ⟨_,_,_,_,rfl⟩:=L2.CC hl;rfl) fun _ _ _ _ _ _ hr =>
  (af (eQ Z1 rfl (fH (fi (jP _) hr (ae (qv 0 rfl) (ae (qv 1 rfl) ak rfl) rfl) (by decide) rfl rfl rfl rfl) rfl) (bw 4 gh.nd rfl Q3 Q3)
  (af (aE (yq B.b_dict (ae (bB (bB (qv 0 rfl) (qv 4 rfl) (fun _ _=>rfl) rfl) ai (fun _ _=>rfl) rfl) ak rfl) rfl rfl rfl) gh.nd rfl Q3 rfl Q3)
  (ar (cN (AA hr (qv 3 rfl) (qv 5 rfl) (by with_unfolding_all rfl) rfl) (ar (b6 (kz (ae (uj hr (qv 5 rfl) (qv 3 rfl) (fun _ _=>rfl) rfl) (ae (w_add (B3 B.b_min (ae (qv 2 rfl) (ae (bB (bB (qv 0 rfl) (qv 4 rfl) (fun _ _=>rfl) rfl) ai (fun _ _=>rfl) rfl) ak rfl) rfl) rfl rfl rfl rfl) ai) ak rfl) rfl)))) bU))) (fun _=>rfl))
  (ar (b6 (kz (ae ai (ae ai ak rfl) rfl)))))
noncomputable abbrev ku:Stmt:=top 16
theorem fT:FnScope ["table", "word", "tail", "found", "sign"] ["table", "word"] (ah ku):=by constructor <;> first | rfl | decide +kernel
theorem gM {m:Me} {f:Addr} {fd:FuncData} (F:Fun K "matches" "matches" ku f fd) (hm:mg "matches" = some (.ref f)) (B:Blt mg) (O:ObF K mg C D) (dm:∀ m,FnAt P w K mg base 4 "tail_behind" Qo ((gX K C D).at m) di) :
  FnAt P w K mg base 5 "matches" ["table", "word"] ((gX K C D).at m) fI:=jh F hm fT rfl rfl (fun _ _ _ _ _ _ us hl=>by obtain ⟨_,_,rfl⟩:=L2.dN hl;rfl) fun _ _ _ _ _ _ hr =>
  (af (aE (kz (ae ai (ae ai ak rfl) rfl)) fT.nd rfl Q3 rfl Q3)
  (af (eJ (cM (ae ai ak rfl)) fT.nd rfl Q3 rfl Q3)
  (af (eQ Z1 rfl (fH (qv 1 rfl) rfl) (bw 4 fT.nd rfl Q3 Q3)
  (af (aE (fi (dm _) hr (ae (qv 0 rfl) (ae (bB (qv 2 rfl) ai (fun _ _=>rfl) rfl) (ae (bB (qv 2 rfl) ai (fun _ _=>rfl) rfl) (ae (qv 4 rfl) ak rfl) rfl) rfl) rfl) (by decide) rfl rfl rfl rfl) fT.nd rfl Q3 rfl Q3)
  (ar (gF 3 (ae (bB (qv 2 rfl) ai (fun _ _=>rfl) rfl) ak rfl) rfl rfl Q3 rfl rfl rfl rfl rfl))) (fun _=>rfl))
  (ar (cP 3 rfl (Or.inl rfl) rfl rfl)))))
noncomputable abbrev hZ:Stmt:=top 23
theorem br:FnScope ["_law_script", "_law_k", "_law_cell", "_law_left", "_law_number", "_law_turn", "_law_more"] Q8 (ah hZ):=by constructor <;> first | rfl | decide +kernel
theorem c7 {m:Me} {f:Addr} {fd:FuncData} (F:Fun K "_law_spring" "_law_spring" hZ f fd) (hm:mg "_law_spring" = some (.ref f)) (B:Blt mg) (O:ObF K mg C D) :
  FnAt P w K mg base 1 "_law_spring" Q8 ((gX K C D).at m) b7:=jh F hm br rfl rfl (fun _ _ _ _ _ _ us hl=>by obtain ⟨_,_,rfl⟩:=L2.dN hl;rfl) fun _ _ _ _ _ _ hr =>
  (af (aE (w_add (w_mul (qv 1 rfl) ai) ai) br.nd rfl Q3 rfl Q3)
  (af (cN (ua (dZ B.b_len (ae (qv 0 rfl) ak rfl) rfl rfl rfl) ai) (ar (aE (w_add (bB (qv 0 rfl) (w_mod (qv 1 rfl) (dZ B.b_len (ae (qv 0 rfl) ak rfl) rfl rfl rfl)) (fun _ _=>rfl) rfl) (w_mul (iU lS lR (qv 1 rfl) (dZ B.b_len (ae (qv 0 rfl) ak rfl) rfl rfl rfl)) ai)) br.nd rfl Q3 rfl Q3)) bU)
  (af (cN (tj hr (w_mod (qv 2 rfl) ai) ai) (ar (b6 (cM (ae (iU lS lR (qv 2 rfl) ai) ak rfl)))) bU)
  (af (aE (w_mod (w_add (iU lS lR (qv 2 rfl) ai) (w_mul ai (qv 1 rfl))) ai) br.nd rfl Q3 rfl Q3)
  (af (aE ai br.nd rfl Q3 rfl Q3)
  (af (eQ Z1 rfl (eA ai rfl B.b_range rfl rfl) (bw 5 br.nd rfl Q3 Q3)
  (af (aE (w_mod (w_add (w_add (w_mul (qv 3 rfl) ai) (w_mul ai (qv 5 rfl))) ai) ai) br.nd rfl Q3 rfl Q3)
  (af (aE (w_mod (w_mul (qv 3 rfl) (qv 3 rfl)) ai) br.nd rfl Q3 rfl Q3)
  (ar (aE (w_add (w_mul (qv 4 rfl) ai) (w_mod (w_mul (qv 6 rfl) (w_add (w_mod (qv 6 rfl) ai) ai)) ai)) br.nd rfl Q3 rfl Q3)))) (fun _=>rfl))
  (ar (b6 (cM (ae (qv 4 rfl) ak rfl))))))))))
noncomputable abbrev jt:Stmt:=top 24
theorem lA:FnScope ["_law_spring_here", "_law_most", "_law_digit"] Qa (ah jt):=by constructor <;> first | rfl | decide +kernel
theorem aw {m:Me} {f:Addr} {fd:FuncData} (F:Fun K "_law_next" "_law_next" jt f fd) (hm:mg "_law_next" = some (.ref f)) (B:Blt mg) (O:ObF K mg C D) :
  IoAt P w K mg base 1 "_law_next" Qa ((gX K C D).at m) [false] au:=ma F hm lA rfl rfl (fun _ _ _ _ _ _ us hl=>by obtain ⟨_,_,rfl⟩:=L2.dN hl;rfl) fun _ _ _ _ _ _ _ hr =>
  (af (aE (w_mod (bB (Dr (qv 0 rfl)) ai (fun _ _=>rfl) rfl) (qv 1 rfl)) lA.nd rfl Q3 rfl Q3)
  (af (iR gJ hr (C0 (bt 0 rfl (Or.inl rfl) rfl rfl)) ai (iU lS lR (bB (Dr (qv 0 rfl)) ai (fun _ _=>rfl) rfl) (qv 1 rfl)) (fun _=>rfl) rfl rfl rfl)
  (ar (cP 2 rfl (Or.inl rfl) rfl rfl))))
noncomputable abbrev jm:Stmt:=top 25
theorem pK:FnScope Qb Qb (ah jm):=by constructor <;> first | rfl | decide +kernel
theorem cE {m:Me} {f:Addr} {fd:FuncData} (F:Fun K "_law_text" "_law_text" jm f fd) (hm:mg "_law_text" = some (.ref f)) (B:Blt mg) (O:ObF K mg C D) (aw:∀ m,IoAt P w K mg base 1 "_law_next" Qa ((gX K C D).at m) [false] au) :
  IoAt P w K mg base 2 "_law_text" Qb ((gX K C D).at m) [false,false] cT:=ma F hm pK rfl rfl (fun _ _ _ _ _ _ us hl=>by obtain ⟨_,_,_,rfl⟩:=L2.pG hl;rfl) fun _ _ _ _ _ _ _ hr =>
  (ar (sT (yL (kM (by decide +kernel) (by decide)) (xQ Q6 rfl rfl B.b_range (bj (aw _) hr (bM 0 true rfl (Or.inr Q3) rfl rfl (bC (ay (w_add (qv 2 rfl) ai)) bc rfl) rfl) (by decide) rfl rfl rfl rfl) (fun _ _ _ _ _=>L2.sV (show List.Nodup Q6 from by decide +kernel) rfl Q3 (Or.inr rfl)) (fun _ _ _ _ _=>(Av (ay (dH 2 rfl (Or.inr Q3) rfl rfl)) (bj (aw _) hr (bM 1 true rfl (Or.inr Q3) rfl rfl (bC (ay (dZ B.b_len (ae (dH 2 rfl (Or.inr Q3) rfl rfl) ak rfl) rfl rfl rfl)) bc rfl) rfl) (by decide) rfl rfl rfl rfl) (fun _ _=>rfl) rfl)) rfl rfl rfl rfl (by decide) (fun _=>rfl)) rfl rfl rfl rfl rfl rfl)))
noncomputable abbrev iO:Stmt:=top 26
theorem dQ:FnScope ["_law_spring_here", "_law_letters", "_law_few", "_law_start", "_law_step"] Qd (ah iO):=by constructor <;> first | rfl | decide +kernel
theorem eZ {m:Me} {f:Addr} {fd:FuncData} (F:Fun K "_law_signs" "_law_signs" iO f fd) (hm:mg "_law_signs" = some (.ref f)) (B:Blt mg) (O:ObF K mg C D) (aw:∀ m,IoAt P w K mg base 1 "_law_next" Qa ((gX K C D).at m) [false] au) :
  IoAt P w K mg base 2 "_law_signs" Qd ((gX K C D).at m) [] gr:=ma F hm dQ rfl rfl (fun _ _ _ _ _ _ us hl=>by obtain ⟨_,rfl⟩:=L2.nq hl;rfl) fun _ _ _ _ _ _ _ hr =>
  (af (aE (kM (by decide +kernel) (by decide)) dQ.nd rfl (Or.inr rfl) rfl Q3)
  (af (bV (pf (cM (ae ai (ae ai (ae ai (ae ai (ae ai (ae ai (ae ai (ae ai ak rfl) rfl) rfl) rfl) rfl) rfl) rfl) rfl)) (bj (aw _) hr (bM 0 true rfl (Or.inl rfl) rfl rfl (bC (ay ai) bc rfl) rfl) (by decide) rfl rfl rfl rfl) (fun _ _=>rfl) rfl) dQ.nd rfl Q3 rfl Q3)
  (af (bV (bj (aw _) hr (bM 0 true rfl (Or.inl rfl) rfl rfl (bC (ay ai) bc rfl) rfl) (by decide) rfl rfl rfl rfl) dQ.nd rfl (Or.inr rfl) rfl Q3)
  (af (bV (pf (cM (ae ai (ae ai (ae ai (ae ai ak rfl) rfl) rfl) rfl)) (bj (aw _) hr (bM 0 true rfl (Or.inl rfl) rfl rfl (bC (ay ai) bc rfl) rfl) (by decide) rfl rfl rfl rfl) (fun _ _=>rfl) rfl) dQ.nd rfl (Or.inr rfl) rfl Q3)
  (ar (b6 (yM (kM (by decide +kernel) (by decide)) (ae (oO 1 Q5 rfl (eA (qv 2 rfl) rfl B.b_range rfl rfl) (iZ (by decide)) (fun _ _ _ _ _=>(bw 0 (show List.Nodup Q5 from by decide +kernel) rfl Q3 (Or.inr rfl))) (fun _ _ _ _ _=>(bB (dH 2 rfl (Or.inr Q3) rfl rfl) (w_mod (w_add (dH 4 rfl (Or.inr Q3) rfl rfl) (w_mul (dH 5 rfl (Or.inr Q3) rfl rfl) (qv 0 rfl))) ai) (fun _ _=>rfl) rfl)) rfl rfl (by decide) (fun _=>rfl)) ak rfl) rfl rfl rfl rfl rfl rfl)))))))
noncomputable abbrev ju:Stmt:=top 27
theorem cV:FnScope ["_law_spring_here", "_law_signs_here", "_law_many", "_law_book_here", "_law_k", "_law_text_here", "_law_old"] Qc (ah ju):=by constructor <;> first | rfl | decide +kernel
theorem fW {m:Me} {f:Addr} {fd:FuncData} (F:Fun K "_law_book" "_law_book" ju f fd) (hm:mg "_law_book" = some (.ref f)) (B:Blt mg) (O:ObF K mg C D) (aw:∀ m,IoAt P w K mg base 1 "_law_next" Qa ((gX K C D).at m) [false] au) (cE:∀ m,IoAt P w K mg base 2 "_law_text" Qb ((gX K C D).at m) [false,false] cT) :
  IoAt P w K mg base 3 "_law_book" Qc ((gX K C D).at m) [false] hV:=ma F hm cV rfl rfl (fun _ _ _ _ _ _ us hl=>by obtain ⟨_,_,rfl⟩:=L2.dN hl;rfl) fun _ _ _ _ _ _ _ hr =>
  (af (bV (pf (cM (ae ai (ae ai (ae ai (ae ai (ae ai (ae ai (ae ai (ae ai ak rfl) rfl) rfl) rfl) rfl) rfl) rfl) rfl)) (bj (aw _) hr (bM 0 true rfl (Or.inl rfl) rfl rfl (bC (ay ai) bc rfl) rfl) (by decide) rfl rfl rfl rfl) (fun _ _=>rfl) rfl) cV.nd rfl Q3 rfl Q3)
  (af (eJ (cM ak) cV.nd rfl Q3 rfl Q3)
  (af (eQ Z1 rfl (eA (qv 2 rfl) rfl B.b_range rfl rfl) (bw 4 cV.nd rfl Q3 Q3)
  (af (bV (bj (cE _) hr (bM 0 true rfl (Or.inl rfl) rfl rfl (bC (ay (qv 1 rfl)) (bC (pf (cM (ae ai (ae ai (ae ai (ae ai ak rfl) rfl) rfl) rfl)) (bj (aw _) hr (bM 0 true rfl (Or.inl rfl) rfl rfl (bC (ay ai) bc rfl) rfl) (by decide) rfl rfl rfl rfl) (fun _ _=>rfl) rfl) bc rfl) rfl) rfl) (by decide) rfl rfl rfl rfl) cV.nd rfl Q3 rfl Q3)
  (af (vB (tD (ua (qv 4 rfl) ai) (sM (rY hr.units) vX (bj (aw _) hr (bM 0 true rfl (Or.inl rfl) rfl rfl (bC (ay ai) bc rfl) rfl) (by decide) rfl rfl rfl rfl) (ay ai) (ie _))) (af (bV (wk 3 rfl (Or.inl rfl) rfl rfl (bj (aw _) hr (bM 0 true rfl (Or.inl rfl) rfl rfl (bC (ay (qv 4 rfl)) bc rfl) rfl) (by decide) rfl rfl rfl rfl) (fun _ _=>rfl) rfl) cV.nd rfl Q3 rfl Q3)
  (ar (bV (wF (ic (wF (ay (qv 6 rfl)) (jO (bj (aw _) hr (bM 0 true rfl (Or.inl rfl) rfl rfl (bC (ay (w_add (dZ B.b_len (ae (qv 6 rfl) ak rfl) rfl rfl rfl) ai)) bc rfl) rfl) (by decide) rfl rfl rfl rfl)) qJ) (ay (qv 5 rfl))) qJ (jO (ay ai))) cV.nd rfl Q3 rfl Q3))) bU)
  (ar (gF 3 (ae (qv 5 rfl) ak rfl) rfl rfl Q3 rfl rfl rfl rfl rfl)))) (fun _=>rfl))
  (af (vB (tD (m6 ai (qv 2 rfl) ai (by with_unfolding_all rfl)) (sM (rY hr.units) vX (bj (aw _) hr (bM 0 true rfl (Or.inl rfl) rfl rfl (bC (ay ai) bc rfl) rfl) (by decide) rfl rfl rfl rfl) (ay ai) (ie _))) (ar (oX gJ hr (bt 3 rfl (Or.inl rfl) rfl rfl) ai (AC yt zH (ic (ic (ay (bB (qv 3 rfl) ai (fun _ _=>rfl) rfl)) (bj (cE _) hr (bM 0 true rfl (Or.inl rfl) rfl rfl (bC (ay (qv 1 rfl)) (bC (ay ai) bc rfl) rfl) rfl) (by decide) rfl rfl rfl rfl)) (ay (bB (qv 3 rfl) DZ (fun _ _=>rfl) rfl))) (ic (ay ai) (bj (aw _) hr (bM 0 true rfl (Or.inl rfl) rfl rfl (bC (ay ai) bc rfl) rfl) (by decide) rfl rfl rfl rfl))) (fun _=>rfl) rfl rfl rfl)) bU)
  (ar (cP 3 rfl (Or.inl rfl) rfl rfl))))))
noncomputable abbrev jl:Stmt:=top 28
theorem bZ:FnScope ["_law_spring_here", "_law_book_here", "_law_signs_here", "_law_word_here", "_law_turn", "_law_way", "_law_text_here", "_law_start"] Q9 (ah jl):=by constructor <;> first | rfl | decide +kernel
theorem fN {m:Me} {f:Addr} {fd:FuncData} (F:Fun K "_law_word" "_law_word" jl f fd) (hm:mg "_law_word" = some (.ref f)) (B:Blt mg) (O:ObF K mg C D) (aw:∀ m,IoAt P w K mg base 1 "_law_next" Qa ((gX K C D).at m) [false] au) (cE:∀ m,IoAt P w K mg base 2 "_law_text" Qb ((gX K C D).at m) [false,false] cT) :
  IoAt P w K mg base 3 "_law_word" Q9 ((gX K C D).at m) [false,false] h9:=ma F hm bZ rfl rfl (fun _ _ _ _ _ _ us hl=>by obtain ⟨_,_,_,rfl⟩:=L2.pG hl;rfl) fun _ _ _ _ _ _ _ hr =>
  (af (aE (kM (by decide +kernel) (by decide)) bZ.nd rfl Q3 rfl Q3)
  (af (Bj Z1 rfl rfl B.b_range (ic (ay ai) (bj (aw _) hr (bM 0 true rfl (Or.inl rfl) rfl rfl (bC (ay ai) bc rfl) rfl) (by decide) rfl rfl rfl rfl)) (bw 4 bZ.nd rfl Q3 Q3)
  (af (bV (bj (aw _) hr (bM 0 true rfl (Or.inl rfl) rfl rfl (bC (ay ai) bc rfl) rfl) (by decide) rfl rfl rfl rfl) bZ.nd rfl Q3 rfl Q3)
  (ar (cN (fC mI qL iL (qv 5 rfl) ai (ie _)) (ar (bV (ic (ay (qv 3 rfl)) (bj (cE _) hr (bM 0 true rfl (Or.inl rfl) rfl rfl (bC (ay (qv 2 rfl)) (bC (ay ai) bc rfl) rfl) rfl) (by decide) rfl rfl rfl rfl)) bZ.nd rfl Q3 rfl Q3)) (ar (cN (tj hr (qv 5 rfl) ai) (ar (bV (ic (ay (qv 3 rfl)) (Av (ay (kM (by decide +kernel) (by decide))) (bj (aw _) hr (bM 0 true rfl (Or.inl rfl) rfl rfl (bC (ay ai) bc rfl) rfl) (by decide) rfl rfl rfl rfl) (fun _ _=>rfl) rfl)) bZ.nd rfl Q3 rfl Q3)) (ar (cN (tM hr (qv 1 rfl) (cM ak)) (af (bV (wk 1 rfl (Or.inl rfl) rfl rfl (bj (aw _) hr (bM 0 true rfl (Or.inl rfl) rfl rfl (bC (ay (dZ B.b_len (ae (qv 1 rfl) ak rfl) rfl rfl rfl)) bc rfl) rfl) (by decide) rfl rfl rfl rfl) (fun _ _=>rfl) rfl) bZ.nd rfl Q3 rfl Q3)
  (af (bV (bj (aw _) hr (bM 0 true rfl (Or.inl rfl) rfl rfl (bC (ay (w_add (dZ B.b_len (ae (qv 6 rfl) ak rfl) rfl rfl rfl) ai)) bc rfl) rfl) (by decide) rfl rfl rfl rfl) bZ.nd rfl Q3 rfl Q3)
  (ar (bV (ic (ay (qv 3 rfl)) (wF (ay (qv 6 rfl)) (jO (ay (qv 7 rfl))) (jO (ic (ay (w_add (qv 7 rfl) ai)) (bj (aw _) hr (bM 0 true rfl (Or.inl rfl) rfl rfl (bC (ay ai) bc rfl) rfl) (by decide) rfl rfl rfl rfl))))) bZ.nd rfl Q3 rfl Q3)))) bU))))))) rfl rfl (fun _=>rfl))
  (ar (cP 3 rfl (Or.inl rfl) rfl rfl))))
noncomputable abbrev gA:Stmt:=top 29
theorem mf:FnScope Q4 Q4 (ah gA):=by constructor <;> first | rfl | decide +kernel
theorem dk {m:Me} {f:Addr} {fd:FuncData} (F:Fun K "_law_is_part" "_law_is_part" gA f fd) (hm:mg "_law_is_part" = some (.ref f)) (B:Blt mg) (O:ObF K mg C D) :
  FnAt P w K mg base 1 "_law_is_part" Q4 ((gX K C D).at m) cL:=jh F hm mf rfl rfl (fun _ _ _ _ _ _ us hl=>by obtain ⟨_,_,rfl⟩:=L2.dN hl;rfl) fun _ _ _ _ _ _ hr =>
  (ar (b6 (Ei (dZ B.b_len (ae (nO 1 Qe rfl (fH (qv 0 rfl) rfl) (iZ (by decide)) (fun _ _ _ _ _=>(bw 0 (show List.Nodup Qe from by decide +kernel) rfl Q3 (Or.inr rfl))) (fun _ _ _ _ _=>(fC AR Cw uu (dH 2 rfl (Or.inr Q3) rfl rfl) (qv 0 rfl) rfl)) (fun _ _ _ _ _=>(qv 0 rfl)) rfl rfl (by decide) (fun _=>rfl)) ak rfl) rfl rfl rfl) ai)))
noncomputable abbrev kS:Stmt:=top 30
theorem fX:FnScope ["_law_book_here", "_law_word_here", "_law_found", "_law_end", "_law_long"] Q4 (ah kS):=by constructor <;> first | rfl | decide +kernel
theorem gL {m:Me} {f:Addr} {fd:FuncData} (F:Fun K "_law_due" "_law_due" kS f fd) (hm:mg "_law_due" = some (.ref f)) (B:Blt mg) (O:ObF K mg C D) (dk:∀ m,FnAt P w K mg base 1 "_law_is_part" Q4 ((gX K C D).at m) cL) :
  FnAt P w K mg base 2 "_law_due" Q4 ((gX K C D).at m) gS:=jh F hm fX rfl rfl (fun _ _ _ _ _ _ us hl=>by obtain ⟨_,_,rfl⟩:=L2.dN hl;rfl) fun _ _ _ _ _ _ hr =>
  (af (eJ (cM ak) fX.nd rfl Q3 rfl Q3)
  (af (eQ Z1 rfl (eA (w_add (dZ B.b_len (ae (qv 1 rfl) ak rfl) rfl rfl rfl) ai) rfl B.b_range rfl rfl) (bw 3 fX.nd rfl Q3 Q3)
  (af (aE (qv 3 rfl) fX.nd rfl Q3 rfl Q3)
  (af (gI Z1 (PVW.pvt (o7 (ua (qv 4 rfl) ai) (lP (i4 (ki (fi (dk _) hr (ae (qv 0 rfl) (ae (wH (qv 1 rfl) (qx (iU oR oC (qv 3 rfl) (qv 4 rfl))) (qx (qv 3 rfl)) rfl) ak rfl) rfl) (by decide) rfl rfl rfl rfl) rfl (fun _=>rfl))))))
  (ar (aE (iU oR oC (qv 4 rfl) ai) fX.nd rfl Q3 rfl Q3)))
  (ar (gF 2 (ae (qv 4 rfl) ak rfl) rfl rfl Q3 rfl rfl rfl rfl rfl)))) (fun _=>rfl))
  (ar (cP 2 rfl (Or.inl rfl) rfl rfl))))
noncomputable abbrev jR:Stmt:=top 31
theorem ft:FnScope ["_law_script", "_law_spring_here", "_law_signs_here", "_law_book_here", "_law_table", "_law_more", "_law_turn", "_law_word_here", "_law_due_here", "_law_handed", "_law_again", "_law_got"] ["_law_script"] (ah jR):=by constructor <;> first | rfl | decide +kernel
theorem Bz {m:Me} {f:Addr} {fd:FuncData} (F:Fun K "law" "law" jR f fd) (B:Blt mg) (O:ObF K mg C D) (bL:InAt P w K mg base 6 (gX K C D) 1 1 "Machine" ["self", "book"] aT) (cK:∀ m,MpAt P w K mg base 3 ((gX K C D).at m) 1 "table" Qm bY) (fW:∀ m,IoAt P w K mg base 3 "_law_book" Qc ((gX K C D).at m) [false] hV) (gL:∀ m,FnAt P w K mg base 2 "_law_due" Q4 ((gX K C D).at m) gS) (eZ:∀ m,IoAt P w K mg base 2 "_law_signs" Qd ((gX K C D).at m) [] gr) (c7:∀ m,FnAt P w K mg base 1 "_law_spring" Q8 ((gX K C D).at m) b7) (fN:∀ m,IoAt P w K mg base 3 "_law_word" Q9 ((gX K C D).at m) [false,false] h9) (gM:∀ m,FnAt P w K mg base 5 "matches" ["table", "word"] ((gX K C D).at m) fI) :
  FnOk P w K mg base CX0 8 f fd ["_law_script"] (spF ((gX K C D).at m) wj):=fnV F ft rfl rfl fun _ _ _ _ _ _ hr =>
  (af (eJ (fi (c7 _) hr (ae (qv 0 rfl) (ae ai ak rfl) rfl) (by decide) rfl rfl rfl rfl) ft.nd rfl Q3 rfl Q3)
  (af (bV (bj (eZ _) hr (bM 1 false rfl (Or.inl rfl) rfl rfl bc rfl) (by decide) rfl rfl rfl rfl) ft.nd rfl Q3 rfl Q3)
  (af (wt (yO (fW _) hr (bM 1 false rfl (Or.inl rfl) rfl rfl (bC (ay (qv 2 rfl)) bc rfl) rfl) (by decide) rfl rfl rfl rfl) ft.nd rfl Q3 rfl Q3)
  (oM 1 (af (aE (l7 (cK _) hr (by decide) (Ct bL.at hr (by decide) (ae (qv 3 rfl) ak rfl) C6 rfl rfl rfl rfl) rfl) ft.nd rfl Q3 rfl Q3)
  (af (eJ (fi (c7 _) hr (ae (qv 0 rfl) (ae ai ak rfl) rfl) (by decide) rfl rfl rfl rfl) ft.nd rfl Q3 rfl Q3)
  (af (eQ Z1 rfl (eA ai rfl B.b_range rfl rfl) (bw 6 ft.nd rfl Q3 Q3)
  (af (bV (zJ (fN _) hr (BK 5 false rfl (Or.inl rfl) rfl rfl (vT (qv 3 rfl) (vT (qv 2 rfl) yg rfl) rfl) rfl) (by decide) rfl rfl rfl rfl) ft.nd rfl Q3 rfl Q3)
  (af (aE (fi (gL _) hr (ae (qv 3 rfl) (ae (qv 7 rfl) ak rfl) rfl) (by decide) rfl rfl rfl rfl) ft.nd rfl Q3 rfl Q3)
  (af (aE (t8 B.b_list (ae (qv 4 rfl) ak rfl) rfl rfl rfl rfl) ft.nd rfl Q3 rfl Q3)
  (ar (eQ Z1 rfl (eA ai rfl B.b_range rfl rfl) (bw 10 ft.nd rfl Q3 Q3)
  (af (eJ (fi (gM _) hr (ae (qv 9 rfl) (ae (qv 7 rfl) ak rfl) rfl) (by decide) rfl rfl rfl rfl) ft.nd rfl Q3 rfl Q3)
  (af (cN (PVW.pvt (oK (i4 (ki (w_is .list B.b_isinstance B.b_list (qv 11 rfl) rfl rfl rfl rfl) rfl (fun _=>rfl))) (oK (tM hr (qv 11 rfl) (qv 8 rfl)) (rW (tM hr (qv 9 rfl) (qv 4 rfl)))))) (ar (b6 vS)) bU)
  (af (cN (tM hr (nO 1 Q7 rfl (fH (qv 11 rfl) rfl) (iZ (by decide)) (fun _ _ _ _ _=>(bw 0 (show List.Nodup Q7 from by decide +kernel) rfl Q3 (Or.inr rfl))) (fun _ _ _ _ _=>(ki (w_is .bool B.b_isinstance B.b_bool (qv 0 rfl) rfl rfl rfl rfl) rfl (fun _=>rfl))) (fun _ _ _ _ _=>(qv 0 rfl)) rfl rfl (by decide) (fun _=>rfl)) (cM ak)) (ar (b6 vS)) bU)
  (ar (gF 11 (ae ai ak rfl) rfl rfl Q3 rfl rfl rfl rfl rfl))))) (fun _=>rfl)))))) (fun _=>rfl))
  (oM 5 (ar (b6 vS))))))))))
end
noncomputable abbrev gN (K:X8) (x:Str) (f:Addr):Prop:=PySem.W.nsIn K mainGlobals x=some (some (.ref f))
noncomputable abbrev gZ (K:X8) (x:Str):Prop:=PySem.W.nsIn K mainGlobals x=some none
theorem all_mk {l:PySem.W.OpenLaw} {w:World} {K:X8} {h:Heap} {mg:X9} {fa C D f0 f1 f2 f3 f4 f5 f6 f7 f8 f9 f10 f11 f12 f13 f14 f15 f16 f17 f18 f19 f20 f21 f22 f23 f24 f25 f26 f27 f28:Addr} (X:K.In h) (G:h.Ns mainGlobals mg) (hfa:mg "law" = some (.ref fa))
  {od13 an13 od28 an28:Option Addr} {sl13 sl28:Array (Wx)} {oc13 kV13 dc13 pm13 cd13 ct13 oc28 kV28 dc28 pm28 cd28 ct28:Value}
  (hlaw:∀ ns:Wv,ns.length<=63->wj [.scr ns]=some (.fr,.bl true))
  (a0:Meth K C "new_node" f0) {fd0:FuncData} (F0:Fun K "new_node" "Nodes.new_node" eD f0 fd0)
  (a1:Mk K C f1) {fd1:FuncData} (F1:Fun K "__init__" "Nodes.__init__" eu f1 fd1)
  (a2:Meth K C "node_just_behind" f2) {fd2:FuncData} (F2:Fun K "node_just_behind" "Nodes.node_just_behind" cp f2 fd2)
  (a3:Meth K C "head_behind" f3) {fd3:FuncData} (F3:Fun K "head_behind" "Nodes.head_behind" df f3 fd3)
  (a4:Meth K C "head_grown" f4) {fd4:FuncData} (F4:Fun K "head_grown" "Nodes.head_grown" dB f4 fd4)
  (a5:Meth K C "numbers_by_node" f5) {fd5:FuncData} (F5:Fun K "numbers_by_node" "Nodes.numbers_by_node" cy f5 fd5)
  (a6:Meth K C "row_of" f6) {fd6:FuncData} (F6:Fun K "row_of" "Nodes.row_of" fS f6 fd6)
  (a7:Meth K C "table" f7) {fd7:FuncData} (F7:Fun K "table" "Nodes.table" gD f7 fd7)
  (a8:Meth K D "begin" f8) {fd8:FuncData} (F8:Fun K "begin" "Machine.begin" fz f8 fd8)
  (a9:gN K "is_whole" f9) {fd9:FuncData} (F9:Fun K "is_whole" "is_whole" jC f9 fd9)
  (a10:gN K "refuse_no_text" f10) {fd10:FuncData} (F10:Fun K "refuse_no_text" "refuse_no_text" eE f10 fd10)
  (a11:gN K "signs_in" f11) {fd11:FuncData} (F11:Fun K "signs_in" "signs_in" jv f11 fd11)
  (a12:Meth K D "grow" f12) {fd12:FuncData} (F12:Fun K "grow" "Machine.grow" fO f12 fd12)
  {T13:Addr} {ob13:Obj} {nn13:Nat}
  (a13:Mk K D f13) (l13:K.lookup f13=some ⟨oc13,od13,.func (PySem.W.fnOf "__init__" "Machine.__init__" (cF bP) (aQ bP) (ah bP) (.ref T13) kV13 dc13 pm13 an13 cd13 ct13),sl13⟩) (c13:PySem.W.codeIn K cd13 "Machine.__init__" = true) (k13:PySem.W.keepIn K (.ref f13)=true) (t13:K.lookup T13=some ob13) (u13:ob13.data=.seq #[.none] nn13)
  (a14:Meth K D "book" f14) {fd14:FuncData} (F14:Fun K "book" "Machine.book" gf f14 fd14)
  (a15:Meth K D "table" f15) {fd15:FuncData} (F15:Fun K "table" "Machine.table" fm f15 fd15)
  (a16:gN K "refuse_no_stand" f16) {fd16:FuncData} (F16:Fun K "refuse_no_stand" "refuse_no_stand" dS f16 fd16)
  (a17:gN K "chain" f17) {fd17:FuncData} (F17:Fun K "chain" "chain" oi f17 fd17)
  (a18:gN K "tail_behind" f18) {fd18:FuncData} (F18:Fun K "tail_behind" "tail_behind" gw f18 fd18)
  (a19:gN K "matches" f19) {fd19:FuncData} (F19:Fun K "matches" "matches" ku f19 fd19)
  (a20:gN K "_law_spring" f20) {fd20:FuncData} (F20:Fun K "_law_spring" "_law_spring" hZ f20 fd20)
  (a21:gN K "_law_next" f21) {fd21:FuncData} (F21:Fun K "_law_next" "_law_next" jt f21 fd21)
  (a22:gN K "_law_text" f22) {fd22:FuncData} (F22:Fun K "_law_text" "_law_text" jm f22 fd22)
  (a23:gN K "_law_signs" f23) {fd23:FuncData} (F23:Fun K "_law_signs" "_law_signs" iO f23 fd23)
  (a24:gN K "_law_book" f24) {fd24:FuncData} (F24:Fun K "_law_book" "_law_book" ju f24 fd24)
  (a25:gN K "_law_word" f25) {fd25:FuncData} (F25:Fun K "_law_word" "_law_word" jl f25 fd25)
  (a26:gN K "_law_is_part" f26) {fd26:FuncData} (F26:Fun K "_law_is_part" "_law_is_part" gA f26 fd26)
  (a27:gN K "_law_due" f27) {fd27:FuncData} (F27:Fun K "_law_due" "_law_due" kS f27 fd27)
  (a28:gN K "law" f28) (l28:K.lookup f28=some ⟨oc28,od28,.func (PySem.W.fnOf "law" "law" (cF jR) (aQ jR) (ah jR) .none kV28 dc28 pm28 an28 cd28 ct28),sl28⟩) (c28:PySem.W.codeIn K cd28 "law" = true) (k28:PySem.W.keepIn K (.ref f28)=true)
  (z_bool:gZ K "bool")
  (z_dict:gZ K "dict")
  (z_int:gZ K "int")
  (z_isinstance:gZ K "isinstance")
  (z_len:gZ K "len")
  (z_list:gZ K "list")
  (z_min:gZ K "min")
  (z_range:gZ K "range")
  (z_sorted:gZ K "sorted")
  (z_sum:gZ K "sum")
  (z_tuple:gZ K "tuple")
  {t_MOST_SIGNS:Tok} (y_MOST_SIGNS:PySem.W.nsIn K mainGlobals "MOST_SIGNS" = some (some (.int 120 t_MOST_SIGNS)))
  {t_MOST_TEXTS:Tok} (y_MOST_TEXTS:PySem.W.nsIn K mainGlobals "MOST_TEXTS" = some (some (.int 8 t_MOST_TEXTS)))
  (w_Nodes:gN K "Nodes" C) (cl_Nodes:Cls K C) (n_longs_Nodes:aS K C "longs") (n_links_Nodes:aS K C "links") (n_ways_Nodes:aS K C "ways") (n_texts_Nodes:aS K C "texts") (n_heads_Nodes:aS K C "heads") (n_nodes_Nodes:aS K C "nodes")
  (w_Machine:gN K "Machine" D) (cl_Machine:Cls K D) (n_longs_Machine:aS K D "longs") (n_links_Machine:aS K D "links") (n_ways_Machine:aS K D "ways") (n_texts_Machine:aS K D "texts") (n_heads_Machine:aS K D "heads") (n_nodes_Machine:aS K D "nodes")
  : ∃ fd:FuncData,(∀ (s:Shared) (v:Value),BindsTo s fd ⟨[v],[]⟩ [("_law_script",v)])/\∀ base:Heap,K.In base->base.Ns mainGlobals mg->FnOk l.prog w K mg base CX0 8 fa fd ["_law_script"] (spF (gx0 K) wU):=by
 have e:=hfa.symm.trans (ZD X G a28)
 cases e
 have B:Blt mg:=⟨Z9 X G z_bool,Z9 X G z_dict,Z9 X G z_int,Z9 X G z_isinstance,Z9 X G z_len,Z9 X G z_list,Z9 X G z_min,Z9 X G z_range,Z9 X G z_sorted,Z9 X G z_sum,Z9 X G z_tuple,⟨_,ZD X G y_MOST_SIGNS⟩,⟨_,ZD X G y_MOST_TEXTS⟩⟩
 have O:ObF K mg C D:=⟨cl_Nodes,ZD X G w_Nodes,n_longs_Nodes,n_links_Nodes,n_ways_Nodes,n_texts_Nodes,n_heads_Nodes,n_nodes_Nodes,cl_Machine,ZD X G w_Machine,n_longs_Machine,n_links_Machine,n_ways_Machine,n_texts_Machine,n_heads_Machine,n_nodes_Machine⟩
 refine ⟨PySem.W.fnOf "law" "law" (cF jR) (aQ jR) (ah jR) .none kV28 dc28 pm28 an28 cd28 ct28,fun s v=>.of_eq rfl,fun base _ _=>?_⟩
 have aI:=aI l.prog w base F0 a0 B O
 have cu:=cu l.prog w base F1 a1 B O aI
 have aP:=aP l.prog w base F2 a2 B O aI
 have bD:=bD l.prog w base F3 a3 B O aI aP
 have bR:=bR l.prog w base F4 a4 B O bD
 have aW:=fun m=>aW (m:=m) l.prog w base F5 a5 B O
 have cX:=fun m=>cX (m:=m) l.prog w base F6 a6 B O
 have dj:=fun m=>dj (m:=m) l.prog w base F7 a7 B O aW cX
 have cI:=cI l.prog w base F8 a8 B O
 have cW:=fun m=>cW (m:=m) l.prog w base F9 (ZD X G a9) B O
 have cw:=fun m=>cw (m:=m) l.prog w base F10 (ZD X G a10) B O cW
 have fQ:=fun m=>fQ (m:=m) l.prog w base F11 (ZD X G a11) B O
 have cQ:=cQ l.prog w base F12 a12 B O bR cw fQ
 have bL:=bL l.prog w base ⟨⟨_,_,_,_,_,_,_,_,_,_,_,_,rfl,l13,c13,t13,u13⟩,k13⟩ a13 B O cI cQ cu
 have iQ:=fun m=>iQ (m:=m) l.prog w base F14 a14 B O
 have cK:=fun m=>cK (m:=m) l.prog w base F15 a15 B O dj
 have cf:=fun m=>cf (m:=m) l.prog w base F16 (ZD X G a16) B O cW
 have jP:=fun m=>jP (m:=m) l.prog w base F17 (ZD X G a17) B O cf
 have dm:=fun m=>dm (m:=m) l.prog w base F18 (ZD X G a18) B O jP
 have gM:=fun m=>gM (m:=m) l.prog w base F19 (ZD X G a19) B O dm
 have c7:=fun m=>c7 (m:=m) l.prog w base F20 (ZD X G a20) B O
 have aw:=fun m=>aw (m:=m) l.prog w base F21 (ZD X G a21) B O
 have cE:=fun m=>cE (m:=m) l.prog w base F22 (ZD X G a22) B O aw
 have eZ:=fun m=>eZ (m:=m) l.prog w base F23 (ZD X G a23) B O aw
 have fW:=fun m=>fW (m:=m) l.prog w base F24 (ZD X G a24) B O aw cE
 have fN:=fun m=>fN (m:=m) l.prog w base F25 (ZD X G a25) B O aw cE
 have dk:=fun m=>dk (m:=m) l.prog w base F26 (ZD X G a26) B O
 have gL:=fun m=>gL (m:=m) l.prog w base F27 (ZD X G a27) B O dk
 exact yr rfl (Bz l.prog w base (m:=fun _=>none) (ye (st:=jR) l28 c28 k28) B O bL cK fW gL eZ c7 fN gM) hlaw
end T40
open PySem PySem.W PyProof.Rows PySem.W.X PySem.W.ZRun
set_option maxRecDepth 100000 in
set_option maxHeartbeats 0 in
theorem PySem.Challenge.cw_allparts_k40_matches_holds : PySem.Challenge.rw_allparts_k40_matches.Holds := by
 w_on;o_law;z_head;(case hw=>w_witness2)
 k_fill
 intro w s₀ s₁ mg mb G y fa o pm cd doc dV kV ho hd hcd hD hmg hg args vals as L hpre hlay hrd hwl hlo
 z_open y L KX ZH ZN ZT
 clear ZH ZN ZT
 refine VS.wI (l:=PySem.Challenge.rw_allparts_k40_matches) (k:=8) (x := "_law_script") rfl rfl ⟨rfl,by decide,by decide⟩ ?F w s₀ s₁ mg mb G KX fa o pm cd doc dV kV ho hd hcd hD hmg hg args vals as hpre hlay hrd hwl hlo
 case F =>
  intro w mg fa h KX G hmg
  apply T40.all_mk KX G hmg T40.wY
  (case w_Nodes=>unfold T40.gN;k_is)
  (case w_Machine=>unfold T40.gN;k_is)
  all_goals first | (refine' L2.ye ?l ?c ?k;(case l=>k_is);(case c=>k_is);(case k=>k_is)) | (refine' ⟨?l,?c,?k⟩;(case l=>k_is);(case c=>k_is);(case k=>k_is)) | (refine' ⟨?l,?c,?k,?d⟩;(case l=>k_is);(case c=>k_is);(case k=>k_is);(case d=>k_is)) | (unfold T40.gN;k_is) | (unfold T40.gZ;k_is) | (unfold L2.aS;k_is) | k_is | exact rfl
end
