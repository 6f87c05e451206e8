import PyProof.Rows.All
import Wide.All
import OpenK.AllK
import Wide.FinOn
import Lean
import PyProof.EqAt
import PyProof.EqKinds
import PyProof.TupleCall
import PyProof.Rows.SortShellK
import PyProof.Rows.SortStr
import PyProof.Rows.SortWalk
import PyProof.StrBlockH
import PyProof.StrLawsIn
import PyProof.Rows.SetFrom
import PyProof.CollectWalk
import KE.KDictSum
import PyProof.ListStr
import PyProof.SeqI3
import PyProof.Rows.CallKwBuiltin
import PyProof.ListRange
import PyProof.AttrMissSeq
import PyProof.DictUpdate
import PyProof.DictList
import PyProof.ListNew
import PyProof.FactsAll.dict_1
import PyProof.SliceList
import PyProof.WalkInts
import PyProof.StationsW
import OpenK.KOwn
import KE.KTryMore
import PyProof.NsDelKeeps
import PyProof.ExcArgsOwn
import PyProof.ExcAttrAll.Exception
import OpenK.KDescr
import KE.KIsAll
import PyProof.ExcBaseAll.ValueError
import PyProof.StrBlock
import PyProof.StrCalls
import PyProof.StrLawsOccR
import KE.KDictOf
import PySem.Challenge.RW_allparts_k10_whole_books_with_the_same_t
set_option linter.all false
set_option maxRecDepth 100000
set_option Elab.async false
set_option maxHeartbeats 4000000
abbrev Yt:=PySem.Value->PySem.Shared->Prop
abbrev Xw:=List (PySem.Addr×PySem.Obj)
abbrev Xq:=List (List PySem.Addr)
abbrev X0:=PySem.W.Frag
abbrev X3:=PySem.Str->Option PySem.Value
abbrev X4:=List PySem.Addr
abbrev X5:=List PySem.Value
abbrev X6:=Option PySem.Value
abbrev X7:=List Nat
abbrev X8:=List Int
abbrev X9:=List (List (List Nat))
abbrev Zq:=@if_pos
abbrev Zn:=@if_neg
open Option renaming bind_eq_some_iff->Zz,map_eq_some_iff->Zw,bind_some->Zu,isSome_map->Ym,isSome_iff_exists->Yc,getD_some->YW,getD_none->XI
open List renaming length_map->Zy,mem_cons_self->Zx,mem_cons_of_mem->Zv,length_append->Zt,getD_eq_getElem?_getD->Zs,map_cons->Zp,getElem?_eq_getElem->Zm,mem_singleton->Zj,mem_cons->Zi,mem_append->Zg,getElem?_eq_some_iff->Zf,nodup_cons->Ze,zip_cons_cons->Zd,size_toArray->Za,length_cons->ZZ,nodup_append->ZV,mem_append_right->ZU,getElem?_map->ZQ,length_singleton->ZO,flatten_cons->ZL,append_nil->ZK,getElem?_append_left->ZJ,getElem?_eq_none->ZE,map_append->ZD,getElem?_append_right->ZA,length_range->Z0,mem_append_left->Z1,sublist_cons_self->Z2,length_set->Z3,find?_cons->Z4,suffix_refl->Z5,lookup_cons->Z6,getElem_mem->Z7,flatten_append->Z8,mem_map->Z9,length_zip->Yz,map_map->Yx,all_eq_true->Yw,getElem?_eq_none_iff->Yv,append_assoc->Yu,getElem?_replicate->Yl,prefix_rfl->Yk,any_cons->Yj,length_drop->Yi,nodup_nil->Yh,sublist_append_right->Yg,getElem?_zip_eq_some->Yf,getElem?_set_ne->Yd,sum_cons->Yb,getD_cons_succ->YZ,mem_range->YV,length_take->YU,take_of_length_le->YS,drop_of_length_le->YR,suffix_nil->YQ,length_replicate->YO,mem_of_getElem?->YL,map_congr_left->YG,cons_lt_cons_iff->Y3,any_eq_true->Y5,nil_suffix->Y7,mem_filter->Y8,all_cons->Xr,cons_append->Xo,map_nil->Xn,getElem?_set_self->Xm,nil_append->Xk,idxOf_cons->Xj,take_append_drop->Xg,set_getElem_self->Xf,cons_prefix_cons->Xe,filterMap_cons->Xc,pairwise_cons->XX,findIdx?_cons->XW,pairwise_map->XQ,map_set->XO,getElem?_set->XM,map_fst_zip->XG
open PySem renaming wpAny_bind->Zr,wpAny_pure->Zb,wpAny_truthy_bool->YX,wpAny_mono->YN,wpAny_passesOwn->YM,mem_of_lookup->YH,wpAny_Call_Name_kw->Y0,tupleKind_room_in1->Y1,sizeLine_eq->Y2,wpAny_call_entry->Y9,wpAny_holding->Xz,wpAny_typeNameOfWhole_keyiter->Xy,wpAny_newObj_type->Xl,wpAny_execs_nil->Xa
open Option.some renaming inj->Zo
open PySem.Heap renaming get?_push_of_some->Zl,lt_size->ZX,get?_push_size->ZS,get?_update_other->Xb,size_push->XJ
open Nat renaming le_refl->Zk,lt_of_lt_of_le->ZY,ne_of_lt->ZW,le_of_not_lt->ZP,le_trans->ZI,lt_succ_self->Yp,lt_irrefl->Yn,zero_le->Ye,pos_of_ne_zero->YT,le_add_right->YI,le_of_not_le->Y4,min_eq_left->Y6,add_sub_cancel->Xv,succ_le_succ->Xp,lt_succ_of_lt->XT,le_of_lt->XS,le_of_eq->XR,min_eq_right->XH
open Bool renaming false_ne_true->Zh,and_eq_true->Zc,and_eq_true_iff->YJ,false_eq_true->YE,eq_iff_iff->Xi
open PySem.W renaming mg_none_of->ZG,kia_one->Ys,mg_of->Yr,plainGet_of->Xd,callWith_K->XZ
open Int renaming emod_lt_of_pos->ZF,emod_nonneg->Yy
open Array renaming getElem?_toList->Yq,length_toList->YY
open PySem.PassesOwn renaming never->Yo
open Ne renaming symm->Ya
open PySem.F renaming slot_dict_keyiterator_next->YK,plainAttrs_list->YD,type_list_append->Xt,slot_list_append->Xs,slot_dict_get->Xh
open PySem.Paired renaming length->YB
open List.Sublist renaming refl->YA
open Prod.mk renaming inj->Xu
open PySem.W.KFB renaming if_not->XY
section
namespace L2
theorem iW {G:Prop} (h:∀ P:Prop,(G->P)->P):G:=h G id
end L2
namespace VS
noncomputable abbrev Tx:=X7
inductive T where
 | non | bl (b:Bool) | int (i:Int) | str (s:Tx) | scr (ns:X8)
 | tup (l:List T) | lst (l:List T) | dct (kd:Nat) (l:List (T×T)) | obj (c:Nat) (fs:List (Nat×T))
 deriving Inhabited
abbrev Ww:=List T
noncomputable def dS:Nat:=16777216
mutual
@[simp] noncomputable def imm:T->Bool
 | .lst _=>false
 | .dct _ _=>false
 | .obj _ _=>false
 | .tup l=>cY l
 | _=>true
@[simp] noncomputable def cY:Ww->Bool
 | []=>true
 | t :: r=>imm t && cY r
end
mutual
@[simp] noncomputable def eqT:T->T->Bool
 | .non,.non=>true
 | .bl a,.bl b=>a == b
 | .bl a,.int i=>(if a then 1 else 0) == i
 | .int i,.bl a=>i == (if a then 1 else 0)
 | .int i,.int j=>i == j
 | .str s,.str t=>s == t
 | .tup a,.tup b=>oI a b
 | .lst a,.lst b=>oI a b
 | _,_=>false
@[simp] noncomputable def oI:Ww->Ww->Bool
 | [],[]=>true
 | a :: as,b :: bs=>eqT a b && oI as bs
 | _,_=>false
end
@[simp] noncomputable def eqD:Nat->T->Bool
 | _,.non=>true
 | _,.bl _=>true
 | _,.int _=>true
 | _,.str _=>true
 | n+1,.tup l=>l.all (eqD n)
 | n+1,.lst l=>l.all (eqD n)
 | _,_=>false
inductive Md where | fr | pu | bo
 deriving DecidableEq,Inhabited
@[simp] noncomputable def Md.join:Md->Md->Md
 | .bo,_=>.bo
 | _,.bo=>.bo
 | .pu,_=>.pu
 | _,.pu=>.pu
 | .fr,.fr=>.fr
inductive Cell where | pu (t:T) | ow (t:T)
 deriving Inhabited
abbrev Wz:=Option Cell
noncomputable abbrev Env:=List (Wz)
noncomputable abbrev Val:=Md×T
abbrev Wx:=Option Val
abbrev Wy:=List Val
noncomputable abbrev Ex:=Env->Wx
noncomputable abbrev Exs:=Env->Option (Wy)
@[simp] noncomputable def up (m:Md) (t:T):Val:=(if imm t then .fr else m,t)
@[simp] noncomputable def B8:T->Bool
 | .lst _=>true
 | .dct _ _=>true
 | .obj _ _=>true
 | _=>false
@[simp] noncomputable def cellOf:Val->Wz
 | (.fr,t)=>some (if B8 t then .ow t else .pu t)
 | (.pu,t)=>some (.pu t)
 | (.bo,_)=>none
inductive Out where | nx (η:Env) | rt (v:Val) (η:Env) | bk (η:Env) | ct (η:Env)
noncomputable abbrev Sx:=Env->Option Out
@[simp] noncomputable def eC (t:T) (_:Env):Wx:=some (.fr,t)
@[simp] noncomputable def ab (i:Nat) (η:Env):Wx:=match η[i]? with
 | some (some (.pu t))=>some (up .pu t)
 | some (some (.ow t))=>some (.bo,t)
 | _=>none
@[simp] noncomputable def e1 (f:Val->Wx) (a:Ex) (η:Env):Wx:=(a η).bind f
@[simp] noncomputable def e2 (f:Val->Val->Wx) (a b:Ex) (η:Env):Wx:=(a η).bind fun x=>(b η).bind fun y=>f x y
@[simp] noncomputable def ai (_:Env):Option (Wy):=some []
@[simp] noncomputable def ae (a:Ex) (r:Exs) (η:Env):Option (Wy):=(a η).bind fun x=>(r η).bind fun xs=>some (x :: xs)
@[simp] noncomputable def eN (f:Wy->Wx) (as:Exs) (η:Env):Wx:=(as η).bind f
@[simp] noncomputable def cA:Wy->Md
 | []=>.fr
 | v :: r=>v.1.join (cA r)
@[simp] noncomputable def trees (l:Wy):Ww:=l.map (·.2)
noncomputable def mkL (m:Md) (l:Ww):Wx:=if l.length<=dS then some (if cY l then .fr else m,.lst l) else none
@[simp] noncomputable def dz (as:Exs) (η:Env):Wx:=(as η).bind fun l=>mkL (cA l) (trees l)
noncomputable def qk (l:Wy):Wx:=if l.length<=dS then some (up (cA l) (.tup (trees l))) else none
@[simp] noncomputable def mG (as:Exs) (η:Env):Wx:=(as η).bind qk
noncomputable def dput (l:List (T×T)) (k v:T):List (T×T):=if l.any (fun p=>eqT p.1 k) then l.map (fun p=>if eqT p.1 k then (p.1,v) else p) else l++[(k,v)]
noncomputable def hU:T->Bool
 | .int _=>true
 | .str _=>true
 | _=>false
noncomputable def keyOk:Nat->T->Bool
 | 0,t=>hU t
 | 1,.tup l=>l.all hU
 | _,_=>false
noncomputable def pairs:List (Ex×Ex)->Env->Option (List (Val×Val))
 | [],_=>some []
 | (a,b) :: r,η=>(a η).bind fun x=>(b η).bind fun y=>(pairs r η).map ((x,y) :: ·)
noncomputable def lq (kd:Nat) (ps:List (Ex×Ex)) (η:Env):Wx:=(pairs ps η).bind fun l=>if l.all (fun p=>keyOk kd p.1.2)/\l.length<=15 then
 some (cA (l.map (·.2)),.dct kd (l.foldl (fun d p=>dput d p.1.2 p.2.2) [])) else none
@[simp] noncomputable def tru:T->Option Bool
 | .bl b=>some b
 | .int i=>some (i != 0)
 | .str s=>some (!s.isEmpty)
 | .lst l=>some (!l.isEmpty)
 | .tup l=>some (!l.isEmpty)
 | .dct 0 l=>some (!l.isEmpty)
 | .non=>some false
 | _=>none
@[simp] noncomputable def gL (a b:Ex) (η:Env):Wx:=(a η).bind fun x=>match x.2 with
 | .bl true=>b η
 | .bl false=>some (.fr,.bl false)
 | _=>none
@[simp] noncomputable def eOr (a b:Ex) (η:Env):Wx:=(a η).bind fun x=>match x.2 with
 | .bl true=>some (.fr,.bl true)
 | .bl false=>b η
 | _=>none
@[simp] noncomputable def lz (a:Ex) (η:Env):Wx:=(a η).bind fun x=>match x.2 with
 | .bl b=>some (.fr,.bl (!b))
 | _=>none
@[simp] noncomputable def eIf (c a b:Ex) (η:Env):Wx:=(c η).bind fun x=>(tru x.2).bind fun t=>if t then a η else b η
@[simp] noncomputable def isN:T->Bool
 | .non=>true
 | _=>false
@[simp] noncomputable def uS (a:Ex) (η:Env):Wx:=(a η).bind fun x=>some (.fr,.bl (isN x.2))
@[simp] noncomputable def eT (a:Ex) (η:Env):Wx:=(a η).bind fun x=>some (.fr,.bl (!isN x.2))
@[simp] noncomputable def ij (f g:Val->Val->Wx) (a b c:Ex) (η:Env):Wx:=(a η).bind fun x=>(b η).bind fun y=>(f x y).bind fun r=>match r.2 with
 | .bl true=>(c η).bind fun z=>g y z
 | .bl false=>some (.fr,.bl false)
 | _=>none
@[simp] noncomputable def int?:T->Option Int
 | .int i=>some i
 | _=>none
noncomputable def cH:Val->Val->Wx
 | (_,.int i),(_,.int j)=>some (.fr,.int (i+j))
 | (_,.str s),(_,.str t)=>if s.length+t.length<=dS then some (.fr,.str (s++t)) else none
 | (m,.lst s),(n,.lst t)=>mkL (m.join n) (s++t)
 | _,_=>none
@[simp] noncomputable def jL:Val->Val->Wx
 | (_,.int i),(_,.int j)=>some (.fr,.int (i - j))
 | _,_=>none
noncomputable def B62:Int:=4611686018427387904
noncomputable def B64:Int:=18446744073709551616
noncomputable def lr:Val->Val->Wx
 | (_,.int i),(_,.int j)=>if (-B64 < i/\i < B64)\/(-B64 < j/\j < B64) then some (.fr,.int (i * j)) else none
 | _,_=>none
noncomputable def eI:Val->Val->Wx
 | (_,.int i),(_,.int j)=>if 0 < j/\j < 1073741824 then some (.fr,.int (i / j)) else none
 | _,_=>none
noncomputable def oMod:Val->Val->Wx
 | (_,.int i),(_,.int j)=>if 0 < j then some (.fr,.int (i % j)) else none
 | _,_=>none
noncomputable def ltx:Tx->Tx->Bool
 | [],[]=>false
 | [],_ :: _=>true
 | _ :: _,[]=>false
 | a :: as,b :: bs=>if a < b then true else if b < a then false else ltx as bs
@[simp] noncomputable def oLt:Val->Val->Wx
 | (_,.int i),(_,.int j)=>some (.fr,.bl (decide (i < j)))
 | (_,.str s),(_,.str t)=>some (.fr,.bl (ltx s t))
 | _,_=>none
@[simp] noncomputable def oLe:Val->Val->Wx
 | (_,.int i),(_,.int j)=>some (.fr,.bl (decide (i<=j)))
 | (_,.str s),(_,.str t)=>some (.fr,.bl (!ltx t s))
 | _,_=>none
@[simp] noncomputable def oGt (a b:Val):Wx:=oLt b a
@[simp] noncomputable def oGe (a b:Val):Wx:=oLe b a
@[simp] noncomputable def oEq (a b:Val):Wx:=if eqD 60 a.2/\eqD 60 b.2 then some (.fr,.bl (eqT a.2 b.2)) else none
@[simp] noncomputable def oNe (a b:Val):Wx:=if eqD 60 a.2/\eqD 60 b.2 then some (.fr,.bl (!eqT a.2 b.2)) else none
noncomputable def ed (l:List (T×T)) (k:T):Option T:=(l.find? fun p=>eqT p.1 k).map (·.2)
noncomputable def ixP (n:Nat) (i:Int):Option Nat:=if 0<=i then (if i < n then some i.toNat else none) else (if 0<=i+n then some (i+n).toNat else none)
@[simp] noncomputable def sub (m:Md) (t:T):Val:=up m t
@[simp] noncomputable def aJ:Val->Val->Wx
 | (m,.lst l),(_,.int i)=>(ixP l.length i).bind fun k=>(l[k]?).map (sub m)
 | (m,.tup l),(_,.int i)=>(ixP l.length i).bind fun k=>(l[k]?).map (sub m)
 | (_,.scr l),(_,.int i)=>(ixP l.length i).bind fun k=>(l[k]?).map fun n=>(.fr,.int n)
 | (_,.str l),(_,.int i)=>(ixP l.length i).bind fun k=>(l[k]?).map fun n=>(.fr,.str [n])
 | _,_=>none
noncomputable def clip (n:Nat) (i:Int):Nat:=if i < 0 then (i+n).toNat else min i.toNat n
noncomputable def cut {α:Type} (l:List α) (a b:Option Int):List α :=
 let lo:=match a with | none=>0 | some i=>clip l.length i
 let hi:=match b with | none=>l.length | some i=>clip l.length i
 (l.drop lo).take (hi - lo)
@[simp] noncomputable def oSl (v:Val) (a b:Option Int):Wx:=match v with
 | (_,.str s)=>some (.fr,.str (cut s a b))
 | (m,.lst l)=>mkL m (cut l a b)
 | _=>none
@[simp] noncomputable def uu (c:Option Ex) (η:Env):Option (Option Int):=match c with
 | none=>some none
 | some e=>(e η).bind fun y=>(int? y.2).map some
@[simp] noncomputable def eSl (a:Ex) (lo hi:Option Ex) (η:Env):Wx:=(a η).bind fun x=>(uu lo η).bind fun l=>(uu hi η).bind fun h=>oSl x l h
@[simp] noncomputable def CY:T->Option Nat
 | .lst l=>some l.length
 | .tup l=>some l.length
 | .str l=>some l.length
 | .scr l=>some l.length
 | .dct 0 l=>some l.length
 | _=>none
@[simp] noncomputable def cn:Wy->Wx
 | [x]=>(CY x.2).map fun n=>(.fr,.int n)
 | _=>none
@[simp] noncomputable def oB:Wy->Wx
 | [(_,.int i),(_,.int j)]=>some (.fr,.int (if j < i then j else i))
 | _=>none
@[simp] noncomputable def ot:Wy->Wx
 | [(_,.int i),(_,.int j)]=>some (.fr,.int (if j > i then j else i))
 | _=>none
noncomputable def ka:Ww->Option (X8)
 | []=>some []
 | .int i :: r=>(ka r).map (i :: ·)
 | _=>none
noncomputable def strs?:Ww->Option (List Tx)
 | []=>some []
 | .str i :: r=>(strs? r).map (i :: ·)
 | _=>none
noncomputable def uO:Wy->Wx
 | [(_,.lst l)]=>(ka l).bind fun is=>some (.fr,.int is.sum)
 | _=>none
@[simp] noncomputable def C7:T->Option (Ww)
 | .lst l=>some l
 | .tup l=>some l
 | .scr l=>some (l.map T.int)
 | .str l=>some (l.map fun c=>T.str [c])
 | .dct _ l=>some (l.map (·.1))
 | _=>none
@[simp] noncomputable def yh:Wy->Wx
 | [(m,.lst l)]=>mkL m l
 | [(m,.tup l)]=>mkL m l
 | _=>none
noncomputable def g9:Wy->Wx
 | [(m,.lst l)]=>if l.length<=dS then some (up m (.tup l)) else none
 | _=>none
noncomputable def kP (x:Tx):List Tx->List Tx
 | []=>[x]
 | y :: r=>if ltx y x then y :: kP x r else x :: y :: r
noncomputable def d2 (l:List Tx):List Tx:=l.foldr kP []
inductive Ty where | int | str | bool | list | tuple | dict
@[simp] noncomputable def oC:Ty->T->Bool
 | .int,.int _=>true
 | .int,.bl _=>true
 | .bool,.bl _=>true
 | .str,.str _=>true
 | .list,.lst _=>true
 | .tuple,.tup _=>true
 | .dict,.dct _ _=>true
 | _,_=>false
@[simp] noncomputable def qu:T->Bool
 | .obj _ _=>false
 | .scr _=>false
 | .dct 0 _=>true
 | .dct 1 _=>true
 | .dct _ _=>false
 | _=>true
@[simp] noncomputable def eIs (t:Ty) (a:Ex) (η:Env):Wx:=(a η).bind fun x=>if qu x.2 then some (.fr,.bl (oC t x.2)) else none
noncomputable def total:List Tx->Nat
 | []=>0
 | x :: r=>x.length+total r
noncomputable def dm (sep:Tx):List Tx->Tx
 | []=>[]
 | [x]=>x
 | x :: r=>x++sep++dm sep r
noncomputable def iY:Val->Wy->Wx
 | (_,.str sep),[(_,.lst l)]=>(strs? l).bind fun ss=>if total ss+ss.length * sep.length<=dS then some (.fr,.str (dm sep ss)) else none
 | _,_=>none
@[simp] noncomputable def eM (f:Val->Wy->Wx) (o:Ex) (as:Exs) (η:Env):Wx:=(o η).bind fun x=>(as η).bind fun xs=>f x xs
noncomputable abbrev Fn:=Ww->Wx
@[simp] noncomputable def bD (g:Fn) (as:Exs) (η:Env):Wx:=(as η).bind fun xs=>(g (trees xs)).bind fun r=>match r with
 | (.fr,t)=>some (.fr,t)
 | (_,t)=>some ((Md.pu).join (cA xs),t)
noncomputable abbrev Its:=Env->Option (Md×Ww)
@[simp] noncomputable def vZ:Val->Option (Md×Ww)
 | (m,.lst l)=>some (m,l)
 | (m,.tup l)=>some (m,l)
 | (_,.str l)=>some (.fr,l.map fun c=>.str [c])
 | _=>none
@[simp] noncomputable def gR (a:Ex) (η:Env):Option (Md×Ww):=(a η).bind vZ
noncomputable def rng (lo:Int) (n:Nat):Ww:=(List.range n).map fun (k:Nat)=>T.int (lo+k)
noncomputable def de (a:Ex) (η:Env):Option (Md×Ww):=(a η).bind fun x=>(int? x.2).bind fun j=>if -B62<=j/\j < B62 then some (.fr,rng 0 j.toNat) else none
noncomputable def yc (k:Nat):Ww->Ww
 | []=>[]
 | t :: r=>.tup [.int k,t] :: yc (k+1) r
@[simp] noncomputable def By:Val->Option (Md×Ww)
 | (m,.lst l)=>some (m,yc 0 l)
 | _=>none
@[simp] noncomputable def C5 (a:Ex) (η:Env):Option (Md×Ww):=(a η).bind By
noncomputable abbrev Tg:=T->Env->Option Env
@[simp] noncomputable def cS (i:Nat) (t:T) (η:Env):Option Env:=if i < η.length then some (η.set i (some (.pu t))) else none
@[simp] noncomputable def B7:List Tg->Ww->Env->Option Env
 | [],[],η=>some η
 | g :: gs,t :: ts,η=>(g t η).bind fun η'=>B7 gs ts η'
 | _,_,_=>none
@[simp] noncomputable def Da (gs:List Tg) (t:T) (η:Env):Option Env:=match t with
 | .tup l=>B7 gs l η
 | _=>none
@[simp] noncomputable def okI (m:Md) (l:Ww):Bool:=match m with
 | .bo=>cY l
 | _=>true
noncomputable def kT (tg:Tg) (cond:Option Ex) (elt:Ex) (η:Env):Ww->Option (Wy)
 | []=>some []
 | t :: r=>(tg t η).bind fun η'=>(match cond with | none=>some true | some c=>(c η').bind fun x=>tru x.2).bind fun b =>
  if b then (elt η').bind fun v=>(kT tg cond elt η r).map (v :: ·) else kT tg cond elt η r
noncomputable def fF (k:Nat) (tg:Tg) (it:Its) (cond:Option Ex) (elt:Ex) (η:Env):Wx:=(it η).bind fun (m,l)=>if okI m l then
 (kT tg cond elt (List.replicate k none++η) l).bind fun vs=>mkL (cA vs) (trees vs) else none
@[simp] noncomputable def eG (η:Env):Option Out:=some (.nx η)
@[simp] noncomputable def ar (a b:Sx) (η:Env):Option Out:=(a η).bind fun o=>match o with
 | .nx η'=>b η'
 | o=>some o
@[simp] noncomputable def ly (i:Nat) (e:Ex) (η:Env):Option Out:=(e η).bind fun v=>(cellOf v).bind fun c=>if i < η.length then some (.nx (η.set i (some c))) else none
@[simp] noncomputable def aW (i:Nat) (e:Ex) (η:Env):Option Out:=(e η).bind fun v=>match v.1 with
 | .bo=>none
 | _=>if i < η.length then some (.nx (η.set i (some (.pu v.2)))) else none
@[simp] noncomputable def eJ (e:Ex) (η:Env):Option Out:=(e η).bind fun v=>some (.rt (match v.1 with | .bo=>.pu | m=>m,v.2) η)
@[simp] noncomputable def gv (i:Nat) (η:Env):Option Out:=match η[i]? with
 | some (some (.ow t))=>some (.rt (.fr,t) (η.set i none))
 | some (some (.pu t))=>some (.rt (up .pu t) η)
 | _=>none
@[simp] noncomputable def C9 (η:Env):Option Out:=some (.rt (.fr,.non) η)
@[simp] noncomputable def Dc (η:Env):Option Out:=some (.bk η)
@[simp] noncomputable def C4 (η:Env):Option Out:=some (.ct η)
@[simp] noncomputable def sIf (c:Ex) (a b:Sx) (η:Env):Option Out:=(c η).bind fun x=>(tru x.2).bind fun t=>if t then a η else b η
noncomputable def forL (tg:Tg) (body:Sx):Ww->Env->Option Out
 | [],η=>some (.nx η)
 | t :: r,η=>(tg t η).bind fun η1=>(body η1).bind fun o=>match o with
  | .nx η2=>forL tg body r η2
  | .ct η2=>forL tg body r η2
  | .bk η2=>some (.nx η2)
  | .rt v η2=>some (.rt v η2)
@[simp] noncomputable def okF:Md->Bool
 | .bo=>false
 | _=>true
@[simp] noncomputable def hZ (tg:Tg) (it:Its) (body:Sx) (η:Env):Option Out:=(it η).bind fun (m,l)=>if okF m then forL tg body l η else none
noncomputable def eP (c:Ex) (body:Sx):Nat->Env->Option Out
 | 0,_=>none
 | n+1,η=>(c η).bind fun x=>(tru x.2).bind fun t=>if t then (body η).bind fun o=>match o with
  | .nx η2=>eP c body n η2
  | .ct η2=>eP c body n η2
  | .bk η2=>some (.nx η2)
  | .rt v η2=>some (.rt v η2)
  else some (.nx η)
noncomputable def sA:Nat:=1000000
noncomputable def jv (c:Ex) (body:Sx) (η:Env):Option Out:=eP c body sA η
@[simp] noncomputable def oK (i:Nat) (η:Env):Option Out:=match η[i]? with
 | some (some (.ow t))=>some (.nx (η.set i (some (.pu t))))
 | some (some (.pu _))=>some (.nx η)
 | _=>none
inductive Stp where | fld (k:Nat) | ix (e:Ex)
inductive Ky where | fld (k:Nat) | at (t:T)
@[simp] noncomputable def keys:List Stp->Env->Option (List Ky)
 | [],_=>some []
 | .fld k :: r,η=>(keys r η).map (.fld k :: ·)
 | .ix e :: r,η=>(e η).bind fun x=>(keys r η).map (.at x.2 :: ·)
noncomputable def CB (fs:List (Nat×T)) (k:Nat):Option T:=fs.lookup k
noncomputable def CA (fs:List (Nat×T)) (k:Nat) (v:T):List (Nat×T):=if fs.any (fun p=>p.1 == k) then fs.map (fun p=>if p.1 == k then (p.1,v) else p) else fs++[(k,v)]
@[simp] noncomputable def xj {α:Type} (f:T->Option (T×α)):List Ky->T->Option (T×α)
 | [],t=>f t
 | .fld k :: r,.obj c fs=>(CB fs k).bind fun x=>(xj f r x).map fun (y,a)=>(.obj c (CA fs k y),a)
 | .at (.int i) :: r,.lst l=>(ixP l.length i).bind fun j=>(l[j]?).bind fun x=>(xj f r x).map fun (y,a)=>(.lst (l.set j y),a)
 | .at k :: r,.dct d l=>(ed l k).bind fun x=>(xj f r x).map fun (y,a)=>(.dct d (dput l k y),a)
 | _,_=>none
noncomputable abbrev Xx:=Env->Option (Val×Env)
@[simp] noncomputable def xP (e:Ex) (η:Env):Option (Val×Env):=(e η).map fun v=>(v,η)
@[simp] noncomputable def jN (i:Nat) (way:List Stp) (f:T->Wy->Option (T×Val)) (as:Exs) (η:Env):Option (Val×Env):=match η[i]? with
 | some (some (.ow t))=>(keys way η).bind fun ks=>(as η).bind fun xs=>(xj (fun x=>f x xs) ks t).map fun (t',v)=>(v,η.set i (some (.ow t')))
 | _=>none
@[simp] noncomputable def fit (v:Val):Option T:=match v.1 with
 | .fr=>some v.2
 | _=>none
noncomputable def aG:T->Wy->Option (T×Val)
 | .lst l,[v]=>(fit v).bind fun t=>if l.length < dS then some (.lst (l++[t]),(.fr,.non)) else none
 | _,_=>none
@[simp] noncomputable def sX (x:Xx) (η:Env):Option Out:=(x η).map fun r=>.nx r.2
@[simp] noncomputable def C6 (i:Nat) (x:Xx) (η:Env):Option Out:=(x η).bind fun (v,η')=>(cellOf v).bind fun c=>if i < η'.length then some (.nx (η'.set i (some c))) else none
@[simp] noncomputable def C2 (x:Xx) (η:Env):Option Out:=(x η).bind fun (v,η')=>some (.rt (match v.1 with | .bo=>.pu | m=>m,v.2) η')
@[simp] noncomputable def fn (np nn:Nat) (body:Sx):Fn:=fun ts=>if ts.length=np then
 (body (ts.map (fun t=>some (.pu t))++List.replicate (nn - np) none)).bind fun o=>match o with
  | .rt v _=>some v
  | .nx _=>some (.fr,.non)
  | _=>none else none
@[simp] theorem BK {m n:Md} {i j:Int}:cH (m,.int i) (n,.int j)=some (.fr,.int (i+j)):=rfl
theorem r6 {m n:Md} {s t:Tx} (h:s.length+t.length<=16777216):cH (m,.str s) (n,.str t)=some (.fr,.str (s++t)):=Zq h
theorem kF {m n:Md} {i j:Int} (h:-18446744073709551616 < i/\i < 18446744073709551616):lr (m,.int i) (n,.int j)=some (.fr,.int (i * j)):=Zq (.inl h)
theorem ay {m n:Md} {i j:Int} (h:0 < j/\j < 1073741824):eI (m,.int i) (n,.int j)=some (.fr,.int (i / j)):=Zq h
theorem aA {m n:Md} {i j:Int} (h:0 < j):oMod (m,.int i) (n,.int j)=some (.fr,.int (i % j)):=Zq h
theorem cT {l:Ww} {t:T} (h:l.length < 16777216):aG (.lst l) [(.fr,t)]=some (.lst (l++[t]),(.fr,.non)):=by
 simp only [aG,fit,Zu]
 exact Zq h
theorem il {a:Ex} {η:Env} {m:Md} {j:Int} (e:a η=some (m,.int j)) (h:-4611686018427387904<=j/\j < 4611686018427387904):de a η=some (.fr,rng 0 j.toNat):=by
 simp only [de,e,Zu,int?]
 exact Zq h
theorem cy {m:Md} {l:Ww} (h:l.length<=16777216):mkL m l=some (if cY l then .fr else m,.lst l):=Zq h
theorem fI {tg:Tg} {body:Sx} {t:T} {r:Ww} {η η1 η2:Env} (h1:tg t η=some η1) (h2:body η1=some (.nx η2)):forL tg body (t :: r) η=forL tg body r η2:=by
 simp [forL,h1,h2]
theorem strs_map {α:Type} (f:α->Tx):∀ l:List α,strs? (l.map fun x=>T.str (f x))=some (l.map f)
 | []=>rfl
 | a :: r=>by simp [strs?,strs_map f r]
theorem ints_map {α:Type} (f:α->Int):∀ l:List α,ka (l.map fun x=>T.int (f x))=some (l.map f)
 | []=>rfl
 | a :: r=>by simp [ka,ints_map f r]
theorem kC:∀ ss:List Tx,dm [] ss=ss.flatten
 | []=>rfl
 | [x]=>by simp [dm]
 | x :: y :: r=>by
  have:=kC (y :: r)
  simp [dm] at this ⊢
  exact this
theorem kG:∀ ss:List Tx,total ss=ss.flatten.length
 | []=>rfl
 | x :: r=>by simp [total,kG r]
theorem qV {m n:Md} {l:Ww} {ss:List Tx} (e:strs? l=some ss) (h1:ss.flatten.length<=16777216):iY (m,.str []) [(n,.lst l)]=some (.fr,.str ss.flatten):=by
 simp only [iY,Zu,e,kC]
 refine Zq ?_
 rw [kG]
 show _<=16777216
 simpa using h1
theorem iI {α:Type} (l:List α):(l.map fun x=>[x]).flatten=l:=by
 induction l with
 | nil=>rfl
 | cons a r ih=>rw [Zp,ZL,ih];rfl
theorem ku (n:Nat):rng 0 n=(List.range n).map fun (k:Nat)=>T.int (k:Int):=by
 unfold rng
 simp
theorem gM {α:Type} (f:α->T) (h:∀ x,imm (f x)=true):∀ l:List α,cY (l.map f)=true
 | []=>rfl
 | a :: r=>by simp [h,gM f h r]
theorem lV {α:Type} {tg:Tg} {elt:Ex} {η:Env} (g:α->T) (f:α->Val):∀ l:List α,(∀ a∈l,∃ η',tg (g a) η=some η'/\elt η'=some (f a))->kT tg none elt η (l.map g)=some (l.map f)
 | [],_=>rfl
 | a :: r,h=>by
  obtain ⟨η',h1,h2⟩:=h a Zx
  simp [kT,h1,h2,lV g f r fun b hb=>h b (Zv _ hb)]
theorem n8 {α:Type} (f:α->T):∀ l:List α,cA (l.map fun a=>(Md.fr,f a))=.fr
 | []=>rfl
 | a :: r=>by simp [n8 f r]
theorem rh {α:Type} (f:α->Val) (l:List α):trees (l.map f)=l.map fun a=>(f a).2:=by simp
theorem g0 {α:Type} {k:Nat} {tg:Tg} {it:Its} {elt:Ex} {η:Env} {m:Md} (g:α->T) (f:α->T) (l:List α) (hi:it η=some (m,l.map g)) (hk:okI m (l.map g)=true) (hl:l.length<=16777216)
  (h:∀ a∈l,∃ η',tg (g a) (List.replicate k none++η)=some η'/\elt η'=some (.fr,f a)):fF k tg it none elt η=some (.fr,.lst (l.map f)):=by
 simp only [fF,hi,Zu]
 rw [Zq hk,lV g (fun a=>(Md.fr,f a)) l h]
 simp only [Zu,n8,rh]
 rw [cy (by rw [Zy];exact hl)]
 simp
theorem AB {α:Type} {m n:Md} (f:α->T) (l:List α) (i:Int) (d:α) (h0:0<=i) (h1:i < l.length) (hi:imm (f (l.getD i.toNat d))=true):aJ (m,.lst (l.map f)) (n,.int i)=some (.fr,f (l.getD i.toNat d)):=by
 have b2:i.toNat < l.length:=by lia
 simp only [Zs,Zm b2,YW] at hi ⊢
 simp [ixP,h0,h1,b2,hi]
end VS
end
section
namespace L2
open PySem PySem.Spec PyProof.Rows
noncomputable abbrev Key:=Sum Int Str
noncomputable def jE:Key->Value->Bool
 | .inl k,v=>Value.isInt k v
 | .inr x,v=>Value.isStrOf x v
noncomputable def CL (w:World):Key->Int
 | .inl k=>hashInt k
 | .inr x=>hashStr w x
theorem bL:∀ {k:Key} {v:Value},jE k v=true->(∃ i t,k=Sum.inl i/\v=Value.int i t)\/(∃ x t,k=Sum.inr x/\v=Value.str x t)
 | .inl i,v,h=>by
  obtain ⟨t,e⟩:=Value.isInt_shape (k:=i) (v:=v) h
  exact .inl ⟨i,t,rfl,e⟩
 | .inr x,v,h=>by
  obtain ⟨t,e⟩:=Value.isStrOf_shape (x:=x) (v:=v) h
  exact .inr ⟨x,t,rfl,e⟩
theorem rL (i:Int) (t:Tok):jE (.inl i) (.int i t)=true:=by simp [jE,Value.isInt]
theorem qX (x:Str) (t:Tok):jE (.inr x) (.str x t)=true:=by simp [jE,Value.isStrOf]
theorem zW (a b:Int):decide ((Sum.inl a:Key)=Sum.inl b)=(a == b):=by
 by_cases e:a=b
 ·subst e;simp
 ·have h:¬ (Sum.inl a:Key)=Sum.inl b:=fun q=>e (Sum.inl.inj q)
  rw [decide_eq_false h]
  exact (beq_eq_false_iff_ne.mpr e).symm
theorem yF (a b:Str):decide ((Sum.inr a:Key)=Sum.inr b)=decide (a=b):=by
 by_cases e:a=b
 ·subst e;simp
 ·have h:¬ (Sum.inr a:Key)=Sum.inr b:=fun q=>e (Sum.inr.inj q)
  rw [decide_eq_false h,decide_eq_false e]
theorem AQ (a:Int) (b:Str):decide ((Sum.inl a:Key)=Sum.inr b)=false:=decide_eq_false (fun q=>nomatch q)
theorem Av (a:Str) (b:Int):decide ((Sum.inr a:Key)=Sum.inl b)=false:=decide_eq_false (fun q=>nomatch q)
noncomputable def bG (prog:Program) (w:World):PySem.KeyKind prog w Key where
 is:=jE
 hash:=CL w
 inj:=fun v a b ha hb=>by
  rcases bL ha with ⟨i,t,rfl,rfl⟩ | ⟨x,t,rfl,rfl⟩
  ·rcases bL hb with ⟨j,u,rfl,e⟩ | ⟨y,u,rfl,e⟩
   ·injection e with e1 _;rw [e1]
   ·exact nomatch e
  ·rcases bL hb with ⟨j,u,rfl,e⟩ | ⟨y,u,rfl,e⟩
   ·exact nomatch e
   ·injection e with e1 _;rw [e1]
 byValue:=fun k v h=>by
  rcases bL h with ⟨i,t,rfl,rfl⟩ | ⟨x,t,rfl,rfl⟩ <;> rfl
 pyHash:=fun hv h=>by
  rcases bL hv with ⟨i,t,rfl,rfl⟩ | ⟨x,t,rfl,rfl⟩
  ·exact wpAny_pyHash_int h
  ·exact wpAny_pyHash_str h
 eqBool:=fun hu hv h=>by
  rcases bL hu with ⟨i,t,rfl,rfl⟩ | ⟨x,t,rfl,rfl⟩
  ·rcases bL hv with ⟨j,u,rfl,rfl⟩ | ⟨y,u,rfl,rfl⟩
   ·rw [zW] at h;exact wpAny_eqBool_int h
   ·rw [AQ] at h;exact SeqAt.EqAt.int_str i t y u _ _ _ _ h
  ·rcases bL hv with ⟨j,u,rfl,rfl⟩ | ⟨y,u,rfl,rfl⟩
   ·rw [Av] at h;exact SeqAt.EqAt.str_int x t j u _ _ _ _ h
   ·rw [yF] at h;exact wpAny_eqBool_str h
 «strs» := fun k x t v h=>by
  rcases bL h with ⟨i,u,rfl,e⟩ | ⟨y,u,rfl,e⟩
  ·exact nomatch e
  ·injection e with e1 _
   subst e1
   cases v <;> rfl
theorem nR (prog:Program) (w:World) (i:Int) (t:Tok):(bG prog w).is (.inl i) (.int i t)=true:=rL i t
theorem nH (prog:Program) (w:World) (x:Str) (t:Tok):(bG prog w).is (.inr x) (.str x t)=true:=qX x t
inductive V where
 | non | bl (b:Bool) | int (i:Int) | str (x:Str) | byt (b:Array UInt8) | flt (b:UInt64) | ref (a:Addr) | ty (n:String)
 deriving DecidableEq
noncomputable def RelV:V->Value->Prop
 | .non,u=>u=Value.none
 | .bl b,u=>u=Value.bool b
 | .int i,u=>∃ t,u=Value.int i t
 | .str x,u=>∃ t,u=Value.str x t
 | .byt b,u=>∃ t,u=Value.bytes b t
 | .flt b,u=>∃ t,u=Value.float b t
 | .ref a,u=>u=Value.ref a
 | .ty n,u=>u=Value.type n
noncomputable abbrev aR:List V->X5->Prop:=Paired RelV
theorem aR.length {xs:List V} {us:X5} (r:aR xs us):xs.length=us.length:=YB r
theorem aR.get:∀ {xs:List V} {us:X5} {i:Nat} {x:V},aR xs us->xs[i]?=some x->∃ u,us[i]?=some u/\RelV x u
 | _,_,_,_,.nil,e=>by simp at e
 | _,_,0,_,.cons r _,e=>by simp at e;subst e;exact ⟨_,rfl,r⟩
 | _,_,i+1,x,.cons _ t,e=>by
  obtain ⟨u,h1,h2⟩:=aR.get (i:=i) (x:=x) t (by simpa using e)
  exact ⟨u,by simpa using h1,h2⟩
theorem aR.set {x:V} {u:Value} (r:RelV x u):∀ {xs:List V} {us:X5} (i:Nat),aR xs us->aR (xs.set i x) (us.set i u)
 | _,_,_,.nil=>.nil
 | _,_,0,.cons _ t=>.cons r t
 | _,_,i+1,.cons q t=>.cons q (aR.set r i t)
theorem aR.append:∀ {xs ys:List V} {us ws:X5},aR xs us->aR ys ws->aR (xs++ys) (us++ws)
 | _,_,_,_,.nil,s=>s
 | _,_,_,_,.cons r t,s=>.cons r (aR.append t s)
theorem aR.take:∀ {xs:List V} {us:X5} (n:Nat),aR xs us->aR (xs.take n) (us.take n)
 | _,_,0,_=>.nil
 | _,_,_+1,.nil=>.nil
 | _,_,n+1,.cons r t=>.cons r (aR.take n t)
theorem aR.drop:∀ {xs:List V} {us:X5} (n:Nat),aR xs us->aR (xs.drop n) (us.drop n)
 | _,_,0,r=>r
 | _,_,_+1,.nil=>.nil
 | _,_,n+1,.cons _ t=>aR.drop n t
theorem aR.none_of:∀ {xs:List V} {us:X5} {i:Nat},aR xs us->xs[i]?=none->us[i]?=none:=fun {xs us i} r e=>by
 have h1:=r.length
 have h2:xs.length<=i:=Yv.mp e
 exact Yv.mpr (by lia)
noncomputable def gq:Option V->X6->Prop
 | some v,some u=>RelV v u
 | none,none=>True
 | _,_=>False
noncomputable def KV {κ:Type}:List (κ×V)->List (κ×Value)->Prop:=Paired fun (p:κ×V) (q:κ×Value)=>p.1=q.1/\RelV p.2 q.2
noncomputable def kV:Key->V
 | .inl i=>.int i
 | .inr x=>.str x
inductive HO where
 | lst (xs:List V)
 | tup (xs:List V)
 | dK (kvs:List (Key×V)) | dT (kvs:List (List Key×V))
 | set (S:Int->Bool) (n:Nat)
 | ins (C dx:Addr) (fs:List (Str×V))
 | own (x:Addr)
 | xd (fs:List (Str×V))
 | met (f x:Addr)
 | rng (lo hi:Int)
 | frz (o:Obj) (u:HO)
 | tbl (ps:Array Value)
 | ext (φ:Heap->Prop)
noncomputable abbrev Hp:=Addr->Option HO
noncomputable def upd (H:Hp) (a:Addr) (o:HO):Hp:=fun b=>if b=a then some o else H b
theorem aD {H:Hp} {a:Addr} {o:HO}:upd H a o a=some o:=by unfold upd;rw [Zq rfl]
theorem aI {H:Hp} {a b:Addr} {o:HO} (h:b ≠ a):upd H a o b=H b:=by unfold upd;rw [Zn h]
theorem wt {H:Hp} {a:Addr} {o u:HO}:upd (upd H a o) a u=upd H a u:=by
 funext b;unfold upd;split <;> rfl
theorem Bo {H:Hp} {a b:Addr} {o u:HO} (h:H a=some o) (h':H b=some u) (d:o ≠ u):a ≠ b:=by
 intro e;subst e;rw [h] at h';exact d (Zo h')
theorem dR {H:Hp} {a b:Addr} {o:HO} (h:H a=some o) (h':H b=none):a ≠ b:=by
 intro e;subst e;rw [h] at h';cases h'
noncomputable def NoD (h:Heap) (a:Addr):Prop:=∀ o,h.get? a=some o->o.dict=none
theorem NoD.new (h:Heap) (its:Array Value):NoD (h.push { cls:=.type "tuple",data:=.seq its }) h.objs.size:=fun o e=>by
 rw [ZS _ rfl] at e
 cases e
 rfl
theorem NoD.of {h:Heap} {a:Addr} {o:Obj} (e:h.get? a=some o) (d:o.dict=none):NoD h a:=fun o' e'=>by
 rw [e] at e'
 cases e'
 exact d
section
variable (P:Program) (w:World)
noncomputable def b9 (H:Hp) (h:Heap) (a:Addr):HO->Prop
 | .lst xs=>xs.length<=sizeLine/\∃ (its:X5) (n:Nat),aR xs its/\h.get? a=some { cls:=.type "list",data:=.seq its.toArray n }
 | .tup xs=>xs.length<=sizeLine/\∃ its:X5,aR xs its/\NoD h a/\IsTup h a its.toArray
 | .dK kvs=>kvs.length<=sizeLine/\(a == sysModules)=false/\∃ vs,KV kvs vs/\h.DictOf (bG P w) a vs
 | .dT kvs=>kvs.length<=sizeLine/\(a == sysModules)=false/\∃ xs:List (List Key×Addr×Value),
   Paired (fun (p:List Key×V) (q:List Key×Addr×Value)=>p.1=q.1/\H q.2.1=some (.tup (p.1.map kV))/\RelV p.2 q.2.2) kvs xs ∧
   ∃ o es ep,h.get? a=some o/\o.ExactDict/\o.data=.dict es ep/\es.toList=xs.map (entryOfKey (tupleKind (bG P w)))/\(xs.map (·.1)).Nodup
 | .set S n=>h.SetOf (intKind P w) a S n
 | .ins C dx fs=>H dx=some (.own a)/\fs.length<=1000/\dx ≠ a/\h.get? a=some (PySem.W.instObj C dx) ∧
   ∃ mA,h.Ns1 dx mA/\(∀ f,gq (fs.lookup f) (mA f))/\PySem.Within mA (fs.map (·.1))
 | .own _=>∃ o,h.get? a=some o
 | .xd fs=>∃ mA,h.Ns1 a mA/\∀ f,gq (fs.lookup f) (mA f)
 | .rng lo hi=>∃ t u v,h.get? a=some { cls:=.type "range",data:=.fields #[.int lo t,.int hi u,.int 1 v] }
 | .frz o u=>h.get? a=some o/\b9 H h a u
 | .tbl ps=>h.get? a=some { cls:=.none,data:=.fields ps }
 | .met f x=>h.get? a=some (PySem.W.methodObj (.ref f) (.ref x))
 | .ext φ=>φ h/\(∃ o,h.get? a=some o)/\∀ h1 h2:Heap,φ h1->(∀ o,h1.get? a=some o->h2.get? a=some o)->φ h2
noncomputable def HOk (H:Hp) (h:Heap):Prop:=∀ a o,H a=some o->b9 P w H h a o
end
section
variable {P:Program} {w:World} {H H':Hp} {h h':Heap} {a:Addr} {o:HO}
theorem b9.lt (x:b9 P w H h a o):a < h.objs.size:=by
 cases o with
 | lst xs=>obtain ⟨_,_,_,_,e⟩:=x;exact ZX e
 | tup xs=>obtain ⟨_,_,_,_,p⟩:=x;exact p.lt
 | dK kvs=>obtain ⟨_,_,_,_,o,_,_,e,_⟩:=x;exact ZX e
 | dT kvs=>obtain ⟨_,_,_,_,o,_,_,e,_⟩:=x;exact ZX e
 | set S n=>obtain ⟨o,_,_,_,e,_⟩:=x;exact ZX e
 | ins C dx fs=>obtain ⟨_,_,_,e,_⟩:=x;exact ZX e
 | own y=>obtain ⟨_,e⟩:=x;exact ZX e
 | xd fs=>obtain ⟨_,⟨_,_,_,e,_⟩,_⟩:=x;exact ZX e
 | rng lo hi=>obtain ⟨_,_,_,e⟩:=x;exact ZX e
 | frz ob u=>obtain ⟨e,_⟩:=x;exact ZX e
 | tbl ps=>exact ZX (show h.get? a=some _ from x)
 | met f y=>exact ZX (show h.get? a=some _ from x)
 | ext φ=>obtain ⟨_,⟨_,e⟩,_⟩:=x;exact ZX e
theorem Paired.mapP {α β:Type} {F G:α->β->Prop}:∀ {l₁:List α} {l₂:List β},Paired F l₁ l₂->(∀ a b,F a b->G a b)->Paired G l₁ l₂
 | _,_,.nil,_=>.nil
 | _,_,.cons r t,f=>.cons (f _ _ r) (Paired.mapP t f)
theorem b9.stay (x:b9 P w H h a o) (k:∀ b u,(b=a\/H b=some (.own a))->h.get? b=some u->h'.get? b=some u)
  (ho:∀ b,H b=some (.own a)->H' b=some (.own a)) (ht:∀ b xs,H b=some (.tup xs)->H' b=some (.tup xs)):b9 P w H' h' a o:=by
 induction o with
 | lst xs=>obtain ⟨z,its,n,r,e⟩:=x;exact ⟨z,its,n,r,k _ _ (.inl rfl) e⟩
 | tup xs=>obtain ⟨z,its,r,nd,ob,e,c⟩:=x;exact ⟨z,its,r,NoD.of (k _ _ (.inl rfl) e) (nd _ e),ob,k _ _ (.inl rfl) e,c⟩
 | dK kvs=>obtain ⟨z,y,vs,r,ob,es,ep,e,c⟩:=x;exact ⟨z,y,vs,r,ob,es,ep,k _ _ (.inl rfl) e,c⟩
 | dT kvs =>
  obtain ⟨z,y,xs,r,ob,es,ep,e,c⟩:=x
  exact ⟨z,y,xs,Paired.mapP r fun p q z=>⟨z.1,ht _ _ z.2.1,z.2.2⟩,ob,es,ep,k _ _ (.inl rfl) e,c⟩
 | set S n=>obtain ⟨ob,es,ep,t,e,c⟩:=x;exact ⟨ob,es,ep,t,k _ _ (.inl rfl) e,c⟩
 | ins C dx fs =>
  obtain ⟨d,z,ne,e,mA,⟨od,es,ep,e2,c⟩,r⟩:=x
  exact ⟨ho _ d,z,ne,k _ _ (.inl rfl) e,mA,⟨od,es,ep,k _ _ (.inr d) e2,c⟩,r⟩
 | own y=>obtain ⟨ob,e⟩:=x;exact ⟨ob,k _ _ (.inl rfl) e⟩
 | xd fs=>obtain ⟨mA,⟨od,es,ep,e,c⟩,r⟩:=x;exact ⟨mA,⟨od,es,ep,k _ _ (.inl rfl) e,c⟩,r⟩
 | rng lo hi=>obtain ⟨t,u,v,e⟩:=x;exact ⟨t,u,v,k _ _ (.inl rfl) e⟩
 | frz ob u ih=>obtain ⟨e,q⟩:=x;exact ⟨k _ _ (.inl rfl) e,ih q⟩
 | tbl ps =>
  have e:h.get? a=some { cls:=.none,data:=.fields ps }:=x
  show h'.get? a=some { cls:=.none,data:=.fields ps }
  exact k a _ (.inl rfl) e
 | met f y =>
  have e:h.get? a=some (PySem.W.methodObj (.ref f) (.ref y)):=x
  show h'.get? a=some (PySem.W.methodObj (.ref f) (.ref y))
  exact k a _ (.inl rfl) e
 | ext φ=>obtain ⟨p,⟨o,e⟩,st⟩:=x;exact ⟨st _ _ p fun o q=>k _ _ (.inl rfl) q,⟨o,k _ _ (.inl rfl) e⟩,st⟩
theorem HOk.lt (x:HOk P w H h) (e:H a=some o):a < h.objs.size:=(x a o e).lt
theorem HOk.fresh (x:HOk P w H h) (e:h.objs.size<=a):H a=none:=by
 cases q:H a with
 | none=>rfl
 | some u=>exact absurd (ZY (x.lt q) e) (Yn _)
theorem HOk.kept (x:HOk P w H h) (k:∀ b u,h.get? b=some u->h'.get? b=some u):HOk P w H h':=fun a o e =>
 (x a o e).stay (fun b u _ q=>k b u q) (fun _ q=>q) fun _ _ q=>q
theorem HOk.laid (x:HOk P w H h) (k:∀ b u,h.get? b=some u->h'.get? b=some u) (hp:h.objs.size<=a) (new:b9 P w (upd H a o) h' a o):HOk P w (upd H a o) h':=fun b u e=>by
 have hn:=x.fresh hp
 by_cases hb:b=a
 ·subst hb;rw [aD] at e;cases e;exact new
 ·rw [aI hb] at e
  exact (x b u e).stay (fun c v _ q=>k c v q) (fun c q=>by rw [aI (dR q hn)];exact q) fun c xs q=>by rw [aI (dR q hn)];exact q
end
noncomputable def Rd (H:Hp) (a:Addr) (u:HO):Prop:=H a=some u\/∃ o,H a=some (.frz o u)
theorem Rd.ok {P:Program} {w:World} {H:Hp} {h:Heap} {a:Addr} {u:HO} (r:Rd H a u) (x:HOk P w H h):b9 P w H h a u:=by
 rcases r with r | ⟨o,r⟩
 ·exact x a u r
 ·obtain ⟨_,q⟩:=x a _ r
  exact q
noncomputable def Mut:Option HO->Prop
 | some (.lst _)=>True
 | some (.dK _)=>True
 | some (.dT _)=>True
 | some (.set _ _)=>True
 | some (.ins _ _ _)=>True
 | some (.ext _)=>True
 | _=>False
section
variable {P:Program} {w:World} {H:Hp} {h h':Heap} {x e:Addr} {o':HO}
theorem HOk.write (ok:HOk P w H h) (mu:Mut (H x)) (he:e=x\/H e=some (.own x)) (k:∀ b u,b ≠ e->h.get? b=some u->h'.get? b=some u) (heo:∃ u,h'.get? e=some u)
  (new:b9 P w (upd H x o') h' x o'):HOk P w (upd H x o') h':=fun b u q=>by
 have nown:∀ c y,H c=some (.own y)->c ≠ x:=fun c y r z=>by subst z;rw [r] at mu;exact mu
 have ntup:∀ c xs,H c=some (.tup xs)->c ≠ x:=fun c xs r z=>by subst z;rw [r] at mu;exact mu
 by_cases hb:b=x
 ·subst hb;rw [aD] at q;cases q;exact new
 ·rw [aI hb] at q
  by_cases hbe:b=e
  ·have q':H b=some (.own x):=by
    rcases he with z | z
    ·exact absurd (hbe.trans z) hb
    ·rw [hbe];exact z
   rw [q] at q';cases q'
   obtain ⟨v,hv⟩:=heo
   exact ⟨v,by rw [hbe];exact hv⟩
  ·refine (ok b u q).stay (fun c v hc r=>k c v ?_ r) (fun c r=>by rw [aI (nown c b r)];exact r) fun c xs r=>by rw [aI (ntup c xs r)];exact r
   rcases hc with rfl | hc
   ·exact hbe
   ·rintro rfl
    rcases he with z | z
    ·exact nown c b hc z
    ·rw [hc] at z;cases z;exact hb rfl
end
structure Un (fs ex:X4) (H H':Hp) (h h':Heap):Prop where
 keep:∀ b o,h.get? b=some o->H b=none->b ∉ fs->b ∉ ex->h'.get? b=some o
 slot:∀ b o,h.get? b=some o->H b=none->b∈fs->b ∉ ex->∃ sl,h'.get? b=some { o with slots:=sl }
 free:∀ b o,h.get? b=some o->H b=none->b ∉ ex->H' b=none
 there:∀ b o,h.get? b=some o->b ∉ ex->∃ o',h'.get? b=some o'
 tups:∀ b xs,H b=some (.tup xs)->H' b=some (.tup xs)
 frzs:∀ b o u,H b=some (.frz o u)->H' b=some (.frz o u)
 tbls:∀ b ps,H b=some (.tbl ps)->∃ more,H' b=some (.tbl (ps++more))
section
variable {fs fs' ex ex':X4} {H H1 H2:Hp} {h h1 h2 h':Heap} {a x e:Addr} {o:HO}
theorem Un.any (u:Un fs ex H H1 h h1) {b:Addr} {ob:Obj} (q:h.get? b=some ob) (n:H b=none) (hx:b ∉ ex):∃ sl,h1.get? b=some { ob with slots:=sl }:=by
 by_cases hb:b∈fs
 ·exact u.slot b ob q n hb hx
 ·exact ⟨ob.slots,u.keep b ob q n hb hx⟩
theorem Un.kept (k:∀ b u,h.get? b=some u->h'.get? b=some u):Un fs ex H H h h' :=
 ⟨fun b ob q _ _ _=>k b ob q,fun b ob q _ _ _=>⟨ob.slots,k b ob q⟩,fun _ _ _ n _=>n,fun b ob q _=>⟨ob,k b ob q⟩,fun _ _ q=>q,fun _ _ _ q=>q,fun _ ps q=>⟨#[],by rw [q];simp⟩⟩
theorem Un.refl:Un fs ex H H h h:=Un.kept fun _ _ q=>q
theorem Un.laid (k:∀ b u,h.get? b=some u->h'.get? b=some u) (hp:h.objs.size<=a) (hn:H a=none):Un fs ex H (upd H a o) h h' where
 keep:=fun b u q _ _ _=>k b u q
 slot:=fun b u q _ _ _=>⟨u.slots,k b u q⟩
 free:=fun b u q n _=>by rw [aI (ZW (ZY (ZX q) hp))];exact n
 there:=fun b u q _=>⟨u,k b u q⟩
 tups:=fun b xs q=>by rw [aI (dR q hn)];exact q
 frzs:=fun b u xs q=>by rw [aI (dR q hn)];exact q
 tbls:=fun b ps q=>⟨#[],by rw [aI (dR q hn),q];simp⟩
theorem Un.write (mu:Mut (H x)) (he:e=x\/H e=some (.own x)) (k:∀ b u,b ≠ e->h.get? b=some u->h'.get? b=some u) (heo:∃ u,h'.get? e=some u):Un fs ex H (upd H x o) h h':=by
 have hx:∀ b,H b=none->b ≠ x:=fun b n z=>by subst z;rw [n] at mu;exact mu
 have hb:∀ b,H b=none->b ≠ e:=fun b n z=>by
  subst z
  rcases he with r | r
  ·exact hx b n r
  ·rw [n] at r;cases r
 have hm:∀ b u,H b=some u->¬ Mut (some u)->b ≠ x:=fun b u q nm z=>by subst z;rw [q] at mu;exact nm mu
 refine ⟨fun b u q n _ _=>k b u (hb b n) q,fun b u q n _ _=>⟨u.slots,k b u (hb b n) q⟩,fun b u q n _=>by rw [aI (hx b n)];exact n,fun b u q _=>?_,
  fun b xs q=>by rw [aI (hm b _ q fun z=>z)];exact q,fun b u xs q=>by rw [aI (hm b _ q fun z=>z)];exact q,fun b ps q=>⟨#[],by rw [aI (hm b _ q fun z=>z),q];simp⟩⟩
 by_cases hbe:b=e
 ·subst hbe;exact heo
 ·exact ⟨u,k b u hbe q⟩
end
noncomputable def trk (h:Heap) (H:Hp):X4:=(List.range h.objs.size).filter fun a=>(H a).isSome
noncomputable def m7 (h:Heap) (H:Hp):Heap:=PySem.W.hideAll h (trk h H)
theorem q8 (h:Heap) (H:Hp):(m7 h H).objs.size=h.objs.size:=PySem.W.hideAll_size _ _
theorem uZ {h:Heap} {H:Hp} {b:Addr} {o:Obj} (e:h.get? b=some o) (n:H b=none):(m7 h H).get? b=some o :=
 PySem.W.hideAll_get _ e fun hm=>by
  have q:(H b).isSome=true:=(Y8.mp hm).2
  rw [n] at q;simp at q
theorem vA {h:Heap} {H:Hp} {b:Addr} {o:Obj} (e:(m7 h H).get? b=some o):h.get? b=some o/\H b=none:=by
 have e':h.get? b=some o:=PySem.W.of_hideAll (trk h H) e
 refine ⟨e',?_⟩
 cases q:H b with
 | none=>rfl
 | some x =>
  have hm:b∈trk h H:=Y8.mpr ⟨YV.mpr (ZX e'),by simp [q]⟩
  have z:(m7 h H).get? b=none:=PySem.W.hideAll_none (trk h H) hm
  rw [z] at e;cases e
noncomputable def xy (g h:Heap) (L:Addr):Xw:=(List.range h.objs.size).filterMap fun a=>if a=L\/(g.get? a).isSome=true then none else (h.get? a).map fun o=>(a,o)
noncomputable def rest (g h:Heap) (L d:Addr):Xw:=(xy g h L).filter fun p=>decide (p.1 ≠ d)
structure Mod (K:X0) (mg:X3) (base:Heap):Prop where
 kin:K.In base
 glob:base.Ns mainGlobals mg
 blt:∃ mb,base.Ns builtinsNs mb/\∀ x:Str,x ≠ "__name__" → mb x=bootBuiltins x
 nolimit:base.NoLimit
structure Cx where
 prog:Program
 w:World
 K:X0
 mg:X3
 base:Heap
 A:Around
 N:List Str
 s₀:Shared
 H₀:Hp
 env:Env
 outer:List Env
 stack:List Env
 ex:X4
 fn:Str->Bool
 calm:Bool
 pn:Xw
 xe:Yt
noncomputable def frs (l:List Env):X4:=l.filterMap (·.frame)
noncomputable abbrev Cx.fs (X:Cx):X4:=frs X.outer
noncomputable def Vis (sc:Scope) (x:Str):Prop:=sc.names.lookup x=some .local\/sc.names.lookup x=some .cell\/sc.names.lookup x=some .free
noncomputable def Loc (sc:Scope) (x:Str):Prop:=sc.names.lookup x=some .local\/sc.names.lookup x=some .cell
noncomputable def Look (env:Env) (h:Heap) (m:X3) (x:Str) (u:Value):Prop :=
 (env.kindOf x=some .local/\m x=some u)\/((env.kindOf x=some .cell\/env.kindOf x=some .free)/\∃ c,env.cells.lookup x=some c/\h.IsCell c (some u))
structure Cx.Ok (X:Cx):Prop where
 mod:Mod X.K X.mg X.base
 kind:X.env.scope.kind=.function
 glob:X.env.globals=mainGlobals
 blt:X.env.builtins=builtinsNs
 above:X.s₀.heap.objs.size<=X.env.locals
 inj:∀ x y c,X.env.cells.lookup x=some c->X.env.cells.lookup y=some c->x=y
 has:∀ x,(X.env.kindOf x=some .cell\/X.env.kindOf x=some .free)->∃ c,X.env.cells.lookup x=some c
 cab:∀ x c,X.fn x=true->X.env.cells.lookup x=some c->X.s₀.heap.objs.size<=c
 hd:X.calm=true->X.A.handled=none
 frames:X.A.frames=some X.stack
 stk:X.stack=X.outer\/(X.stack=X.env :: X.outer/\X.env.frame=some X.env.locals)
 exf:∀ b∈X.ex,b ≠ X.env.locals/\∀ x c,X.env.cells.lookup x=some c->c ≠ b
 bs:∀ b o,X.base.get? b=some o->X.s₀.heap.get? b=some o/\X.H₀ b=none
 bsz:X.base.objs.size<=X.s₀.heap.objs.size
 noex:∀ b o,X.base.get? b=some o->b ∉ X.ex
 exfs:∀ b∈X.ex,b ∉ X.fs
 funs:X.s₀.heap.FunFrames X.base X.outer
 frf:∀ b∈X.fs,X.H₀ b=none
structure Inv (X:Cx) (pins:Xw) (σ:List (Option V)) (H:Hp) (s:Shared):Prop where
 ok:X.Ok
 os:s.os=X.s₀.os
 bare:AllBare s.gens
 base:Un X.fs X.ex X.H₀ H X.s₀.heap s.heap
 loc:∃ m,s.heap.Ns X.env.locals m/\∀ (i:Nat) (x:Str) (v:V),X.N[i]?=some x->σ[i]?=some (some v)->Vis X.env.scope x->∃ u,RelV v u/\Look X.env s.heap m x u
 cell:∀ x c,X.env.cells.lookup x=some c->∃ v,s.heap.IsCell c v
 free:H X.env.locals=none
 freeC:∀ x c,X.env.cells.lookup x=some c->H c=none
 pin:∀ p∈X.pn++pins,s.heap.get? p.1=some p.2/\H p.1=none/\p.1 ≠ X.env.locals/\p.1 ∉ X.fs/\∀ v,p.2.data ≠ .cell v
 hok:HOk X.prog X.w H s.heap
 len:σ.length=X.N.length
section
variable {X:Cx} {pins:Xw} {σ:List (Option V)} {H H':Hp} {s:Shared} {h':Heap}
theorem Cx.Ok.nofr (ok:X.Ok) {b:Addr} {o:Obj} (e:X.base.get? b=some o):b ∉ X.fs:=fun hb=>by
 have:=(ok.funs.mem hb).1
 rw [e] at this;cases this
theorem Inv.bs (I:Inv X pins σ H s):∀ b o,X.base.get? b=some o->s.heap.get? b=some o/\H b=none:=fun b o e =>
 ⟨I.base.keep b o (I.ok.bs b o e).1 (I.ok.bs b o e).2 (I.ok.nofr e) (I.ok.noex b o e),I.base.free b o (I.ok.bs b o e).1 (I.ok.bs b o e).2 (I.ok.noex b o e)⟩
theorem Inv.bk (I:Inv X pins σ H s):∀ b o,X.base.get? b=some o->s.heap.get? b=some o:=fun b o e=>(I.bs b o e).1
theorem Inv.mod (I:Inv X pins σ H s):Mod X.K X.mg X.base:=I.ok.mod
theorem Inv.kIn (I:Inv X pins σ H s):X.K.In s.heap:=I.ok.mod.kin.keeps I.bk
theorem Inv.lt (I:Inv X pins σ H s):X.env.locals < s.heap.objs.size:=let ⟨_,hn,_⟩:=I.loc;hn.lt
theorem Inv.sz (I:Inv X pins σ H s):X.s₀.heap.objs.size<=s.heap.objs.size:=ZI I.ok.above (XS I.lt)
theorem Inv.nofs (I:Inv X pins σ H s) {a:Addr} (h:s.heap.objs.size<=a):a ∉ X.fs:=fun hb=>by
 obtain ⟨_,o,ho,_⟩:=I.ok.funs.mem hb
 exact absurd (ZY (ZX ho) (ZI I.sz h)) (Yn _)
theorem Inv.cne (I:Inv X pins σ H s):∀ x c,X.env.cells.lookup x=some c->c ≠ X.env.locals:=fun x c e z=>by
 obtain ⟨v,o,ho,hd⟩:=I.cell x c e
 obtain ⟨m,⟨o',es,ep,ho',hd',_⟩,_⟩:=I.loc
 rw [z,ho'] at ho;cases ho;rw [hd'] at hd;cases hd
theorem Inv.funs (I:Inv X pins σ H s):s.heap.FunFrames X.base X.outer:=by
 have all:∀ (l:List Env),(∀ b∈frs l,b∈X.fs)->X.s₀.heap.FunFrames X.base l->s.heap.FunFrames X.base l:=by
  intro l
  induction l with
  | nil=>intro _ _;trivial
  | cons env r ih =>
   intro hs hl
   obtain ⟨hk,⟨L,o,hf,hn,ho,hd⟩,hr⟩:=hl
   have hL:L∈X.fs:=hs L (by unfold frs;rw [Xc,hf];exact Zx)
   obtain ⟨sl,e⟩:=I.base.slot L o ho (I.ok.frf L hL) hL fun z=>I.ok.exfs L z hL
   exact ⟨hk,⟨L,_,hf,hn,e,hd⟩,ih (fun b hb=>hs b (by unfold frs;rw [Xc,hf];exact Zv _ hb)) hr⟩
 exact all X.outer (fun _ hb=>hb) I.ok.funs
theorem Inv.stack (I:Inv X pins σ H s):s.heap.FunFrames X.base X.stack:=by
 rcases I.ok.stk with e | ⟨e,hf⟩
 ·rw [e];exact I.funs
 ·rw [e]
  obtain ⟨m,hn,_⟩:=I.loc
  refine .cons (by rw [I.ok.kind];decide) hf hn ?_ I.funs
  exact Heap.get?_none_of_le (ZI I.ok.bsz I.ok.above)
theorem Inv.stkSub (I:Inv X pins σ H s):∀ b∈frs X.stack,b∈X.env.locals :: X.fs:=fun b hb=>by
 rcases I.ok.stk with e | ⟨e,hf⟩
 ·rw [e] at hb;exact Zv _ hb
 ·rw [e] at hb
  unfold frs at hb
  rw [Xc,hf] at hb
  exact hb
theorem Inv.stkFree (I:Inv X pins σ H s):∀ b∈frs X.stack,H b=none:=fun b hb=>by
 rcases Zi.mp (I.stkSub b hb) with e | hb
 ·rw [e];exact I.free
 ·obtain ⟨_,o,ho,_⟩:=I.ok.funs.mem hb
  exact I.base.free b o ho (I.ok.frf b hb) fun z=>I.ok.exfs b z hb
theorem Inv.step {g':Array GenState} {t':Nat} {d':Drawn} {ch:X4} (I:Inv X pins σ H s)
  (hch:∀ b∈ch,(b∈X.ex\/X.s₀.heap.objs.size<=b)/\b ≠ X.env.locals/\(∀ x c,X.env.cells.lookup x=some c->c ≠ b)/\∀ p∈X.pn++pins,p.1 ≠ b)
  (keep:∀ b o,b ≠ X.env.locals->b ∉ X.fs->b ∉ ch->s.heap.get? b=some o->H b=none->h'.get? b=some o)
  (slot:∀ b o,b ≠ X.env.locals->b∈X.fs->b ∉ ch->s.heap.get? b=some o->H b=none->∃ sl,h'.get? b=some { o with slots:=sl }) (free:∀ b o,b ∉ ch->s.heap.get? b=some o->H b=none->H' b=none)
  (there:∀ b o,b ∉ ch->s.heap.get? b=some o->∃ o',h'.get? b=some o')
  (tups:∀ b xs,H b=some (.tup xs)->H' b=some (.tup xs)) (frzs:∀ b o u,H b=some (.frz o u)->H' b=some (.frz o u)) (tbls:∀ b ps,H b=some (.tbl ps)->∃ more,H' b=some (.tbl (ps++more)))
  (ns:∀ m,s.heap.Ns X.env.locals m->h'.Ns X.env.locals m) (hok:HOk X.prog X.w H' h') (hg:AllBare g') :
  Inv X pins σ H' { s with heap:=h',gens:=g',drawn:=d',toks:=t' }:=by
 have neL:∀ b o,X.s₀.heap.get? b=some o->b ≠ X.env.locals:=fun b o e=>ZW (ZY (ZX e) I.ok.above)
 have neC:∀ b o,X.s₀.heap.get? b=some o->b ∉ X.ex->b ∉ ch:=fun b o e hx hb=>by
  rcases (hch b hb).1 with z | z
  ·exact hx z
  ·exact absurd (ZY (ZX e) z) (Yn _)
 have cellK:∀ x c,X.env.cells.lookup x=some c->∀ v,s.heap.IsCell c v->h'.IsCell c v:=fun x c e v ⟨o,ho,hd⟩=>by
  have nch:c ∉ ch:=fun z=>(hch c z).2.2.1 x c e rfl
  by_cases hc:c∈X.fs
  ·obtain ⟨sl,q⟩:=slot c o (I.cne x c e) hc nch ho (I.freeC x c e)
   exact ⟨_,q,hd⟩
  ·exact ⟨o,keep c o (I.cne x c e) hc nch ho (I.freeC x c e),hd⟩
 refine ⟨I.ok,I.os,hg,⟨fun b o e n hb hx=>?_,fun b o e n hb hx=>?_,fun b o e n hx=>?_,fun b o e hx=>?_,fun b xs e=>tups b xs (I.base.tups b xs e),fun b o xs e=>frzs b o xs (I.base.frzs b o xs e),fun b ps e=>?_⟩,?_,fun x c e=>?_,?_,fun x c e=>?_,fun p hp=>?_,hok,I.len⟩
 ·exact keep b o (neL b o e) hb (neC b o e hx) (I.base.keep b o e n hb hx) (I.base.free b o e n hx)
 ·obtain ⟨sl,e1⟩:=I.base.slot b o e n hb hx
  obtain ⟨sl',e2⟩:=slot b _ (neL b o e) hb (neC b o e hx) e1 (I.base.free b o e n hx)
  exact ⟨sl',e2⟩
 ·obtain ⟨o',e1⟩:=I.base.there b o e hx
  exact free b o' (neC b o e hx) e1 (I.base.free b o e n hx)
 ·obtain ⟨o',e1⟩:=I.base.there b o e hx
  exact there b o' (neC b o e hx) e1
 ·obtain ⟨m1,e1⟩:=I.base.tbls b ps e
  obtain ⟨m2,e2⟩:=tbls b _ e1
  exact ⟨m1++m2,by rw [e2,Array.append_assoc]⟩
 ·obtain ⟨m,hn,hl⟩:=I.loc
  refine ⟨m,ns m hn,fun i x v e1 e2 e3=>?_⟩
  obtain ⟨u,r,l⟩:=hl i x v e1 e2 e3
  refine ⟨u,r,?_⟩
  rcases l with l | ⟨k,c,e,z⟩
  ·exact .inl l
  ·exact .inr ⟨k,c,e,cellK x c e _ z⟩
 ·obtain ⟨v,z⟩:=I.cell x c e
  exact ⟨v,cellK x c e v z⟩
 ·obtain ⟨m,⟨o,_,_,ho,_⟩,_⟩:=I.loc
  exact free _ o (fun z=>(hch _ z).2.1 rfl) ho I.free
 ·obtain ⟨v,o,ho,hd⟩:=I.cell x c e
  exact free c o (fun z=>(hch c z).2.2.1 x c e rfl) ho (I.freeC x c e)
 ·obtain ⟨e,n,ne,nf,d⟩:=I.pin p hp
  have nch:p.1 ∉ ch:=fun z=>(hch p.1 z).2.2.2 p hp rfl
  exact ⟨keep p.1 p.2 ne nf nch e n,free p.1 p.2 nch e n,ne,nf,d⟩
theorem Inv.un {t':Nat} (I:Inv X pins σ H s) (u:Un X.fs [] H H' s.heap h') (hok:HOk X.prog X.w H' h'):Inv X pins σ H' { s with heap:=h',toks:=t' }:=by
 obtain ⟨m,⟨o,es,ep,ho,r⟩,_⟩:=id I.loc
 obtain ⟨sl,hL⟩:=u.any ho I.free (by simp)
 exact I.step (g':=s.gens) (d':=s.drawn) (ch:=[]) (fun _ z=>nomatch z) (fun b o _ hb _ e n=>u.keep b o e n hb (by simp)) (fun b o _ hb _ e n=>u.slot b o e n hb (by simp)) (fun b o _ e n=>u.free b o e n (by simp)) (fun b o _ e=>u.there b o e (by simp)) u.tups u.frzs u.tbls (fun m' hm=>by
  obtain ⟨o',es',ep',ho',r'⟩:=hm
  rw [ho] at ho';cases ho'
  exact ⟨_,es',ep',hL,r'⟩) hok I.bare
theorem Inv.call {g':Array GenState} {t':Nat} {d':Drawn} {ch:X4} (I:Inv X pins σ H s) (u:Un (frs X.stack) ch H H' s.heap h') (hok:HOk X.prog X.w H' h') (hg:AllBare g')
  (hch:∀ b∈ch,(b∈X.ex\/X.s₀.heap.objs.size<=b)/\b ≠ X.env.locals/\(∀ x c,X.env.cells.lookup x=some c->c ≠ b)/\∀ p∈X.pn++pins,p.1 ≠ b) :
  Inv X pins σ H' { s with heap:=h',gens:=g',drawn:=d',toks:=t' }:=by
 obtain ⟨m,⟨o,es,ep,ho,r⟩,_⟩:=id I.loc
 obtain ⟨sl,hL⟩:=u.any ho I.free fun z=>(hch _ z).2.1 rfl
 exact I.step (ch:=ch) hch (fun b o hL hb hc e n=>u.keep b o e n (fun z=>(Zi.mp (I.stkSub b z)).elim hL hb) hc) (fun b o _ _ hc e n=>u.any e n hc) (fun b o hc e n=>u.free b o e n hc) (fun b o hc e=>u.there b o e hc) u.tups u.frzs u.tbls (fun m' hm=>by
  obtain ⟨o',es',ep',ho',r'⟩:=hm
  rw [ho] at ho';cases ho'
  exact ⟨_,es',ep',hL,r'⟩) hok hg
theorem Inv.turned {t':Nat} {it:Addr} (I:Inv X pins σ H s) (k:∀ b o,b ≠ it->s.heap.get? b=some o->h'.get? b=some o) (hn:H it=none) (hL:it ≠ X.env.locals)
  (h1:it∈X.ex\/X.s₀.heap.objs.size<=it) (h2:∀ x c,X.env.cells.lookup x=some c->c ≠ it) (h3:∀ p∈X.pn++pins,p.1 ≠ it):Inv X pins σ H { s with heap:=h',toks:=t' }:=by
 have nit:∀ b u,H b=some u->b ≠ it:=fun b u e z=>by rw [z,hn] at e;cases e
 refine I.step (g':=s.gens) (d':=s.drawn) (ch:=[it]) (fun b hb=>?_) (fun b o _ _ hc e _=>k b o (fun z=>hc (by simp [z])) e) (fun b o _ _ hc e _=>⟨o.slots,k b o (fun z=>hc (by simp [z])) e⟩) (fun _ _ _ _ n=>n)
  (fun b o hc e=>⟨o,k b o (fun z=>hc (by simp [z])) e⟩) (fun _ _ e=>e) (fun _ _ _ e=>e) (fun b ps e=>⟨#[],by rw [e];simp⟩) (fun m hm=>?_) (fun b u e=>?_) I.bare
 ·have e:b=it:=by simpa using hb
  subst e
  exact ⟨h1,hL,h2,h3⟩
 ·obtain ⟨o,es,ep,ho,r⟩:=hm
  exact ⟨o,es,ep,k _ o (Ya hL) ho,r⟩
 ·refine (I.hok b u e).stay (fun c v hc q=>k c v ?_ q) (fun _ q=>q) fun _ _ q=>q
  rcases hc with z | z
  ·rw [z];exact nit b u e
  ·exact nit c _ z
theorem Inv.tok (I:Inv X pins σ H s) (t:Nat):Inv X pins σ H { s with toks:=t }:=I.un (h':=s.heap) (t':=t) Un.refl I.hok
theorem Inv.kept {t':Nat} (I:Inv X pins σ H s) (k:∀ b u,s.heap.get? b=some u->h'.get? b=some u):Inv X pins σ H { s with heap:=h',toks:=t' }:=I.un (Un.kept k) (I.hok.kept k)
theorem Inv.laid {a:Addr} {o:HO} {t':Nat} (I:Inv X pins σ H s) (k:∀ b u,s.heap.get? b=some u->h'.get? b=some u) (hp:s.heap.objs.size<=a) (new:b9 X.prog X.w (upd H a o) h' a o) :
  Inv X pins σ (upd H a o) { s with heap:=h',toks:=t' }:=I.un (Un.laid k hp (I.hok.fresh hp)) (I.hok.laid k hp new)
theorem Inv.write {x e:Addr} {o:HO} {t':Nat} (I:Inv X pins σ H s) (mu:Mut (H x)) (he:e=x\/H e=some (.own x)) (k:∀ b u,b ≠ e->s.heap.get? b=some u->h'.get? b=some u) (heo:∃ u,h'.get? e=some u)
  (new:b9 X.prog X.w (upd H x o) h' x o):Inv X pins σ (upd H x o) { s with heap:=h',toks:=t' }:=I.un (Un.write mu he k heo) (I.hok.write mu he k heo new)
theorem Inv.pins_of {pins':Xw} (I:Inv X pins σ H s) (h:∀ p∈pins',s.heap.get? p.1=some p.2/\H p.1=none/\p.1 ≠ X.env.locals/\p.1 ∉ X.fs/\∀ v,p.2.data ≠ .cell v):Inv X pins' σ H s :=
 ⟨I.ok,I.os,I.bare,I.base,I.loc,I.cell,I.free,I.freeC,fun p hp=>(Zg.mp hp).elim (fun z=>I.pin p (Z1 _ z)) (h p),I.hok,I.len⟩
theorem og {N:List Str} (hN:N.Nodup) {i j:Nat} {x:Str} (a:N[i]?=some x) (b:N[j]?=some x):i=j:=by
 obtain ⟨h1,e1⟩:=Zf.mp a
 obtain ⟨h2,e2⟩:=Zf.mp b
 exact (List.getElem_inj hN).mp (e1.trans e2.symm)
theorem qC {M:Model} {A:Around} {E:Yt} {i:Nat} {x:Str} {v:V} {u:Value} {Q:Unit->Shared->Prop} (I:Inv X pins σ H s) (hN:X.N.Nodup) (hi:X.N[i]?=some x) (hx:Loc X.env.scope x) (r:RelV v u)
  (h:∀ s',Inv X pins (σ.set i (some v)) H s'->(∃ a,Heap.SameBut a s.heap s'.heap/\(a=X.env.locals\/X.env.cells.lookup x=some a))->Q () s') (hf:X.fn x=true\/X.env.scope.names.lookup x=some .local:=by first | exact .inl rfl | exact .inr rfl | assumption):wpAny M A (storeName X.env x u) Q E s:=by
 obtain ⟨m,hn,hl⟩:=id I.loc
 have hcls:(X.env.scope.kind == .class || (X.env.scope.kind == .module && X.env.locals != X.env.globals))=false:=by rw [I.ok.kind];rfl
 have hiσ:i < σ.length:=by rw [I.len];exact (Zf.mp hi).1
 have cne:=I.cne
 have tracked:∀ {a:Addr} {h':Heap},(∃ o,s.heap.get? a=some o/\H a=none)->Heap.SameBut a s.heap h'->HOk X.prog X.w H h':=fun {a h'} ha hs b ob e=>by
  obtain ⟨_,_,hfree⟩:=ha
  refine (I.hok b ob e).stay (fun c w' hc q=>(hs.2 c ?_).trans q) (fun _ q=>q) fun _ _ q=>q
  rintro rfl
  rcases hc with rfl | hc
  ·rw [hfree] at e;cases e
  ·rw [hfree] at hc;cases hc
 rcases hx with hk | hk
 ·refine wpAny_storeName_local hk hn (fun h' hn' hs=>?_) hcls
  obtain ⟨oL,_,_,hoL,_⟩:=id hn
  refine h _ ⟨I.ok,I.os,I.bare,⟨fun b o e n hb hx=>?_,fun b o e n hb hx=>?_,I.base.free,fun b o e hx=>?_,I.base.tups,I.base.frzs,I.base.tbls⟩,⟨_,hn',fun j y v' e1 e2 e3=>?_⟩,fun y c e=>?_,I.free,I.freeC,fun p hp=>?_,tracked ⟨oL,hoL,I.free⟩ hs,by simpa using I.len⟩ ⟨_,hs,.inl rfl⟩
  ·exact (hs.2 b (ZW (ZY (ZX e) I.ok.above))).trans (I.base.keep b o e n hb hx)
  ·obtain ⟨sl,e1⟩:=I.base.slot b o e n hb hx
   exact ⟨sl,(hs.2 b (ZW (ZY (ZX e) I.ok.above))).trans e1⟩
  ·obtain ⟨o',e1⟩:=I.base.there b o e hx
   exact ⟨o',(hs.2 b (ZW (ZY (ZX e) I.ok.above))).trans e1⟩
  ·by_cases hj:j=i
   ·subst hj
    rw [hi] at e1;cases e1
    rw [Xm hiσ] at e2
    cases e2
    exact ⟨u,r,.inl ⟨hk,by simp⟩⟩
   ·rw [Yd (Ya hj)] at e2
    obtain ⟨u',r',q⟩:=hl j y v' e1 e2 e3
    refine ⟨u',r',?_⟩
    rcases q with ⟨k,e⟩ | ⟨k,c,e,z⟩
    ·refine .inl ⟨k,?_⟩
     have:y ≠ x:=fun e=>hj (og hN e1 (e ▸ hi))
     simp [this,e]
    ·exact .inr ⟨k,c,e,z.sameBut hs (cne y c e)⟩
  ·obtain ⟨w',z⟩:=I.cell y c e
   exact ⟨w',z.sameBut hs (cne y c e)⟩
  ·obtain ⟨e,n,ne,nf,d⟩:=I.pin p hp
   exact ⟨(hs.2 p.1 ne).trans e,n,ne,nf,d⟩
 ·have hfn:X.fn x=true:=by
   rcases hf with z | z
   ·exact z
   ·rw [z] at hk;cases hk
  obtain ⟨c,hc⟩:=I.ok.has x (.inl hk)
  obtain ⟨w',z⟩:=I.cell x c hc
  refine wpAny_storeName_cell I.ok.kind hk hc z (fun h' hc' hs=>?_)
  obtain ⟨oc,hoc,hocd⟩:=id z
  refine h { s with heap:=h' } ⟨I.ok,I.os,I.bare,⟨fun b o e n hb hx=>?_,fun b o e n hb hx=>?_,I.base.free,fun b o e hx=>?_,I.base.tups,I.base.frzs,I.base.tbls⟩,⟨m,hn.sameBut hs (Ya (cne x c hc)),fun j y v' e1 e2 e3=>?_⟩,fun y c' e=>?_,I.free,I.freeC,fun p hp=>?_,tracked ⟨oc,hoc,I.freeC x c hc⟩ hs,by simpa using I.len⟩ ⟨c,hs,.inr hc⟩
  ·exact (hs.2 b (ZW (ZY (ZX e) (I.ok.cab x c hfn hc)))).trans (I.base.keep b o e n hb hx)
  ·obtain ⟨sl,e1⟩:=I.base.slot b o e n hb hx
   exact ⟨sl,(hs.2 b (ZW (ZY (ZX e) (I.ok.cab x c hfn hc)))).trans e1⟩
  ·obtain ⟨o',e1⟩:=I.base.there b o e hx
   exact ⟨o',(hs.2 b (ZW (ZY (ZX e) (I.ok.cab x c hfn hc)))).trans e1⟩
  ·by_cases hj:j=i
   ·subst hj
    rw [hi] at e1;cases e1
    rw [Xm hiσ] at e2
    cases e2
    exact ⟨u,r,.inr ⟨.inl hk,c,hc,hc'⟩⟩
   ·rw [Yd (Ya hj)] at e2
    obtain ⟨u',r',q⟩:=hl j y v' e1 e2 e3
    refine ⟨u',r',?_⟩
    rcases q with q | ⟨k,c',e,z'⟩
    ·exact .inl q
    ·refine .inr ⟨k,c',e,z'.sameBut hs ?_⟩
     rintro rfl
     exact hj (og hN e1 (I.ok.inj _ _ _ e hc ▸ hi))
  ·by_cases hcc:c'=c
   ·subst hcc;exact ⟨_,hc'⟩
   ·obtain ⟨w2,z2⟩:=I.cell y c' e
    exact ⟨w2,z2.sameBut hs hcc⟩
  ·obtain ⟨e,n,ne,nf,d⟩:=I.pin p hp
   refine ⟨(hs.2 p.1 ?_).trans e,n,ne,nf,d⟩
   intro q
   rw [q,hoc] at e
   have q':oc=p.2:=Zo e
   exact d w' (by rw [← q'];exact hocd)
theorem oA {M:Model} {A:Around} {E:Yt} {i:Nat} {x:Str} {v:V} {u:Value} {Q:Unit->Shared->Prop} (I:Inv X pins σ H s) (hN:X.N.Nodup) (hi:X.N[i]?=some x) (hx:Loc X.env.scope x) (r:RelV v u)
  (h:∀ s',Inv X pins (σ.set i (some v)) H s'->Q () s') (hf:X.fn x=true\/X.env.scope.names.lookup x=some .local:=by first | exact .inl rfl | exact .inr rfl | assumption):wpAny M A (storeName X.env x u) Q E s :=
 qC I hN hi hx r (fun s' I' _=>h s' I') hf
theorem Inv.call' {s':Shared} {ch:X4} (I:Inv X pins σ H s) (ho:s'.os=s.os) (u:Un (frs X.stack) ch H H' s.heap s'.heap) (hok:HOk X.prog X.w H' s'.heap) (hg:AllBare s'.gens)
  (hch:∀ b∈ch,(b∈X.ex\/X.s₀.heap.objs.size<=b)/\b ≠ X.env.locals/\(∀ x c,X.env.cells.lookup x=some c->c ≠ b)/\∀ p∈X.pn++pins,p.1 ≠ b):Inv X pins σ H' s':=by
 obtain ⟨h',g',d',t',o'⟩:=s'
 have e:o'=s.os:=ho
 subst e
 exact I.call (g':=g') (t':=t') (d':=d') u hok hg hch
end
noncomputable abbrev XK:=Value->Option Addr->Hp->Prop
noncomputable abbrev St:=List (Option V)
noncomputable abbrev VK:=V->Hp->Prop
noncomputable abbrev TE:=St->Hp->VK->Prop
noncomputable abbrev TT:=St->Hp->(Bool->Hp->Prop)->Prop
noncomputable abbrev TA:=St->Hp->(List V->Hp->Prop)->Prop
structure Ends where
 nx:St->Hp->Prop
 rt:VK
 bk:St->Hp->Prop:=fun _ _=>False
 ct:St->Hp->Prop:=fun _ _=>False
noncomputable abbrev TS:=Ends->St->Hp->Prop
noncomputable def EP (X:Cx) (pins:Xw) (σ:St) (Q:VK) (u:Value) (s':Shared):Prop:=∃ v H',Inv X pins σ H' s'/\RelV v u/\Q v H'
noncomputable def TP (X:Cx) (pins:Xw) (σ:St) (Q:Bool->Hp->Prop) (b:Bool) (s':Shared):Prop:=∃ H',Inv X pins σ H' s'/\Q b H'
noncomputable def AP (X:Cx) (pins:Xw) (σ:St) (Q:List V->Hp->Prop) (us:X5) (s':Shared):Prop:=∃ vs H',Inv X pins σ H' s'/\aR vs us/\Q vs H'
noncomputable def SP (X:Cx) (pins:Xw) (D:Ends) (f:Flow) (s':Shared):Prop :=
 match f with
 | .next=>∃ σ' H',Inv X pins σ' H' s'/\D.nx σ' H'
 | .brk=>∃ σ' H',Inv X pins σ' H' s'/\D.bk σ' H'
 | .cont=>∃ σ' H',Inv X pins σ' H' s'/\D.ct σ' H'
 | .ret u=>∃ v σ' H',Inv X pins σ' H' s'/\RelV v u/\D.rt v H'
noncomputable def PE (X:Cx) (e:Expr) (t:TE):Prop :=
 ∀ (pins:Xw) (s:Shared) (σ:St) (H:Hp) (Q:VK),Inv X pins σ H s->t σ H Q->wpAny (model X.prog X.w) X.A (eval e X.env) (EP X pins σ Q) X.xe s
noncomputable def PT (X:Cx) (e:Expr) (t:TT):Prop :=
 ∀ (pins:Xw) (s:Shared) (σ:St) (H:Hp) (Q:Bool->Hp->Prop),Inv X pins σ H s->t σ H Q->wpAny (model X.prog X.w) X.A (isTrue e X.env (eval e X.env)) (TP X pins σ Q) X.xe s
noncomputable def PW (X:Cx) (e:Expr) (t:TT):Prop :=
 ∀ (whole:Sem Value) (pins:Xw) (s:Shared) (σ:St) (H:Hp) (Q:Bool->Hp->Prop),Inv X pins σ H s->t σ H Q->wpAny (model X.prog X.w) X.A (isTrue e X.env whole) (TP X pins σ Q) X.xe s
theorem PW.pt {X:Cx} {e:Expr} {t:TT} (h:PW X e t):PT X e t:=h _
noncomputable def PA (X:Cx) (es:List Expr) (t:TA):Prop :=
 ∀ (pos:Pos) (pins:Xw) (s:Shared) (σ:St) (H:Hp) (Q:List V->Hp->Prop),Inv X pins σ H s->t σ H Q->wpAny (model X.prog X.w) X.A (spliced (backTo pos (starEach es X.env))) (AP X pins σ Q) X.xe s
noncomputable def PS (X:Cx) (st:Stmt) (t:TS):Prop :=
 ∀ (pins:Xw) (s:Shared) (σ:St) (H:Hp) (D:Ends),Inv X pins σ H s->t D σ H->wpAny (model X.prog X.w) X.A (exec st X.env) (SP X pins D) X.xe s
noncomputable def PSs (X:Cx) (st:List Stmt) (t:TS):Prop :=
 ∀ (pins:Xw) (s:Shared) (σ:St) (H:Hp) (D:Ends),Inv X pins σ H s->t D σ H->wpAny (model X.prog X.w) X.A (execs st X.env) (SP X pins D) X.xe s
theorem thn {α:Type} {t:Sem α} {Q Q':α->Shared->Prop} {M:Model} {A:Around} {E:Yt} {s:Shared} (h:wpAny M A t Q E s) (hQ:∀ a s,Q a s->Q' a s):wpAny M A t Q' E s:=YN h hQ fun _ _ x=>x
section
variable {X:Cx}
noncomputable def Cv (i:Nat):TE:=fun σ H Q=>∃ v,σ[i]?=some (some v)/\Q v H
noncomputable def tC (v:V):TE:=fun _ H Q=>Q v H
theorem gm {i:Nat} {x:Str} {pos:Pos} (hN:X.N[i]?=some x) (hv:Vis X.env.scope x) (hd:(x == ("__debug__" : Str))=false:=by decide) (hcd:(x == ("__classdict__" : Str))=false:=by decide):PE X (.Name x pos) (Cv i):=by
 intro pins s σ H Q I h
 obtain ⟨v,e,h⟩:=h
 obtain ⟨m,hn,hl⟩:=I.loc
 obtain ⟨u,r,l⟩:=hl i x v hN e hv
 have fin:EP X pins σ Q u s:=⟨v,H,I,r,h⟩
 rcases l with ⟨hk,hm⟩ | ⟨hk,c,hc,hcell⟩
 ·exact wpAny_Name (wpAny_loadName_local I.ok.kind hk hn hm fin) hd
 ·rcases hk with hk | hk
  ·exact wpAny_Name (wpAny_loadName_cell I.ok.kind hk hc hcell fin) hd
  ·exact wpAny_Name (wpAny_loadName_free I.ok.kind hk hc hcell fin hcd) hd
theorem pA {i j pos}:PE X (.Constant (.int i) j pos) (tC (.int i)):=fun _ _ _ H _ I h=>wpAny_Constant_int ⟨.int i,H,I.tok _,⟨_,rfl⟩,h⟩
theorem AY {b j pos}:PE X (.Constant (.bool b) j pos) (tC (.bl b)):=fun _ _ _ H _ I h=>Constant_bool ⟨.bl b,H,I,rfl,h⟩
theorem zZ {j pos}:PE X (.Constant .none j pos) (tC .non):=fun _ _ _ H _ I h=>Constant_none ⟨.non,H,I,rfl,h⟩
theorem yk {x j pos}:PE X (.Constant (.str x) j pos) (tC (.str x)):=fun _ _ _ H _ I h=>Calls.Constant_str ⟨.str x,H,I.tok _,⟨_,rfl⟩,h⟩
noncomputable def Gl (X:Cx) (x:Str):Prop:=X.env.kindOf x=some .globalImplicit
theorem jX {E:Yt} {pins:Xw} {s:Shared} {σ:St} {H:Hp} {x:Str} {u:Value} {pos:Pos} {Q:Yt} (I:Inv X pins σ H s) (hg:Gl X x) (hm:X.mg x=some u) (h:Q u s)
  (hd:(x == ("__debug__" : Str))=false:=by decide):wpAny (model X.prog X.w) X.A (eval (.Name x pos) X.env) Q E s :=
 Calls.Name_function_global I.ok.kind hg (Calls.loadGlobal_global (by rw [I.ok.glob];exact I.mod.glob.keeps I.bk) hm h) hd
theorem mD {E:Yt} {pins:Xw} {s:Shared} {σ:St} {H:Hp} {x:Str} {u:Value} {pos:Pos} {Q:Yt} (I:Inv X pins σ H s) (hg:Gl X x) (hm:X.mg x=none) (hv:bootBuiltins x=some u) (h:Q u s)
  (hn:x ≠ "__name__" := by decide) (hd:(x == ("__debug__" : Str))=false:=by decide):wpAny (model X.prog X.w) X.A (eval (.Name x pos) X.env) Q E s:=by
 obtain ⟨mb,h1,h2⟩:=I.mod.blt
 exact Calls.Name_function_global I.ok.kind hg (Calls.loadGlobal_builtin (by rw [I.ok.glob];exact I.mod.glob.keeps I.bk) hm (by rw [I.ok.blt];exact h1.keeps I.bk) ((h2 x hn).trans hv) h) hd
theorem xF {x:Str} {v:V} {u:Value} {pos:Pos} (hg:Gl X x) (hm:X.mg x=some u) (r:RelV v u) (hd:(x == ("__debug__" : Str))=false:=by decide):PE X (.Name x pos) (tC v) :=
 fun _ _ _ H _ I h=>jX I hg hm ⟨v,H,I,r,h⟩ hd
theorem wN {x:Str} {v:V} {u:Value} {pos:Pos} (hg:Gl X x) (hm:X.mg x=none) (hv:bootBuiltins x=some u) (r:RelV v u) (hn:x ≠ "__name__" := by decide) (hd:(x == ("__debug__" : Str))=false:=by decide):PE X (.Name x pos) (tC v) :=
 fun _ _ _ H _ I h=>mD I hg hm hv ⟨v,H,I,r,h⟩ hn hd
variable {a b:Expr} {ta tb:TE} {pos:Pos}
noncomputable def PC (X:Cx) (op:CmpOp) (a b:Expr) (t:TE):Prop :=
 ∀ (pins:Xw) (s:Shared) (σ:St) (H:Hp) (Q:VK),Inv X pins σ H s->t σ H Q →
  wpAny (model X.prog X.w) X.A (eval a X.env) (fun v s₁=>wpAny (model X.prog X.w) X.A (eval b X.env) (fun u s₂=>wpAny (model X.prog X.w) X.A (compareOp op v u) (EP X pins σ Q) X.xe s₂) X.xe s₁) X.xe s
theorem ug (b:Expr) {op:CmpOp} (h:op ≠ .In) (h2:op ≠ .NotIn):behindInMarks op b=false:=by
 have e1:(op == CmpOp.In)=false:=by cases op <;> first | rfl | exact absurd rfl h
 have e2:(op == CmpOp.NotIn)=false:=by cases op <;> first | rfl | exact absurd rfl h2
 cases b <;> simp [behindInMarks,e1,e2]
noncomputable def Cs (ta:TE):TE:=fun σ H Q=>ta σ H fun x H1=>Q (.bl (decide (x=.non))) H1
noncomputable def Cc (ta:TE):TE:=fun σ H Q=>ta σ H fun x H1=>Q (.bl (!decide (x=.non))) H1
theorem RelV.none_iff {x:V} {v:Value} (r:RelV x v):(v == Value.none)=decide (x=.non):=by
 cases x with
 | non=>cases r;rfl
 | bl _=>cases r;rfl
 | int _=>obtain ⟨t,rfl⟩:=r;rfl
 | str _=>obtain ⟨t,rfl⟩:=r;rfl
 | byt _=>obtain ⟨t,rfl⟩:=r;rfl
 | flt _=>obtain ⟨t,rfl⟩:=r;rfl
 | ref _=>cases r;rfl
 | ty _=>cases r;rfl
theorem Am {j pos'} (ha:PE X a ta):PC X .Is a (.Constant .none j pos') (Cs ta):=by
 intro pins s σ H Q I h
 refine thn (ha pins s σ H _ I h) fun v s1 ⟨x,H1,I1,r1,q1⟩=>?_
 exact Constant_none (is_none_gen ⟨.bl _,H1,I1,by rw [r1.none_iff];rfl,q1⟩)
theorem xb {j pos'} (ha:PE X a ta):PC X .IsNot a (.Constant .none j pos') (Cc ta):=by
 intro pins s σ H Q I h
 refine thn (ha pins s σ H _ I h) fun v s1 ⟨x,H1,I1,r1,q1⟩=>?_
 exact Constant_none (isnot_none_gen ⟨.bl _,H1,I1,by rw [r1.none_iff];rfl,q1⟩)
noncomputable def tB (t:TE):TT:=fun σ H Q=>t σ H fun x H1=>∃ c,x=.bl c/\Q c H1
theorem sY {op:CmpOp} {t:TE} (h:PC X op a b t) (h1:behindInMarks op b=false:=by first | exact ug _ (by decide) (by decide) | rfl):PT X (.Compare a [op] [b] pos) (tB t):=by
 intro pins s σ H Q I hw
 refine wpAny_isTrue_Compare1 (thn (h pins s σ H _ I hw) fun v s1 h1=>thn h1 fun u s2 h2=>thn h2 fun c s3 ⟨x,H1,I1,r1,q1⟩=>?_) h1
 obtain ⟨d,rfl,q⟩:=q1
 cases r1
 exact YX ⟨H1,I1,q⟩
variable {tA tB':TT} {rest:List Expr}
noncomputable def CM (t u:TT):TT:=fun σ H Q=>t σ H fun c H1=>if c=true then u σ H1 Q else Q false H1
noncomputable def tOr (t u:TT):TT:=fun σ H Q=>t σ H fun c H1=>if c=true then Q true H1 else u σ H1 Q
noncomputable def CJ (t:TT):TT:=fun σ H Q=>t σ H fun c H1=>Q (!c) H1
theorem xB (ha:PT X a tA):PW X (.BoolOp .And [a] pos) tA:=by
 intro wh pins s σ H Q I h
 refine isTrue_and (thn (ha pins s σ H Q I h) fun c s1 e=>?_)
 cases c with
 | true=>exact isTrue_and_nil e
 | false=>exact e
theorem zV (ha:PT X a tA):PW X (.BoolOp .Or [a] pos) tA:=by
 intro wh pins s σ H Q I h
 refine isTrue_or (thn (ha pins s σ H Q I h) fun c s1 e=>?_)
 cases c with
 | false=>exact isTrue_or_nil e
 | true=>exact e
theorem Aq (ha:PT X a tA) (hb:PW X (.BoolOp .And (b :: rest) pos) tB'):PW X (.BoolOp .And (a :: b :: rest) pos) (CM tA tB'):=by
 intro wh pins s σ H Q I h
 refine isTrue_and (thn (ha pins s σ H _ I h) fun c s1 ⟨H1,I1,q1⟩=>?_)
 cases c with
 | true=>exact hb wh pins s1 σ H1 Q I1 q1
 | false=>exact ⟨H1,I1,q1⟩
theorem A1 (ha:PT X a tA) (hb:PW X (.BoolOp .Or (b :: rest) pos) tB'):PW X (.BoolOp .Or (a :: b :: rest) pos) (tOr tA tB'):=by
 intro wh pins s σ H Q I h
 refine isTrue_or (thn (ha pins s σ H _ I h) fun c s1 ⟨H1,I1,q1⟩=>?_)
 cases c with
 | true=>exact ⟨H1,I1,q1⟩
 | false=>exact hb wh pins s1 σ H1 Q I1 q1
theorem yX (ha:PT X a tA):PT X (.UnaryOp .Not a pos) (CJ tA):=by
 intro pins s σ H Q I h
 exact isTrue_not (ha pins s σ H (fun c H1=>Q (!c) H1) I h)
noncomputable def Cn (ta tb:TE):TE:=fun σ H Q=>ta σ H fun x H1=>∃ c,x=.bl c/\if c=true then tb σ H1 Q else Q (.bl false) H1
noncomputable def Bs (ta:TE):TE:=fun σ H Q=>ta σ H fun x H1=>∃ c,x=.bl c/\Q (.bl (!c)) H1
theorem AR {op} {t:TE} (h:PE X a t):PE X (.BoolOp op [a] pos) t:=fun pins s σ H Q I hw=>BoolOp_one (h pins s σ H Q I hw)
theorem yw (ha:PE X a ta) (hb:PE X (.BoolOp .And (b :: rest) pos) tb):PE X (.BoolOp .And (a :: b :: rest) pos) (Cn ta tb):=by
 intro pins s σ H Q I h
 refine BoolOp_and (thn (ha pins s σ H _ I h) fun v s1 ⟨x,H1,I1,r1,q1⟩=>?_)
 obtain ⟨c,rfl,q1⟩:=q1
 cases r1
 refine YX ?_
 cases c with
 | true=>exact hb pins s1 σ H1 Q I1 q1
 | false=>exact ⟨.bl false,H1,I1,rfl,q1⟩
theorem zH (ha:PE X a ta):PE X (.UnaryOp .Not a pos) (Bs ta):=by
 intro pins s σ H Q I h
 refine UnaryOp_ (thn (ha pins s σ H _ I h) fun v s1 ⟨x,H1,I1,r1,q1⟩=>?_)
 obtain ⟨c,rfl,q1⟩:=q1
 cases r1
 exact not_of (YX ⟨.bl (!c),H1,I1,rfl,q1⟩)
end
noncomputable def SqL (K:X0) (H:Hp) (a:Addr) (xs:List V):Prop :=
 Rd H a (.lst xs) ∨
  ∃ (o:Obj) (its:Array Value) (n:Nat),K.lookup a=some o/\o.cls=.type "list" ∧ o.dict=none/\o.data=.seq its n/\its.size<=sizeLine/\aR xs its.toList
noncomputable def SqT (K:X0) (H:Hp) (a:Addr) (xs:List V):Prop :=
 Rd H a (.tup xs) ∨
  ∃ (o:Obj) (its:Array Value) (n:Nat),K.lookup a=some o/\o.cls=.type "tuple" ∧ o.data=.seq its n/\its.size<=sizeLine/\aR xs its.toList
noncomputable def Cy:Value->Option V
 | .none=>some .non
 | .bool b=>some (.bl b)
 | .int i _=>some (.int i)
 | .str x _=>some (.str x)
 | .bytes b _=>some (.byt b)
 | .float b _=>some (.flt b)
 | .ref a=>some (.ref a)
 | .type n=>some (.ty n)
 | _=>none
theorem RelV.abs {x:V} {u:Value} (r:RelV x u):Cy u=some x:=by
 cases x with
 | non=>cases r;rfl
 | bl _=>cases r;rfl
 | int _=>obtain ⟨t,rfl⟩:=r;rfl
 | str _=>obtain ⟨t,rfl⟩:=r;rfl
 | byt _=>obtain ⟨t,rfl⟩:=r;rfl
 | flt _=>obtain ⟨t,rfl⟩:=r;rfl
 | ref _=>cases r;rfl
 | ty _=>cases r;rfl
theorem RelV.inj {x y:V} {u:Value} (r:RelV x u) (q:RelV y u):x=y:=Zo (r.abs.symm.trans q.abs)
theorem aR.inj:∀ {xs ys:List V} {us:X5},aR xs us->aR ys us->xs=ys
 | _,_,_,.nil,.nil=>rfl
 | _,_,_,.cons r t,.cons r' t'=>by rw [r.inj r',aR.inj t t']
section
variable {X:Cx} {pins:Xw} {σ:St} {H:Hp} {s:Shared} {a:Addr} {xs ys:List V}
theorem SqL.of {K:X0} (h:H a=some (.lst xs)):SqL K H a xs:=.inl (.inl h)
theorem SqT.of {K:X0} (h:H a=some (.tup xs)):SqT K H a xs:=.inl (.inl h)
theorem Inv.list (I:Inv X pins σ H s) (h:SqL X.K H a xs):∃ its:X5,aR xs its/\PlainL s.heap a its.toArray/\xs.length<=sizeLine:=by
 rcases h with h | ⟨o,its,n,hk,hc,hd,hs,hz,r⟩
 ·obtain ⟨z,its,n,r,e⟩:=h.ok I.hok
  exact ⟨its,r,⟨_,n,e,rfl,rfl,rfl⟩,z⟩
 ·refine ⟨its.toList,r,⟨o,n,I.kIn a o hk,hc,hd,by simpa using hs⟩,?_⟩
  have e:=r.length
  simp only [YY] at e
  lia
theorem Inv.tuple (I:Inv X pins σ H s) (h:SqT X.K H a xs):∃ its:X5,aR xs its/\IsTup s.heap a its.toArray/\xs.length<=sizeLine:=by
 rcases h with h | ⟨o,its,n,hk,hc,hs,hz,r⟩
 ·obtain ⟨z,its,r,_,p⟩:=h.ok I.hok
  exact ⟨its,r,p,z⟩
 ·refine ⟨its.toList,r,⟨o,I.kIn a o hk,hc,n,by simpa using hs⟩,?_⟩
  have e:=r.length
  simp only [YY] at e
  lia
theorem Inv.list_inj (I:Inv X pins σ H s) (h:SqL X.K H a xs) (h':SqL X.K H a ys):xs=ys:=by
 obtain ⟨its,r,⟨o,n,e,_,_,d⟩,_⟩:=I.list h
 obtain ⟨its',r',⟨o',n',e',_,_,d'⟩,_⟩:=I.list h'
 rw [e] at e';cases e'
 rw [d] at d'
 injection d' with d1 _
 have:its=its':=by simpa using congrArg Array.toList d1
 subst this
 exact r.inj r'
theorem Inv.tuple_inj (I:Inv X pins σ H s) (h:SqT X.K H a xs) (h':SqT X.K H a ys):xs=ys:=by
 obtain ⟨its,r,⟨o,e,_,n,d⟩,_⟩:=I.tuple h
 obtain ⟨its',r',⟨o',e',_,n',d'⟩,_⟩:=I.tuple h'
 rw [e] at e';cases e'
 rw [d] at d'
 injection d' with d1 _
 have:its=its':=by simpa using congrArg Array.toList d1
 subst this
 exact r.inj r'
end
noncomputable abbrev Cx.wish (X:Cx) (E:Yt):Cx:={ X with xe:=E }
noncomputable abbrev Cx.nox (X:Cx):Cx:=X.wish fun _ _=>False
theorem Cx.Ok.wish {X:Cx} (ok:X.Ok) (E:Yt):(X.wish E).Ok :=
 ⟨ok.mod,ok.kind,ok.glob,ok.blt,ok.above,ok.inj,ok.has,ok.cab,ok.hd,ok.frames,ok.stk,ok.exf,ok.bs,ok.bsz,ok.noex,ok.exfs,ok.funs,ok.frf⟩
theorem Cx.Ok.unwish {X:Cx} {E:Yt} (ok:(X.wish E).Ok):X.Ok :=
 ⟨ok.mod,ok.kind,ok.glob,ok.blt,ok.above,ok.inj,ok.has,ok.cab,ok.hd,ok.frames,ok.stk,ok.exf,ok.bs,ok.bsz,ok.noex,ok.exfs,ok.funs,ok.frf⟩
section
variable {X:Cx} {pins:Xw} {σ:St} {H:Hp} {s:Shared} {E:Yt}
theorem Inv.wish (I:Inv X pins σ H s) (E:Yt):Inv (X.wish E) pins σ H s:=⟨I.ok.wish E,I.os,I.bare,I.base,I.loc,I.cell,I.free,I.freeC,I.pin,I.hok,I.len⟩
theorem Inv.unwish (I:Inv (X.wish E) pins σ H s):Inv X pins σ H s:=⟨I.ok.unwish,I.os,I.bare,I.base,I.loc,I.cell,I.free,I.freeC,I.pin,I.hok,I.len⟩
theorem SP.unwish {D:Ends} {f:Flow} {s':Shared} (h:SP (X.wish E) pins D f s'):SP X pins D f s':=by
 cases f with
 | next=>obtain ⟨σ',H',I,q⟩:=h;exact ⟨σ',H',I.unwish,q⟩
 | brk=>obtain ⟨σ',H',I,q⟩:=h;exact ⟨σ',H',I.unwish,q⟩
 | cont=>obtain ⟨σ',H',I,q⟩:=h;exact ⟨σ',H',I.unwish,q⟩
 | ret u=>obtain ⟨v,σ',H',I,r,q⟩:=h;exact ⟨v,σ',H',I.unwish,r,q⟩
theorem PSs.nox {st:List Stmt} {t:TS} (h:PSs X.nox st t):PSs X st t:=fun pins s σ H D I hw =>
 YN (h pins s σ H D (I.wish _) hw) (fun _ _ q=>q.unwish) fun _ _ z=>False.elim z
end
section
variable {X:Cx} {st:Stmt} {rest:List Stmt} {t u:TS} {e:Expr} {te:TE} {pos:Pos}
noncomputable def A3:TS:=fun D σ H=>D.nx σ H
noncomputable def CN (t u:TS):TS:=fun D σ H=>t { D with nx:=u D } σ H
theorem xu:PSs X [] A3:=fun _ _ σ H _ I h=>Xa ⟨σ,H,I,h⟩
theorem uU (h1:PS X st t) (h2:PSs X rest u):PSs X (st :: rest) (CN t u):=by
 intro pins s σ H D I h
 refine wpAny_execs_cons (thn (h1 pins s σ H { D with nx:=u D } I h) fun f s1 q=>?_)
 cases f with
 | next =>
  obtain ⟨σ',H',I',q⟩:=q
  exact h2 pins s1 σ' H' D I' q
 | ret v=>exact q
 | brk=>exact q
 | cont=>exact q
theorem xr (h1:PS X st t):PSs X [st] t:=by
 intro pins s σ H D I h
 refine wpAny_execs_cons (thn (h1 pins s σ H D I h) fun f s1 q=>?_)
 cases f with
 | next=>exact Xa q
 | ret v=>exact q
 | brk=>exact q
 | cont=>exact q
theorem Inv.quiet {pins:Xw} {σ:St} {H:Hp} {s:Shared} (I:Inv X pins σ H s):interactive X.env=false:=by simp [interactive,I.ok.kind]
noncomputable def BD (te:TE):TS:=fun D σ H=>te σ H fun _ H1=>D.nx σ H1
theorem iT (he:PE X e te) (hs:swapsWith e none pos.line X.env=pure false:=by rfl):PS X (.Expr e pos) (BD te):=by
 intro pins s σ H D I h
 exact wpAny_Expr_any (thn (he pins s σ H _ I h) fun v s1 ⟨x,H1,I1,r1,q1⟩=>⟨σ,H1,I1,q1⟩) I.quiet hs
noncomputable def Cq (te:TE):TS:=fun D σ H=>te σ H D.rt
theorem mY (he:PE X e te):PS X (.Return (some e) pos) (Cq te):=by
 intro pins s σ H D I h
 exact wpAny_Return_some (thn (he pins s σ H _ I h) fun v s1 ⟨x,H1,I1,r1,q1⟩=>⟨x,σ,H1,I1,r1,q1⟩)
noncomputable def C1 (c:TT) (t u:TS):TS:=fun D σ H=>c σ H fun b H1=>if b=true then t D σ H1 else u D σ H1
theorem BH {c:Expr} {a b:List Stmt} {tc:TT} (hc:PT X c tc) (ha:PSs X a t) (hb:PSs X b u):PS X (.If c a b pos) (C1 tc t u):=by
 intro pins s σ H D I h
 refine wpAny_If (thn (hc pins s σ H _ I h) fun d s1 ⟨H1,I1,q1⟩=>?_)
 cases d with
 | true=>exact ha pins s1 σ H1 D I1 q1
 | false=>exact hb pins s1 σ H1 D I1 q1
end
noncomputable abbrev TG:=V->St->Hp->(St->Hp->Prop)->Prop
noncomputable def PG (X:Cx) (target:Expr) (t:TG):Prop :=
 ∀ (pins:Xw) (s:Shared) (σ:St) (H:Hp) (v:V) (u:Value) (Q:St->Hp->Prop),Inv X pins σ H s->RelV v u->t v σ H Q →
  wpAny (model X.prog X.w) X.A (assign target X.env u) (fun _ s'=>∃ σ' H',Inv X pins σ' H' s'/\Q σ' H') X.xe s
noncomputable abbrev xw:=V->V->V->Hp->(Hp->Prop)->Prop
noncomputable def yQ (X:Cx) (t:xw):Prop :=
 ∀ (pins:Xw) (s:Shared) (σ:St) (H:Hp) (o i v:V) (ov iv u:Value) (Q:Hp->Prop),Inv X pins σ H s->RelV o ov->RelV i iv->RelV v u->t o i v H Q →
  wpAny (model X.prog X.w) X.A (setItem ov iv u) (fun _ s'=>∃ H',Inv X pins σ H' s'/\Q H') X.xe s
section
variable {X:Cx} {pos:Pos}
noncomputable def xZ (i:Nat):TG:=fun v σ H Q=>Q (σ.set i (some v)) H
theorem wO {i:Nat} {x:Str} (hN:X.N.Nodup) (hi:X.N[i]?=some x) (hx:Loc X.env.scope x) (hf:X.fn x=true\/X.env.scope.names.lookup x=some .local:=by first | exact .inl rfl | exact .inr rfl | assumption):PG X (.Name x pos) (xZ i):=by
 intro pins s σ H v u Q I r h
 exact wpAny_assign_Name (oA I hN hi hx r (fun s' I'=>⟨_,H,I',h⟩) hf)
noncomputable def BE (to ti:TE) (t:xw):TG:=fun v σ H Q=>to σ H fun o H1=>ti σ H1 fun i H2=>t o i v H2 fun H3=>Q σ H3
theorem pE {o i:Expr} {to ti:TE} {t:xw} (ho:PE X o to) (hi:PE X i ti) (hs:yQ X t)
  (ha:∀ v,assign (.Subscript o i pos) X.env v=(do
   let ov ← holding [v] (eval o X.env)
   let iv ← holding [v,ov] (eval i X.env)
   standAt pos
   holding [v,ov,iv] (setItem ov iv v)
   release [v,ov,iv] []):=by intro _;rfl):PG X (.Subscript o i pos) (BE to ti t):=by
 intro pins s σ H v u Q I r h
 rw [ha]
 refine Zr (Xz (thn (ho pins s σ H _ I h) fun ov s1 ⟨x,H1,I1,r1,q1⟩=>?_))
 refine Zr (Xz (thn (hi pins s1 σ H1 _ I1 q1) fun iv s2 ⟨y,H2,I2,r2,q2⟩=>?_))
 refine Zr (wpAny_standAt (Zr (Xz (thn (hs pins s2 σ H2 x y v ov iv u _ I2 r1 r2 r q2) fun _ s3 ⟨H3,I3,q3⟩=>?_))))
 exact wpAny_release ⟨σ,H3,I3,q3⟩
noncomputable def Bm (te:TE) (g:TG):TS:=fun D σ H=>te σ H fun x H1=>g x σ H1 D.nx
theorem oV {tg e:Expr} {te:TE} {g:TG} (he:PE X e te) (hg:PG X tg g) (hs:swapsWithSole [tg] e pos.line X.env=pure false:=by rfl) (hw:swappedStores [tg] e X.env=pure none:=by rfl)
  (h1:(assignEach [tg] X.env).map (·.2)=[assign tg X.env]:=by rfl):PS X (.Assign [tg] e pos) (Bm te g):=by
 intro pins s σ H D I h
 refine wpAny_Assign_stores (thn (he pins s σ H _ I h) fun v s1 ⟨x,H1,I1,r1,q1⟩=>?_) hs hw
 rw [h1]
 exact thn (hg pins s1 σ H1 x v _ I1 r1 q1) fun _ s2 q=>q
theorem o6 {i:Nat} {x:Str} {e:Expr} {te:TE} {pos':Pos} (hN:X.N.Nodup) (hi:X.N[i]?=some x) (hx:Loc X.env.scope x) (he:PE X e te) (hs:swapsWith e (some (.Name x pos')) pos.line X.env=pure false:=by rfl) (hf:X.fn x=true\/X.env.scope.names.lookup x=some .local:=by first | exact .inl rfl | exact .inr rfl | assumption) :
  PS X (.Assign [.Name x pos'] e pos) (Bm te (xZ i)):=by
 intro pins s σ H D I h
 refine wpAny_Assign_Name (thn (he pins s σ H _ I h) fun v s1 ⟨y,H1,I1,r1,q1⟩=>?_) hs
 exact oA I1 hN hi hx r1 (fun s2 I2=>⟨_,H1,I2,q1⟩) hf
end
section
variable {X:Cx} {pos:Pos}
noncomputable def y8 (c:TT) (tb:TS):TS:=fun D σ H=>∃ W:Nat->St->Hp->Prop,(∃ m,W m σ H)/\∀ m σ H,W m σ H →
 c σ H fun b H1=>if b=true then ∃ N:St->Hp->Prop,(∀ σ' H',N σ' H'->∃ m',m' < m/\W m' σ' H')/\tb { D with nx:=N,ct:=N,bk:=D.nx } σ H1 else D.nx σ H1
theorem tR {c:Expr} {body:List Stmt} {tc:TT} {tb:TS} (hp:PassesOwn (model X.prog X.w) X.A X.env X.xe) (hc:PT X c tc) (hb:PSs X body tb):PS X (.While c body [] pos) (y8 tc tb):=by
 intro pins s σ H D I h
 obtain ⟨W,⟨m0,w0⟩,turn⟩:=h
 refine wpAny_While (codeAny_whileLoop (fun n s'=>∃ σ' H',Inv X pins σ' H' s'/\W n σ' H') ?_ m0 ⟨σ,H,I,w0⟩)
 rintro n s1 ⟨σ1,H1,I1,w1⟩
 refine YM hp (thn (hc pins s1 σ1 H1 _ I1 (turn n σ1 H1 w1)) fun b s2 ⟨H2,I2,q2⟩=>?_)
 cases b with
 | true =>
  obtain ⟨N,hN,q2⟩:=q2
  rw [Zq rfl]
  refine YM hp (thn (hb pins s2 σ1 H2 _ I2 q2) fun f s3 q3=>?_)
  cases f with
  | next =>
   obtain ⟨σ3,H3,I3,n3⟩:=q3
   obtain ⟨m',hm,w3⟩:=hN σ3 H3 n3
   exact ⟨m',hm,σ3,H3,I3,w3⟩
  | cont =>
   obtain ⟨σ3,H3,I3,n3⟩:=q3
   obtain ⟨m',hm,w3⟩:=hN σ3 H3 n3
   exact ⟨m',hm,σ3,H3,I3,w3⟩
  | brk=>exact q3
  | ret v=>exact q3
 | false =>
  rw [Zn Zh]
  exact Xa ⟨σ1,H2,I2,q2⟩
end
structure It where
 go:Nat->Hp->Prop
 yld:Nat->Hp->V->Hp->Prop
 stop:Nat->Hp->Prop
noncomputable def lB (X:Cx) (pins:Xw) (H:Hp) (b:Addr):Prop :=
 H b=none/\b ≠ X.env.locals/\b ∉ X.fs/\(b∈X.ex\/X.s₀.heap.objs.size<=b)/\(∀ x c,X.env.cells.lookup x=some c->c ≠ b)/\∀ p∈X.pn++pins,p.1 ≠ b
theorem Inv.fpOk {X:Cx} {pins:Xw} {σ:St} {H H':Hp} {s:Shared} {b:Addr} (I:Inv X pins σ H s) (hb:s.heap.objs.size<=b) (hn:H' b=none):lB X pins H' b:=by
 refine ⟨hn,Nat.ne_of_gt (ZY I.lt hb),I.nofs hb,.inr (ZI I.sz hb),fun x c e z=>?_,fun p hp z=>?_⟩
 ·obtain ⟨v,q⟩:=I.cell x c e
  exact absurd (ZY q.lt (by rw [z];exact hb)) (Yn _)
 ·exact absurd (ZY (ZX (I.pin p hp).1) (by rw [z];exact hb)) (Yn _)
structure Turn (P:Program) (w:World) (K:X0) (tg:Expr) (J:It) (fp:X4) (it:Addr) (tn:Nat->Heap->Prop):Prop where
 mem:it∈fp
 obj:∀ i h,tn i h->∀ b∈fp,∃ o,h.get? b=some o/\∀ v,o.data ≠ .cell v
 keep:∀ i h h',tn i h->(∀ b∈fp,∀ o,h.get? b=some o->h'.get? b=some o)->tn i h'
 item:∀ (X:Cx),X.prog=P->X.w=w->X.K=K->X.calm=true->∀ (i:Nat) (pins:Xw) (s:Shared) (σ:St) (H:Hp) (E:Yt),Inv X pins σ H s->(∀ b∈fp,lB X pins H b)->tn i s.heap->J.go i H →
  wpAny (model P w) X.A (pyNext (.ref it)) (fun r s1=>∃ u,r=some u ∧
   wpAny (model P w) X.A (letOwnedTupleGo tg (.ref it) u) (fun _ s2=>∃ x H',Inv X pins σ H' s2/\RelV x u/\J.yld i H x H'/\tn (i+1) s2.heap/\∀ b∈fp,H' b=none) E s1) E s
 done:∀ (X:Cx),X.prog=P->X.w=w->X.K=K->X.calm=true->∀ (i:Nat) (pins:Xw) (s:Shared) (σ:St) (H:Hp) (E:Yt),Inv X pins σ H s->(∀ b∈fp,lB X pins H b)->tn i s.heap->J.stop i H →
  wpAny (model P w) X.A (pyNext (.ref it)) (fun r s1=>r=none/\Inv X pins σ H s1) E s
 self:∀ (A:Around) (i:Nat) (s:Shared) (Q:Yt) (E:Yt),tn i s.heap->Q (.ref it) s->wpAny (model P w) A (pyIter (.ref it)) Q E s
noncomputable abbrev TI:=St->Hp->(It->Hp->Prop)->Prop
noncomputable def PIE (X:Cx) (pins:Xw) (σ:St) (tg:Expr) (R:It->Hp->Prop) (itv:Value) (s2:Shared):Prop :=
 ∃ (it:Addr) (fp:X4) (tn:Nat->Heap->Prop) (J:It) (H':Hp),itv=.ref it/\Inv X pins σ H' s2/\Turn X.prog X.w X.K tg J fp it tn/\tn 0 s2.heap/\(∀ b∈fp,lB X pins H' b)/\R J H'
noncomputable def PI (X:Cx) (tg iter:Expr) (wi:TI):Prop :=
 ∀ (pins:Xw) (s:Shared) (σ:St) (H:Hp) (R:It->Hp->Prop),Inv X pins σ H s->wi σ H R →
  wpAny (model X.prog X.w) X.A (eval iter X.env) (fun v s1=>wpAny (model X.prog X.w) X.A (pyIter v) (PIE X pins σ tg R) X.xe s1) X.xe s
theorem nP {M:Model} {A:Around} {E:Yt} {s:Shared} {tg:Expr} {it:Addr} {u:Value} {o:Obj} {n:String} {vs:Array Value} {Q:Unit->Shared->Prop} (ho:s.heap.get? it=some o) (hc:o.cls=.type n) (hd:o.data=.fields vs)
  (hn:["enumerate", "zip", "dict_itemiterator", "dict_reverseitemiterator", "odict_iterator", "itertools.zip_longest", "itertools.pairwise"].contains n=false) (hQ:Q () s):wpAny M A (letOwnedTupleGo tg (.ref it) u) Q E s:=by
 unfold letOwnedTupleGo
 cases tg <;> first
  | exact Zb hQ
  | (cases u <;> first
    | exact Zb hQ
    | (refine Zr (wpAny_load ho ?_)
       rw [hc,hd]
       show wpAny M A (if (["enumerate", "zip", "dict_itemiterator", "dict_reverseitemiterator", "odict_iterator", "itertools.zip_longest", "itertools.pairwise"].contains n && vs[0]? == some (rawInt _))=true then _ else _) Q E s
       rw [Zn (by intro h;rw [hn,Bool.false_and] at h;cases h)]
       exact Zb hQ))
noncomputable def Itl (K:X0) (a:Addr):It :=
 ⟨fun i H=>∃ xs x,SqL K H a xs/\xs[i]?=some x,fun i H x H'=>H'=H/\∀ xs,SqL K H a xs->xs[i]?=some x,fun i H=>∃ xs,SqL K H a xs/\xs.length<=i⟩
noncomputable def Itt (K:X0) (a:Addr):It :=
 ⟨fun i H=>∃ xs x,SqT K H a xs/\xs[i]?=some x,fun i H x H'=>H'=H/\∀ xs,SqT K H a xs->xs[i]?=some x,fun i H=>∃ xs,SqT K H a xs/\xs.length<=i⟩
noncomputable def Itr (lo:Int) (n:Nat):It:=⟨fun i _=>i < n,fun i H x H'=>H'=H/\x=.int (lo+i),fun i _=>n<=i⟩
theorem q9 {P:Program} {w:World} {K:X0} {tg:Expr} (a it:Addr):Turn P w K tg (Itl K a) [it] it (fun i h=>h.IsListIter it a i) where
 mem:=by simp
 obj:=fun i h st b hb=>by
  have e:b=it:=by simpa using hb
  subst e
  obtain ⟨o,e,c,d⟩:=st
  exact ⟨o,e,fun v z=>by rw [d] at z;cases z⟩
 keep:=fun i h h' st k=>st.at fun o e=>k it (by simp) o e
 item:=by
  intro X hP hw hK hc i pins s σ H E I hf st hg
  subst hP hw hK
  obtain ⟨xs,x,hq,hx⟩:=hg
  obtain ⟨its,rv,p,hz⟩:=I.list hq
  obtain ⟨u,hu,ru⟩:=rv.get hx
  obtain ⟨f0,f1,f2,f3,f4,f5⟩:=hf it (by simp)
  refine wpAny_pyNext_list_item st p.isList (x:=u) (by simpa using hu) fun h' st' sb=>?_
  have I1:Inv X pins σ H { s with heap:=h' }:=I.turned (t':=s.toks) (fun b o hb e=>(sb.2 b hb).trans e) f0 f1 f3 f4 f5
  obtain ⟨o,e,c,d⟩:=id st'
  exact ⟨u,rfl,nP (s:={ s with heap:=h' }) e c d (by decide) ⟨x,H,I1,ru,⟨rfl,fun ys hy=>by rw [I.list_inj hy hq];exact hx⟩,st',fun b hb=>(hf b hb).1⟩⟩
 done:=by
  intro X hP hw hK hc i pins s σ H E I hf st hg
  subst hP hw hK
  obtain ⟨xs,hq,hx⟩:=hg
  obtain ⟨its,rv,p,hz⟩:=I.list hq
  obtain ⟨f0,f1,f2,f3,f4,f5⟩:=hf it (by simp)
  have hl:=rv.length
  exact wpAny_pyNext_list_end (I.ok.hd hc) st p.isList (by simp;lia) fun h' eb=>⟨rfl,I.turned (t':=s.toks) (fun b o hb e=>eb b o hb e) f0 f1 f3 f4 f5⟩
 self:=fun _ _ _ _ _ st h=>wpAny_pyIter_listiter st h
theorem pk {P:Program} {w:World} {K:X0} {tg:Expr} (a it:Addr):Turn P w K tg (Itt K a) [it] it (fun i h=>h.IsTupleIter it a i) where
 mem:=by simp
 obj:=fun i h st b hb=>by
  have e:b=it:=by simpa using hb
  subst e
  obtain ⟨o,e,c,d⟩:=st
  exact ⟨o,e,fun v z=>by rw [d] at z;cases z⟩
 keep:=fun i h h' st k=>st.at fun o e=>k it (by simp) o e
 item:=by
  intro X hP hw hK hc i pins s σ H E I hf st hg
  subst hP hw hK
  obtain ⟨xs,x,hq,hx⟩:=hg
  obtain ⟨its,rv,p,hz⟩:=I.tuple hq
  obtain ⟨u,hu,ru⟩:=rv.get hx
  obtain ⟨f0,f1,f2,f3,f4,f5⟩:=hf it (by simp)
  refine wpAny_pyNext_tuple_item st (show s.heap.IsTuple a its.toArray from p) (x:=u) (by simpa using hu) fun h' st' sb=>?_
  have I1:Inv X pins σ H { s with heap:=h' }:=I.turned (t':=s.toks) (fun b o hb e=>(sb.2 b hb).trans e) f0 f1 f3 f4 f5
  obtain ⟨o,e,c,d⟩:=id st'
  exact ⟨u,rfl,nP (s:={ s with heap:=h' }) e c d (by decide) ⟨x,H,I1,ru,⟨rfl,fun ys hy=>by rw [I.tuple_inj hy hq];exact hx⟩,st',fun b hb=>(hf b hb).1⟩⟩
 done:=by
  intro X hP hw hK hc i pins s σ H E I hf st hg
  subst hP hw hK
  obtain ⟨xs,hq,hx⟩:=hg
  obtain ⟨its,rv,p,hz⟩:=I.tuple hq
  obtain ⟨f0,f1,f2,f3,f4,f5⟩:=hf it (by simp)
  have hl:=rv.length
  exact wpAny_pyNext_tuple_end (I.ok.hd hc) st (show s.heap.IsTuple a its.toArray from p) (by simp;lia) fun h' eb=>⟨rfl,I.turned (t':=s.toks) (fun b o hb e=>eb b o hb e) f0 f1 f3 f4 f5⟩
 self:=fun _ _ _ _ _ st h=>wpAny_pyIter_tupleiter st h
theorem oQ {P:Program} {w:World} {K:X0} {tg:Expr} (it:Addr) (lo:Int) (n:Nat):Turn P w K tg (Itr lo n) [it] it (fun i h=>IsRangeIter h it (lo+(i:Nat) * 1) ((n:Int) - (i:Nat)) 1) where
 mem:=by simp
 obj:=fun i h st b hb=>by
  have e:b=it:=by simpa using hb
  subst e
  exact ⟨_,st,fun v z=>by
   have z':Data.fields _=Data.cell v:=z
   cases z'⟩
 keep:=fun i h h' st k=>k it (by simp) _ st
 item:=by
  intro X hP hw hK hc i pins s σ H E I hf st hg
  subst hP hw hK
  obtain ⟨f0,f1,f2,f3,f4,f5⟩:=hf it (by simp)
  have W:=Walks.range (prog:=X.prog) (w:=X.w) (I.ok.hd hc) it lo 1 n
  refine W.item i s _ _ hg st fun v h' tk hv st' kk=>?_
  obtain ⟨t,rfl⟩:=hv
  have I1:Inv X pins σ H { s with heap:=h',toks:=tk }:=I.turned (fun b o hb e=>kk b o (by simpa using hb) e) f0 f1 f3 f4 f5
  refine ⟨_,rfl,nP (s:={ s with heap:=h',toks:=tk }) (n := "range_iterator") st' rfl rfl (by decide) ⟨.int (lo+i),H,I1,⟨t,?_⟩,⟨rfl,rfl⟩,st',fun b hb=>(hf b hb).1⟩⟩
  rw [Int.mul_one]
 done:=by
  intro X hP hw hK hc i pins s σ H E I hf st hg
  subst hP hw hK
  obtain ⟨f0,f1,f2,f3,f4,f5⟩:=hf it (by simp)
  exact wpAny_pyNext_range_end (I.ok.hd hc) st (by have:n<=i:=hg;lia) fun h' eb=>⟨rfl,I.turned (t':=s.toks) (fun b o hb e=>eb b o hb e) f0 f1 f3 f4 f5⟩
 self:=fun _ _ _ _ _ st h=>wpAny_pyIter_rangeiter st h
section
variable {X:Cx} {tg:Expr}
theorem t5 {pins:Xw} {σ:St} {H:Hp} {s:Shared} {R:It->Hp->Prop} {E:Yt} {lo hi:Int} {t u v:Tok} {tk:Nat} (I:Inv X pins σ H s) (h1:-(2 ^ 62)<=lo) (h2:lo < 2 ^ 62) (h3:-(2 ^ 62)<=hi) (h4:hi < 2 ^ 62)
  (q:R (Itr lo (hi - lo).toNat) H):wpAny (model X.prog X.w) X.A (pyIter (.ref s.heap.objs.size)) (PIE X pins σ tg R) E { s with heap:=s.heap.push { cls:=.type "range",data:=.fields #[.int lo t,.int hi u,.int 1 v] },toks:=tk }:=by
 refine wpAny_pyIter_range (IsRange.new ..) (small_one h1 h2 h3 h4) ?_
 have I1:Inv X pins σ H { s with heap:=s.heap.push { cls:=.type "range",data:=.fields #[.int lo t,.int hi u,.int 1 v] },toks:=tk }:=I.kept fun b o e=>Zl _ e
 refine ⟨(s.heap.push { cls:=.type "range",data:=.fields #[.int lo t,.int hi u,.int 1 v] }).objs.size,[(s.heap.push { cls:=.type "range",data:=.fields #[.int lo t,.int hi u,.int 1 v] }).objs.size],_,_,H,rfl,
  I1.kept (t':=tk) fun b o e=>Zl _ e,oQ _ lo (hi - lo).toNat,?_,fun b hb=>?_,q⟩
 ·have e1:lo+((0:Nat):Int) * 1=lo:=by simp
  have e2:(((hi - lo).toNat:Nat):Int) - ((0:Nat):Int)=Builtin.Range.rangeSize lo hi 1:=by rw [rangeSize_one];split <;> lia
  show IsRangeIter _ _ (lo+((0:Nat):Int) * 1) ((((hi - lo).toNat:Nat):Int) - ((0:Nat):Int)) 1
  rw [e1,e2]
  exact ZS _ rfl
 ·have e:b=(s.heap.push { cls:=.type "range",data:=.fields #[.int lo t,.int hi u,.int 1 v] }).objs.size:=by simpa using hb
  subst e
  exact I1.fpOk (Zk _) (I1.hok.fresh (Zk _))
noncomputable def Bd (ta:TA):TI:=fun σ H R=>ta σ H fun vs H1=>∃ j:Int,vs=[.int j]/\-(2 ^ 62)<=j/\j < 2 ^ 62/\R (Itr 0 j.toNat) H1
theorem rK {a:Expr} {ta:TA} {p pos:Pos} (hg:Gl X "range") (hm:X.mg "range" = none) (ha:PA X [a] ta) (hs:starEach [a] X.env=[(false,eval a X.env)]:=by rfl):PI X tg (.Call (.Name "range" p) [a] [] pos) (Bd ta):=by
 intro pins s σ H R I h
 refine Call_ (mD I hg hm boot_range (PyProof.Rows.callWith_type1 (thn (ha pos pins s σ H _ I h) fun us s1 ⟨vs,H1,I1,r1,q1⟩=>?_) hs rfl))
 obtain ⟨j,e,q1,q2,q⟩:=q1
 subst e
 cases r1 with
 | cons r rr =>
  cases rr
  obtain ⟨t,rfl⟩:=r
  exact call_range_1 (t5 I1 (by lia) (by lia) q1 q2 (by simpa using q))
noncomputable def CK (wi:TI) (g:TG) (tb:TS):TS:=fun D σ H=>wi σ H fun J H1=>∃ W:Nat->Nat->St->Hp->Prop,(∃ m,W 0 m σ H1)/\∀ i m σ H,W i m σ H →
 (J.stop i H/\D.nx σ H)\/(J.go i H/\∃ N:St->Hp->Prop,(∀ σ' H',N σ' H'->∃ m',m' < m/\W (i+1) m' σ' H')/\∀ x H',J.yld i H x H'->g x σ H' fun σ2 H2=>tb { D with nx:=N,ct:=N,bk:=D.nx } σ2 H2)
noncomputable def kY (fp:X4) (h:Heap):Xw:=fp.filterMap fun b=>(h.get? b).map fun o=>(b,o)
theorem gh {fp:X4} {h:Heap} {b:Addr} {o:Obj} (hb:b∈fp) (e:h.get? b=some o):(b,o)∈kY fp h:=List.mem_filterMap.mpr ⟨b,hb,by rw [e];rfl⟩
theorem rj {fp:X4} {h:Heap} {p:Addr×Obj} (hp:p∈kY fp h):p.1∈fp/\h.get? p.1=some p.2:=by
 obtain ⟨b,hb,e⟩:=List.mem_filterMap.mp hp
 cases q:h.get? b with
 | none=>rw [q] at e;cases e
 | some o =>
  rw [q] at e
  have e':(b,o)=p:=Zo e
  subst e'
  exact ⟨hb,q⟩
theorem Inv.pinned {pins:Xw} {σ:St} {H:Hp} {s:Shared} {fp:X4} (I:Inv X pins σ H s) (hf:∀ b∈fp,lB X pins H b) (ho:∀ b∈fp,∃ o,s.heap.get? b=some o/\∀ v,o.data ≠ .cell v):Inv X (pins++kY fp s.heap) σ H s :=
 I.pins_of fun p hp=>(Zg.mp hp).elim (fun z=>I.pin p (ZU _ z)) fun z=>by
  obtain ⟨hb,e⟩:=rj z
  obtain ⟨f0,f1,f2,_⟩:=hf p.1 hb
  obtain ⟨o,e',d⟩:=ho p.1 hb
  rw [e] at e';cases e'
  exact ⟨e,f0,f1,f2,d⟩
theorem Inv.unpinned {pins pl:Xw} {σ:St} {H:Hp} {s:Shared} (I:Inv X (pins++pl) σ H s):Inv X pins σ H s:=I.pins_of fun p hp=>I.pin p (ZU _ (Z1 _ hp))
theorem zb {iter:Expr} {body:List Stmt} {wi:TI} {g:TG} {tb:TS} {pos:Pos} (hp:PassesOwn (model X.prog X.w) X.A X.env X.xe) (hc:X.calm=true) (hi:PI X tg iter wi) (hg:PG X tg g) (hb:PSs X body tb)
  (hs:∀ x,foldedSetIterable iter X.env x=pure x:=by intro _;rfl):PS X (.For tg iter body [] pos) (CK wi g tb):=by
 intro pins s σ H D I h
 refine wpAny_For (thn (hi pins s σ H _ I h) fun v s1 h1=>thn h1 fun itv s2 h2=>?_) hs
 obtain ⟨it,fp,tn,J,H2,e,I2,T,st2,f2,W,⟨m0,w0⟩,turn⟩:=h2
 subst e
 have stat:∀ {H':Hp},(∀ b∈fp,H' b=none)->∀ b∈fp,lB X pins H' b:=fun hn b hb=>⟨hn b hb,(f2 b hb).2⟩
 refine codeAny_forLoop_any (fun n s'=>∃ i σ' H',Inv X pins σ' H' s'/\tn i s'.heap/\(∀ b∈fp,H' b=none)/\W i n σ' H') ?_ m0 ⟨0,σ,H2,I2,st2,fun b hb=>(f2 b hb).1,w0⟩
 rintro n s3 ⟨i,σ3,H3,I3,st3,fr3,w3⟩
 rcases turn i n σ3 H3 w3 with ⟨stop,qn⟩ | ⟨go,N,hN,step⟩
 ·refine YM hp (thn (T.done X rfl rfl rfl hc i pins s3 σ3 H3 X.xe I3 (stat fr3) st3 stop) fun r s4 ⟨hr,I4⟩=>?_)
  subst hr
  exact Xa ⟨σ3,H3,I4,qn⟩
 ·refine YM hp (thn (T.item X rfl rfl rfl hc i pins s3 σ3 H3 X.xe I3 (stat fr3) st3 go) fun r s4 ⟨u,hr,h4⟩=>?_)
  subst hr
  refine YM hp (thn h4 fun _ s5 ⟨x,H5,I5,r5,y5,st5,fr5⟩=>?_)
  have I5':=I5.pinned (stat fr5) (T.obj _ _ st5)
  refine YM hp (thn (hg _ s5 σ3 H5 x u _ I5' r5 (step x H5 y5)) fun _ s6 ⟨σ6,H6,I6,q6⟩=>?_)
  refine YM hp (thn (hb _ s6 σ6 H6 _ I6 q6) fun f s7 q7=>?_)
  have again:∀ {σ7:St} {H7:Hp},Inv X (pins++kY fp s5.heap) σ7 H7 s7->N σ7 H7->∃ m,m < n/\∃ i σ' H',Inv X pins σ' H' s7/\tn i s7.heap/\(∀ b∈fp,H' b=none)/\W i m σ' H':=fun {σ7 H7} I7 n7=>by
   obtain ⟨m',hm,w7⟩:=hN σ7 H7 n7
   refine ⟨m',hm,i+1,σ7,H7,I7.unpinned,T.keep _ _ _ st5 fun b hb o e=>(I7.pin (b,o) (ZU _ (ZU _ (gh hb e)))).1,fun b hb=>?_,w7⟩
   obtain ⟨o,e,d⟩:=T.obj _ _ st5 b hb
   exact (I7.pin (b,o) (ZU _ (ZU _ (gh hb e)))).2.1
  cases f with
  | next=>obtain ⟨σ7,H7,I7,n7⟩:=q7;exact again I7 n7
  | cont=>obtain ⟨σ7,H7,I7,n7⟩:=q7;exact again I7 n7
  | brk=>obtain ⟨σ7,H7,I7,q7⟩:=q7;exact ⟨σ7,H7,I7.unpinned,q7⟩
  | ret v=>obtain ⟨x7,σ7,H7,I7,r7,q7⟩:=q7;exact ⟨x7,σ7,H7,I7.unpinned,r7,q7⟩
end
noncomputable abbrev R2:=V->V->Hp->VK->Prop
noncomputable def OpR (X:Cx) (f:Value->Value->Sem Value) (r:R2):Prop :=
 ∀ (pins:Xw) (s:Shared) (σ:St) (H:Hp) (x y:V) (v u:Value) (Q:VK),Inv X pins σ H s->RelV x v->RelV y u->r x y H Q →
  wpAny (model X.prog X.w) X.A (f v u) (EP X pins σ Q) X.xe s
noncomputable def dC (X:Cx) (f:Value) (r:List V->Hp->VK->Prop):Prop :=
 ∀ (pins:Xw) (s:Shared) (σ:St) (H:Hp) (xs:List V) (us:X5) (Q:VK),Inv X pins σ H s->aR xs us->r xs H Q →
  wpAny (model X.prog X.w) X.A (call f us) (EP X pins σ Q) X.xe s
noncomputable def C0 (X:Cx) (r:V->Hp->(Bool->Hp->Prop)->Prop):Prop :=
 ∀ (pins:Xw) (s:Shared) (σ:St) (H:Hp) (x:V) (v:Value) (Q:Bool->Hp->Prop),Inv X pins σ H s->RelV x v->r x H Q →
  wpAny (model X.prog X.w) X.A (truthy v) (TP X pins σ Q) X.xe s
noncomputable def tOp (r:R2) (ta tb:TE):TE:=fun σ H Q=>ta σ H fun x H1=>tb σ H1 fun y H2=>r x y H2 Q
noncomputable def rI (C:Int->Int->Prop) (g:Int->Int->V):R2:=fun x y H Q=>∃ i j,x=.int i/\y=.int j/\C i j/\Q (g i j) H
noncomputable def rI0 (g:Int->Int->V):R2:=fun x y H Q=>∃ i j,x=.int i/\y=.int j/\Q (g i j) H
section
variable {X:Cx} {a b c:Expr} {ta tb tc:TE} {pos:Pos}
theorem yB (ha:PE X a ta) (hb:PE X b tb) {pins:Xw} {s:Shared} {σ:St} {H:Hp} {R:V->V->Hp->Prop} (I:Inv X pins σ H s)
  (h:ta σ H fun x H1=>tb σ H1 fun y H2=>R x y H2) {Q:Yt} {f:Value->Value->Sem Value}
  (hf:∀ v u s2 x y H2,Inv X pins σ H2 s2->RelV x v->RelV y u->R x y H2->wpAny (model X.prog X.w) X.A (f v u) Q X.xe s2) :
  wpAny (model X.prog X.w) X.A (eval a X.env) (fun v s₁=>wpAny (model X.prog X.w) X.A (eval b X.env) (fun u s₂=>wpAny (model X.prog X.w) X.A (f v u) Q X.xe s₂) X.xe s₁) X.xe s:=by
 refine thn (ha pins s σ H _ I h) fun v s1 ⟨x,H1,I1,r1,q1⟩=>?_
 refine thn (hb pins s1 σ H1 _ I1 q1) fun u s2 ⟨y,H2,I2,r2,q2⟩=>?_
 exact hf v u s2 x y H2 I2 r1 r2 q2
theorem A4 {op:Operator} {r:R2} (ho:OpR X (binaryOp op) r) (ha:PE X a ta) (hb:PE X b tb):PE X (.BinOp a op b pos) (tOp r ta tb):=by
 intro pins s σ H Q I h
 exact wpAny_BinOp (yB ha hb I h fun v u s2 x y H2 I2 rx ry q=>ho pins s2 σ H2 x y v u Q I2 rx ry q)
theorem opI {f:Value->Value->Sem Value} {C:Int->Int->Prop} {g:Int->Int->Int}
  (rule:∀ (i j:Int) (t u:Tok) (s:Shared) (Q:Yt) (E:Yt),C i j->Q (.int (g i j) s.toks) { s with toks:=s.toks+1 }->wpAny (model X.prog X.w) X.A (f (.int i t) (.int j u)) Q E s) :
  OpR X f (rI C fun i j=>.int (g i j)):=by
 intro pins s σ H x y v u Q I rx ry h
 obtain ⟨i,j,rfl,rfl,hc,q⟩:=h
 obtain ⟨t,rfl⟩:=rx
 obtain ⟨t',rfl⟩:=ry
 exact rule i j t t' s _ _ hc ⟨.int (g i j),H,I.tok _,⟨_,rfl⟩,q⟩
theorem Bi {f:Value->Value->Sem Value} {g:Int->Int->Int}
  (rule:∀ (i j:Int) (t u:Tok) (s:Shared) (Q:Yt) (E:Yt),Q (.int (g i j) s.toks) { s with toks:=s.toks+1 }->wpAny (model X.prog X.w) X.A (f (.int i t) (.int j u)) Q E s) :
  OpR X f (rI0 fun i j=>.int (g i j)):=by
 intro pins s σ H x y v u Q I rx ry h
 obtain ⟨i,j,rfl,rfl,q⟩:=h
 obtain ⟨t,rfl⟩:=rx
 obtain ⟨t',rfl⟩:=ry
 exact rule i j t t' s _ _ ⟨.int (g i j),H,I.tok _,⟨_,rfl⟩,q⟩
theorem vq {f:Value->Value->Sem Value} {g:Int->Int->Bool}
  (rule:∀ (i j:Int) (t u:Tok) (s:Shared) (Q:Yt) (E:Yt),Q (.bool (g i j)) s->wpAny (model X.prog X.w) X.A (f (.int i t) (.int j u)) Q E s) :
  OpR X f (rI0 fun i j=>.bl (g i j)):=by
 intro pins s σ H x y v u Q I rx ry h
 obtain ⟨i,j,rfl,rfl,q⟩:=h
 obtain ⟨t,rfl⟩:=rx
 obtain ⟨t',rfl⟩:=ry
 exact rule i j t t' s _ _ ⟨.bl (g i j),H,I,rfl,q⟩
noncomputable def Bb (i j:Int):Prop:=0 < j/\j < 1073741824
noncomputable def xh (i j:Int):Prop:=(-(2 ^ 64) < i/\i < 2 ^ 64)\/(-(2 ^ 64) < j/\j < 2 ^ 64)
theorem xh.ok {i j:Int} (h:xh i j):IntMulOk i j:=by
 rcases h with ⟨h1,h2⟩ | ⟨h1,h2⟩
 ·exact .of_left (intBits_le_64 h1 h2)
 ·exact .of_right (intBits_le_64 h1 h2)
theorem yO:OpR X (binaryOp .Add) (rI0 fun i j=>.int (i+j)):=Bi fun _ _ _ _ _ _ _ q=>add_int q
theorem zf:OpR X (binaryOp .Sub) (rI0 fun i j=>.int (i - j)):=Bi fun _ _ _ _ _ _ _ q=>sub_int q
theorem zM:OpR X (binaryOp .Mult) (rI xh fun i j=>.int (i * j)):=opI fun _ _ _ _ _ _ _ hc q=>mul_int q hc.ok
theorem vx:OpR X (binaryOp .FloorDiv) (rI Bb fun i j=>.int (i / j)):=opI fun i j _ _ _ _ _ hc q=>by
 have h1:(0:Int) < j:=hc.1
 have h2:j < 1073741824:=hc.2
 exact floordiv_int (by lia) (by rw [Int.fdiv_eq_ediv_of_nonneg i (by lia)];exact q) (.inl (PyProof.noPylong_small (by omega)))
theorem y9:OpR X (binaryOp .Mod) (rI (fun _ j=>0 < j) fun i j=>.int (i % j)):=opI fun i j _ _ _ _ _ hc q=>by
 have h1:(0:Int) < j:=hc
 exact mod_int' (by lia) (by rw [Int.fmod_eq_emod_of_nonneg i (by lia)];exact q)
end
section
variable {X:Cx} {a b c:Expr} {ta tb tc:TE} {pos:Pos}
theorem yu {pins:Xw} {σ:St} {H:Hp} {s:Shared} {Q:VK} {k k':Bool} (I:Inv X pins σ H s) (q:Q (.bl k) H) (e:k=k'):EP X pins σ Q (.bool k') s:=by
 subst e
 exact ⟨.bl k,H,I,rfl,q⟩
theorem AZ:OpR X (compareOp .Lt) (rI0 fun i j=>.bl (decide (i < j))):=vq fun _ _ _ _ _ _ _ q=>lt_int q
theorem BN:OpR X (compareOp .LtE) (rI0 fun i j=>.bl (decide (i<=j))):=vq fun _ _ _ _ _ _ _ q=>le_int q
theorem B6:OpR X (compareOp .Gt) (rI0 fun i j=>.bl (decide (j < i))):=vq fun _ _ _ _ _ _ _ q=>gt_int q
theorem Bu:OpR X (compareOp .GtE) (rI0 fun i j=>.bl (decide (j<=i))):=vq fun _ _ _ _ _ _ _ q=>ge_int q
theorem rA:OpR X (compareOp .Lt) (fun x y H Q=>∃ i j,x=.str i/\y=.str j/\Q (.bl (decide (i.cps.toList < j.cps.toList))) H):=by
 intro pins s σ H x y v u Q I rx ry h
 obtain ⟨i,j,rfl,rfl,q⟩:=h
 obtain ⟨t,rfl⟩:=rx
 obtain ⟨t',rfl⟩:=ry
 exact lt_str (yu I q rfl)
theorem OpR.or {f:Value->Value->Sem Value} {r r':R2} (h:OpR X f r) (h':OpR X f r'):OpR X f (fun x y H Q=>r x y H Q\/r' x y H Q):=by
 intro pins s σ H x y v u Q I rx ry q
 rcases q with q | q
 ·exact h pins s σ H x y v u Q I rx ry q
 ·exact h' pins s σ H x y v u Q I rx ry q
theorem jx (b:Expr) {op:CmpOp} (h:op ≠ .In:=by decide) (h2:op ≠ .NotIn:=by decide):behindInMarks op b=false:=by
 have e1:(op == CmpOp.In)=false:=by cases op <;> first | rfl | exact absurd rfl h
 have e2:(op == CmpOp.NotIn)=false:=by cases op <;> first | rfl | exact absurd rfl h2
 cases b <;> simp [behindInMarks,e1,e2]
theorem vP {op:CmpOp} {r:R2} (ho:OpR X (compareOp op) r) (ha:PE X a ta) (hb:PE X b tb) (hm:behindInMarks op b=false):PE X (.Compare a [op] [b] pos) (tOp r ta tb):=by
 intro pins s σ H Q I h
 exact wpAny_Compare1 (yB ha hb I h fun v u s2 x y H2 I2 rx ry q=>ho pins s2 σ H2 x y v u Q I2 rx ry q) hm
noncomputable def so (t:TE):TT:=fun σ H Q=>t σ H fun x H'=>∃ k,x=.bl k/\Q k H'
theorem v7 {op:CmpOp} {r:R2} (ho:OpR X (compareOp op) r) (ha:PE X a ta) (hb:PE X b tb) (hm:behindInMarks op b=false):PT X (.Compare a [op] [b] pos) (so (tOp r ta tb)):=by
 intro pins s σ H Q I h
 refine wpAny_isTrue_Compare1 (thn (ha pins s σ H _ I h) fun v s1 ⟨x,H1,I1,r1,q1⟩=>thn (hb pins s1 σ H1 _ I1 q1) fun u s2 ⟨y,H2,I2,r2,q2⟩ =>
  thn (ho pins s2 σ H2 x y v u _ I2 r1 r2 q2) fun c s3 ⟨z,H3,I3,r3,k,e,q3⟩=>?_) hm
 subst e
 cases r3
 exact YX ⟨H3,I3,q3⟩
noncomputable def uL (r r':R2) (ta tb tc:TE):TE:=fun σ H Q=>ta σ H fun x H1=>tb σ H1 fun y H2=>r x y H2 fun z H3=>∃ k,z=.bl k ∧
 (if k=true then tc σ H3 fun w' H4=>r' y w' H4 Q else Q (.bl false) H3)
theorem rS {op op':CmpOp} {r r':R2} (ho:OpR X (compareOp op) r) (ho':OpR X (compareOp op') r') (ha:PE X a ta) (hb:PE X b tb) (hc:PE X c tc)
  (hm:lastMarks [op,op'] [b,c]=false:=by with_unfolding_all rfl):PT X (.Compare a [op,op'] [b,c] pos) (so (uL r r' ta tb tc)):=by
 intro pins s σ H Q I h
 refine isTrue_chain (thn (ha pins s σ H _ I h) fun v s1 ⟨x,H1,I1,r1,q1⟩=>test_link (thn (hb pins s1 σ H1 _ I1 q1) fun u s2 ⟨y,H2,I2,r2,q2⟩ =>
  thn (ho pins s2 σ H2 x y v u _ I2 r1 r2 q2) fun d s3 ⟨z,H3,I3,r3,k,e,q3⟩=>?_)) hm
 subst e
 cases r3
 refine YX ?_
 cases k with
 | false =>
  obtain ⟨k',e',q'⟩:=q3
  cases e'
  exact ite_ff ⟨H3,I3,q'⟩
 | true =>
  refine ite_tt (test_last (thn (hc pins s3 σ H3 _ I3 q3) fun w' s4 ⟨z',H4,I4,r4,q4⟩=>thn (ho' pins s4 σ H4 y z' u w' _ I4 r2 r4 q4) fun d' s5 ⟨z2,H5,I5,r5,k2,e2,q5⟩=>?_))
  subst e2
  cases r5
  exact YX ⟨H5,I5,q5⟩
noncomputable def zg (K:X0) (x:V) (H:Hp) (k:Bool):Prop :=
 match x with
 | .non=>k=false
 | .bl b=>k=b
 | .int i=>k=(i != 0)
 | .str y=>y.length<=sizeLine/\k=((y.length:Int) != 0)
 | .byt y=>y.size<=sizeLine/\k=((y.size:Int) != 0)
 | .ref p=>(∃ xs,SqL K H p xs/\k=!xs.isEmpty)\/(∃ xs,SqT K H p xs/\k=!xs.isEmpty)\/∃ kvs,H p=some (.dK kvs)/\k=!kvs.isEmpty
 | _=>False
theorem oS {κ:Type} {kvs:List (κ×V)} {vs:List (κ×Value)} (r:KV kvs vs):(!vs.isEmpty)=!kvs.isEmpty:=by
 cases r <;> rfl
theorem j7 {xs:List V} {its:X5} (r:aR xs its):(!its.toArray.isEmpty)=!xs.isEmpty:=by
 cases r <;> simp
theorem jm:(sizeLine:Nat) < 2 ^ 63:=by rw [Y2];decide
theorem yp:C0 X (fun x H Q=>∃ k,zg X.K x H k/\Q k H):=by
 intro pins s σ H x v Q I rx h
 obtain ⟨k,e,q⟩:=h
 have hl:=jm
 have hs:sizeLine=16777216:=Y2
 cases x with
 | non =>
  cases rx
  have e':k=false:=e
  subst e'
  exact truthy_none ⟨H,I,q⟩
 | bl b =>
  cases rx
  have e':k=b:=e
  subst e'
  exact YX ⟨H,I,q⟩
 | int i =>
  obtain ⟨t,rfl⟩:=rx
  have e':k=(i != 0):=e
  subst e'
  exact PySem.P.truthy_int ⟨H,I,q⟩
 | str y =>
  obtain ⟨t,rfl⟩:=rx
  obtain ⟨hy,e'⟩:y.length<=sizeLine/\k=((y.length:Int) != 0):=e
  subst e'
  exact PySem.P.truthy_str (by lia) ⟨H,I.tok _,q⟩
 | byt y =>
  obtain ⟨t,rfl⟩:=rx
  obtain ⟨hy,e'⟩:y.size<=sizeLine/\k=((y.size:Int) != 0):=e
  subst e'
  exact PySem.W.truthy_bytes (by lia) ⟨H,I.tok _,q⟩
 | ref p =>
  cases rx
  have e':(∃ xs,SqL X.K H p xs/\k=!xs.isEmpty)\/(∃ xs,SqT X.K H p xs/\k=!xs.isEmpty)\/∃ kvs,H p=some (.dK kvs)/\k=!kvs.isEmpty:=e
  rcases e' with ⟨xs,hx,e'⟩ | ⟨xs,hx,e'⟩ | ⟨kvs,hx,e'⟩
  ·subst e'
   obtain ⟨its,r,pl,hz⟩:=I.list hx
   have hlen:=r.length
   exact wpAny_truthy_list pl.isList (by simp only [Za];lia) ⟨H,I.tok _,by rw [j7 r];exact q⟩
  ·subst e'
   obtain ⟨its,r,pl,hz⟩:=I.tuple hx
   have hlen:=r.length
   exact truthy_tuple pl (by simp only [Za];lia) ⟨H,I.tok _,by rw [j7 r];exact q⟩
  ·subst e'
   obtain ⟨hz,hS,vs,r,m⟩:kvs.length<=sizeLine/\(p == sysModules)=false/\∃ vs,KV kvs vs/\s.heap.DictOf (bG X.prog X.w) p vs:=I.hok p _ hx
   have hlen:kvs.length=vs.length:=YB r
   exact wpAny_truthy_dict hS m (by lia) ⟨H,I.tok _,by rw [oS r];exact q⟩
 | _=>exact (show False from e).elim
theorem su (ha:PE X a ta) (he:∀ whole,isTrue a X.env whole=(do let v ← whole;standAt a.pos;holding [v] (truthy v))) :
  PT X a (fun σ H Q=>ta σ H fun x H'=>∃ k,zg X.K x H' k/\Q k H'):=by
 intro pins s σ H Q I h
 exact isTrue_plain (thn (ha pins s σ H _ I h) fun v s1 ⟨x,H1,I1,r1,q1⟩=>yp pins s1 σ H1 x v Q I1 r1 q1) (he _)
theorem oZ:OpR X (binaryOp .Add) (fun x y H Q=>∃ i j,x=.str i/\y=.str j/\i.length+j.length<=sizeLine/\Q (.str (i++j)) H):=by
 intro pins s σ H x y v u Q I rx ry h
 obtain ⟨i,j,rfl,rfl,hz,q⟩:=h
 obtain ⟨t,rfl⟩:=rx
 obtain ⟨t',rfl⟩:=ry
 exact add_str (fun t' tk=>⟨.str (i++j),H,I.tok _,⟨_,rfl⟩,q⟩) hz
theorem vals1 {x:V} {us:X5} (r:aR [x] us):∃ u,us=[u]/\RelV x u:=by
 cases r with
 | cons r1 r2=>cases r2;exact ⟨_,rfl,r1⟩
theorem vals2 {x y:V} {us:X5} (r:aR [x,y] us):∃ u w',us=[u,w']/\RelV x u/\RelV y w':=by
 cases r with
 | cons r1 r2 =>
  cases r2 with
  | cons r3 r4=>cases r4;exact ⟨_,_,rfl,r1,r3⟩
theorem qL (hc:X.calm=true):dC X (.builtin "max") (fun xs H Q=>∃ i j,xs=[.int i,.int j]/\Q (.int (if j > i then j else i)) H):=by
 intro pins s σ H xs us Q I r h
 obtain ⟨i,j,rfl,q⟩:=h
 obtain ⟨u,w',rfl,⟨t,rfl⟩,⟨t',rfl⟩⟩:=vals2 r
 refine max_two_ints (I.ok.hd hc) fun h' tk k=>⟨_,H,I.kept k,?_,q⟩
 by_cases hj:j > i
 ·rw [Zq hj,Zq hj];exact ⟨_,rfl⟩
 ·rw [Zn hj,Zn hj];exact ⟨_,rfl⟩
theorem rm (hc:X.calm=true):dC X (.builtin "min") (fun xs H Q=>∃ i j,xs=[.int i,.int j]/\Q (.int (if j < i then j else i)) H):=by
 intro pins s σ H xs us Q I r h
 obtain ⟨i,j,rfl,q⟩:=h
 obtain ⟨u,w',rfl,⟨t,rfl⟩,⟨t',rfl⟩⟩:=vals2 r
 refine min_two_ints (I.ok.hd hc) fun h' tk k=>⟨_,H,I.kept k,?_,q⟩
 by_cases hj:j < i
 ·rw [Zq hj,Zq hj];exact ⟨_,rfl⟩
 ·rw [Zn hj,Zn hj];exact ⟨_,rfl⟩
noncomputable def AX (K:X0) (x:V) (H:Hp) (n:Nat):Prop :=
 match x with
 | .str y=>y.length<=sizeLine/\n=y.length
 | .byt y=>y.size<=sizeLine/\n=y.size
 | .ref p=>(∃ xs,SqL K H p xs/\n=xs.length)\/∃ xs,SqT K H p xs/\n=xs.length
 | _=>False
theorem uv:dC X (.builtin "len") (fun xs H Q=>∃ x n,xs=[x]/\AX X.K x H n/\Q (.int n) H):=by
 intro pins s σ H xs us Q I r h
 obtain ⟨x,n,rfl,e,q⟩:=h
 obtain ⟨u,rfl,rx⟩:=vals1 r
 have hl:=jm
 have hs:sizeLine=16777216:=Y2
 cases x with
 | str y =>
  obtain ⟨t,rfl⟩:=rx
  obtain ⟨hy,e'⟩:y.length<=sizeLine/\n=y.length:=e
  subst e'
  exact len_str (by lia) ⟨.int _,H,I.tok _,⟨_,rfl⟩,q⟩
 | byt y =>
  obtain ⟨t,rfl⟩:=rx
  obtain ⟨hy,e'⟩:y.size<=sizeLine/\n=y.size:=e
  subst e'
  exact PySem.W.len_bytes (by lia) ⟨.int _,H,I.tok _,⟨_,rfl⟩,q⟩
 | ref p =>
  cases rx
  have e':(∃ xs,SqL X.K H p xs/\n=xs.length)\/∃ xs,SqT X.K H p xs/\n=xs.length:=e
  rcases e' with ⟨xs,hx,e'⟩ | ⟨xs,hx,e'⟩
  ·subst e'
   obtain ⟨its,r',pl,hz⟩:=I.list hx
   have hlen:=r'.length
   exact Calls.call_len_list pl.isList (by simp only [Za];lia) ⟨.int xs.length,H,I.tok _,⟨_,by simp only [Za];rw [hlen]⟩,q⟩
  ·subst e'
   obtain ⟨its,r',pl,hz⟩:=I.tuple hx
   have hlen:=r'.length
   exact len_tuple pl (by simp only [Za];lia) ⟨.int xs.length,H,I.tok _,⟨_,by simp only [Za];rw [hlen]⟩,q⟩
 | _=>exact (show False from e).elim
end
structure ObjM (h:Heap) (x dx C:Addr) (mA:X3):Prop where
 obj:h.get? x=some (PySem.W.instObj C dx)
 ns:h.Ns1 dx mA
 ne:dx ≠ x
theorem rn {h:Heap} {dx:Addr} {mA:X3} (n:h.Ns1 dx mA):∃ od,h.get? dx=some od/\∀ name,PySem.W.lookIn name od=some (mA name):=by
 obtain ⟨o,es,ep,ho,hd,hk,_,hm⟩:=n
 refine ⟨o,ho,fun name=>?_⟩
 have e:=hm name
 unfold nsFind findBy at e
 rw [← Array.find?_toList] at e
 unfold PySem.W.lookIn
 rw [hd]
 dsimp only
 split
 ·rename_i y q
  rw [q] at e
  exact congrArg some e
 ·rename_i q
  rw [q] at e
  have a:es.toList.any (·.refKey)=false:=by
   rw [List.any_eq_false]
   intro y hy
   obtain ⟨z,t,hkey⟩:=hk y (Array.mem_toList_iff.mp hy)
   simp [DictEntry.refKey,hkey]
  have a':¬ es.toList.any (·.refKey)=true:=by rw [a];exact Zh
  rw [Zn a']
  exact congrArg some e
theorem ObjM.look {h:Heap} {x dx C:Addr} {mA:X3} (I:ObjM h x dx C mA):∃ od,PySem.W.InstAt h x (PySem.W.instObj C dx) C (some od)/\∀ name,PySem.W.lookIn name od=some (mA name) :=
 let ⟨od,ho,hl⟩:=rn I.ns
 ⟨od,⟨I.obj,rfl,rfl,ho⟩,hl⟩
section
variable {prog:Program} {w:World} {A:Around} {E:Yt} {s:Shared} {K:X0} {x dx C f:Addr} {mA:X3} {name:Str} {v:Value}
theorem get_map {expr:Bool} {Q:Yt} (X:K.In s.heap) (I:ObjM s.heap x dx C mA) (hg:PySem.W.plainGet K C name=true) (hh:PySem.W.hasDictIn K C=true)
  (ha:PySem.W.findIn K (.ref C) name=some none) (hv:mA name=some v) (hv':PySem.W.handedIn v=true) (h:Q v { s with toks:=s.toks+1 }) :
  wpAny (model prog w) A (getAttr (.ref x) name expr) Q E s:=by
 obtain ⟨od,J,hl⟩:=I.look
 exact PySem.W.get_value X J (Xd hg).1 (PySem.W.findObj_own hh ha rfl (by rw [hl,hv])) hv' h
theorem si {pl:Sem Bool} {Q:Value×X5->Shared->Prop} (X:K.In s.heap) (I:ObjM s.heap x dx C mA) (hg:PySem.W.plainGet K C name=true)
  (hf:PySem.W.findIn K (.ref C) name=some (some (.ref f))) (ht:PySem.W.isFn K (.ref f)=true) (hv:mA name=none) (h:Q (.ref f,[.ref x]) s) :
  wpAny (model prog w) A (getMethod (.ref x) name pl) Q E s:=by
 obtain ⟨od,J,hl⟩:=I.look
 exact PySem.W.method_fn X J (Xd hg).1 (Xd hg).2 hf (beq_iff_eq.mp ht) (by show (PySem.W.lookIn name od).map (·.isSome)=some false;rw [hl,hv];rfl) h
theorem vM {ns:List Str} {Q:Unit->Shared->Prop} (X:K.In s.heap) (I:ObjM s.heap x dx C mA)
  (hs:PySem.W.findIn K (.ref C) "__setattr__" = some (some (.builtin "object.__setattr__"))) (hp:PySem.W.plainOver K C=true) (ht:PySem.W.takerIn K C name=some none) (hh:PySem.W.hasDictIn K C=true)
  (hw:PySem.Within mA ns) (hsz:ns.length<=sizeLine)
  (h:∀ h',ObjM h' x dx C (fun y=>if y=name then some v else mA y)->Heap.SameBut dx s.heap h'->Q () { s with heap:=h',toks:=s.toks+2 }) :
  wpAny (model prog w) A (setAttr (.ref x) name v) Q E s:=by
 obtain ⟨od,J,hl⟩:=I.look
 refine PySem.W.set_plain X J hs (PySem.W.osa_open (s:={ s with toks:=s.toks+1 }) (r:=none) X J hp ht fun b=>?_)
 obtain ⟨cd,hc,hd'⟩:=PySem.W.any_some hh
 have hx:s.heap.get? x=some ⟨.ref C,some dx,.plain,#[]⟩:=I.obj
 refine Zr (Zb (Zr (Zr (wpAny_loadPart hx (Zr (PySem.W.Looks.here (s:={ s with toks:=s.toks+1 }) (PySem.W.looks_clsIn X hc) ?_))))))
 rw [hd']
 refine Zb (a:=some dx) (Zr (Zb (Zr ?_)))
 refine wpAny_nsSet1 (s:={ s with toks:=s.toks+1 }) I.ns fun h' hn2 hs2=>?_
 obtain ⟨oD,esD,epD,hoD,hdD,hcD⟩:=hn2.count (PySem.Within.cons name v hw)
 refine Zr (wpAny_lookBehind hoD (by rw [hdD];exact pastItsLine_dict (ZI hcD (by rw [ZZ];exact Xp hsz))) ?_)
 exact Zb (h _ ⟨(hs2.2 _ (Ya I.ne)).trans I.obj,hn2,I.ne⟩ hs2)
theorem tQ {R:Result->Shared->Prop} {vs:X5} {kw:List (Str×Value)} (X:K.In s.heap) (hm:PySem.W.makesIn K C=true)
  (hi:PySem.W.findIn K (.ref C) "__init__" = some (some (.ref f))) (hf:PySem.W.typeIn K (.ref f)=some (.type "function"))
  (h:codeAny (model prog w) (A.under (.builtin "type.__call__" ⟨.ref C :: vs,kw⟩)) (.call (.ref f) ⟨.ref (s.heap.objs.size+1) :: vs,kw⟩) (PySem.W.InitBack (s.heap.objs.size+1) R)
   { s with heap:=(s.heap.push PySem.W.emptyDict).push (PySem.W.instObj C s.heap.objs.size) }) :
  codeAny (model prog w) A (.call (.ref C) ⟨vs,kw⟩) R s:=by
 obtain ⟨hh,g,d,t,os⟩:=s
 exact PySem.W.make_core (PySem.W.makes_of X hm) (PySem.W.looks_findIn X hi) (fun self=>PySem.W.bind_fn X self hf) (.inl rfl) h
end
noncomputable def gr (f:Str) (v:V):List (Str×V)->List (Str×V)
 | []=>[(f,v)]
 | (g,x) :: r=>if g=f then (g,v) :: r else (g,x) :: gr f v r
theorem jD (f g:Str) (v:V):∀ fs:List (Str×V),(gr f v fs).lookup g=if g=f then some v else fs.lookup g
 | []=>by
  show List.lookup g [(f,v)]=_
  by_cases h:g=f
  ·have hb:(g == f)=true:=beq_iff_eq.mpr h
   simp only [List.lookup,hb,Zq h]
  ·have hb:(g == f)=false:=beq_eq_false_iff_ne.mpr h
   simp only [List.lookup,hb,Zn h]
 | (k,x) :: r=>by
  have ih:=jD f g v r
  rw [show gr f v ((k,x) :: r)=(if k=f then (k,v) :: r else (k,x) :: gr f v r) from rfl]
  by_cases hk:k=f
  ·rw [Zq hk]
   by_cases h:g=k
   ·have hb:(g == k)=true:=beq_iff_eq.mpr h
    simp only [List.lookup,hb,Zq (h.trans hk)]
   ·have hb:(g == k)=false:=beq_eq_false_iff_ne.mpr h
    simp only [List.lookup,hb,Zn (fun e:g=f=>h (e.trans hk.symm))]
  ·rw [Zn hk]
   by_cases h:g=k
   ·have hb:(g == k)=true:=beq_iff_eq.mpr h
    simp only [List.lookup,hb,Zn (fun e:g=f=>hk (h.symm.trans e))]
   ·have hb:(g == k)=false:=beq_eq_false_iff_ne.mpr h
    simp only [List.lookup,hb]
    exact ih
theorem jo (f:Str) (v:V):∀ fs:List (Str×V),f∈(gr f v fs).map (·.1)/\∀ g,g∈fs.map (·.1)->g∈(gr f v fs).map (·.1)
 | []=>⟨by simp [gr],fun g h=>by simp at h⟩
 | (k,x) :: r=>by
  obtain ⟨i1,i2⟩:=jo f v r
  rw [show gr f v ((k,x) :: r)=(if k=f then (k,v) :: r else (k,x) :: gr f v r) from rfl]
  by_cases hk:k=f
  ·rw [Zq hk]
   subst hk
   exact ⟨by simp,fun g h=>by simpa using h⟩
  ·rw [Zn hk]
   refine ⟨?_,fun g h=>?_⟩
   ·rw [Zp]
    exact Zv _ i1
   ·rw [Zp] at h ⊢
    rcases Zi.mp h with e | e
    ·exact Zi.mpr (.inl e)
    ·exact Zv _ (i2 g e)
theorem jI (f:Str) (v:V):∀ fs:List (Str×V),(gr f v fs).length<=fs.length+1
 | []=>by simp [gr]
 | (k,x) :: r=>by
  have ih:=jI f v r
  rw [show gr f v ((k,x) :: r)=(if k=f then (k,v) :: r else (k,x) :: gr f v r) from rfl]
  by_cases hk:k=f
  ·rw [Zq hk,ZZ,ZZ];exact YI _ _
  ·rw [Zn hk,ZZ,ZZ];exact Xp ih
theorem gq.some_of {v:V} {o:X6} (r:gq (some v) o):∃ u,o=some u/\RelV v u:=by
 cases o with
 | none=>exact (show False from r).elim
 | some u=>exact ⟨u,rfl,r⟩
theorem gq.none_of {o:X6} (r:gq none o):o=none:=by
 cases o with
 | none=>rfl
 | some u=>exact (show False from r).elim
theorem qT {v:V} {u:Value} (r:RelV v u):PySem.W.handedIn u=true:=by
 cases v with
 | non=>cases (show u=Value.none from r);rfl
 | bl b=>cases (show u=Value.bool b from r);rfl
 | int i=>obtain ⟨t,e⟩:=(show ∃ t,u=Value.int i t from r);cases e;rfl
 | str x=>obtain ⟨t,e⟩:=(show ∃ t,u=Value.str x t from r);cases e;rfl
 | byt b=>obtain ⟨t,e⟩:=(show ∃ t,u=Value.bytes b t from r);cases e;rfl
 | flt b=>obtain ⟨t,e⟩:=(show ∃ t,u=Value.float b t from r);cases e;rfl
 | ref a=>cases (show u=Value.ref a from r);rfl
 | ty n=>cases (show u=Value.type n from r);rfl
section
variable {P:Program} {w:World} {H H':Hp} {h h':Heap} {a C dx:Addr} {fs fs':List (Str×V)}
theorem jW (hok:HOk P w H h) (e:H a=some (.ins C dx fs)):∃ mA,ObjM h a dx C mA/\(∀ f,gq (fs.lookup f) (mA f))/\PySem.Within mA (fs.map (·.1))/\fs.length<=1000/\H dx=some (.own a):=by
 obtain ⟨d,z,ne,ob,mA,n,r,q⟩:=(show b9 P w H h a (.ins C dx fs) from hok a _ e)
 exact ⟨mA,⟨ob,n,ne⟩,r,q,z,d⟩
end
structure Cls (K:X0) (C:Addr):Prop where
 pg:PySem.W.plainGet K C Str.empty=true
 hd:PySem.W.hasDictIn K C=true
 po:PySem.W.plainOver K C=true
 sa:PySem.W.findIn K (.ref C) "__setattr__" = some (some (.builtin "object.__setattr__"))
theorem Cls.get {K:X0} {C:Addr} (c:Cls K C) (f:Str):PySem.W.plainGet K C f=true:=c.pg
noncomputable def bY (K:X0) (C:Addr) (f:Str):Prop:=PySem.W.findIn K (.ref C) f=some none
theorem bY.taker {K:X0} {C:Addr} {f:Str} (n:bY K C f):PySem.W.takerIn K C f=some none:=by
 unfold PySem.W.takerIn
 rw [show PySem.W.findIn K (.ref C) f=some none from n]
 rfl
structure Meth (K:X0) (C:Addr) (m:Str) (f:Addr):Prop where
 at_:PySem.W.findIn K (.ref C) m=some (some (.ref f))
 fn:PySem.W.isFn K (.ref f)=true
 kp:PySem.W.keepIn K (.ref f)=true
section
variable {X:Cx} {pins:Xw} {σ:St} {H:Hp} {s:Shared} {a C dx:Addr} {fs:List (Str×V)} {f:Str} {v:V} {A:Around} {E:Yt}
theorem o8 {b:Bool} {Q:Yt} (I:Inv X pins σ H s) (e:H a=some (.ins C dx fs)) (c:Cls X.K C) (n:bY X.K C f) (l:fs.lookup f=some v)
  (h:∀ u s',Inv X pins σ H s'->RelV v u->Q u s'):wpAny (model X.prog X.w) A (getAttr (.ref a) f b) Q E s:=by
 obtain ⟨mA,O,r,_,_,_⟩:=jW I.hok e
 obtain ⟨u,hu,ru⟩:=gq.some_of (v:=v) (o:=mA f) (by rw [← l];exact r f)
 exact get_map I.kIn O (c.get f) c.hd n hu (qT ru) (h u _ (I.tok _) ru)
theorem kH {m:Str} {g:Addr} {pl:Sem Bool} {Q:Value×X5->Shared->Prop} (I:Inv X pins σ H s) (e:H a=some (.ins C dx fs)) (c:Cls X.K C) (k:Meth X.K C m g) (l:fs.lookup m=none)
  (h:Q (.ref g,[.ref a]) s):wpAny (model X.prog X.w) A (getMethod (.ref a) m pl) Q E s:=by
 obtain ⟨mA,O,r,_,_,_⟩:=jW I.hok e
 have hn:mA m=none:=gq.none_of (by rw [← l];exact r m)
 exact si I.kIn O (c.get m) k.at_ k.fn hn h
theorem oM {y:V} {u:Value} {Q:Unit->Shared->Prop} (I:Inv X pins σ H s) (e:H a=some (.ins C dx fs)) (c:Cls X.K C) (n:bY X.K C f) (hl:fs.length < 1000) (ry:RelV y u)
  (h:∀ s',Inv X pins σ (upd H a (.ins C dx (gr f y fs))) s'->Q () s'):wpAny (model X.prog X.w) A (setAttr (.ref a) f u) Q E s:=by
 obtain ⟨mA,O,r,wi,_,ho⟩:=jW I.hok e
 have hz:(fs.map (·.1)).length<=sizeLine:=by rw [Zy,Y2];lia
 refine vM I.kIn O c.sa c.po n.taker c.hd wi hz fun h' O' sb=>h _ ?_
 have hd:∃ o,h'.get? dx=some o:=let ⟨o,_,_,e',_⟩:=O'.ns;⟨o,e'⟩
 refine I.write (x:=a) (e:=dx) (by rw [e];exact True.intro) (.inr ho) (fun b q hb z=>(sb.2 b hb).trans z) hd ?_
 refine ⟨by rw [aI O.ne];exact ho,?_,O.ne,O'.obj,_,O'.ns,fun g=>?_,fun g hg=>?_⟩
 ·have:=jI f y fs;lia
 ·show gq ((gr f y fs).lookup g) (if g=f then some u else mA g)
  rw [jD]
  by_cases q:g=f
  ·rw [Zq q,Zq q];exact ry
  ·rw [Zn q,Zn q];exact r g
 ·by_cases q:g=f
  ·rw [q];exact (jo f y fs).1
  ·refine (jo f y fs).2 g (wi g fun z=>hg ?_)
   show (if g=f then some u else mA g)=none
   rw [Zn q];exact z
theorem Inv.made (I:Inv X pins σ H s):Inv X pins σ (upd (upd H s.heap.objs.size (.own (s.heap.objs.size+1))) (s.heap.objs.size+1) (.ins C s.heap.objs.size []))
  { s with heap:=(s.heap.push PySem.W.emptyDict).push (PySem.W.instObj C s.heap.objs.size) }:=by
 have e1:(s.heap.push PySem.W.emptyDict).get? s.heap.objs.size=some PySem.W.emptyDict:=ZS s.heap rfl
 have e2:((s.heap.push PySem.W.emptyDict).push (PySem.W.instObj C s.heap.objs.size)).get? (s.heap.objs.size+1)=some (PySem.W.instObj C s.heap.objs.size):=by
  have:=ZS (s.heap.push PySem.W.emptyDict) (o:=PySem.W.instObj C s.heap.objs.size) rfl
  rwa [XJ] at this
 have e3:(s.heap.push PySem.W.emptyDict).Ns s.heap.objs.size (fun _=>none):=⟨PySem.W.emptyDict,#[],_,e1,rfl,(fun e he=>absurd he (by simp)),fun _=>rfl⟩
 have I1:=I.laid (a:=s.heap.objs.size) (o:=.own (s.heap.objs.size+1)) (h':=s.heap.push PySem.W.emptyDict) (t':=s.toks) (fun b u q=>Zl _ q) (Zk _) ⟨_,e1⟩
 refine I1.laid (a:=s.heap.objs.size+1) (o:=.ins C s.heap.objs.size []) (t':=s.toks) (fun b u q=>Zl _ q) (XR (XJ _ _)) ?_
 have ne:s.heap.objs.size ≠ s.heap.objs.size+1:=ZW (Yp _)
 refine ⟨by rw [aI ne,aD],Ye _,ne,e2,fun _=>none,(Heap.Ns1.of_empty e3).at fun o q=>Zl _ q,fun _=>True.intro,fun y hy=>absurd rfl hy⟩
theorem wu {prog:Program} {w:World} {env:Env} {e:Expr} {f:Str} {pos:Pos} {s:Shared} {Q:Yt} (hb:attributeBase e f env (eval e env)=eval e env)
  (h:wpAny (model prog w) A (eval e env) (fun o s₁=>wpAny (model prog w) A (getAttr o f true) Q E s₁) E s):wpAny (model prog w) A (eval (.Attribute e f pos) env) Q E s :=
 Attribute_any_ h (by rw [arm_eval_Attribute,hb])
end
noncomputable def CP (K:X0) (ta:TE) (f:Str):TE:=fun σ H Q=>ta σ H fun x H1=>∃ a C dx fs v,x=.ref a/\H1 a=some (.ins C dx fs)/\Cls K C/\bY K C f/\fs.lookup f=some v/\Q v H1
noncomputable def CF (K:X0) (ta tv:TE) (f:Str):TS:=fun D σ H=>tv σ H fun y H1=>ta σ H1 fun x H2=>∃ a C dx fs,x=.ref a/\H2 a=some (.ins C dx fs)/\Cls K C/\bY K C f/\fs.length < 1000 ∧
 D.nx σ (upd H2 a (.ins C dx (gr f y fs)))
section
variable {X:Cx} {o e value:Expr} {f:Str} {pos pos' tpos:Pos} {ta tv:TE}
theorem vk (he:PE X e ta) (hb:attributeBase e f X.env (eval e X.env)=eval e X.env):PE X (.Attribute e f pos) (CP X.K ta f):=by
 intro pins s σ H Q I h
 refine wu hb (thn (he pins s σ H _ I h) fun u s1 ⟨x,H1,I1,rx,a,C,dx,fs,v,ex,ea,c,n,l,q⟩=>?_)
 subst ex
 obtain rfl:u=Value.ref a:=rx
 exact o8 I1 ea c n l fun u' s2 I2 ru=>⟨v,H1,I2,ru,q⟩
theorem zN (ha:PE X o ta) (hv:PE X value tv) (hs:swapsWith value (some (.Attribute o f pos')) pos.line X.env=pure false):PS X (.Assign [.Attribute o f pos'] value pos) (CF X.K ta tv f):=by
 intro pins s σ H D I h
 refine plainObj_wpAny_Assign_Attribute (thn (hv pins s σ H _ I h) fun u s1 ⟨y,H1,I1,ry,q⟩=>thn (ha pins s1 σ H1 _ I1 q) fun ov s2 ⟨x,H2,I2,rx,a,C,dx,fs,ex,ea,c,n,l,q2⟩=>?_) hs
 subst ex
 obtain rfl:ov=Value.ref a:=rx
 exact oM I2 ea c n l ry fun s3 I3=>⟨σ,_,I3,q2⟩
end
section
variable {X:Cx} {pins:Xw} {σ:St} {H:Hp} {s:Shared} {A:Around} {E:Yt} {Q:Yt} {c:Value} {b:Bool}
inductive TyOf (K:X0) (H:Hp):V->Value->Prop where
 | non:TyOf K H .non (.type "NoneType")
 | bl (x:Bool):TyOf K H (.bl x) (.type "bool")
 | int (i:Int):TyOf K H (.int i) (.type "int")
 | str (x:Str):TyOf K H (.str x) (.type "str")
 | flt (x:UInt64):TyOf K H (.flt x) (.type "float")
 | lst {a:Addr} {xs:List V} (e:H a=some (.lst xs)):TyOf K H (.ref a) (.type "list")
 | frz {a:Addr} {o:Obj} {xs:List V} (e:H a=some (.frz o (.lst xs))):TyOf K H (.ref a) (.type "list")
 | tup {a:Addr} {xs:List V} (e:H a=some (.tup xs)):TyOf K H (.ref a) (.type "tuple")
 | dK {a:Addr} {kvs:List (Key×V)} (e:H a=some (.dK kvs)):TyOf K H (.ref a) (.type "dict")
 | dT {a:Addr} {kvs:List (List Key×V)} (e:H a=some (.dT kvs)):TyOf K H (.ref a) (.type "dict")
 | ins {a C dx:Addr} {fs:List (Str×V)} (e:H a=some (.ins C dx fs)) (cl:Cls K C) (ha:PySem.W.findIn K (.ref C) "__class__" = some (some (.builtin "object.__class__")))
   (hn:PySem.W.specialIn K (.builtin "object.__class__") "__get__" = some (some (.builtin "getset_descriptor.__get__"))) (htk:PySem.W.takesIn K (.builtin "object.__class__")=some true)
   (hm:PySem.W.mroIn K C (.type "object")=some true):TyOf K H (.ref a) (.ref C)
theorem rP {x:V} {u t:Value} (I:Inv X pins σ H s) (rx:RelV x u) (ty:TyOf X.K H x t) (e:PySem.W.kitOne X.K t c=some b) (h:∀ tk,Q (.bool b) { s with toks:=tk }) :
  wpAny (model X.prog X.w) A (call (.builtin "isinstance") [u,c]) Q E s:=by
 cases ty with
 | non=>cases (show u=Value.none from rx);exact Ys PySem.W.kitx_none I.kIn True.intro e (fun z=>nomatch z) h
 | bl y=>cases (show u=Value.bool y from rx);exact Ys PySem.W.kitx_bool I.kIn True.intro e (fun z=>nomatch z) h
 | int i=>obtain ⟨t,q⟩:=(show ∃ t,u=Value.int i t from rx);cases q;exact Ys PySem.W.kitx_int I.kIn True.intro e (fun z=>nomatch z) h
 | str y=>obtain ⟨t,q⟩:=(show ∃ t,u=Value.str y t from rx);cases q;exact Ys PySem.W.kitx_str I.kIn True.intro e (fun z=>nomatch z) h
 | flt y=>obtain ⟨t,q⟩:=(show ∃ t,u=Value.float y t from rx);cases q;exact Ys PySem.W.kitx_float I.kIn True.intro e (fun z=>nomatch z) h
 | @lst a xs ea =>
  cases (show u=Value.ref a from rx)
  obtain ⟨_,_,n,_,h1⟩:=(show b9 X.prog X.w H s.heap a (.lst xs) from I.hok a _ ea)
  exact Ys PySem.W.kitx_list I.kIn ⟨_,h1,rfl⟩ e (fun z=>nomatch z) h
 | @frz a ob xs ea =>
  cases (show u=Value.ref a from rx)
  obtain ⟨_,_,_,n,_,h1⟩:=(show b9 X.prog X.w H s.heap a (.frz ob (.lst xs)) from I.hok a _ ea)
  exact Ys PySem.W.kitx_list I.kIn ⟨_,h1,rfl⟩ e (fun z=>nomatch z) h
 | @tup a xs ea =>
  cases (show u=Value.ref a from rx)
  obtain ⟨_,_,_,_,p⟩:=(show b9 X.prog X.w H s.heap a (.tup xs) from I.hok a _ ea)
  obtain ⟨o,h1,h2,_⟩:=p
  exact Ys PySem.W.kitx_tuple I.kIn ⟨o,h1,h2⟩ e (fun z=>nomatch z) h
 | @dK a kvs ea =>
  cases (show u=Value.ref a from rx)
  obtain ⟨_,_,vs,_,p⟩:=(show b9 X.prog X.w H s.heap a (.dK kvs) from I.hok a _ ea)
  obtain ⟨o,es,ep,h1,h2,_⟩:=p
  exact Ys PySem.W.kitx_dict I.kIn ⟨o,h1,h2.1⟩ e (fun z=>nomatch z) h
 | @dT a kvs ea =>
  cases (show u=Value.ref a from rx)
  obtain ⟨_,_,xs,_,o,es,ep,h1,h2,_⟩:=(show b9 X.prog X.w H s.heap a (.dT kvs) from I.hok a _ ea)
  exact Ys PySem.W.kitx_dict I.kIn ⟨o,h1,h2.1⟩ e (fun z=>nomatch z) h
 | @ins a C dx fs ea cl ha hn htk hm =>
  cases (show u=Value.ref a from rx)
  obtain ⟨mA,O,_⟩:=jW I.hok ea
  obtain ⟨od,J,_⟩:=O.look
  exact Ys (PySem.W.kitx_own (cl.get _) cl.hd ha hn htk hm) I.kIn J e (fun z=>nomatch z) h
end
structure Room (k:Nat) (A:Around):Prop where
 hd:A.handled=none
 dp:A.depth+3 * k+5 < recursionLimit
 un:A.units+16 * k+200 < cLine
theorem Room.mono {j k:Nat} {A:Around} (r:Room k A) (h:j<=k):Room j A:=⟨r.hd,by have:=r.dp;lia,by have:=r.un;lia⟩
theorem Room.deeper {k:Nat} {A:Around} (r:Room (k+1) A) (env:Env):Room k (A.deeper env) :=
 ⟨r.hd,by have:=r.dp;show A.depth+1+3 * k+5 < _;lia,by have:=r.un;show A.units+3+16 * k+200 < _;lia⟩
theorem pb {A:Around} {C:Addr} {us:X5} {kw:List (Str×Value)}:(A.under (.builtin "type.__call__" ⟨.ref C :: us,kw⟩)).depth=A.depth+1:=by
 first | rfl | simp [Around.under,Code.weight,Code.isCreation,Code.isGuard,Code.isCaller,Code.frames,Code.isFrame,guardIds]
theorem pv {A:Around} {C:Addr} {us:X5} {kw:List (Str×Value)}:(A.under (.builtin "type.__call__" ⟨.ref C :: us,kw⟩)).units=A.units+1:=by
 first | rfl | simp [Around.under,Code.cUnits,Code.frames,Code.isFrame]
theorem Room.make {k:Nat} {A:Around} (r:Room (k+1) A) (C:Addr) (us:X5) (kw:List (Str×Value)):Room k (A.under (.builtin "type.__call__" ⟨.ref C :: us,kw⟩)) :=
 ⟨r.hd,by have:=r.dp;rw [pb];lia,by have:=r.un;rw [pv];lia⟩
theorem Room.depth {k:Nat} {A:Around} (r:Room k A):A.depth < recursionLimit:=by have:=r.dp;lia
theorem Room.units {k:Nat} {A:Around} (r:Room k A):A.units+64 < cLine:=by have:=r.un;lia
noncomputable def rN:TA:=fun _ H Q=>Q [] H
noncomputable def Ck (ta:TE) (tr:TA):TA:=fun σ H Q=>ta σ H fun x H1=>tr σ H1 fun xs H2=>Q (x :: xs) H2
section
variable {X:Cx} {e:Expr} {es:List Expr} {te:TE} {t:TA} {pos:Pos}
theorem ng:PA X [] rN:=fun _ _ _ _ H Q I h=>Calls.spliced_nil ⟨[],H,I,.nil,h⟩
theorem gT (ha:PE X e te) (hr:PA X es t) (hs:starEach (e :: es) X.env=(false,eval e X.env) :: starEach es X.env:=by rfl):PA X (e :: es) (Ck te t):=by
 intro pos pins s σ H Q I h
 rw [hs]
 show wpAny _ _ (spliced ((false,eval e X.env) :: backTo pos (starEach es X.env))) _ _ s
 refine Calls.spliced_cons (thn (ha pins s σ H _ I h) fun u s1 ⟨x,H1,I1,r1,q1⟩=>?_)
 exact thn (hr pos pins s1 σ H1 _ I1 q1) fun us s2 ⟨xs,H2,I2,r2,q2⟩=>⟨x :: xs,H2,I2,.cons r1 r2,q2⟩
noncomputable def CZ (t:TA):TE:=fun σ H Q=>t σ H fun xs H1=>xs.length<=sizeLine/\∀ p,H1 p=none->Q (.ref p) (upd H1 p (.tup xs))
noncomputable def CW (t:TA):TE:=fun σ H Q=>t σ H fun xs H1=>xs.length<=sizeLine/\∀ p,H1 p=none->Q (.ref p) (upd H1 p (.lst xs))
theorem zF {x1} (h:PA X es t):PE X (.Tuple es x1 pos) (CZ t):=by
 intro pins s σ H Q I hq
 refine wpAny_Tuple_spliced (thn (h pos pins s σ H _ I hq) fun us s1 ⟨xs,H1,I1,r,z,q⟩=>⟨by rw [← r.length];exact z,?_⟩)
 have hf:H1 s1.heap.objs.size=none:=I1.hok.fresh (Zk _)
 refine ⟨.ref s1.heap.objs.size,upd H1 s1.heap.objs.size (.tup xs),I1.laid (t':=s1.toks) (fun b u e=>Zl _ e) (Zk _) ?_,rfl,q _ hf⟩
 exact ⟨z,us,r,NoD.of (ZS _ rfl) rfl,⟨_,ZS _ rfl,rfl,_,rfl⟩⟩
theorem zm (h:PA X es t):PE X (.List es pos) (CW t):=by
 intro pins s σ H Q I hq
 refine wpAny_List_spliced (thn (h pos pins s σ H _ I hq) fun us s1 ⟨xs,H1,I1,r,z,q⟩=>⟨by rw [← r.length];exact z,?_⟩)
 have hf:H1 s1.heap.objs.size=none:=I1.hok.fresh (Zk _)
 refine ⟨.ref s1.heap.objs.size,upd H1 s1.heap.objs.size (.lst xs),I1.laid (t':=s1.toks) (fun b u e=>Zl _ e) (Zk _) ?_,rfl,q _ hf⟩
 exact ⟨z,us,0,r,ZS _ rfl⟩
end
noncomputable abbrev Sp:=List V->Hp->VK->XK->Prop
noncomputable abbrev CXT:=List Env->Hp->Shared->XK->Yt
structure Env0 (P:Program) (w:World) (K:X0) (mg:X3) (base:Heap) (A:Around) (outer:List Env) (s:Shared) (H:Hp):Prop where
 frames:A.frames=some outer
 mod:Mod K mg base
 bs:∀ b o,base.get? b=some o->s.heap.get? b=some o/\H b=none
 bsz:base.objs.size<=s.heap.objs.size
 funs:s.heap.FunFrames base outer
 frf:∀ b∈frs outer,H b=none
 hok:HOk P w H s.heap
 bare:AllBare s.gens
noncomputable def CE (outer:List Env) (P:Program) (w:World) (H:Hp) (s:Shared) (Q:VK) (u:Value) (s':Shared):Prop :=
 ∃ v H',s'.os=s.os/\AllBare s'.gens/\Un (frs outer) [] H H' s.heap s'.heap/\HOk P w H' s'.heap/\RelV v u/\Q v H'
noncomputable def CR (CX:CXT) (outer:List Env) (P:Program) (w:World) (H:Hp) (s:Shared) (Q:VK) (E:XK) (r:Result) (s':Shared):Prop :=
 match r with
 | .ok (.ret u)=>CE outer P w H s Q u s'
 | .ok _=>False
 | .error e=>CX outer H s E e s'
structure FnOk (P:Program) (w:World) (K:X0) (mg:X3) (base:Heap) (CX:CXT) (k:Nat) (f:Addr) (fd:FuncData) (ps:List Str) (sp:Sp):Prop where
 len:∀ vs H Q E,sp vs H Q E->vs.length=ps.length
 run:∀ (A:Around) (outer:List Env) (s:Shared) (H:Hp) (args:Args) (us:X5) (vs:List V) (Q:VK) (E:XK),Room k A->Env0 P w K mg base A outer s H->BindsTo s fd args (ps.zip us)->aR vs us->sp vs H Q E →
  codeAny (model P w) A (.call (.ref f) args) (CR CX outer P w H s Q E) s
theorem FnOk.imp {P:Program} {w:World} {K:X0} {mg:X3} {base:Heap} {CX:CXT} {k:Nat} {f:Addr} {fd:FuncData} {ps:List Str} {sp sp':Sp} (F:FnOk P w K mg base CX k f fd ps sp)
  (h:∀ vs H Q E,sp' vs H Q E->sp vs H Q E):FnOk P w K mg base CX k f fd ps sp' :=
 ⟨fun vs H Q E q=>F.len vs H Q E (h _ _ _ _ q),fun A outer s H args us vs Q E hr he hb hv hs=>F.run A outer s H args us vs Q E hr he hb hv (h _ _ _ _ hs)⟩
theorem Env0.make {P:Program} {w:World} {K:X0} {mg:X3} {base:Heap} {A:Around} {outer:List Env} {s:Shared} {H:Hp} (e:Env0 P w K mg base A outer s H) (C:Addr) (us:X5) (kw:List (Str×Value)) :
  Env0 P w K mg base (A.under (.builtin "type.__call__" ⟨.ref C :: us,kw⟩)) outer s H:=⟨by first | exact e.frames | (simpa [Around.under,Code.envs,Code.isFrame,pushEnvs] using e.frames),e.mod,e.bs,e.bsz,e.funs,e.frf,e.hok,e.bare⟩
section
variable {X:Cx} {pins:Xw} {σ:St} {H:Hp} {s s':Shared}
theorem Inv.env0 (I:Inv X pins σ H s):Env0 X.prog X.w X.K X.mg X.base X.A X.stack s H :=
 ⟨I.ok.frames,I.ok.mod,I.bs,ZI I.ok.bsz I.sz,I.stack,I.stkFree,I.hok,I.bare⟩
theorem Inv.after {Q:VK} {u:Value} (I:Inv X pins σ H s) (h:CE X.stack X.prog X.w H s Q u s'):EP X pins σ Q u s':=by
 obtain ⟨v,H',os,bare,un,hok,r,q⟩:=h
 obtain ⟨hh,g,d,t,os'⟩:=s'
 obtain rfl:os'=s.os:=os
 exact ⟨v,H',I.call (h':=hh) (g':=g) (d':=d) (t':=t) (ch:=[]) un hok bare (fun b z=>absurd z (by simp)),r,q⟩
end
noncomputable def yd (sp:Sp) (dvs:List V) (E:XK) (t:TA):TE:=fun σ H Q=>t σ H fun vs H1=>sp (vs++dvs) H1 Q E
noncomputable def qm (C:Addr) (m:Str) (sp:Sp) (dvs:List V) (E:XK) (ta:TE) (t:TA):TE:=fun σ H Q=>ta σ H fun x H1=>∃ a dx fs,x=.ref a/\H1 a=some (.ins C dx fs)/\fs.lookup m=none ∧
 t σ H1 fun vs H2=>sp (x :: (vs++dvs)) H2 Q E
noncomputable def uV (C:Addr) (sp:Sp) (dvs:List V) (E:XK) (t:TA):TE:=fun σ H Q=>t σ H fun vs H1=>∀ x dx,H1 x=none->H1 dx=none->dx ≠ x →
 sp (.ref x :: (vs++dvs)) (upd (upd H1 dx (.own x)) x (.ins C dx [])) (fun v H2=>v=.non/\Q (.ref x) H2) E
noncomputable def Binds (K:X0) (fd:FuncData) (ps:List Str) (ds:X5):Prop :=
 ∀ (s:Shared) (us:X5),K.In s.heap->(us++ds).length=ps.length->BindsTo s fd ⟨us,[]⟩ (ps.zip (us++ds))
theorem Binds.all {K:X0} {fd:FuncData} {ps:List Str} (h:∀ us:X5,us.length=ps.length->bindArgs fd ⟨us,[]⟩=pure (ps.zip us)):Binds K fd ps []:=fun s us _ hl=>by
 rw [ZK] at hl ⊢
 exact .of_eq (h us hl)
noncomputable def gB (CX:CXT) (X:Cx) (E:XK):Prop:=∀ (pins:Xw) (σ:St) (H:Hp) (s:Shared) (e:Value) (s':Shared),Inv X pins σ H s->CX X.stack H s E e s'->X.xe e s'
section
variable {X:Cx} {CX:CXT} {k:Nat} {f C:Addr} {fd:FuncData} {ps:List Str} {sp:Sp} {dvs:List V} {ds:X5} {E:XK} {x m:Str} {p pos apos:Pos} {e o:Expr} {es:List Expr} {ta:TE} {t:TA}
theorem oP {pins:Xw} {σ:St} {H:Hp} {s:Shared} {Q:VK} {us:X5} {vs:List V} (F:FnOk X.prog X.w X.K X.mg X.base CX k f fd ps sp) (hr:Room k X.A) (hb:Binds X.K fd ps ds) (hd:aR dvs ds) (hx:gB CX X E)
  (I:Inv X pins σ H s) (r:aR vs us) (h:sp (vs++dvs) H Q E):wpAny (model X.prog X.w) X.A (call (.ref f) us) (EP X pins σ Q) X.xe s:=by
 have r2:aR (vs++dvs) (us++ds):=r.append hd
 have hl:(us++ds).length=ps.length:=by rw [← r2.length];exact F.len _ _ _ _ h
 refine wpAny_call (codeAny_mono (F.run X.A X.stack s H ⟨us,[]⟩ (us++ds) (vs++dvs) Q E hr I.env0 (hb s us I.kIn hl) r2 h) fun r s' hq=>?_)
 cases r with
 | error e=>exact hx pins σ H s e s' I hq
 | ok fl =>
  cases fl with
  | ret u=>exact I.after hq
  | next=>exact False.elim hq
  | brk=>exact False.elim hq
  | cont=>exact False.elim hq
theorem xq (F:FnOk X.prog X.w X.K X.mg X.base CX k f fd ps sp) (hr:Room k X.A) (hg:Gl X x) (hm:X.mg x=some (.ref f)) (hk:PySem.W.keepIn X.K (.ref f)=true) (hb:Binds X.K fd ps ds) (hd:aR dvs ds) (hx:gB CX X E)
  (ha:PA X (e :: es) t) (hdb:(x == ("__debug__" : Str))=false:=by decide) (he:starEach (e :: es) X.env=(false,eval e X.env) :: starEach es X.env:=by rfl) (hpl:(backTo pos (starEach es X.env)).any (·.1)=false:=by rfl) :
  PE X (.Call (.Name x p) (e :: es) [] pos) (yd sp dvs E t):=by
 intro pins s σ H Q I h
 refine Y0 (jX I hg hm ?_ hdb)
 refine XZ (h₀:=X.base) I.ok.mod.kin hk (thn (ha pos pins s σ H _ I h) fun us s1 ⟨vs,H1,I1,r,q⟩=>⟨I1.kIn,?_⟩) he hpl
 exact oP F hr hb hd hx I1 r q
theorem mZ {pl:Sem Bool} (he:PE X o ta) (c:Cls X.K C) (hm:Meth X.K C m f) (F:FnOk X.prog X.w X.K X.mg X.base CX k f fd ps sp) (hr:Room k X.A) (hb:Binds X.K fd ps ds) (hd:aR dvs ds) (hx:gB CX X E) (ha:PA X (e :: es) t)
  (hst:starEach (e :: es) X.env=(false,eval e X.env) :: starEach es X.env:=by rfl) (hpl:(backTo pos (starEach es X.env)).any (·.1)=false:=by rfl)
  (ht:eval (.Call (.Attribute o m apos) (e :: es) [] pos) X.env=(do
   let ov ← eval o X.env
   standAt apos.atName
   let (f,first) ← holding [ov] (getMethod ov m pl)
   callWith pos f first (backTo pos (starEach (e :: es) X.env)) (backToKw pos (keywordEach [] X.env))):=by rfl) :
  PE X (.Call (.Attribute o m apos) (e :: es) [] pos) (qm C m sp dvs E ta t):=by
 intro pins s σ H Q I h
 refine PySem.W.methodCall_KW (pl:=pl) (thn (he pins s σ H _ I h) fun u s1 ⟨x,H1,I1,rx,a,dx,fs,ex,ea,l,q⟩=>?_) ht
 subst ex
 obtain rfl:u=Value.ref a:=rx
 refine kH I1 ea c hm l ?_
 refine XZ (first:=[.ref a]) (h₀:=X.base) I.ok.mod.kin hm.kp (thn (ha pos pins s1 σ H1 _ I1 q) fun us s2 ⟨vs,H2,I2,r,q2⟩=>⟨I2.kIn,?_⟩) hst hpl
 exact oP (us:=.ref a :: us) (vs:=.ref a :: vs) F hr hb hd hx I2 (.cons rfl r) q2
theorem ou {pl:Sem Bool} (he:PE X o ta) (c:Cls X.K C) (hm:Meth X.K C m f) (F:FnOk X.prog X.w X.K X.mg X.base CX k f fd ps sp) (hr:Room k X.A) (hb:Binds X.K fd ps ds) (hd:aR dvs ds) (hx:gB CX X E)
  (ht:eval (.Call (.Attribute o m apos) [] [] pos) X.env=(do
   let ov ← eval o X.env
   standAt apos.atName
   let (f,first) ← holding [ov] (getMethod ov m pl)
   callWith pos f first (backTo pos (starEach [] X.env)) (backToKw pos (keywordEach [] X.env))):=by rfl) :
  PE X (.Call (.Attribute o m apos) [] [] pos) (qm C m sp dvs E ta rN):=by
 intro pins s σ H Q I h
 refine PySem.W.methodCall_KW (pl:=pl) (thn (he pins s σ H _ I h) fun u s1 ⟨x,H1,I1,rx,a,dx,fs,ex,ea,l,q⟩=>?_) ht
 subst ex
 obtain rfl:u=Value.ref a:=rx
 refine kH I1 ea c hm l ?_
 exact PySem.W.callWith_K0 (first:=[.ref a]) I1.kIn hm.kp (oP (us:=[.ref a]) (vs:=[.ref a]) F hr hb hd hx I1 (.cons rfl .nil) q)
structure Mk (K:X0) (C f:Addr):Prop where
 makes:PySem.W.makesIn K C=true
 init:PySem.W.findIn K (.ref C) "__init__" = some (some (.ref f))
 fn:PySem.W.isFn K (.ref f)=true
 kp:PySem.W.keepIn K (.ref C)=true
theorem ny {pins:Xw} {σ:St} {H:Hp} {s:Shared} {Q:VK} {us:X5} {vs:List V} (M:Mk X.K C f) (F:FnOk X.prog X.w X.K X.mg X.base CX k f fd ps sp) (hr:Room (k+1) X.A) (hb:Binds X.K fd ps ds) (hd:aR dvs ds)
  (hx:gB CX X E) (I:Inv X pins σ H s) (r:aR vs us)
  (h:∀ x dx,H x=none->H dx=none->dx ≠ x->sp (.ref x :: (vs++dvs)) (upd (upd H dx (.own x)) x (.ins C dx [])) (fun v H2=>v=.non/\Q (.ref x) H2) E) :
  wpAny (model X.prog X.w) X.A (call (.ref C) us) (EP X pins σ Q) X.xe s:=by
 have hq:=h (s.heap.objs.size+1) s.heap.objs.size (I.hok.fresh (Nat.le_succ _)) (I.hok.fresh (Zk _)) (ZW (Yp _))
 have I2:=Inv.made (C:=C) I
 have r2:aR (V.ref (s.heap.objs.size+1) :: (vs++dvs)) (Value.ref (s.heap.objs.size+1) :: (us++ds)):=.cons rfl (r.append hd)
 have hl:(Value.ref (s.heap.objs.size+1) :: us++ds).length=ps.length:=by
  have e:=r2.length
  rw [F.len _ _ _ _ hq] at e
  exact e.symm
 refine wpAny_call (tQ (f:=f) I.kIn M.makes M.init (beq_iff_eq.mp M.fn) (codeAny_mono (F.run _ X.stack _ _ ⟨Value.ref (s.heap.objs.size+1) :: us,[]⟩ (Value.ref (s.heap.objs.size+1) :: (us++ds)) _ _ E (hr.make C us [])
  (I2.env0.make C us []) (hb _ (Value.ref (s.heap.objs.size+1) :: us) I2.kIn hl) r2 hq) fun r s' hq'=>?_))
 cases r with
 | error e=>exact hx pins σ _ _ e s' I2 hq'
 | ok fl =>
  cases fl with
  | ret u =>
   obtain ⟨v,H',I3,rv,ev,q3⟩:=I2.after hq'
   subst ev
   exact ⟨rv,⟨V.ref (s.heap.objs.size+1),H',I3,rfl,q3⟩⟩
  | next=>exact False.elim hq'
  | brk=>exact False.elim hq'
  | cont=>exact False.elim hq'
theorem xK (M:Mk X.K C f) (F:FnOk X.prog X.w X.K X.mg X.base CX k f fd ps sp) (hr:Room (k+1) X.A) (hg:Gl X x) (hm:X.mg x=some (.ref C)) (hb:Binds X.K fd ps ds) (hd:aR dvs ds) (hx:gB CX X E)
  (ha:PA X (e :: es) t) (hdb:(x == ("__debug__" : Str))=false:=by decide) (he:starEach (e :: es) X.env=(false,eval e X.env) :: starEach es X.env:=by rfl) (hpl:(backTo pos (starEach es X.env)).any (·.1)=false:=by rfl) :
  PE X (.Call (.Name x p) (e :: es) [] pos) (uV C sp dvs E t):=by
 intro pins s σ H Q I h
 refine Y0 (jX I hg hm ?_ hdb)
 refine XZ (h₀:=X.base) I.ok.mod.kin M.kp (thn (ha pos pins s σ H _ I h) fun us s1 ⟨vs,H1,I1,r,q⟩=>⟨I1.kIn,?_⟩) he hpl
 exact ny M F hr hb hd hx I1 r q
theorem vh (M:Mk X.K C f) (F:FnOk X.prog X.w X.K X.mg X.base CX k f fd ps sp) (hr:Room (k+1) X.A) (hg:Gl X x) (hm:X.mg x=some (.ref C)) (hb:Binds X.K fd ps ds) (hd:aR dvs ds) (hx:gB CX X E)
  (hdb:(x == ("__debug__" : Str))=false:=by decide):PE X (.Call (.Name x p) [] [] pos) (uV C sp dvs E rN):=by
 intro pins s σ H Q I h
 refine Y0 (jX I hg hm ?_ hdb)
 exact PySem.W.callWith_K0 I.kIn M.kp (ny (us:=[]) M F hr hb hd hx I .nil h)
end
structure FnScope (N P:List Str) (sc:Scope):Prop where
 kind:sc.kind=.function
 co:sc.isCoroutine=false
 gen:sc.isGenerator=false
 nd:N.Nodup
 pre:N.take P.length=P
 par:∀ x∈P,sc.names.lookup x=some .local\/sc.names.lookup x=some .cell
 nofree:∀ y∈sc.names,y.2 ≠ .free
theorem ma {kindOf:Str->Option NameKind} {x:Str}:∀ {binds:List (Str×Value)} {m:X3},(∀ v,(x,v) ∉ binds)->bindL kindOf binds m x=m x
 | [],_,_=>rfl
 | (n,v) :: r,m,h=>by
  unfold bindL
  rw [ma fun w hw=>h w (Zv _ hw)]
  split
  ·have:x ≠ n:=by rintro rfl;exact h v Zx
   simp [this]
  ·rfl
theorem lG {kindOf:Str->Option NameKind} {x:Str}:∀ {binds:List (Str×Value)} {m:X3},(∀ v,(x,v) ∉ binds)->bindC kindOf binds m x=m x
 | [],_,_=>rfl
 | (n,v) :: r,m,h=>by
  unfold bindC
  rw [lG fun w hw=>h w (Zv _ hw)]
  split
  ·rfl
  ·have:x ≠ n:=by rintro rfl;exact h v Zx
   simp [this]
theorem mf {kindOf:Str->Option NameKind} {x:Str} {v:Value}:∀ {P:List Str} {vs:X5} {i:Nat} {m:X3},P.Nodup->P[i]?=some x->vs[i]?=some v->kindOf x=some .local →
  bindL kindOf (P.zip vs) m x=some v
 | [],_,_,_,_,h,_,_=>by simp at h
 | _ :: _,[],_,_,_,_,h,_=>by simp at h
 | p :: P,w :: vs,0,m,nd,h1,h2,hk=>by
  simp at h1 h2;subst h1;subst h2
  show bindL kindOf ((p,w) :: P.zip vs) m p=_
  unfold bindL
  rw [ma fun v hv=>(Ze.mp nd).1 (List.of_mem_zip hv).1,Zq hk]
  simp
 | p :: P,w :: vs,i+1,m,nd,h1,h2,hk=>by
  show bindL kindOf ((p,w) :: P.zip vs) m x=_
  unfold bindL
  exact mf (i:=i) (Ze.mp nd).2 (by simpa using h1) (by simpa using h2) hk
theorem lY {kindOf:Str->Option NameKind} {x:Str} {v:Value}:∀ {P:List Str} {vs:X5} {i:Nat} {m:X3},P.Nodup->P[i]?=some x->vs[i]?=some v->kindOf x ≠ some .local →
  bindC kindOf (P.zip vs) m x=some v
 | [],_,_,_,_,h,_,_=>by simp at h
 | _ :: _,[],_,_,_,_,h,_=>by simp at h
 | p :: P,w :: vs,0,m,nd,h1,h2,hk=>by
  simp at h1 h2;subst h1;subst h2
  show bindC kindOf ((p,w) :: P.zip vs) m p=_
  unfold bindC
  rw [lG fun v hv=>(Ze.mp nd).1 (List.of_mem_zip hv).1,Zn hk]
  simp
 | p :: P,w :: vs,i+1,m,nd,h1,h2,hk=>by
  show bindC kindOf ((p,w) :: P.zip vs) m x=_
  unfold bindC
  exact lY (i:=i) (Ze.mp nd).2 (by simpa using h1) (by simpa using h2) hk
noncomputable def start (N:List Str) (vs:List V):St:=vs.map some++List.replicate (N.length - vs.length) none
noncomputable def fC (CX:CXT) (P:Program) (w:World) (K:X0) (mg:X3) (base:Heap) (N:List Str) (qual:Str) (scope:Scope) (f:Addr) (cd:Value) (A:Around) (outer:List Env) (s:Shared) (H:Hp) (E:XK):Cx where
 prog:=P
 w:=w
 K:=K
 mg:=mg
 base:=base
 A:=A.deeper (envOfC qual scope s.heap.objs.size f cd)
 N:=N
 s₀:=s
 H₀:=H
 env:=envOfC qual scope s.heap.objs.size f cd
 outer:=outer
 stack:=envOfC qual scope s.heap.objs.size f cd :: outer
 ex:=[]
 calm:=true
 fn:=fun _=>true
 pn:=[]
 xe:=fun e s'=>wpAny (model P w) (A.deeper (envOfC qual scope s.heap.objs.size f cd)) (leaving (envOfC qual scope s.heap.objs.size f cd) e) (fun _ s''=>CX outer H s E e s'') (fun e' s''=>CX outer H s E e' s'') s'
theorem nk {sc:Scope} {n:Nat} {x:Str} (h:sc.names.lookup x=some .cell):∃ c,(cellsFrom n sc.names []).lookup x=some c:=by
 have q:=PySem.W.cellsFrom_some sc.names n [] (.inl h)
 exact Yc.mp q
theorem qN {CX:CXT} {P:Program} {w:World} {K:X0} {mg:X3} {base:Heap} {N ps:List Str} {qual:Str} {scope:Scope} {f:Addr} {cd:Value} {A:Around} {outer:List Env} {s s1:Shared} {H:Hp} {E:XK} {us:X5} {vs:List V}
  (S:FnScope N ps scope) (hd:A.handled=none) (e0:Env0 P w K mg base A outer s H) (hl:vs.length=ps.length) (r:aR vs us)
  (x:InCallC s s.heap.objs.size (bindL (envOfC qual scope s.heap.objs.size f cd).kindOf (ps.zip us) fun _=>none) (cellsFrom (s.heap.objs.size+1) scope.names []) (bindC (envOfC qual scope s.heap.objs.size f cd).kindOf (ps.zip us) fun _=>none) s1) :
  Inv (fC CX P w K mg base N qual scope f cd A outer s H E) [] (start N vs) H s1:=by
 have hpl:ps.length<=N.length:=by have:=congrArg List.length S.pre;rw [YU] at this;lia
 obtain ⟨h1,tk,rfl,hk⟩:=x.done
 have noA:∀ b:Addr,b ∉ (fC CX P w K mg base N qual scope f cd A outer s H E).ex:=fun b z=>absurd (show b∈([]:X4) from z) (by simp)
 refine ⟨⟨e0.mod,S.kind,rfl,rfl,Zk _,fun y z c h1 h2=>?_,fun y hy=>?_,fun y c _ h=>?_,fun _=>hd,Around.frames_deeper e0.frames,.inr ⟨rfl,rfl⟩,fun b z=>absurd z (noA b),e0.bs,e0.bsz,fun b _ _=>noA b,fun b z=>absurd z (noA b),e0.funs,e0.frf⟩,
  rfl,e0.bare,Un.kept hk,⟨_,x.toInCall.ns,fun i y v h1 h2 h3=>?_⟩,fun y c h=>⟨_,x.cell y c h⟩,e0.hok.fresh (Zk _),fun y c h=>?_,fun p hp=>absurd (show p∈([]:Xw) from hp) (by simp),e0.hok.kept hk,?_⟩
 ·exact name_of_addr x.apart (YH h1) (YH h2)
 ·have hy:scope.names.lookup y=some .cell\/scope.names.lookup y=some .free:=hy
  rcases hy with hy | hy
  ·exact nk hy
  ·exact absurd rfl (S.nofree _ (YH hy))
 ·exact XS (x.above y c (YH h))
 ·have hi:i < vs.length:=by
   unfold start at h2
   by_cases hi:i < vs.length
   ·exact hi
   ·rw [ZA (by simpa using hi)] at h2
    rw [Yl] at h2
    split at h2 <;> cases h2
  have ha:vs[i]?=some v:=by
   unfold start at h2
   rw [ZJ (by simpa using hi),ZQ] at h2
   cases e:vs[i]? with
   | none=>rw [e] at h2;cases h2
   | some a=>rw [e] at h2;cases h2;rfl
  obtain ⟨u,hu,rv⟩:=r.get ha
  have hp:ps[i]?=some y:=by
   rw [← S.pre,List.getElem?_take_of_lt (by lia)];exact h1
  have ndP:ps.Nodup:=by rw [← S.pre];exact S.nd.sublist (List.take_sublist _ _)
  refine ⟨u,rv,?_⟩
  rcases S.par y (YL hp) with k | k
  ·exact .inl ⟨k,mf ndP hp hu k⟩
  ·obtain ⟨c,e⟩:=nk (n:=s.heap.objs.size+1) k
   refine .inr ⟨.inl k,c,e,?_⟩
   have q:=x.cell y c e
   rw [lY ndP hp hu (by show scope.names.lookup y ≠ _;rw [k];decide)] at q
   exact q
 ·exact e0.hok.fresh (XS (x.above y c (YH h)))
 ·unfold start
  show _=N.length
  rw [Zt,Zy,YO]
  lia
theorem x8 {CX:CXT} {P:Program} {w:World} {K:X0} {mg:X3} {base:Heap} {k:Nat} {f:Addr} {name qual:Str} {params:Arguments} {body:List Stmt} {scope:Scope} {dV kV doc pm cdv ct oc:Value} {an od:Option Addr}
  {osl:Array (X6)} {N ps:List Str} {sp:Sp} (lk:K.lookup f=some ⟨oc,od,.func (PySem.W.fnOf name qual params body scope dV kV doc pm an cdv ct),osl⟩) (hcd:PySem.W.codeIn K cdv qual=true) (S:FnScope N ps scope)
  (len:∀ vs H Q E,sp vs H Q E->vs.length=ps.length)
  (hbody:∀ (A:Around) (outer:List Env) (s:Shared) (H:Hp) (vs:List V) (Q:VK) (E:XK),Room k (A.deeper (envOfC qual scope s.heap.objs.size f cdv))->sp vs H Q E →
   ∃ t,PSs (fC CX P w K mg base N qual scope f cdv A outer s H E) body t/\t { nx:=fun _ H'=>Q .non H',rt:=Q } (start N vs) H) :
  FnOk P w K mg base CX (k+1) f (PySem.W.fnOf name qual params body scope dV kV doc pm an cdv ct) ps sp:=by
 refine ⟨len,fun A outer s H args us vs Q E hr e0 hb r hsp=>?_⟩
 have hl:=len _ _ _ _ hsp
 have KX:K.In s.heap:=e0.mod.kin.keeps fun b o e=>(e0.bs b o e).1
 have lim:s.heap.NoLimit:=e0.mod.nolimit.keeps fun b o e=>(e0.bs b o e).1
 have hkind:∀ y∈ps.zip us,scope.names.lookup y.1=some .local\/(scope.names.lookup y.1=some .cell/\((cellsFrom (s.heap.objs.size+1) scope.names []).lookup y.1).isSome=true):=fun ⟨n,v⟩ hy=>by
  rcases S.par n (List.of_mem_zip hy).1 with q | q
  ·exact .inl q
  ·exact .inr ⟨q,PySem.W.cellsFrom_some _ _ _ (.inl q)⟩
 refine codeAny_call_function hr.depth (KX _ _ lk) rfl S.co S.gen rfl (PySem.W.codeRec_of KX hcd) (hb _ _ _ _ ?_)
 refine wpAny_newFunctionEnv_cells S.kind hkind fun env he s1 x=>?_
 subst he
 refine ⟨lim.keeps x.toInCall.keep,codeAny_func ?_⟩
 obtain ⟨t,ht,hq⟩:=hbody A outer s H vs Q E (hr.deeper _) hsp
 have I:Inv (fC CX P w K mg base N qual scope f cdv A outer s H E) [] (start N vs) H s1:=qN S hr.hd e0 hl r x
 refine YN (ht [] s1 (start N vs) H _ I hq) (fun fl s' hs=>?_) fun e s' hs=>hs
 have fin:∀ {σ':St} {H':Hp} {v:V} {u:Value},Inv (fC CX P w K mg base N qual scope f cdv A outer s H E) [] σ' H' s'->RelV v u->Q v H'->CE outer P w H s Q u s' :=
  fun {σ' H' v u} J rv q=>⟨v,H',J.os,J.bare,J.base,J.hok,rv,q⟩
 cases fl with
 | ret u =>
  obtain ⟨v,σ',H',J,rv,q⟩:=hs
  exact fin J rv q
 | next =>
  obtain ⟨σ',H',J,q⟩:=hs
  exact fin (v:=V.non) (u:=Value.none) J rfl q
 | brk =>
  obtain ⟨_,_,_,q⟩:=hs
  exact False.elim q
 | cont =>
  obtain ⟨_,_,_,q⟩:=hs
  exact False.elim q
section
variable {X:Cx} {x:Str} {p pos:Pos} {e:Expr} {es:List Expr} {t:TA} {id T:String} {r:List V->Hp->VK->Prop}
noncomputable def tCB (r:List V->Hp->VK->Prop) (t:TA):TE:=fun σ H Q=>t σ H fun vs H1=>r vs H1 Q
theorem oq (hc:dC X (.builtin id) r) (hg:Gl X x) (hm:X.mg x=none) (hv:bootBuiltins x=some (.builtin id)) (ha:PA X (e :: es) t) (hn:x ≠ "__name__" := by decide) (hdb:(x == ("__debug__" : Str))=false:=by decide)
  (he:starEach (e :: es) X.env=(false,eval e X.env) :: starEach es X.env:=by rfl) (hpl:(backTo pos (starEach es X.env)).any (·.1)=false:=by rfl):PE X (.Call (.Name x p) (e :: es) [] pos) (tCB r t):=by
 intro pins s σ H Q I h
 refine Y0 (mD I hg hm hv ?_ hn hdb)
 exact PyProof.Rows.callWith_builtin1 (thn (ha pos pins s σ H _ I h) fun us s1 ⟨vs,H1,I1,r1,q1⟩=>hc pins s1 σ H1 vs us Q I1 r1 q1) he hpl
theorem qK (hc:dC X (.type T) r) (hg:Gl X x) (hm:X.mg x=none) (hv:bootBuiltins x=some (.type T)) (ha:PA X (e :: es) t) (hn:x ≠ "__name__" := by decide) (hdb:(x == ("__debug__" : Str))=false:=by decide)
  (he:starEach (e :: es) X.env=(false,eval e X.env) :: starEach es X.env:=by rfl) (hpl:(backTo pos (starEach es X.env)).any (·.1)=false:=by rfl):PE X (.Call (.Name x p) (e :: es) [] pos) (tCB r t):=by
 intro pins s σ H Q I h
 refine Y0 (mD I hg hm hv ?_ hn hdb)
 exact PyProof.Rows.callWith_type1 (thn (ha pos pins s σ H _ I h) fun us s1 ⟨vs,H1,I1,r1,q1⟩=>hc pins s1 σ H1 vs us Q I1 r1 q1) he hpl
end
end L2
namespace HT
open PySem PyProof.Rows
section
variable {prog:Program} {w:World} {A:Around} {E:Yt} {s:Shared}
noncomputable def sIx (n d:Nat):Option Int->Nat
 | none=>d
 | some v=>if v < 0 then (v+(n:Int)).toNat else min v.toNat n
end
end HT
namespace L2
open PySem PySem.Spec PyProof.Rows
noncomputable abbrev TO:=St->Hp->(Option Int->Hp->Prop)->Prop
noncomputable def PO (X:Cx) (e:Option Expr) (t:TO):Prop :=
 ∀ (pins:Xw) (s:Shared) (σ:St) (H:Hp) (Q:Option Int->Hp->Prop),Inv X pins σ H s->t σ H Q →
  wpAny (model X.prog X.w) X.A (evalPart e X.env) (fun u s'=>∃ o H',Inv X pins σ H' s'/\IsPart u o/\Q o H') X.xe s
noncomputable def xR:TO:=fun _ H Q=>Q none H
noncomputable def Cf (t:TE):TO:=fun σ H Q=>t σ H fun x H1=>∃ i,x=.int i/\Q (some i) H1
section
variable {X:Cx} {e:Expr} {te:TE} {lo hi:Option Expr} {tl th:TO} {pos p2:Pos}
theorem wY:PO X none xR:=by
 intro pins s σ H Q I h
 rw [evalPart_none]
 exact Zb ⟨none,H,I,.none,h⟩
theorem wB (h:PE X e te):PO X (some e) (Cf te):=by
 intro pins s σ H Q I hw
 rw [evalPart_some]
 refine thn (h pins s σ H _ I hw) fun u s1 ⟨x,H1,I1,r1,q1⟩=>?_
 obtain ⟨i,rfl,q⟩:=q1
 obtain ⟨t,rfl⟩:=r1
 exact ⟨some i,H1,I1,.int i t,q⟩
noncomputable def SlR (X:Cx) (r:V->Option Int->Option Int->Hp->VK->Prop):Prop :=
 ∀ (pins:Xw) (s:Shared) (σ:St) (H:Hp) (x:V) (v vl vu:Value) (lo hi:Option Int) (sl:Addr) (Q:VK),Inv X pins σ H s->RelV x v->s.heap.IsSliceOf sl vl vu .none->IsPart vl lo->IsPart vu hi->r x lo hi H Q →
  ∃ T id,typeLookup (.type T) "__getitem__" = pure (some (.builtin id))/\s.TypeIs v T/\wpAny (model X.prog X.w) X.A (getItem v (.ref sl)) (EP X pins σ Q) X.xe s
theorem SlR.or {r r':V->Option Int->Option Int->Hp->VK->Prop} (h:SlR X r) (h':SlR X r'):SlR X (fun x lo hi H Q=>r x lo hi H Q\/r' x lo hi H Q):=by
 intro pins s σ H x v vl vu lo hi sl Q I rx hs pl pu q
 rcases q with q | q
 ·exact h pins s σ H x v vl vu lo hi sl Q I rx hs pl pu q
 ·exact h' pins s σ H x v vl vu lo hi sl Q I rx hs pl pu q
noncomputable def tSl (r:V->Option Int->Option Int->Hp->VK->Prop) (te:TE) (tl th:TO):TE:=fun σ H Q=>te σ H fun x H1=>tl σ H1 fun l H2=>th σ H2 fun u H3=>r x l u H3 Q
theorem r9 {r:V->Option Int->Option Int->Hp->VK->Prop} (hr:SlR X r) (he:PE X e te) (hl:PO X lo tl) (hu:PO X hi th):PE X (.Subscript e (.Slice lo hi none p2) pos) (tSl r te tl th):=by
 intro pins s σ H Q I h
 refine Subscript_ (thn (he pins s σ H _ I h) fun v s1 ⟨x,H1,I1,r1,q1⟩=>?_)
 refine wpAny_Slice (thn (hl pins s1 σ H1 _ I1 q1) fun vl s2 ⟨l,H2,I2,pl,q2⟩=>thn (hu pins s2 σ H2 _ I2 q2) fun vu s3 ⟨u,H3,I3,pu,q3⟩=>?_)
 rw [evalPart_none]
 refine Zb ?_
 have I4:Inv X pins σ H3 { s3 with heap:=s3.heap.push { cls:=.type "slice",data:=.fields #[vl,vu,.none] } }:=I3.kept (t':=s3.toks) fun b ob q=>Zl _ q
 obtain ⟨T,id,hT,ht,hg⟩:=hr pins { s3 with heap:=s3.heap.push { cls:=.type "slice",data:=.fields #[vl,vu,.none] } } σ H3 x v vl vu l u s3.heap.objs.size Q I4 r1 (Heap.IsSliceOf.new ..) pl pu q3
 show wpAny (model X.prog X.w) X.A (subscriptTail e (.Slice lo hi none p2) v (.ref s3.heap.objs.size)) (EP X pins σ Q) X.xe { s3 with heap:=s3.heap.push { cls:=.type "slice",data:=.fields #[vl,vu,.none] } }
 exact tail_any (ops:=[.ref s3.heap.objs.size,v]) ht hT hg (by with_unfolding_all rfl)
noncomputable def rO (xs:List V) (lo hi:Option Int):List V:=(xs.drop (HT.sIx xs.length 0 lo)).take (HT.sIx xs.length xs.length hi - HT.sIx xs.length 0 lo)
theorem nY (xs:List V) (lo hi:Option Int):(rO xs lo hi).length<=xs.length:=by
 unfold rO
 rw [YU,Yi]
 lia
end
noncomputable def ixN (n:Nat) (i:Int):Option Nat:=if 0<=i then (if i < n then some i.toNat else none) else if -(n:Int)<=i then some (i+n).toNat else none
noncomputable def atI {α:Type} (xs:List α) (i:Int):Option α:=(ixN xs.length i).bind fun j=>xs[j]?
theorem p6 {n:Nat} {i:Int} {j:Nat} (h:ixN n i=some j):seqIndex? i n=some j/\j < n/\-(n:Int)<=i/\i < n:=by
 unfold ixN at h
 by_cases h0:0<=i
 ·rw [Zq h0] at h
  by_cases h1:i < n
  ·rw [Zq h1] at h
   have e:i.toNat=j:=Zo h
   exact ⟨by rw [seqIndex_of h0 h1,e],by lia,by lia,h1⟩
  ·rw [Zn h1] at h;cases h
 ·rw [Zn h0] at h
  by_cases h1:-(n:Int)<=i
  ·rw [Zq h1] at h
   have e:(i+n).toNat=j:=Zo h
   exact ⟨by rw [seqIndex_neg (by lia) h1,e],by lia,h1,by lia⟩
  ·rw [Zn h1] at h;cases h
theorem mN {α:Type} {xs:List α} {i:Int} {v:α} (h:atI xs i=some v):∃ j,seqIndex? i xs.length=some j/\xs[j]?=some v/\j < xs.length/\-(xs.length:Int)<=i/\i < xs.length:=by
 unfold atI at h
 cases e:ixN xs.length i with
 | none=>rw [e] at h;cases h
 | some j =>
  rw [e] at h
  obtain ⟨h1,h2,h3,h4⟩:=p6 e
  exact ⟨j,h1,h,h2,h3,h4⟩
noncomputable def d5 (b:Expr):Prop:=∀ o i,subscripted b false o i=operate [o,i] (getItem o i)
noncomputable def IxR (X:Cx) (r:R2):Prop :=
 ∀ (value slice:Expr) (pins:Xw) (s:Shared) (σ:St) (H:Hp) (x y:V) (v u:Value) (Q:VK),Inv X pins σ H s->RelV x v->RelV y u->r x y H Q →
  subscripted slice false v u=operate [v,u] (getItem v u)->wpAny (model X.prog X.w) X.A (subscriptTail value slice v u) (EP X pins σ Q) X.xe s
noncomputable def MtR (X:Cx) (id:String) (r:V->List V->Hp->VK->Prop):Prop :=
 ∀ (pins:Xw) (s:Shared) (σ:St) (H:Hp) (x:V) (xs:List V) (v:Value) (us:X5) (Q:VK),Inv X pins σ H s->RelV x v->aR xs us->r x xs H Q →
  wpAny (model X.prog X.w) X.A (call (.builtin id) (v :: us)) (EP X pins σ Q) X.xe s
section
variable {X:Cx} {a b:Expr} {ta tb:TE} {pos:Pos}
theorem IxR.or {r r':R2} (h:IxR X r) (h':IxR X r'):IxR X (fun x y H Q=>r x y H Q\/r' x y H Q):=by
 intro value slice pins s σ H x y v u Q I rx ry q hs
 rcases q with q | q
 ·exact h value slice pins s σ H x y v u Q I rx ry q hs
 ·exact h' value slice pins s σ H x y v u Q I rx ry q hs
theorem qo {r:R2} (hr:IxR X r) (ha:PE X a ta) (hb:PE X b tb) (hs:d5 b):PE X (.Subscript a b pos) (tOp r ta tb):=by
 intro pins s σ H Q I h
 exact Subscript_ (yB ha hb I h fun v u s2 x y H2 I2 rx ry q=>hr a b pins s2 σ H2 x y v u Q I2 rx ry q (hs _ _))
noncomputable def BR (K:X0):R2:=fun x y H Q=>∃ p xs i v,x=.ref p/\y=.int i/\SqL K H p xs/\atI xs i=some v/\Q v H
noncomputable def BU (K:X0):R2:=fun x y H Q=>∃ p xs i v,x=.ref p/\y=.int i/\SqT K H p xs/\atI xs i=some v/\Q v H
noncomputable def Bx:R2:=fun x y H Q=>∃ z i c,x=.str z/\y=.int i/\z.length<=sizeLine/\atI z.cps.toList i=some c/\Q (.str ⟨#[c]⟩) H
theorem vK:IxR X (BR X.K):=by
 intro value slice pins s σ H x y v u Q I rx ry h hs
 obtain ⟨p,xs,i,z,rfl,rfl,hq,he,q⟩:=h
 cases rx
 obtain ⟨t,rfl⟩:=ry
 obtain ⟨its,r,pl,hz⟩:=I.list hq
 obtain ⟨j,h1,h2,h3,h4,h5⟩:=mN he
 obtain ⟨w,ew,rw'⟩:=r.get h2
 have hl:=r.length
 have hn:=jm
 have fin:EP X pins σ Q w s:=⟨z,H,I,rw',q⟩
 by_cases h0:0<=i
 ·have hj:i.toNat=j:=by
   rw [seqIndex_of h0 h5] at h1
   exact Zo h1
  exact item_listR pl.isList h0 (by lia) (by rw [hj];simpa using ew) fin hs
 ·have hj:(i+(its.toArray.size:Int)).toNat=j:=by
   rw [seqIndex_neg (by lia) h4] at h1
   rw [Za,← hl]
   exact Zo h1
  exact subscriptTail_builtinR (x:=w) pl.isList.typeIs slot_list_getitem.lookup
   (wpAny_getItem_list_neg (Q:=fun r s'=>r=w/\EP X pins σ Q r s') pl.isList (by lia) (by rw [Za] <;> lia) (by lia) (by rw [hj];simpa using ew) ⟨rfl,fin⟩) hs
theorem zy:IxR X (BU X.K):=by
 intro value slice pins s σ H x y v u Q I rx ry h hs
 obtain ⟨p,xs,i,z,rfl,rfl,hq,he,q⟩:=h
 cases rx
 obtain ⟨t,rfl⟩:=ry
 obtain ⟨its,r,pl,hz⟩:=I.tuple hq
 obtain ⟨j,h1,h2,h3,h4,h5⟩:=mN he
 obtain ⟨w,ew,rw'⟩:=r.get h2
 have hl:=r.length
 have hn:=jm
 have fin:EP X pins σ Q w s:=⟨z,H,I,rw',q⟩
 exact subscriptTail_builtinR (x:=w) pl.typeIs slot_tuple_getitem.lookup
  (getItem_tuple (j:=j) (Q:=fun r s'=>r=w/\EP X pins σ Q r s') pl (by lia) (by lia) (by rw [Za,← hl];exact h1) (by simpa using ew) ⟨rfl,fin⟩) hs
theorem zd:IxR X Bx:=by
 intro value slice pins s σ H x y v u Q I rx ry h hs
 obtain ⟨z,i,c,rfl,rfl,hz,he,q⟩:=h
 obtain ⟨t,rfl⟩:=rx
 obtain ⟨t',rfl⟩:=ry
 obtain ⟨j,h1,h2,h3,h4,h5⟩:=mN he
 have hl:z.cps.toList.length=z.length:=by simp [Str.length]
 rw [hl] at h1 h4 h5
 have hn:=jm
 exact tail_any (typeIs_str s z t) slot_str_getitem.lookup (getItem_str (c:=c) (by
  have e1:decide (i < -(2 ^ 63:Int))=false:=decide_eq_false (by lia)
  have e2:decide (i ≥ 2 ^ 63)=false:=decide_eq_false (by lia)
  rw [e1,e2,Bool.or_false]) (by rw [h1];simpa using h2) ⟨.str ⟨#[c]⟩,H,I.tok _,⟨_,rfl⟩,q⟩) hs
noncomputable def rIx (K:X0):R2:=fun x y H Q=>BR K x y H Q\/BU K x y H Q\/Bx x y H Q
theorem mL:IxR X (rIx X.K):=vK.or (zy.or zd)
theorem pD (its:X5) (n j:Nat) (u:Value):Obj.mapSeq (·.setIfInBounds j u) { cls:=.type "list",data:=.seq its.toArray n }={ cls:=.type "list",data:=.seq (its.set j u).toArray n }:=by
 simp [Obj.mapSeq]
theorem Inv.lst {pins:Xw} {σ:St} {H:Hp} {s:Shared} {p:Addr} {xs:List V} (I:Inv X pins σ H s) (h:H p=some (.lst xs)) :
  ∃ (its:X5) (n:Nat),aR xs its/\s.heap.get? p=some { cls:=.type "list",data:=.seq its.toArray n }/\xs.length<=sizeLine:=by
 obtain ⟨z,its,n,r,e⟩:=I.hok p _ h
 exact ⟨its,n,r,e,z⟩
theorem Inv.lstUpd {pins:Xw} {σ:St} {H:Hp} {s:Shared} {p:Addr} {xs ys:List V} {its its':X5} {n n':Nat} {f:Obj->Obj} (I:Inv X pins σ H s) (h:H p=some (.lst xs))
  (ho:s.heap.get? p=some { cls:=.type "list",data:=.seq its.toArray n }) (hf:f { cls:=.type "list",data:=.seq its.toArray n }={ cls:=.type "list",data:=.seq its'.toArray n' }) (r:aR ys its') (hz:ys.length<=sizeLine) (t:Nat) :
  Inv X pins σ (upd H p (.lst ys)) { s with heap:=s.heap.update p f,toks:=t }:=by
 have e:(s.heap.update p f).get? p=some { cls:=.type "list",data:=.seq its'.toArray n' }:=by
  rw [Heap.get?_update_self f ho (by rw [hf] <;> rfl),hf]
 refine I.write (x:=p) (e:=p) (by rw [h];trivial) (.inl rfl) (fun b u hb q=>(Xb _ _ (Ya hb)).trans q) ⟨_,e⟩ ?_
 exact ⟨hz,its',n',r,e⟩
noncomputable def yi:V->V->V->Hp->(Hp->Prop)->Prop:=fun o i v H Q=>∃ p xs k j,o=.ref p/\i=.int k/\H p=some (.lst xs)/\ixN xs.length k=some j/\Q (upd H p (.lst (xs.set j v)))
theorem set_list:yQ X yi:=by
 intro pins s σ H o i v ov iv u Q I ro ri rv h
 obtain ⟨p,xs,k,j,rfl,rfl,hp,hj,q⟩:=h
 cases ro
 obtain ⟨t,rfl⟩:=ri
 obtain ⟨its,n,r,ho,hz⟩:=I.lst hp
 obtain ⟨h1,h2,h3,h4⟩:=p6 hj
 have hl:=r.length
 have hn:=jm
 have I':Inv X pins σ (upd H p (.lst (xs.set j v))) { s with heap:=s.heap.update p (Obj.mapSeq (·.setIfInBounds j u)) } :=
  I.lstUpd hp ho (pD its n j u) (r.set rv j) (by rw [Z3];exact hz) s.toks
 by_cases h0:0<=k
 ·have hk:k.toNat=j:=by
   rw [seqIndex_of h0 h4] at h1
   exact Zo h1
  exact PySem.W.ki_setAt ho h0 (by lia) (by rw [Za,← hl];exact h4) (by rw [hk];exact ⟨_,I',q⟩)
 ·have hk:(k+(its.toArray.size:Int)).toNat=j:=by
   rw [seqIndex_neg (by lia) h3] at h1
   rw [Za,← hl]
   exact Zo h1
  exact PySem.W.ki_setBack ho (by lia) (by rw [Za,← hl];exact h3) (by lia) (by rw [hk];exact ⟨_,I',q⟩)
theorem m9 (lo hi:Option Int) (n:Nat):(sliceBounds lo hi none n).1=((HT.sIx n 0 lo:Nat):Int)/\(sliceBounds lo hi none n).2.1=((HT.sIx n n hi:Nat):Int)/\(sliceBounds lo hi none n).2.2=1:=by
 refine ⟨?_,?_,rfl⟩
 ·cases lo with
  | none=>simp [sliceBounds,HT.sIx]
  | some i =>
   simp only [sliceBounds,HT.sIx,XI,show (1:Int) > 0 by decide,if_true]
   by_cases h:i < 0
   ·simp only [h,if_true] <;> lia
   ·simp only [h,if_false] <;> lia
 ·cases hi with
  | none=>simp [sliceBounds,HT.sIx]
  | some i =>
   simp only [sliceBounds,HT.sIx,XI,show (1:Int) > 0 by decide,if_true]
   by_cases h:i < 0
   ·simp only [h,if_true] <;> lia
   ·simp only [h,if_false] <;> lia
theorem lD (its:X5) (lo hi:Option Int):slicePick its.toArray lo hi none=((its.drop (HT.sIx its.length 0 lo)).take (HT.sIx its.length its.length hi - HT.sIx its.length 0 lo)).toArray:=by
 obtain ⟨h1,h2,h3⟩:=m9 lo hi its.toArray.size
 unfold slicePick
 rw [h1,h2,h3]
 simp only [sliceRange_one,pick_run,Za] <;> rfl
noncomputable def B0 (K:X0):V->Option Int->Option Int->Hp->VK->Prop:=fun x lo hi H Q=>∃ a xs,x=.ref a/\SqL K H a xs/\∀ p,H p=none->Q (.ref p) (upd H p (.lst (rO xs lo hi)))
theorem xE:SlR X (B0 X.K):=by
 intro pins s σ H x v vl vu lo hi sl Q I rx hs pl pu h
 obtain ⟨a,xs,rfl,hx,q⟩:=h
 cases rx
 obtain ⟨its,r,ht,hz⟩:=I.list hx
 have hlen:=r.length
 refine ⟨"list",_,slot_list_getitem.lookup,ht.isList.typeIs,?_⟩
 refine wpAny_getItem_list_slice ht.isList hs pl pu .none (by simp) ?_ (by rw [Za] <;> lia)
 rw [lD,← hlen]
 refine ⟨.ref s.heap.objs.size,_,I.laid (t':=s.toks) (o:=.lst (rO xs lo hi)) (fun b ob q=>Zl _ q) (Zk _) ?_,rfl,q _ (I.hok.fresh (Zk _))⟩
 exact ⟨ZI (nY xs lo hi) hz,_,0,(r.drop (HT.sIx xs.length 0 lo)).take (HT.sIx xs.length xs.length hi - HT.sIx xs.length 0 lo),ZS _ rfl⟩
noncomputable def eU:V->Bool
 | .non=>true
 | .bl _=>true
 | .int _=>true
 | .str _=>true
 | _=>false
noncomputable def eqV:V->V->Bool
 | .non,.non=>true
 | .bl a,.bl b=>a == b
 | .bl a,.int b=>(if a then 1 else 0) == b
 | .int a,.bl b=>a == (if b then 1 else 0)
 | .int a,.int b=>a == b
 | .str a,.str b=>a == b
 | _,_=>false
theorem Ae {A:Around} {s:Shared} {y x:V} {u v:Value} (ry:RelV y u) (rx:RelV x v) (fy:eU y=true) (fx:eU x=true):SeqAt.EqAt A s u v (eqV y x):=by
 cases y with
 | non =>
  cases ry
  cases x with
  | non=>cases rx;exact SeqAt.EqAt.same _
  | bl b=>cases rx;exact SeqAt.EqAt.none_bool b
  | int b=>obtain ⟨t,rfl⟩:=rx;exact SeqAt.EqAt.none_int b t
  | str b=>obtain ⟨t,rfl⟩:=rx;exact SeqAt.EqAt.none_str b t
  | _=>exact absurd (show false=true from fx) Zh
 | bl a =>
  cases ry
  cases x with
  | non=>cases rx;exact SeqAt.EqAt.bool_none a
  | bl b=>cases rx;exact SeqAt.EqAt.bool_bool a b
  | int b=>obtain ⟨t,rfl⟩:=rx;exact SeqAt.EqAt.bool_int a b t
  | str b=>obtain ⟨t,rfl⟩:=rx;exact SeqAt.EqAt.bool_str a b t
  | _=>exact absurd (show false=true from fx) Zh
 | int a =>
  obtain ⟨t',rfl⟩:=ry
  cases x with
  | non=>cases rx;exact SeqAt.EqAt.int_none a t'
  | bl b=>cases rx;exact SeqAt.EqAt.int_bool a t' b
  | int b=>obtain ⟨t,rfl⟩:=rx;exact SeqAt.EqAt.int_int a t' b t
  | str b=>obtain ⟨t,rfl⟩:=rx;exact SeqAt.EqAt.int_str a t' b t
  | _=>exact absurd (show false=true from fx) Zh
 | str a =>
  obtain ⟨t',rfl⟩:=ry
  cases x with
  | non=>cases rx;exact SeqAt.EqAt.str_none a t'
  | bl b=>cases rx;exact SeqAt.EqAt.str_bool a t' b
  | int b=>obtain ⟨t,rfl⟩:=rx;exact SeqAt.EqAt.str_int a t' b t
  | str b=>obtain ⟨t,rfl⟩:=rx;exact SeqAt.EqAt.str_str a t' b t
  | _=>exact absurd (show false=true from fx) Zh
 | _=>exact absurd (show false=true from fy) Zh
noncomputable def eqU (x:V) (u:Value):Bool:=match u with
 | .none=>eqV .non x
 | .bool b=>eqV (.bl b) x
 | .int i _=>eqV (.int i) x
 | .str z _=>eqV (.str z) x
 | _=>false
theorem uQ {x y:V} {u:Value} (r:RelV y u) (f:eU y=true):eqU x u=eqV y x:=by
 cases y with
 | non=>cases r;rfl
 | bl b=>cases r;rfl
 | int i=>obtain ⟨t,rfl⟩:=r;rfl
 | str z=>obtain ⟨t,rfl⟩:=r;rfl
 | _=>exact absurd (show false=true from f) Zh
theorem iR {x:V}:∀ {xs:List V} {us:X5},aR xs us->xs.all eU=true->us.any (eqU x)=xs.any fun y=>eqV y x
 | _,_,.nil,_=>rfl
 | y :: xs,u :: us,.cons r t,f=>by
  rw [Xr,Zc] at f
  rw [Yj,Yj,uQ r f.1,iR t f.2]
theorem gH {A:Around} {s:Shared} {x:V} {v:Value} (rx:RelV x v) (fx:eU x=true):∀ {xs:List V} {us:X5},aR xs us->xs.all eU=true->∀ u∈us,SeqAt.EqAt A s u v (eqU x u)
 | _,_,.nil,_=>fun u hu=>by cases hu
 | y :: xs,u :: us,.cons r t,f=>fun u' hu=>by
  rw [Xr,Zc] at f
  rcases Zi.mp hu with rfl | hu
  ·rw [uQ r f.1];exact Ae r rx f.1 fx
  ·exact gH rx fx t f.2 u' hu
noncomputable def inV (x:V) (xs:List V):Bool:=xs.any fun y=>eqV y x
noncomputable def rIn (K:X0) (neg:Bool):R2:=fun x y H Q=>∃ p xs,y=.ref p/\(SqL K H p xs\/SqT K H p xs)/\eU x=true/\xs.all eU=true/\Q (.bl (if neg then !inV x xs else inV x xs)) H
theorem qJ:OpR X (compareOp .In) (rIn X.K false):=by
 intro pins s σ H x y v u Q I rx ry h
 obtain ⟨p,xs,rfl,hq,fx,fs,q⟩:=h
 cases ry
 rcases hq with hq | hq
 ·obtain ⟨its,r,pl,hz⟩:=I.list hq
  refine SeqAt.in_listAt (eqU x) pl.isList (fun w hw=>gH rx fx r fs w (by simpa using hw)) ⟨.bl _,H,I,rfl,?_⟩
  rw [show its.toArray.any (eqU x)=its.any (eqU x) by simp,iR r fs]
  exact q
 ·obtain ⟨its,r,pl,hz⟩:=I.tuple hq
  refine SeqAt.in_tupleAt (eqU x) pl (fun w hw=>gH rx fx r fs w (by simpa using hw)) ⟨.bl _,H,I,rfl,?_⟩
  rw [show its.toArray.any (eqU x)=its.any (eqU x) by simp,iR r fs]
  exact q
theorem mE:OpR X (compareOp .NotIn) (rIn X.K true):=by
 intro pins s σ H x y v u Q I rx ry h
 obtain ⟨p,xs,rfl,hq,fx,fs,q⟩:=h
 cases ry
 rcases hq with hq | hq
 ·obtain ⟨its,r,pl,hz⟩:=I.list hq
  refine SeqAt.notIn_listAt (eqU x) pl.isList (fun w hw=>gH rx fx r fs w (by simpa using hw)) ⟨.bl _,H,I,rfl,?_⟩
  rw [show its.toArray.any (eqU x)=its.any (eqU x) by simp,iR r fs]
  exact q
 ·obtain ⟨its,r,pl,hz⟩:=I.tuple hq
  refine SeqAt.notIn_tupleAt (eqU x) pl (fun w hw=>gH rx fx r fs w (by simpa using hw)) ⟨.bl _,H,I,rfl,?_⟩
  rw [show its.toArray.any (eqU x)=its.any (eqU x) by simp,iR r fs]
  exact q
theorem dC.or {f:Value} {r r':List V->Hp->VK->Prop} (h:dC X f r) (h':dC X f r'):dC X f (fun xs H Q=>r xs H Q\/r' xs H Q):=by
 intro pins s σ H xs us Q I rs q
 rcases q with q | q
 ·exact h pins s σ H xs us Q I rs q
 ·exact h' pins s σ H xs us Q I rs q
theorem mw:dC X (.type "list") (fun xs H Q=>∃ p ys,xs=[.ref p]/\(SqL X.K H p ys\/SqT X.K H p ys)/\∀ l,H l=none->Q (.ref l) (upd H l (.lst ys))):=by
 intro pins s σ H xs us Q I r h
 obtain ⟨p,ys,rfl,hq,q⟩:=h
 obtain ⟨u,rfl,rx⟩:=vals1 r
 cases rx
 have fin:∀ (its:X5),aR ys its->ys.length<=sizeLine->∀ (h':Heap) (c':Nat),(∀ b o',s.heap.get? b=some o'->h'.get? b=some o') →
   h'.get? s.heap.objs.size=some { cls:=.type "list",dict:=none,data:=.seq its.toArray c',slots:=#[] }->EP X pins σ Q (.ref s.heap.objs.size) { s with heap:=h' }:=fun its r' hz h' c' kp e =>
  ⟨.ref s.heap.objs.size,_,I.laid (t':=s.toks) kp (Zk _) (show b9 X.prog X.w _ h' _ (.lst ys) from ⟨hz,its,c',r',e⟩),rfl,q _ (I.hok.fresh (Zk _))⟩
 rcases hq with hq | hq
 ·obtain ⟨its,r',pl,hz⟩:=I.list hq
  have hlen:=r'.length
  obtain ⟨o,ho,hc,n,hd⟩:=pl.isList
  exact call_list_seq p (.inl rfl) ho hc hd (fun h' c' kp e=>fin its r' hz h' c' kp e) (by simp only [Za] <;> lia)
 ·obtain ⟨its,r',pl,hz⟩:=I.tuple hq
  have hlen:=r'.length
  obtain ⟨o,ho,hc,n,hd⟩:=pl
  exact call_list_seq p (.inr rfl) ho hc hd (fun h' c' kp e=>fin its r' hz h' c' kp e) (by simp only [Za] <;> lia)
theorem lh:dC X (.type "tuple") (fun xs H Q=>∃ p ys,xs=[.ref p]/\((SqL X.K H p ys/\∀ l,H l=none->Q (.ref l) (upd H l (.tup ys)))\/(SqT X.K H p ys/\Q (.ref p) H))):=by
 intro pins s σ H xs us Q I r h
 obtain ⟨p,ys,rfl,h⟩:=h
 obtain ⟨u,rfl,rx⟩:=vals1 r
 cases rx
 rcases h with ⟨hq,q⟩ | ⟨hq,q⟩
 ·obtain ⟨its,r',pl,hz⟩:=I.list hq
  have hlen:=r'.length
  refine call_tuple_list pl.isList (fun h' kp=>?_) (by simp only [Za] <;> lia)
  have I1:Inv X pins σ H { s with heap:=h' }:=I.kept (t':=s.toks) kp
  have I2:Inv X pins σ (upd H h'.objs.size (.tup ys)) { s with heap:=h'.push { cls:=.type "tuple",data:=.seq its.toArray } } :=
   I1.laid (t':=s.toks) (fun b o e=>Zl _ e) (Zk _) (show b9 X.prog X.w _ _ _ (.tup ys) from ⟨hz,its,r',NoD.new _ _,IsTup.new _ _⟩)
  exact ⟨.ref h'.objs.size,_,I2,rfl,q _ (I1.hok.fresh (Zk _))⟩
 ·obtain ⟨its,r',pl,hz⟩:=I.tuple hq
  exact call_tuple_same pl ⟨.ref p,H,I,rfl,q⟩
noncomputable def tyV (K:X0) (T:String) (x:V) (H:Hp):Prop:=match x with
 | .str _=>T = "str"
 | .int _=>T = "int"
 | .ref p=>(T = "list" ∧ ∃ xs,SqL K H p xs)\/(T = "tuple" ∧ ∃ o,K.lookup p=some o/\o.cls=.type "tuple" ∧ o.dict=none) ∨
   (T = "dict" ∧ ((∃ kvs,H p=some (.dK kvs))\/∃ kvs,H p=some (.dT kvs)))\/(T = "set" ∧ ∃ S n,H p=some (.set S n))
 | _=>False
theorem Ap {pins:Xw} {σ:St} {H:Hp} {s:Shared} {T:String} {x:V} {v:Value} (I:Inv X pins σ H s) (r:RelV x v) (ty:tyV X.K T x H) :
  s.TypeIs v T/\∀ a,v=.ref a->∃ ob,s.heap.get? a=some ob/\ob.dict=none:=by
 cases x with
 | str z =>
  obtain ⟨t,rfl⟩:=r
  cases (show T = "str" from ty)
  exact ⟨typeIs_str s z t,fun _ e=>nomatch e⟩
 | int i =>
  obtain ⟨t,rfl⟩:=r
  cases (show T = "int" from ty)
  exact ⟨typeIs_int s i t,fun _ e=>nomatch e⟩
 | ref p =>
  cases r
  rcases ty with ⟨rfl,xs,hq⟩ | ⟨rfl,o,hk,hc,hd⟩ | ⟨rfl,hk⟩ | ⟨rfl,S,n,hk⟩
  ·obtain ⟨its,_,pl,_⟩:=I.list hq
   refine ⟨pl.isList.typeIs,fun a e=>?_⟩
   cases e
   obtain ⟨o,n,e,c,hd,_⟩:=pl
   exact ⟨o,e,hd⟩
  ·refine ⟨⟨o,I.kIn p o hk,hc⟩,fun a e=>?_⟩
   cases e
   exact ⟨o,I.kIn _ o hk,hd⟩
  ·have z:∃ o,s.heap.get? p=some o/\o.ExactDict:=by
    rcases hk with ⟨kvs,hk⟩ | ⟨kvs,hk⟩
    ·obtain ⟨_,_,_,_,o,_,_,e,ex,_⟩:=I.hok p _ hk
     exact ⟨o,e,ex⟩
    ·obtain ⟨_,_,_,_,o,_,_,e,ex,_⟩:=I.hok p _ hk
     exact ⟨o,e,ex⟩
   obtain ⟨o,e,ex⟩:=z
   refine ⟨⟨o,e,ex.1⟩,fun a e2=>?_⟩
   cases e2
   exact ⟨o,e,ex.2.1⟩
  ·obtain ⟨o,_,_,_,e,ex,_⟩:=I.hok p _ hk
   refine ⟨⟨o,e,ex.1⟩,fun a e2=>?_⟩
   cases e2
   exact ⟨o,e,ex.2.1⟩
 | _=>exact False.elim ty
noncomputable def tBM (K:X0) (T:String) (r:V->List V->Hp->VK->Prop) (to:TE) (t:TA):TE:=fun σ H Q=>to σ H fun x H1=>tyV K T x H1/\t σ H1 fun xs H2=>r x xs H2 Q
variable {o e:Expr} {es:List Expr} {to:TE} {t:TA} {name:Str} {apos cpos:Pos} {T id:String} {r:V->List V->Hp->VK->Prop}
theorem qq (pa:PlainAttrs T) (slot:Slot T name id) (hty:typeOf (.builtin id)=pure (.type "method_descriptor")) (hm:MtR X id r) (ho:PE X o to) (ha:PA X (e :: es) t)
  (hbase:attributeBase o name X.env (eval o X.env)=eval o X.env:=by rfl)
  (hfew:((backTo cpos (starEach (e :: es) X.env)).all (fun x=>!x.1) && (backToKw cpos (keywordEach [] X.env)).all (fun x=>x.1.isSome)
   && decide ((e :: es).length+([]:List Keyword).length+(if ([]:List Keyword).isEmpty then 0 else 1) < 30))=true:=by rfl)
  (hline:(apos.endLine == cpos.line)=true:=by rfl) (hs:starEach (e :: es) X.env=(false,eval e X.env) :: starEach es X.env:=by rfl) (hplain:(backTo cpos (starEach es X.env)).any (·.1)=false:=by rfl) :
  PE X (.Call (.Attribute o name apos) (e :: es) [] cpos) (tBM X.K T r to t):=by
 intro pins s σ H Q I h
 refine wpAny_Call_method_late hbase hfew hline rfl (thn (ho pins s σ H _ I h) fun v s1 ⟨x,H1,I1,r1,ty,q1⟩=>?_)
 obtain ⟨h1,h2⟩:=Ap I1 r1 ty
 refine ⟨T,id,pa,slot,hty,h1,h2,?_⟩
 have hA:=ha cpos pins s1 σ H1 _ I1 q1
 rw [hs] at hA ⊢
 refine Calls.callWith_builtin (by show (false || (backTo cpos (starEach es X.env)).any (·.1))=false;rw [hplain] <;> rfl) (Calls.evalArgs_plain ?_)
 exact thn hA fun us s2 ⟨vs,H2,I2,r2,q2⟩=>hm pins s2 σ H2 x vs v us Q I2 r1 r2 q2
end
noncomputable def MtM (X:Cx) (id:String) (r:V->List V->Hp->VK->Prop):Prop :=
 ∀ (pins:Xw) (s:Shared) (σ:St) (H:Hp) (x:V) (xs:List V) (v:Value) (us:X5) (Q:VK),Inv X pins σ H s->RelV x v->aR xs us->r x xs H Q →
  wpAny (model X.prog X.w) X.A (call (.builtin id) (v :: us)) (EP X pins σ Q) X.xe s
theorem aR.nil_inv {us:X5} (h:aR [] us):us=[]:=by
 cases h
 rfl
theorem aR.cons_inv {x:V} {xs:List V} {us:X5} (h:aR (x :: xs) us):∃ u vs,us=u :: vs/\RelV x u/\aR xs vs:=by
 cases h with
 | cons r t=>exact ⟨_,_,rfl,r,t⟩
theorem aR.one {x:V} {us:X5} (h:aR [x] us):∃ u,us=[u]/\RelV x u:=by
 obtain ⟨u,vs,rfl,r,t⟩:=h.cons_inv
 rw [t.nil_inv]
 exact ⟨_,rfl,r⟩
theorem aR.two {x y:V} {us:X5} (h:aR [x,y] us):∃ u v,us=[u,v]/\RelV x u/\RelV y v:=by
 obtain ⟨u,vs,rfl,r,t⟩:=h.cons_inv
 obtain ⟨v,rfl,q⟩:=t.one
 exact ⟨_,_,rfl,r,q⟩
section
variable {X:Cx} {pins:Xw} {σ:St} {H:Hp} {s:Shared} {l b:Addr} {xs ys zs:List V}
theorem Inv.lset {its its':X5} {n:Nat} {f:Array Value->Array Value} {t':Nat} (I:Inv X pins σ H s) (hH:H l=some (.lst xs))
  (e:s.heap.get? l=some { cls:=.type "list",data:=.seq its.toArray n }) (hf:f its.toArray=its'.toArray) (hv:aR ys its') (hz:ys.length<=sizeLine) :
  Inv X pins σ (upd H l (.lst ys)) { s with heap:=s.heap.update l (Obj.mapSeq f),toks:=t' }:=by
 have q:=PySem.IsL.update e f
 rw [hf] at q
 refine I.write (x:=l) (e:=l) (by rw [hH];exact trivial) (.inl rfl) (fun b' u hb hu=>(Xb s.heap (Obj.mapSeq f) (Ya hb)).trans hu) ⟨_,q⟩ ?_
 exact ⟨hz,its',_,hv,q⟩
theorem Inv.lnew {its:X5} {t':Nat} (I:Inv X pins σ H s) (hv:aR ys its) (hz:ys.length<=sizeLine) :
  Inv X pins σ (upd H s.heap.objs.size (.lst ys)) { s with heap:=s.heap.push { cls:=.type "list",data:=.seq its.toArray },toks:=t' } :=
 I.laid (fun _ _ q=>Zl _ q) (Zk _) ⟨hz,its,0,hv,ZS _ rfl⟩
theorem Inv.fresh (I:Inv X pins σ H s):H s.heap.objs.size=none:=I.hok.fresh (Zk _)
theorem Inv.lstM (I:Inv X pins σ H s) (hH:H l=some (.lst xs)):xs.length<=sizeLine/\∃ (its:X5) (n:Nat),aR xs its/\xs.length=its.length/\s.heap.get? l=some { cls:=.type "list",data:=.seq its.toArray n }:=by
 obtain ⟨z,its,n,r,e⟩:=I.hok l _ hH
 exact ⟨z,its,n,r,r.length,e⟩
theorem oj {n:Nat} (h:n<=sizeLine):Builtin.List.listTooLong n=false:=by
 unfold Builtin.List.listTooLong
 exact decide_eq_false (by exact Nat.not_lt_of_le h)
end
section
variable {X:Cx}
noncomputable def qb:V->List V->Hp->VK->Prop:=fun x vs H Q=>∃ l xs y,x=.ref l/\vs=[y]/\H l=some (.lst xs)/\xs.length < sizeLine/\Q .non (upd H l (.lst (xs++[y])))
theorem hJ:MtM X "list.append" qb:=by
 intro pins s σ H x vs v us Q I rx rv h
 obtain ⟨l,xs,y,rfl,rfl,hH,hz,q⟩:=h
 cases rx
 obtain ⟨u,rfl,ru⟩:=rv.one
 obtain ⟨z,its,n,r,hl,e⟩:=I.lstM hH
 refine call_meets F.slot_list_append ⟨_,e,rfl⟩ F.entry_list_append (F.args_list_append_2 _ _) (PySem.list_append l its.toArray n u (by rw [Za];lia)) ⟨e,?_⟩
 refine ⟨.non,_,I.lset (its':=its++[u]) hH e (by simp) (r.append (.cons ru .nil)) ?_,rfl,q⟩
 rw [Zt,ZO]
 exact Nat.succ_le_of_lt hz
noncomputable def Bq:R2:=fun x y H Q=>∃ l b xs zs,x=.ref l/\y=.ref b/\H l=some (.lst xs)/\H b=some (.lst zs)/\xs.length+zs.length<=sizeLine/\∀ p,H p=none->Q (.ref p) (upd H p (.lst (xs++zs)))
theorem AE:OpR X (binaryOp .Add) Bq:=by
 intro pins s σ H x y v u Q I rx ry h
 obtain ⟨l,b,xs,zs,rfl,rfl,hH,hB,hz,q⟩:=h
 cases rx
 cases ry
 obtain ⟨z,its,n,r,hl,e⟩:=I.lstM hH
 obtain ⟨z2,its2,n2,r2,hl2,e2⟩:=I.lstM hB
 refine PySem.P.add_list e e2 ?_ (by rw [Za,Za];lia)
 have ea:its.toArray++its2.toArray=(its++its2).toArray:=by simp
 rw [ea]
 exact ⟨.ref _,_,I.lnew (t':=s.toks) (r.append r2) (by rw [Zt];omega),rfl,q _ I.fresh⟩
end
section
variable {prog:Program} {w:World} {A:Around} {E:Yt} {s:Shared}
theorem o7 {a c n:Nat} (hac:a<=c) (hc:c<=n):sliceBounds (some (a:Int)) (some (c:Int)) none n=((a:Int),(c:Int),1):=by
 simp only [sliceBounds,XI]
 have h1:¬ ((a:Int) < 0):=by lia
 have h2:¬ ((c:Int) < 0):=by lia
 simp only [h1,h2,if_false,show (1:Int) > 0 by decide,if_true]
 congr 1
 ·lia
 ·congr 1;lia
set_option maxRecDepth 100000 in
theorem vo {l b sl:Addr} {items new:Array Value} {n n2:Nat} {vl vu:Value} {a c:Nat} {Q:Unit->Shared->Prop}
  (e:s.heap.get? l=some { cls:=.type "list",data:=.seq items n }) (e2:s.heap.get? b=some { cls:=.type "list",data:=.seq new n2 }) (hne:l ≠ b)
  (hs:s.heap.IsSliceOf sl vl vu .none) (pl:IsPart vl (some (a:Int))) (pu:IsPart vu (some (c:Int))) (hac:a<=c) (hc:c<=items.size)
  (hsz:items.size+new.size<=sizeLine) (h:Q () { s with heap:=s.heap.update l (Obj.mapSeq fun xs=>xs.extract 0 a++new++xs.extract c xs.size) }) :
  wpAny (model prog w) A (setItem (.ref l) (.ref sl) (.ref b)) Q E s:=by
 have hl:s.heap.IsList l items:=PySem.IsL.isList e
 have hb:s.heap.IsList b new:=PySem.IsL.isList e2
 obtain ⟨os,hos,hcs,hds⟩:=id hs
 have hTs:s.TypeIs (.ref sl) "slice" := ⟨os,hos,hcs⟩
 have hstep:¬ ((rawPart none == rawInt 0)=true):=Zh
 have hsame:Builtin.List.listSameRef (.ref l) (.ref b)=false:=by
  unfold Builtin.List.listSameRef
  exact beq_eq_false_iff_ne.mpr hne
 have hmax:(max (a:Int) (c:Int)).toNat=c:=by lia
 have hz':((fun xs:Array Value=>xs.extract 0 a++new++xs.extract c xs.size) items).size<=sizeLine+1:=by
  simp only [Array.size_append,Array.size_extract]
  lia
 unfold setItem
 try with_reducible refine Xz ?_
 first | refine Zr (Zb ?_) | skip
 refine Zr (wpAny_sequenceKey hl.typeIs (by decide) ?_)
 refine Zr (wpAny_callSpecial?_slot (name:=Str.ofString "__setitem__") hl.typeIs slot_list_setitem
  (Y9 slot_list_setitem hl.typeIs entry_list_setitem ?_ (args_list_setitem _ _ _)))
 show wpAny _ _ (Builtin.List.listSubscript? (.ref sl) >>= _) _ _ s
 refine Zr ?_
 unfold Builtin.List.listSubscript?
 refine Zr (wpAny_specialOf hTs slice_no_index ?_)
 simp only [Option.isNone_none,if_true]
 refine Zb ?_
 show wpAny _ _ (typeOf (.ref sl) >>= _) _ _ s
 refine Zr (wpAny_typeOf hTs ?_)
 first
  | rw [Zn (by decide)]
  | refine XY (by decide) ?_
 rw [listSliceParts_eq]
 refine Zr (Zr (wpAny_field hos hds (x:=.none) rfl (Zr (wpAny_listPart .none ?_))))
 rw [Zn hstep]
 refine Zr (wpAny_field hos hds (x:=vl) rfl (Zr (wpAny_listPart pl ?_)))
 refine Zr (wpAny_field hos hds (x:=vu) rfl (Zr (wpAny_listPart pu (Zb ?_))))
 first
  | simp only [hsame,YE,if_false]
  | refine XY hsame ?_
  | (dsimp only
     rw [Zn (by rw [hsame];exact Zh)])
 refine Zr (m:=Builtin.List.listAllItems (.ref b) "must assign iterable to extended slice") ?_
 unfold Builtin.List.listAllItems
 refine Zr (wpAny_typeOf hb.typeIs ?_)
 first
  | refine PySem.W.KFB.if_so (by decide) ?_
  | rw [Zq (by decide)]
  | simp only [beq_self_eq_true,Bool.true_or,if_true]
 unfold Builtin.List.listItems
 refine Zr (wpAny_seqItems e2 rfl (Zb ?_))
 refine Zr (Zr (wpAny_seqItems e rfl (Zb ?_)))
 refine Zr (wpAny_of_eq ((sliceIndices_raw (some (a:Int)) (some (c:Int)) none items.size (by simp)).trans (congrArg (pure:Int×Int×Int->Sem (Int×Int×Int)) (o7 hac hc))) ?_)
 show wpAny _ _ (if ((1:Int) == 1)=true then _ else _) _ _ s
 rw [Zq (by decide)]
 refine Zr (wpAny_rule ?_)
 first
  | simp only [oj hsz,YE,if_false]
  | refine XY (oj hsz) ?_
 first | refine Zr (Zb ?_) | skip
 show wpAny _ _ (updateSeq l (fun xs=>xs.extract 0 ((a:Int)).toNat++new++xs.extract (max (a:Int) (c:Int)).toNat xs.size) >>= _) _ _ s
 rw [hmax,Int.toNat_natCast]
 refine Zr (wpAny_updateSeq (hz:=ZI (YI _ _) hsz) (_hz':=hz') e rfl ?_)
 refine Zr (wpAny_letGo ?_)
 first
  | exact Zr (Zb (Zb ⟨.none,rfl,Zb h⟩))
  | exact Zb ⟨.none,rfl,Zb h⟩
end
section
variable {κ:Type} [DecidableEq κ]
noncomputable def fA (kvs:List (κ×V)) (k:κ):Option V:=(kvs.find? fun kv=>decide (kv.1=k)).map (·.2)
noncomputable def putK (kvs:List (κ×V)) (k:κ) (v:V):List (κ×V) :=
 if (kvs.any fun kv=>decide (kv.1=k))=true then kvs.map (fun kv=>if kv.1=k then (kv.1,v) else kv) else kvs++[(k,v)]
theorem gw {p:κ×V} {r:List (κ×V)} {k:κ} (e:p.1=k):fA (p :: r) k=some p.2:=by simp [fA,Z4,e]
theorem j5 {p:κ×V} {r:List (κ×V)} {k:κ} (e:¬ p.1=k):fA (p :: r) k=fA r k:=by simp [fA,Z4,e]
theorem nM (k:κ):∀ kvs:List (κ×V),(kvs.any fun kv=>decide (kv.1=k))=(fA kvs k).isSome
 | []=>rfl
 | p :: r=>by
  rw [Yj]
  by_cases e:p.1=k
  ·simp only [gw e,decide_eq_true e,Bool.true_or,Option.isSome_some]
  ·rw [j5 e,decide_eq_false e,Bool.false_or];exact nM k r
theorem gy (kvs:List (κ×V)) (k:κ) (v:V):(putK kvs k v).length<=kvs.length+1:=by
 unfold putK
 split
 ·rw [Zy];exact YI _ _
 ·rw [Zt,ZZ,List.length_nil];exact Zk _
theorem gq.isSome_eq {o:Option V} {u:X6} (r:gq o u):o.isSome=u.isSome:=by
 cases o with
 | none=>cases u with
  | none=>rfl
  | some _=>exact (show False from r).elim
 | some _=>cases u with
  | none=>exact (show False from r).elim
  | some _=>rfl
theorem gq.getD {o:Option V} {u:X6} {d:V} {d':Value} (r:gq o u) (rd:RelV d d'):RelV (o.getD d) (u.getD d'):=by
 cases o with
 | none=>cases u with
  | none=>exact rd
  | some _=>exact (show False from r).elim
 | some _=>cases u with
  | none=>exact (show False from r).elim
  | some _=>exact r
theorem KV.val {kvs:List (κ×V)} {vs:List (κ×Value)} (r:KV kvs vs) (k:κ):gq (fA kvs k) (valueAt vs k):=by
 unfold KV at r
 induction r with
 | nil=>exact True.intro
 | @cons p q ps qs h t ih =>
  obtain ⟨h1,h2⟩:=h
  by_cases e:p.1=k
  ·have e':q.1=k:=h1.symm.trans e
   have b:valueAt (q :: qs) k=some q.2:=by simp [valueAt,Z4,e']
   rw [gw e,b];exact h2
  ·have e':¬ q.1=k:=fun z=>e (h1.trans z)
   have b:valueAt (q :: qs) k=valueAt qs k:=by simp [valueAt,Z4,e']
   rw [j5 e,b];exact ih
theorem KV.any {kvs:List (κ×V)} {vs:List (κ×Value)} (r:KV kvs vs) (k:κ):(kvs.any fun kv=>decide (kv.1=k))=vs.any fun kv=>decide (kv.1=k):=by
 unfold KV at r
 induction r with
 | nil=>rfl
 | cons h t ih=>rw [Yj,Yj,ih,h.1]
theorem KV.repl {kvs:List (κ×V)} {vs:List (κ×Value)} (r:KV kvs vs) (k:κ) {y:V} {u:Value} (ry:RelV y u) :
  KV (kvs.map fun kv=>if kv.1=k then (kv.1,y) else kv) (vs.map fun kv=>if kv.1=k then (kv.1,u) else kv):=by
 unfold KV at r ⊢
 induction r with
 | nil=>exact .nil
 | @cons p q ps qs h t ih =>
  rw [Zp,Zp]
  refine .cons ?_ ih
  obtain ⟨h1,h2⟩:=h
  by_cases e:p.1=k
  ·rw [Zq e,Zq (h1.symm.trans e)];exact ⟨h1,ry⟩
  ·rw [Zn e,Zn (fun z=>e (h1.trans z))];exact ⟨h1,h2⟩
theorem KV.put {kvs:List (κ×V)} {vs:List (κ×Value)} (r:KV kvs vs) (k:κ) {y:V} {u:Value} (ry:RelV y u):KV (putK kvs k y) (stored vs k u):=by
 unfold putK stored
 rw [r.any k]
 by_cases e:(vs.any fun kv=>decide (kv.1=k))=true
 ·rw [Zq e,Zq e];exact r.repl k ry
 ·rw [Zn e,Zn e];exact Paired.snoc r ⟨rfl,ry⟩
theorem KV.keys {kvs:List (κ×V)} {vs:List (κ×Value)} (r:KV kvs vs):kvs.map (·.1)=vs.map (·.1):=by
 unfold KV at r
 induction r with
 | nil=>rfl
 | cons h t ih=>rw [Zp,Zp,ih,h.1]
theorem KV.length {kvs:List (κ×V)} {vs:List (κ×Value)} (r:KV kvs vs):kvs.length=vs.length:=YB r
end
theorem kb {P:Program} {w:World} {k:Key} {u:Value} (r:RelV (kV k) u):(bG P w).is k u=true:=by
 cases k with
 | inl i=>obtain ⟨t,e⟩:=(show ∃ t,u=Value.int i t from r);subst e;exact nR P w i t
 | inr x=>obtain ⟨t,e⟩:=(show ∃ t,u=Value.str x t from r);subst e;exact nH P w x t
theorem lN {P:Program} {w:World}:∀ {ks:List Key} {us:X5},aR (ks.map kV) us->ItemsAre (bG P w) ks us
 | [],_,r=>by rw [Xn] at r;cases r;exact .nil
 | k :: ks,_,r=>by
  rw [Zp] at r
  cases r with
  | cons h t=>exact .cons (kb h) (lN t)
noncomputable abbrev KT (H:Hp):List (List Key×V)->List (List Key×Addr×Value)->Prop:=Paired fun p q=>p.1=q.1/\H q.2.1=some (.tup (p.1.map kV))/\RelV p.2 q.2.2
theorem KT.val {H:Hp} {kvs:List (List Key×V)} {xs:List (List Key×Addr×Value)} (r:KT H kvs xs) (k:List Key):gq (fA kvs k) ((atKey xs k).map (·.2)):=by
 induction r with
 | nil=>exact True.intro
 | @cons p q ps qs h t ih =>
  obtain ⟨h1,_,h2⟩:=h
  by_cases e:p.1=k
  ·have e':q.1=k:=h1.symm.trans e
   have b:atKey (q :: qs) k=some q.2:=by simp [atKey,Z4,e']
   rw [gw e,b];exact h2
  ·have e':¬ q.1=k:=fun z=>e (h1.trans z)
   have b:atKey (q :: qs) k=atKey qs k:=by simp [atKey,Z4,e']
   rw [j5 e,b];exact ih
theorem KT.repl {H:Hp} {kvs:List (List Key×V)} {xs:List (List Key×Addr×Value)} (r:KT H kvs xs) (k:List Key) {y:V} {u:Value} (ry:RelV y u) :
  KT H (kvs.map fun kv=>if kv.1=k then (kv.1,y) else kv) (xs.map (putAt k u)):=by
 induction r with
 | nil=>exact .nil
 | @cons p q ps qs h t ih =>
  rw [Zp,Zp]
  refine .cons ?_ ih
  obtain ⟨h1,h2,h3⟩:=h
  unfold putAt
  by_cases e:p.1=k
  ·rw [Zq e,Zq (h1.symm.trans e)];exact ⟨h1,h2,ry⟩
  ·rw [Zn e,Zn (fun z=>e (h1.trans z))];exact ⟨h1,h2,h3⟩
theorem KT.put {H:Hp} {kvs:List (List Key×V)} {xs:List (List Key×Addr×Value)} (r:KT H kvs xs) (k:List Key) {b:Addr} {y:V} {u:Value} (hb:H b=some (.tup (k.map kV))) (ry:RelV y u) :
  KT H (putK kvs k y) (storedH xs k b u):=by
 have e:(kvs.any fun kv=>decide (kv.1=k))=(atKey xs k).isSome:=by
  rw [nM,(r.val k).isSome_eq,Ym]
 unfold putK storedH
 rw [e]
 by_cases q:(atKey xs k).isSome=true
 ·rw [Zq q,Zq q];exact r.repl k ry
 ·rw [Zn q,Zn q];exact Paired.snoc r ⟨rfl,hb,ry⟩
theorem KT.keeps {H H':Hp} {kvs:List (List Key×V)} {xs:List (List Key×Addr×Value)} (r:KT H kvs xs) (ht:∀ b ys,H b=some (.tup ys)->H' b=some (.tup ys)):KT H' kvs xs :=
 Paired.mapP r fun _ _ z=>⟨z.1,ht _ _ z.2.1,z.2.2⟩
section
variable {P:Program} {w:World} {H:Hp} {h:Heap} {a:Addr}
theorem yj {u:HO} (ok:HOk P w H h) (e:Rd H a u):b9 P w H h a u:=e.ok ok
theorem jH {kvs:List (Key×V)} (ok:HOk P w H h) (e:Rd H a (.dK kvs)):kvs.length<=sizeLine/\(a == sysModules)=false/\∃ vs,KV kvs vs/\h.DictOf (bG P w) a vs :=
 show b9 P w H h a (.dK kvs) from yj ok e
theorem nQ {kvs:List (Key×V)} (ok:HOk P w H h) (e:H a=some (.dK kvs)):kvs.length<=sizeLine/\(a == sysModules)=false/\∃ vs,KV kvs vs/\h.DictOf (bG P w) a vs:=jH ok (.inl e)
theorem dN {ks:List Key} (ok:HOk P w H h) (e:H a=some (.tup (ks.map kV))):(tupleKind (bG P w)).is h ks a:=by
 obtain ⟨_,its,r,_,o,h1,h2,n,h3⟩:=(show b9 P w H h a (.tup (ks.map kV)) from ok a _ e)
 exact ⟨o,its.toArray,n,h1,h2,h3,by simpa using lN r⟩
theorem j4 {kvs:List (List Key×V)} (ok:HOk P w H h) (e:Rd H a (.dT kvs)):kvs.length<=sizeLine/\(a == sysModules)=false ∧
  ∃ xs,KT H kvs xs/\h.DictOfH (tupleKind (bG P w)) a xs:=by
 obtain ⟨z,y,xs,r,o,es,ep,h1,h2,h3,h4,h5⟩:=(show b9 P w H h a (.dT kvs) from yj ok e)
 refine ⟨z,y,xs,r,o,es,ep,h1,h2,h3,h4,fun x hx=>?_,h5⟩
 have all:∀ {l:List (List Key×V)} {m:List (List Key×Addr×Value)},KT H l m->∀ x∈m,(tupleKind (bG P w)).is h x.1 x.2.1:=by
  intro l m q
  induction q with
  | nil=>intro x hx;exact nomatch hx
  | @cons p q ps qs hq t ih =>
   intro x hx
   rcases Zi.mp hx with e | hx
   ·subst e
    exact dN ok (by rw [← hq.1];exact hq.2.1)
   ·exact ih x hx
 exact all r x hx
theorem Bl {kvs:List (List Key×V)} (ok:HOk P w H h) (e:H a=some (.dT kvs)):kvs.length<=sizeLine/\(a == sysModules)=false ∧
  ∃ xs,KT H kvs xs/\h.DictOfH (tupleKind (bG P w)) a xs:=j4 ok (.inl e)
end
noncomputable def fM (H:Hp) (a:Addr) (y:V) (r:Option V):Prop :=
 (∃ kvs k,Rd H a (.dK kvs)/\y=kV k/\r=fA kvs k)\/∃ kvs k b,Rd H a (.dT kvs)/\y=.ref b/\H b=some (.tup (k.map kV))/\r=fA kvs k
noncomputable def oR (H:Hp) (a:Addr) (y v:V) (H':Hp):Prop :=
 (∃ kvs k,H a=some (.dK kvs)/\y=kV k/\kvs.length < sizeLine/\H'=upd H a (.dK (putK kvs k v))) ∨
 ∃ kvs k b,H a=some (.dT kvs)/\y=.ref b/\H b=some (.tup (k.map kV))/\kvs.length < sizeLine/\H'=upd H a (.dT (putK kvs k v))
theorem fM.k {H:Hp} {a:Addr} {kvs:List (Key×V)} {k:Key} (e:H a=some (.dK kvs)):fM H a (kV k) (fA kvs k):=.inl ⟨kvs,k,.inl e,rfl,rfl⟩
theorem oR.k {H:Hp} {a:Addr} {kvs:List (Key×V)} {k:Key} {v:V} (e:H a=some (.dK kvs)) (hl:kvs.length < sizeLine):oR H a (kV k) v (upd H a (.dK (putK kvs k v))):=.inl ⟨kvs,k,e,rfl,hl,rfl⟩
section
variable {X:Cx} {pins:Xw} {σ:St} {H:Hp} {s:Shared} {a:Addr} {y v:V} {u r:Value} {o:Option V} {A:Around} {E:Yt}
theorem Inv.big (I:Inv X pins σ H s):sysModules < s.heap.objs.size:=by
 have h:mainGlobals < s.heap.objs.size:=(I.mod.glob.keeps I.bk).lt
 exact Nat.lt_trans (by decide) h
theorem qz {Q:Yt} (hu:A.units+1 < cLine) (I:Inv X pins σ H s) (g:fM H a y (some v)) (ry:RelV y u) (h:∀ w' s',Inv X pins σ H s'->RelV v w'->Q w' s') :
  wpAny (model X.prog X.w) A (getItem (.ref a) u) Q E s:=by
 rcases g with ⟨kvs,k,e,ey,l⟩ | ⟨kvs,k,b,e,ey,eb,l⟩
 ·subst ey
  obtain ⟨z,hd,vs,rel,dd⟩:=jH I.hok e
  obtain ⟨w',hw,rw'⟩:=gq.some_of (v:=v) (o:=valueAt vs k) (by rw [l];exact rel.val k)
  exact wpAny_getItem_of (kb ry) dd.mapOf hw (h w' _ (I.tok _) rw')
 ·subst ey
  cases (show u=Value.ref b from ry)
  obtain ⟨z,hd,xs,rel,dd⟩:=j4 I.hok e
  obtain ⟨w',hw,rw'⟩:=gq.some_of (v:=v) (o:=(atKey xs k).map (·.2)) (by rw [l];exact rel.val k)
  obtain ⟨p,hp,hp2⟩:=Zw.mp hw
  refine wpAny_getItem_heap (Y1 hu) (dN I.hok eb) dd hp ?_
  rw [hp2]
  exact h w' _ (I.tok _) rw'
theorem Ct {Q:Yt} (hu:A.units+1 < cLine) (I:Inv X pins σ H s) (g:fM H a y o) (ry:RelV y u) (h:∀ s',Inv X pins σ H s'->Q (.bool o.isSome) s') :
  wpAny (model X.prog X.w) A (compareOp .In u (.ref a)) Q E s:=by
 rcases g with ⟨kvs,k,e,ey,l⟩ | ⟨kvs,k,b,e,ey,eb,l⟩
 ·subst ey
  obtain ⟨z,hd,vs,rel,dd⟩:=jH I.hok e
  refine wpAny_in_of (kb ry) hd dd.mapOf ?_
  rw [← (rel.val k).isSome_eq,← l]
  exact h _ (I.tok _)
 ·subst ey
  cases (show u=Value.ref b from ry)
  obtain ⟨z,hd,xs,rel,dd⟩:=j4 I.hok e
  refine wpAny_in_heap (Y1 hu) (dN I.hok eb) hd dd ?_
  have q:=(rel.val k).isSome_eq
  rw [Ym] at q
  rw [← q,← l]
  exact h _ (I.tok _)
theorem xH {Q:Yt} (hu:A.units+1 < cLine) (I:Inv X pins σ H s) (g:fM H a y o) (ry:RelV y u) (h:∀ s',Inv X pins σ H s'->Q (.bool (!o.isSome)) s') :
  wpAny (model X.prog X.w) A (compareOp .NotIn u (.ref a)) Q E s:=by
 rcases g with ⟨kvs,k,e,ey,l⟩ | ⟨kvs,k,b,e,ey,eb,l⟩
 ·subst ey
  obtain ⟨z,hd,vs,rel,dd⟩:=jH I.hok e
  refine wpAny_notIn_of (kb ry) hd dd.mapOf ?_
  rw [← (rel.val k).isSome_eq,← l]
  exact h _ (I.tok _)
 ·subst ey
  cases (show u=Value.ref b from ry)
  obtain ⟨z,hd,xs,rel,dd⟩:=j4 I.hok e
  refine wpAny_notIn_heap (Y1 hu) (dN I.hok eb) hd dd ?_
  have q:=(rel.val k).isSome_eq
  rw [Ym] at q
  rw [← q,← l]
  exact h _ (I.tok _)
theorem jT {h':Heap} {t':Nat} {ob:HO} (I:Inv X pins σ H s) (mu:Mut (H a)) (hs:Heap.SameBut a s.heap h') (he:∃ q,h'.get? a=some q) (new:b9 X.prog X.w (upd H a ob) h' a ob) :
  Inv X pins σ (upd H a ob) { s with heap:=h',toks:=t' } :=
 I.write (x:=a) (e:=a) mu (.inl rfl) (fun b q hb z=>(hs.2 b hb).trans z) he new
theorem oH {P:Program} {w:World} {H':Hp} {h':Heap} {kvs:List (Key×V)} {vs:List (Key×Value)} (z:kvs.length<=sizeLine) (hd:(a == sysModules)=false) (rel:KV kvs vs) (dd:h'.DictOf (bG P w) a vs) :
  b9 P w H' h' a (.dK kvs):=⟨z,hd,vs,rel,dd⟩
theorem qG {H':Hp} {Q:Unit->Shared->Prop} (hu:A.units+1 < cLine) (I:Inv X pins σ H s) (g:oR H a y v H') (ry:RelV y u) (rv:RelV v r) (h:∀ s',Inv X pins σ H' s'->Q () s') :
  wpAny (model X.prog X.w) A (setItem (.ref a) u r) Q E s:=by
 rcases g with ⟨kvs,k,e,ey,l,eH⟩ | ⟨kvs,k,b,e,ey,eb,l,eH⟩
 ·subst ey eH
  obtain ⟨z,hd,vs,rel,dd⟩:=nQ I.hok e
  have hz:vs.length<=sizeLine:=by rw [← rel.length];exact z
  have hl:(putK kvs k v).length<=sizeLine:=by have:=gy kvs k v;lia
  refine wpAny_setItem_pairs (hsz:=hz) (kb ry) dd fun h' dd' hs=>h _ ?_
  have he:∃ q,h'.get? a=some q:=let ⟨q,_,_,hq,_⟩:=dd';⟨q,hq⟩
  exact jT I (by rw [e];exact True.intro) hs he (oH hl hd (rel.put k rv) dd')
 ·subst ey eH
  cases (show u=Value.ref b from ry)
  obtain ⟨z,hd,xs,rel,dd⟩:=Bl I.hok e
  have hz:xs.length<=sizeLine:=by rw [← YB rel];exact z
  have hl:(putK kvs k v).length<=sizeLine:=by have:=gy kvs k v;lia
  refine wpAny_setItem_heap (hsz:=hz) (Y1 hu) (dN I.hok eb) dd fun h' dd' hs=>h _ ?_
  obtain ⟨q,es,ep,hq,h2,h3,h4,_,h5⟩:=dd'
  refine jT I (by rw [e];exact True.intro) hs ⟨q,hq⟩ ⟨hl,hd,_,(rel.put k eb rv).keeps fun c ys ec=>?_,q,es,ep,hq,h2,h3,h4,h5⟩
  rw [aI (Bo ec e (fun z=>nomatch z))]
  exact ec
end
section
variable {X:Cx} {pins:Xw} {σ:St} {H:Hp} {s:Shared} {a:Addr} {kvs:List (Key×V)} {k:Key} {u:Value} {A:Around} {E:Yt}
theorem BY {Q:Yt} (I:Inv X pins σ H s) (e:Rd H a (.dK kvs)) (h:∀ t s',Inv X pins σ H s'->Q (.int kvs.length t) s'):wpAny (model X.prog X.w) A (call (.builtin "len") [.ref a]) Q E s:=by
 obtain ⟨z,hd,vs,rel,dd⟩:=jH I.hok e
 refine call_len_dict hd dd (by rw [← rel.length];rw [Y2] at z;lia) ?_
 rw [← rel.length]
 exact h _ _ (I.tok _)
end
theorem nO {X:Cx} {pins:Xw} {σ:St} {H:Hp} {s:Shared} {a:Addr} {y:V} {o:Option V} (I:Inv X pins σ H s) (g:fM H a y o):s.TypeIs (.ref a) "dict" := by
 rcases g with ⟨kvs,k,e,_,_⟩ | ⟨kvs,k,b,e,_,_,_⟩
 ·obtain ⟨_,_,vs,_,dd⟩:=jH I.hok e
  exact dd.typeIs
 ·obtain ⟨_,_,xs,_,dd⟩:=j4 I.hok e
  exact dd.typeIs
theorem nF {P:Program} {w:World} {H:Hp} (h:Heap) (hb:sysModules < h.objs.size):b9 P w H (h.push { cls:=.type "dict",data:=.dict #[] }) h.objs.size (.dK []) :=
 ⟨Ye _,beq_eq_false_iff_ne.mpr (Ya (ZW hb)),[],.nil,Heap.DictOf.new h⟩
noncomputable def zR:TE:=fun _ H Q=>∀ p,H p=none->Q (.ref p) (upd H p (.dK []))
section
variable {X:Cx} {pos:Pos}
theorem vg:PE X (.Dict [] [] pos) zR:=fun pins s σ H Q I h =>
 wpAny_Dict_empty ⟨.ref s.heap.objs.size,_,I.laid (a:=s.heap.objs.size) (o:=.dK []) (t':=s.toks) (fun _ _ q=>Zl _ q) (Zk _) (nF s.heap I.big),rfl,h _ (I.hok.fresh (Zk _))⟩
end
noncomputable def pz:List (TE×TE)->St->Hp->(List (V×V)->Hp->Prop)->Prop
 | [],_,H,Q=>Q [] H
 | (tk,tv) :: r,σ,H,Q=>tk σ H fun x H1=>tv σ H1 fun y H2=>pz r σ H2 fun ps H3=>Q ((x,y) :: ps) H3
noncomputable abbrev VV:List (V×V)->List (Value×Value)->Prop:=Paired fun p q=>RelV p.1 q.1/\RelV p.2 q.2
noncomputable def PPs (X:Cx) (pos:Pos) (keys:List (Option Expr)) (values:List Expr) (trs:List (TE×TE)):Prop :=
 ∀ (pins:Xw) (s:Shared) (σ:St) (H:Hp) (Q:List (V×V)->Hp->Prop),Inv X pins σ H s->pz trs σ H Q →
  wpAny (model X.prog X.w) X.A (evalPairs (pairTrees keys values X.env pos)) (fun vs s'=>∃ ps H',Inv X pins σ H' s'/\VV ps vs/\Q ps H') X.xe s
theorem xl {X:Cx} {pos:Pos}:PPs X pos [] [] []:=fun pins s σ H Q I h=>pairTrees_nil_walk ⟨[],H,I,.nil,h⟩
theorem tN {X:Cx} {pos:Pos} {k v:Expr} {ks:List (Option Expr)} {vs:List Expr} {tk tv:TE} {trs:List (TE×TE)} (hk:PE X k tk) (hv:PE X v tv) (hr:PPs X pos ks vs trs) :
  PPs X pos (some k :: ks) (v :: vs) ((tk,tv) :: trs):=fun pins s σ H Q I h =>
 pairTrees_cons_walk (thn (hk pins s σ H _ I h) fun u s1 ⟨x,H1,I1,rx,q1⟩=>thn (hv pins s1 σ H1 _ I1 q1) fun w2 s2 ⟨y,H2,I2,ry,q2⟩ =>
  thn (hr pins s2 σ H2 _ I2 q2) fun ws s3 ⟨ps,H3,I3,rel,q3⟩=>⟨(x,y) :: ps,H3,I3,.cons ⟨rx,ry⟩ rel,q3⟩)
noncomputable def kJ (kvs more:List (Key×V)):List (Key×V):=more.foldl (fun acc kv=>putK acc kv.1 kv.2) kvs
theorem KV.merge:∀ {more:List (Key×V)} {rs:List (Key×Value)} {kvs:List (Key×V)} {vs:List (Key×Value)},KV more rs->KV kvs vs->KV (kJ kvs more) (merged vs rs):=by
 intro more rs kvs vs r
 unfold KV at r
 induction r generalizing kvs vs with
 | nil=>intro q;exact q
 | @cons p q ps qs h t ih =>
  intro r0
  have e:KV (putK kvs p.1 p.2) (stored vs q.1 q.2):=by
   have:=r0.put p.1 h.2
   rw [← h.1];exact this
  exact ih e
theorem h9:∀ (more kvs:List (Key×V)),(kJ kvs more).length<=kvs.length+more.length
 | [],kvs=>by show kvs.length<=kvs.length+0;exact YI _ _
 | p :: r,kvs=>by
  have h1:=h9 r (putK kvs p.1 p.2)
  have h2:=gy kvs p.1 p.2
  show (kJ (putK kvs p.1 p.2) r).length<=_
  rw [ZZ];lia
theorem kx {P:Program} {w:World}:∀ {kvs:List (Key×V)} {ws:List (Value×Value)},VV (kvs.map fun kv=>(kV kv.1,kv.2)) ws->∃ rs,Carries (bG P w) ws rs/\KV kvs rs
 | [],_,r=>by rw [Xn] at r;cases r;exact ⟨[],True.intro,.nil⟩
 | p :: kvs,_,r=>by
  rw [Zp] at r
  cases r with
  | @cons a b as bs h t =>
   obtain ⟨rs,c,q⟩:=kx (P:=P) (w:=w) t
   obtain ⟨b1,b2⟩:=b
   exact ⟨(p.1,b2) :: rs,⟨kb h.1,rfl,c⟩,.cons ⟨rfl,h.2⟩ q⟩
noncomputable def A6 (trs:List (TE×TE)):TE:=fun σ H Q=>∀ p,H p=none->pz trs σ (upd H p (.dK [])) fun ps H2=>H2 p=some (.dK [])/\∃ kvs:List (Key×V),ps=kvs.map (fun kv=>(kV kv.1,kv.2))/\kvs.length<=15/\Q (.ref p) (upd H2 p (.dK (kJ [] kvs)))
theorem vJ {X:Cx} {pos:Pos} {keys:List (Option Expr)} {values:List Expr} {trs:List (TE×TE)} (h:PPs X pos keys values trs) (hall:keys.all (·.isSome)=true) (hl:keys.length=values.length) (h0:keys ≠ [])
  (h15:keys.length<=15):PE X (.Dict keys values pos) (A6 trs):=by
 intro pins s σ H Q I q
 have hn:=I.hok.fresh (Zk s.heap.objs.size)
 have I1:=I.laid (a:=s.heap.objs.size) (o:=.dK []) (h':=s.heap.push { cls:=.type "dict",data:=.dict #[] }) (t':=s.toks) (fun _ _ q=>Zl _ q) (Zk _) (nF s.heap I.big)
 refine wpAny_Dict_walk (knd:=bG X.prog X.w) hall hl h0 h15 (thn (h pins _ σ _ _ I1 (q _ hn)) fun ws s2 ⟨ps,H2,I2,rel,e,kvs,ep,lk,q2⟩=>?_)
 subst ep
 obtain ⟨rs,c,rk⟩:=kx (P:=X.prog) (w:=X.w) rel
 obtain ⟨z,hd,vs0,r0,dd⟩:=nQ I2.hok e
 cases r0
 refine ⟨rs,c,dd,fun h' dd' hs=>⟨.ref s.heap.objs.size,_,?_,rfl,q2⟩⟩
 have hz:(kJ [] kvs).length<=sizeLine:=by
  have h1:=h9 kvs []
  rw [List.length_nil] at h1
  rw [Y2];lia
 have he:∃ q,h'.get? s.heap.objs.size=some q:=let ⟨q,_,_,hq,_⟩:=dd';⟨q,hq⟩
 exact jT I2 (by rw [e];exact True.intro) hs he (oH hz hd (rk.merge .nil) dd')
structure M1 (X:Cx) (o:Expr) (m:Str) (apos:Pos) (e:Expr) (cpos:Pos):Prop where
 base:attributeBase o m X.env (eval o X.env)=eval o X.env
 few:((backTo cpos (starEach [e] X.env)).all (fun x=>!x.1) && (backToKw cpos (keywordEach [] X.env)).all (fun x=>x.1.isSome)
  && decide (([e]:List Expr).length+([]:List Keyword).length+(if ([]:List Keyword).isEmpty then 0 else 1) < 30))=true
 line:(apos.endLine == cpos.line)=true
 trees:backTo cpos (starEach [e] X.env)=[(false,eval e X.env)]
noncomputable def IsD (H:Hp) (a:Addr):Prop:=(∃ kvs,Rd H a (.dK kvs))\/∃ kvs,Rd H a (.dT kvs)
theorem yP {X:Cx} {pins:Xw} {σ:St} {H:Hp} {s:Shared} {a:Addr} (I:Inv X pins σ H s) (d:IsD H a) :
  s.TypeIs (.ref a) "dict" ∧ (∀ b,Value.ref a=.ref b->∃ ob,s.heap.get? b=some ob/\ob.dict=none)/\(a == sysModules)=false:=by
 rcases d with ⟨kvs,e⟩ | ⟨kvs,e⟩
 ·obtain ⟨_,hd,vs,_,dd⟩:=jH I.hok e
  refine ⟨dd.typeIs,fun b q=>?_,hd⟩
  cases q
  obtain ⟨ob,_,_,h1,h2,_⟩:=dd
  exact ⟨ob,h1,h2.2.1⟩
 ·obtain ⟨_,hd,xs,_,dd⟩:=j4 I.hok e
  refine ⟨dd.typeIs,fun b q=>?_,hd⟩
  cases q
  obtain ⟨ob,_,_,h1,h2,_⟩:=dd
  exact ⟨ob,h1,h2.2.1⟩
section
variable {X:Cx} {pins:Xw} {σ:St} {H:Hp} {s:Shared} {a:Addr} {y d:V} {u r:Value} {o:Option V} {A:Around} {E:Yt}
theorem zY {Q:Yt} (hu:A.units+1 < cLine) (I:Inv X pins σ H s) (g:fM H a y o) (ry:RelV y u) (h:∀ w' s',Inv X pins σ H s'->RelV (o.getD .non) w'->Q w' s') :
  wpAny (model X.prog X.w) A (call (.builtin "dict.get") [.ref a,u]) Q E s:=by
 rcases g with ⟨kvs,k,e,ey,l⟩ | ⟨kvs,k,b,e,ey,eb,l⟩
 ·subst ey
  obtain ⟨z,hd,vs,rel,dd⟩:=jH I.hok e
  refine call_meetsIn Xh dd.typeIs PySem.F.entry_dict_get (PySem.F.args_dict_get_2 _ _) (meets_dict_get (bG X.prog X.w) a (kb ry) hd) ⟨_,dd.mapOf,h _ _ (I.tok _) ?_⟩
  rw [l]
  exact (rel.val k).getD rfl
 ·subst ey
  cases (show u=Value.ref b from ry)
  obtain ⟨z,hd,xs,rel,dd⟩:=j4 I.hok e
  refine call_meetsIn Xh dd.typeIs PySem.F.entry_dict_get (PySem.F.args_dict_get_2 _ _) (meetsH_dict_get (tupleKind (bG X.prog X.w)) a b hd) ⟨Y1 hu,k,xs,dN I.hok eb,dd,h _ _ (I.tok _) ?_⟩
  rw [l]
  exact (rel.val k).getD rfl
end
noncomputable def Ad (td ty:TE):TE:=fun σ H Q=>td σ H fun x H1=>∃ a,x=.ref a/\IsD H1 a/\ty σ H1 fun y H2=>∃ o,fM H2 a y o/\Q (o.getD .non) H2
section
variable {X:Cx} {o e f:Expr} {apos cpos:Pos} {td ty tx:TE}
theorem rY (hu:X.A.units+1 < cLine) (ho:PE X o td) (he:PE X e ty) (m:M1 X o "get" apos e cpos):PE X (.Call (.Attribute o "get" apos) [e] [] cpos) (Ad td ty):=by
 intro pins s σ H Q I h
 refine wpAny_Call_method m.base m.few m.line PySem.F.plainAttrs_dict Xh PySem.F.type_dict_get (thn (ho pins s σ H _ I h) fun u s1 ⟨x,H1,I1,rx,a,ex,d,q1⟩=>?_)
 subst ex
 obtain rfl:u=Value.ref a:=rx
 obtain ⟨t1,t2,_⟩:=yP I1 d
 refine ⟨t1,t2,?_⟩
 rw [m.trees]
 refine Calls.callWith_builtin rfl (Calls.evalArgs_plain (Calls.spliced_cons (thn (he pins s1 σ H1 _ I1 q1) fun iv s2 ⟨y,H2,I2,ry,ov,g,q2⟩=>Calls.spliced_nil ?_)))
 exact zY hu I2 g ry fun w' s3 I3 rw'=>⟨_,H2,I3,rw',q2⟩
end
end L2
namespace Att
open PySem PySem.W PySem.Calls PyProof.Rows
theorem jP {P:Params} {h:Heap}:∀ (ns:X8) (vs:X5),WellAll P h vs (ns.map WData.int)->IntsAre vs ns:=by
 intro ns
 induction ns with
 | nil =>
  intro vs w
  rw [Xn] at w
  cases w
  exact .nil
 | cons n ns ih =>
  intro vs w
  rw [Zp] at w
  cases w with
  | cons a b =>
   cases a
   exact .cons _ _ (ih _ b)
theorem qU {l:OpenLaw} {n:Nat} (hn:l.most=some n) {P:Params} {h:Heap} {args:List WData} {vals:X5}
  (hpre:l.row.toRowW.claim.pre args=true) (hwl:WellAll P h vals args) :
  ∃ a vs ns,vals=[Value.ref a]/\args=[WData.list (ns.map WData.int)]/\h.get? a=some { cls:=.type "list",data:=.seq vs.toArray }/\IntsAre vs ns/\ns.length<=n:=by
 have hsh:WShape.hasAll [] args [.list .int]=true:=(pre_splitW hpre).1
 have hc:l.pre.holds [] { args:=args }=true:=(pre_splitW hpre).2
 obtain ⟨d,r,rfl,h1,h2⟩:=hasAllW_cons hsh
 obtain rfl:=hasAllW_nil h2
 obtain ⟨xs,rfl,h3⟩:=hasW_list h1
 obtain ⟨ns,rfl⟩:=items_int h3
 have hlen:ns.length<=n:=by
  unfold OpenLaw.pre at hc
  have h4:(WTm.not (.lt (.lit (.int (n:Int))) (.len (.arg 0)))).holds [] { args:=[.list (ns.map .int)] }=true:=by
   have h4:=(holds_andW hc).1
   rw [hn] at h4
   exact h4
  have h5:=condW_of h4 (w_not (w_lt w_lit (w_len_list (w_arg rfl))))
  rw [Zy] at h5
  refine ZP fun q=>?_
  have q':(n:Int) < ((ns.length:Nat):Int):=by omega
  first
   | (rw [decide_eq_true q'] at h5;exact absurd h5 (by decide))
   | (simp at h5;omega)
 cases hwl with
 | cons w1 w2 =>
  cases w2
  cases w1 with
  | list ho hall=>exact ⟨_,_,ns,rfl,rfl,ho,jP ns _ hall,hlen⟩
theorem qM (l:OpenLaw) (args:List WData):l.row.toRowW.claim.post args (.bool true) args=true :=
 postW_of (r:=l.row.toRowW) (X:=(true == true))
  (show WShape.has [] (.bool true) .bool=true by first | rfl | decide | simp [WShape.has,WShape.arms,WShape.armsAll])
  (show (WTm.eq .res (.lit (.bool true))).value [] { args:=args,res:=some (.bool true),after:=args }=some (.bool (true == true)) from w_eq_bool (w_res rfl) w_lit) rfl
theorem nr {l:OpenLaw} {n:Nat} {q:Program} {loose:List Str} {XP:(X3)->Heap->Prop} {YP:World->Heap->Prop} {d:DefRec}
  (hn:l.most=some n) (hdf:d.params.defaults=[])
  (call:∀ (w:World) (s₀ s₁:Shared) (mg mb:X3) (fa:Addr) (o:Obj) (pm cd doc:Value) (a:Addr) (vs:X5) (ns:X8),
   Ground q loose [] XP w s₀ mg mb s₁.heap->YP w s₁.heap →
   s₁.heap.get? fa=some o->o.data=.func (docDef d.name d.params d.body d.scope pm cd doc)->s₁.heap.CodeRec cd d.name->mg d.name=some (.ref fa) →
   s₁.heap.get? a=some { cls:=.type "list",data:=.seq vs.toArray }->IntsAre vs ns->ns.length<=n->s₁.gens=#[] →
   codeAny (model l.prog w) callerA (.call (.ref fa) ⟨[.ref a],[]⟩) (fun r s'=>r=.ok (.ret (.bool true))/\OldK s₁.heap s'.heap/\s'.os=s₁.os/\AllBare s'.gens) s₁) :
  WalkO q loose XP YP l.row.toRowW d [] (fun f vs=>PySem.call f vs):=by
 intro w s₀ s₁ mg mb G Y fa o pm cd doc dV kV ho hd hcd hD hmg hg args vals as hpre hlay hrd hwl hlo
 obtain rfl:dV=.none:=Dflts.none hD hdf
 obtain rfl:kV=.none:=Dflts.noKw hD
 obtain ⟨a,vs,ns,rfl,rfl,hobj,hints,hlen⟩:=qU hn hpre hwl
 refine enter_call (codeAny_mono (call w s₀ s₁ mg mb fa o pm cd doc a vs ns G Y ho (fd_plain hd) hcd hmg hobj hints hlen hg) fun r s' hq=>?_)
 obtain ⟨rfl,h2,h3,h4⟩:=hq
 exact ⟨.inl ⟨.bool true,.bool true,[],rfl,fun _=>rfl,.bool true,qM l _,fun _=>⟨List.Pairwise.nil,fun _ hm=>(nomatch hm)⟩⟩,h2,h3,h4⟩
end Att
namespace L2
open PySem PySem.Spec PyProof.Rows
theorem lI:∀ {vs:X5} {ns:X8},IntsAre vs ns->aR (ns.map V.int) vs
 | _,_,.nil=>.nil
 | _,_,.cons n t h=>.cons ⟨t,rfl⟩ (lI h)
noncomputable def uq (H:Hp):Prop:=∀ b,H b=none\/∃ o xs,H b=some (.frz o (.lst xs))
theorem uA {P:Program} {w:World} {K:X0} {mg mb:X3} {CX:CXT} {k:Nat} {fa a:Addr} {fd:FuncData} {x:Str} {sp:Sp} {s₁:Shared} {vs:X5} {ns:X8}
  (KX:K.In s₁.heap) (hns:s₁.heap.Ns mainGlobals mg) (hb:s₁.heap.Ns builtinsNs mb) (hbb:∀ x:Str,x ≠ "__name__" → mb x=bootBuiltins x) (hlim:s₁.heap.NoLimit) (hg:s₁.gens=#[])
  (ha:s₁.heap.get? a=some { cls:=.type "list",data:=.seq vs.toArray }) (hi:IntsAre vs ns) (hl:ns.length<=sizeLine) (hr:Room k callerA)
  (F:∀ base:Heap,K.In base->base.Ns mainGlobals mg->FnOk P w K mg base CX k fa fd [x] sp) (hbind:∀ (s:Shared) (u:Value),BindsTo s fd ⟨[u],[]⟩ [(x,u)])
  (hsp:∀ H:Hp,uq H->SqL K H a (ns.map V.int)->sp [.ref a] H (fun v _=>v=.bl true) fun _ _ _=>False)
  (hCX:∀ H e s',CX [] H s₁ (fun _ _ _=>False) e s'->False) :
  codeAny (model P w) callerA (.call (.ref fa) ⟨[.ref a],[]⟩) (fun r s'=>r=.ok (.ret (.bool true))/\OldK s₁.heap s'.heap/\s'.os=s₁.os/\AllBare s'.gens) s₁:=by
 have rv:=lI hi
 have lenV:=hi.length
 have core:∀ H:Hp,uq H->SqL K H a (ns.map V.int)->HOk P w H s₁.heap->(∀ b,H b ≠ none->b=a)->(H a ≠ none->K.lookup a=none) →
   codeAny (model P w) callerA (.call (.ref fa) ⟨[.ref a],[]⟩) (fun r s'=>r=.ok (.ret (.bool true))/\OldK s₁.heap s'.heap/\s'.os=s₁.os/\AllBare s'.gens) s₁:=by
  intro H hO hS hok hA hK
  have base_of:∀ {b:Addr} {o:Obj},s₁.heap.get? b=some o->H b=none->(m7 s₁.heap H).get? b=some o:=fun e n=>uZ e n
  have noA:∀ {b:Addr} {o:Obj} {es:Array DictEntry} {ep:Nat},s₁.heap.get? b=some o->o.data=.dict es ep->H b=none:=fun {b o es ep} e d=>by
   cases q:H b with
   | none=>rfl
   | some u =>
    have e':b=a:=hA b (by rw [q];simp)
    subst e'
    rw [ha] at e;cases e
    have d':Data.seq vs.toArray _=Data.dict es ep:=d
    cases d'
  have nsK:∀ {b:Addr} {m:X3},s₁.heap.Ns b m->(m7 s₁.heap H).Ns b m:=fun {b m} ⟨o,es,ep,e,d,r⟩=>⟨o,es,ep,base_of e (noA e d),d,r⟩
  have hKb:K.In (m7 s₁.heap H):=fun b o e=>base_of (KX b o e) (by
   cases q:H b with
   | none=>rfl
   | some u =>
    have e':b=a:=hA b (by rw [q];simp)
    subst e'
    rw [hK (by rw [q];simp)] at e;cases e)
  have hM:Mod K mg (m7 s₁.heap H):=⟨hKb,nsK hns,⟨mb,nsK hb,hbb⟩,let ⟨mc,h1,h2⟩:=hlim;⟨mc,nsK h1,h2⟩⟩
  have e0:Env0 P w K mg (m7 s₁.heap H) callerA [] s₁ H:=⟨rfl,hM,fun b o e=>vA e,XR (q8 _ _),trivial,fun b hb=>absurd (show b∈([]:X4) from hb) (by simp),hok,.of_eq hg⟩
  refine codeAny_mono ((F _ hKb (nsK hns)).run callerA [] s₁ H ⟨[.ref a],[]⟩ [.ref a] [.ref a] _ _ hr e0 (hbind s₁ (.ref a)) (.cons rfl .nil) (hsp H hO hS)) fun r s' h=>?_
  cases r with
  | error e=>exact (hCX H e s' h).elim
  | ok fl =>
   cases fl with
   | next=>exact False.elim h
   | brk=>exact False.elim h
   | cont=>exact False.elim h
   | ret u =>
    obtain ⟨v,H',os,bare,un,hok',r',q⟩:=h
    have q':v=.bl true:=q
    subst q'
    obtain rfl:u=Value.bool true:=r'
    refine ⟨rfl,OldK.of_keep fun b o e=>?_,os,bare⟩
    cases q:H b with
    | none=>exact un.keep b o e q (by intro z;exact absurd (show b∈([]:X4) from z) (by simp)) (by simp)
    | some u =>
     rcases hO b with z | ⟨ob,xs,z⟩
     ·rw [q] at z;cases z
     ·have z2:=un.frzs b ob _ z
      obtain ⟨e1,_⟩:=hok b _ z
      obtain ⟨e2,_⟩:=hok' b _ z2
      rw [e] at e1;cases e1
      exact e2
 cases hk:K.lookup a with
 | some o =>
  have e:=KX a o hk
  rw [ha] at e
  cases e
  refine core (fun _=>none) (fun _=>.inl rfl) (.inr ⟨_,vs.toArray,_,hk,rfl,rfl,rfl,by rw [Za,lenV];exact hl,by simpa using rv⟩) (fun b u z=>by have z':(none:Option HO)=some u:=z;cases z') (fun b z=>absurd rfl z) fun z=>absurd rfl z
 | none =>
  refine core (fun b=>if b=a then some (.frz { cls:=.type "list",data:=.seq vs.toArray } (.lst (ns.map V.int))) else none) (fun b=>?_) (.inl (.inr ⟨{ cls:=.type "list",data:=.seq vs.toArray },Zq rfl⟩)) (fun b u z=>?_) (fun b z=>?_) fun _=>hk
  ·by_cases hb:b=a
   ·exact .inr ⟨_,_,Zq hb⟩
   ·exact .inl (Zn hb)
  ·by_cases hb:b=a
   ·have z':=(Zq hb).symm.trans z
    cases z'
    subst hb
    exact ⟨ha,by rw [Zy];exact hl,vs,_,rv,ha⟩
   ·have z':=(Zn hb).symm.trans z
    cases z'
  ·by_cases hb:b=a
   ·exact hb
   ·exact absurd (Zn hb) z
theorem xk {l:PySem.W.OpenLaw} {n k:Nat} {q:Program} {loose:List Str} {XP:(X3)->Heap->Prop} {YP:World->Heap->Prop} {d:DefRec} {K:Params->X0} {CX:World->CXT} {sp:World->Sp} {x:Str}
  (hn:l.most=some n) (hn2:n<=sizeLine) (hdf:d.params.defaults=[]) (hr:Room k callerA)
  (hY:∀ (w:World) (h:Heap),YP w h->(K w.params).In h)
  (F:∀ (w:World) (mg:X3) (fa:Addr) (h:Heap),(K w.params).In h->h.Ns mainGlobals mg->mg d.name=some (.ref fa) →
   ∃ fd:FuncData,(∀ (s:Shared) (u:Value),BindsTo s fd ⟨[u],[]⟩ [(x,u)]) ∧
    ∀ base:Heap,(K w.params).In base->base.Ns mainGlobals mg->FnOk l.prog w (K w.params) mg base (CX w) k fa fd [x] (sp w))
  (hsp:∀ (w:World) (H:Hp) (a:Addr) (ns:X8),ns.length<=n->uq H->SqL (K w.params) H a (ns.map V.int)->sp w [.ref a] H (fun v _=>v=.bl true) fun _ _ _=>False)
  (hCX:∀ (w:World) (H:Hp) (s:Shared) (e:Value) (s':Shared),CX w [] H s (fun _ _ _=>False) e s'->False) :
  PySem.W.WalkO q loose XP YP l.row.toRowW d [] (fun f vs=>PySem.call f vs):=by
 refine Att.nr hn hdf fun w s₀ s₁ mg mb fa o pm cd doc a vs ns G Y ho hd hcd hmg hobj hints hlen hg=>?_
 have KX:=hY w _ Y
 obtain ⟨fd,hb,hF⟩:=F w mg fa _ KX G.T.g hmg
 exact uA KX G.T.g G.T.b G.T.builtins G.T.nolimit hg hobj hints (ZI hlen hn2) hr hF hb (fun H hO hS=>hsp w H a ns hlen hO hS) fun H e s'=>hCX w H s₁ e s'
noncomputable def inClass (s:Stmt) (j:Nat):Stmt:=match s with
 | .ClassDef _ _ _ body _ _ _ _ _ _ _=>body.getD j (.Pass ⟨0,0,0,0⟩)
 | _=>.Pass ⟨0,0,0,0⟩
noncomputable def aE (s:Stmt):Arguments:=match s with
 | .FunctionDef _ a _ _ _ _ _ _ _ _=>a
 | _=>{ posonlyargs:=[],args:=[],vararg:=none,kwonlyargs:=[],kw_defaults:=[],kwarg:=none,defaults:=[] }
noncomputable def au (s:Stmt):List Stmt:=match s with
 | .FunctionDef _ _ b _ _ _ _ _ _ _=>b
 | _=>[]
noncomputable def af (s:Stmt):Scope:=match s with
 | .FunctionDef _ _ _ _ _ _ sc _ _ _=>sc
 | _=>{ kind:=.function,names:=[],isGenerator:=false,isCoroutine:=false }
noncomputable abbrev CX0:CXT:=fun _ _ _ _ _ _=>False
noncomputable abbrev E0:XK:=fun _ _ _=>False
theorem jy {X:Cx}:gB CX0 X E0:=fun _ _ _ _ _ _ _ h=>h.elim
structure Fun (K:X0) (x qual:Str) (st:Stmt) (f:Addr) (fd:FuncData):Prop where
 ex:∃ (oc:Value) (od:Option Addr) (kV doc pm:Value) (an:Option Addr) (cdv ct:Value) (osl:Array (X6)),
  fd=PySem.W.fnOf x qual (aE st) (au st) (af st) .none kV doc pm an cdv ct/\K.lookup f=some ⟨oc,od,.func fd,osl⟩/\PySem.W.codeIn K cdv qual=true
 kp:PySem.W.keepIn K (.ref f)=true
section
variable {P:Program} {w:World} {K:X0} {mg:X3} {base:Heap}
theorem Fun.ok {x qual:Str} {st:Stmt} {f:Addr} {fd:FuncData} {N ps:List Str} {k:Nat} {sp:Sp} (F:Fun K x qual st f fd) (S:FnScope N ps (af st)) (len:∀ vs H Q E,sp vs H Q E->vs.length=ps.length)
  (hbody:∀ (cdv:Value) (A:Around) (outer:List Env) (s:Shared) (H:Hp) (vs:List V) (Q:VK) (E:XK),Room k (A.deeper (envOfC qual (af st) s.heap.objs.size f cdv))->sp vs H Q E →
   ∃ t,PSs (fC CX0 P w K mg base N qual (af st) f cdv A outer s H E).nox (au st) t/\t { nx:=fun _ H'=>Q .non H',rt:=Q } (start N vs) H):FnOk P w K mg base CX0 (k+1) f fd ps sp:=by
 obtain ⟨oc,od,kV,doc,pm,an,cdv,ct,osl,rfl,lk,hcd⟩:=F.ex
 refine x8 lk hcd S len fun A outer s H vs Q E hr hsp=>?_
 obtain ⟨t,h,q⟩:=hbody cdv A outer s H vs Q E hr hsp
 exact ⟨t,h.nox,q⟩
theorem Fun.binds {x qual:Str} {st:Stmt} {f:Addr} {fd:FuncData} {ps:List Str} (F:Fun K x qual st f fd)
  (h:∀ (kV doc pm:Value) (an:Option Addr) (cdv ct:Value) (us:X5),us.length=ps.length->bindArgs (PySem.W.fnOf x qual (aE st) (au st) (af st) .none kV doc pm an cdv ct) ⟨us,[]⟩=pure (ps.zip us)):Binds K fd ps []:=by
 obtain ⟨oc,od,kV,doc,pm,an,cdv,ct,osl,rfl,lk,hcd⟩:=F.ex
 exact .all (h kV doc pm an cdv ct)
theorem cE {x qual:Str} {st:Stmt} {f:Addr} {oc:Value} {od an:Option Addr} {osl:Array (X6)} {kV doc pm cdv ct:Value} (l:K.lookup f=some ⟨oc,od,.func (PySem.W.fnOf x qual (aE st) (au st) (af st) .none kV doc pm an cdv ct),osl⟩)
  (c:PySem.W.codeIn K cdv qual=true) (k:PySem.W.keepIn K (.ref f)=true):Fun K x qual st f (PySem.W.fnOf x qual (aE st) (au st) (af st) .none kV doc pm an cdv ct):=⟨⟨oc,od,kV,doc,pm,an,cdv,ct,osl,rfl,l,c⟩,k⟩
end
theorem iy {A:Around} {k:Nat} (hr:Room k A):A.units+1 < cLine:=Nat.lt_of_le_of_lt (Nat.add_le_add_left (by decide:1<=64) _) hr.units
theorem wx {A B:Prop} (h:B):if false=true then A else B:=by
 rw [Zn Zh]
 exact h
theorem xG {A B:Prop} (h:A):if true=true then A else B:=by
 rw [Zq rfl]
 exact h
noncomputable def aP (H H':Hp):Prop:=∀ b o,H b=some o->H' b=some o
theorem aP.refl (H:Hp):aP H H:=fun _ _ h=>h
theorem aP.trans {H H1 H2:Hp} (a:aP H H1) (b:aP H1 H2):aP H H2:=fun c o h=>b c o (a c o h)
theorem aP.free {H H':Hp} (e:aP H H') {l:Addr} (h:H' l=Option.none):H l=Option.none:=by
 cases q:H l with
 | none=>rfl
 | some o =>
  rw [e l o q] at h
  cases h
end L2
end
section
namespace NK
open PySem PySem.Spec PyProof.Rows
variable {prog:Program} {w:World} {K:Type} [DecidableEq K] {knd:KeyKind prog w K} {A:Around} {E:Yt} {s:Shared}
end NK
end
section
namespace L2
open PySem PySem.Spec PyProof.Rows
noncomputable abbrev lC:=List (X8)
noncomputable def hN (k:lC):Int:=reduceHash (Builtin.Tuple.tupleHashOf (k.map fun x=>reduceHash (Builtin.Tuple.tupleHashOf (x.map hashInt))))
noncomputable def Cu (x:lC×Addr×Value):DictEntry:=⟨hN x.1,.ref x.2.1,x.2.2⟩
noncomputable abbrev KN:List (lC×Addr×V)->List (lC×Addr×Value)->Prop:=Paired fun p q=>p.1=q.1/\p.2.1=q.2.1/\RelV p.2.2 q.2.2
noncomputable def DN (a:Addr) (kvs:List (lC×Addr×V)):HO:=.ext fun h=>kvs.length<=sizeLine/\(a == sysModules)=false/\∃ xs:List (lC×Addr×Value),KN kvs xs ∧
 ∃ o es ep,h.get? a=some o/\o.ExactDict/\o.data=.dict es ep/\es.toList=xs.map Cu/\(xs.map (·.1)).Nodup
noncomputable def NAt (H:Hp) (k:lC) (b:Addr):Prop:=∃ cs:X4,H b=some (.tup (cs.map V.ref))/\Paired (fun (x:X8) (c:Addr)=>H c=some (.tup (x.map V.int))) k cs
theorem NAt.mono {H H':Hp} {k:lC} {b:Addr} (x:NAt H k b) (t:∀ a xs,H a=some (.tup xs)->H' a=some (.tup xs)):NAt H' k b:=by
 obtain ⟨cs,h,r⟩:=x
 exact ⟨cs,t _ _ h,Paired.mapP r fun _ _ z=>t _ _ z⟩
end L2
end
section
namespace VS
open PySem PySem.Spec PyProof.Rows L2
noncomputable def sx (s:Tx):Str:=⟨s.toArray⟩
noncomputable def lA (s:Tx):Prop:=s.length<=dS/\∀ c∈s,c < 1114112
structure Gx where
 K:X0
 ct:Nat->Addr×(Nat->Str)
 me:Option Addr:=none
noncomputable def Gx.at (G:Gx) (m:Option Addr):Gx:=⟨G.K,G.ct,m⟩
noncomputable def aX:Key->T
 | .inl i=>.int i
 | .inr x=>.str x.cps.toList
noncomputable def nkT (k:lC):T:=.tup (k.map fun x=>T.tup (x.map T.int))
noncomputable def jC (K:X0) (H:Hp) (a:Addr) (ns:X8):Prop :=
 (∃ o,H a=some (.frz o (.lst (ns.map V.int)))) ∨
  ∃ (o:Obj) (its:Array Value) (n:Nat),K.lookup a=some o/\o.cls=.type "list" ∧ o.dict=none/\o.data=.seq its n/\its.size<=sizeLine/\aR (ns.map V.int) its.toList
mutual
inductive Rp (G:Gx) (H:Hp):V->T->X4->Prop
 | non:Rp G H .non .non []
 | bl (b:Bool):Rp G H (.bl b) (.bl b) []
 | int (i:Int):Rp G H (.int i) (.int i) []
 | str (s:Tx):lA s->Rp G H (.str (sx s)) (.str s) []
 | scr {a:Addr} {ns:X8}:jC G.K H a ns->Rp G H (.ref a) (.scr ns) []
 | tup {a:Addr} {vs:List V} {ts:Ww} {Fs:Xq}:H a=some (.tup vs)->RpL G H vs ts Fs->Rp G H (.ref a) (.tup ts) Fs.flatten
 | lst {a:Addr} {vs:List V} {ts:Ww} {Fs:Xq}:H a=some (.lst vs)->RpL G H vs ts Fs->Rp G H (.ref a) (.lst ts) (a :: Fs.flatten)
 | dct {a:Addr} {ks:List Key} {vs:List V} {ts:Ww} {Fs:Xq}:H a=some (.dK (ks.zip vs))->ks.length=vs.length->RpL G H vs ts Fs->Rp G H (.ref a) (.dct 0 ((ks.map aX).zip ts)) (a :: Fs.flatten)
 | dctT {a:Addr} {ks:List (List Key)} {vs:List V} {ts:Ww} {Fs:Xq}:H a=some (.dT (ks.zip vs))->ks.length=vs.length->RpL G H vs ts Fs->Rp G H (.ref a) (.dct 1 ((ks.map fun k=>T.tup (k.map aX)).zip ts)) (a :: Fs.flatten)
 | dctN {a:Addr} {ks:List (lC×Addr)} {vs:List V} {ts:Ww} {Fs:Xq}:H a=some (DN a ((ks.zip vs).map fun p=>(p.1.1,p.1.2,p.2)))->ks.length=vs.length->(∀ p∈ks,NAt H p.1 p.2)->RpL G H vs ts Fs->Rp G H (.ref a) (.dct 2 ((ks.map fun p=>nkT p.1).zip ts)) (a :: Fs.flatten)
 | dctZ {a:Addr} {o:Obj} {ks:List Key} {vs:List V} {ts:Ww} {Fs:Xq}:H a=some (.frz o (.dK (ks.zip vs)))->ks.length=vs.length->RpL G H vs ts Fs->Rp G H (.ref a) (.dct 3 ((ks.map aX).zip ts)) Fs.flatten
 | exc {c:Nat} {a:Addr} {o:Obj}:H a=some (.frz o (.own a))->(o.cls=.ref (G.ct c).1/\o.dict=none/\∃ vs,o.data=.fields vs)->Rp G H (.ref a) (.obj c []) []
 | ins {c:Nat} {a dx:Addr} {b:Bool} {ks:X7} {vs:List V} {ts:Ww} {Fs:Xq}:H a=some (.ins (G.ct (c+1)).1 dx ((ks.map (G.ct (c+1)).2).zip vs))->ks.length=vs.length->(b=true->G.me=some a)->RpL G H vs ts Fs->Rp G H (.ref a) (.obj (c+1) ((0,.bl b) :: ks.zip ts)) (a :: Fs.flatten)
inductive RpL (G:Gx) (H:Hp):List V->Ww->Xq->Prop
 | nil:RpL G H [] [] []
 | cons {v:V} {t:T} {F:X4} {vs:List V} {ts:Ww} {Fs:Xq}:Rp G H v t F->RpL G H vs ts Fs->RpL G H (v :: vs) (t :: ts) (F :: Fs)
end
structure Kept (H H':Hp):Prop where
 tup:∀ a xs,H a=some (.tup xs)->H' a=some (.tup xs)
 frz:∀ a o u,H a=some (.frz o u)->H' a=some (.frz o u)
theorem Kept.refl (H:Hp):Kept H H:=⟨fun _ _ h=>h,fun _ _ _ h=>h⟩
theorem Kept.trans {H H1 H2:Hp} (a:Kept H H1) (b:Kept H1 H2):Kept H H2:=⟨fun c x h=>b.tup c x (a.tup c x h),fun c o u h=>b.frz c o u (a.frz c o u h)⟩
theorem Kept.of {H H':Hp} (e:aP H H'):Kept H H':=⟨fun a _ h=>e a _ h,fun a _ _ h=>e a _ h⟩
theorem Kept.upd {H:Hp} {a:Addr} {o:HO} (mu:Mut (H a)\/H a=none):Kept H (upd H a o):=by
 have ne:∀ b u,H b=some u->¬ Mut (some u)->b ≠ a:=fun b u h nm e=>by
  subst e
  rcases mu with m | m
  ·rw [h] at m;exact nm m
  ·rw [h] at m;cases m
 exact ⟨fun b xs h=>by rw [aI (ne b _ h fun z=>z)];exact h,fun b o u h=>by rw [aI (ne b _ h fun z=>z)];exact h⟩
theorem jC.kept {K:X0} {H H':Hp} {a:Addr} {ns:X8} (h:jC K H a ns) (k:Kept H H'):jC K H' a ns:=by
 rcases h with ⟨o,e⟩ | h
 ·exact .inl ⟨o,k.frz _ _ _ e⟩
 ·exact .inr h
theorem jC.seq {K:X0} {H:Hp} {a:Addr} {ns:X8} (h:jC K H a ns):SqL K H a (ns.map V.int):=by
 rcases h with ⟨o,e⟩ | h
 ·exact .inl (.inr ⟨o,e⟩)
 ·exact .inr h
theorem oi {H H':Hp} {a:Addr} {F:X4} (f:∀ b∈a :: F,∀ o,H b=some o->H' b=some o):∀ b∈F,∀ o,H b=some o->H' b=some o:=fun b m=>f b (Zv _ m)
theorem qr {H H':Hp} {F:X4} {Fs:Xq} (f:∀ b∈(F :: Fs).flatten,∀ o,H b=some o->H' b=some o):(∀ b∈F,∀ o,H b=some o->H' b=some o)/\∀ b∈Fs.flatten,∀ o,H b=some o->H' b=some o:=by
 rw [ZL] at f
 exact ⟨fun b m=>f b (Z1 _ m),fun b m=>f b (ZU _ m)⟩
theorem Rp.keep {G:Gx} {H H':Hp} (k:Kept H H') {v:V} {t:T} {F:X4} (r:Rp G H v t F):(∀ a∈F,∀ o,H a=some o->H' a=some o)->Rp G H' v t F :=
 Rp.rec (motive_1:=fun v t F _=>(∀ a∈F,∀ o,H a=some o->H' a=some o)->Rp G H' v t F) (motive_2:=fun vs ts Fs _=>(∀ a∈Fs.flatten,∀ o,H a=some o->H' a=some o)->RpL G H' vs ts Fs)
  (fun _=>.non) (fun b _=>.bl b) (fun i _=>.int i) (fun s h _=>.str s h) (fun h _=>.scr (h.kept k)) (fun h _ ih f=>.tup (k.tup _ _ h) (ih f)) (fun h _ ih f=>.lst (f _ Zx _ h) (ih (oi f))) (fun h l _ ih f=>.dct (f _ Zx _ h) l (ih (oi f))) (fun h l _ ih f=>.dctT (f _ Zx _ h) l (ih (oi f)))
  (fun h l n _ ih f=>.dctN (f _ Zx _ h) l (fun p m=>(n p m).mono k.tup) (ih (oi f))) (fun h l _ ih f=>.dctZ (k.frz _ _ _ h) l (ih f)) (fun h hc _=>.exc (k.frz _ _ _ h) hc) (fun h l m _ ih f=>.ins (f _ Zx _ h) l m (ih (oi f))) (fun _=>.nil) (fun _ _ i1 i2 f=>.cons (i1 (qr f).1) (i2 (qr f).2)) r
theorem RpL.keep {G:Gx} {H H':Hp} (k:Kept H H'):∀ {vs:List V} {ts:Ww} {Fs:Xq},RpL G H vs ts Fs->(∀ a∈Fs.flatten,∀ o,H a=some o->H' a=some o)->RpL G H' vs ts Fs
 | _,_,_,.nil,_=>.nil
 | _,_,_,.cons r q,f=>.cons (r.keep k (qr f).1) (RpL.keep k q (qr f).2)
theorem Rp.same {G:Gx} {H H':Hp} (e:aP H H') {v:V} {t:T} {F:X4} (r:Rp G H v t F):Rp G H' v t F:=r.keep (Kept.of e) fun a _ o h=>e a o h
theorem RpL.same {G:Gx} {H H':Hp} (e:aP H H') {v:List V} {t:Ww} {F:Xq} (r:RpL G H v t F):RpL G H' v t F:=r.keep (Kept.of e) fun a _ o h=>e a o h
theorem u4 {H:Hp} {a:Addr} {F:X4} (h:Mut (H a)) (ih:∀ b∈F,Mut (H b)):∀ b∈a :: F,Mut (H b):=fun b m=>(Zi.mp m).elim (fun e=>e ▸ h) (ih b)
theorem tV {H:Hp} {a:Addr} {o:HO} (h:H a=some o) (m:Mut (some o)):Mut (H a):=by rw [h];exact m
theorem BJ {H:Hp} {F:X4} {Fs:Xq} (h1:∀ b∈F,Mut (H b)) (h2:∀ b∈Fs.flatten,Mut (H b)):∀ b∈(F :: Fs).flatten,Mut (H b):=fun b m=>by
 rw [ZL] at m
 exact (Zg.mp m).elim (h1 b) (h2 b)
theorem Rp.dom {G:Gx} {H:Hp} {v:V} {t:T} {F:X4} (r:Rp G H v t F):∀ a∈F,Mut (H a) :=
 Rp.rec (motive_1:=fun v t F _=>∀ a∈F,Mut (H a)) (motive_2:=fun vs ts Fs _=>∀ a∈Fs.flatten,Mut (H a))
  (fun _ m=>nomatch m) (fun _ _ m=>nomatch m) (fun _ _ m=>nomatch m) (fun _ _ _ m=>nomatch m) (fun _ _ m=>nomatch m) (fun _ _ ih=>ih) (fun h _ ih=>u4 (tV h True.intro) ih) (fun h _ _ ih=>u4 (tV h True.intro) ih) (fun h _ _ ih=>u4 (tV h True.intro) ih)
  (fun h _ _ _ ih=>u4 (tV h True.intro) ih) (fun _ _ _ ih=>ih) (fun _ _ _ m=>nomatch m) (fun h _ _ _ ih=>u4 (tV h True.intro) ih) (fun _ m=>nomatch m) (fun _ _ i1 i2=>BJ i1 i2) r
theorem RpL.dom {G:Gx} {H:Hp}:∀ {vs:List V} {ts:Ww} {Fs:Xq},RpL G H vs ts Fs->∀ a∈Fs.flatten,Mut (H a)
 | _,_,_,.nil=>fun _ m=>nomatch m
 | _,_,_,.cons r q=>BJ r.dom (RpL.dom q)
theorem Mut.ne_none {o:Option HO} (m:Mut o):o ≠ none:=fun e=>by subst e;exact m
theorem Bh {F:X4} {Fs:Xq} {t:T} {ts:Ww} (h1:VS.imm t=true->F=[]) (h2:VS.cY ts=true->Fs.flatten=[]) (i:VS.cY (t :: ts)=true):(F :: Fs).flatten=[]:=by
 simp only [VS.cY,Zc] at i
 rw [ZL,h1 i.1,h2 i.2]
 rfl
theorem Rp.imm {G:Gx} {H:Hp} {v:V} {t:T} {F:X4} (r:Rp G H v t F):VS.imm t=true->F=[] :=
 Rp.rec (motive_1:=fun v t F _=>VS.imm t=true->F=[]) (motive_2:=fun vs ts Fs _=>VS.cY ts=true->Fs.flatten=[])
  (fun _=>rfl) (fun _ _=>rfl) (fun _ _=>rfl) (fun _ _ _=>rfl) (fun _ _=>rfl) (fun _ _ ih i=>ih (by simpa [VS.imm] using i)) (fun _ _ _ i=>absurd (show false=true from i) Zh) (fun _ _ _ _ i=>absurd (show false=true from i) Zh) (fun _ _ _ _ i=>absurd (show false=true from i) Zh)
  (fun _ _ _ _ _ i=>absurd (show false=true from i) Zh) (fun _ _ _ _ i=>absurd (show false=true from i) Zh) (fun _ _ _=>rfl) (fun _ _ _ _ _ i=>absurd (show false=true from i) Zh) (fun _=>rfl) (fun _ _ i1 i2 i=>Bh i1 i2 i) r
theorem RpL.imm {G:Gx} {H:Hp}:∀ {vs:List V} {ts:Ww} {Fs:Xq},RpL G H vs ts Fs->VS.cY ts=true->Fs.flatten=[]
 | _,_,_,.nil,_=>rfl
 | _,_,_,.cons r q,i=>Bh r.imm (RpL.imm q) i
theorem RpL.len {G:Gx} {H:Hp}:∀ {vs:List V} {ts:Ww} {Fs:Xq},RpL G H vs ts Fs->vs.length=ts.length/\Fs.length=ts.length
 | _,_,_,.nil=>⟨rfl,rfl⟩
 | _,_,_,.cons _ q=>by
  have:=RpL.len q
  simp only [ZZ]
  lia
theorem RpL.get {G:Gx} {H:Hp}:∀ {vs:List V} {ts:Ww} {Fs:Xq} (i:Nat) {t:T},RpL G H vs ts Fs->ts[i]?=some t->∃ v F,vs[i]?=some v/\Fs[i]?=some F/\Rp G H v t F
 | _,_,_,_,_,.nil,e=>by simp at e
 | _,_,_,0,_,.cons r _,e=>by
  simp at e
  subst e
  exact ⟨_,_,rfl,rfl,r⟩
 | _,_,_,i+1,_,.cons _ q,e=>by
  obtain ⟨v,F,h1,h2,h3⟩:=RpL.get i q (by simpa using e)
  exact ⟨v,F,by simpa using h1,by simpa using h2,h3⟩
theorem RpL.append {G:Gx} {H:Hp}:∀ {vs:List V} {ts:Ww} {Fs:Xq} {us:List V} {rs:Ww} {Gs:Xq},RpL G H vs ts Fs->RpL G H us rs Gs->RpL G H (vs++us) (ts++rs) (Fs++Gs)
 | _,_,_,_,_,_,.nil,s=>s
 | _,_,_,_,_,_,.cons r q,s=>.cons r (RpL.append q s)
theorem RpL.take {G:Gx} {H:Hp}:∀ {vs:List V} {ts:Ww} {Fs:Xq} (n:Nat),RpL G H vs ts Fs->RpL G H (vs.take n) (ts.take n) (Fs.take n)
 | _,_,_,0,_=>by simpa using RpL.nil
 | _,_,_,n+1,.nil=>.nil
 | _,_,_,n+1,.cons r q=>.cons r (RpL.take n q)
theorem RpL.drop {G:Gx} {H:Hp}:∀ {vs:List V} {ts:Ww} {Fs:Xq} (n:Nat),RpL G H vs ts Fs->RpL G H (vs.drop n) (ts.drop n) (Fs.drop n)
 | _,_,_,0,q=>q
 | _,_,_,n+1,.nil=>.nil
 | _,_,_,n+1,.cons r q=>RpL.drop n q
noncomputable def iX:Cell->T
 | .pu t=>t
 | .ow t=>t
noncomputable abbrev Fps:=Nat->X4
structure SR (G:Gx) (Φ:Fps) (η:VS.Env) (σ:L2.St) (H:Hp):Prop where
 len:η.length=σ.length
 rp:∀ i c,η[i]?=some (some c)->∃ v,σ[i]?=some (some v)/\Rp G H v (iX c) (Φ i)
 nd:∀ i t,η[i]?=some (some (.ow t))->(Φ i).Nodup
 sep:∀ i j t c,η[i]?=some (some (.ow t))->η[j]?=some (some c)->i ≠ j->∀ a∈Φ i,a ∉ Φ j
noncomputable def dP (Φ:Fps) (η:VS.Env) (a:Addr):Prop:=∃ j t,η[j]?=some (some (.pu t))/\a∈Φ j
noncomputable def cG (Φ:Fps) (η:VS.Env) (a:Addr):Prop:=∃ j t,η[j]?=some (some (.ow t))/\a∈Φ j
noncomputable def Fp (Φ:Fps) (η:VS.Env) (H:Hp):Md->X4->Prop
 | .fr,F=>F.Nodup/\∀ a∈F,H a=none
 | .pu,F=>∀ a∈F,H a=none\/dP Φ η a
 | .bo,F=>∀ a∈F,H a=none\/dP Φ η a\/cG Φ η a
theorem SR.same {G:Gx} {Φ:Fps} {η:VS.Env} {σ:L2.St} {H H':Hp} (s:SR G Φ η σ H) (e:aP H H'):SR G Φ η σ H' :=
 ⟨s.len,fun i c h=>let ⟨v,h1,h2⟩:=s.rp i c h;⟨v,h1,h2.same e⟩,s.nd,s.sep⟩
theorem SR.pu_dom {G:Gx} {Φ:Fps} {η:VS.Env} {σ:L2.St} {H:Hp} {a:Addr} (s:SR G Φ η σ H) (h:dP Φ η a):Mut (H a):=by
 obtain ⟨j,t,h1,h2⟩:=h
 obtain ⟨v,_,r⟩:=s.rp j _ h1
 exact r.dom a h2
theorem SR.ow_dom {G:Gx} {Φ:Fps} {η:VS.Env} {σ:L2.St} {H:Hp} {a:Addr} (s:SR G Φ η σ H) (h:cG Φ η a):Mut (H a):=by
 obtain ⟨j,t,h1,h2⟩:=h
 obtain ⟨v,_,r⟩:=s.rp j _ h1
 exact r.dom a h2
theorem Fp.nil {Φ:Fps} {η:VS.Env} {H:Hp} {m:Md}:Fp Φ η H m []:=by
 cases m
 ·exact ⟨Yh,fun a h=>by simp at h⟩
 ·exact fun a h=>by simp at h
 ·exact fun a h=>by simp at h
theorem Fp.bo {Φ:Fps} {η:VS.Env} {H:Hp} {F:X4}:∀ {m:Md},Fp Φ η H m F->Fp Φ η H .bo F
 | .fr,h=>fun a m=>.inl (h.2 a m)
 | .pu,h=>fun a m=>(h a m).elim .inl fun z=>.inr (.inl z)
 | .bo,h=>h
theorem Fp.pu {Φ:Fps} {η:VS.Env} {H:Hp} {F:X4}:∀ {m:Md},m ≠ .bo->Fp Φ η H m F->Fp Φ η H .pu F
 | .fr,_,h=>fun a m=>.inl (h.2 a m)
 | .pu,_,h=>h
 | .bo,n,_=>absurd rfl n
theorem Fp.back {Φ:Fps} {η:VS.Env} {H H':Hp} (e:aP H H') {F:X4}:∀ {m:Md},Fp Φ η H' m F->Fp Φ η H m F
 | .fr,h=>⟨h.1,fun a m=>e.free (h.2 a m)⟩
 | .pu,h=>fun a m=>(h a m).imp e.free id
 | .bo,h=>fun a m=>(h a m).imp e.free id
theorem Fp.up {G:Gx} {Φ:Fps} {η:VS.Env} {H H':Hp} {m:Md} {v:V} {t:T} {F:X4} (f:Fp Φ η H m F) (r:Rp G H' v t F):Fp Φ η H (VS.up m t).1 F:=by
 unfold VS.up
 by_cases h:VS.imm t=true
 ·rw [r.imm h]
  exact Fp.nil
 ·simp only [h,if_false,YE]
  exact f
noncomputable def tE (G:Gx) (c:Ex):TE:=fun σ H Q=>∃ Φ η m r,SR G Φ η σ H/\c η=some (m,r)/\∀ v H' F,aP H H'->Rp G H' v r F->Fp Φ η H m F->Q v H'
noncomputable def PV (G:Gx) (X:Cx) (e:Expr) (c:Ex):Prop:=PE X e (tE G c)
theorem PE.weak {X:Cx} {e:Expr} {t t':TE} (h:PE X e t) (w:∀ σ H Q,t' σ H Q->t σ H Q):PE X e t':=fun pins s σ H Q I q=>h pins s σ H Q I (w σ H Q q)
theorem PT.weak {X:Cx} {e:Expr} {t t':TT} (h:PT X e t) (w:∀ σ H Q,t' σ H Q->t σ H Q):PT X e t':=fun pins s σ H Q I q=>h pins s σ H Q I (w σ H Q q)
theorem PA.weak {X:Cx} {e:List Expr} {t t':TA} (h:PA X e t) (w:∀ σ H Q,t' σ H Q->t σ H Q):PA X e t':=fun pos pins s σ H Q I q=>h pos pins s σ H Q I (w σ H Q q)
noncomputable def tT (G:Gx) (c:Ex):TT:=fun σ H Q=>∃ Φ η m r b,SR G Φ η σ H/\c η=some (m,r)/\tru r=some b/\∀ H',aP H H'->Q b H'
noncomputable def PVT (G:Gx) (X:Cx) (e:Expr) (c:Ex):Prop:=PT X e (tT G c)
noncomputable def frs (l:Wy) (Fs:Xq):X4:=match l,Fs with
 | v :: l,F :: Fs=>match v.1 with
  | .fr=>F++frs l Fs
  | _=>frs l Fs
 | _,_=>[]
structure FpL (Φ:Fps) (η:VS.Env) (H:Hp) (l:Wy) (Fs:Xq):Prop where
 each:∀ (i:Nat) v F,l[i]?=some v->Fs[i]?=some F->Fp Φ η H v.1 F
 nd:(frs l Fs).Nodup
noncomputable def tEs (G:Gx) (c:Exs):TA:=fun σ H Q=>∃ Φ η l,SR G Φ η σ H/\c η=some l/\∀ vs H' Fs,aP H H'->RpL G H' vs (trees l) Fs->FpL Φ η H l Fs->Q vs H'
noncomputable def PVs (G:Gx) (X:Cx) (es:List Expr) (c:Exs):Prop:=PA X es (tEs G c)
section
variable {G:Gx} {X:Cx} {a b c:Expr} {ca cb cc:Ex} {pos:Pos}
theorem zv {i j pos}:PV G X (.Constant (.int i) j pos) (eC (.int i)):=PE.weak pA fun σ H Q hq=>by
 obtain ⟨Φ,η,m,r,s,e,k⟩:=hq
 cases (show some (Md.fr,T.int i)=some (m,r) from e)
 exact k _ _ _ (aP.refl _) (.int i) Fp.nil
theorem Bf {i j pos}:PV G X (.Constant (.bool i) j pos) (eC (.bl i)):=PE.weak AY fun σ H Q hq=>by
 obtain ⟨Φ,η,m,r,s,e,k⟩:=hq
 cases (show some (Md.fr,T.bl i)=some (m,r) from e)
 exact k _ _ _ (aP.refl _) (.bl i) Fp.nil
theorem yn {j pos}:PV G X (.Constant .none j pos) (eC .non):=PE.weak zZ fun σ H Q hq=>by
 obtain ⟨Φ,η,m,r,s,e,k⟩:=hq
 cases (show some (Md.fr,T.non)=some (m,r) from e)
 exact k _ _ _ (aP.refl _) .non Fp.nil
theorem Ar {x:Str} {t:Tx} {j pos} (h:x=sx t:=by decide +kernel) (hl:lA t:=by decide):PV G X (.Constant (.str x) j pos) (eC (.str t)):=PE.weak yk fun σ H Q hq=>by
 obtain ⟨Φ,η,m,r,s,e,k⟩:=hq
 cases (show some (Md.fr,T.str t)=some (m,r) from e)
 subst h
 exact k _ _ _ (aP.refl _) (.str t hl) Fp.nil
theorem AN (i:Nat) {x:Str} {pos:Pos} (hN:X.N[i]?=some x:=by rfl) (hv:Vis X.env.scope x:=by first | exact Or.inl rfl | exact Or.inr (Or.inl rfl) | exact Or.inr (Or.inr rfl)) (hd:(x == ("__debug__" : Str))=false:=by decide)
  (hcd:(x == ("__classdict__" : Str))=false:=by decide):PV G X (.Name x pos) (ab i):=PE.weak (gm hN hv hd hcd) fun σ H Q hq=>by
 obtain ⟨Φ,η,m,r,s,e,k⟩:=hq
 unfold ab at e
 split at e
 ·rename_i t h
  obtain ⟨v,h1,h2⟩:=s.rp _ _ h
  have e':VS.up .pu t=(m,r):=Zo e
  have er:t=r:=congrArg Prod.snd e'
  have em:(VS.up .pu t).1=m:=congrArg Prod.fst e'
  rw [← er,← em] at k
  refine ⟨v,h1,k v H (Φ i) (aP.refl _) h2 ?_⟩
  have f:Fp Φ η H .pu (Φ i):=fun a ha=>.inr ⟨i,_,h,ha⟩
  exact f.up h2
 ·rename_i t h
  obtain ⟨v,h1,h2⟩:=s.rp _ _ h
  cases e
  exact ⟨v,h1,k v H (Φ i) (aP.refl _) h2 fun a ha=>.inr (.inr ⟨i,_,h,ha⟩)⟩
 ·cases e
theorem xC {x:Str} {u:Value} {v:V} {t:T} {pos:Pos} (hg:Gl X x) (hm:X.mg x=some u) (r:RelV v u) (hr:∀ H,Rp G H v t []) (hd:(x == ("__debug__" : Str))=false:=by decide):PV G X (.Name x pos) (eC t) :=
 PE.weak (xF hg hm r hd) fun σ H Q hq=>by
  obtain ⟨Φ,η,m,t',s,e,k⟩:=hq
  cases (show some (Md.fr,t)=some (m,t') from e)
  exact k _ _ _ (aP.refl _) (hr H) Fp.nil
structure Two (G:Gx) (Φ:Fps) (η:VS.Env) (H0 H:Hp) (x y:Val) (u w:V) (F1 F2:X4):Prop where
 same:aP H0 H
 r1:Rp G H u x.2 F1
 r2:Rp G H w y.2 F2
 f1:Fp Φ η H0 x.1 F1
 f2:Fp Φ η H0 y.1 F2
 nd:x.1=.fr->y.1=.fr->(F1++F2).Nodup
noncomputable def fB (G:Gx) (r:R2) (f:Val->Val->Wx):Prop:=∀ (Φ:Fps) (η:VS.Env) (H0 H:Hp) (x y:Val) (u w:V) (F1 F2:X4) (m:Md) (t:T) (Q:VK),Two G Φ η H0 H x y u w F1 F2->f x y=some (m,t) →
 (∀ v H' F,aP H H'->Rp G H' v t F->Fp Φ η H0 m F->Q v H')->r u w H Q
theorem sT {σ:L2.St} {H:Hp} {Q:V->V->Hp->Prop} {Φ:Fps} {η:VS.Env} {x y:Val} (s:SR G Φ η σ H) (ea:ca η=some x) (eb:cb η=some y)
  (k:∀ u w H2 F1 F2,Two G Φ η H H2 x y u w F1 F2->Q u w H2):tE G ca σ H fun u H1=>tE G cb σ H1 fun w H2=>Q u w H2:=by
 refine ⟨Φ,η,x.1,x.2,s,ea,fun u H1 F1 e1 r1 f1=>⟨Φ,η,y.1,y.2,s.same e1,eb,fun w H2 F2 e2 r2 f2=>k u w H2 F1 F2 ⟨e1.trans e2,r1.same e2,r2,f1,f2.back e1,fun hx hy=>?_⟩⟩⟩
 rw [hx] at f1
 rw [hy] at f2
 refine ZV.mpr ⟨f1.1,f2.1,fun a ha b hb z=>?_⟩
 subst z
 exact Mut.ne_none (r1.dom a ha) (f2.2 a hb)
theorem jb {r:R2} {f:Val->Val->Wx} (ok:fB G r f) {σ:L2.St} {H:Hp} {Q:VK} (h:tE G (e2 f ca cb) σ H Q):tOp r (tE G ca) (tE G cb) σ H Q:=by
 obtain ⟨Φ,η,m,t,s,e,k⟩:=h
 unfold e2 at e
 obtain ⟨x,ea,e⟩:=Zz.mp e
 obtain ⟨y,eb,e⟩:=Zz.mp e
 exact sT s ea eb fun u w H2 F1 F2 tw=>ok Φ η H H2 x y u w F1 F2 m t Q tw e fun v H' F e1 r1 f1=>k v H' F (tw.same.trans e1) r1 f1
theorem nz {op:Operator} {r:R2} {f:Val->Val->Wx} (ho:OpR X (binaryOp op) r) (ok:fB G r f) (ha:PV G X a ca) (hb:PV G X b cb):PV G X (.BinOp a op b pos) (e2 f ca cb) :=
 PE.weak (A4 ho ha hb) fun σ H Q h=>jb ok h
theorem Ab {op:CmpOp} {r:R2} {f:Val->Val->Wx} (ho:OpR X (compareOp op) r) (ok:fB G r f) (ha:PV G X a ca) (hb:PV G X b cb) (hm:behindInMarks op b=false):PV G X (.Compare a [op] [b] pos) (e2 f ca cb) :=
 PE.weak (vP ho ha hb hm) fun σ H Q h=>jb ok h
noncomputable def Tells (f:Val->Val->Wx):Prop:=∀ x y m t,f x y=some (m,t)->∃ b,t=.bl b
theorem Rp.bl_inv {H:Hp} {v:V} {b:Bool} {F:X4} (r:Rp G H v (.bl b) F):v=.bl b:=by cases r;rfl
theorem Rp.int_inv {H:Hp} {v:V} {b:Int} {F:X4} (r:Rp G H v (.int b) F):v=.int b:=by cases r;rfl
theorem Rp.str_inv {H:Hp} {v:V} {b:Tx} {F:X4} (r:Rp G H v (.str b) F):v=.str (sx b)/\lA b:=by cases r with | str _ h=>exact ⟨rfl,h⟩
theorem ni {c:Ex} {t:TE} {σ:L2.St} {H:Hp} {Q:Bool->Hp->Prop} (h:tT G c σ H Q) (ht:∀ η m r,c η=some (m,r)->∃ b,r=.bl b) (w:∀ Q,tE G c σ H Q->t σ H Q):so t σ H Q:=by
 obtain ⟨Φ,η,m,r,b,s,e,eb,k⟩:=h
 refine w _ ⟨Φ,η,m,r,s,e,fun v H' F e1 r1 f1=>?_⟩
 obtain ⟨b',er⟩:=ht η m r e
 rw [er] at eb r1
 cases (show some b'=some b from eb)
 exact ⟨_,r1.bl_inv,k H' e1⟩
theorem fZ {op:CmpOp} {r:R2} {f:Val->Val->Wx} (ho:OpR X (compareOp op) r) (ok:fB G r f) (ht:Tells f) (ha:PV G X a ca) (hb:PV G X b cb) (hm:behindInMarks op b=false):PVT G X (.Compare a [op] [b] pos) (e2 f ca cb) :=
 PT.weak (v7 ho ha hb hm) fun σ H Q h=>ni h (fun η m r e=>by
  unfold e2 at e
  obtain ⟨x,_,e⟩:=Zz.mp e
  obtain ⟨y,_,e⟩:=Zz.mp e
  exact ht x y m r e) fun Q h=>jb ok h
theorem bA {Φ:Fps} {η:VS.Env} {H0 H:Hp} {m:Md} {t:T} {v:V} {Q:VK} (k:∀ v H' F,aP H H'->Rp G H' v t F->Fp Φ η H0 m F->Q v H') (r:Rp G H v t []):Q v H:=k v H [] (aP.refl _) r Fp.nil
theorem dM {H:Hp} {p:Addr} {o:HO} (h:H p=none):aP H (upd H p o):=fun b o' e=>by rw [aI (dR e h)];exact e
theorem Fp.new {Φ:Fps} {η:VS.Env} {H0:Hp} {p:Addr} {F:X4} (h0:H0 p=none) (hp:p ∉ F):∀ {m:Md},Fp Φ η H0 m F->Fp Φ η H0 m (p :: F)
 | .fr,f=>⟨Ze.mpr ⟨hp,f.1⟩,fun a m=>(Zi.mp m).elim (fun e=>by rw [e];exact h0) (f.2 a)⟩
 | .pu,f=>fun a m=>(Zi.mp m).elim (fun e=>by rw [e];exact .inl h0) (f a)
 | .bo,f=>fun a m=>(Zi.mp m).elim (fun e=>by rw [e];exact .inl h0) (f a)
theorem nc {mj m:Md} {l:Ww} {t:T} (e:mkL mj l=some (m,t)):t=.lst l/\l.length<=dS/\m=(if cY l then .fr else mj):=by
 unfold mkL at e
 split at e
 ·rename_i h
  cases e
  exact ⟨rfl,h,rfl⟩
 ·cases e
theorem g6 {Φ:Fps} {η:VS.Env} {H0 H:Hp} {mj m:Md} {l:Ww} {t:T} {vs:List V} {Fs:Xq} {Q:VK} (same:aP H0 H) (e:mkL mj l=some (m,t)) (r:RpL G H vs l Fs) (f:Fp Φ η H0 mj Fs.flatten)
  (k:∀ v H' F,aP H H'->Rp G H' v t F->Fp Φ η H0 m F->Q v H'):∀ p,H p=none->Q (.ref p) (upd H p (.lst vs)):=by
 intro p hp
 obtain ⟨rfl,hl,rfl⟩:=nc e
 refine k _ _ _ (dM hp) (.lst aD (r.same (dM hp))) ?_
 have np:p ∉ Fs.flatten:=fun m=>Mut.ne_none (r.dom p m) hp
 by_cases hi:cY l=true
 ·rw [hi,Zq rfl]
  rw [r.imm hi] at np ⊢
  exact Fp.nil.new (same.free hp) np
 ·rw [Zn hi]
  exact f.new (same.free hp) np
theorem Two.join {Φ:Fps} {η:VS.Env} {H0 H:Hp} {x y:Val} {u w:V} {F1 F2:X4} (tw:Two G Φ η H0 H x y u w F1 F2) {F:X4} (hF:F.Sublist (F1++F2)):Fp Φ η H0 (x.1.join y.1) F:=by
 obtain ⟨same,r1,r2,f1,f2,nd⟩:=tw
 have split:∀ a∈F,a∈F1\/a∈F2:=fun a ha=>Zg.mp (hF.subset ha)
 obtain ⟨m1,x⟩:=x
 obtain ⟨m2,y⟩:=y
 have both:∀ {P:Addr->Prop},(∀ a∈F1,P a)->(∀ a∈F2,P a)->∀ a∈F,P a:=fun h1 h2 a ha=>(split a ha).elim (h1 a) (h2 a)
 cases m1 <;> cases m2
 ·exact ⟨(nd rfl rfl).sublist hF,both f1.2 f2.2⟩
 ·exact both (fun a ha=>.inl (f1.2 a ha)) f2
 ·exact both (fun a ha=>.inl (f1.2 a ha)) f2
 ·exact both f1 (fun a ha=>.inl (f2.2 a ha))
 ·exact both f1 f2
 ·exact both (f1.bo) f2
 ·exact both f1 (fun a ha=>.inl (f2.2 a ha))
 ·exact both f1 (f2.bo)
 ·exact both f1 f2
theorem fJ:dS=sizeLine:=rfl
theorem dI (s:Tx):(sx s).length=s.length:=rfl
theorem zO (s t:Tx):sx s++sx t=sx (s++t):=by
 show Str.append (sx s) (sx t)=_
 simp [sx,Str.append]
theorem Rp.lst_inv {H:Hp} {v:V} {l:Ww} {F:X4} (r:Rp G H v (.lst l) F):∃ a vs Fs,v=.ref a/\F=a :: Fs.flatten/\H a=some (.lst vs)/\RpL G H vs l Fs:=by
 cases r with
 | lst h q=>exact ⟨_,_,_,rfl,rfl,h,q⟩
theorem Rp.tup_inv {H:Hp} {v:V} {l:Ww} {F:X4} (r:Rp G H v (.tup l) F):∃ a vs Fs,v=.ref a/\F=Fs.flatten/\H a=some (.tup vs)/\RpL G H vs l Fs:=by
 cases r with
 | tup h q=>exact ⟨_,_,_,rfl,rfl,h,q⟩
theorem Rp.scr_inv {H:Hp} {v:V} {l:X8} {F:X4} (r:Rp G H v (.scr l) F):∃ a,v=.ref a/\F=[]/\jC G.K H a l:=by
 cases r with
 | scr h=>exact ⟨_,rfl,rfl,h⟩
end
section
variable {G:Gx} {X:Cx}
noncomputable def Cb:R2:=fun x y H Q=>rI0 (fun i j=>.int (i+j)) x y H Q\/(∃ i j,x=.str i/\y=.str j/\i.length+j.length<=sizeLine/\Q (.str (i++j)) H)\/Bq x y H Q
theorem we:OpR X (binaryOp .Add) Cb:=yO.or (oZ.or AE)
theorem yr:fB G Cb cH:=by
 intro Φ η H0 H x y u w F1 F2 m t Q tw e k
 have jn:=fun {F:X4} (h:List.Sublist F (F1++F2))=>tw.join h
 obtain ⟨m1,x⟩:=x
 obtain ⟨m2,y⟩:=y
 obtain ⟨same,r1,r2,f1,f2,nd⟩:=tw
 unfold cH at e
 split at e
 ·rename_i i _ j e1 e2
  cases e1
  cases e2
  cases e
  exact .inl ⟨_,_,r1.int_inv,r2.int_inv,bA k (.int _)⟩
 ·rename_i s _ s' e1 e2
  cases e1
  cases e2
  split at e
  ·rename_i hl
   cases e
   refine .inr (.inl ⟨_,_,r1.str_inv.1,r2.str_inv.1,by rw [dI,dI,← fJ];exact hl,?_⟩)
   rw [zO]
   exact bA k (.str _ ⟨by rw [Zt];exact hl,fun c hc=>(Zg.mp hc).elim (r1.str_inv.2.2 c) (r2.str_inv.2.2 c)⟩)
  ·cases e
 ·rename_i s _ s' e1 e2
  cases e1
  cases e2
  obtain ⟨a,vs,Fs,rfl,rfl,ha,ra⟩:=r1.lst_inv
  obtain ⟨b,us,Gs,rfl,rfl,hb,rb⟩:=r2.lst_inv
  obtain ⟨_,hl,_⟩:=nc e
  refine .inr (.inr ⟨a,b,vs,us,rfl,rfl,ha,hb,?_,g6 same e (ra.append rb) (jn ?_) k⟩)
  ·rw [Zt] at hl
   rw [ra.len.1,rb.len.1,← fJ]
   exact hl
  ·rw [Z8]
   exact (Z2 _ _).append (Z2 _ _)
 ·cases e
theorem ze:fB G (rI0 fun i j=>.int (i - j)) jL:=by
 intro Φ η H0 H x y u w F1 F2 m t Q tw e k
 obtain ⟨m1,x⟩:=x
 obtain ⟨m2,y⟩:=y
 obtain ⟨same,r1,r2,f1,f2,nd⟩:=tw
 unfold jL at e
 split at e
 ·rename_i e1 e2
  cases e1
  cases e2
  cases e
  exact ⟨_,_,r1.int_inv,r2.int_inv,bA k (.int _)⟩
 ·cases e
theorem xN:fB G (rI Bb fun i j=>.int (i / j)) eI:=by
 intro Φ η H0 H x y u w F1 F2 m t Q tw e k
 obtain ⟨m1,x⟩:=x
 obtain ⟨m2,y⟩:=y
 obtain ⟨same,r1,r2,f1,f2,nd⟩:=tw
 unfold eI at e
 split at e
 ·rename_i e1 e2
  cases e1
  cases e2
  split at e
  ·rename_i h
   cases e
   exact ⟨_,_,r1.int_inv,r2.int_inv,h,bA k (.int _)⟩
  ·cases e
 ·cases e
theorem zo:fB G (rI (fun _ j=>0 < j) fun i j=>.int (i % j)) oMod:=by
 intro Φ η H0 H x y u w F1 F2 m t Q tw e k
 obtain ⟨m1,x⟩:=x
 obtain ⟨m2,y⟩:=y
 obtain ⟨same,r1,r2,f1,f2,nd⟩:=tw
 unfold oMod at e
 split at e
 ·rename_i e1 e2
  cases e1
  cases e2
  split at e
  ·rename_i h
   cases e
   exact ⟨_,_,r1.int_inv,r2.int_inv,h,bA k (.int _)⟩
  ·cases e
 ·cases e
theorem j9:∀ (s t:Tx),ltx s t=decide (s < t)
 | [],[]=>by simp [ltx]
 | [],_ :: _=>by simp [ltx]
 | _ :: _,[]=>by simp [ltx]
 | a :: s,b :: t=>by
  unfold ltx
  rw [j9 s t]
  by_cases h1:a < b
  ·simp [h1,Y3]
  ·by_cases h2:b < a
   ·have:¬ a=b:=by exact Nat.ne_of_gt h2
    simp [h1,h2,Y3,this]
   ·have:a=b:=by lia
    subst this
    simp [Y3]
noncomputable def rLt:R2:=fun x y H Q=>rI0 (fun i j=>.bl (decide (i < j))) x y H Q\/(∃ i j,x=.str i/\y=.str j/\Q (.bl (decide (i.cps.toList < j.cps.toList))) H)
theorem um:OpR X (compareOp .Lt) rLt:=AZ.or rA
theorem yb:fB G rLt oLt:=by
 intro Φ η H0 H x y u w F1 F2 m t Q tw e k
 obtain ⟨m1,x⟩:=x
 obtain ⟨m2,y⟩:=y
 obtain ⟨same,r1,r2,f1,f2,nd⟩:=tw
 unfold oLt at e
 split at e
 ·rename_i e1 e2
  cases e1
  cases e2
  cases e
  exact .inl ⟨_,_,r1.int_inv,r2.int_inv,bA k (.bl _)⟩
 ·rename_i s _ s' e1 e2
  cases e1
  cases e2
  cases e
  refine .inr ⟨_,_,r1.str_inv.1,r2.str_inv.1,?_⟩
  have:decide ((sx s).cps.toList < (sx s').cps.toList)=ltx s s':=by rw [j9];exact decide_eq_decide.mpr (by simp [sx])
  rw [this]
  exact bA k (.bl _)
 ·cases e
theorem kh:Tells oLt:=by
 intro x y m t e
 unfold oLt at e
 split at e <;> first | (cases e;exact ⟨_,rfl⟩) | cases e
theorem yT:B64=2 ^ 64:=rfl
theorem yq:fB G (rI xh fun i j=>.int (i * j)) lr:=by
 intro Φ η H0 H x y u w F1 F2 m t Q tw e k
 obtain ⟨m1,x⟩:=x
 obtain ⟨m2,y⟩:=y
 obtain ⟨same,r1,r2,f1,f2,nd⟩:=tw
 unfold lr at e
 split at e
 ·rename_i e1 e2
  cases e1
  cases e2
  split at e
  ·rename_i h
   cases e
   refine ⟨_,_,r1.int_inv,r2.int_inv,?_,bA k (.int _)⟩
   rw [yT] at h
   exact h
  ·cases e
 ·cases e
theorem rB:OpR X (compareOp .LtE) (fun x y H Q=>∃ i j,x=.str i/\y=.str j/\Q (.bl (!decide (j.cps.toList < i.cps.toList))) H):=by
 intro pins s σ H x y v u Q I rx ry h
 obtain ⟨i,j,rfl,rfl,q⟩:=h
 obtain ⟨t,rfl⟩:=rx
 obtain ⟨t',rfl⟩:=ry
 exact PySem.P.le_str ⟨.bl _,H,I,rfl,q⟩
noncomputable def rLe:R2:=fun x y H Q=>rI0 (fun i j=>.bl (decide (i<=j))) x y H Q\/(∃ i j,x=.str i/\y=.str j/\Q (.bl (!decide (j.cps.toList < i.cps.toList))) H)
theorem zJ:OpR X (compareOp .LtE) rLe:=BN.or rB
theorem BS:fB G rLe oLe:=by
 intro Φ η H0 H x y u w F1 F2 m t Q tw e k
 obtain ⟨m1,x⟩:=x
 obtain ⟨m2,y⟩:=y
 obtain ⟨same,r1,r2,f1,f2,nd⟩:=tw
 unfold oLe at e
 split at e
 ·rename_i e1 e2
  cases e1
  cases e2
  cases e
  exact .inl ⟨_,_,r1.int_inv,r2.int_inv,bA k (.bl _)⟩
 ·rename_i s _ s' e1 e2
  cases e1
  cases e2
  cases e
  refine .inr ⟨_,_,r1.str_inv.1,r2.str_inv.1,?_⟩
  have:decide ((sx s').cps.toList < (sx s).cps.toList)=ltx s' s:=by rw [j9];exact decide_eq_decide.mpr (by simp [sx])
  rw [this]
  exact bA k (.bl _)
 ·cases e
theorem sI:Tells oLe:=by
 intro x y m t e
 unfold oLe at e
 split at e <;> first | (cases e;exact ⟨_,rfl⟩) | cases e
theorem pw {n:Nat} {i:Int}:ixP n i=ixN n i:=by
 unfold ixP ixN
 by_cases h:0<=i
 ·rw [Zq h,Zq h]
 ·rw [Zn h,Zn h]
  by_cases h2:0<=i+n
  ·rw [Zq h2,Zq (by lia)]
  ·rw [Zn h2,Zn (by lia)]
theorem j3 {α:Type} {l:List α} {i:Int} {k:Nat} {x:α} (h1:ixP l.length i=some k) (h2:l[k]?=some x):atI l i=some x:=by
 unfold atI
 rw [← pw,h1]
 exact h2
theorem dq {Fs:Xq} {F:X4} {i:Nat} (h:Fs[i]?=some F):F.Sublist Fs.flatten:=by
 obtain ⟨hi,rfl⟩:=Zf.mp h
 exact List.sublist_flatten_of_mem (Z7 hi)
theorem Fp.sub {Φ:Fps} {η:VS.Env} {H:Hp} {F F':X4} (h:F.Sublist F'):∀ {m:Md},Fp Φ η H m F'->Fp Φ η H m F
 | .fr,f=>⟨f.1.sublist h,fun a ha=>f.2 a (h.subset ha)⟩
 | .pu,f=>fun a ha=>f a (h.subset ha)
 | .bo,f=>fun a ha=>f a (h.subset ha)
theorem vm:fB G (rIx G.K) aJ:=by
 intro Φ η H0 H x y u w F1 F2 m t Q tw e k
 obtain ⟨m1,x⟩:=x
 obtain ⟨m2,y⟩:=y
 obtain ⟨same,r1,r2,f1,f2,nd⟩:=tw
 unfold aJ at e
 split at e
 ·rename_i m3 l m4 i e1 e2
  cases e1
  cases e2
  obtain ⟨j,h1,e⟩:=Zz.mp e
  obtain ⟨x,h2,e⟩:=Zw.mp e
  obtain ⟨a,vs,Fs,rfl,rfl,ha,ra⟩:=r1.lst_inv
  obtain ⟨v,F,g1,g2,g3⟩:=ra.get j h2
  refine .inl ⟨a,vs,i,v,rfl,r2.int_inv,SqL.of ha,j3 (by rw [ra.len.1];exact h1) g1,?_⟩
  have f:=((f1.sub (Z2 _ _)).sub (dq g2)).up g3
  unfold VS.sub at e
  rw [e] at f
  have et:x=t:=congrArg Prod.snd e
  rw [et] at g3
  exact k v H F (aP.refl _) g3 f
 ·rename_i m3 l m4 i e1 e2
  cases e1
  cases e2
  obtain ⟨j,h1,e⟩:=Zz.mp e
  obtain ⟨x,h2,e⟩:=Zw.mp e
  obtain ⟨a,vs,Fs,rfl,rfl,ha,ra⟩:=r1.tup_inv
  obtain ⟨v,F,g1,g2,g3⟩:=ra.get j h2
  refine .inr (.inl ⟨a,vs,i,v,rfl,r2.int_inv,SqT.of ha,j3 (by rw [ra.len.1];exact h1) g1,?_⟩)
  have f:=(f1.sub (dq g2)).up g3
  unfold VS.sub at e
  rw [e] at f
  have et:x=t:=congrArg Prod.snd e
  rw [et] at g3
  exact k v H F (aP.refl _) g3 f
 ·rename_i m3 l m4 i e1 e2
  cases e1
  cases e2
  obtain ⟨j,h1,e⟩:=Zz.mp e
  obtain ⟨x,h2,e⟩:=Zw.mp e
  cases e
  obtain ⟨a,rfl,rfl,sa⟩:=r1.scr_inv
  refine .inl ⟨a,l.map V.int,i,.int x,rfl,r2.int_inv,sa.seq,j3 (by rw [Zy];exact h1) (by rw [ZQ,h2];rfl),bA k (.int _)⟩
 ·rename_i m3 l m4 i e1 e2
  cases e1
  cases e2
  obtain ⟨j,h1,e⟩:=Zz.mp e
  obtain ⟨x,h2,e⟩:=Zw.mp e
  cases e
  obtain ⟨rfl,hl⟩:=r1.str_inv
  refine .inr (.inr ⟨sx l,i,x,rfl,r2.int_inv,by rw [dI,← fJ];exact hl.1,j3 (k:=j) (by simpa [sx] using h1) (by simpa [sx] using h2),?_⟩)
  exact bA k (.str [x] ⟨by show 1<=dS;decide,fun c hc=>by rw [Zj.mp hc];exact hl.2 x (YL h2)⟩)
 ·cases e
end
section
variable {G:Gx} {X:Cx} {a b c e:Expr} {es:List Expr} {ca cb cc:Ex} {cs:Exs} {pos p:Pos}
theorem p8 {x:Addr}:∀ {l:Wy} {Fs:Xq},x∈frs l Fs->∃ (i:Nat) (v:Val) (F:X4),l[i]?=some v/\v.1=.fr/\Fs[i]?=some F/\x∈F
 | [],_,h=>by simp [frs] at h
 | _ :: _,[],h=>by simp [frs] at h
 | v :: l,F :: Fs,h=>by
  have go:x∈frs l Fs->∃ (i:Nat) (u:Val) (F':X4),(v :: l)[i]?=some u/\u.1=.fr/\(F :: Fs)[i]?=some F'/\x∈F':=fun m=>by
   obtain ⟨i,u,F',h1,h2,h3,h4⟩:=p8 m
   exact ⟨i+1,u,F',by simpa using h1,h2,by simpa using h3,h4⟩
  unfold frs at h
  split at h
  ·rename_i hv
   rcases Zg.mp h with h | h
   ·exact ⟨0,v,F,rfl,hv,rfl,h⟩
   ·exact go h
  ·exact go h
theorem xm:PVs G X [] ai:=PA.weak ng fun σ H Q hq=>by
 obtain ⟨Φ,η,l,s,e,k⟩:=hq
 cases (show some ([]:Wy)=some l from e)
 exact k [] H [] (aP.refl _) .nil ⟨fun i v F h=>by simp at h,by simp [frs]⟩
theorem tu (ha:PV G X e ca) (hr:PVs G X es cs) (hs:starEach (e :: es) X.env=(false,eval e X.env) :: starEach es X.env:=by rfl):PVs G X (e :: es) (ae ca cs):=PA.weak (gT ha hr hs) fun σ H Q hq=>by
 obtain ⟨Φ,η,l,s,e,k⟩:=hq
 unfold ae at e
 obtain ⟨x,ea,e⟩:=Zz.mp e
 obtain ⟨xs,er,e⟩:=Zz.mp e
 cases e
 refine ⟨Φ,η,x.1,x.2,s,ea,fun v H1 F e1 r1 f1=>⟨Φ,η,xs,s.same e1,er,fun vs H2 Fs e2 r2 f2=>k (v :: vs) H2 (F :: Fs) (e1.trans e2) (.cons (r1.same e2) r2) ⟨fun i u F' h1 h2=>?_,?_⟩⟩⟩
 ·cases i with
  | zero =>
   cases (show some x=some u from h1)
   cases (show some F=some F' from h2)
   exact f1
  | succ i=>exact (f2.each i u F' (by simpa using h1) (by simpa using h2)).back e1
 ·unfold frs
  split
  ·rename_i hx
   rw [hx] at f1
   refine ZV.mpr ⟨f1.1,f2.nd,fun y hy z hz q=>?_⟩
   subst q
   obtain ⟨i,u,F',h1,h2,h3,h4⟩:=p8 hz
   have f:=f2.each i u F' h1 h3
   rw [h2] at f
   exact Mut.ne_none (r1.dom y hy) (f.2 y h4)
  ·exact f2.nd
theorem iF:∀ {l:Wy},cA l=.fr->∀ v∈l,v.1=.fr
 | [],_,v,h=>by simp at h
 | (m,t) :: r,e,v,h=>by
  have e':m.join (cA r)=.fr:=e
  have h1:m=.fr:=by
   revert e'
   cases m <;> cases cA r <;> simp [Md.join]
  have h2:cA r=.fr:=by
   revert e'
   cases m <;> cases cA r <;> simp [Md.join]
  rcases Zi.mp h with rfl | h
  ·exact h1
  ·exact iF h2 v h
theorem iK:∀ {l:Wy},cA l ≠ .bo->∀ v∈l,v.1 ≠ .bo
 | [],_,v,h=>by simp at h
 | (m,t) :: r,e,v,h=>by
  have e':m.join (cA r) ≠ .bo:=e
  have h1:m ≠ .bo:=by
   revert e'
   cases m <;> cases cA r <;> simp [Md.join]
  have h2:cA r ≠ .bo:=by
   revert e'
   cases m <;> cases cA r <;> simp [Md.join]
  rcases Zi.mp h with rfl | h
  ·exact h1
  ·exact iK h2 v h
theorem pK:∀ {l:Wy} {Fs:Xq},l.length=Fs.length->(∀ v∈l,v.1=.fr)->frs l Fs=Fs.flatten
 | [],[],_,_=>rfl
 | [],_ :: _,h,_=>by simp at h
 | _ :: _,[],h,_=>by simp at h
 | v :: l,F :: Fs,h,q=>by
  unfold frs
  rw [q v Zx,pK (by simpa using h) fun u hu=>q u (Zv _ hu)]
  rfl
theorem eZ {x:Addr} {Fs:Xq} (h:x∈Fs.flatten):∃ (i:Nat) (F:X4),Fs[i]?=some F/\x∈F:=by
 obtain ⟨F,hF,hx⟩:=List.mem_flatten.mp h
 obtain ⟨i,hi⟩:=List.mem_iff_getElem?.mp hF
 exact ⟨i,F,hi,hx⟩
theorem FpL.join {Φ:Fps} {η:VS.Env} {H:Hp} {l:Wy} {Fs:Xq} (f:FpL Φ η H l Fs) (hl:l.length=Fs.length):Fp Φ η H (cA l) Fs.flatten:=by
 have at':∀ x∈Fs.flatten,∃ v F,v∈l/\x∈F/\Fp Φ η H v.1 F:=fun x hx=>by
  obtain ⟨i,F,hi,hxF⟩:=eZ hx
  have:i < l.length:=by
   have:=(Zf.mp hi).1
   lia
  exact ⟨l[i],F,Z7 this,hxF,f.each i _ F (Zm this) hi⟩
 cases e:cA l with
 | fr =>
  have al:=iF e
  refine ⟨by rw [← pK hl al];exact f.nd,fun x hx=>?_⟩
  obtain ⟨v,F,hv,hxF,q⟩:=at' x hx
  rw [al v hv] at q
  exact q.2 x hxF
 | pu =>
  have al:=iK (l:=l) (by rw [e];decide)
  intro x hx
  obtain ⟨v,F,hv,hxF,q⟩:=at' x hx
  exact Fp.pu (al v hv) q x hxF
 | bo =>
  intro x hx
  obtain ⟨v,F,hv,hxF,q⟩:=at' x hx
  exact q.bo x hxF
structure Args (G:Gx) (Φ:Fps) (η:VS.Env) (H0 H:Hp) (l:Wy) (vs:List V) (Fs:Xq):Prop where
 same:aP H0 H
 rp:RpL G H vs (trees l) Fs
 fp:FpL Φ η H0 l Fs
theorem Args.len {Φ:Fps} {η:VS.Env} {H0 H:Hp} {l:Wy} {vs:List V} {Fs:Xq} (A:Args G Φ η H0 H l vs Fs):l.length=Fs.length:=by
 have:=A.rp.len.2
 simp [trees] at this
 exact Eq.symm this
noncomputable def eK (G:Gx) (r:List V->Hp->VK->Prop) (f:Wy->Wx):Prop:=∀ (Φ:Fps) (η:VS.Env) (H0 H:Hp) (l:Wy) (vs:List V) (Fs:Xq) (m:Md) (t:T) (Q:VK),Args G Φ η H0 H l vs Fs->f l=some (m,t) →
 (∀ v H' F,aP H H'->Rp G H' v t F->Fp Φ η H0 m F->Q v H')->r vs H Q
theorem yf {r:List V->Hp->VK->Prop} {f:Wy->Wx} (ok:eK G r f) {σ:L2.St} {H:Hp} {Q:VK} {η:VS.Env} {Φ:Fps} {l:Wy} {m:Md} {t:T} (s:SR G Φ η σ H) (el:cs η=some l) (e:f l=some (m,t))
  (k:∀ v H' F,aP H H'->Rp G H' v t F->Fp Φ η H m F->Q v H'):tEs G cs σ H fun vs H1=>r vs H1 Q :=
 ⟨Φ,η,l,s,el,fun vs H' Fs e1 r1 f1=>ok Φ η H H' l vs Fs m t Q ⟨e1,r1,f1⟩ e fun v H2 F e2 r2 f2=>k v H2 F (e1.trans e2) r2 f2⟩
theorem gz {r:List V->Hp->VK->Prop} {f:Wy->Wx} {id:String} {x:Str} (hc:dC X (.builtin id) r) (ok:eK G r f) (hg:Gl X x) (hm:X.mg x=none) (hv:bootBuiltins x=some (.builtin id)) (ha:PVs G X (e :: es) cs)
  (hn:x ≠ "__name__" := by decide) (hdb:(x == ("__debug__" : Str))=false:=by decide)
  (he:starEach (e :: es) X.env=(false,eval e X.env) :: starEach es X.env:=by rfl) (hpl:(backTo pos (starEach es X.env)).any (·.1)=false:=by rfl):PV G X (.Call (.Name x p) (e :: es) [] pos) (eN f cs) :=
 PE.weak (oq hc hg hm hv ha hn hdb he hpl) fun σ H Q hq=>by
  obtain ⟨Φ,η,m,t,s,e,k⟩:=hq
  unfold eN at e
  obtain ⟨l,el,e⟩:=Zz.mp e
  exact yf ok s el e k
theorem jg {r:List V->Hp->VK->Prop} {f:Wy->Wx} {Ty:String} {x:Str} (hc:dC X (.type Ty) r) (ok:eK G r f) (hg:Gl X x) (hm:X.mg x=none) (hv:bootBuiltins x=some (.type Ty)) (ha:PVs G X (e :: es) cs)
  (hn:x ≠ "__name__" := by decide) (hdb:(x == ("__debug__" : Str))=false:=by decide)
  (he:starEach (e :: es) X.env=(false,eval e X.env) :: starEach es X.env:=by rfl) (hpl:(backTo pos (starEach es X.env)).any (·.1)=false:=by rfl):PV G X (.Call (.Name x p) (e :: es) [] pos) (eN f cs) :=
 PE.weak (qK hc hg hm hv ha hn hdb he hpl) fun σ H Q hq=>by
  obtain ⟨Φ,η,m,t,s,e,k⟩:=hq
  unfold eN at e
  obtain ⟨l,el,e⟩:=Zz.mp e
  exact yf ok s el e k
theorem AF (h:PVs G X es cs):PV G X (.List es pos) (dz cs):=PE.weak (zm h) fun σ H Q hq=>by
 obtain ⟨Φ,η,m,t,s,e,k⟩:=hq
 unfold dz at e
 obtain ⟨l,el,e⟩:=Zz.mp e
 refine ⟨Φ,η,l,s,el,fun vs H' Fs e1 r1 f1=>?_⟩
 have A:Args G Φ η H H' l vs Fs:=⟨e1,r1,f1⟩
 obtain ⟨_,hl,_⟩:=nc e
 refine ⟨by rw [r1.len.1,← fJ];exact hl,g6 e1 e r1 (f1.join A.len) fun v H2 F e2 r2 f2=>k v H2 F (e1.trans e2) r2 f2⟩
theorem AC {x1} (h:PVs G X es cs):PV G X (.Tuple es x1 pos) (mG cs):=PE.weak (zF h) fun σ H Q hq=>by
 obtain ⟨Φ,η,m,t,s,e,k⟩:=hq
 unfold mG at e
 obtain ⟨l,el,e⟩:=Zz.mp e
 refine ⟨Φ,η,l,s,el,fun vs H' Fs e1 r1 f1=>?_⟩
 have A:Args G Φ η H H' l vs Fs:=⟨e1,r1,f1⟩
 unfold qk at e
 split at e
 ·rename_i hl
  cases e
  refine ⟨by rw [r1.len.1,← fJ,trees,Zy];exact hl,fun q hq=>?_⟩
  have r2:Rp G (upd H' q (.tup vs)) (.ref q) (.tup (trees l)) Fs.flatten:=.tup aD (r1.same (dM hq))
  exact k _ _ _ (e1.trans (dM hq)) r2 (Fp.up (f1.join A.len) r2)
 ·cases e
theorem wZ {H:Hp} {v:V} {t:T} {F:X4} {k:Bool} (r:Rp G H v t F) (h:tru t=some k):zg G.K v H k:=by
 cases r with
 | non=>cases h;rfl
 | bl b=>cases h;rfl
 | int i=>cases h;rfl
 | str s hl =>
  cases h
  refine ⟨by rw [dI,← fJ];exact hl.1,?_⟩
  rw [dI]
  cases s with
  | nil=>rfl
  | cons a r =>
   have:((List.length (a :: r):Int) != 0)=true:=by simp;lia
   rw [this]
   rfl
 | scr h'=>cases h
 | tup h' q =>
  cases h
  refine .inr (.inl ⟨_,SqT.of h',?_⟩)
  have:=q.len.1
  rename_i vs ts _
  cases vs <;> cases ts <;> simp_all
 | lst h' q =>
  cases h
  refine .inl ⟨_,SqL.of h',?_⟩
  have:=q.len.1
  rename_i vs ts _
  cases vs <;> cases ts <;> simp_all
 | dct h' hl q =>
  cases h
  refine .inr (.inr ⟨_,h',?_⟩)
  have:=q.len.1
  rename_i ks vs ts _
  cases ks <;> cases vs <;> cases ts <;> simp_all
 | dctT h' hl q=>cases h
 | dctN h' hl n q=>cases h
 | dctZ _ _ _=>cases h
 | exc _ _=>cases h
 | ins _ _ _ _=>cases h
theorem vQ (h:PV G X a ca) (hK:X.K=G.K:=by rfl) (he:∀ whole,isTrue a X.env whole=(do let v ← whole;standAt a.pos;holding [v] (truthy v)):=by intro _;rfl):PVT G X a ca :=
 PT.weak (su h he) fun σ H Q ⟨Φ,η,m,r,b,s,e,eb,k⟩=>⟨Φ,η,m,r,s,e,fun v H' F e1 r1 f1=>⟨b,by rw [hK];exact wZ r1 eb,k H' e1⟩⟩
noncomputable def PVW (G:Gx) (X:Cx) (e:Expr) (c:Ex):Prop:=PW X e (tT G c)
theorem PW.weak {X:Cx} {e:Expr} {t t':TT} (h:PW X e t) (w:∀ σ H Q,t' σ H Q->t σ H Q):PW X e t':=fun wh pins s σ H Q I q=>h wh pins s σ H Q I (w σ H Q q)
theorem PVW.pvt (h:PVW G X e ca):PVT G X e ca:=PW.pt h
variable {rest:List Expr}
theorem sU (ha:PVT G X a ca):PVW G X (.BoolOp .And [a] pos) ca:=xB ha
theorem wX (ha:PVT G X a ca):PVW G X (.BoolOp .Or [a] pos) ca:=zV ha
theorem nV {η:VS.Env} {m:Md} {r:T} (e:gL ca cb η=some (m,r)):(∃ n,ca η=some (n,.bl true)/\cb η=some (m,r))\/(∃ n,ca η=some (n,.bl false)/\m=.fr/\r=.bl false):=by
 unfold gL at e
 obtain ⟨⟨n,x⟩,ea,e⟩:=Zz.mp e
 split at e
 ·rename_i h
  cases (show x=.bl true from h)
  exact .inl ⟨n,ea,e⟩
 ·rename_i h
  cases (show x=.bl false from h)
  cases e
  exact .inr ⟨n,ea,rfl,rfl⟩
 ·cases e
theorem wM {η:VS.Env} {m:Md} {r:T} (e:eOr ca cb η=some (m,r)):(∃ n,ca η=some (n,.bl false)/\cb η=some (m,r))\/(∃ n,ca η=some (n,.bl true)/\m=.fr/\r=.bl true):=by
 unfold eOr at e
 obtain ⟨⟨n,x⟩,ea,e⟩:=Zz.mp e
 split at e
 ·rename_i h
  cases (show x=.bl true from h)
  cases e
  exact .inr ⟨n,ea,rfl,rfl⟩
 ·rename_i h
  cases (show x=.bl false from h)
  exact .inl ⟨n,ea,e⟩
 ·cases e
theorem vU (ha:PVT G X a ca) (hb:PVW G X (.BoolOp .And (b :: rest) pos) cb):PVW G X (.BoolOp .And (a :: b :: rest) pos) (gL ca cb) :=
 PW.weak (Aq ha hb) fun σ H Q hq=>by
  obtain ⟨Φ,η,m,r,k,s,e,eb,q⟩:=hq
  rcases nV e with ⟨n,ea,e2⟩ | ⟨n,ea,rfl,rfl⟩
  ·refine ⟨Φ,η,n,_,true,s,ea,rfl,fun H' e1=>?_⟩
   refine xG ?_
   exact ⟨Φ,η,m,r,k,s.same e1,e2,eb,fun H2 e2=>q H2 (e1.trans e2)⟩
  ·refine ⟨Φ,η,n,_,false,s,ea,rfl,fun H' e1=>?_⟩
   refine wx ?_
   cases eb
   exact q H' e1
theorem yo (ha:PVT G X a ca) (hb:PVW G X (.BoolOp .Or (b :: rest) pos) cb):PVW G X (.BoolOp .Or (a :: b :: rest) pos) (eOr ca cb) :=
 PW.weak (A1 ha hb) fun σ H Q hq=>by
  obtain ⟨Φ,η,m,r,k,s,e,eb,q⟩:=hq
  rcases wM e with ⟨n,ea,e2⟩ | ⟨n,ea,rfl,rfl⟩
  ·refine ⟨Φ,η,n,_,false,s,ea,rfl,fun H' e1=>?_⟩
   refine wx ?_
   exact ⟨Φ,η,m,r,k,s.same e1,e2,eb,fun H2 e2=>q H2 (e1.trans e2)⟩
  ·refine ⟨Φ,η,n,_,true,s,ea,rfl,fun H' e1=>?_⟩
   refine xG ?_
   cases eb
   exact q H' e1
theorem nS {η:VS.Env} {m:Md} {r:T} (e:lz ca η=some (m,r)):∃ n b,ca η=some (n,.bl b)/\m=.fr/\r=.bl (!b):=by
 unfold lz at e
 obtain ⟨⟨n,x⟩,ea,e⟩:=Zz.mp e
 split at e
 ·rename_i b h
  cases (show x=.bl b from h)
  cases e
  exact ⟨n,b,ea,rfl,rfl⟩
 ·cases e
theorem wk (ha:PVT G X a ca):PVT G X (.UnaryOp .Not a pos) (lz ca):=PT.weak (yX ha) fun σ H Q hq=>by
 obtain ⟨Φ,η,m,r,k,s,e,eb,q⟩:=hq
 obtain ⟨n,b,ea,rfl,rfl⟩:=nS e
 cases eb
 exact ⟨Φ,η,n,_,b,s,ea,rfl,fun H' e1=>q H' e1⟩
theorem yA (ha:PV G X a ca):PV G X (.UnaryOp .Not a pos) (lz ca):=PE.weak (zH ha) fun σ H Q hq=>by
 obtain ⟨Φ,η,m,r,s,e,q⟩:=hq
 obtain ⟨n,b,ea,rfl,rfl⟩:=nS e
 exact ⟨Φ,η,n,_,s,ea,fun v H' F e1 r1 f1=>⟨b,r1.bl_inv,q _ H' _ e1 (.bl _) Fp.nil⟩⟩
theorem zE {op} (h:PV G X a ca):PV G X (.BoolOp op [a] pos) ca:=AR h
theorem yS (ha:PV G X a ca) (hb:PV G X (.BoolOp .And (b :: rest) pos) cb):PV G X (.BoolOp .And (a :: b :: rest) pos) (gL ca cb) :=
 PE.weak (yw ha hb) fun σ H Q hq=>by
  obtain ⟨Φ,η,m,r,s,e,q⟩:=hq
  rcases nV e with ⟨n,ea,e2⟩ | ⟨n,ea,rfl,rfl⟩
  ·refine ⟨Φ,η,n,_,s,ea,fun v H' F e1 r1 f1=>⟨true,r1.bl_inv,?_⟩⟩
   refine xG ?_
   exact ⟨Φ,η,m,r,s.same e1,e2,fun v H2 F e2 r2 f2=>q v H2 F (e1.trans e2) r2 (f2.back e1)⟩
  ·refine ⟨Φ,η,n,_,s,ea,fun v H' F e1 r1 f1=>⟨false,r1.bl_inv,?_⟩⟩
   refine wx ?_
   exact q _ H' _ e1 (.bl _) Fp.nil
theorem pO {H:Hp} {v:V} {t:T} {F:X4} (r:Rp G H v t F):decide (v=.non)=isN t:=by
 cases r <;> simp [isN]
theorem yg {t:TE} {c:Ex} {σ:L2.St} {H:Hp} {Q:Bool->Hp->Prop} (h:tT G c σ H Q) (ht:∀ η m r,c η=some (m,r)->∃ b,r=.bl b) (w:∀ Q,tE G c σ H Q->t σ H Q):tB t σ H Q:=by
 obtain ⟨Φ,η,m,r,b,s,e,eb,k⟩:=h
 refine w _ ⟨Φ,η,m,r,s,e,fun v H' F e1 r1 f1=>?_⟩
 obtain ⟨b',er⟩:=ht η m r e
 rw [er] at eb r1
 cases (show some b'=some b from eb)
 exact ⟨_,r1.bl_inv,k H' e1⟩
end
section
variable {G:Gx} {X:Cx} {a b c e:Expr} {es:List Expr} {ca cb cc:Ex} {cs:Exs} {pos p:Pos}
theorem RpL.one {H:Hp} {vs:List V} {t:T} {Fs:Xq} (r:RpL G H vs [t] Fs):∃ v F,vs=[v]/\Fs=[F]/\Rp G H v t F:=by
 cases r with
 | cons r q=>cases q;exact ⟨_,_,rfl,rfl,r⟩
theorem RpL.two {H:Hp} {vs:List V} {t t':T} {Fs:Xq} (r:RpL G H vs [t,t'] Fs):∃ v v' F F',vs=[v,v']/\Fs=[F,F']/\Rp G H v t F/\Rp G H v' t' F':=by
 cases r with
 | cons r q =>
  obtain ⟨v',F',rfl,rfl,r'⟩:=q.one
  exact ⟨_,_,_,_,rfl,rfl,r,r'⟩
noncomputable def Ce (K:X0):List V->Hp->VK->Prop:=fun xs H Q=>(∃ x n,xs=[x]/\AX K x H n/\Q (.int n) H)\/(∃ a kvs,xs=[V.ref a]/\H a=some (.dK kvs)/\Q (.int kvs.length) H)
theorem o9:dC X (.builtin "len") (fun xs H Q=>∃ a kvs,xs=[V.ref a]/\H a=some (.dK kvs)/\Q (.int kvs.length) H):=by
 intro pins s σ H xs us Q I r h
 obtain ⟨a,kvs,rfl,ha,q⟩:=h
 obtain ⟨u,rfl,ru⟩:=vals1 r
 cases ru
 exact BY I (.inl ha) fun t s' I'=>⟨.int kvs.length,H,I',⟨t,rfl⟩,q⟩
theorem rH:dC X (.builtin "len") (Ce X.K):=uv.or o9
theorem zz:eK G (Ce G.K) cn:=by
 intro Φ η H0 H l vs Fs m t Q A e k
 refine L2.iW fun P_ k_=>?_
 unfold cn at e
 split at e
 ·rename_i x
  obtain ⟨mx,x⟩:=x
  obtain ⟨n,en,e⟩:=Zw.mp e
  cases e
  obtain ⟨v,F,rfl,rfl,r⟩:=(show RpL G H vs [x] Fs from A.rp).one
  have fin:Q (.int (n:Int)) H:=bA k (.int _)
  cases r with
  | non=>cases en
  | bl b=>cases en
  | int i=>cases en
  | str s hl =>
   cases en
   refine k_ ?_
   exact .inl ⟨_,_,rfl,⟨by rw [dI,← fJ];exact hl.1,rfl⟩,by rw [dI];exact fin⟩
  | scr h =>
   cases en
   refine k_ ?_
   refine .inl ⟨_,_,rfl,.inl ⟨_,h.seq,rfl⟩,?_⟩
   rw [Zy]
   exact fin
  | tup h q =>
   cases en
   refine k_ ?_
   refine .inl ⟨_,_,rfl,.inr ⟨_,SqT.of h,rfl⟩,?_⟩
   rw [q.len.1]
   exact fin
  | lst h q =>
   cases en
   refine k_ ?_
   refine .inl ⟨_,_,rfl,.inl ⟨_,SqL.of h,rfl⟩,?_⟩
   rw [q.len.1]
   exact fin
  | dct h hl q =>
   cases en
   refine k_ ?_
   refine .inr ⟨_,_,rfl,h,?_⟩
   rename_i ks ws ts _
   have e1:=q.len.1
   rw [Yz,Zy] at fin
   rw [Yz,e1]
   exact fin
  | dctT h hl q=>cases en
  | dctN h hl n q=>cases en
  | dctZ _ _ _=>cases en
  | exc _ _=>cases en
  | ins _ _ _ _=>cases en
 ·cases e
theorem wH:eK G (fun xs H Q=>∃ i j,xs=[.int i,.int j]/\Q (.int (if j > i then j else i)) H) ot:=by
 intro Φ η H0 H l vs Fs m t Q A e k
 unfold ot at e
 split at e
 ·rename_i _ i _ j
  cases e
  obtain ⟨v,v',F,F',rfl,rfl,r,r'⟩:=(show RpL G H vs [.int i,.int j] Fs from A.rp).two
  exact ⟨i,j,by rw [r.int_inv,r'.int_inv],bA k (.int _)⟩
 ·cases e
theorem wU:eK G (fun xs H Q=>∃ i j,xs=[.int i,.int j]/\Q (.int (if j < i then j else i)) H) oB:=by
 intro Φ η H0 H l vs Fs m t Q A e k
 unfold oB at e
 split at e
 ·rename_i _ i _ j
  cases e
  obtain ⟨v,v',F,F',rfl,rfl,r,r'⟩:=(show RpL G H vs [.int i,.int j] Fs from A.rp).two
  exact ⟨i,j,by rw [r.int_inv,r'.int_inv],bA k (.int _)⟩
 ·cases e
noncomputable def xX (K:X0):List V->Hp->VK->Prop:=fun xs H Q=>∃ p ys,xs=[.ref p]/\(SqL K H p ys\/SqT K H p ys)/\∀ l,H l=none->Q (.ref l) (upd H l (.lst ys))
theorem pZ:eK G (xX G.K) yh:=by
 intro Φ η H0 H l vs Fs m t Q A e k
 unfold yh at e
 split at e
 ·rename_i mx x
  obtain ⟨v,F,rfl,rfl,rx⟩:=(show RpL G H vs [.lst x] Fs from A.rp).one
  obtain ⟨a,ys,Gs,rfl,rfl,ha,ra⟩:=rx.lst_inv
  have f:=A.fp.each 0 _ _ rfl rfl
  exact ⟨a,ys,rfl,.inl (SqL.of ha),g6 A.same e ra (f.sub (Z2 _ _)) k⟩
 ·rename_i mx x
  obtain ⟨v,F,rfl,rfl,rx⟩:=(show RpL G H vs [.tup x] Fs from A.rp).one
  obtain ⟨a,ys,Gs,rfl,rfl,ha,ra⟩:=rx.tup_inv
  have f:=A.fp.each 0 _ _ rfl rfl
  exact ⟨a,ys,rfl,.inr (SqT.of ha),g6 A.same e ra f k⟩
 ·cases e
noncomputable def tO (G:Gx) (c:Option Ex):TO:=fun σ H Q=>∃ Φ η o,SR G Φ η σ H/\uu c η=some o/\∀ H',aP H H'->Q o H'
noncomputable def PVO (G:Gx) (X:Cx) (e:Option Expr) (c:Option Ex):Prop:=PO X e (tO G c)
theorem PO.weak {X:Cx} {e:Option Expr} {t t':TO} (h:PO X e t) (w:∀ σ H Q,t' σ H Q->t σ H Q):PO X e t':=fun pins s σ H Q I q=>h pins s σ H Q I (w σ H Q q)
theorem t7:PVO G X none none:=PO.weak wY fun σ H Q hq=>by
 obtain ⟨Φ,η,o,s,e,k⟩:=hq
 cases (show some (none:Option Int)=some o from e)
 exact k H (aP.refl _)
theorem ve (h:PV G X a ca):PVO G X (some a) (some ca):=PO.weak (wB h) fun σ H Q hq=>by
 obtain ⟨Φ,η,o,s,e,k⟩:=hq
 obtain ⟨⟨m,y⟩,ea,e⟩:=Zz.mp (show (ca η).bind (fun y=>(int? y.2).map some)=some o from e)
 obtain ⟨i,ei,e⟩:=Zw.mp e
 cases e
 refine ⟨Φ,η,m,y,s,ea,fun v H' F e1 r1 f1=>?_⟩
 cases y with
 | int j =>
  cases ei
  exact ⟨_,r1.int_inv,k H' e1⟩
 | _=>cases ei
theorem ja {α:Type} (l:List α) (lo hi:Option Int):cut l lo hi=(l.drop (HT.sIx l.length 0 lo)).take (HT.sIx l.length l.length hi - HT.sIx l.length 0 lo):=by
 unfold cut
 cases lo <;> cases hi <;> rfl
theorem sS (lo hi:Option Int) (n:Nat):Builtin.Str.strSliceIndices lo hi 1 n=Builtin.Str.strSliceIndices (some ((min (HT.sIx n 0 lo) n:Nat):Int)) (some ((min (HT.sIx n n hi) n:Nat):Int)) 1 n:=by
 have e1:∀ k:Nat,¬ ((k:Int) < 0):=fun k=>by lia
 unfold Builtin.Str.strSliceIndices
 simp only [show (1:Int) > 0 by decide,if_true,e1,if_false]
 congr 1
 ·cases lo with
  | none=>simp only [HT.sIx];lia
  | some i =>
   simp only [HT.sIx]
   by_cases h:i < 0
   ·simp only [h,if_true];lia
   ·simp only [h,if_false];lia
 ·cases hi with
  | none=>simp only [HT.sIx];lia
  | some i =>
   simp only [HT.sIx]
   by_cases h:i < 0
   ·simp only [h,if_true];lia
   ·simp only [h,if_false];lia
theorem lb (s:Tx) (lo hi:Option Int):PySem.StrLaws.sliceText (sx s) lo hi=sx (cut s lo hi):=by
 have key:PySem.StrLaws.sliceText (sx s) lo hi=PySem.StrLaws.sliceText (sx s) (some ((min (HT.sIx s.length 0 lo) s.length:Nat):Int)) (some ((min (HT.sIx s.length s.length hi) s.length:Nat):Int)):=by
  unfold PySem.StrLaws.sliceText
  rw [dI,sS]
 rw [key]
 have hd:∀ a:Nat,s.drop (min a s.length)=s.drop a:=fun a=>by
  by_cases h:a<=s.length
  ·rw [Y6 h]
  ·rw [XH (by exact Y4 h),YR (Zk _),YR (by exact Y4 h)]
 by_cases h:min (HT.sIx s.length 0 lo) s.length<=min (HT.sIx s.length s.length hi) s.length
 ·rw [PySem.StrLaws.sliceText_nat (sx s) h (by rw [dI];exact Nat.min_le_right _ _),ja]
  show (⟨_⟩:Str)=⟨_⟩
  congr 2
  show ((sx s).cps.toList.drop _).take _=_
  have:(sx s).cps.toList=s:=rfl
  rw [this,hd]
  by_cases h2:HT.sIx s.length 0 lo<=s.length
  ·rw [Y6 h2]
   by_cases h3:HT.sIx s.length s.length hi<=s.length
   ·rw [Y6 h3]
   ·rw [XH (by exact Y4 h3),YS (by rw [Yi];exact Zk _),YS (by rw [Yi];lia)]
  ·rw [YR (by exact Y4 h2)]
   simp
 ·have e0:cut s lo hi=[]:=by
   rw [ja]
   have:HT.sIx s.length s.length hi - HT.sIx s.length 0 lo=0:=by omega
   rw [this,List.take_zero]
  rw [e0]
  unfold PySem.StrLaws.sliceText
  have e2:Builtin.Str.strSliceIndices (some ((min (HT.sIx s.length 0 lo) s.length:Nat):Int)) (some ((min (HT.sIx s.length s.length hi) s.length:Nat):Int)) 1 (sx s).length=[]:=by
   have e1:∀ k:Nat,¬ ((k:Int) < 0):=fun k=>by lia
   unfold Builtin.Str.strSliceIndices sliceRange
   simp only [show (1:Int) > 0 by decide,if_true,e1,if_false,dI]
   rw [Zn (by omega)]
   rfl
  rw [e2]
  have:¬ ((1:Int) == 1 && ([]:X7).length == (sx s).length)=true:=by
   rw [dI]
   simp
   lia
  rw [Zn this]
  rfl
noncomputable def Bk:V->Option Int->Option Int->Hp->VK->Prop:=fun x lo hi H Q=>∃ z,x=.str z/\z.length<=sizeLine/\Q (.str (PySem.StrLaws.sliceText z lo hi)) H
theorem part_of {v:Value} {o:Option Int} (h:IsPart v o):∃ q:Option (Int×Tok),v=partValue q/\o=q.map (·.1):=by
 cases h with
 | none=>exact ⟨none,rfl,rfl⟩
 | int i t=>exact ⟨some (i,t),rfl,rfl⟩
theorem m8 {α β:Type} (f:α->Option β) (l:List α):(l.filterMap f).length<=l.length:=List.length_filterMap_le f l
theorem v9 (lo hi:Option Int) (n:Nat):(Builtin.Str.strSliceIndices lo hi 1 n).length<=n:=by
 rw [sS]
 by_cases h:min (HT.sIx n 0 lo) n<=min (HT.sIx n n hi) n
 ·rw [PySem.StrLaws.strSliceIndices_plain h (by exact Nat.min_le_right _ _),Zy,Z0]
  lia
 ·have e1:∀ k:Nat,¬ ((k:Int) < 0):=fun k=>by lia
  unfold Builtin.Str.strSliceIndices sliceRange
  simp only [show (1:Int) > 0 by decide,if_true,e1,if_false]
  rw [Zn (by omega)]
  simp
theorem Ah:SlR X Bk:=by
 intro pins s σ H x v vl vu lo hi sl Q I rx hs pl pu h
 obtain ⟨z,rfl,hz,q⟩:=h
 obtain ⟨t,rfl⟩:=rx
 obtain ⟨l,rfl,rfl⟩:=part_of pl
 obtain ⟨u,rfl,rfl⟩:=part_of pu
 refine ⟨"str",_,F.slot_str_getitem.lookup,typeIs_str s z t,wpAny_getItem_str_slice (l:=l) (u:=u) (st:=none) hs rfl ?_⟩
 unfold sliceMade
 split
 ·rename_i hc
  refine ⟨.str z,H,I,⟨t,rfl⟩,?_⟩
  have e:PySem.StrLaws.sliceText z (l.map (·.1)) (u.map (·.1))=z:=by
   unfold PySem.StrLaws.sliceText
   exact Zq hc
  rw [e] at q
  exact q
 ·rename_i hc
  refine ⟨ZI ?_ hz,.str _,H,I.tok _,⟨_,rfl⟩,?_⟩
  ·show (List.filterMap _ _).toArray.size<=_
   rw [Za]
   exact ZI (m8 _ _) (v9 _ _ _)
  ·have e:PySem.StrLaws.sliceText z (l.map (·.1)) (u.map (·.1))=⟨((slicePicked z l u none).filterMap (z.cps[·]?)).toArray⟩:=by
    unfold PySem.StrLaws.sliceText
    exact Zn hc
   rw [e] at q
   exact q
noncomputable def rSl (K:X0):V->Option Int->Option Int->Hp->VK->Prop:=fun x lo hi H Q=>Bk x lo hi H Q\/B0 K x lo hi H Q
theorem CD:SlR X (rSl X.K):=Ah.or xE
theorem wo {α:Type} (l:List α) (lo hi:Option Int):(cut l lo hi).length<=l.length:=by
 rw [ja,YU,Yi]
 lia
theorem RpL.cut {H:Hp} {vs:List V} {ts:Ww} {Fs:Xq} (r:RpL G H vs ts Fs) (lo hi:Option Int):RpL G H (rO vs lo hi) (VS.cut ts lo hi) (VS.cut Fs lo hi):=by
 have h:=r.len
 rw [ja,ja,h.2]
 unfold rO
 rw [h.1]
 exact (r.drop _).take _
theorem pG {α:Type} (l:List α) (lo hi:Option Int):(VS.cut l lo hi).Sublist l:=by
 rw [ja]
 exact (List.take_sublist _ _).trans (List.drop_sublist _ _)
theorem u9 {F G:Xq} (h:F.Sublist G):F.flatten.Sublist G.flatten:=by
 induction h with
 | slnil=>exact YA _
 | cons a _ ih=>rw [ZL];exact ih.trans (Yg _ _)
 | cons_cons a _ ih=>rw [ZL,ZL];exact (YA _).append ih
theorem rW {lo hi:Option Expr} {cl ch:Option Ex} {p2:Pos} (ha:PV G X a ca) (hl:PVO G X lo cl) (hh:PVO G X hi ch) (hK:X.K=G.K:=by rfl):PV G X (.Subscript a (.Slice lo hi none p2) pos) (eSl ca cl ch) :=
 PE.weak (r9 CD ha hl hh) fun σ H Q hq=>by
  obtain ⟨Φ,η,m,t,s,e,k⟩:=hq
  unfold eSl at e
  obtain ⟨⟨mx,x⟩,ea,e'⟩:=Zz.mp e
  obtain ⟨l,el,e''⟩:=Zz.mp e'
  obtain ⟨h,eh,e4⟩:=Zz.mp e''
  clear e e' e''
  refine ⟨Φ,η,mx,x,s,ea,fun v H1 F e1 r1 f1=>⟨Φ,η,l,s.same e1,el,fun H2 e2=>⟨Φ,η,h,(s.same e1).same e2,eh,fun H3 e3=>?_⟩⟩⟩
  have e03:aP H H3:=(e1.trans e2).trans e3
  have r3:=(r1.same e2).same e3
  unfold oSl at e4
  split at e4
  ·rename_i m' z q
   cases q
   cases e4
   obtain ⟨rfl,hl⟩:=r3.str_inv
   refine .inl ⟨_,rfl,by rw [dI,← fJ];exact hl.1,?_⟩
   rw [lb]
   exact k _ H3 _ e03 (.str _ ⟨ZI (wo _ _ _) hl.1,fun c hc=>hl.2 c ((pG _ _ _).subset hc)⟩) Fp.nil
  ·rename_i m' z q
   cases q
   obtain ⟨a',vs,Fs,rfl,rfl,ha',ra⟩:=r3.lst_inv
   refine .inr ⟨a',vs,rfl,by rw [hK];exact SqL.of ha',g6 e03 e4 (ra.cut l h) ((f1.sub (Z2 _ _)).sub (u9 (pG _ _ _))) fun v H4 F e5 r4 f4=>k v H4 F (e03.trans e5) r4 f4⟩
  ·cases e4
noncomputable def tyS:Ty->String
 | .int => "int"
 | .str => "str"
 | .bool => "bool"
 | .list => "list"
 | .tuple => "tuple"
 | .dict => "dict"
noncomputable def rIs (K:X0):List V->Hp->VK->Prop:=fun vs H Q=>∃ x c t b,vs=[x,.ty c]/\TyOf K H x t/\PySem.W.kitOne K t (.type c)=some b/\Q (.bl b) H
theorem xf:dC X (.builtin "isinstance") (rIs X.K):=by
 intro pins s σ H xs us Q I r h
 obtain ⟨x,c,t,b,rfl,ty,e,q⟩:=h
 obtain ⟨u,w',rfl,r1,r2⟩:=vals2 r
 cases r2
 exact rP I r1 ty e fun tk=>⟨.bl b,H,I.tok _,rfl,q⟩
theorem vE (K:X0) (ty:Ty):(PySem.W.kitOne K (.type "NoneType") (.type (tyS ty))=some false)/\(PySem.W.kitOne K (.type "bool") (.type (tyS ty))=some (oC ty (.bl true)))/\(PySem.W.kitOne K (.type "int") (.type (tyS ty))=some (oC ty (.int 0))) ∧
  (PySem.W.kitOne K (.type "str") (.type (tyS ty))=some (oC ty (.str [])))/\(PySem.W.kitOne K (.type "list") (.type (tyS ty))=some (oC ty (.lst [])))/\(PySem.W.kitOne K (.type "tuple") (.type (tyS ty))=some (oC ty (.tup [])))/\(PySem.W.kitOne K (.type "dict") (.type (tyS ty))=some (oC ty (.dct 0 []))):=by
 cases ty <;> refine ⟨?_,?_,?_,?_,?_,?_,?_⟩ <;> kernel_rfl
theorem BZ {H:Hp} {v:V} {t:T} {F:X4} (ty:Ty) (r:Rp G H v t F) (h:qu t=true):∃ t',TyOf G.K H v t'/\PySem.W.kitOne G.K t' (.type (tyS ty))=some (oC ty t):=by
 obtain ⟨k1,k2,k3,k4,k5,k6,k7⟩:=vE G.K ty
 cases r with
 | non=>exact ⟨_,.non,by rw [k1];cases ty <;> rfl⟩
 | bl b=>exact ⟨_,.bl b,by rw [k2];cases ty <;> rfl⟩
 | int i=>exact ⟨_,.int i,by rw [k3];cases ty <;> rfl⟩
 | str s _=>exact ⟨_,.str _,by rw [k4];cases ty <;> rfl⟩
 | scr _=>cases h
 | tup h' q=>exact ⟨_,.tup h',by rw [k6];cases ty <;> rfl⟩
 | lst h' q=>exact ⟨_,.lst h',by rw [k5];cases ty <;> rfl⟩
 | dct h' l q=>exact ⟨_,.dK h',by rw [k7];cases ty <;> rfl⟩
 | dctT h' l q=>exact ⟨_,.dT h',by rw [k7];cases ty <;> rfl⟩
 | dctN h' l n q=>simp at h
 | dctZ _ _ _=>cases h
 | exc _ _=>cases h
 | ins _ _ _ _=>cases h
theorem Cd (ty:Ty) {x:Str} {p1 p2:Pos} (ha:PV G X a ca) (hg:Gl X "isinstance") (hm:X.mg "isinstance" = none) (hg2:Gl X x) (hm2:X.mg x=none) (hv:bootBuiltins x=some (.type (tyS ty))) (hK:X.K=G.K:=by rfl)
  (hn:x ≠ "__name__" := by decide) (hdb:(x == ("__debug__" : Str))=false:=by decide) (hs:starEach [a,.Name x p2] X.env=(false,eval a X.env) :: starEach [.Name x p2] X.env:=by rfl)
  (hs2:starEach [.Name x p2] X.env=(false,eval (.Name x p2) X.env) :: starEach [] X.env:=by rfl) (hpl:(backTo pos (starEach [Expr.Name x p2] X.env)).any (·.1)=false:=by rfl) :
  PV G X (.Call (.Name "isinstance" p1) [a,.Name x p2] [] pos) (eIs ty ca) :=
 PE.weak (oq xf hg hm boot_isinstance (gT ha (gT (wN (v:=.ty (tyS ty)) hg2 hm2 hv rfl hn hdb) ng hs2) hs) (by decide) rfl hs hpl) fun σ H Q hq=>by
  obtain ⟨Φ,η,m,t,s,e,k⟩:=hq
  unfold eIs at e
  obtain ⟨⟨mx,y⟩,ea,e'⟩:=Zz.mp e
  split at e'
  ·rename_i hk
   cases e'
   refine ⟨Φ,η,mx,y,s,ea,fun v H' F e1 r1 f1=>?_⟩
   obtain ⟨t',h1,h2⟩:=BZ ty r1 hk
   exact ⟨v,tyS ty,t',_,rfl,by rw [hK];exact h1,by rw [hK];exact h2,k _ H' _ e1 (.bl _) Fp.nil⟩
  ·cases e'
end
section
variable {G:Gx} {X:Cx} {a b c e:Expr} {es:List Expr} {ca cb cc:Ex} {cs:Exs} {pos p:Pos}
noncomputable def BV (G:Gx) (r:V->List V->Hp->VK->Prop) (f:Val->Wy->Wx):Prop:=∀ (Φ:Fps) (η:VS.Env) (H0 H1 H:Hp) (x:Val) (v:V) (F:X4) (l:Wy) (vs:List V) (Fs:Xq) (m:Md) (t:T) (Q:VK),
 aP H0 H1->Rp G H v x.2 F->Fp Φ η H0 x.1 F->Args G Φ η H1 H l vs Fs->f x l=some (m,t)->(∀ v H' F,aP H H'->Rp G H' v t F->Fp Φ η H0 m F->Q v H')->r v vs H Q
theorem BA {T' id:String} {name:Str} {r:V->List V->Hp->VK->Prop} {f:Val->Wy->Wx} {apos cpos:Pos} (pa:PlainAttrs T') (slot:Slot T' name id) (hty:typeOf (.builtin id)=pure (.type "method_descriptor")) (hm:MtR X id r) (ok:BV G r f)
  (hT:∀ H v (x:Val) F l z,Rp G H v x.2 F->f x l=some z->tyV G.K T' v H) (ho:PV G X a ca) (ha:PVs G X (e :: es) cs) (hK:X.K=G.K:=by rfl)
  (hbase:attributeBase a name X.env (eval a X.env)=eval a X.env:=by rfl)
  (hfew:((backTo cpos (starEach (e :: es) X.env)).all (fun x=>!x.1) && (backToKw cpos (keywordEach [] X.env)).all (fun x=>x.1.isSome)
   && decide ((e :: es).length+([]:List Keyword).length+(if ([]:List Keyword).isEmpty then 0 else 1) < 30))=true:=by rfl)
  (hline:(apos.endLine == cpos.line)=true:=by rfl) (hs:starEach (e :: es) X.env=(false,eval e X.env) :: starEach es X.env:=by rfl) (hplain:(backTo cpos (starEach es X.env)).any (·.1)=false:=by rfl) :
  PV G X (.Call (.Attribute a name apos) (e :: es) [] cpos) (eM f ca cs) :=
 PE.weak (qq pa slot hty hm ho ha hbase hfew hline hs hplain) fun σ H Q hq=>by
  obtain ⟨Φ,η,m,t,s,e,k⟩:=hq
  unfold eM at e
  obtain ⟨x,ea,e'⟩:=Zz.mp e
  obtain ⟨l,el,e''⟩:=Zz.mp e'
  refine ⟨Φ,η,x.1,x.2,s,ea,fun v H1 F e1 r1 f1=>⟨by rw [hK];exact hT H1 v x F l _ r1 e'',Φ,η,l,s.same e1,el,fun vs H2 Fs e2 r2 f2=>?_⟩⟩
  exact ok Φ η H H1 H2 x v F l vs Fs m t Q e1 (r1.same e2) f1 ⟨e2,r2,f2⟩ e'' fun v' H3 F' e3 r3 f3=>k v' H3 F' ((e1.trans e2).trans e3) r3 f3
theorem vT:∀ (sep:Tx) (ss:List Tx),Txt.join (sx sep) (ss.map sx)=sx (dm sep ss):=by
 intro sep ss
 have fold:∀ (l:List Tx) (acc:Tx),(l.map sx).foldl (fun acc p=>acc++(sx sep).cps++p.cps) acc.toArray=(l.foldl (fun acc p=>acc++sep++p) acc).toArray:=by
  intro l
  induction l with
  | nil=>intro acc;rfl
  | cons x r ih =>
   intro acc
   rw [Zp,List.foldl_cons,List.foldl_cons,← ih]
   congr 1
   simp [sx]
 have jf:∀ (r:List Tx) (acc:Tx),r.foldl (fun acc p=>acc++sep++p) acc=dm sep (acc :: r):=by
  intro r
  induction r with
  | nil=>intro acc;rfl
  | cons x r ih =>
   intro acc
   rw [List.foldl_cons,ih]
   cases r with
   | nil=>rfl
   | cons y r=>simp [dm]
 cases ss with
 | nil=>rfl
 | cons x r =>
  show (⟨_⟩:Str)=⟨_⟩
  congr 1
  show ((r.map sx).foldl _ x.toArray)=_
  rw [fold,jf]
theorem qx {H:Hp}:∀ {vs:List V} {l:Ww} {Fs:Xq} {ss:List Tx},RpL G H vs l Fs->strs? l=some ss->vs=ss.map fun s=>V.str (sx s)
 | _,_,_,_,.nil,e=>by cases e;rfl
 | _,_,_,_,.cons (t:=t) r q,e=>by
  cases t with
  | str s =>
   simp only [strs?] at e
   obtain ⟨ss',e1,e2⟩:=Zw.mp e
   subst e2
   rw [qx q e1,r.str_inv.1]
   rfl
  | _=>cases e
theorem kA:∀ {ss:List Tx} {us:X5},aR (ss.map fun s=>V.str (sx s)) us->StrsAre us (ss.map sx)
 | [],_,h=>by cases h;exact .nil
 | s :: ss,_,h=>by
  cases h with
  | cons r q =>
   obtain ⟨t,rfl⟩:=r
   exact .cons _ _ (kA q)
noncomputable def rJoin (K:X0):V->List V->Hp->VK->Prop:=fun x vs H Q=>∃ sep p ss,x=.str (sx sep)/\vs=[.ref p]/\SqL K H p (ss.map fun s=>V.str (sx s))/\total ss+ss.length * sep.length<=16777216/\Q (.str (sx (dm sep ss))) H
theorem pT:∀ ss:List Tx,((ss.map sx).map (·.length)).sum=total ss
 | []=>rfl
 | s :: r=>by
  rw [Zp,Zp,Yb,pT r,dI]
  rfl
theorem vr:MtR X "str.join" (rJoin X.K):=by
 intro pins s σ H x xs v us Q I rx rxs h
 obtain ⟨sep,p,ss,rfl,rfl,hq,hl,q⟩:=h
 obtain ⟨t,rfl⟩:=rx
 obtain ⟨u,rfl,ru⟩:=vals1 rxs
 cases ru
 obtain ⟨its,r,pl,hz⟩:=I.list hq
 refine join_list pl.isList (ys:=ss.map sx) (by simpa using kA r) ?_ fun t' k=>⟨.str _,H,I.tok _,⟨_,by rw [vT]⟩,q⟩
 rw [pT,Zy,dI]
 exact hl
theorem ky (sep:Tx):∀ ss:List Tx,(dm sep ss).length<=total ss+ss.length * sep.length
 | []=>by simp [dm,total]
 | [x]=>by simp [dm,total]
 | x :: y :: r=>by
  have:=ky sep (y :: r)
  simp only [dm,total,Zt,ZZ] at this ⊢
  have e:(r.length+1+1) * sep.length=(r.length+1) * sep.length+sep.length:=Nat.succ_mul _ _
  lia
theorem ki (sep:Tx):∀ (ss:List Tx) (c:Nat),c∈dm sep ss->c∈sep\/∃ s∈ss,c∈s
 | [],c,h=>by simp [dm] at h
 | [x],c,h=>.inr ⟨x,Zx,h⟩
 | x :: y :: r,c,h=>by
  simp only [dm,Zg] at h
  rcases h with (h | h) | h
  ·exact .inr ⟨x,Zx,h⟩
  ·exact .inl h
  ·exact (ki sep (y :: r) c h).imp id fun ⟨s,hs,hc⟩=>⟨s,Zv _ hs,hc⟩
theorem kI {H:Hp}:∀ {vs:List V} {l:Ww} {Fs:Xq} {ss:List Tx},RpL G H vs l Fs->strs? l=some ss->∀ s∈ss,∀ c∈s,c < 1114112
 | _,_,_,_,.nil,e,s,hs=>by cases e;simp at hs
 | _,_,_,_,.cons (t:=t) r q,e,s,hs=>by
  cases t with
  | str x =>
   simp only [strs?] at e
   obtain ⟨ss',e1,e2⟩:=Zw.mp e
   subst e2
   rcases Zi.mp hs with rfl | hs
   ·exact r.str_inv.2.2
   ·exact kI q e1 s hs
  | _=>cases e
theorem wc:BV G (rJoin G.K) iY:=by
 intro Φ η H0 H1 H x v F l vs Fs m t Q s01 r f A e k
 unfold iY at e
 split at e
 ·rename_i mx sep ml l'
  obtain ⟨ss,es',e'⟩:=Zz.mp e
  split at e'
  ·rename_i hl
   cases e'
   obtain ⟨w',F',rfl,rfl,rl⟩:=(show RpL G H vs [.lst l'] Fs from A.rp).one
   obtain ⟨a',ws,Gs,rfl,rfl,ha,ra⟩:=rl.lst_inv
   rw [qx ra es'] at ha
   refine ⟨sep,a',ss,r.str_inv.1,rfl,SqL.of ha,hl,bA k (.str _ ⟨ZI (ky sep ss) hl,fun c hc=>(ki sep ss c hc).elim (r.str_inv.2.2 c) fun ⟨s',hs',hc'⟩=>kI ra es' s' hs' c hc'⟩)⟩
  ·cases e'
 ·cases e
theorem uG {H:Hp} {v:V} {t:T} {F:X4} (r:Rp G H v t F) (h:∃ s,t=.str s):tyV G.K "str" v H:=by
 obtain ⟨s,rfl⟩:=h
 rw [r.str_inv.1]
 rfl
theorem xQ {apos cpos:Pos} (ho:PV G X a ca) (ha:PVs G X [e] cs) (hK:X.K=G.K:=by rfl)
  (hbase:attributeBase a "join" X.env (eval a X.env)=eval a X.env:=by rfl)
  (hfew:((backTo cpos (starEach [e] X.env)).all (fun x=>!x.1) && (backToKw cpos (keywordEach [] X.env)).all (fun x=>x.1.isSome)
   && decide ([e].length+([]:List Keyword).length+(if ([]:List Keyword).isEmpty then 0 else 1) < 30))=true:=by rfl)
  (hline:(apos.endLine == cpos.line)=true:=by rfl) (hs:starEach [e] X.env=(false,eval e X.env) :: starEach [] X.env:=by rfl) (hplain:(backTo cpos (starEach [] X.env)).any (·.1)=false:=by rfl) :
  PV G X (.Call (.Attribute a "join" apos) [e] [] cpos) (eM iY ca cs) :=
 BA PySem.F.plainAttrs_str PySem.F.slot_str_join PySem.F.type_str_join (hK ▸ vr) wc (fun H v x F l z r e=>uG r (by
  unfold iY at e
  split at e
  ·exact ⟨_,rfl⟩
  ·cases e)) ho ha hK hbase hfew hline hs hplain
end
end VS
end
section
namespace VS
@[simp] noncomputable def oIx (x y:Val):Wx:=match x.2 with
 | .dct 0 l=>if hU y.2 then (ed l y.2).map (sub x.1) else none
 | _=>aJ x y
@[simp] noncomputable def flat:T->Bool
 | .non=>true
 | .bl _=>true
 | .int _=>true
 | .str _=>true
 | _=>false
@[simp] noncomputable def jM (x y:Val):Wx:=match y.2 with
 | .dct 0 l=>if hU x.2 then some (.fr,.bl (ed l x.2).isSome) else none
 | .lst l=>if flat x.2 && l.all flat then some (.fr,.bl (l.any fun y=>eqT y x.2)) else none
 | .tup l=>if flat x.2 && l.all flat then some (.fr,.bl (l.any fun y=>eqT y x.2)) else none
 | _=>none
@[simp] noncomputable def dc (x y:Val):Wx:=match jM x y with
 | some (_,.bl b)=>some (.fr,.bl (!b))
 | _=>none
noncomputable def pm {α:Type} (f:T->Option (T×α)):List Ky->T->Option (T×α)
 | [],t=>f t
 | .fld k :: r,.obj c (q :: fs)=>(fs.findIdx? fun p=>p.1 == k).bind fun i=>(fs[i]?).bind fun p=>(pm f r p.2).map fun z=>(.obj c (q :: fs.set i (p.1,z.1)),z.2)
 | .at (.int i) :: r,.lst l=>(ixP l.length i).bind fun j=>(l[j]?).bind fun x=>(pm f r x).map fun z=>(.lst (l.set j z.1),z.2)
 | .at k :: r,.dct 0 l=>if hU k then (l.findIdx? fun p=>eqT p.1 k).bind fun i=>(l[i]?).bind fun p=>(pm f r p.2).map fun z=>(.dct 0 (l.set i (p.1,z.1)),z.2) else none
 | _,_=>none
end VS
end
section
namespace VS
open PySem PySem.Spec PyProof.Rows L2
section
variable {G:Gx} {X:Cx} {a b c e:Expr} {es:List Expr} {ca cb cc:Ex} {cs:Exs} {pos p:Pos}
mutual
noncomputable def toP:T->PyData
 | .non=>.none
 | .bl b=>.bool b
 | .int i=>.int i
 | .str s=>.str (sx s)
 | .tup l=>.tuple (kc l)
 | .lst l=>.list (kc l)
 | _=>.none
noncomputable def kc:Ww->List PyData
 | []=>[]
 | t :: r=>toP t :: kc r
end
theorem B9 {s:Tx} (h:lA s):PyData.strOk (sx s)=true:=by
 unfold PyData.strOk sx
 simp only [Array.all_eq_true,decide_eq_true_eq]
 intro i hi
 have:s.toArray[i]∈s:=by simp
 have:=h.2 _ this
 simpa using this
theorem tH {s t:Tx}:(sx s == sx t)=(s == t):=by
 rw [Xi,beq_iff_eq,beq_iff_eq]
 constructor
 ·intro h
  have:(sx s).cps=(sx t).cps:=by rw [h]
  simpa [sx] using this
 ·intro h
  rw [h]
mutual
theorem mI:∀ (n k:Nat) (t u:T),eqD n t=true->eqD k u=true->PyData.eqv (toP t) (toP u)=eqT t u
 | n,k,t,u,h1,h2=>by
  cases t with
  | scr _=>cases n <;> simp at h1
  | dct _ _=>cases n <;> simp at h1
  | obj _ _=>cases n <;> simp at h1
  | tup l =>
   cases n with
   | zero=>simp at h1
   | succ n =>
    cases u with
    | tup r =>
     cases k with
     | zero=>simp at h2
     | succ k =>
      simp only [toP,PyData.eqv,eqT]
      exact kz n k l r (by simpa using h1) (by simpa using h2)
    | scr _=>cases k <;> simp at h2
    | dct _ _=>cases k <;> simp at h2
    | obj _ _=>cases k <;> simp at h2
    | _=>simp [toP,PyData.eqv,eqT]
  | lst l =>
   cases n with
   | zero=>simp at h1
   | succ n =>
    cases u with
    | lst r =>
     cases k with
     | zero=>simp at h2
     | succ k =>
      simp only [toP,PyData.eqv,eqT]
      exact kz n k l r (by simpa using h1) (by simpa using h2)
    | scr _=>cases k <;> simp at h2
    | dct _ _=>cases k <;> simp at h2
    | obj _ _=>cases k <;> simp at h2
    | _=>simp [toP,PyData.eqv,eqT]
  | str s =>
   cases u with
   | str r=>simp only [toP,PyData.eqv,eqT];exact tH
   | scr _=>cases k <;> simp at h2
   | dct _ _=>cases k <;> simp at h2
   | obj _ _=>cases k <;> simp at h2
   | _=>simp [toP,PyData.eqv,eqT]
  | _ =>
   cases u with
   | scr _=>cases k <;> simp at h2
   | dct _ _=>cases k <;> simp at h2
   | obj _ _=>cases k <;> simp at h2
   | _=>simp [toP,PyData.eqv,eqT]
theorem kz:∀ (n k:Nat) (l r:Ww),(∀ t∈l,eqD n t=true)->(∀ t∈r,eqD k t=true)->PyData.eqvAll (kc l) (kc r)=oI l r
 | _,_,[],[],_,_=>rfl
 | _,_,[],_ :: _,_,_=>rfl
 | _,_,_ :: _,[],_,_=>rfl
 | n,k,t :: l,u :: r,h1,h2=>by
  simp only [kc,PyData.eqvAll,oI]
  rw [mI n k t u (h1 t Zx) (h2 u Zx),kz n k l r (fun x hx=>h1 x (Zv _ hx)) fun x hx=>h2 x (Zv _ hx)]
end
theorem Rp.tup_inv5 {H:Hp} {v:V} {ts:Ww} {F:X4} (r:Rp G H v (.tup ts) F):∃ b vs Fs,v=.ref b/\H b=some (.tup vs)/\RpL G H vs ts Fs:=by
 cases r with
 | tup h q=>exact ⟨_,_,_,rfl,h,q⟩
theorem Rp.lst_inv5 {H:Hp} {v:V} {ts:Ww} {F:X4} (r:Rp G H v (.lst ts) F):∃ b vs Fs,v=.ref b/\H b=some (.lst vs)/\RpL G H vs ts Fs:=by
 cases r with
 | lst h q=>exact ⟨_,_,_,rfl,h,q⟩
theorem jw {H:Hp} {s:Shared} {n:Nat} (rd:∀ {v:V} {t:T} {F:X4} {u:Value},Rp G H v t F->RelV v u->eqD n t=true->∃ as,Reads s.heap u (toP t) as/\(toP t).canLay0=true/\(toP t).depth<=n):∀ {vs:List V} {ts:Ww} {Fs:Xq} {us:X5},RpL G H vs ts Fs->aR vs us->(∀ t∈ts,eqD n t=true) →
  ∃ as,ReadsAll s.heap us (kc ts) as/\PyData.canLayAll0 (kc ts)=true/\PyData.depthAll (kc ts)<=n
 | _,_,_,_,.nil,r,_=>by cases r;exact ⟨_,.nil,rfl,Ye _⟩
 | _,_,_,_,.cons p q,r,h=>by
  cases r with
  | cons r1 r2 =>
   obtain ⟨as,h1,h2,h3⟩:=rd p r1 (h _ Zx)
   obtain ⟨bs,g1,g2,g3⟩:=jw rd q r2 fun t ht=>h t (Zv _ ht)
   exact ⟨_,.cons h1 g1,by simp only [kc,PyData.canLayAll0,h2,g2,Bool.and_self],by simp only [kc,PyData.depthAll];lia⟩
theorem kS {h:Heap} {H:Hp} {v:V} {t:T} {F:X4} {u:Value} {n:Nat} (r:Rp G H v t F) (ru:RelV v u) (hf:flat t=true):∃ as,Reads h u (toP t) as/\(toP t).canLay0=true/\(toP t).depth<=n:=by
 cases r with
 | non=>cases ru;exact ⟨_,.none,rfl,Ye _⟩
 | bl b=>cases ru;exact ⟨_,.bool b,rfl,Ye _⟩
 | int i=>obtain ⟨t,rfl⟩:=ru;exact ⟨_,.int i t,rfl,Ye _⟩
 | str s h=>obtain ⟨t,rfl⟩:=ru;exact ⟨_,.str _ t,B9 h,Ye _⟩
 | _=>cases hf
theorem iN {H:Hp} {pins:Xw} {σ:L2.St} {s:Shared} (I:Inv X pins σ H s) (n:Nat):∀ {v:V} {t:T} {F:X4} {u:Value},Rp G H v t F->RelV v u->eqD n t=true->∃ as,Reads s.heap u (toP t) as/\(toP t).canLay0=true/\(toP t).depth<=n:=by
 induction n with
 | zero =>
  intro v t F u r ru h
  refine kS r ru ?_
  cases t <;> first | rfl | exact h
 | succ n ih =>
  intro v t F u r ru h
  cases t with
  | tup l =>
   obtain ⟨b,vs,Fs,rfl,e,q⟩:=Rp.tup_inv5 r
   cases ru
   obtain ⟨its,rv,tp,hz⟩:=I.tuple (SqT.of e)
   obtain ⟨as,h1,h2,h3⟩:=jw ih q rv (by simpa using h)
   obtain ⟨o,ho,hc,n',hd⟩:=tp
   exact ⟨_,.tuple ho hc hd (by simpa using h1),h2,by simp only [toP,PyData.depth];exact Xp h3⟩
  | lst l =>
   obtain ⟨b,vs,Fs,rfl,e,q⟩:=Rp.lst_inv5 r
   cases ru
   obtain ⟨its,rv,pl,hz⟩:=I.list (SqL.of e)
   obtain ⟨as,h1,h2,h3⟩:=jw ih q rv (by simpa using h)
   obtain ⟨o,ho,hc,n',hd⟩:=pl.isList
   exact ⟨_,.list ho hc hd (by simpa using h1),h2,by simp only [toP,PyData.depth];exact Xp h3⟩
  | scr _=>simp at h
  | dct _ _=>simp at h
  | obj _ _=>simp at h
  | _=>exact kS r ru rfl
noncomputable def xS (G:Gx) (neg:Bool):R2:=fun x y H Q=>∃ t u F F',Rp G H x t F/\Rp G H y u F'/\eqD 60 t=true/\eqD 60 u=true/\Q (.bl (if neg then !eqT t u else eqT t u)) H
theorem g5 {d:PyData} (h:d.canLay0=true) (h2:d.depth<=60):SeqAt.shaped d=true:=by
 unfold SeqAt.shaped
 rw [h,Bool.true_and]
 exact decide_eq_true (by lia)
theorem tP (hu:X.A.units+64 < cLine):OpR X (compareOp .Eq) (xS G false):=by
 intro pins s σ H x y v u Q I rx ry h
 obtain ⟨t,w,F,F',r1,r2,h1,h2,q⟩:=h
 obtain ⟨as,a1,a2,a3⟩:=iN I 60 r1 rx h1
 obtain ⟨bs,b1,b2,b3⟩:=iN I 60 r2 ry h2
 refine eq_dataH a1 b1 (g5 a2 a3) (g5 b2 b3) hu ⟨.bl _,H,I,rfl,?_⟩
 rw [mI 60 60 t w h1 h2]
 exact q
theorem zS (hu:X.A.units+64 < cLine):OpR X (compareOp .NotEq) (xS G true):=by
 intro pins s σ H x y v u Q I rx ry h
 obtain ⟨t,w,F,F',r1,r2,h1,h2,q⟩:=h
 obtain ⟨as,a1,a2,a3⟩:=iN I 60 r1 rx h1
 obtain ⟨bs,b1,b2,b3⟩:=iN I 60 r2 ry h2
 refine ne_dataH a1 b1 (g5 a2 a3) (g5 b2 b3) hu ⟨.bl _,H,I,rfl,?_⟩
 rw [mI 60 60 t w h1 h2]
 exact q
theorem ya:fB G (xS G false) oEq:=by
 intro Φ η H0 H x y u w F1 F2 m t Q tw e k
 unfold oEq at e
 split at e
 ·rename_i h
  cases e
  exact ⟨_,_,_,_,tw.r1,tw.r2,h.1,h.2,bA k (.bl _)⟩
 ·cases e
theorem BG:fB G (xS G true) oNe:=by
 intro Φ η H0 H x y u w F1 F2 m t Q tw e k
 unfold oNe at e
 split at e
 ·rename_i h
  cases e
  exact ⟨_,_,_,_,tw.r1,tw.r2,h.1,h.2,bA k (.bl _)⟩
 ·cases e
theorem tells_eq:Tells oEq:=by
 intro x y m t e
 unfold oEq at e
 split at e <;> first | (cases e;exact ⟨_,rfl⟩) | cases e
theorem ud:Tells oNe:=by
 intro x y m t e
 unfold oNe at e
 split at e <;> first | (cases e;exact ⟨_,rfl⟩) | cases e
end
structure Frm (Φ:Fps) (η:VS.Env) (H:Hp) (Φ':Fps) (η':VS.Env) (H':Hp):Prop where
 keep:∀ a o,H a=some o->¬ cG Φ η a->H' a=some o/\¬ cG Φ' η' a
 dom:∀ a,H a ≠ none->H' a ≠ none
 ow:∀ a,cG Φ' η' a->cG Φ η a\/H a=none
 pu:∀ a,dP Φ' η' a->dP Φ η a\/cG Φ η a\/H a=none
 kept:Kept H H'
theorem Frm.refl (Φ:Fps) (η:VS.Env) (H:Hp):Frm Φ η H Φ η H:=⟨fun a o h n=>⟨h,n⟩,fun _ h=>h,fun _ h=>.inl h,fun _ h=>.inl h,Kept.refl H⟩
theorem Frm.none {Φ Φ':Fps} {η η':VS.Env} {H H':Hp} (f:Frm Φ η H Φ' η' H') {a:Addr} (h:H' a=none):H a=none:=by
 cases e:H a with
 | none=>rfl
 | some o=>exact absurd h (f.dom a (by rw [e];exact fun z=>nomatch z))
theorem Frm.trans {Φ Φ1 Φ2:Fps} {η η1 η2:VS.Env} {H H1 H2:Hp} (f:Frm Φ η H Φ1 η1 H1) (g:Frm Φ1 η1 H1 Φ2 η2 H2):Frm Φ η H Φ2 η2 H2 where
 keep:=fun a o h n=>let ⟨h1,n1⟩:=f.keep a o h n;g.keep a o h1 n1
 dom:=fun a h=>g.dom a (f.dom a h)
 ow:=fun a h=>by
  rcases g.ow a h with h | h
  ·exact f.ow a h
  ·exact .inr (f.none h)
 pu:=fun a h=>by
  rcases g.pu a h with h | h | h
  ·exact f.pu a h
  ·rcases f.ow a h with h | h
   ·exact .inr (.inl h)
   ·exact .inr (.inr h)
  ·exact .inr (.inr (f.none h))
 kept:=f.kept.trans g.kept
theorem Frm.same {Φ:Fps} {η:VS.Env} {H H':Hp} (e:aP H H'):Frm Φ η H Φ η H' :=
 ⟨fun a o h n=>⟨e a o h,n⟩,fun a h z=>h (e.free z),fun _ h=>.inl h,fun _ h=>.inl h,Kept.of e⟩
noncomputable def oa (Φ:Fps) (η:VS.Env) (H:Hp):Md->X4->Prop
 | .fr,F=>F.Nodup/\∀ a∈F,H a=none\/cG Φ η a
 | _,F=>∀ a∈F,H a=none\/dP Φ η a\/cG Φ η a
theorem oa.back {Φ Φ1:Fps} {η η1:VS.Env} {H H1:Hp} (f:Frm Φ η H Φ1 η1 H1) {F:X4}:∀ {m:Md},oa Φ1 η1 H1 m F->oa Φ η H m F
 | .fr,h=>⟨h.1,fun a ha=>(h.2 a ha).elim (fun z=>.inl (f.none z)) fun z=>(f.ow a z).elim .inr .inl⟩
 | .pu,h=>fun a ha=>by
  rcases h a ha with z | z | z
  ·exact .inl (f.none z)
  ·rcases f.pu a z with z | z | z
   ·exact .inr (.inl z)
   ·exact .inr (.inr z)
   ·exact .inl z
  ·exact (f.ow a z).elim (fun z=>.inr (.inr z)) .inl
 | .bo,h=>fun a ha=>by
  rcases h a ha with z | z | z
  ·exact .inl (f.none z)
  ·rcases f.pu a z with z | z | z
   ·exact .inr (.inl z)
   ·exact .inr (.inr z)
   ·exact .inl z
  ·exact (f.ow a z).elim (fun z=>.inr (.inr z)) .inl
noncomputable def Nx (G:Gx) (Φ:Fps) (η:VS.Env) (H:Hp) (η':VS.Env) (k:L2.St->Hp->Prop):Prop:=∀ Φ' σ' H',SR G Φ' η' σ' H'->Frm Φ η H Φ' η' H'->k σ' H'
noncomputable def pN (G:Gx) (Φ:Fps) (η:VS.Env) (H:Hp) (D:Ends):Out->Prop
 | .nx η'=>Nx G Φ η H η' D.nx
 | .bk η'=>Nx G Φ η H η' D.bk
 | .ct η'=>Nx G Φ η H η' D.ct
 | .rt v η'=>∀ u H' F Φ' σ',SR G Φ' η' σ' H'->Frm Φ η H Φ' η' H'->Rp G H' u v.2 F->oa Φ η H v.1 F->D.rt u H'
noncomputable def tS (G:Gx) (c:Sx):TS:=fun D σ H=>∃ Φ η o,SR G Φ η σ H/\c η=some o/\pN G Φ η H D o
noncomputable def PSV (G:Gx) (X:Cx) (st:Stmt) (c:Sx):Prop:=PS X st (tS G c)
noncomputable def dh (G:Gx) (X:Cx) (st:List Stmt) (c:Sx):Prop:=PSs X st (tS G c)
theorem PS.weak {X:Cx} {e:Stmt} {t t':TS} (h:PS X e t) (w:∀ D σ H,t' D σ H->t D σ H):PS X e t':=fun pins s σ H D I q=>h pins s σ H D I (w D σ H q)
theorem PSs.weak {X:Cx} {e:List Stmt} {t t':TS} (h:PSs X e t) (w:∀ D σ H,t' D σ H->t D σ H):PSs X e t':=fun pins s σ H D I q=>h pins s σ H D I (w D σ H q)
theorem pN.back {G:Gx} {Φ Φ1:Fps} {η η1:VS.Env} {H H1:Hp} {D:Ends} (f:Frm Φ η H Φ1 η1 H1):∀ {o:Out},pN G Φ η H D o->pN G Φ1 η1 H1 D o
 | .nx η',h=>fun Φ' σ' H' s g=>h Φ' σ' H' s (f.trans g)
 | .bk η',h=>fun Φ' σ' H' s g=>h Φ' σ' H' s (f.trans g)
 | .ct η',h=>fun Φ' σ' H' s g=>h Φ' σ' H' s (f.trans g)
 | .rt v η',h=>fun u H' F Φ' σ' s g r q=>h u H' F Φ' σ' s (f.trans g) r (q.back f)
section
variable {G:Gx} {X:Cx} {st:Stmt} {sts:List Stmt} {c c1 c2:Sx} {pos:Pos} {e:Expr} {ce:Ex}
theorem vz:dh G X [] eG:=PSs.weak xu fun D σ H hq=>by
 obtain ⟨Φ,η,o,s,e,k⟩:=hq
 cases (show some (Out.nx η)=some o from e)
 exact k Φ σ H s (Frm.refl _ _ _)
theorem sq (h1:PSV G X st c1) (h2:dh G X sts c2):dh G X (st :: sts) (ar c1 c2):=PSs.weak (uU h1 h2) fun D σ H hq=>by
 obtain ⟨Φ,η,o,s,e,k⟩:=hq
 unfold ar at e
 obtain ⟨o1,e1,e2⟩:=Zz.mp e
 refine ⟨Φ,η,o1,s,e1,?_⟩
 cases o1 with
 | nx η1=>exact fun Φ' σ' H' s' f=>⟨Φ',η1,o,s',e2,k.back f⟩
 | rt v η1=>cases e2;exact k
 | bk η1=>cases e2;exact k
 | ct η1=>cases e2;exact k
theorem vG (h1:PSV G X st c1):dh G X [st] c1:=xr h1
theorem Aa {t:Expr} {ct:Ex} {a b:List Stmt} (hc:PVT G X t ct) (ha:dh G X a c1) (hb:dh G X b c2):PSV G X (.If t a b pos) (sIf ct c1 c2):=PS.weak (BH hc ha hb) fun D σ H hq=>by
 obtain ⟨Φ,η,o,s,e,k⟩:=hq
 unfold sIf at e
 obtain ⟨⟨m,x⟩,ec,e1⟩:=Zz.mp e
 obtain ⟨b',eb,e2⟩:=Zz.mp e1
 refine ⟨Φ,η,m,x,b',s,ec,eb,fun H' e3=>?_⟩
 cases b' with
 | true =>
  rw [Zq rfl] at e2
  exact xG ⟨Φ,η,o,s.same e3,e2,k.back (Frm.same e3)⟩
 | false =>
  rw [Zn Zh] at e2
  exact wx ⟨Φ,η,o,s.same e3,e2,k.back (Frm.same e3)⟩
theorem Fp.ret {Φ:Fps} {η:VS.Env} {H:Hp} {F:X4}:∀ {m:Md},Fp Φ η H m F->oa Φ η H (match m with | .bo=>.pu | m=>m) F
 | .fr,f=>⟨f.1,fun a ha=>.inl (f.2 a ha)⟩
 | .pu,f=>fun a ha=>(f a ha).elim .inl fun z=>.inr (.inl z)
 | .bo,f=>f
theorem wj (he:PV G X e ce):PSV G X (.Return (some e) pos) (eJ ce):=PS.weak (mY he) fun D σ H hq=>by
 obtain ⟨Φ,η,o,s,e,k⟩:=hq
 unfold eJ at e
 obtain ⟨⟨m,x⟩,ec,e1⟩:=Zz.mp e
 cases e1
 exact ⟨Φ,η,m,x,s,ec,fun v H' F e1 r1 f1=>k v H' F Φ σ (s.same e1) (Frm.same e1) r1 f1.ret⟩
theorem cN {η:VS.Env} {i j:Nat} {c:Cell} (h:(η.set i none)[j]?=some (some c)):j ≠ i/\η[j]?=some (some c):=by
 rw [XM] at h
 split at h
 ·split at h <;> cases h
 ·rename_i n
  exact ⟨fun z=>n z.symm,h⟩
theorem SR.drop {Φ:Fps} {η:VS.Env} {σ:L2.St} {H:Hp} (s:SR G Φ η σ H) (i:Nat):SR G Φ (η.set i none) σ H :=
 ⟨by rw [Z3];exact s.len,fun j c h=>s.rp j c (cN h).2,fun j t h=>s.nd j t (cN h).2,fun j k t c h1 h2 n=>s.sep j k t c (cN h1).2 (cN h2).2 n⟩
theorem Frm.drop {Φ:Fps} {η:VS.Env} {H:Hp} (i:Nat):Frm Φ η H Φ (η.set i Option.none) H :=
 ⟨fun a o h n=>⟨h,fun ⟨j,t,h1,h2⟩=>n ⟨j,t,(cN h1).2,h2⟩⟩,fun _ h=>h,fun a ⟨j,t,h1,h2⟩=>.inl ⟨j,t,(cN h1).2,h2⟩,fun a ⟨j,t,h1,h2⟩=>.inl ⟨j,t,(cN h1).2,h2⟩,Kept.refl H⟩
theorem sW (i:Nat) {x:Str} {p:Pos} (hN:X.N[i]?=some x:=by rfl) (hv:Vis X.env.scope x:=by first | exact Or.inl rfl | exact Or.inr (Or.inl rfl) | exact Or.inr (Or.inr rfl)) (hd:(x == ("__debug__" : Str))=false:=by decide)
  (hcd:(x == ("__classdict__" : Str))=false:=by decide):PSV G X (.Return (some (.Name x p)) pos) (gv i):=PS.weak (mY (gm hN hv hd hcd)) fun D σ H hq=>by
 obtain ⟨Φ,η,o,s,e,k⟩:=hq
 unfold gv at e
 split at e
 ·rename_i t h
  obtain ⟨v,h1,h2⟩:=s.rp _ _ h
  cases e
  exact ⟨v,h1,k v H (Φ i) Φ σ (s.drop i) (Frm.drop i) h2 ⟨s.nd i t h,fun a ha=>.inr ⟨i,t,h,ha⟩⟩⟩
 ·rename_i t h
  obtain ⟨v,h1,h2⟩:=s.rp _ _ h
  cases e
  refine ⟨v,h1,k v H (Φ i) Φ σ s (Frm.refl _ _ _) h2 ?_⟩
  have f:Fp Φ η H .pu (Φ i):=fun a ha=>.inr ⟨i,t,h,ha⟩
  have f2:=(f.up h2).ret
  have:(match (VS.up .pu (iX (.pu t))).1 with | .bo=>Md.pu | m=>m)=(VS.up .pu t).1:=by
   show (match (VS.up .pu t).1 with | .bo=>Md.pu | m=>m)=_
   unfold VS.up
   split <;> (rename_i q;revert q;split <;> simp)
  rw [this] at f2
  exact f2
 ·cases e
noncomputable def jK (Φ:Fps) (i:Nat) (F:X4):Fps:=fun j=>if j=i then F else Φ j
theorem gY {Φ:Fps} {i:Nat} {F:X4}:jK Φ i F i=F:=Zq rfl
theorem d6 {Φ:Fps} {i j:Nat} {F:X4} (h:j ≠ i):jK Φ i F j=Φ j:=Zn h
theorem gf {η:VS.Env} {i j:Nat} {c c':Cell} (h:(η.set i (some c))[j]?=some (some c')):(j=i/\c'=c)\/(j ≠ i/\η[j]?=some (some c')):=by
 rw [XM] at h
 split at h
 ·rename_i e
  split at h
  ·exact .inl ⟨e.symm,(Zo (Zo h)).symm⟩
  ·cases h
 ·rename_i n
  exact .inr ⟨fun z=>n z.symm,h⟩
theorem SR.put {Φ:Fps} {η:VS.Env} {σ:L2.St} {H H':Hp} {i:Nat} {v:V} {c:Cell} {F:X4} (s:SR G Φ η σ H) (hi:i < η.length) (r:Rp G H' v (iX c) F)
  (hk:∀ j c',j ≠ i->η[j]?=some (some c')->∀ w,Rp G H w (iX c') (Φ j)->Rp G H' w (iX c') (Φ j))
  (hnd:∀ t,c=.ow t->F.Nodup) (hown:∀ t,c=.ow t->∀ j c',j ≠ i->η[j]?=some (some c')->∀ a∈F,a ∉ Φ j) (hpu:∀ j t,j ≠ i->η[j]?=some (some (.ow t))->∀ a∈Φ j,a ∉ F) :
  SR G (jK Φ i F) (η.set i (some c)) (σ.set i (some v)) H' where
 len:=by rw [Z3,Z3];exact s.len
 rp:=fun j c' h=>by
  rcases gf h with ⟨rfl,rfl⟩ | ⟨n,h⟩
  ·exact ⟨v,by rw [Xm (by rw [← s.len];exact hi)],by rw [gY];exact r⟩
  ·obtain ⟨w,h1,h2⟩:=s.rp j c' h
   exact ⟨w,by rw [Yd (Ya n)];exact h1,by rw [d6 n];exact hk j c' n h w h2⟩
 nd:=fun j t h=>by
  rcases gf h with ⟨rfl,e⟩ | ⟨n,h⟩
  ·rw [gY];exact hnd t e.symm
  ·rw [d6 n];exact s.nd j t h
 sep:=fun j k t c' h1 h2 n=>by
  rcases gf h1 with ⟨rfl,e⟩ | ⟨n1,g1⟩
  ·rcases gf h2 with ⟨rfl,e2⟩ | ⟨n2,g2⟩
   ·exact absurd rfl n
   ·rw [gY,d6 n2]
    exact hown t e.symm k c' n2 g2
  ·rcases gf h2 with ⟨rfl,e2⟩ | ⟨n2,g2⟩
   ·rw [gY,d6 n1]
    exact hpu j t n1 g1
   ·rw [d6 n1,d6 n2]
    exact s.sep j k t c' g1 g2 n
theorem kQ {Φ:Fps} {η:VS.Env} {i:Nat} {c:Cell} {F:X4} {a:Addr} (h:cG (jK Φ i F) (η.set i (some c)) a):(∃ t,c=.ow t/\a∈F)\/cG Φ η a:=by
 obtain ⟨j,t,h1,h2⟩:=h
 rcases gf h1 with ⟨rfl,e⟩ | ⟨n,h1⟩
 ·rw [gY] at h2;exact .inl ⟨t,e.symm,h2⟩
 ·rw [d6 n] at h2;exact .inr ⟨j,t,h1,h2⟩
theorem oX {Φ:Fps} {η:VS.Env} {i:Nat} {c:Cell} {F:X4} {a:Addr} (h:dP (jK Φ i F) (η.set i (some c)) a):(∃ t,c=.pu t/\a∈F)\/dP Φ η a:=by
 obtain ⟨j,t,h1,h2⟩:=h
 rcases gf h1 with ⟨rfl,e⟩ | ⟨n,h1⟩
 ·rw [gY] at h2;exact .inl ⟨t,e.symm,h2⟩
 ·rw [d6 n] at h2;exact .inr ⟨j,t,h1,h2⟩
theorem SR.ow_pu {Φ:Fps} {η:VS.Env} {σ:L2.St} {H:Hp} (s:SR G Φ η σ H) {a:Addr} (h:cG Φ η a) (h':dP Φ η a):False:=by
 obtain ⟨j,t,h1,h2⟩:=h
 obtain ⟨k,u,g1,g2⟩:=h'
 have n:j ≠ k:=fun e=>by subst e;rw [h1] at g1;cases g1
 exact s.sep j k t _ h1 g1 n a h2 g2
theorem SR.val {Φ:Fps} {η:VS.Env} {σ:L2.St} {H H':Hp} {i:Nat} {v:V} {t:T} {m:Md} {F:X4} {c:Cell} (s:SR G Φ η σ H) (hi:i < η.length) (e:aP H H') (r:Rp G H' v t F) (f:Fp Φ η H m F)
  (hc:(c=.pu t/\m ≠ .bo)\/(c=.ow t/\m=.fr)):SR G (jK Φ i F) (η.set i (some c)) (σ.set i (some v)) H'/\Frm Φ η H (jK Φ i F) (η.set i (some c)) H':=by
 have dom:∀ {a},H a=none->∀ j c',η[j]?=some (some c')->a ∉ Φ j:=fun {a} h j c' hj ha=>by
  obtain ⟨w,_,q⟩:=s.rp j c' hj
  exact Mut.ne_none (q.dom a ha) h
 have ct:iX c=t:=by rcases hc with ⟨rfl,_⟩ | ⟨rfl,_⟩ <;> rfl
 have fpu:∀ a∈F,H a=none\/dP Φ η a:=fun a ha=>by
  rcases hc with ⟨_,n⟩ | ⟨_,n⟩
  ·exact f.pu n a ha
  ·rw [n] at f;exact .inl (f.2 a ha)
 constructor
 ·refine s.put hi (by rw [ct];exact r) (fun j c' n hj w q=>q.same e) (fun u hu=>?_) (fun u hu j c' n hj a ha=>?_) fun j u n hj a ha hF=>?_
  ·rcases hc with ⟨h,_⟩ | ⟨_,h⟩
   ·rw [h] at hu;cases hu
   ·rw [h] at f;exact f.1
  ·rcases hc with ⟨h,_⟩ | ⟨_,h⟩
   ·rw [h] at hu;cases hu
   ·rw [h] at f;exact dom (f.2 a ha) j c' hj
  ·rcases fpu a hF with z | z
   ·exact dom z j _ hj ha
   ·exact s.ow_pu ⟨j,u,hj,ha⟩ z
 ·refine ⟨fun a o h n=>⟨e a o h,fun z=>?_⟩,fun a h z=>h (e.free z),fun a h=>?_,fun a h=>?_,Kept.of e⟩
  ·rcases kQ z with ⟨u,hu,ha⟩ | z
   ·rcases hc with ⟨h',_⟩ | ⟨_,h'⟩
    ·rw [h'] at hu;cases hu
    ·rw [h'] at f
     rw [f.2 a ha] at h;cases h
   ·exact n z
  ·rcases kQ h with ⟨u,hu,ha⟩ | z
   ·rcases hc with ⟨h',_⟩ | ⟨_,h'⟩
    ·rw [h'] at hu;cases hu
    ·rw [h'] at f
     exact .inr (f.2 a ha)
   ·exact .inl z
  ·rcases oX h with ⟨u,hu,ha⟩ | z
   ·exact (fpu a ha).elim (fun z=>.inr (.inr z)) .inl
   ·exact .inl z
theorem wW {i:Nat} {x:Str} {pos':Pos} (he:PV G X e ce) (hN:X.N.Nodup) (hi:X.N[i]?=some x:=by rfl) (hx:Loc X.env.scope x:=by first | exact Or.inl rfl | exact Or.inr rfl)
  (hs:swapsWith e (some (.Name x pos')) pos.line X.env=pure false:=by rfl) (hf:X.fn x=true\/X.env.scope.names.lookup x=some .local:=by first | exact .inl rfl | exact .inr rfl) :
  PSV G X (.Assign [.Name x pos'] e pos) (ly i ce):=PS.weak (o6 hN hi hx he hs hf) fun D σ H hq=>by
 obtain ⟨Φ,η,o,s,e,k⟩:=hq
 unfold ly at e
 obtain ⟨⟨m,t⟩,ec,e1⟩:=Zz.mp e
 obtain ⟨c,eC,e2⟩:=Zz.mp e1
 split at e2
 ·rename_i hl
  cases e2
  refine ⟨Φ,η,m,t,s,ec,fun v H' F e3 r3 f3=>?_⟩
  obtain ⟨q1,q2⟩:=s.val (c:=c) hl e3 r3 f3 (by
   unfold cellOf at eC
   cases m with
   | fr =>
    simp only [Option.some.injEq] at eC
    split at eC
    ·exact .inr ⟨eC.symm,rfl⟩
    ·exact .inl ⟨eC.symm,by decide⟩
   | pu=>cases eC;exact .inl ⟨rfl,by decide⟩
   | bo=>cases eC)
  exact k _ _ H' q1 q2
 ·cases e2
theorem ur {i:Nat} {x:Str} {pos':Pos} (he:PV G X e ce) (hN:X.N.Nodup) (hi:X.N[i]?=some x:=by rfl) (hx:Loc X.env.scope x:=by first | exact Or.inl rfl | exact Or.inr rfl)
  (hs:swapsWith e (some (.Name x pos')) pos.line X.env=pure false:=by rfl) (hf:X.fn x=true\/X.env.scope.names.lookup x=some .local:=by first | exact .inl rfl | exact .inr rfl) :
  PSV G X (.Assign [.Name x pos'] e pos) (aW i ce):=PS.weak (o6 hN hi hx he hs hf) fun D σ H hq=>by
 obtain ⟨Φ,η,o,s,e,k⟩:=hq
 unfold aW at e
 obtain ⟨⟨m,t⟩,ec,e1⟩:=Zz.mp e
 split at e1
 ·cases e1
 ·rename_i hm
  split at e1
  ·rename_i hl
   cases e1
   refine ⟨Φ,η,m,t,s,ec,fun v H' F e3 r3 f3=>?_⟩
   obtain ⟨q1,q2⟩:=s.val (c:=.pu t) hl e3 r3 f3 (.inl ⟨rfl,hm⟩)
   exact k _ _ H' q1 q2
  ·cases e1
theorem SR.frz {Φ:Fps} {η:VS.Env} {σ:L2.St} {H:Hp} {i:Nat} {t:T} (s:SR G Φ η σ H) (h:η[i]?=some (some (.ow t))):SR G Φ (η.set i (some (.pu t))) σ H/\Frm Φ η H Φ (η.set i (some (.pu t))) H:=by
 have back:∀ {j c},(η.set i (some (.pu t)))[j]?=some (some c)->∃ c',η[j]?=some (some c')/\iX c'=iX c/\∀ u,c=.ow u->c'=.ow u:=fun {j c} hj=>by
  rcases gf hj with ⟨rfl,rfl⟩ | ⟨n,hj⟩
  ·exact ⟨.ow t,h,rfl,fun u hu=>nomatch hu⟩
  ·exact ⟨c,hj,rfl,fun u hu=>hu⟩
 refine ⟨⟨by rw [Z3];exact s.len,fun j c hj=>?_,fun j u hj=>?_,fun j k u c h1 h2 n=>?_⟩,⟨fun a o ha n=>⟨ha,fun ⟨j,u,h1,h2⟩=>?_⟩,fun _ h=>h,fun a ⟨j,u,h1,h2⟩=>?_,fun a ⟨j,u,h1,h2⟩=>?_,Kept.refl H⟩⟩
 ·obtain ⟨c',h1,h2,_⟩:=back hj
  obtain ⟨v,g1,g2⟩:=s.rp j c' h1
  exact ⟨v,g1,by rw [← h2];exact g2⟩
 ·obtain ⟨c',h1,_,h3⟩:=back hj
  rw [h3 u rfl] at h1
  exact s.nd j u h1
 ·obtain ⟨c1,g1,_,g3⟩:=back h1
  obtain ⟨c2,k1,_,_⟩:=back h2
  rw [g3 u rfl] at g1
  exact s.sep j k u c2 g1 k1 n
 ·obtain ⟨c1,g1,_,g3⟩:=back h1
  rw [g3 u rfl] at g1
  exact n ⟨j,u,g1,h2⟩
 ·obtain ⟨c1,g1,_,g3⟩:=back h1
  rw [g3 u rfl] at g1
  exact .inl ⟨j,u,g1,h2⟩
 ·rcases gf h1 with ⟨rfl,_⟩ | ⟨n,h1⟩
  ·exact .inr (.inl ⟨j,t,h,h2⟩)
  ·exact .inl ⟨j,u,h1,h2⟩
theorem vy (i:Nat) (h:dh G X sts c):dh G X sts (ar (oK i) c):=PSs.weak h fun D σ H hq=>by
 obtain ⟨Φ,η,o,s,e,k⟩:=hq
 unfold ar at e
 obtain ⟨o1,e1,e2⟩:=Zz.mp e
 unfold oK at e1
 split at e1
 ·rename_i t ht
  cases e1
  obtain ⟨q1,q2⟩:=s.frz ht
  exact ⟨Φ,_,o,q1,e2,k.back q2⟩
 ·cases e1
  exact ⟨Φ,η,o,s,e2,k⟩
 ·cases e1
end
section
variable {G:Gx} {X:Cx} {st:Stmt} {sts:List Stmt} {c c1 c2:Sx} {pos:Pos} {e:Expr} {es:List Expr} {ce:Ex} {cs:Exs}
structure Chg (G:Gx) (H:Hp) (v:V) (F:X4) (t':T) (H2:Hp) (F':X4):Prop where
 kept:Kept H H2
 keep:∀ b o,b ∉ F->H b=some o->H2 b=some o
 dom:∀ b,H b ≠ none->H2 b ≠ none
 rp:Rp G H2 v t' F'
 nd:F'.Nodup
 sub:∀ a∈F',a∈F\/H a=none
theorem SR.mut {Φ:Fps} {η:VS.Env} {σ:L2.St} {H H2:Hp} {i:Nat} {v:V} {t t':T} {F':X4} (s:SR G Φ η σ H) (hi:η[i]?=some (some (.ow t))) (hv:σ[i]?=some (some v)) (g:Chg G H v (Φ i) t' H2 F') :
  SR G (jK Φ i F') (η.set i (some (.ow t'))) σ H2/\Frm Φ η H (jK Φ i F') (η.set i (some (.ow t'))) H2:=by
 have hl:i < η.length:=(Zf.mp hi).1
 have off:∀ j c',j ≠ i->η[j]?=some (some c')->∀ a∈Φ j,a ∉ Φ i:=fun j c' n hj a ha ha'=>s.sep i j t c' hi hj (Ya n) a ha' ha
 have es:σ.set i (some v)=σ:=by
  obtain ⟨h,e⟩:=Zf.mp hv
  rw [← e]
  exact Xf h
 have new:∀ a∈F',∀ j c',j ≠ i->η[j]?=some (some c')->a ∉ Φ j:=fun a ha j c' n hj ha'=>by
  rcases g.sub a ha with z | z
  ·exact off j c' n hj a ha' z
  ·obtain ⟨w,_,q⟩:=s.rp j c' hj
   exact Mut.ne_none (q.dom a ha') z
 constructor
 ·have:=s.put (c:=.ow t') (F:=F') (H':=H2) (v:=v) hl g.rp (fun j c' n hj w q=>q.keep g.kept fun a ha o ho=>g.keep a o (off j c' n hj a ha) ho) (fun _ _=>g.nd) (fun u hu j c' n hj a ha=>new a ha j c' n hj) fun j u n hj a ha ha'=>new a ha' j _ n hj ha
  rw [es] at this
  exact this
 ·refine ⟨fun a o h n=>⟨g.keep a o (fun z=>n ⟨i,t,hi,z⟩) h,fun z=>?_⟩,g.dom,fun a h=>?_,fun a h=>?_,g.kept⟩
  ·rcases kQ z with ⟨u,_,ha⟩ | z
   ·rcases g.sub a ha with z | z
    ·exact n ⟨i,t,hi,z⟩
    ·rw [z] at h;cases h
   ·exact n z
  ·rcases kQ h with ⟨u,_,ha⟩ | z
   ·rcases g.sub a ha with z | z
    ·exact .inl ⟨i,t,hi,z⟩
    ·exact .inr z
   ·exact .inl z
  ·rcases oX h with ⟨u,hu,ha⟩ | z
   ·cases hu
   ·exact .inl z
noncomputable def qd (G:Gx) (r:V->List V->Hp->VK->Prop) (f:T->Wy->Option (T×Val)):Prop:=∀ (Φ:Fps) (η:VS.Env) (H H1:Hp) (v:V) (t t':T) (F:X4) (l:Wy) (vs:List V) (Fs:Xq) (x:Val) (Q:VK),
 Rp G H v t F->F.Nodup->Args G Φ η H H1 l vs Fs->f t l=some (t',x)->(∀ u H2 F',Chg G H v F t' H2 F'->Q u H2)->r v vs H1 Q
theorem nJ {T' id:String} {name x:Str} {r:V->List V->Hp->VK->Prop} {f:T->Wy->Option (T×Val)} {apos cpos p1:Pos} (i:Nat) (pa:PlainAttrs T') (slot:Slot T' name id) (hty:typeOf (.builtin id)=pure (.type "method_descriptor")) (hm:MtR X id r) (ok:qd G r f)
  (hT:∀ H v t F l z,Rp G H v t F->f t l=some z->tyV G.K T' v H) (ha:PVs G X (e :: es) cs) (hK:X.K=G.K:=by rfl)
  (hN:X.N[i]?=some x:=by rfl) (hv:Vis X.env.scope x:=by first | exact Or.inl rfl | exact Or.inr (Or.inl rfl) | exact Or.inr (Or.inr rfl)) (hd:(x == ("__debug__" : Str))=false:=by decide)
  (hcd:(x == ("__classdict__" : Str))=false:=by decide)
  (hbase:attributeBase (.Name x p1) name X.env (eval (.Name x p1) X.env)=eval (.Name x p1) X.env:=by rfl)
  (hfew:((backTo cpos (starEach (e :: es) X.env)).all (fun x=>!x.1) && (backToKw cpos (keywordEach [] X.env)).all (fun x=>x.1.isSome)
   && decide ((e :: es).length+([]:List Keyword).length+(if ([]:List Keyword).isEmpty then 0 else 1) < 30))=true:=by rfl)
  (hline:(apos.endLine == cpos.line)=true:=by rfl) (hs:starEach (e :: es) X.env=(false,eval e X.env) :: starEach es X.env:=by rfl) (hplain:(backTo cpos (starEach es X.env)).any (·.1)=false:=by rfl)
  (hsw:swapsWith (.Call (.Attribute (.Name x p1) name apos) (e :: es) [] cpos) none pos.line X.env=pure false:=by rfl) :
  PSV G X (.Expr (.Call (.Attribute (.Name x p1) name apos) (e :: es) [] cpos) pos) (sX (jN i [] f cs)) :=
 PS.weak (iT (qq pa slot hty hm (gm hN hv hd hcd) ha hbase hfew hline hs hplain) hsw) fun D σ H hq=>by
  obtain ⟨Φ,η,o,s,e,k⟩:=hq
  unfold sX jN at e
  obtain ⟨⟨x',η'⟩,e1,e2⟩:=Zw.mp e
  split at e1
  ·rename_i t ht
   obtain ⟨ks,ek,e3⟩:=Zz.mp e1
   cases (show some ([]:List Ky)=some ks from ek)
   obtain ⟨l,el,e4⟩:=Zz.mp e3
   obtain ⟨⟨t',x2⟩,e5,e6⟩:=Zw.mp e4
   cases e6
   cases e2
   obtain ⟨v,h1,h2⟩:=s.rp _ _ ht
   have e7:f t l=some (t',x'):=e5
   refine ⟨v,h1,by rw [hK];exact hT H v t _ l _ h2 e7,Φ,η,l,s,el,fun vs H' Fs q1 q2 q3=>?_⟩
   refine ok Φ η H H' v t t' (Φ i) l vs Fs x' _ h2 (s.nd i t ht) ⟨q1,q2,q3⟩ e7 fun u H2 F' g=>?_
   obtain ⟨w1,w2⟩:=s.mut ht h1 g
   exact k _ σ H2 w1 w2
  ·cases e1
theorem Chg.upd {H H1:Hp} {v:V} {F:X4} {a:Addr} {o:HO} {t':T} {F':X4} (e:aP H H1) (ha:a∈F) (hm:Mut (H1 a)) (r:Rp G (upd H1 a o) v t' F') (nd:F'.Nodup) (sub:∀ a∈F',a∈F\/H a=none):Chg G H v F t' (upd H1 a o) F' :=
 ⟨(Kept.of e).trans (Kept.upd (.inl hm)),fun b o' hb h=>by rw [aI (fun z=>hb (by rw [z];exact ha))];exact e b o' h,
  fun b h z=>by
   by_cases q:b=a
   ·subst q;rw [aD] at z;cases z
   ·rw [aI q] at z;exact h (e.free z),r,nd,sub⟩
theorem RpL.off {H:Hp} {vs:List V} {ts:Ww} {Fs:Xq} {a:Addr} {o:HO} (r:RpL G H vs ts Fs) (hm:Mut (H a)) (h:a ∉ Fs.flatten):RpL G (upd H a o) vs ts Fs :=
 r.keep (Kept.upd (.inl hm)) fun b hb o' ho=>by rw [aI (fun z=>h (by rw [← z];exact hb))];exact ho
theorem iG {v:Val} {t:T} (h:fit v=some t):v=(.fr,t):=by
 obtain ⟨m,x⟩:=v
 unfold fit at h
 cases m <;> first | (cases h;rfl) | cases h
theorem lE:qd G qb aG:=by
 intro Φ η H H1 v t t' F l vs Fs x Q r nd A e k
 unfold aG at e
 split at e
 ·rename_i ts y
  obtain ⟨z,ez,e1⟩:=Zz.mp e
  have ey:=iG ez
  subst ey
  split at e1
  ·rename_i hl
   cases e1
   obtain ⟨a,us,Gs,rfl,rfl,ha,ra⟩:=r.lst_inv
   obtain ⟨w,Fw,rfl,rfl,rw'⟩:=(show RpL G H1 vs [z] Fs from A.rp).one
   have fw:Fp Φ η H .fr Fw:=A.fp.each 0 _ _ rfl rfl
   have ha1:H1 a=some (.lst us):=A.same a _ ha
   have m1:Mut (H1 a):=by rw [ha1];exact True.intro
   have na:a ∉ Gs.flatten:=(Ze.mp nd).1
   have nw:a ∉ Fw:=fun z=>by rw [fw.2 a z] at ha;cases ha
   refine ⟨a,us,w,rfl,rfl,ha1,by rw [ra.len.1];exact hl,k _ _ (a :: (Gs++[Fw]).flatten) ?_⟩
   have off:∀ b∈Gs.flatten,b ∉ Fw:=fun b hb hw=>Mut.ne_none (ra.dom b hb) (fw.2 b hw)
   refine Chg.upd A.same Zx m1 (.lst aD (((ra.same A.same).off m1 na).append (.cons (rw'.keep (Kept.upd (.inl m1)) fun b hb o ho=>by rw [aI (fun z=>nw (by rw [← z];exact hb))];exact ho) .nil))) ?_ ?_
   ·rw [Z8]
    refine Ze.mpr ⟨fun m=>?_,ZV.mpr ⟨(Ze.mp nd).2,by simpa using fw.1,fun b hb c hc z=>?_⟩⟩
    ·rcases Zg.mp m with m | m
     ·exact na m
     ·exact nw (by simpa using m)
    ·subst z;exact off b hb (by simpa using hc)
   ·intro b hb
    rcases Zi.mp hb with rfl | hb
    ·exact .inl Zx
    ·rw [Z8] at hb
     rcases Zg.mp hb with hb | hb
     ·exact .inl (Zv _ hb)
     ·exact .inr (fw.2 b (by simpa using hb))
  ·cases e1
 ·cases e
theorem nA {H:Hp} {v:V} {ts:Ww} {F:X4} (r:Rp G H v (.lst ts) F):tyV G.K "list" v H:=by
 obtain ⟨a,us,Gs,rfl,rfl,ha,ra⟩:=r.lst_inv
 exact .inl ⟨rfl,_,SqL.of ha⟩
theorem jz {H:Hp} {v:V} {t:T} {F:X4} {l:Wy} {z:T×Val} (r:Rp G H v t F) (h:aG t l=some z):tyV G.K "list" v H:=by
 unfold aG at h
 split at h
 ·exact nA r
 ·cases h
end
structure ItOk (G:Gx) (J:It) (l:Ww) (C:X4) (H:Hp):Prop where
 run:∀ H2,Kept H H2->(∀ a∈C,∀ o,H a=some o->H2 a=some o) →
  (∀ (i:Nat) (t:T),l[i]?=some t->J.go i H2/\∀ x H3,J.yld i H2 x H3->aP H2 H3/\∃ F,Rp G H3 x t F/\∀ a∈F,a∈C\/H2 a=none)/\∀ (i:Nat),l.length<=i->J.stop i H2
 dom:∀ a∈C,H a ≠ none
noncomputable def FpC (Φ:Fps) (η:VS.Env) (H:Hp) (m:Md) (C:X4):Prop:=∀ a∈C,H a=none\/dP Φ η a\/(m=.bo/\cG Φ η a)
theorem Fp.c {Φ:Fps} {η:VS.Env} {H:Hp} {F:X4}:∀ {m:Md},Fp Φ η H m F->FpC Φ η H m F
 | .fr,f=>fun a ha=>.inl (f.2 a ha)
 | .pu,f=>fun a ha=>(f a ha).imp id .inl
 | .bo,f=>fun a ha=>(f a ha).imp id fun z=>z.imp id fun z=>⟨rfl,z⟩
noncomputable def tI (G:Gx) (c:Its):TI:=fun σ H R=>∃ Φ η m l,SR G Φ η σ H/\c η=some (m,l)/\∀ J H' C,aP H H'->ItOk G J l C H'->FpC Φ η H m C->R J H'
noncomputable def PVI (G:Gx) (X:Cx) (tg iter:Expr) (c:Its):Prop:=PI X tg iter (tI G c)
theorem PI.weak {X:Cx} {tg e:Expr} {t t':TI} (h:PI X tg e t) (w:∀ σ H Q,t' σ H Q->t σ H Q):PI X tg e t':=fun pins s σ H Q I q=>h pins s σ H Q I (w σ H Q q)
section
variable {G:Gx} {X:Cx} {tg e a b:Expr} {es:List Expr} {ca cb:Ex} {cs:Exs} {pos p:Pos}
theorem sN (H:Hp) (lo:Int) (n:Nat):ItOk G (Itr lo n) (rng lo n) [] H:=by
 refine ⟨fun H2 _ _=>⟨fun i t h=>?_,fun i h=>(by simpa [rng] using h:n<=i)⟩,fun a h=>by simp at h⟩
 unfold rng at h
 rw [ZQ] at h
 obtain ⟨k,hk,e⟩:=Zw.mp h
 obtain ⟨hlt,e2⟩:=Zf.mp hk
 rw [Z0] at hlt
 have ek:i=k:=by simpa using e2
 subst ek
 refine ⟨hlt,fun x H3 ⟨e3,e4⟩=>?_⟩
 subst e3
 subst e4
 rw [← e]
 exact ⟨aP.refl _,[],.int _,fun a h=>by simp at h⟩
theorem oJ (ha:PV G X a ca) (hg:Gl X "range") (hm:X.mg "range" = none) (hs:starEach [a] X.env=(false,eval a X.env) :: starEach [] X.env:=by rfl) (hs':starEach [a] X.env=[(false,eval a X.env)]:=by rfl):PVI G X tg (.Call (.Name "range" p) [a] [] pos) (de ca) :=
 PI.weak (rK hg hm (gT ha ng hs) hs') fun σ H R hq=>by
  obtain ⟨Φ,η,m,l,s,e,k⟩:=hq
  unfold de at e
  obtain ⟨⟨mx,x⟩,ea,e1⟩:=Zz.mp e
  obtain ⟨j,ej,e2⟩:=Zz.mp e1
  split at e2
  ·rename_i hj
   cases e2
   refine ⟨Φ,η,mx,x,s,ea,fun v H' F e3 r3 f3=>?_⟩
   cases x with
   | int j' =>
    cases ej
    refine ⟨j,by rw [r3.int_inv],?_,?_,k _ H' [] e3 (sN H' 0 j.toNat) fun a h=>by simp at h⟩
    ·have:=hj.1;unfold B62 at this;lia
    ·have:=hj.2;unfold B62 at this;lia
   | _=>cases ej
  ·cases e2
theorem dk {Fs:Xq} {i:Nat} {F:X4} (h:Fs[i]?=some F) {a:Addr} (ha:a∈F):a∈Fs.flatten:=(dq h).subset ha
theorem xn {H:Hp} {a:Addr} {vs:List V} {ts:Ww} {Fs:Xq} (K:X0) (ha:H a=some (.lst vs)) (r:RpL G H vs ts Fs):ItOk G (Itl K a) ts (a :: Fs.flatten) H:=by
 refine ⟨fun H2 k c=>?_,fun b hb=>?_⟩
 ·have ha2:H2 a=some (.lst vs):=c a Zx _ ha
  have r2:RpL G H2 vs ts Fs:=r.keep k fun b hb o ho=>c b (Zv _ hb) o ho
  refine ⟨fun i t h=>?_,fun i h=>⟨vs,SqL.of ha2,by rw [r.len.1];exact h⟩⟩
  obtain ⟨v,F,h1,h2,h3⟩:=r2.get i h
  refine ⟨⟨vs,v,SqL.of ha2,h1⟩,fun x H3 ⟨e1,e2⟩=>?_⟩
  subst e1
  have ex:=e2 vs (SqL.of ha2)
  rw [h1] at ex
  cases ex
  exact ⟨aP.refl _,F,h3,fun b hb=>.inl (Zv _ (dk h2 hb))⟩
 ·rcases Zi.mp hb with rfl | hb
  ·rw [ha];exact fun z=>nomatch z
  ·exact Mut.ne_none (r.dom b hb)
theorem yU {H:Hp} {a:Addr} {vs:List V} {ts:Ww} {Fs:Xq} (K:X0) (ha:H a=some (.tup vs)) (r:RpL G H vs ts Fs):ItOk G (Itt K a) ts Fs.flatten H:=by
 refine ⟨fun H2 k c=>?_,fun b hb=>Mut.ne_none (r.dom b hb)⟩
 have ha2:H2 a=some (.tup vs):=k.tup a _ ha
 have r2:RpL G H2 vs ts Fs:=r.keep k fun b hb o ho=>c b hb o ho
 refine ⟨fun i t h=>?_,fun i h=>⟨vs,SqT.of ha2,by rw [r.len.1];exact h⟩⟩
 obtain ⟨v,F,h1,h2,h3⟩:=r2.get i h
 refine ⟨⟨vs,v,SqT.of ha2,h1⟩,fun x H3 ⟨e1,e2⟩=>?_⟩
 subst e1
 have ex:=e2 vs (SqT.of ha2)
 rw [h1] at ex
 cases ex
 exact ⟨aP.refl _,F,h3,fun b hb=>.inl (dk h2 hb)⟩
noncomputable def tG (G:Gx) (g:Tg):TG:=fun v σ H Q=>∃ Φ η t F η',SR G Φ η σ H/\Rp G H v t F/\(∀ a∈F,¬ cG Φ η a)/\g t η=some η' ∧
 ∀ Φ' σ',SR G Φ' η' σ' H->(∀ a,cG Φ' η' a->cG Φ η a)->(∀ a,dP Φ' η' a->dP Φ η a\/a∈F)->Q σ' H
noncomputable def PVG (G:Gx) (X:Cx) (e:Expr) (g:Tg):Prop:=PG X e (tG G g)
theorem PG.weak {X:Cx} {e:Expr} {t t':TG} (h:PG X e t) (w:∀ v σ H Q,t' v σ H Q->t v σ H Q):PG X e t':=fun pins s σ H v u Q I r q=>h pins s σ H v u Q I r (w v σ H Q q)
theorem tm (i:Nat) {x:Str} (hN:X.N.Nodup) (hi:X.N[i]?=some x:=by rfl) (hx:Loc X.env.scope x:=by first | exact Or.inl rfl | exact Or.inr rfl)
  (hf:X.fn x=true\/X.env.scope.names.lookup x=some .local:=by first | exact .inl rfl | exact .inr rfl):PVG G X (.Name x pos) (cS i):=PG.weak (wO hN hi hx hf) fun v σ H Q hq=>by
 obtain ⟨Φ,η,t,F,η',s,r,no,e,k⟩:=hq
 unfold cS at e
 split at e
 ·rename_i hl
  cases e
  refine k (jK Φ i F) (σ.set i (some v)) (s.put (c:=.pu t) hl r (fun j c' n hj w q=>q) (fun u hu=>nomatch hu) (fun u hu=>nomatch hu) fun j u n hj a ha ha'=>no a ha' ⟨j,u,hj,ha⟩) (fun a h=>?_) fun a h=>?_
  ·rcases kQ h with ⟨u,hu,_⟩ | z
   ·cases hu
   ·exact z
  ·rcases oX h with ⟨u,hu,ha⟩ | z
   ·exact .inr ha
   ·exact .inl z
 ·cases e
theorem lM {tgt:Tg} {body:Sx} {l:Ww} {η:VS.Env} {i:Nat} {t:T} (h:l[i]?=some t):l.drop i=t :: l.drop (i+1):=by
 obtain ⟨hi,e⟩:=Zf.mp h
 rw [← e]
 exact List.drop_eq_getElem_cons hi
theorem xg {iter:Expr} {body:List Stmt} {ci:Its} {g:Tg} {cb:Sx} (hp:PassesOwn (model X.prog X.w) X.A X.env X.xe) (hc:X.calm=true) (hi:PVI G X tg iter ci) (hg:PVG G X tg g) (hb:dh G X body cb)
  (hs:∀ x,foldedSetIterable iter X.env x=pure x:=by intro _;rfl):PSV G X (.For tg iter body [] pos) (hZ g ci cb):=PS.weak (zb hp hc hi hg hb hs) fun D σ H hq=>by
 obtain ⟨Φ,η,o,s,e,k⟩:=hq
 unfold hZ at e
 obtain ⟨⟨m,l⟩,el,e1⟩:=Zz.mp e
 dsimp only at e1
 split at e1
 ·rename_i hm
  have hm':m ≠ .bo:=fun z=>by rw [z] at hm;cases hm
  refine ⟨Φ,η,m,l,s,el,fun J H' C e2 ok fc=>?_⟩
  have cno:∀ a∈C,¬ cG Φ η a:=fun a ha z=>by
   rcases fc a ha with q | q | q
   ·exact Mut.ne_none (s.ow_dom z) q
   ·exact s.ow_pu z q
   ·exact hm' q.1
  refine ⟨fun i n σ2 H2=>n=l.length - i/\∃ Φ2 η2,SR G Φ2 η2 σ2 H2/\Frm Φ η H Φ2 η2 H2/\Kept H' H2/\(∀ a∈C,∀ o,H' a=some o->H2 a=some o/\¬ cG Φ2 η2 a)/\forL g cb (l.drop i) η2=some o,
   ⟨l.length - 0,rfl,Φ,η,s.same e2,Frm.same e2,Kept.refl _,fun a ha o' ho=>⟨ho,cno a ha⟩,by rw [List.drop_zero];exact e1⟩,?_⟩
  rintro i n σ2 H2 ⟨rfl,Φ2,η2,s2,f2,kp,con,e3⟩
  obtain ⟨go,stop⟩:=ok.run H2 kp fun a ha o' ho=>(con a ha o' ho).1
  cases hit:l[i]? with
  | none =>
   have hl:l.length<=i:=Yv.mp hit
   left
   rw [YR hl] at e3
   cases (show some (Out.nx η2)=some o from e3)
   exact ⟨stop i hl,k Φ2 σ2 H2 s2 f2⟩
  | some t =>
   have hl:i < l.length:=(Zf.mp hit).1
   right
   obtain ⟨g1,y1⟩:=go i t hit
   rw [lM (tgt:=g) (body:=cb) (η:=η2) hit] at e3
   obtain ⟨η3,e4,e5⟩:=Zz.mp (show (g t η2).bind (fun η1=>(cb η1).bind fun o=>match o with
    | .nx η2=>forL g cb (l.drop (i+1)) η2
    | .ct η2=>forL g cb (l.drop (i+1)) η2
    | .bk η2=>some (.nx η2)
    | .rt v η2=>some (.rt v η2))=some o from e3)
   obtain ⟨o',e6,e7⟩:=Zz.mp e5
   refine ⟨g1,fun σ4 H4=>∃ Φ4 η4,SR G Φ4 η4 σ4 H4/\Frm Φ η H Φ4 η4 H4/\Kept H' H4/\(∀ a∈C,∀ o,H' a=some o->H4 a=some o/\¬ cG Φ4 η4 a)/\forL g cb (l.drop (i+1)) η4=some o,fun σ4 H4 ⟨Φ4,η4,q⟩=>⟨l.length - (i+1),by omega,rfl,Φ4,η4,q⟩,fun x H3 yl=>?_⟩
   obtain ⟨e8,F,rF,hF⟩:=y1 x H3 yl
   have s3:=s2.same e8
   have noF:∀ a∈F,¬ cG Φ2 η2 a:=fun a ha z=>by
    rcases hF a ha with q | q
    ·have hne:=ok.dom a q
     cases ho:H' a with
     | none=>exact hne ho
     | some o''=>exact (con a q o'' ho).2 z
    ·exact Mut.ne_none (s2.ow_dom z) q
   refine ⟨Φ2,η2,t,F,η3,s3,rF,noF,e4,fun Φ3 σ3 s4 o3 p3=>?_⟩
   have f3:Frm Φ η H Φ3 η3 H3:=⟨fun a o' h n=>let ⟨h1,n1⟩:=f2.keep a o' h n;⟨e8 a o' h1,fun z=>n1 (o3 a z)⟩,fun a h z=>f2.dom a h (e8.free z),fun a h=>f2.ow a (o3 a h),fun a h=>by
    rcases p3 a h with h | h
    ·exact f2.pu a h
    ·rcases hF a h with q | q
     ·rcases fc a q with q | q | q
      ·exact .inr (.inr q)
      ·exact .inl q
      ·exact .inr (.inl q.2)
     ·exact .inr (.inr (f2.none q)),f2.kept.trans (Kept.of e8)⟩
   have next:∀ {Φ4 η4 H4},Frm Φ3 η3 H3 Φ4 η4 H4->Kept H' H4/\∀ a∈C,∀ o,H' a=some o->H4 a=some o/\¬ cG Φ4 η4 a:=fun fb =>
    ⟨(kp.trans (Kept.of e8)).trans fb.kept,fun a ha o' ho=>by
     obtain ⟨h1,n1⟩:=con a ha o' ho
     exact fb.keep a o' (e8 a o' h1) fun z=>n1 (o3 a z)⟩
   refine ⟨Φ3,η3,o',s4,e6,?_⟩
   cases o' with
   | nx η4=>exact fun Φ4 σ4 H4 s5 fb=>⟨Φ4,η4,s5,f3.trans fb,(next fb).1,(next fb).2,e7⟩
   | ct η4=>exact fun Φ4 σ4 H4 s5 fb=>⟨Φ4,η4,s5,f3.trans fb,(next fb).1,(next fb).2,e7⟩
   | bk η4 =>
    cases (show some (Out.nx η4)=some o from e7)
    exact fun Φ4 σ4 H4 s5 fb=>k Φ4 σ4 H4 s5 (f3.trans fb)
   | rt v η4 =>
    cases (show some (Out.rt v η4)=some o from e7)
    exact fun u H4 F4 Φ4 σ4 s5 fb r5 q5=>k u H4 F4 Φ4 σ4 s5 (f3.trans fb) r5 (q5.back f3)
 ·cases e1
end
noncomputable def Cz (H:Hp) (Fs:Xq):Md->X4->Prop
 | .fr,F=>F.Nodup/\∀ a∈F,H a=none
 | _,F=>∀ a∈F,H a=none\/a∈Fs.flatten
noncomputable def spF (G:Gx) (g:Fn):Sp:=fun vs H Q _=>∃ ts Fs m r,RpL G H vs ts Fs/\g ts=some (m,r)/\∀ v H' F,aP H H'->Rp G H' v r F->Cz H Fs m F->Q v H'
section
variable {G:Gx} {X:Cx} {k:Nat} {f:Addr} {fd:FuncData} {ps:List Str} {x:Str} {p pos:Pos} {e:Expr} {es:List Expr} {cs:Exs} {g:Fn}
theorem call_of {σ:L2.St} {H:Hp} {Q:VK} {E:XK} (h:tE G (bD g cs) σ H Q):yd (spF G g) [] E (tEs G cs) σ H Q:=by
 obtain ⟨Φ,η,m,t,s,e,kk⟩:=h
 unfold bD at e
 obtain ⟨l,el,e1⟩:=Zz.mp e
 obtain ⟨⟨n,r⟩,er,e2⟩:=Zz.mp e1
 refine ⟨Φ,η,l,s,el,fun vs H1 Fs q1 q2 q3=>?_⟩
 have A:Args G Φ η H H1 l vs Fs:=⟨q1,q2,q3⟩
 have jn:=q3.join A.len
 show spF G g (vs++[]) H1 Q E
 rw [ZK]
 refine ⟨trees l,Fs,n,r,q2,er,fun v H' F q4 q5 q6=>?_⟩
 have wide:(∀ a∈F,H1 a=none\/a∈Fs.flatten)->Fp Φ η H ((Md.pu).join (cA l)) F:=fun h=>by
  cases ej:cA l with
  | fr =>
   rw [ej] at jn
   exact fun a ha=>.inl ((h a ha).elim q1.free (jn.2 a))
  | pu =>
   rw [ej] at jn
   exact fun a ha=>(h a ha).elim (fun z=>.inl (q1.free z)) (jn a)
  | bo =>
   rw [ej] at jn
   exact fun a ha=>(h a ha).elim (fun z=>.inl (q1.free z)) (jn a)
 cases n with
 | fr =>
  cases e2
  exact kk v H' F (q1.trans q4) q5 ⟨q6.1,fun a ha=>q1.free (q6.2 a ha)⟩
 | pu =>
  cases e2
  exact kk v H' F (q1.trans q4) q5 (wide q6)
 | bo =>
  cases e2
  exact kk v H' F (q1.trans q4) q5 (wide q6)
theorem xt (F:FnOk X.prog X.w X.K X.mg X.base CX0 k f fd ps (spF G g)) (hr:Room k X.A) (hg:Gl X x) (hm:X.mg x=some (.ref f)) (hk:PySem.W.keepIn X.K (.ref f)=true) (hb:Binds X.K fd ps [])
  (ha:PVs G X (e :: es) cs) (hdb:(x == ("__debug__" : Str))=false:=by decide) (he:starEach (e :: es) X.env=(false,eval e X.env) :: starEach es X.env:=by rfl) (hpl:(backTo pos (starEach es X.env)).any (·.1)=false:=by rfl) :
  PV G X (.Call (.Name x p) (e :: es) [] pos) (bD g cs) :=
 PE.weak (xq F hr hg hm hk hb .nil jy ha hdb he hpl) fun σ H Q h=>call_of h
theorem sH {H:Hp} {vs:List V} {ts:Ww} {Fs:Xq} (r:RpL G H vs ts Fs) (n nv:Nat) (hv:nv=vs.length):SR G (fun i=>Fs.getD i []) (ts.map (fun t=>some (.pu t))++List.replicate (n - ts.length) none) (vs.map some++List.replicate (n - nv) none) H:=by
 subst hv
 have hl:=r.len
 have back:∀ {i:Nat} {c:Cell},(ts.map (fun t=>some (Cell.pu t))++List.replicate (n - ts.length) none)[i]?=some (some c)->∃ t,ts[i]?=some t/\c=.pu t:=fun {i c} h=>by
  by_cases hi:i < ts.length
  ·rw [ZJ (by rw [Zy];exact hi),ZQ] at h
   obtain ⟨t,h1,h2⟩:=Zw.mp h
   exact ⟨t,h1,(Zo h2).symm⟩
  ·rw [ZA (by rw [Zy];exact ZP hi),Yl] at h
   split at h <;> cases h
 refine ⟨by simp;lia,fun i c h=>?_,fun i t h=>?_,fun i j t c h=>?_⟩
 ·obtain ⟨t,h1,rfl⟩:=back h
  obtain ⟨v,F,g1,g2,g3⟩:=r.get i h1
  refine ⟨v,?_,?_⟩
  ·have:i < vs.length:=(Zf.mp g1).1
   rw [ZJ (by rw [Zy];exact this),ZQ,g1]
   rfl
  ·show Rp G H v t (Fs.getD i [])
   rw [Zs,g2]
   exact g3
 ·obtain ⟨t',_,h2⟩:=back h
  cases h2
 ·obtain ⟨t',_,h2⟩:=back h
  cases h2
theorem gS {ts:Ww} {n:Nat} {Φ:Fps} {a:Addr}:¬ cG Φ (ts.map (fun t=>some (Cell.pu t))++List.replicate n none) a:=by
 rintro ⟨i,t,h,_⟩
 by_cases hi:i < ts.length
 ·rw [ZJ (by rw [Zy];exact hi),ZQ] at h
  obtain ⟨t',_,h2⟩:=Zw.mp h
  cases h2
 ·rw [ZA (by rw [Zy];exact ZP hi),Yl] at h
  split at h <;> cases h
theorem oo {H:Hp} {vs:List V} {ts:Ww} {Fs:Xq} {n:Nat} {a:Addr} (h:dP (fun i=>Fs.getD i []) (ts.map (fun t=>some (Cell.pu t))++List.replicate n none) a):a∈Fs.flatten:=by
 obtain ⟨i,t,_,h2⟩:=h
 simp only [Zs] at h2
 cases e:Fs[i]? with
 | none=>rw [e] at h2;simp at h2
 | some F=>rw [e] at h2;exact dk e h2
end
section
variable {G:Gx} {P:Program} {w:World} {K:X0} {mg:X3} {base:Heap}
theorem fnV {x qual:Str} {st:Stmt} {f:Addr} {fd:FuncData} {N ps:List Str} {k np nn:Nat} {c:Sx} (F:Fun K x qual st f fd) (S:FnScope N ps (af st)) (hp:ps.length=np) (hn:N.length=nn)
  (hb:∀ (cdv:Value) (A:Around) (outer:List PySem.Env) (s:Shared) (H:Hp) (E:XK),Room k (A.deeper (envOfC qual (af st) s.heap.objs.size f cdv))->dh G (fC CX0 P w K mg base N qual (af st) f cdv A outer s H E).nox (au st) c) :
  FnOk P w K mg base CX0 (k+1) f fd ps (spF G (fn np nn c)):=by
 refine F.ok S (fun vs H Q E h=>?_) fun cdv A outer s H vs Q E hr h=>⟨_,hb cdv A outer s H E hr,?_⟩
 ·obtain ⟨ts,Fs,m,r,h1,h2,_⟩:=h
  unfold fn at h2
  split at h2
  ·rename_i hl
   rw [h1.len.1,hl,hp]
  ·cases h2
 ·obtain ⟨ts,Fs,m,r,h1,h2,q⟩:=h
  unfold fn at h2
  split at h2
  ·rename_i hl
   obtain ⟨o,e1,e2⟩:=Zz.mp h2
   have s0:=sH h1 nn vs.length rfl
   rw [hl] at s0
   have e3:L2.start N vs=vs.map some++List.replicate (nn - vs.length) none:=by
    unfold L2.start
    rw [hn]
   rw [e3]
   refine ⟨_,_,o,s0,e1,?_⟩
   cases o with
   | nx η' =>
    cases e2
    intro Φ' σ' H' s' fr
    exact q .non H' [] (fun a o h=>(fr.keep a o h gS).1) .non ⟨Yh,fun a h=>by simp at h⟩
   | rt v η' =>
    cases e2
    intro u H' F' Φ' σ' s' fr r' rf
    refine q u H' F' (fun a o h=>(fr.keep a o h gS).1) r' ?_
    cases m with
    | fr=>exact ⟨rf.1,fun a ha=>(rf.2 a ha).elim id fun z=>absurd z gS⟩
    | pu=>exact fun a ha=>(rf a ha).elim .inl fun z=>z.elim (fun z=>.inr (oo (H:=H) (vs:=vs) z)) fun z=>absurd z gS
    | bo=>exact fun a ha=>(rf a ha).elim .inl fun z=>z.elim (fun z=>.inr (oo (H:=H) (vs:=vs) z)) fun z=>absurd z gS
   | bk η'=>cases e2
   | ct η'=>cases e2
  ·cases h2
end
end VS
end
section
namespace L2
open PySem PySem.Spec PyProof.Rows
theorem jt (env:Env):∀ (l:List (Str×NameKind)) (acc:List (Str×Addr)),(∀ y∈l,y.2=.free->∃ c,env.cells.lookup y.1=some c)->(∀ x c,acc.lookup x=some c->env.cells.lookup x=some c) →
  ∃ cl,(forIn l acc (fun x r=>if (x.snd == NameKind.free)=true then (do let a ← cellOf env x.fst;pure (ForInStep.yield ((x.fst,a) :: r))) else pure (ForInStep.yield r)):Sem (List (Str×Addr)))=pure cl ∧
   (∀ x c,cl.lookup x=some c->env.cells.lookup x=some c)/\(∀ x c,acc.lookup x=some c->∃ c',cl.lookup x=some c')/\∀ y∈l,y.2=.free->∃ c,cl.lookup y.1=some c
 | [],acc,_,ha=>⟨acc,rfl,ha,fun x c h=>⟨c,h⟩,fun y hy=>nomatch hy⟩
 | (n,k) :: l,acc,hf,ha=>by
  by_cases hk:k=.free
  ·subst hk
   obtain ⟨c,hc⟩:=hf (n,.free) Zx rfl
   have ec:cellOf env n=pure c:=by unfold cellOf;dsimp only at hc;rw [hc]
   have ha':∀ x c',((n,c) :: acc).lookup x=some c'->env.cells.lookup x=some c':=fun x c' h=>by
    rw [Z6] at h
    split at h
    ·rename_i hx
     have:x=n:=by simpa using hx
     rw [this,← h];exact hc
    ·exact ha x c' h
   obtain ⟨cl,h1,h2,h3,h4⟩:=jt env l ((n,c) :: acc) (fun y hy=>hf y (Zv _ hy)) ha'
   refine ⟨cl,?_,h2,fun x c' h=>?_,fun y hy hyf=>?_⟩
   ·rw [List.forIn_cons]
    dsimp only
    rw [Zq (show (NameKind.free == NameKind.free)=true from rfl),ec,pure_bind,pure_bind]
    exact h1
   ·by_cases hx:x=n
    ·exact h3 x c (by rw [Z6,hx];simp)
    ·refine h3 x c' ?_
     rw [Z6]
     have:(x == n)=false:=by simpa using hx
     rw [this];exact h
   ·rcases Zi.mp hy with rfl | hy
    ·exact h3 n c (by rw [Z6];simp)
    ·exact h4 y hy hyf
  ·obtain ⟨cl,h1,h2,h3,h4⟩:=jt env l acc (fun y hy=>hf y (Zv _ hy)) ha
   refine ⟨cl,?_,h2,h3,fun y hy hyf=>?_⟩
   ·rw [List.forIn_cons]
    dsimp only
    rw [Zn (by simpa using hk),pure_bind]
    exact h1
   ·rcases Zi.mp hy with rfl | hy
    ·exact absurd hyf hk
    ·exact h4 y hy hyf
theorem xU {sc:Scope} {env:Env} (hf:∀ y∈sc.names,y.2=.free->∃ c,env.cells.lookup y.1=some c) :
  ∃ cl,closureFor sc env=pure cl/\(∀ x c,cl.lookup x=some c->env.cells.lookup x=some c)/\∀ y∈sc.names,y.2=.free->∃ c,cl.lookup y.1=some c:=by
 obtain ⟨cl,h1,h2,_,h4⟩:=jt env sc.names [] hf (fun x c h=>nomatch h)
 refine ⟨cl,?_,h2,h4⟩
 simp only [closureFor]
 rw [h1]
 rfl
theorem fG {l:List (Str×NameKind)} {x:Str} {k:NameKind} (h:l.lookup x=some k):(x,k)∈l:=by
 induction l with
 | nil=>cases h
 | cons p l ih =>
  rw [Z6] at h
  split at h
  ·rename_i hx
   have e:x=p.1:=by simpa using hx
   cases h
   rw [e];exact Zx
  ·exact Zv _ (ih h)
theorem dg {env:Env} {x:Str} {k:NameKind}:∀ {l:List (Str×NameKind)},(l.map fun (n,k)=>if (k == NameKind.free && env.scope.kind == .function && env.kindOf n == some .cell) then (n,NameKind.cell) else (n,k)).lookup x=some k →
  ∃ k0,l.lookup x=some k0/\(k=k0\/(k0=.free/\k=.cell))
 | [],h=>nomatch h
 | (n,k1) :: l,h=>by
  rw [Zp,Z6] at h
  by_cases hc:(k1 == NameKind.free && env.scope.kind == .function && env.kindOf n == some .cell)=true
  ·simp only [hc,if_true] at h
   rw [Z6]
   cases hx:x == n with
   | true =>
    rw [hx] at h
    have:k1=.free:=by
     have:=(YJ.mp (YJ.mp hc).1).1
     simpa using this
    exact ⟨k1,rfl,.inr ⟨this,(Zo h).symm⟩⟩
   | false=>rw [hx] at h;exact dg h
  ·simp only [hc,if_false,YE] at h
   rw [Z6]
   cases hx:x == n with
   | true=>rw [hx] at h;exact ⟨k1,rfl,.inl (Zo h).symm⟩
   | false=>rw [hx] at h;exact dg h
noncomputable def di (X:Cx) (N:List Str) (sc:Scope) (cl:List (Str×Addr)) (C:Addr) (s:Shared) (H:Hp) (fp:X4):Cx :=
 { X with N:=N,s₀:=s,H₀:=H,env:=compEnvC sc cl C X.env,outer:=X.stack,ex:=fp,fn:=fun _=>false,pn:=[],xe:=fun _ _=>False }
noncomputable def my (env:Env) (sc:Scope):Bool:=sc.kind == .function && sc.names.all fun y=>match y.2 with
 | .cell=>false
 | .local=>sc.names.lookup y.1 == some .local
 | .free=>env.kindOf y.1 == some .cell || env.kindOf y.1 == some .free
 | _=>true
noncomputable def jJ (sc:Scope):List Str->List Str->Bool
 | [],[]=>true
 | a :: as,b :: bs=>((a == b && sc.names.lookup a == some .free) || sc.names.lookup a == none || sc.names.lookup a == some .globalImplicit) && jJ sc as bs
 | _,_=>false
theorem qf {sc:Scope}:∀ {as bs:List Str},jJ sc as bs=true->as.length=bs.length/\∀ (i:Nat) (x:Str),as[i]?=some x->(bs[i]?=some x/\sc.names.lookup x=some .free)\/sc.names.lookup x=none\/sc.names.lookup x=some .globalImplicit
 | [],[],_=>⟨rfl,fun i x h=>by simp at h⟩
 | a :: as,b :: bs,h=>by
  simp only [jJ,Zc] at h
  obtain ⟨h1,h2⟩:=h
  obtain ⟨l,r⟩:=qf h2
  refine ⟨by simp [l],fun i x e=>?_⟩
  cases i with
  | zero =>
   have:a=x:=by simpa using e
   subst this
   simp only [Bool.or_eq_true,Zc] at h1
   rcases h1 with (⟨z1,z2⟩ | z) | z
   ·exact .inl ⟨by simpa using (by simpa using z1:a=b).symm,by simpa using z2⟩
   ·exact .inr (.inl (by simpa using z))
   ·exact .inr (.inr (by simpa using z))
  | succ i=>simpa using r i x (by simpa using e)
 | [],_ :: _,h=>by simp [jJ] at h
 | _ :: _,[],h=>by simp [jJ] at h
section
variable {X:Cx} {pins:Xw} {σ:St} {H:Hp} {s:Shared}
theorem Inv.block {N:List Str} {sc:Scope} {cl:List (Str×Addr)} {C D:Addr} {fp:X4} {k:Nat} {h1:Heap} {t:Nat} {m:X3} (I:Inv X pins σ H s) (hsc:my X.env sc=true) (hnm:jJ sc (N.drop k) X.N=true) (hNl:k<=N.length)
  (hc1:∀ x c,cl.lookup x=some c->X.env.cells.lookup x=some c) (hc2:∀ y∈sc.names,y.2=.free->∃ c,cl.lookup y.1=some c) (hfp:∀ b∈fp,lB X pins H b) (hD:s.heap.objs.size<=D) (hC:s.heap.objs.size<=C) (hDC:D ≠ C) (hfC:C ∉ fp)
  (keep:∀ b u,s.heap.get? b=some u->h1.get? b=some u) (hns:h1.Ns C m) (hDo:h1.get? D=some { cls:=.type "list",data:=.seq ([]:X5).toArray 0 }) :
  Inv (di X N sc cl C s H fp) [] (List.replicate k none++σ) (upd H D (.lst [])) { s with heap:=h1,toks:=t }:=by
 unfold my at hsc
 rw [Zc,Yw] at hsc
 obtain ⟨hk,hall⟩:=hsc
 have hkind:sc.kind=.function:=by simpa using hk
 obtain ⟨hlen,hat⟩:=qf hnm
 have hcell:∀ y∈sc.names,y.2 ≠ .cell:=fun y hy e=>by have:=hall y hy;rw [e] at this;cases this
 have frees:∀ x k',(relabel sc X.env).names.lookup x=some k'->k'=.cell\/k'=.free->sc.names.lookup x=some .free:=fun x k' h hk'=>by
  obtain ⟨k0,h0,hk0⟩:=dg h
  rcases hk0 with e | ⟨e,_⟩
  ·subst e
   rcases hk' with e | e
   ·subst e;exact absurd rfl (hcell _ (fG h0))
   ·subst e;exact h0
  ·subst e;exact h0
 have hHD:H D=none:=I.hok.fresh hD
 have hHC:H C=none:=I.hok.fresh hC
 refine ⟨⟨I.mod,hkind,I.ok.glob,I.ok.blt,hC,fun x y c e1 e2=>I.ok.inj x y c (hc1 x c e1) (hc1 y c e2),fun x hx=>?_,fun x c e=>(nomatch e),I.ok.hd,I.ok.frames,.inl rfl,fun b hb=>⟨fun (e:b=C)=>hfC (e ▸ hb),fun x c e=>(hfp b hb).2.2.2.2.1 x c (hc1 x c e)⟩,
  I.bs,ZI I.ok.bsz I.sz,fun b o e hb=>?_,fun b hb hb'=>?_,I.stack,I.stkFree⟩,rfl,I.bare,Un.laid keep hD hHD,⟨m,hns,fun i x v e1 e2 e3=>?_⟩,fun x c e=>?_,?_,fun x c e=>?_,fun p hp=>(nomatch hp),I.hok.laid keep hD ?_,?_⟩
 ·have h:∃ k',(relabel sc X.env).names.lookup x=some k'/\(k'=.cell\/k'=.free):=by
   rcases hx with e | e
   ·exact ⟨_,e,.inl rfl⟩
   ·exact ⟨_,e,.inr rfl⟩
  obtain ⟨k',h1',h2'⟩:=h
  exact hc2 _ (fG (frees x k' h1' h2')) rfl
 ·have hb':b∈fp:=hb
  rcases (hfp b hb').2.2.2.1 with z | z
  ·exact I.ok.noex b o e z
  ·exact absurd (ZY (ZX e) (ZI I.ok.bsz z)) (Yn _)
 ·have hb0:b∈frs X.stack:=hb'
  rcases Zi.mp (I.stkSub b hb0) with z | z
  ·exact (hfp b hb).2.1 z
  ·exact (hfp b hb).2.2.1 z
 ·
  have hik:k<=i:=by
   rcases Nat.lt_or_ge i k with z | z
   ·rw [ZJ (by simpa using z),Yl] at e2
    split at e2 <;> cases e2
   ·exact z
  rw [ZA (by simpa using hik),YO] at e2
  have e1':(N.drop k)[i - k]?=some x:=by
   rw [List.getElem?_drop,show k+(i - k)=i by exact Nat.add_sub_of_le hik];exact e1
  have vis:sc.names.lookup x=some .free->∃ k',(relabel sc X.env).names.lookup x=some k'/\(k'=.cell\/k'=.free):=fun h0=>by
   have e3':Vis (relabel sc X.env) x:=e3
   rcases e3' with z | z | z
   ·obtain ⟨k0,h1',h2'⟩:=dg z
    rw [h0] at h1';cases h1'
    rcases h2' with q | ⟨_,q⟩ <;> cases q
   ·exact ⟨_,z,.inl rfl⟩
   ·exact ⟨_,z,.inr rfl⟩
  have no:∀ k0,sc.names.lookup x=some k0->∃ k',(relabel sc X.env).names.lookup x=some k'->True:=fun _ _=>⟨.local,fun _=>trivial⟩
  rcases hat _ x e1' with ⟨hX,h0⟩ | h0 | h0
  ·obtain ⟨k',hk1,hk2⟩:=vis h0
   have hf:=hall _ (fG h0)
   have hf':X.env.kindOf x=some .cell\/X.env.kindOf x=some .free:=by
    simpa using hf
   obtain ⟨mX,hnX,hlX⟩:=I.loc
   have visX:Vis X.env.scope x:=hf'.elim (fun z=>.inr (.inl z)) fun z=>.inr (.inr z)
   obtain ⟨u,r,l⟩:=hlX _ x v hX e2 visX
   refine ⟨u,r,.inr ⟨?_,?_⟩⟩
   ·rcases hk2 with z | z
    ·subst z;exact .inl hk1
    ·subst z;exact .inr hk1
   ·obtain ⟨c,hc⟩:=hc2 _ (fG h0) rfl
    refine ⟨c,hc,?_⟩
    rcases l with ⟨z,_⟩ | ⟨_,c',hc',hcell'⟩
    ·rcases hf' with q | q <;> (rw [z] at q;cases q)
    ·have:=hc1 x c hc
     rw [hc'] at this;cases this
     exact hcell'.keeps keep
  ·have e3':Vis (relabel sc X.env) x:=e3
   rcases e3' with z | z | z <;> (obtain ⟨k0,z1,_⟩:=dg z;rw [h0] at z1;cases z1)
  ·have e3':Vis (relabel sc X.env) x:=e3
   rcases e3' with z | z | z <;> (obtain ⟨k0,z1,z2⟩:=dg z;rw [h0] at z1;cases z1;rcases z2 with q | ⟨q,_⟩ <;> cases q)
 ·obtain ⟨v,z⟩:=I.cell x c (hc1 x c e)
  exact ⟨v,z.keeps keep⟩
 ·show upd H D (.lst []) C=none
  rw [aI (Ya hDC)];exact hHC
 ·obtain ⟨v,z⟩:=I.cell x c (hc1 x c e)
  rw [aI (ZW (ZY z.lt hD))]
  exact I.freeC x c (hc1 x c e)
 ·exact ⟨Ye _,[],0,.nil,hDo⟩
 ·show (List.replicate k none++σ).length=N.length
  rw [Zt,YO,I.len,← hlen,Yi]
  exact Nat.add_sub_of_le hNl
noncomputable def yK (X:Cx) (ifs:List Expr) (t:TT):Prop :=
 ∀ (pins:Xw) (s:Shared) (σ:St) (H:Hp) (Q:Bool->Hp->Prop),Inv X pins σ H s->t σ H Q →
  wpAny (model X.prog X.w) X.A (forIn ifs true fun c r=>if r=true then (do let ok ← isTrue c X.env (eval c X.env);pure (ForInStep.yield ok)) else pure (ForInStep.yield r)) (TP X pins σ Q) X.xe s
theorem n4:yK X [] (fun σ H Q=>Q true H):=fun pins s σ H Q I q=>Zb ⟨H,I,q⟩
section
variable {prog:Program} {w:World} {A:Around} {R:Result->Shared->Prop}
theorem nL {elt target iter:Expr} {ifs:List Expr} {scope:Scope} {pos:Pos} {it acc:Value} {env:Env} {s:Shared} (I:Nat->Shared->Prop)
  (turn:∀ n s,I n s->wpAny (model prog w) A (pyNext it) (fun r s₁=>match r with
   | none=>R (.ok .next) s₁
   | some v=>wpAny (model prog w) A (letOwnedTupleGo target it v) (fun _ s₀=>wpAny (model prog w) A (assign target env v) (fun _ s₂ =>
     wpAny (model prog w) A (forIn ifs true fun c r=>if r=true then (do let ok ← isTrue c env (eval c env);pure (ForInStep.yield ok)) else pure (ForInStep.yield r)) (fun ok s₃ =>
      if ok=true then wpAny (model prog w) A (eval elt env) (fun x s₄ =>
       wpAny (model prog w) A (call (.builtin "list.append") [acc,x]) (fun _ s₅=>∃ m,m < n/\I m s₅) (fun _ _=>False) s₄) (fun _ _=>False) s₃
      else ∃ m,m < n/\I m s₃) (fun _ _=>False) s₂) (fun _ _=>False) s₀) (fun _ _=>False) s₁) (fun _ _=>False) s)
  (n:Nat) (h:I n s) :
  codeAny (model prog w) A (.compLoop (.ListComp elt [⟨target,iter,ifs,0⟩] scope pos) 0 it acc env) R s:=by
 refine codeAny_loop rfl I (fun n s hI=>?_) n h
 show wpAny _ A ((compTurn (.ListComp elt [⟨target,iter,ifs,0⟩] scope pos) 0 it acc env).onRaise (fun x=>do noteFrame x env;theTreesLotGoes x)) _ _ s
 refine wpAny_noted ?_
 rw [compTurn_list]
 refine Zr (wpAny_standAt (Zr (YN (turn n s hI) (fun r s₁ h₁=>?_) fun _ _ h'=>h'.elim)))
 cases r with
 | none=>exact Zb h₁
 | some v =>
  refine Zr (YN h₁ (fun _ s₀ h₀=>?_) fun _ _ h'=>h'.elim)
  refine Zr (YN h₀ (fun _ s₂ h₂=>Zr (YN h₂ (fun ok s₃ h₃=>?_) fun _ _ h'=>h'.elim)) fun _ _ h'=>h'.elim)
  cases ok with
  | false=>exact Zb ⟨rfl,h₃⟩
  | true =>
   rw [Zq rfl] at h₃
   exact Zr (Zr (YN h₃ (fun x s₄ h₄=>Zr (YN h₄ (fun _ s₅ h₅=>Zb (Zb ⟨rfl,h₅⟩)) fun _ _ h'=>h'.elim)) fun _ _ h'=>h'.elim))
end
noncomputable def sR (k:Nat) (wi:TI) (g:TG) (tc:TT) (te:TE) (σ:St) (H:Hp) (Q:VK):Prop:=wi σ H fun J H1=>∀ D,H1 D=none->∃ W:Nat->Nat->St->Hp->Prop,
 (∃ m,W 0 m (List.replicate k none++σ) (upd H1 D (.lst [])))/\∀ i m σ' H',W i m σ' H'->(J.stop i H'/\Q (.ref D) H')\/(J.go i H'/\∀ x H2,J.yld i H' x H2->g x σ' H2 fun σ3 H3=>tc σ3 H3 fun b H4 =>
  if b=true then te σ3 H4 fun y H5=>∃ ys,H5 D=some (.lst ys)/\ys.length < sizeLine/\∃ m',m' < m/\W (i+1) m' σ3 (upd H5 D (.lst (ys++[y]))) else ∃ m',m' < m/\W (i+1) m' σ3 H4)
theorem qO {elt tg iter:Expr} {ifs:List Expr} {sc:Scope} {pos pos':Pos} {N:List Str} {k:Nat} {wi:TI} {g:TG} {tc:TT} {te:TE} {use:Option (Value->Sem Unit)} {QQ:Yt} {Q:VK} (hcalm:X.calm=true) (hi:PI X tg iter wi) (hsc:my X.env sc=true)
  (hnm:jJ sc (N.drop k) X.N=true) (hNl:k<=N.length) (hin:∀ cl C s H fp,PG (di X N sc cl C s H fp) tg g/\yK (di X N sc cl C s H fp) ifs tc/\PE (di X N sc cl C s H fp) elt te)
  (hs:∀ x,foldedSetIterable iter X.env x=pure x) (I:Inv X pins σ H s) (h:sR k wi g tc te σ H Q)
  (hq:∀ s' H' D C m,Inv X pins σ H' s'->Q (.ref D) H'->s'.heap.Ns C m->lB X pins H' C->compPost (model X.prog X.w) X.A X.xe use QQ (.ref D) C (.ok .next) s') :
  wpAny (model X.prog X.w) X.A (comprehension (.ListComp elt [⟨tg,iter,ifs,0⟩] sc pos) sc X.env pos' (newList []) false (eval iter X.env) use) QQ X.xe s:=by
 have hsc':=hsc
 unfold my at hsc'
 rw [Zc,Yw] at hsc'
 obtain ⟨hk,hall⟩:=hsc'
 have hkind:sc.kind=.function:=by simpa using hk
 have hcell:∀ y∈sc.names,y.2 ≠ .cell:=fun y hy e=>by have:=hall y hy;rw [e] at this;cases this
 have hnames:∀ y∈sc.names,y.2=.local->sc.names.lookup y.1=some .local:=fun y hy e=>by
  have:=hall y hy
  rw [e] at this
  simpa using this
 obtain ⟨cl,hcl,hc1,hc2⟩:=xU (sc:=sc) (env:=X.env) fun y hy e=>I.ok.has y.1 (by
  have:=hall y hy
  rw [e] at this
  simpa using this)
 refine wpAny_comprehension_free (use:=use) rfl hs hcl hkind hnames (thn (hi pins s σ H _ I h) fun v s1 h1=>thn h1 fun itv s2 h2=>?_)
 obtain ⟨it,fp,tn,J,H2,e,I2,T,st2,f2,hW⟩:=h2
 subst e
 refine Xl (wpAny_newFunctionEnv hcell (by intro y hy;simp at hy) (fun h₁ hns₁ hsb₁=>?_) hkind)
 dsimp only at hns₁ hsb₁ ⊢
 generalize hP:s2.heap.push { cls:=.type "list",dict:=none,data:=.seq ([]:X5).toArray }=P at hns₁ hsb₁ ⊢
 have hCs:P.objs.size=s2.heap.objs.size+1:=by rw [← hP,XJ]
 have old:∀ b o,s2.heap.get? b=some o->h₁.get? b=some o:=fun b o e =>
  hsb₁.extBut b o (by rw [hCs];exact ZW (XT (ZX e))) (Zl _ (hP ▸ Zl _ e))
 have hDC:s2.heap.objs.size ≠ P.objs.size:=by rw [hCs];exact ZW (Yp _)
 have hDo:h₁.get? s2.heap.objs.size=some { cls:=.type "list",data:=.seq ([]:X5).toArray 0 }:=hsb₁.extBut _ _ hDC (Zl _ (hP ▸ ZS _ rfl))
 have hCle:s2.heap.objs.size<=P.objs.size:=by rw [hCs];exact Nat.le_succ _
 have lt_fp:∀ b∈fp,b < s2.heap.objs.size:=fun b hb=>let ⟨o,ho,_⟩:=T.obj 0 _ st2 b hb;ZX ho
 have hfC:P.objs.size ∉ fp:=fun hb=>absurd (ZY (lt_fp _ hb) hCle) (Yn _)
 have IY:=I2.block (N:=N) (sc:=sc) (cl:=cl) (C:=P.objs.size) (D:=s2.heap.objs.size) (fp:=fp) (k:=k) (t:=s2.toks+([]:List (Str×Value)).length) hsc hnm hNl hc1 hc2 f2 (Zk _) hCle hDC hfC old hns₁ hDo
 obtain ⟨hG,hT,hE⟩:=hin cl P.objs.size s2 H2 fp
 generalize hY:di X N sc cl P.objs.size s2 H2 fp=Y at IY hG hT hE
 have hYm:Y.prog=X.prog/\Y.w=X.w/\Y.K=X.K/\Y.A=X.A/\Y.env=compEnvC sc cl P.objs.size X.env/\Y.calm=X.calm/\(Y.xe=fun _ _=>False):=by rw [← hY];exact ⟨rfl,rfl,rfl,rfl,rfl,rfl,rfl⟩
 obtain ⟨y1,y2,y3,y4,y5,y6,y7⟩:=hYm
 have stat:∀ {H':Hp},(∀ b∈fp,H' b=none)->∀ b∈fp,lB Y [] H' b:=fun {H'} hn b hb=>by
  rw [← hY]
  refine ⟨hn b hb,fun (e:b=P.objs.size)=>hfC (e ▸ hb),fun hb'=>?_,.inl hb,fun x c e=>(f2 b hb).2.2.2.2.1 x c (hc1 x c e),fun p hp=>(nomatch hp)⟩
  rcases Zi.mp (I2.stkSub b hb') with z | z
  ·exact (f2 b hb).2.1 z
  ·exact (f2 b hb).2.2.1 z
 obtain ⟨W,⟨m0,w0⟩,turn⟩:=hW s2.heap.objs.size (I2.hok.fresh (Zk _))
 have hfp0:∀ b∈fp,upd H2 s2.heap.objs.size (.lst []) b=none:=fun b hb=>by rw [aI (ZW (lt_fp b hb))];exact (f2 b hb).1
 have st3:tn 0 h₁:=T.keep _ _ _ st2 fun b _ o e=>old b o e
 have loop:codeAny (model X.prog X.w) X.A (.compLoop (.ListComp elt [⟨tg,iter,ifs,0⟩] sc pos) 0 (.ref it) (.ref s2.heap.objs.size) (compEnvC sc cl P.objs.size X.env)) (compPost (model X.prog X.w) X.A X.xe use QQ (.ref s2.heap.objs.size) P.objs.size)
   { s2 with heap:=h₁,toks:=s2.toks+([]:List (Str×Value)).length }:=by
  refine nL (fun n s'=>∃ i σ' H',Inv Y [] σ' H' s'/\tn i s'.heap/\(∀ b∈fp,H' b=none)/\W i n σ' H') ?_ m0 ⟨0,_,_,IY,st3,hfp0,w0⟩
  rintro n s3 ⟨i,σ3,H3,I3,st3,fr3,w3⟩
  rcases turn i n σ3 H3 w3 with ⟨stop,qn⟩ | ⟨go,step⟩
  ·have q:=T.done Y y1 y2 y3 (y6.trans hcalm) i [] s3 σ3 H3 (fun _ _=>False) I3 (stat fr3) st3 stop
   rw [y4] at q
   refine thn q fun r s4 ⟨hr,I4⟩=>?_
   subst hr
   have IX:Inv X pins σ H3 s4:=by
    have b4:=I4.base
    have o4:=I4.os
    have k4:=I4.hok
    rw [← hY] at b4 o4 k4
    refine I2.call' (ch:=fp) o4 b4 k4 I4.bare fun b hb=>?_
    exact ⟨(f2 b hb).2.2.2.1,(f2 b hb).2.1,(f2 b hb).2.2.2.2.1,(f2 b hb).2.2.2.2.2⟩
   obtain ⟨mC,hmC,_⟩:=I4.loc
   have f4:=I4.free
   rw [y5] at hmC f4
   exact hq s4 H3 _ P.objs.size mC IX qn hmC (I2.fpOk hCle f4)
  ·have q:=T.item Y y1 y2 y3 (y6.trans hcalm) i [] s3 σ3 H3 (fun _ _=>False) I3 (stat fr3) st3 go
   rw [y4] at q
   refine thn q fun r s4 ⟨u,hr,h4⟩=>?_
   subst hr
   refine thn h4 fun _ s5 ⟨x,H5,I5,r5,yl5,st5,fr5⟩=>?_
   have I5':=I5.pinned (stat fr5) (T.obj _ _ st5)
   have again:∀ {σ7:St} {H7:Hp} {s7:Shared} {m:Nat},Inv Y ([]++kY fp s5.heap) σ7 H7 s7->W (i+1) m σ7 H7->∃ i σ' H',Inv Y [] σ' H' s7/\tn i s7.heap/\(∀ b∈fp,H' b=none)/\W i m σ' H':=fun {σ7 H7 s7 m} I7 w7=>by
    refine ⟨i+1,σ7,H7,I7.unpinned,T.keep _ _ _ st5 fun b hb o e=>(I7.pin (b,o) (ZU _ (ZU _ (gh hb e)))).1,fun b hb=>?_,w7⟩
    obtain ⟨o,e,d⟩:=T.obj _ _ st5 b hb
    exact (I7.pin (b,o) (ZU _ (ZU _ (gh hb e)))).2.1
   have qa:=hG _ s5 σ3 H5 x u _ I5' r5 (step x H5 yl5)
   rw [y1,y2,y4,y5,y7] at qa
   refine thn qa fun _ s6 ⟨σ6,H6,I6,q6⟩=>?_
   have qt:=hT _ s6 σ6 H6 _ I6 q6
   rw [y1,y2,y4,y5,y7] at qt
   refine thn qt fun b s7 ⟨H7,I7,q7⟩=>?_
   cases b with
   | false =>
    rw [Zn Zh] at q7 ⊢
    obtain ⟨m',hm,w7⟩:=q7
    exact ⟨m',hm,again I7 w7⟩
   | true =>
    rw [Zq rfl] at q7 ⊢
    have qe:=hE _ s7 σ6 H7 _ I7 q7
    rw [y1,y2,y4,y5,y7] at qe
    refine thn qe fun yv s8 ⟨y,H8,I8,r8,ys,hD8,hl8,m',hm,w8⟩=>?_
    have qp:=hJ (X:=Y) _ s8 σ6 H8 (.ref s2.heap.objs.size) [y] (.ref s2.heap.objs.size) [yv] (fun _ H9=>W (i+1) m' σ6 H9) I8 rfl (.cons r8 .nil) ⟨_,ys,y,rfl,rfl,hD8,hl8,w8⟩
    rw [y1,y2,y4,y7] at qp
    refine thn qp fun _ s9 ⟨_,H9,I9,_,w9⟩=>?_
    exact ⟨m',hm,again I9 w9⟩
 exact codeAny_compStart_list loop (T.self _ 0 _ _ _ st3 loop)
theorem qg {elt tg iter:Expr} {ifs:List Expr} {sc:Scope} {pos:Pos} {N:List Str} {k:Nat} {wi:TI} {g:TG} {tc:TT} {te:TE} (hcalm:X.calm=true) (hi:PI X tg iter wi) (hsc:my X.env sc=true)
  (hnm:jJ sc (N.drop k) X.N=true) (hNl:k<=N.length) (hin:∀ cl C s H fp,PG (di X N sc cl C s H fp) tg g/\yK (di X N sc cl C s H fp) ifs tc/\PE (di X N sc cl C s H fp) elt te)
  (hs:∀ x,foldedSetIterable iter X.env x=pure x:=by intro _;rfl):PE X (.ListComp elt [⟨tg,iter,ifs,0⟩] sc pos) (sR k wi g tc te):=by
 intro pins s σ H Q I h
 rw [eval_ListComp]
 refine qO (use:=none) hcalm hi hsc hnm hNl hin hs I h fun s' H' D C m I' q hn f=>⟨m,hn,fun h' hs'=>?_⟩
 exact ⟨.ref D,H',I'.turned (it:=C) (t':=s'.toks) (fun b o hb e=>hs'.extBut b o hb e) f.1 f.2.1 f.2.2.2.1 f.2.2.2.2.1 f.2.2.2.2.2,rfl,q⟩
end
end L2
end
section
namespace VS
open PySem PySem.Spec PyProof.Rows L2
noncomputable def qP (k:Nat) (g:Tg):Prop:=∀ t η η',g t η=some η'->η'.length=η.length/\∀ i,k<=i->η'[i]?=η[i]?
theorem jY {k i:Nat} (h:i < k):qP k (cS i):=fun t η η' e=>by
 unfold cS at e
 split at e
 ·cases e
  exact ⟨by simp,fun j hj=>by rw [Yd (by lia)]⟩
 ·cases e
theorem qy:∀ (l:Ww) {i:Nat} {t:T},cY l=true->l[i]?=some t->imm t=true
 | [],_,_,_,h=>by simp at h
 | x :: l,0,t,h,e=>by
  simp only [cY,Zc] at h
  simp at e;rw [← e];exact h.1
 | x :: l,i+1,t,h,e=>by
  simp only [cY,Zc] at h
  exact qy l h.2 (by simpa using e)
noncomputable def tC (G:Gx):Option Ex->TT
 | none=>fun σ H Q=>Q true H
 | some c=>tT G c
section
variable {G:Gx} {Φ:Fps} {η:VS.Env} {σ:L2.St} {H:Hp} {k:Nat}
theorem iO {i:Nat} {c:Cell}:(List.replicate k none++η)[i]?=some (some c) ↔ k<=i/\η[i - k]?=some (some c):=by
 rcases Nat.lt_or_ge i k with h | h
 ·rw [ZJ (by simpa using h),Yl]
  constructor
  ·intro e;split at e <;> cases e
  ·intro ⟨e,_⟩;lia
 ·rw [ZA (by simpa using h),YO]
  exact ⟨fun e=>⟨h,e⟩,fun e=>e.2⟩
theorem tD {a:Addr}:cG (fun i=>Φ (i - k)) (List.replicate k none++η) a ↔ cG Φ η a:=by
 constructor
 ·rintro ⟨j,t,h1,h2⟩
  exact ⟨j - k,t,(iO.mp h1).2,h2⟩
 ·rintro ⟨j,t,h1,h2⟩
  refine ⟨j+k,t,iO.mpr ⟨Nat.le_add_left _ _,by rw [Xv];exact h1⟩,?_⟩
  show a∈Φ (j+k - k)
  rw [Xv];exact h2
theorem t9 {a:Addr}:dP (fun i=>Φ (i - k)) (List.replicate k none++η) a ↔ dP Φ η a:=by
 constructor
 ·rintro ⟨j,t,h1,h2⟩
  exact ⟨j - k,t,(iO.mp h1).2,h2⟩
 ·rintro ⟨j,t,h1,h2⟩
  refine ⟨j+k,t,iO.mpr ⟨Nat.le_add_left _ _,by rw [Xv];exact h1⟩,?_⟩
  show a∈Φ (j+k - k)
  rw [Xv];exact h2
theorem SR.sh (s:SR G Φ η σ H):SR G (fun i=>Φ (i - k)) (List.replicate k none++η) (List.replicate k none++σ) H:=by
 refine ⟨by simp [s.len],fun i c h=>?_,fun i t h=>?_,fun i j t c h1 h2 n=>?_⟩
 ·obtain ⟨h1,h2⟩:=iO.mp h
  obtain ⟨v,g1,g2⟩:=s.rp _ c h2
  refine ⟨v,?_,g2⟩
  rw [ZA (by simpa using h1),YO]
  exact g1
 ·exact s.nd _ t (iO.mp h).2
 ·obtain ⟨a1,a2⟩:=iO.mp h1
  obtain ⟨b1,b2⟩:=iO.mp h2
  exact s.sep _ _ t c a2 b2 (by lia)
theorem SR.less {η':VS.Env} (s:SR G Φ η' σ H) (hl:η.length=η'.length) (h:∀ (i:Nat) c,η[i]?=some (some c)->η'[i]?=some (some c)):SR G Φ η σ H :=
 ⟨hl.trans s.len,fun i c e=>s.rp i c (h i c e),fun i t e=>s.nd i t (h i _ e),fun i j t c e1 e2 n=>s.sep i j t c (h i _ e1) (h j _ e2) n⟩
theorem SR.off {D:Addr} {o:HO} (s:SR G Φ η σ H) (m:Mut (H D)\/H D=none) (n1:¬ dP Φ η D) (n2:¬ cG Φ η D):SR G Φ η σ (upd H D o):=by
 refine ⟨s.len,fun i c e=>?_,s.nd,s.sep⟩
 obtain ⟨v,g1,g2⟩:=s.rp i c e
 refine ⟨v,g1,g2.keep (Kept.upd m) fun b hb o' ho=>?_⟩
 rw [aI fun z=>?_]
 ·exact ho
 ·subst z
  cases c with
  | pu t=>exact n1 ⟨i,t,e,hb⟩
  | ow t=>exact n2 ⟨i,t,e,hb⟩
theorem kg:∀ (l:Wy) (v:Val),cA (l++[v])=(cA l).join v.1
 | [],(m,t)=>by cases m <;> rfl
 | (m,t) :: l,v=>by
  show m.join (cA (l++[v]))=(m.join (cA l)).join v.1
  rw [kg l v]
  generalize cA l=q
  generalize v.1=r
  cases m <;> cases q <;> cases r <;> rfl
theorem Fp.join2 {m n:Md} {F F':X4} (f:Fp Φ η H m F) (g:Fp Φ η H n F') (d:n=.fr->∀ a∈F,a ∉ F'):Fp Φ η H (m.join n) (F++F'):=by
 have both:∀ {P:Addr->Prop},(∀ a∈F,P a)->(∀ a∈F',P a)->∀ a∈F++F',P a:=fun p q a h=>(Zg.mp h).elim (p a) (q a)
 cases m <;> cases n
 ·exact ⟨ZV.mpr ⟨f.1,g.1,fun a ha b hb e=>d rfl a ha (e ▸ hb)⟩,both f.2 g.2⟩
 ·exact both (fun a ha=>.inl (f.2 a ha)) g
 ·exact both (fun a ha=>.inl (f.2 a ha)) g
 ·exact both f fun a ha=>.inl (g.2 a ha)
 ·exact both f g
 ·exact both (fun a ha=>(f a ha).imp id .inl) g
 ·exact both f fun a ha=>.inl (g.2 a ha)
 ·exact both f fun a ha=>(g a ha).imp id .inl
 ·exact both f g
theorem Fp.cons1 {m:Md} {F:X4} {D:Addr} (f:Fp Φ η H m F) (h:H D=none) (d:D ∉ F):Fp Φ η H m (D :: F):=by
 have all:∀ {P:Addr->Prop},P D->(∀ a∈F,P a)->∀ a∈D :: F,P a:=fun p q a ha=>(Zi.mp ha).elim (fun e=>e ▸ p) (q a)
 cases m
 ·exact ⟨Ze.mpr ⟨d,f.1⟩,all h f.2⟩
 ·exact all (.inl h) f
 ·exact all (.inl h) f
end
section
variable {G:Gx} {k:Nat} {tg:Tg} {ci:Its} {cond:Option Ex} {ce:Ex}
noncomputable def CI (G:Gx) (Φ:Fps) (η η0:VS.Env) (H H1:Hp) (D:Addr) (l:Ww) (all:Wy) (tg:Tg) (cond:Option Ex) (ce:Ex) (i n:Nat) (σ':L2.St) (H':Hp):Prop:=n=l.length - i/\∃ Φ1 vs Fs xs rest,SR G Φ1 η0 σ' H'/\(∀ a,cG Φ1 η0 a->cG Φ η a)/\(∀ a,dP Φ1 η0 a->H a=none\/dP Φ η a)/\¬ dP Φ1 η0 D/\¬ cG Φ1 η0 D/\Kept H1 H' ∧
     (∀ a o,a ≠ D->H1 a=some o->H' a=some o)/\H' D=some (.lst xs)/\RpL G H' xs (trees vs) Fs/\D ∉ Fs.flatten/\Fp Φ η H (cA vs) Fs.flatten/\kT tg cond ce η0 (l.drop i)=some rest/\vs++rest=all
theorem pU {σ:L2.St} {H:Hp} {Q:VK} (hin:qP k tg) (h:tE G (fF k tg ci cond ce) σ H Q):sR k (tI G ci) (tG G tg) (tC G cond) (tE G ce) σ H Q:=by
 refine L2.iW fun P_ k_=>?_
 obtain ⟨Φ,η,m,r,s,e,kq⟩:=h
 unfold fF at e
 obtain ⟨⟨mi,l⟩,el,e1⟩:=Zz.mp e
 dsimp only at e1
 split at e1
 ·rename_i hok
  obtain ⟨all,ea,e2⟩:=Zz.mp e1
  unfold mkL at e2
  split at e2
  ·rename_i hlen
   cases e2
   refine k_ ?_
   refine ⟨Φ,η,mi,l,s,el,fun J H1 C e3 ok fc D hD=>?_⟩
   have hHD:H D=none:=e3.free hD
   let η0:VS.Env:=List.replicate k none++η
   have good:∀ {t:T} {i:Nat} {H' H2:Hp} {v:V} {F:X4},l[i]?=some t->Rp G H2 v t F->(∀ a,H1 a ≠ none->H' a ≠ none)->(∀ a∈F,a∈C\/H' a=none)->∀ a∈F,(H a=none\/dP Φ η a)/\¬ cG Φ η a:=fun {t i H' H2 v F} hi rF keep hF a ha=>by
    have dom:∀ {b},H b ≠ none->H' b ≠ none:=fun {b} hb=>keep b fun z=>hb (e3.free z)
    rcases hF a ha with z | z
    ·rcases fc a z with q | q | ⟨q,w⟩
     ·exact ⟨.inl q,fun w=>Mut.ne_none (s.ow_dom w) q⟩
     ·exact ⟨.inr q,fun w=>s.ow_pu w q⟩
     ·subst q
      have:imm t=true:=by
       exact qy l hok hi
      rw [rF.imm this] at ha
      simp at ha
    ·have hz:H a=none:=Classical.byContradiction fun q=>dom q z
     exact ⟨.inl hz,fun w=>Mut.ne_none (s.ow_dom w) hz⟩
   refine ⟨CI G Φ η η0 H H1 D l all tg cond ce,?_,?_⟩
   ·refine ⟨l.length - 0,rfl,fun i=>Φ (i - k),[],[],[],all,?_,fun a h=>tD.mp h,fun a h=>.inr (t9.mp h),fun h=>?_,fun h=>?_,Kept.upd (.inr hD),fun a o n h=>by rw [aI n];exact h,aD,.nil,by simp,Fp.nil,by rw [List.drop_zero];exact ea,rfl⟩
    ·exact ((s.same e3).sh).off (.inr hD) (fun h=>Mut.ne_none (s.pu_dom (t9.mp h)) hHD) fun h=>Mut.ne_none (s.ow_dom (tD.mp h)) hHD
    ·exact Mut.ne_none (s.pu_dom (t9.mp h)) hHD
    ·exact Mut.ne_none (s.ow_dom (tD.mp h)) hHD
   ·intro i n σ' H' hh_
    refine L2.iW fun P_ k_=>?_
    obtain ⟨rfl,Φ1,vs,Fs,xs,rest,s1,ow1,pu1,np1,no1,kp,old,hD',rp,nD,fp,er,ev⟩:=hh_
    refine k_ ?_
    have keepdom:∀ a,H1 a ≠ none->H' a ≠ none:=fun a ha z=>by
     by_cases q:a=D
     ·subst q;rw [hD'] at z;cases z
     ·cases e:H1 a with
      | none=>exact ha e
      | some o=>rw [old a o q e] at z;cases z
    refine L2.iW fun P_ k_=>?_
    obtain ⟨go,stop⟩:=ok.run H' kp fun a ha o ho=>old a o (fun z=>ok.dom a ha (z ▸ hD)) ho
    cases hit:l[i]? with
    | none =>
     have hl:l.length<=i:=Yv.mp hit
     refine k_ ?_
     left
     refine ⟨stop i hl,?_⟩
     rw [YR hl] at er
     cases (show some ([]:Wy)=some rest from er)
     rw [ZK] at ev
     subst ev
     refine kq (.ref D) H' (D :: Fs.flatten) (fun a o h=>old a o (fun z=>by rw [z,hHD] at h;cases h) (e3 a o h)) (.lst hD' rp) ?_
     by_cases hi:cY (trees vs)=true
     ·rw [Zq hi,rp.imm hi]
      exact ⟨by simp,fun a ha=>by rw [Zj.mp ha];exact hHD⟩
     ·rw [Zn hi]
      exact fp.cons1 hHD nD
    | some t =>
     have hl:i < l.length:=(Zf.mp hit).1
     obtain ⟨g1,y1⟩:=go i t hit
     refine k_ ?_
     right
     refine ⟨g1,fun x H2 yl=>?_⟩
     refine L2.iW fun P_ k_=>?_
     obtain ⟨e8,F,rF,hF⟩:=y1 x H2 yl
     rw [lM (tgt:=tg) (body:=eG) (η:=η) hit] at er
     rw [kT] at er
     obtain ⟨η3,e4,e5⟩:=Zz.mp er
     obtain ⟨b,eb,e6⟩:=Zz.mp e5
     have gd:=good hit rF keepdom hF
     have s2:=s1.same e8
     have DF:D ∉ F:=fun h=>by
      rcases hF D h with z | z
      ·exact ok.dom D z hD
      ·rw [hD'] at z;cases z
     refine k_ ?_
     refine ⟨Φ1,η0,t,F,η3,s2,rF,fun a ha z=>(gd a ha).2 (ow1 a z),e4,fun Φ3 σ3 s3 o3 p3=>?_⟩
     obtain ⟨tl,tsame⟩:=hin t η0 η3 e4
     have low:∀ j c,η0[j]?=some (some c)->η3[j]?=some (some c):=fun j c h=>by rw [tsame j (iO.mp h).1];exact h
     have pu3:∀ a,dP Φ3 η3 a->H a=none\/dP Φ η a:=fun a h=>(p3 a h).elim (pu1 a) fun h=>(gd a h).1
     have ow3:∀ a,cG Φ3 η3 a->cG Φ η a:=fun a h=>ow1 a (o3 a h)
     have np3:¬ dP Φ3 η3 D:=fun h=>(p3 D h).elim np1 DF
     have no3:¬ cG Φ3 η3 D:=fun h=>no1 (o3 D h)
     have pul:∀ a,dP Φ3 η0 a->dP Φ3 η3 a:=fun a ⟨j,u,h1,h2⟩=>⟨j,u,low j _ h1,h2⟩
     have owl:∀ a,cG Φ3 η0 a->cG Φ3 η3 a:=fun a ⟨j,u,h1,h2⟩=>⟨j,u,low j _ h1,h2⟩
     have rest':∀ H4,aP H2 H4->(if b=true then tE G ce σ3 H4 fun y H5=>∃ ys,H5 D=some (.lst ys)/\ys.length < sizeLine/\∃ m',m' < l.length - i/\CI G Φ η η0 H H1 D l all tg cond ce (i+1) m' σ3 (upd H5 D (.lst (ys++[y]))) else ∃ m',m' < l.length - i/\CI G Φ η η0 H H1 D l all tg cond ce (i+1) m' σ3 H4):=fun H4 e9=>by
      have eo:∀ {H5},aP H4 H5->∀ a o,H' a=some o->H5 a=some o:=fun {H5} e10 a o h=>e10 a o (e9 a o (e8 a o h))
      cases b with
      | false =>
       rw [Zn Zh] at e6 ⊢
       have same:=eo (aP.refl H4)
       exact ⟨_,by lia,rfl,Φ3,vs,Fs,xs,rest,(s3.same e9).less (by rw [tl]) low,fun a h=>ow3 a (owl a h),fun a h=>pu3 a (pul a h),fun h=>np3 (pul D h),fun h=>no3 (owl D h),kp.trans ((Kept.of e8).trans (Kept.of e9)),fun a o n h=>same a o (old a o n h),same D _ hD',rp.same (aP.trans e8 e9),nD,fp,e6,ev⟩
      | true =>
       rw [Zq rfl] at e6 ⊢
       obtain ⟨⟨mv,tv⟩,ece,e7⟩:=Zz.mp e6
       obtain ⟨rest1,er1,e7'⟩:=Zw.mp e7
       refine ⟨Φ3,η3,mv,tv,s3.same e9,ece,fun y H5 Fy e10 ry fy=>?_⟩
       have same:=eo e10
       have hD5:=same D _ hD'
       have mD5:Mut (H5 D):=by rw [hD5];exact True.intro
       have hD4:H4 D=some (.lst xs):=e9 D _ (e8 D _ hD')
       have none4:∀ a,H4 a=none->H a=none:=fun a h=>Classical.byContradiction fun q=>keepdom a (fun z=>q (e3.free z)) (e8.free (e9.free h))
       have fyo:Fp Φ η H mv Fy:=by
        cases mv with
        | fr=>exact ⟨fy.1,fun a ha=>none4 a (fy.2 a ha)⟩
        | pu=>exact fun a ha=>(fy a ha).elim (fun z=>.inl (none4 a z)) (pu3 a)
        | bo=>exact fun a ha=>(fy a ha).elim (fun z=>.inl (none4 a z)) fun z=>z.elim (fun z=>(pu3 a z).imp id .inl) fun z=>.inr (.inr (ow3 a z))
       have DFy:D ∉ Fy:=fun h=>by
        cases mv with
        | fr=>have:=fy.2 D h;rw [hD4] at this;cases this
        | pu=>exact (fy D h).elim (fun z=>by rw [hD4] at z;cases z) np3
        | bo=>exact (fy D h).elim (fun z=>by rw [hD4] at z;cases z) fun z=>z.elim np3 no3
       have rp5:RpL G H5 xs (trees vs) Fs:=rp.same ((e8.trans e9).trans e10)
       have lenx:xs.length=vs.length:=by rw [rp.len.1];simp
       have lenv:vs.length < all.length:=by rw [← ev,← e7'];simp
       refine ⟨xs,hD5,?_,_,by lia,rfl,Φ3,vs++[(mv,tv)],Fs++[Fy],xs++[y],rest1,(((s3.same e9).same e10).off (.inl mD5) np3 no3).less (by rw [tl]) low,fun a h=>ow3 a (owl a h),fun a h=>pu3 a (pul a h),fun h=>np3 (pul D h),fun h=>no3 (owl D h),?_,fun a o n h=>?_,aD,?_,?_,?_,er1,?_⟩
       ·have hlen':all.length<=dS:=by simpa using hlen
        have:sizeLine=dS:=rfl
        lia
       ·exact (kp.trans ((Kept.of e8).trans ((Kept.of e9).trans (Kept.of e10)))).trans (Kept.upd (.inl mD5))
       ·rw [aI n];exact same a o (old a o n h)
       ·have:trees (vs++[(mv,tv)])=trees vs++[tv]:=by simp
        rw [this]
        exact (rp5.off mD5 nD).append (.cons (ry.keep (Kept.upd (.inl mD5)) fun b hb o ho=>by rw [aI (fun z=>DFy (by rw [← z];exact hb))];exact ho) .nil)
       ·rw [Z8]
        intro h
        rcases Zg.mp h with z | z
        ·exact nD z
        ·exact DFy (by simpa using z)
       ·rw [Z8,kg]
        have:([Fy]:Xq).flatten=Fy:=by simp
        rw [this]
        refine fp.join2 fyo fun hm a ha hb=>?_
        subst hm
        have h4:=fy.2 a hb
        have:Mut (H4 a):=(rp.same (e8.trans e9)).dom a ha
        rw [h4] at this;exact this
       ·rw [Yu,← ev,← e7'];rfl
     cases cond with
     | none =>
      cases (show some true=some b from eb)
      exact rest' H2 (aP.refl H2)
     | some c =>
      obtain ⟨⟨mc,xc⟩,ec1,ec2⟩:=Zz.mp eb
      exact ⟨Φ3,η3,mc,xc,b,s3,ec1,ec2,fun H4 e9=>rest' H4 e9⟩
  ·cases e2
 ·cases e1
end
section
variable {G:Gx} {X:Cx} {elt tg iter c:Expr} {sc:Scope} {pos pos' spos:Pos} {N:List Str} {k i:Nat} {x:Str} {ci:Its} {g:Tg} {cc ce:Ex}
theorem vv (k:Nat) (N:List Str) (hcalm:X.calm=true) (hi:PVI G X tg iter ci) (hin:qP k g) (hg:∀ cl C s H fp,PVG G (di X N sc cl C s H fp) tg g) (he:∀ cl C s H fp,PV G (di X N sc cl C s H fp) elt ce)
  (hsc:my X.env sc=true:=by rfl) (hnm:jJ sc (N.drop k) X.N=true:=by rfl) (hNl:k<=N.length:=by decide) (hs:∀ x,foldedSetIterable iter X.env x=pure x:=by intro _;rfl) :
  PV G X (.ListComp elt [⟨tg,iter,[],0⟩] sc pos) (fF k g ci none ce) :=
 PE.weak (qg hcalm hi hsc hnm hNl (fun cl C s H fp=>⟨hg cl C s H fp,n4,he cl C s H fp⟩) hs) fun σ H Q h=>pU (cond:=none) hin h
end
end VS
end
section
namespace L2
open PySem PySem.Spec PyProof.Rows
end L2
namespace VS
open PySem PySem.Spec PyProof.Rows L2
noncomputable instance {s:Tx}:Decidable (lA s):=inferInstanceAs (Decidable (_/\_))
section
variable {G:Gx} {X:Cx} {a b c e:Expr} {es:List Expr} {ca cb cc:Ex} {cs:Exs} {pos p p1 p2 apos cpos:Pos} {k k':Nat}
theorem w_add (ha:PV G X a ca) (hb:PV G X b cb):PV G X (.BinOp a .Add b pos) (e2 cH ca cb):=nz we yr ha hb
theorem w_sub (ha:PV G X a ca) (hb:PV G X b cb):PV G X (.BinOp a .Sub b pos) (e2 jL ca cb):=nz zf ze ha hb
theorem w_mul (ha:PV G X a ca) (hb:PV G X b cb):PV G X (.BinOp a .Mult b pos) (e2 lr ca cb):=nz zM yq ha hb
theorem zk (ha:PV G X a ca) (hb:PV G X b cb):PV G X (.BinOp a .FloorDiv b pos) (e2 eI ca cb):=nz vx xN ha hb
theorem w_mod (ha:PV G X a ca) (hb:PV G X b cb):PV G X (.BinOp a .Mod b pos) (e2 oMod ca cb):=nz y9 zo ha hb
theorem A8 (ha:PV G X a ca) (hb:PV G X b cb):PVT G X (.Compare a [.Lt] [b] pos) (e2 oLt ca cb):=fZ um yb kh ha hb (jx _)
theorem w_eq (hr:Room k X.A) (ha:PV G X a ca) (hb:PV G X b cb):PV G X (.Compare a [.Eq] [b] pos) (e2 oEq ca cb):=Ab (tP hr.units) ya ha hb (jx _)
theorem Bn (hr:Room k X.A) (ha:PV G X a ca) (hb:PV G X b cb):PVT G X (.Compare a [.Eq] [b] pos) (e2 oEq ca cb):=fZ (tP hr.units) ya tells_eq ha hb (jx _)
theorem B4 (hr:Room k X.A) (ha:PV G X a ca) (hb:PV G X b cb):PVT G X (.Compare a [.NotEq] [b] pos) (e2 oNe ca cb):=fZ (zS hr.units) BG ud ha hb (jx _)
theorem Co (ha:PV G X a ca) (hb:PV G X b cb) (hs:d5 b:=by intro _ _;rfl) (hK:X.K=G.K:=by rfl):PV G X (.Subscript a b pos) (e2 aJ ca cb) :=
 PE.weak (qo mL ha hb hs) fun σ H Q h=>by rw [hK];exact jb vm h
theorem Ba (hm:X.mg "len" = none) (ha:PVs G X [e] cs) (hg:Gl X "len" := by rfl) (hK:X.K=G.K:=by rfl) (he:starEach [e] X.env=(false,eval e X.env) :: starEach [] X.env:=by rfl):PV G X (.Call (.Name "len" p) [e] [] pos) (eN cn cs) :=
 gz (hK ▸ rH) zz hg hm PySem.boot_len ha (he:=he) (hpl:=rfl)
theorem Ak:bootBuiltins ("max" : Str)=some (.builtin "max"):=by decide +kernel
theorem Aw:bootBuiltins ("min" : Str)=some (.builtin "min"):=by decide +kernel
theorem xJ:bootBuiltins ("list" : Str)=some (.type "list"):=by decide +kernel
theorem yV (hm:X.mg "max" = none) (ha:PVs G X [a,b] cs) (hc:X.calm=true:=by rfl) (hg:Gl X "max" := by rfl) (he:starEach [a,b] X.env=(false,eval a X.env) :: starEach [b] X.env:=by rfl) (hpl:(backTo pos (starEach [b] X.env)).any (·.1)=false:=by rfl):PV G X (.Call (.Name "max" p) [a,b] [] pos) (eN ot cs) :=
 gz (qL hc) wH hg hm Ak ha (he:=he) (hpl:=hpl)
theorem zw (hm:X.mg "min" = none) (ha:PVs G X [a,b] cs) (hc:X.calm=true:=by rfl) (hg:Gl X "min" := by rfl) (he:starEach [a,b] X.env=(false,eval a X.env) :: starEach [b] X.env:=by rfl) (hpl:(backTo pos (starEach [b] X.env)).any (·.1)=false:=by rfl):PV G X (.Call (.Name "min" p) [a,b] [] pos) (eN oB cs) :=
 gz (rm hc) wU hg hm Aw ha (he:=he) (hpl:=hpl)
noncomputable def tyN:Ty->Str
 | .int => "int" | .str => "str" | .bool => "bool" | .list => "list" | .tuple => "tuple" | .dict => "dict"
theorem AV (t:Ty):bootBuiltins (tyN t)=some (.type (tyS t)):=by cases t <;> decide +kernel
theorem w_is (t:Ty) (hm:X.mg "isinstance" = none) (hm2:X.mg (tyN t)=none) (ha:PV G X a ca) (hg:Gl X "isinstance" := by rfl) (hg2:Gl X (tyN t):=by rfl) (hK:X.K=G.K:=by rfl)
  (hs:starEach [a,.Name (tyN t) p2] X.env=(false,eval a X.env) :: starEach [.Name (tyN t) p2] X.env:=by rfl):PV G X (.Call (.Name "isinstance" p1) [a,.Name (tyN t) p2] [] pos) (eIs t ca) :=
 Cd t ha hg hm hg2 hm2 (AV t) hK (by cases t <;> decide) (by cases t <;> decide) hs rfl rfl
theorem u0 (i:Nat) {x:Str} (ha:PVs G X [e] cs) (hK:X.K=G.K:=by rfl)
  (hN:X.N[i]?=some x:=by rfl) (hv:Vis X.env.scope x:=by first | exact Or.inl rfl | exact Or.inr (Or.inl rfl) | exact Or.inr (Or.inr rfl)) (hd:(x == ("__debug__" : Str))=false:=by decide)
  (hcd:(x == ("__classdict__" : Str))=false:=by decide) (hfew:((backTo cpos (starEach [e] X.env)).all (fun x=>!x.1) && (backToKw cpos (keywordEach [] X.env)).all (fun x=>x.1.isSome)
   && decide ([e].length+([]:List Keyword).length+(if ([]:List Keyword).isEmpty then 0 else 1) < 30))=true:=by rfl)
  (hline:(apos.endLine == cpos.line)=true:=by rfl) (hs:starEach [e] X.env=(false,eval e X.env) :: starEach [] X.env:=by rfl) :
  PSV G X (.Expr (.Call (.Attribute (.Name x p1) "append" apos) [e] [] cpos) pos) (sX (jN i [] aG cs)) :=
 nJ i YD Xs Xt hJ lE (fun H v t F l z r h=>jz r h) ha hK hN hv hd hcd rfl hfew hline hs rfl rfl
end
structure FnAt (P:Program) (w:World) (K:X0) (mg:X3) (base:Heap) (k:Nat) (x:Str) (ps:List Str) (G:Gx) (g:Fn):Prop where
 ex:∃ f fd,FnOk P w K mg base CX0 k f fd ps (spF G g)/\mg x=some (.ref f)/\PySem.W.keepIn K (.ref f)=true/\Binds K fd ps []
section
variable {G:Gx} {X:Cx} {e:Expr} {es:List Expr} {cs:Exs} {pos p:Pos} {k k':Nat} {x:Str} {ps:List Str} {g:Fn}
theorem Ao (F:FnAt X.prog X.w X.K X.mg X.base k x ps G g) (hr:Room k' X.A) (ha:PVs G X (e :: es) cs) (hk:k<=k':=by decide) (hg:Gl X x:=by rfl) (hdb:(x == ("__debug__" : Str))=false:=by decide)
  (he:starEach (e :: es) X.env=(false,eval e X.env) :: starEach es X.env:=by rfl) (hpl:(backTo pos (starEach es X.env)).any (·.1)=false:=by rfl) :
  PV G X (.Call (.Name x p) (e :: es) [] pos) (bD g cs):=by
 obtain ⟨f,fd,h1,h2,h3,h4⟩:=F.ex
 exact xt h1 (hr.mono hk) hg h2 h3 h4 ha hdb he hpl
end
section
variable {G:Gx} {P:Program} {w:World} {K:X0} {mg:X3} {base:Heap}
theorem BQ {x:Str} {st:Stmt} {f:Addr} {fd:FuncData} {N ps:List Str} {k np nn:Nat} {c:Sx} (F:Fun K x x st f fd) (hm:mg x=some (.ref f)) (S:FnScope N ps (af st)) (hp:ps.length=np) (hn:N.length=nn)
  (hbd:∀ (kV doc pm:Value) (an:Option Addr) (cdv ct:Value) (us:X5),us.length=ps.length->bindArgs (PySem.W.fnOf x x (aE st) (au st) (af st) .none kV doc pm an cdv ct) ⟨us,[]⟩=pure (ps.zip us))
  (hb:∀ (cdv:Value) (A:Around) (outer:List PySem.Env) (s:Shared) (H:Hp) (E:XK),Room k (A.deeper (envOfC x (af st) s.heap.objs.size f cdv))->dh G (fC CX0 P w K mg base N x (af st) f cdv A outer s H E).nox (au st) c) :
  FnAt P w K mg base (k+1) x ps G (fn np nn c) :=
 ⟨f,fd,fnV F S hp hn hb,hm,F.kp,F.binds hbd⟩
end
end VS
end
section
namespace L2
open PySem PySem.Spec PyProof.Rows
noncomputable def Its (x:Str):It:=⟨fun i _=>i < x.cps.size,fun i H v H'=>H'=H/\∃ c,x.cps[i]?=some c/\v=.str ⟨#[c]⟩,fun i _=>x.cps.size<=i⟩
theorem lH {P:Program} {w:World} {K:X0} {tg:Expr} (x:Str) (t:Tok) (it:Addr) (ty:String) (hn:["enumerate", "zip", "dict_itemiterator", "dict_reverseitemiterator", "odict_iterator", "itertools.zip_longest", "itertools.pairwise"].contains ty=false)
  (W:∀ A:Around,A.handled=none->Walks P w A it [it] [it] x.cps.size (fun i v=>∃ c u,x.cps[i]?=some c/\v=.str ⟨#[c]⟩ u) (fun i h=>h.IsStrIter it ty x t i)) (hend:∀ (A:Around),A.handled=none->∀ (i:Nat) (s:Shared) (Q:X6->Shared->Prop) (E:Yt),s.heap.IsStrIter it ty x t i->x.cps[i]?=none->(∀ h',Heap.ExtBut it s.heap h'->Q none { s with heap:=h' })->wpAny (model P w) A (pyNext (.ref it)) Q E s)
  (hself:∀ (A:Around) (i:Nat) (s:Shared) (Q:Yt) (E:Yt),s.heap.IsStrIter it ty x t i->Q (.ref it) s->wpAny (model P w) A (pyIter (.ref it)) Q E s) :
  Turn P w K tg (Its x) [it] it (fun i h=>h.IsStrIter it ty x t i) where
 mem:=by simp
 obj:=fun i h st b hb=>by
  rw [Zj.mp hb]
  obtain ⟨o,e,c,d⟩:=st
  exact ⟨o,e,fun v z=>by rw [d] at z;cases z⟩
 keep:=fun i h h' st k=>let ⟨o,e,r⟩:=st;⟨o,k it (by simp) o e,r⟩
 item:=by
  intro X hP hw hK hc i pins s σ H E I hf st hg
  subst hP hw hK
  obtain ⟨f0,f1,f2,f3,f4,f5⟩:=hf it (by simp)
  refine (W X.A (I.ok.hd hc)).item i s _ _ hg st fun v h' tk hv st' kk=>?_
  obtain ⟨c,u,hc',rfl⟩:=hv
  have I1:Inv X pins σ H { s with heap:=h',toks:=tk }:=I.turned (fun b o hb e=>kk b o (by simpa using hb) e) f0 f1 f3 f4 f5
  obtain ⟨o,e,c1,d⟩:=id st'
  exact ⟨_,rfl,nP (s:={ s with heap:=h',toks:=tk }) e c1 d hn ⟨.str ⟨#[c]⟩,H,I1,⟨u,rfl⟩,⟨rfl,c,hc',rfl⟩,st',fun b hb=>(hf b hb).1⟩⟩
 done:=by
  intro X hP hw hK hc i pins s σ H E I hf st hg
  subst hP hw hK
  obtain ⟨f0,f1,f2,f3,f4,f5⟩:=hf it (by simp)
  have hx:x.cps.size<=i:=hg
  exact hend X.A (I.ok.hd hc) i s _ _ st (by simp [hx]) fun h' eb=>⟨rfl,I.turned (t':=s.toks) (fun b o hb e=>eb b o hb e) f0 f1 f3 f4 f5⟩
 self:=fun A i s Q E st h=>hself A i s Q E st h
theorem ux {P:Program} {w:World} {K:X0} {tg:Expr} (x:Str) (t:Tok) (it:Addr):Turn P w K tg (Its x) [it] it (fun i h=>h.IsStrIter it (strIterType x) x t i):=by
 cases ha:x.cps.all (· < 128)
 ·have e:strIterType x = "str_iterator" := by simp [strIterType,ha]
  rw [e]
  exact lH x t it "str_iterator" rfl (fun A hA=>Walks.strWide hA it x t) (fun A hA i s Q E st hx q=>wpAny_pyNext_wide_end hA st hx q) fun A i s Q E st q=>wpAny_pyIter_striter_wide st q
 ·have e:strIterType x = "str_ascii_iterator" := by simp [strIterType,ha]
  rw [e]
  exact lH x t it "str_ascii_iterator" rfl (fun A hA=>Walks.strAscii hA it x t) (fun A hA i s Q E st hx q=>wpAny_pyNext_ascii_end hA st hx q) fun A i s Q E st q=>wpAny_pyIter_striter_ascii st q
section
variable {X:Cx} {tg l a b c:Expr} {tl ta tb tc:TE} {pos:Pos}
noncomputable def Bw (K:X0) (tl:TE):TI:=fun σ H R=>tl σ H fun x H1=>(∃ a,x=.ref a/\(∃ xs,SqL K H1 a xs)/\R (Itl K a) H1)\/(∃ a,x=.ref a/\(∃ xs,SqT K H1 a xs)/\R (Itt K a) H1)\/∃ z,x=.str z/\R (Its z) H1
theorem xo (hl:PE X l tl):PI X tg l (Bw X.K tl):=by
 intro pins s σ H R I h
 refine thn (hl pins s σ H _ I h) fun v s1 ⟨x,H1,I1,r1,q1⟩=>?_
 have fp1:∀ b∈[s1.heap.objs.size],lB X pins H1 b:=fun b hb=>by
  rw [Zj.mp hb]
  exact I1.fpOk (Zk _) (I1.hok.fresh (Zk _))
 rcases q1 with ⟨a,e,⟨xs,hq⟩,q⟩ | ⟨a,e,⟨xs,hq⟩,q⟩ | ⟨z,e,q⟩
 ·subst e
  cases r1
  obtain ⟨its,rv,p,hz⟩:=I1.list hq
  exact wpAny_pyIter_list p.isList ⟨s1.heap.objs.size,[s1.heap.objs.size],_,_,H1,rfl,I1.kept (t':=s1.toks) fun b o e=>Zl _ e,q9 a _,⟨_,ZS _ rfl,rfl,rfl⟩,fp1,q⟩
 ·subst e
  cases r1
  obtain ⟨its,rv,p,hz⟩:=I1.tuple hq
  exact wpAny_pyIter_tuple (show s1.heap.IsTuple a its.toArray from p) ⟨s1.heap.objs.size,[s1.heap.objs.size],_,_,H1,rfl,I1.kept (t':=s1.toks) fun b o e=>Zl _ e,pk a _,⟨_,ZS _ rfl,rfl,rfl⟩,fp1,q⟩
 ·subst e
  obtain ⟨t,rfl⟩:=r1
  exact wpAny_pyIter_strU ⟨s1.heap.objs.size,[s1.heap.objs.size],_,_,H1,rfl,I1.kept (t':=s1.toks) fun b o e=>Zl _ e,ux z t _,⟨_,ZS _ rfl,rfl,rfl⟩,fp1,q⟩
theorem wK {s:Shared} {h':Heap} {o:Obj} (hk:∀ b x,b ∉ [s.heap.objs.size]->(s.heap.push o).get? b=some x->h'.get? b=some x) (b:Addr) (x:Obj) (e:s.heap.get? b=some x):h'.get? b=some x :=
 hk b x (fun hm=>Yn _ (by have:=ZX e;rw [Zj.mp hm] at this;exact this)) (Zl _ e)
theorem uc (hc:X.calm=true):dC X (.builtin "sum") (fun xs H Q=>∃ p,∃ ns:X8,xs=[.ref p]/\SqL X.K H p (ns.map V.int)/\Q (.int ns.sum) H):=by
 intro pins s σ H xs us Q I rx h
 obtain ⟨p,ns,rfl,hq,q⟩:=h
 obtain ⟨u,rfl,ru⟩:=rx.one
 cases ru
 obtain ⟨its,rv,pl,hz⟩:=I.list hq
 have hl:p < s.heap.objs.size:=by obtain ⟨_,e,_⟩:=pl.isList;exact ZX e
 refine call_sum_walkG (wpAny_pyIter_list pl.isList ⟨s.heap.objs.size,[s.heap.objs.size,p],[s.heap.objs.size],its.toArray.size,_,_,fun i=>(ns[i]?).getD 0,rfl,Walks.list (A:=X.A.in1) (I.ok.hd hc) _ p (ZW hl) its.toArray,
  ⟨⟨_,ZS _ rfl,rfl,rfl⟩,pl.isList.push _⟩,fun b hb=>?_,fun i v hP=>?_,fun h' tk t' hk=>⟨.int ns.sum,H,I.kept (wK hk),⟨t',?_⟩,q⟩⟩)
 ·rw [XJ]
  rcases Zi.mp hb with rfl | hb
  ·exact Yp _
  ·rw [Zj.mp hb];exact XT hl
 ·have hv:its[i]?=some v:=by simpa using hP
  cases e:ns[i]? with
  | none =>
   have:=rv.none_of (i:=i) (by rw [ZQ,e];rfl)
   rw [this] at hv;cases hv
  | some n =>
   obtain ⟨u,hu,ru⟩:=rv.get (i:=i) (x:=.int n) (by rw [ZQ,e];rfl)
   rw [hu] at hv;cases hv
   obtain ⟨t,rfl⟩:=ru
   exact ⟨t,by simp [e]⟩
 ·have hlen:its.toArray.size=ns.length:=by have:=rv.length;simp at this ⊢;exact Eq.symm this
  have:∀ k,k<=ns.length->preSum (fun i=>(ns[i]?).getD 0) k=(ns.take k).sum:=fun k=>by
   induction k with
   | zero=>intro _;simp [preSum]
   | succ k ih =>
    intro hk
    rw [List.take_succ,List.sum_append,preSum,ih (by exact Nat.le_of_succ_le hk)]
    cases e:ns[k]? <;> simp
  rw [hlen,this _ (Zk _),List.take_length]
theorem qQ:OpR X (compareOp .Gt) (fun x y H Q=>∃ i j,x=.str i/\y=.str j/\Q (.bl (decide (j.cps.toList < i.cps.toList))) H):=by
 intro pins s σ H x y v u Q I rx ry h
 obtain ⟨i,j,rfl,rfl,q⟩:=h
 obtain ⟨t,rfl⟩:=rx
 obtain ⟨t',rfl⟩:=ry
 exact PySem.P.gt_str ⟨.bl _,H,I,rfl,q⟩
theorem qS:OpR X (compareOp .GtE) (fun x y H Q=>∃ i j,x=.str i/\y=.str j/\Q (.bl (!decide (i.cps.toList < j.cps.toList))) H):=by
 intro pins s σ H x y v u Q I rx ry h
 obtain ⟨i,j,rfl,rfl,q⟩:=h
 obtain ⟨t,rfl⟩:=rx
 obtain ⟨t',rfl⟩:=ry
 exact PySem.P.ge_str ⟨.bl _,H,I,rfl,q⟩
end
end L2
end
section
namespace VS
open PySem PySem.Spec PyProof.Rows L2
section
variable {G:Gx} {X:Cx} {a b c e tg:Expr} {es:List Expr} {ca cb cc:Ex} {cs:Exs} {pos p p1 p2 apos cpos:Pos} {k k':Nat}
theorem yz (H:Hp) (s:Tx) (ok:lA s):ItOk G (L2.Its (sx s)) (s.map fun c=>T.str [c]) [] H:=by
 have sz:(sx s).cps.size=s.length:=rfl
 refine ⟨fun H2 _ _=>⟨fun i t h=>?_,fun i h=>(by rw [Zy] at h;show (sx s).cps.size<=i;lia)⟩,fun a h=>by simp at h⟩
 rw [ZQ] at h
 obtain ⟨c,hc,rfl⟩:=Zw.mp h
 refine ⟨(by show i < (sx s).cps.size;have:=(Zf.mp hc).1;lia),fun x H3 ⟨e1,c',hc',e2⟩=>?_⟩
 subst e1
 have:c'=c:=by
  have h1:(sx s).cps[i]?=some c:=by simp [sx,hc]
  rw [h1] at hc';exact (Zo hc').symm
 subst this
 rw [e2]
 exact ⟨aP.refl _,[],.str [c'] ⟨(by show 1<=dS;decide),fun d hd=>by rw [Zj.mp hd];exact ok.2 c' (YL hc)⟩,fun a h=>by simp at h⟩
theorem wG (ha:PV G X a ca) (hK:X.K=G.K:=by rfl):PVI G X tg a (gR ca) :=
 PI.weak (xo ha) fun σ H R hq=>by
  obtain ⟨Φ,η,m,l,s,e,k⟩:=hq
  unfold gR at e
  obtain ⟨⟨mx,x⟩,ea,e1⟩:=Zz.mp e
  refine ⟨Φ,η,mx,x,s,ea,fun v H' F e3 r3 f3=>?_⟩
  cases x with
  | lst ts =>
   cases e1
   obtain ⟨a',vs,Fs,rfl,rfl,ha',ra⟩:=r3.lst_inv
   exact .inl ⟨a',rfl,⟨vs,SqL.of ha'⟩,k _ H' _ e3 (xn X.K ha' ra) f3.c⟩
  | tup ts =>
   cases e1
   obtain ⟨a',vs,Fs,rfl,rfl,ha',ra⟩:=r3.tup_inv
   exact .inr (.inl ⟨a',rfl,⟨vs,SqT.of ha'⟩,k _ H' _ e3 (yU X.K ha' ra) f3.c⟩)
  | str z =>
   cases e1
   obtain ⟨rfl,ok⟩:=r3.str_inv
   exact .inr (.inr ⟨_,rfl,k _ H' [] e3 (yz H' z ok) fun a h=>by simp at h⟩)
  | _=>cases e1
theorem pX {H:Hp}:∀ {vs:List V} {l:Ww} {Fs:Xq} {ss:X8},RpL G H vs l Fs->ka l=some ss->vs=ss.map V.int
 | _,_,_,_,.nil,e=>by cases e;rfl
 | _,_,_,_,.cons (t:=t) r q,e=>by
  cases t with
  | int s =>
   simp only [ka] at e
   obtain ⟨ss',e1,e2⟩:=Zw.mp e
   subst e2
   rw [pX q e1,r.int_inv]
   rfl
  | _=>cases e
theorem Al:eK G (fun xs H Q=>∃ p,∃ ns:X8,xs=[.ref p]/\SqL G.K H p (ns.map V.int)/\Q (.int ns.sum) H) uO:=by
 intro Φ η H0 H l vs Fs m t Q A e k
 unfold uO at e
 split at e
 ·rename_i mx x
  obtain ⟨is,e1,e2⟩:=Zz.mp e
  cases e2
  obtain ⟨v,F,rfl,rfl,rx⟩:=(show RpL G H vs [.lst x] Fs from A.rp).one
  obtain ⟨a,ys,Gs,rfl,rfl,ha,ra⟩:=rx.lst_inv
  exact ⟨a,is,rfl,by rw [← pX ra e1];exact SqL.of ha,bA k (.int _)⟩
 ·cases e
theorem Ac:bootBuiltins ("sum" : Str)=some (.builtin "sum"):=by decide +kernel
theorem sL:bootBuiltins ("tuple" : Str)=some (.type "tuple"):=by decide +kernel
theorem w_sum (hm:X.mg "sum" = none) (ha:PVs G X [e] cs) (hg:Gl X "sum" := by rfl) (hK:X.K=G.K:=by rfl) (hc:X.calm=true:=by rfl) (he:starEach [e] X.env=(false,eval e X.env) :: starEach [] X.env:=by rfl):PV G X (.Call (.Name "sum" p) [e] [] pos) (eN uO cs) :=
 gz (uc hc) (hK ▸ Al) hg hm Ac ha (he:=he) (hpl:=rfl)
theorem ue:eK G (fun xs H Q=>∃ p ys,xs=[.ref p]/\((SqL G.K H p ys/\∀ l,H l=none->Q (.ref l) (upd H l (.tup ys)))\/(SqT G.K H p ys/\Q (.ref p) H))) g9:=by
 intro Φ η H0 H l vs Fs m t Q A e k
 unfold g9 at e
 split at e
 ·rename_i mx x
  split at e
  ·rename_i hl
   cases e
   obtain ⟨v,F,rfl,rfl,rx⟩:=(show RpL G H vs [.lst x] Fs from A.rp).one
   obtain ⟨a,ys,Gs,rfl,rfl,ha,ra⟩:=rx.lst_inv
   have f:=(A.fp.each 0 _ _ rfl rfl).sub (Z2 _ _)
   refine ⟨a,ys,rfl,.inl ⟨SqL.of ha,fun q hq=>?_⟩⟩
   have sm:aP H (upd H q (.tup ys)):=dM hq
   have r:Rp G (upd H q (.tup ys)) (.ref q) (.tup x) Gs.flatten:=.tup aD (ra.same sm)
   exact k _ _ _ sm r (f.up r)
  ·cases e
 ·cases e
theorem vD (hm:X.mg "tuple" = none) (ha:PVs G X [e] cs) (hg:Gl X "tuple" := by rfl) (hK:X.K=G.K:=by rfl) (he:starEach [e] X.env=(false,eval e X.env) :: starEach [] X.env:=by rfl):PV G X (.Call (.Name "tuple" p) [e] [] pos) (eN g9 cs) :=
 jg lh (hK ▸ ue) hg hm sL ha (he:=he) (hpl:=rfl)
noncomputable def rGt:R2:=fun x y H Q=>rI0 (fun i j=>.bl (decide (j < i))) x y H Q\/(∃ i j,x=.str i/\y=.str j/\Q (.bl (decide (j.cps.toList < i.cps.toList))) H)
noncomputable def rGe:R2:=fun x y H Q=>rI0 (fun i j=>.bl (decide (j<=i))) x y H Q\/(∃ i j,x=.str i/\y=.str j/\Q (.bl (!decide (i.cps.toList < j.cps.toList))) H)
theorem vc (s t:Tx):decide ((sx s).cps.toList < (sx t).cps.toList)=ltx s t:=by rw [j9];exact decide_eq_decide.mpr (by simp [sx])
theorem A2:fB G rGt oGt:=by
 intro Φ η H0 H x y u w F1 F2 m t Q tw e k
 obtain ⟨m1,x⟩:=x
 obtain ⟨m2,y⟩:=y
 obtain ⟨same,r1,r2,f1,f2,nd⟩:=tw
 unfold oGt oLt at e
 split at e
 ·rename_i e1 e2
  cases e1
  cases e2
  cases e
  exact .inl ⟨_,_,r1.int_inv,r2.int_inv,bA k (.bl _)⟩
 ·rename_i s _ s' e1 e2
  cases e1
  cases e2
  cases e
  refine .inr ⟨_,_,r1.str_inv.1,r2.str_inv.1,?_⟩
  rw [vc]
  exact bA k (.bl _)
 ·cases e
theorem Be:fB G rGe oGe:=by
 intro Φ η H0 H x y u w F1 F2 m t Q tw e k
 obtain ⟨m1,x⟩:=x
 obtain ⟨m2,y⟩:=y
 obtain ⟨same,r1,r2,f1,f2,nd⟩:=tw
 unfold oGe oLe at e
 split at e
 ·rename_i e1 e2
  cases e1
  cases e2
  cases e
  exact .inl ⟨_,_,r1.int_inv,r2.int_inv,bA k (.bl _)⟩
 ·rename_i s _ s' e1 e2
  cases e1
  cases e2
  cases e
  refine .inr ⟨_,_,r1.str_inv.1,r2.str_inv.1,?_⟩
  rw [vc]
  exact bA k (.bl _)
 ·cases e
theorem tM:Tells oGt:=fun x y m t e=>kh y x m t e
theorem rZ:Tells oGe:=fun x y m t e=>sI y x m t e
theorem A0 (ha:PV G X a ca) (hb:PV G X b cb):PVT G X (.Compare a [.Gt] [b] pos) (e2 oGt ca cb):=fZ (r:=rGt) (B6.or qQ) A2 tM ha hb (jx _)
theorem BC (ha:PV G X a ca) (hb:PV G X b cb):PVT G X (.Compare a [.GtE] [b] pos) (e2 oGe ca cb):=fZ (r:=rGe) (Bu.or qS) Be rZ ha hb (jx _)
theorem u5 {r r':R2} {f g:Val->Val->Wx} (ok:fB G r f) (ok':fB G r' g) {σ:L2.St} {H:Hp} {Q:VK} (h:tE G (ij f g ca cb cc) σ H Q):uL r r' (tE G ca) (tE G cb) (tE G cc) σ H Q:=by
 obtain ⟨Φ,η,m,t,s,e,k⟩:=h
 unfold ij at e
 obtain ⟨x,ea,e⟩:=Zz.mp e
 obtain ⟨y,eb,e⟩:=Zz.mp e
 obtain ⟨⟨mz,z⟩,ez,e⟩:=Zz.mp e
 refine sT s ea eb fun u w H2 F1 F2 tw=>ok Φ η H H2 x y u w F1 F2 mz z _ tw ez fun v H3 F e1 r1 f1=>?_
 cases z with
 | bl q =>
  refine ⟨q,r1.bl_inv,?_⟩
  cases q with
  | false =>
   cases e
   rw [Zn Zh]
   exact k _ H3 [] (tw.same.trans e1) (.bl false) Fp.nil
  | true =>
   rw [Zq rfl]
   obtain ⟨z2,ec,e⟩:=Zz.mp (show (cc η).bind (fun z=>g y z)=some (m,t) from e)
   have sm:=tw.same.trans e1
   refine ⟨Φ,η,z2.1,z2.2,s.same sm,ec,fun w2 H4 F4 e4 r4 f4=>?_⟩
   refine ok' Φ η H H4 y z2 w w2 F2 F4 m t Q ⟨sm.trans e4,(tw.r2.same e1).same e4,r4,tw.f2,f4.back sm,fun hx hy=>?_⟩ e fun v' H5 F5 e5 r5 f5=>k v' H5 F5 ((sm.trans e4).trans e5) r5 f5
   have f2:=tw.f2
   rw [hx] at f2
   rw [hy] at f4
   refine ZV.mpr ⟨f2.1,f4.1,fun a ha b hb z=>?_⟩
   subst z
   exact Mut.ne_none ((tw.r2.same e1).dom a ha) (f4.2 a hb)
 | _=>cases e
theorem wC {x:Str} {i:Int} (h:∃ t,X.mg x=some (.int i t)) (hg:Gl X x:=by rfl) (hd:(x == ("__debug__" : Str))=false:=by decide):PV G X (.Name x pos) (eC (.int i)):=by
 obtain ⟨t,ht⟩:=h
 exact xC (v:=.int i) hg ht ⟨t,rfl⟩ (fun H=>.int i) hd
theorem iA:∀ (a b:Ww),cY (a++b)=(cY a && cY b)
 | [],b=>by simp
 | x :: a,b=>by simp [iA a b,Bool.and_assoc]
end
end VS
end
section
namespace L2
open PySem PySem.Spec PyProof.Rows
end L2
namespace VS
open PySem PySem.Spec PyProof.Rows L2
section
variable {G:Gx} {X:Cx} {a b c e tg:Expr} {es:List Expr} {ca cb cc:Ex} {cs:Exs} {pos p p1 p2 apos cpos:Pos} {k k':Nat}
theorem AK:PV G X (.Dict [] [] pos) (lq 0 []):=PE.weak vg fun σ H Q hq=>by
 obtain ⟨Φ,η,m,t,s,e,k⟩:=hq
 cases (show some (Md.fr,T.dct 0 [])=some (m,t) from e)
 intro q hq
 have:Rp G (upd H q (.dK [])) (.ref q) (.dct 0 ((([]:List Key).map aX).zip [])) (q :: ([]:Xq).flatten):=.dct aD rfl .nil
 exact k _ _ [q] (dM hq) this ⟨by simp,fun b hb=>by rw [Zj.mp hb];exact hq⟩
end
section
variable {G:Gx} {X:Cx} {a b c e tg:Expr} {es:List Expr} {ca cb cc ce:Ex} {cs:Exs} {pos p p1 p2 apos cpos pos':Pos} {k k':Nat}
theorem qB {body:List Stmt} {cb:Sx} (hp:PassesOwn (model X.prog X.w) X.A X.env X.xe) (hc:PVT G X c cc) (hb:dh G X body cb):PSV G X (.While c body [] pos) (jv cc cb) :=
 PS.weak (tR hp hc hb) fun D σ H hq=>by
  obtain ⟨Φ,η,o,s,e,k⟩:=hq
  refine ⟨fun n σ2 H2=>∃ Φ2 η2,SR G Φ2 η2 σ2 H2/\Frm Φ η H Φ2 η2 H2/\eP cc cb n η2=some o,⟨sA,Φ,η,s,Frm.refl Φ η H,e⟩,?_⟩
  rintro n σ2 H2 ⟨Φ2,η2,s2,f2,e2⟩
  cases n with
  | zero=>cases (show (none:Option Out)=some o from e2)
  | succ n =>
   rw [eP] at e2
   obtain ⟨⟨mx,x⟩,ex,e3⟩:=Zz.mp e2
   obtain ⟨t,et,e4⟩:=Zz.mp e3
   refine ⟨Φ2,η2,mx,x,t,s2,ex,et,fun H3 sm=>?_⟩
   have s3:=s2.same sm
   have f3:Frm Φ η H Φ2 η2 H3:=f2.trans (Frm.same sm)
   cases t with
   | false =>
    rw [Zn Zh] at e4
    cases e4
    show if false=true then _ else _
    rw [Zn Zh]
    exact k Φ2 σ2 H3 s3 f3
   | true =>
    rw [Zq rfl] at e4
    show if true=true then _ else _
    rw [Zq rfl]
    obtain ⟨o',e5,e6⟩:=Zz.mp e4
    refine ⟨fun σ4 H4=>∃ Φ4 η4,SR G Φ4 η4 σ4 H4/\Frm Φ η H Φ4 η4 H4/\eP cc cb n η4=some o,fun σ4 H4 q=>⟨n,Yp n,q⟩,Φ2,η2,o',s3,e5,?_⟩
    cases o' with
    | nx η4=>exact fun Φ4 σ4 H4 s5 fb=>⟨Φ4,η4,s5,f3.trans fb,e6⟩
    | ct η4=>exact fun Φ4 σ4 H4 s5 fb=>⟨Φ4,η4,s5,f3.trans fb,e6⟩
    | bk η4 =>
     cases (show some (Out.nx η4)=some o from e6)
     exact fun Φ4 σ4 H4 s5 fb=>k Φ4 σ4 H4 s5 (f3.trans fb)
    | rt v η4 =>
     cases (show some (Out.rt v η4)=some o from e6)
     exact fun u H4 F4 Φ4 σ4 s5 fb r5 q5=>k u H4 F4 Φ4 σ4 s5 (f3.trans fb) r5 (q5.back f3)
noncomputable def sNo:Sx:=fun _=>none
theorem AI {st:Stmt}:PSV G X st sNo:=fun pins s σ H D I ⟨_,_,_,_,e,_⟩=>nomatch (show (none:Option Out)=some _ from e)
theorem d7 {H:Hp} {v:V} {l:List (T×T)} {F:X4} (r:Rp G H v (.dct 0 l) F):∃ (a:Addr) (ks:List Key) (vs:List V) (ts:Ww) (Fs:Xq),v=.ref a/\F=a :: Fs.flatten/\H a=some (.dK (ks.zip vs))/\ks.length=vs.length/\l=(ks.map aX).zip ts/\RpL G H vs ts Fs:=by
 cases r with
 | dct h hl q=>exact ⟨_,_,_,_,_,rfl,rfl,h,hl,rfl,q⟩
theorem dN {H:Hp} {v:V} {t:T} {F:X4} (r:Rp G H v t F) (h:hU t=true):∃ k:Key,v=kV k/\t=aX k:=by
 cases t with
 | int i=>exact ⟨.inl i,r.int_inv,rfl⟩
 | str s=>exact ⟨.inr (sx s),r.str_inv.1,by simp [aX,sx]⟩
 | _=>cases h
theorem iM {H:Hp} {k:Key}:∀ {ks:List Key} {vs:List V} {ts:Ww} {Fs:Xq},ks.length=vs.length->RpL G H vs ts Fs →
  (ed ((ks.map aX).zip ts) (aX k)=none/\fA (ks.zip vs) k=none)\/∃ (i:Nat) (v:V) (t:T) (F:X4),ed ((ks.map aX).zip ts) (aX k)=some t/\fA (ks.zip vs) k=some v/\vs[i]?=some v/\Fs[i]?=some F/\Rp G H v t F
 | [],[],_,_,_,.nil=>.inl ⟨rfl,rfl⟩
 | k' :: ks,v :: vs,_,_,hl,.cons (t:=t) (F:=F) (ts:=ts) (Fs:=Fs) r q=>by
  have e:eqT (aX k') (aX k)=decide (k'=k):=by
   rw [Xi,decide_eq_true_eq]
   cases k with
   | inl i=>cases k' <;> simp [aX]
   | inr x =>
    obtain ⟨⟨x⟩⟩:=x
    cases k' with
    | inl j=>simp [aX]
    | inr y=>obtain ⟨⟨y⟩⟩:=y;simp [aX]
  by_cases hk:k'=k
  ·refine .inr ⟨0,v,t,F,?_,gw hk,rfl,rfl,r⟩
   have e':eqT (aX k') (aX k)=true:=by rw [e];exact decide_eq_true hk
   simp only [ed,Zp,Zd,Z4,e']
   rfl
  ·have h1:ed (((k' :: ks).map aX).zip (t :: ts)) (aX k)=ed ((ks.map aX).zip ts) (aX k):=by
    have e':eqT (aX k') (aX k)=false:=by rw [e];exact decide_eq_false hk
    simp only [ed,Zp,Zd,Z4,e']
   have h2:fA ((k' :: ks).zip (v :: vs)) k=fA (ks.zip vs) k:=by simp [fA,hk]
   rw [h1,h2]
   rcases iM (k:=k) (by simpa using hl) q with h | ⟨i,v',t',F',a1,a2,a3,a4,a5⟩
   ·exact .inl h
   ·exact .inr ⟨i+1,v',t',F',a1,a2,by simpa using a3,by simpa using a4,a5⟩
theorem mK (hu:X.A.units+1 < cLine):IxR X (fun x y H Q=>∃ a v,x=.ref a/\fM H a y (some v)/\Q v H):=by
 intro value slice pins s σ H x y v u Q I rx ry h hs
 obtain ⟨a,w,rfl,g,q⟩:=h
 cases rx
 have hT:=nO I g
 unfold subscriptTail
 refine Zr ?_
 rw [getitemInPython_of_ne hT.not_modules]
 refine Zr (wpAny_specialOf hT PySem.F.slot_dict_getitem.lookup ?_)
 have fin:wpAny (model X.prog X.w) X.A (subscripted slice false (.ref a) u) (fun r s₃=>wpAny (model X.prog X.w) X.A (letTemporaryGo value (.ref a) r >>= fun _=>pure r) (EP X pins σ Q) X.xe s₃) X.xe s:=by
  rw [hs]
  exact wpAny_operating (qz hu I g ry fun w' s3 I3 rw'=>Zr (wpAny_letTemporaryGo (Zb ⟨w,H,I3,rw',q⟩)))
 first
  | exact Zb (Zr fin)
  | exact Zr (Zb (Zr fin))
  | exact Zr fin
noncomputable def Bz (K:X0):R2:=fun x y H Q=>rIx K x y H Q\/∃ a v,x=.ref a/\fM H a y (some v)/\Q v H
theorem Bg:fB G (Bz G.K) oIx:=by
 intro Φ η H0 H x y u w F1 F2 m t Q tw e k
 obtain ⟨m1,x⟩:=x
 by_cases hd:∃ l,x=.dct 0 l
 ·obtain ⟨l,rfl⟩:=hd
  simp only [oIx] at e
  split at e
  ·rename_i hk
   obtain ⟨t',e1,e2⟩:=Zw.mp e
   obtain ⟨a,ks,vs,ts,Fs,rfl,rfl,ha,hl,rfl,q⟩:=d7 tw.r1
   obtain ⟨kk,rfl,ek⟩:=dN tw.r2 hk
   rw [ek] at e1
   rcases iM (k:=kk) hl q with ⟨h1,_⟩ | ⟨i,v,t2,F,a1,a2,a3,a4,a5⟩
   ·rw [h1] at e1;cases e1
   ·rw [a1] at e1
    cases e1
    cases e2
    refine .inr ⟨a,v,rfl,by rw [← a2];exact fM.k ha,?_⟩
    have f:=((tw.f1.sub (Z2 _ _)).sub (dq a4)).up a5
    exact k v H F (aP.refl _) a5 f
  ·cases e
 ·have e':aJ (m1,x) y=some (m,t):=by
   simp only [oIx] at e
   split at e
   ·rename_i l hx
    exact absurd ⟨_,rfl⟩ hd
   ·exact e
  exact .inl (vm Φ η H0 H (m1,x) y u w F1 F2 m t Q tw e' k)
theorem Cr (hr:Room k X.A) (ha:PV G X a ca) (hb:PV G X b cb) (hs:d5 b:=by intro _ _;rfl) (hK:X.K=G.K:=by rfl):PV G X (.Subscript a b pos) (e2 oIx ca cb) :=
 PE.weak (qo (IxR.or mL (mK (iy hr))) ha hb hs) fun σ H Q h=>by rw [hK];exact jb Bg h
noncomputable def fV:T->V
 | .bl b=>.bl b
 | .int i=>.int i
 | .str s=>.str (sx s)
 | _=>.non
theorem x9 {H:Hp} {v:V} {t:T} {F:X4} (r:Rp G H v t F) (h:flat t=true):v=fV t/\eU v=true:=by
 cases r with
 | non=>exact ⟨rfl,rfl⟩
 | bl b=>exact ⟨rfl,rfl⟩
 | int i=>exact ⟨rfl,rfl⟩
 | str s hl=>exact ⟨rfl,rfl⟩
 | _=>cases h
theorem AW:∀ {t u:T},flat t=true->flat u=true->eqV (fV t) (fV u)=eqT t u
 | .non,.non,_,_=>rfl
 | .non,.bl _,_,_=>rfl
 | .non,.int _,_,_=>rfl
 | .non,.str _,_,_=>rfl
 | .bl _,.non,_,_=>rfl
 | .bl _,.bl _,_,_=>rfl
 | .bl _,.int _,_,_=>rfl
 | .bl _,.str _,_,_=>rfl
 | .int _,.non,_,_=>rfl
 | .int _,.bl _,_,_=>rfl
 | .int _,.int _,_,_=>rfl
 | .int _,.str _,_,_=>rfl
 | .str _,.non,_,_=>rfl
 | .str _,.bl _,_,_=>rfl
 | .str _,.int _,_,_=>rfl
 | .str _,.str _,_,_=>tH
theorem sg {H:Hp} {v w:V} {t u:T} {F F':X4} (r:Rp G H v t F) (r':Rp G H w u F') (h1:flat t=true) (h2:flat u=true):eqV v w=eqT t u/\eU v=true/\eU w=true:=by
 obtain ⟨e1,f1⟩:=x9 r h1
 obtain ⟨e2,f2⟩:=x9 r' h2
 refine ⟨?_,f1,f2⟩
 rw [e1,e2]
 exact AW h1 h2
theorem mP {H:Hp} {x:V} {t:T} {F:X4} (r:Rp G H x t F) (hx:flat t=true):∀ {vs:List V} {ts:Ww} {Fs:Xq},RpL G H vs ts Fs->ts.all flat=true->vs.all eU=true/\inV x vs=ts.any fun y=>eqT y t
 | _,_,_,.nil,_=>⟨rfl,rfl⟩
 | _,_,_,.cons r' q,h=>by
  rw [Xr,Zc] at h
  obtain ⟨h1,h2⟩:=mP r hx q h.2
  obtain ⟨e1,e2,e3⟩:=sg r' r h.1 hx
  refine ⟨by rw [Xr,e2,h1];rfl,?_⟩
  unfold inV at h2 ⊢
  rw [Yj,Yj,h2,e1]
noncomputable def BL (K:X0):R2:=fun x y H Q=>rIn K false x y H Q\/∃ a o,y=.ref a/\fM H a x o/\Q (.bl o.isSome) H
noncomputable def pS (K:X0):R2:=fun x y H Q=>rIn K true x y H Q\/∃ a o,y=.ref a/\fM H a x o/\Q (.bl (!o.isSome)) H
theorem vw (hu:X.A.units+1 < cLine):OpR X (compareOp .In) (fun x y H Q=>∃ a o,y=.ref a/\fM H a x o/\Q (.bl o.isSome) H):=by
 intro pins s σ H x y v u Q I rx ry h
 obtain ⟨a,o,rfl,g,q⟩:=h
 cases ry
 exact Ct hu I g rx fun s3 I3=>⟨.bl o.isSome,H,I3,rfl,q⟩
theorem vd (hu:X.A.units+1 < cLine):OpR X (compareOp .NotIn) (fun x y H Q=>∃ a o,y=.ref a/\fM H a x o/\Q (.bl (!o.isSome)) H):=by
 intro pins s σ H x y v u Q I rx ry h
 obtain ⟨a,o,rfl,g,q⟩:=h
 cases ry
 exact xH hu I g rx fun s3 I3=>⟨.bl (!o.isSome),H,I3,rfl,q⟩
theorem oE {Φ:Fps} {η:VS.Env} {H0 H:Hp} {x y:Val} {u w:V} {F1 F2:X4} {m:Md} {t:T} (tw:Two G Φ η H0 H x y u w F1 F2) (e:jM x y=some (m,t)) :
  ∃ b,m=.fr/\t=.bl b/\((∃ p xs,w=.ref p/\(SqL G.K H p xs\/SqT G.K H p xs)/\eU u=true/\xs.all eU=true/\inV u xs=b)\/∃ a o,w=.ref a/\fM H a u o/\o.isSome=b):=by
 obtain ⟨m2,y⟩:=y
 simp only [jM] at e
 split at e
 ·split at e
  ·rename_i hk
   cases e
   obtain ⟨a,ks,vs,ts,Fs,rfl,rfl,ha,hl,rfl,q⟩:=d7 tw.r2
   obtain ⟨kk,rfl,ek⟩:=dN tw.r1 hk
   refine ⟨_,rfl,rfl,.inr ⟨a,fA (ks.zip vs) kk,rfl,fM.k ha,?_⟩⟩
   rw [ek]
   rcases iM (k:=kk) hl q with ⟨h1,h2⟩ | ⟨i,v,t2,F,a1,a2,_⟩
   ·rw [h1,h2];rfl
   ·rw [a1,a2];rfl
  ·cases e
 ·split at e
  ·rename_i hk
   cases e
   rw [Zc] at hk
   obtain ⟨a,vs,Fs,rfl,rfl,ha,ra⟩:=tw.r2.lst_inv
   obtain ⟨h1,h2⟩:=mP tw.r1 hk.1 ra hk.2
   have hf:eU u=true:=(sg tw.r1 tw.r1 hk.1 hk.1).2.1
   exact ⟨_,rfl,rfl,.inl ⟨a,vs,rfl,.inl (SqL.of ha),hf,h1,h2⟩⟩
  ·cases e
 ·split at e
  ·rename_i hk
   cases e
   rw [Zc] at hk
   obtain ⟨a,vs,Fs,rfl,rfl,ha,ra⟩:=tw.r2.tup_inv
   obtain ⟨h1,h2⟩:=mP tw.r1 hk.1 ra hk.2
   have hf:eU u=true:=(sg tw.r1 tw.r1 hk.1 hk.1).2.1
   exact ⟨_,rfl,rfl,.inl ⟨a,vs,rfl,.inr (SqT.of ha),hf,h1,h2⟩⟩
  ·cases e
 ·cases e
theorem Br:fB G (BL G.K) jM:=by
 intro Φ η H0 H x y u w F1 F2 m t Q tw e k
 obtain ⟨b,rfl,rfl,h⟩:=oE tw e
 rcases h with ⟨p,xs,rfl,hq,f1,f2,hb⟩ | ⟨a,o,rfl,g,hb⟩
 ·refine .inl ⟨p,xs,rfl,hq,f1,f2,?_⟩
  rw [hb]
  exact bA k (.bl b)
 ·refine .inr ⟨a,o,rfl,g,?_⟩
  rw [hb]
  exact bA k (.bl b)
theorem zD:fB G (pS G.K) dc:=by
 intro Φ η H0 H x y u w F1 F2 m t Q tw e k
 unfold dc at e
 split at e
 ·rename_i m' b' e'
  cases e
  obtain ⟨b,rfl,hb',h⟩:=oE tw e'
  cases hb'
  rcases h with ⟨p,xs,rfl,hq,f1,f2,hb⟩ | ⟨a,o,rfl,g,hb⟩
  ·refine .inl ⟨p,xs,rfl,hq,f1,f2,?_⟩
   rw [hb]
   exact bA k (.bl (!b'))
  ·refine .inr ⟨a,o,rfl,g,?_⟩
   rw [hb]
   exact bA k (.bl (!b'))
 ·cases e
theorem t8:Tells jM:=by
 intro x y m t e
 simp only [jM] at e
 split at e
 all_goals first | (split at e <;> first | (cases e;exact ⟨_,rfl⟩) | cases e) | cases e
theorem qH:Tells dc:=by
 intro x y m t e
 unfold dc at e
 split at e
 ·cases e;exact ⟨_,rfl⟩
 ·cases e
theorem Bc (hr:Room k X.A) (ha:PV G X a ca) (hb:PV G X b cb) (hm:behindInMarks .In b=false:=by with_unfolding_all rfl) (hK:X.K=G.K:=by rfl):PVT G X (.Compare a [.In] [b] pos) (e2 jM ca cb):=fZ (r:=BL X.K) (qJ.or (vw (iy hr))) (hK ▸ Br) t8 ha hb hm
theorem yL (hr:Room k X.A) (ha:PV G X a ca) (hb:PV G X b cb) (hm:behindInMarks .NotIn b=false:=by with_unfolding_all rfl) (hK:X.K=G.K:=by rfl):PVT G X (.Compare a [.NotIn] [b] pos) (e2 dc ca cb):=fZ (r:=pS X.K) (mE.or (vd (iy hr))) (hK ▸ zD) qH ha hb hm
end
end VS
end
section
open PySem PyProof.Rows
namespace TS
variable {prog:Program} {w:World} {A:Around} {E:Yt} {s:Shared}
variable {κ:SortKind} {G:Keyed->Prop} {r:Keyed->Keyed->Bool}
end TS
end
section
open PySem PyProof.Rows
namespace TS
variable {prog:Program} {w:World} {A:Around} {E:Yt} {s:Shared} {κ:SortKind} {G:Keyed->Prop} {r:Keyed->Keyed->Bool}
end TS
end
section
open PySem PyProof.Rows
namespace TS
variable {prog:Program} {w:World} {A:Around} {E:Yt} {s:Shared} {κ:SortKind} {G:Keyed->Prop} {r:Keyed->Keyed->Bool}
end TS
end
section
open PySem PyProof.Rows
namespace TS
variable {prog:Program} {w:World} {A:Around} {E:Yt} {s:Shared} {κ:SortKind} {G:Keyed->Prop} {r:Keyed->Keyed->Bool}
end TS
end
section
open PySem PyProof.Rows
namespace TS
variable {prog:Program} {w:World} {A:Around} {E:Yt} {s:Shared} {κ:SortKind} {G:Keyed->Prop} {r:Keyed->Keyed->Bool}
end TS
end
section
open PySem PyProof.Rows
namespace TS
variable {prog:Program} {w:World} {A:Around} {E:Yt} {s:Shared} {κ:SortKind} {G:Keyed->Prop} {r:Keyed->Keyed->Bool}
end TS
end
section
open PySem PyProof.Rows
namespace TS
variable {prog:Program} {w:World} {A:Around} {E:Yt} {s:Shared} {κ:SortKind} {G:Keyed->Prop} {r:Keyed->Keyed->Bool}
end TS
end
section
open PySem PyProof.Rows
namespace TS
variable {prog:Program} {w:World} {A:Around} {E:Yt} {s:Shared} {κ:SortKind} {G:Keyed->Prop} {r:Keyed->Keyed->Bool}
end TS
end
section
open PySem PyProof.Rows
namespace TS
variable {prog:Program} {w:World} {A:Around} {E:Yt} {s:Shared} {κ:SortKind} {G:Keyed->Prop} {r:Keyed->Keyed->Bool}
end TS
end
section
open PySem PyProof.Rows
namespace TS
variable {prog:Program} {w:World} {A:Around} {E:Yt} {s:Shared} {G:Keyed->Prop} {r:Keyed->Keyed->Bool}
theorem lR {vs:X5} {xs:Array Keyed} (hp:xs.Perm (pairsOf vs)):(xs.map (·.2)).toList.Perm vs/\(xs.map (·.2)).toList.map (fun v=>(v,v))=xs.toList:=by
 have hp':=Array.perm_iff_toList_perm.mp hp
 rw [pairsOf_toList] at hp'
 constructor
 ·rw [Array.toList_map]
  refine (hp'.map _).trans ?_
  rw [show (fun x:Keyed=>x.2)=Prod.snd from rfl,List.map_snd_zip (Zk _)]
 ·rw [Array.toList_map,Yx]
  conv=>rhs;rw [← List.map_id xs.toList]
  apply YG
  intro p hpm
  have:=mem_zip_self (hp'.mem_iff.mp hpm)
  exact Prod.ext this.1.symm rfl
end TS
end
section
namespace L2
open PySem PySem.Spec PyProof.Rows TS
section
variable {X:Cx}
theorem oF:∀ {us:X5},(∀ v∈us,∃ x t,v=Value.str x t)->aR ((us.map strOf).map V.str) us
 | [],_=>.nil
 | u :: us,h=>by
  obtain ⟨x,t,rfl⟩:=h u (Zx ..)
  exact .cons ⟨t,rfl⟩ (oF fun v hv=>h v (Zv _ hv))
end
end L2
end
section
namespace VS
mutual
theorem kM:∀ (n:Nat) (t:T),eqD n t=true->eqT t t=true
 | n,.non,_=>by simp
 | n,.bl _,_=>by simp
 | n,.int _,_=>by simp
 | n,.str _,_=>by simp
 | n+1,.tup l,h=>by
  simp only [eqD,Yw] at h
  simp only [eqT]
  exact jk n l h
 | n+1,.lst l,h=>by
  simp only [eqD,Yw] at h
  simp only [eqT]
  exact jk n l h
 | 0,.tup _,h=>by simp at h
 | 0,.lst _,h=>by simp at h
 | _,.scr _,h=>by simp at h
 | _,.dct _ _,h=>by simp at h
 | _,.obj _ _,h=>by simp at h
theorem jk:∀ (n:Nat) (l:Ww),(∀ t∈l,eqD n t=true)->oI l l=true
 | _,[],_=>rfl
 | n,t :: r,h=>by
  simp only [oI,Zc]
  exact ⟨kM n t (h t Zx),jk n r fun u hu=>h u (Zv _ hu)⟩
end
theorem AM {α:Type} (l:List α) (a b:Option Int):(cut l a b).length<=l.length:=by
 unfold cut
 simp only [YU,Yi]
 omega
theorem xT {α:Type} (l:List α) (a b:Option Int) {x:α} (h:x∈cut l a b):x∈l:=by
 unfold cut at h
 exact List.mem_of_mem_drop (List.mem_of_mem_take h)
theorem oO {α:Type} (l:List α) (k:Nat):cut l none (some (k:Int))=l.take k:=by
 have h:¬ ((k:Int) < 0):=by lia
 by_cases h2:k<=l.length
 ·simp [cut,clip,h,Y6 h2]
 ·rw [YS (by lia)]
  simp [cut,clip,h,XH (Y4 h2)]
theorem hR {tg:Tg} {it:Its} {body:Sx} {η:Env} {m:Md} {l:Ww} (e:it η=some (m,l)) (h:okF m=true):hZ tg it body η=forL tg body l η:=by
 unfold hZ
 rw [e]
 exact Zq h
theorem iU {g:Fn} {as:Exs} {η:Env} {xs:Wy} {t:T} (h:as η=some xs) (h2:g (trees xs)=some (.fr,t)):bD g as η=some (.fr,t):=by
 simp only [bD,h,Zu,h2]
theorem bV {i:Nat} {e:Ex} {η:Env} {m:Md} {t:T} (h:e η=some (m,t)) (hm:m ≠ .bo) (hi:i < η.length):aW i e η=some (.nx (η.set i (some (.pu t)))):=by
 simp only [aW,h,Zu]
 cases m with
 | bo=>exact absurd rfl hm
 | _=>simp [hi]
theorem sJ {m n:Md} {s t:Ww}:cH (m,.lst s) (n,.lst t)=mkL (m.join n) (s++t):=rfl
end VS
end
section
namespace VS
open PySem PySem.Spec PyProof.Rows L2
theorem Ci {a b c:Tx} (h:a < b) (h':¬ c < b):a < c:=by
 by_cases e:a < c
 ·exact e
 ·exact absurd (List.lt_of_le_of_lt (List.not_lt.mp e) h) h'
theorem ip (x:Tx):∀ l:List Tx,(kP x l).Perm (x :: l)
 | []=>List.Perm.refl _
 | y :: r=>by
  unfold kP
  split
  ·exact ((ip x r).cons y).trans (List.Perm.swap _ _ _)
  ·exact List.Perm.refl _
theorem gD:∀ l:List Tx,(d2 l).Perm l
 | []=>List.Perm.refl _
 | x :: l=>(ip x _).trans ((gD l).cons x)
theorem nZ (x:Tx):∀ {l:List Tx},l.Pairwise (fun a b=>¬ b < a)->(kP x l).Pairwise (fun a b=>¬ b < a)
 | [],_=>by simp [kP]
 | y :: r,h=>by
  unfold kP
  rw [j9]
  obtain ⟨h1,h2⟩:=XX.mp h
  split
  ·rename_i c
   have c':y < x:=by simpa using c
   refine XX.mpr ⟨fun z hz=>?_,nZ x h2⟩
   rcases Zi.mp ((ip x r).mem_iff.mp hz) with rfl | hz
   ·exact fun z=>List.lt_irrefl _ (List.lt_trans c' z)
   ·exact h1 z hz
  ·rename_i c
   have c':¬ y < x:=by simpa using c
   refine XX.mpr ⟨fun z hz=>?_,h⟩
   rcases Zi.mp hz with rfl | hz
   ·exact c'
   ·exact fun w=>h1 z hz (Ci w c')
theorem md:∀ l:List Tx,(d2 l).Pairwise (fun a b=>¬ b < a)
 | []=>List.Pairwise.nil
 | x :: l=>nZ x (md l)
theorem lU {l l':List Tx} (h:l'.Perm l) (hp:l'.Pairwise (fun a b=>¬ b < a)):l'=d2 l :=
 List.Perm.eq_of_pairwise (le:=fun a b=>¬ b < a) (fun a b _ _ h1 h2=>List.le_antisymm (List.not_lt.mp h1) (List.not_lt.mp h2)) hp (md l) (h.trans (gD l).symm)
theorem u6 (s:Tx):(sx s).cps.toList=s:=rfl
theorem rR {ss:List Tx} {ss':List Str} (h:ss'.Perm (ss.map sx)) (hp:ss'.Pairwise (fun a b=>¬ b.cps.toList < a.cps.toList)):ss'=(d2 ss).map sx:=by
 have e:ss'=(ss'.map fun x=>x.cps.toList).map sx:=by
  rw [Yx]
  conv=>lhs;rw [← List.map_id ss']
  apply YG
  intro x hx
  obtain ⟨s,_,rfl⟩:=Z9.mp (h.mem_iff.mp hx)
  show sx s=sx (sx s).cps.toList
  rw [u6]
 have e2:(ss'.map fun x=>x.cps.toList)=d2 ss:=by
  refine lU ?_ ?_
  ·have:=h.map fun x:Str=>x.cps.toList
   rw [Yx] at this
   have e3:((fun x:Str=>x.cps.toList) ∘ sx)=id:=by
    funext s
    exact u6 s
   rw [e3,List.map_id] at this
   exact this
  ·rw [XQ];exact hp
 rw [e,e2]
noncomputable def txB (s:Tx):Bool:=decide (s.length<=dS) && s.all (fun c=>decide (c < 1114112))
theorem yG {s:Tx} (h:txB s=true):lA s:=by
 unfold txB at h
 simp at h
 exact h
section
variable {G:Gx} {X:Cx} {e:Expr} {cs:Exs} {p pos:Pos}
theorem oN {H:Hp}:∀ {ss:List Tx},(∀ s∈ss,lA s)->RpL G H (ss.map fun s=>V.str (sx s)) (ss.map T.str) (ss.map fun _=>[])
 | [],_=>.nil
 | s :: ss,h=>.cons (.str s (h s (Zx ..))) (oN fun x hx=>h x (Zv _ hx))
theorem nu {α β:Type}:∀ (l:List α),(l.map fun _=>([]:List β)).flatten=[]
 | []=>rfl
 | _ :: l=>by simp
theorem tY {Φ:Fps} {η:VS.Env} {H0 H:Hp} {ss:List Tx} {Q:VK} (k:∀ v H' F,aP H H'->Rp G H' v (.lst ((d2 ss).map T.str)) F->Fp Φ η H0 .fr F->Q v H') (s0:aP H0 H) (tk:∀ s∈ss,lA s) :
  ∀ (l:Addr) (ss':List Str),H l=none->ss'.Perm (ss.map sx)->ss'.Pairwise (fun a b=>¬ b.cps.toList < a.cps.toList)->Q (.ref l) (upd H l (.lst (ss'.map V.str))):=fun q ss' hq hp hw=>by
 rw [rR hp hw]
 have sm:aP H (upd H q (.lst (((d2 ss).map sx).map V.str))):=dM hq
 have r0:=oN (G:=G) (H:=upd H q (.lst (((d2 ss).map sx).map V.str))) fun s hs=>tk s ((gD ss).mem_iff.mp hs)
 have r:Rp G (upd H q (.lst (((d2 ss).map sx).map V.str))) (.ref q) (.lst ((d2 ss).map T.str)) (q :: ((d2 ss).map fun _=>[]).flatten):=.lst (by rw [aD,Yx];rfl) r0
 rw [nu] at r
 exact k _ _ _ sm r (Fp.new (s0.free hq) (by simp) Fp.nil)
theorem keys_str:∀ {ks:List Key} {ss:List Tx},strs? (ks.map aX)=some ss->ks=(ss.map sx).map Sum.inr
 | [],_,e=>by cases e;rfl
 | .inl i :: ks,_,e=>by cases e
 | .inr x :: ks,ss,e=>by
  simp only [Zp,aX,strs?] at e
  obtain ⟨ss',e1,e2⟩:=Zw.mp e
  subst e2
  rw [keys_str e1]
  simp [sx]
theorem qD:bootBuiltins ("sorted" : Str)=some (.builtin "sorted"):=by decide +kernel
end
end VS
end
section
namespace VS
open PySem PySem.Builtin.Str PySem.StrLaws
end VS
end
section
namespace VS
open PySem PySem.Spec PyProof.Rows L2
end VS
end
section
namespace ST
open PySem PySem.Spec PyProof.Rows
variable {prog:Program} {w:World} {A:Around} {E:Yt} {s:Shared}
end ST
end
section
namespace ST
open PySem PySem.Spec PyProof.Rows
variable {prog:Program} {w:World} {A:Around} {E:Yt} {s:Shared}
theorem B5 {Q:PySem.Fin->Shared->Prop} {E':Yt} (hh:A.handled=none) (h:∀ (h':Heap) (x:Addr),(∀ b o,s.heap.get? b=some o->h'.get? b=some o)->(∃ o,h'.get? x=some o/\o.cls=.type "StopIteration")->E' (.ref x) { s with heap:=h' }) :
  wpAny (model prog w) A (newExc (.type "StopIteration") [] >>= fun e=>raiseNew e) Q E' s:=by
 simp only [newExc,newTuple]
 refine Zr (Zr (Xl (Zr (m:=firstArgMember _ _) (wpAny_of_eq (a:=Value.none) (by first | rfl | (simp only [firstArgMember];rfl)) (Xl ?_ (by size_fits)))) (by size_fits)))
 simp only [raiseNew]
 refine Zr (wpAny_handled ?_)
 rw [hh]
 exact Zr (Zb (wpAny_throw (h _ _ (fun b o e=>Zl _ (Zl _ e)) ⟨_,ZS _ rfl,rfl⟩)))
end ST
end
section
namespace ST
open PySem PySem.Spec PyProof.Rows
variable {prog:Program} {w:World} {A:Around} {E:Yt} {s:Shared}
end ST
end
section
namespace L2
open PySem PySem.Spec PyProof.Rows TS
end L2
namespace VS
open PySem PySem.Spec PyProof.Rows L2
inductive Pth (G:Gx) (H:Hp):List Ky->V->V->Prop
 | nil (v:V):Pth G H [] v v
 | fld {c k:Nat} {a dx:Addr} {fs:List (Str×V)} {u w:V} {ks:List Ky}:H a=some (.ins (G.ct (c+1)).1 dx fs)->fs.lookup ((G.ct (c+1)).2 k)=some u->Pth G H ks u w->Pth G H (.fld k :: ks) (.ref a) w
 | ix {a:Addr} {vs:List V} {i:Int} {j:Nat} {u w:V} {ks:List Ky}:H a=some (.lst vs)->ixP vs.length i=some j->vs[j]?=some u->Pth G H ks u w->Pth G H (.at (.int i) :: ks) (.ref a) w
 | key {a:Addr} {kvs:List (Key×V)} {k:Key} {u w:V} {ks:List Ky}:H a=some (.dK kvs)->fA kvs k=some u->Pth G H ks u w->Pth G H (.at (aX k) :: ks) (.ref a) w
section
variable {G:Gx}
theorem qj {Fs:Xq} {i j:Nat} {F F':X4} (nd:Fs.flatten.Nodup) (hi:Fs[i]?=some F) (hj:Fs[j]?=some F') (n:i ≠ j) {a:Addr} (ha:a∈F):a ∉ F':=by
 intro hb
 induction Fs generalizing i j with
 | nil=>simp at hi
 | cons G Gs ih =>
  rw [ZL,ZV] at nd
  cases i with
  | zero =>
   simp at hi;subst hi
   cases j with
   | zero=>exact n rfl
   | succ j=>exact nd.2.2 a ha a (dk (by simpa using hj) hb) rfl
  | succ i =>
   cases j with
   | zero =>
    simp at hj;subst hj
    exact nd.2.2 a hb a (dk (by simpa using hi) ha) rfl
   | succ j=>exact ih nd.2.1 (by simpa using hi) (by simpa using hj) (by lia)
theorem cI {Fs:Xq} {j:Nat} {F':X4} {a:Addr} (h:a∈(Fs.set j F').flatten):a∈F'\/∃ i F,i ≠ j/\Fs[i]?=some F/\a∈F:=by
 obtain ⟨i,F,h1,h2⟩:=eZ h
 by_cases e:i=j
 ·subst e
  rw [List.getElem?_set_self' ] at h1
  cases q:Fs[i]? with
  | none=>rw [q] at h1;cases h1
  | some _=>rw [q] at h1;cases h1;exact .inl h2
 ·rw [Yd (Ya e)] at h1
  exact .inr ⟨i,F,e,h1,h2⟩
theorem dE:∀ {Fs:Xq} {j:Nat} {F':X4},Fs.flatten.Nodup->F'.Nodup->(∀ i F,i ≠ j->Fs[i]?=some F->∀ a∈F,a ∉ F')->(Fs.set j F').flatten.Nodup
 | [],_,_,h,_,_=>by simpa using h
 | G :: Gs,0,F',h,h',d=>by
  rw [ZL,ZV] at h
  rw [List.set_cons_zero,ZL,ZV]
  refine ⟨h',h.2.1,fun a ha b hb e=>?_⟩
  subst e
  obtain ⟨i,F,h1,h2⟩:=eZ hb
  exact d (i+1) F (by lia) (by simpa using h1) a h2 ha
 | G :: Gs,j+1,F',h,h',d=>by
  rw [ZL,ZV] at h
  rw [List.set_cons_succ,ZL,ZV]
  refine ⟨h.1,dE h.2.1 h' fun i F n hi=>d (i+1) F (by lia) (by simpa using hi),fun a ha b hb e=>?_⟩
  subst e
  rcases cI hb with z | ⟨i,F,n,h1,h2⟩
  ·exact d 0 G (by lia) rfl a ha z
  ·exact h.2.2 a ha a (dk h1 h2) rfl
theorem RpL.each {H H2:Hp}:∀ {vs:List V} {ts:Ww} {Fs:Xq},RpL G H vs ts Fs->(∀ (i:Nat) v t F,vs[i]?=some v->ts[i]?=some t->Fs[i]?=some F->Rp G H v t F->Rp G H2 v t F)->RpL G H2 vs ts Fs
 | _,_,_,.nil,_=>.nil
 | _,_,_,.cons r q,k=>.cons (k 0 _ _ _ rfl rfl rfl r) (RpL.each q fun i v t F a b c d=>k (i+1) v t F (by simpa using a) (by simpa using b) (by simpa using c) d)
theorem RpL.setAt {H H2:Hp}:∀ {vs:List V} {ts:Ww} {Fs:Xq} {j:Nat} {u:V} {x':T} {F':X4},RpL G H vs ts Fs->vs[j]?=some u->Rp G H2 u x' F'->(∀ (i:Nat) v t F,i ≠ j->vs[i]?=some v->ts[i]?=some t->Fs[i]?=some F->Rp G H v t F->Rp G H2 v t F)->RpL G H2 vs (ts.set j x') (Fs.set j F')
 | _,_,_,_,_,_,_,.nil,h,_,_=>by simp at h
 | _,_,_,0,_,_,_,.cons r q,h,r',k=>by
  simp at h;subst h
  exact .cons r' (RpL.each q fun i v t F a b c d=>k (i+1) v t F (by lia) (by simpa using a) (by simpa using b) (by simpa using c) d)
 | _,_,_,j+1,_,_,_,.cons r q,h,r',k=>.cons (k 0 _ _ _ (by lia) rfl rfl rfl r) (RpL.setAt q (by simpa using h) r' fun i v t F n a b c d=>k (i+1) v t F (by lia) (by simpa using a) (by simpa using b) (by simpa using c) d)
theorem mS {H H2:Hp} {a:Addr} {o:HO} {vs:List V} {ts:Ww} {Fs:Xq} {j:Nat} {u:V} {x':T} {Fj Fj':X4} (ha:H a=some o) (ra:RpL G H vs ts Fs) (nd:(a :: Fs.flatten).Nodup) (hu:vs[j]?=some u) (hF:Fs[j]?=some Fj)
  (g:Chg G H u Fj x' H2 Fj'):H2 a=some o/\RpL G H2 vs (ts.set j x') (Fs.set j Fj')/\(a :: (Fs.set j Fj').flatten).Nodup/\(∀ b∈a :: (Fs.set j Fj').flatten,b∈a :: Fs.flatten\/H b=none)/\∀ b o,b ∉ a :: Fs.flatten->H b=some o->H2 b=some o:=by
 rw [Ze] at nd
 have subF:∀ b∈Fj,b∈Fs.flatten:=fun b hb=>dk hF hb
 have dis:∀ i F,i ≠ j->Fs[i]?=some F->∀ b∈F,b ∉ Fj':=fun i F n hi b hb hb'=>by
  rcases g.sub b hb' with z | z
  ·exact qj nd.2 hi hF n hb z
  ·exact Mut.ne_none (ra.dom b (dk hi hb)) z
 refine ⟨g.keep a o (fun z=>nd.1 (subF a z)) ha,ra.setAt hu g.rp (fun i v t F n h1 h2 h3 r=>r.keep g.kept fun b hb o' ho=>g.keep b o' (qj nd.2 h3 hF n hb) ho),?_,fun b hb=>?_,fun b o' hb ho=>g.keep b o' (fun z=>hb (Zv _ (subF b z))) ho⟩
 ·rw [Ze]
  refine ⟨fun h=>?_,dE nd.2 g.nd dis⟩
  rcases cI h with z | ⟨i,F,n,h1,h2⟩
  ·rcases g.sub a z with z | z
   ·exact nd.1 (subF a z)
   ·rw [ha] at z;cases z
  ·exact nd.1 (dk h1 h2)
 ·rcases Zi.mp hb with rfl | hb
  ·exact .inl Zx
  ·rcases cI hb with z | ⟨i,F,n,h1,h2⟩
   ·rcases g.sub b z with z | z
    ·exact .inl (Zv _ (subF b z))
    ·exact .inr z
   ·exact .inl (Zv _ (dk h1 h2))
theorem mO {α β:Type}:∀ (as:List α) (bs:List β) (i:Nat) (a:α) (y:β),as[i]?=some a->(as.zip bs).set i (a,y)=as.zip (bs.set i y)
 | [],_,_,_,_,h=>by simp at h
 | a :: as,[],i,_,_,_=>by cases i <;> simp
 | a :: as,b :: bs,0,_,y,h=>by simp at h;subst h;rfl
 | a :: as,b :: bs,i+1,_,y,h=>by
  have:=mO as bs i _ y (by simpa using h)
  simp [this]
theorem iD {α β:Type} (p:α->Bool):∀ {as:List α} {bs:List β} {i:Nat},as.length=bs.length->(as.zip bs).findIdx? (fun q=>p q.1)=some i->∃ a b,as[i]?=some a/\bs[i]?=some b/\p a=true/\(as.zip bs).find? (fun q=>p q.1)=some (a,b)
 | [],[],_,_,h=>by simp at h
 | a :: as,b :: bs,i,hl,h=>by
  rw [Zd,XW] at h
  by_cases hp:p a=true
  ·rw [Zq hp] at h
   cases h
   exact ⟨a,b,rfl,rfl,hp,by simp [hp]⟩
  ·rw [Zn hp] at h
   obtain ⟨j,hj,rfl⟩:=Zw.mp h
   obtain ⟨a',b',h1,h2,h3,h4⟩:=iD p (by simpa using hl) hj
   exact ⟨a',b',by simpa using h1,by simpa using h2,h3,by simp [hp,h4]⟩
theorem iz (k k':Key):eqT (aX k') (aX k)=true ↔ k'=k:=by
 cases k with
 | inl i=>cases k' <;> simp [aX]
 | inr x =>
  obtain ⟨⟨x⟩⟩:=x
  cases k' with
  | inl j=>simp [aX]
  | inr y=>obtain ⟨⟨y⟩⟩:=y;simp [aX]
theorem qi {k:Key} {u:V}:∀ {ns:List Key} {ts:Ww} {vs:List V} {i:Nat},ns.length=ts.length->ns.length=vs.length->((ns.map aX).zip ts).findIdx? (fun q=>eqT q.1 (aX k))=some i->vs[i]?=some u->fA (ns.zip vs) k=some u
 | [],_,_,_,_,_,h,_=>by simp at h
 | n :: ns,t :: ts,v :: vs,i,h1,h2,h,hu=>by
  rw [Zp,Zd,XW] at h
  by_cases hp:eqT (aX n) (aX k)=true
  ·rw [Zq hp] at h
   cases h
   simp at hu;subst hu
   exact gw ((iz k n).mp hp)
  ·rw [Zn hp] at h
   obtain ⟨j,hj,rfl⟩:=Zw.mp h
   have hn:n ≠ k:=fun z=>hp ((iz k n).mpr z)
   have:fA ((n :: ns).zip (v :: vs)) k=fA (ns.zip vs) k:=by simp [fA,hn]
   rw [this]
   exact qi (by simpa using h1) (by simpa using h2) hj (by simpa using hu)
 | _ :: _,[],_,_,h,_,_,_=>by simp at h
 | _ :: _,_ :: _,[],_,_,h,_,_=>by simp at h
theorem dF {H:Hp} {v:V} {c:Nat} {q0:Nat×T} {fs:List (Nat×T)} {F:X4} (r:Rp G H v (.obj c (q0 :: fs)) F):∃ (c':Nat) (a dx:Addr) (b:Bool) (ks:X7) (vs:List V) (ts:Ww) (Fs:Xq),c=c'+1/\v=.ref a/\q0=(0,.bl b)/\fs=ks.zip ts/\F=a :: Fs.flatten ∧
  H a=some (.ins (G.ct (c'+1)).1 dx ((ks.map (G.ct (c'+1)).2).zip vs))/\ks.length=vs.length/\(b=true->G.me=some a)/\RpL G H vs ts Fs:=by
 generalize hz:T.obj c (q0 :: fs)=z at r
 cases r with
 | ins h l m q =>
  cases hz
  exact ⟨_,_,_,_,_,_,_,_,rfl,rfl,rfl,rfl,rfl,h,l,m,q⟩
 | _=>cases hz
theorem oy {c k0:Nat} (inj:∀ c k k':Nat,(G.ct c).2 k=(G.ct c).2 k'->k=k') {ns:X7} {vs:List V} {ts:Ww} {u:V} {i:Nat} (hl:ns.length=vs.length) (h1:(ns.zip ts).findIdx? (fun q=>q.1 == k0)=some i) (g1:ns[i]?=some k0) (u1:vs[i]?=some u):((ns.map (G.ct c).2).zip vs).lookup ((G.ct c).2 k0)=some u:=by
 induction ns generalizing vs ts i with
 | nil=>simp at g1
 | cons a0 as ih =>
  cases vs with
  | nil=>simp at hl
  | cons b0 bs =>
   cases ts with
   | nil=>simp at h1
   | cons t0 ts =>
    rw [Zp,Zd,Z6]
    rw [Zd,XW] at h1
    by_cases q:(a0 == k0)=true
    ·rw [Zq q] at h1
     cases h1
     have:a0=k0:=by simpa using q
     subst this
     simp at u1
     simp [u1]
    ·rw [Zn q] at h1
     obtain ⟨j,hj,rfl⟩:=Zw.mp h1
     have:((G.ct c).2 k0 == (G.ct c).2 a0)=false:=by
      rw [beq_eq_false_iff_ne]
      intro z
      exact q (by simpa using (inj c _ _ z).symm)
     rw [this]
     exact ih (by simpa using hl) hj (by simpa using g1) (by simpa using u1)
theorem gQ {H:Hp} {α:Type} {f:T->Option (T×α)}:∀ (ks:List Ky) {v:V} {t t':T} {F:X4} {y:α},(∀ c k k':Nat,(G.ct c).2 k=(G.ct c).2 k'->k=k')->Rp G H v t F->F.Nodup->pm f ks t=some (t',y) →
  ∃ w x F1 x',Pth G H ks v w/\Rp G H w x F1/\F1.Nodup/\f x=some (x',y)/\∀ H2 F1',Chg G H w F1 x' H2 F1'->∃ F',Chg G H v F t' H2 F'
 | [],v,t,t',F,y,_,r,nd,e=>⟨v,t,F,t',.nil v,r,nd,e,fun H2 F1' g=>⟨F1',g⟩⟩
 | .fld k :: ks,v,t,t',F,y,inj,r,nd,e=>by
  cases t with
  | obj c fs0 =>
   cases fs0 with
   | nil=>cases e
   | cons q0 fs =>
   obtain ⟨i,h1,e⟩:=Zz.mp e
   obtain ⟨p,h2,e⟩:=Zz.mp e
   obtain ⟨⟨z,y'⟩,e1,e2⟩:=Zw.mp e
   cases e2
   obtain ⟨c',a,dx,b,ns,vs,ts,Fs,ec,rfl,rfl,rfl,rfl,ha,hl,hb,ra⟩:=dF r
   subst ec
   have lts:ns.length=ts.length:=hl.trans ra.len.1
   obtain ⟨k0,x0,g1,g2,g3,g4⟩:=iD (fun n=>n == k) lts h1
   have ek:k0=k:=by simpa using g3
   subst ek
   have ep:p=(k0,x0):=by
    have:(ns.zip ts)[i]?=some (k0,x0):=by rw [Yf];exact ⟨g1,g2⟩
    rw [this] at h2;exact (Zo h2).symm
   subst ep
   obtain ⟨u,Fi,u1,u2,u3⟩:=ra.get i g2
   obtain ⟨w,x,F1,x',w1,w2,w3,w4,w5⟩:=gQ ks inj u3 (((Ze.mp nd).2).sublist (dq u2)) e1
   refine ⟨w,x,F1,x',.fld (c:=c') ha (oy inj hl h1 g1 u1) w1,w2,w3,w4,fun H2 F1' g=>?_⟩
   obtain ⟨Fi',gi⟩:=w5 H2 F1' g
   obtain ⟨s1,s2,s3,s4,s5⟩:=mS ha ra nd u1 u2 gi
   refine ⟨_,gi.kept,s5,gi.dom,?_,s3,s4⟩
   rw [mO ns ts i k0 z g1]
   exact .ins s1 hl hb s2
  | _=>cases e
 | .at k :: ks,v,t,t',F,y,inj,r,nd,e=>by
  cases t with
  | lst l =>
   cases k with
   | int i =>
    obtain ⟨j,h1,e⟩:=Zz.mp e
    obtain ⟨x0,h2,e⟩:=Zz.mp e
    obtain ⟨⟨z,y'⟩,e1,e2⟩:=Zw.mp e
    cases e2
    obtain ⟨a,vs,Fs,rfl,rfl,ha,ra⟩:=r.lst_inv
    obtain ⟨u,Fi,u1,u2,u3⟩:=ra.get j h2
    obtain ⟨w,x,F1,x',w1,w2,w3,w4,w5⟩:=gQ ks inj u3 (((Ze.mp nd).2).sublist (dq u2)) e1
    refine ⟨w,x,F1,x',.ix ha (by rw [ra.len.1];exact h1) u1 w1,w2,w3,w4,fun H2 F1' g=>?_⟩
    obtain ⟨Fi',gi⟩:=w5 H2 F1' g
    obtain ⟨s1,s2,s3,s4,s5⟩:=mS ha ra nd u1 u2 gi
    exact ⟨_,gi.kept,s5,gi.dom,.lst s1 s2,s3,s4⟩
   | _=>cases e
  | dct kd l =>
   cases kd with
   | zero =>
    have hk:hU k=true/\((l.findIdx? fun p=>eqT p.1 k).bind fun i=>(l[i]?).bind fun p=>(pm f ks p.2).map fun z=>(T.dct 0 (l.set i (p.1,z.1)),z.2))=some (t',y):=by
     cases k with
     | int i=>exact ⟨rfl,e⟩
     | str s=>exact ⟨rfl,e⟩
     | _=>cases e
    obtain ⟨hk,e⟩:=hk
    obtain ⟨i,h1,e⟩:=Zz.mp e
    obtain ⟨p,h2,e⟩:=Zz.mp e
    obtain ⟨⟨z,y'⟩,e1,e2⟩:=Zw.mp e
    cases e2
    obtain ⟨a,ns,vs,ts,Fs,rfl,rfl,ha,hl,rfl,ra⟩:=d7 r
    have lts:(ns.map aX).length=ts.length:=by rw [Zy];exact hl.trans ra.len.1
    obtain ⟨k0,x0,g1,g2,g3,g4⟩:=iD (fun n=>eqT n k) lts h1
    have ep:p=(k0,x0):=by
     have:((ns.map aX).zip ts)[i]?=some (k0,x0):=by rw [Yf];exact ⟨g1,g2⟩
     rw [this] at h2;exact (Zo h2).symm
    subst ep
    obtain ⟨kk,ekk⟩:∃ kk:Key,k=aX kk:=by
     cases k with
     | int i=>exact ⟨.inl i,rfl⟩
     | str s=>exact ⟨.inr (sx s),by simp [aX,sx]⟩
     | _=>cases hk
    subst ekk
    obtain ⟨u,Fi,u1,u2,u3⟩:=ra.get i g2
    obtain ⟨w,x,F1,x',w1,w2,w3,w4,w5⟩:=gQ ks inj u3 (((Ze.mp nd).2).sublist (dq u2)) e1
    refine ⟨w,x,F1,x',.key ha ?_ w1,w2,w3,w4,fun H2 F1' g=>?_⟩
    ·exact qi (by simpa using lts) hl h1 u1
    ·obtain ⟨Fi',gi⟩:=w5 H2 F1' g
     obtain ⟨s1,s2,s3,s4,s5⟩:=mS ha ra nd u1 u2 gi
     refine ⟨_,gi.kept,s5,gi.dom,?_,s3,s4⟩
     rw [mO (ns.map aX) ts i k0 z g1]
     exact .dct s1 hl s2
   | succ kd=>cases k <;> cases e
  | _=>cases k <;> cases e
end
section
variable {G:Gx}
theorem Pth.same {H H':Hp} (e:aP H H') {ks:List Ky} {v w:V} (p:Pth G H ks v w):Pth G H' ks v w:=by
 induction p with
 | nil v=>exact .nil v
 | fld h l _ ih=>exact .fld (e _ _ h) l ih
 | ix h l m _ ih=>exact .ix (e _ _ h) l m ih
 | key h l _ ih=>exact .key (e _ _ h) l ih
theorem Pth.split {H:Hp} {k:Ky} {w:V}:∀ {ks:List Ky} {v:V},Pth G H (ks++[k]) v w->∃ u,Pth G H ks v u/\Pth G H [k] u w
 | [],v,p=>⟨v,.nil v,p⟩
 | _ :: ks,_,.fld h l p=>let ⟨u,a,b⟩:=Pth.split (ks:=ks) p;⟨u,.fld h l a,b⟩
 | _ :: ks,_,.ix h l m p=>let ⟨u,a,b⟩:=Pth.split (ks:=ks) p;⟨u,.ix h l m a,b⟩
 | _ :: ks,_,.key h l p=>let ⟨u,a,b⟩:=Pth.split (ks:=ks) p;⟨u,.key h l a,b⟩
theorem g7 {η:VS.Env} {s:Stp}:∀ {way:List Stp} {ks:List Ky},keys (way++[s]) η=some ks->∃ ks0 k,keys way η=some ks0/\keys [s] η=some [k]/\ks=ks0++[k]
 | [],ks,e=>by
  cases s with
  | fld k=>cases e;exact ⟨[],.fld k,rfl,rfl,rfl⟩
  | ix c =>
   obtain ⟨x,h1,h2⟩:=Zz.mp (show (c η).bind (fun x=>(keys [] η).map (Ky.at x.2 :: ·))=some ks from e)
   cases h2
   exact ⟨[],.at x.2,rfl,by simp [keys,h1],rfl⟩
 | .fld k :: way,ks,e=>by
  obtain ⟨ks1,h1,h2⟩:=Zw.mp (show (keys (way++[s]) η).map (Ky.fld k :: ·)=some ks from e)
  obtain ⟨ks0,k',a,b,c⟩:=g7 h1
  exact ⟨.fld k :: ks0,k',by simp [keys,a],b,by rw [← h2,c];rfl⟩
 | .ix c :: way,ks,e=>by
  obtain ⟨x,h0,h⟩:=Zz.mp (show (c η).bind (fun x=>(keys (way++[s]) η).map (Ky.at x.2 :: ·))=some ks from e)
  obtain ⟨ks1,h1,h2⟩:=Zw.mp h
  obtain ⟨ks0,k',a,b,d⟩:=g7 h1
  exact ⟨.at x.2 :: ks0,k',by simp [keys,h0,a],b,by rw [← h2,d];rfl⟩
noncomputable def tPl (G:Gx) (i:Nat) (way:List Stp):TE:=fun σ H Q=>∃ Φ η t ks v w,SR G Φ η σ H/\η[i]?=some (some (.ow t))/\σ[i]?=some (some v)/\keys way η=some ks/\Pth G H ks v w/\∀ H',aP H H'->Q w H'
noncomputable def PPl (G:Gx) (X:Cx) (e:Expr) (i:Nat) (way:List Stp):Prop:=PE X e (tPl G i way)
theorem PE.weakP {X:Cx} {e:Expr} {t:TE} {i:Nat} {way:List Stp} (h:PE X e t) (w:∀ σ H Q,tPl G i way σ H Q->t σ H Q):PPl G X e i way:=fun pins s σ H Q I q=>h pins s σ H Q I (w σ H Q q)
variable {X:Cx} {e:Expr} {es:List Expr} {i:Nat} {way:List Stp} {pos pos' p1 apos cpos:Pos} {c:Ex} {cs:Exs} {b:Expr} {k:Nat}
theorem wJ (i:Nat) {x:Str} (hN:X.N[i]?=some x) (hv:Vis X.env.scope x) (hd:(x == ("__debug__" : Str))=false) (hcd:(x == ("__classdict__" : Str))=false):PPl G X (.Name x pos) i [] :=
 PE.weakP (gm hN hv hd hcd) fun σ H Q hq=>by
  obtain ⟨Φ,η,t,ks,v,w,s,h1,h2,h3,h4,h5⟩:=hq
  cases (show some ([]:List Ky)=some ks from h3)
  cases h4
  exact ⟨v,h2,h5 H (aP.refl _)⟩
structure FldOk (G:Gx) (K:X0) (k:Nat) (f:Str):Prop where
 nm:∀ c,(G.ct (c+1)).2 k=f
 cl:∀ c,Cls K (G.ct (c+1)).1
 no:∀ c,bY K (G.ct (c+1)).1 f
theorem yI (k:Nat) {f:Str} (F:FldOk G X.K k f) (h:PPl G X e i way) (hb:attributeBase e f X.env (eval e X.env)=eval e X.env):PPl G X (.Attribute e f pos) i (way++[.fld k]) :=
 PE.weakP (vk h hb) fun σ H Q hq=>by
  obtain ⟨Φ,η,t,ks,v,w,s,h1,h2,h3,h4,h5⟩:=hq
  obtain ⟨ks0,k',a,b,rfl⟩:=g7 h3
  cases (show some [Ky.fld k]=some [k'] from b)
  obtain ⟨u,p1,p2⟩:=h4.split
  refine ⟨Φ,η,t,ks0,v,u,s,h1,h2,a,p1,fun H' sm=>?_⟩
  cases p2 with
  | @fld c _ a dx fs u' _ _ ha hl q =>
   cases q
   rw [F.nm c] at hl
   exact ⟨a,_,dx,fs,w,rfl,sm a _ ha,F.cl c,F.no c,hl,h5 H' sm⟩
theorem A5 {kr:Nat} (hr:Room kr X.A) (h:PPl G X e i way) (hb:PV G X b c) (hs:d5 b) (hK:X.K=G.K):PPl G X (.Subscript e b pos) i (way++[.ix c]) :=
 PE.weakP (qo (IxR.or mL (mK (iy hr))) h hb hs) fun σ H Q hq=>by
  obtain ⟨Φ,η,t,ks,v,w,s,h1,h2,h3,h4,h5⟩:=hq
  obtain ⟨ks0,k',a,b',rfl⟩:=g7 h3
  obtain ⟨⟨mx,x⟩,ec,e2⟩:=Zz.mp (show (c η).bind (fun x=>(keys [] η).map (Ky.at x.2 :: ·))=some [k'] from b')
  cases e2
  obtain ⟨u,p1,p2⟩:=h4.split
  refine ⟨Φ,η,t,ks0,v,u,s,h1,h2,a,p1,fun H1 sm=>⟨Φ,η,mx,x,s.same sm,ec,fun y H2 F2 sm2 r2 f2=>?_⟩⟩
  have p3:=(p2.same sm).same sm2
  have q:=h5 H2 (sm.trans sm2)
  cases p3 with
  | @ix a vs i0 j u' _ _ ha hl hu q' =>
   cases q'
   refine .inl (.inl ⟨a,vs,i0,w,rfl,r2.int_inv,SqL.of ha,j3 hl hu,q⟩)
  | @key a kvs kk u' _ _ ha hl q' =>
   cases q'
   refine .inr ⟨a,w,rfl,?_,q⟩
   have hy:y=kV kk:=by
    cases kk with
    | inl n=>exact r2.int_inv
    | inr z =>
     have:=r2.str_inv.1
     rw [this]
     simp [kV,sx]
   rw [hy,← hl]
   exact fM.k ha
@[simp] noncomputable def fQ (i:Nat) (way:List Stp) (f:T->Wy->Option (T×Val)) (as:Exs) (η:VS.Env):Option (Val×VS.Env):=match η[i]? with
 | some (some (.ow t))=>(keys way η).bind fun ks=>(as η).bind fun xs=>(pm (fun x=>f x xs) ks t).map fun z=>(z.2,η.set i (some (.ow z.1)))
 | _=>none
noncomputable def eO (G:Gx):Prop:=∀ c k k':Nat,(G.ct c).2 k=(G.ct c).2 k'->k=k'
theorem vi {T' id:String} {name:Str} {o:Expr} {r:V->List V->Hp->VK->Prop} {f:T->Wy->Option (T×Val)} (J:eO G) (pa:PlainAttrs T') (slot:Slot T' name id) (hty:typeOf (.builtin id)=pure (.type "method_descriptor")) (hm:MtR X id r) (ok:qd G r f)
  (hT:∀ H v t F l z,Rp G H v t F->f t l=some z->tyV G.K T' v H) (ho:PPl G X o i way) (ha:PVs G X (e :: es) cs) (hK:X.K=G.K)
  (hbase:attributeBase o name X.env (eval o X.env)=eval o X.env)
  (hfew:((backTo cpos (starEach (e :: es) X.env)).all (fun x=>!x.1) && (backToKw cpos (keywordEach [] X.env)).all (fun x=>x.1.isSome)
   && decide ((e :: es).length+([]:List Keyword).length+(if ([]:List Keyword).isEmpty then 0 else 1) < 30))=true)
  (hline:(apos.endLine == cpos.line)=true) (hs:starEach (e :: es) X.env=(false,eval e X.env) :: starEach es X.env) (hplain:(backTo cpos (starEach es X.env)).any (·.1)=false)
  (hsw:swapsWith (.Call (.Attribute o name apos) (e :: es) [] cpos) none pos.line X.env=pure false) :
  PSV G X (.Expr (.Call (.Attribute o name apos) (e :: es) [] cpos) pos) (sX (fQ i way f cs)) :=
 PS.weak (iT (qq pa slot hty hm ho ha hbase hfew hline hs hplain) hsw) fun D σ H hq=>by
  obtain ⟨Φ,η,out,s,e,k⟩:=hq
  refine L2.iW fun P_ k_=>?_
  unfold sX fQ at e
  obtain ⟨⟨x',η'⟩,e1,e2⟩:=Zw.mp e
  split at e1
  ·rename_i t ht
   obtain ⟨ks,ek,e3⟩:=Zz.mp e1
   obtain ⟨l,el,e4⟩:=Zz.mp e3
   obtain ⟨⟨t',x2⟩,e5,e6⟩:=Zw.mp e4
   cases e6
   cases e2
   obtain ⟨v,h1,h2⟩:=s.rp _ _ ht
   obtain ⟨w,x,F1,x3,w1,w2,w3,w4,w5⟩:=gQ ks J h2 (s.nd i t ht) e5
   refine k_ ?_
   refine ⟨Φ,η,t,ks,v,w,s,ht,h1,ek,w1,fun H0 sm0=>⟨by rw [hK];exact hT H0 w x _ l _ (w2.same sm0) w4,Φ,η,l,s.same sm0,el,fun vs H' Fs q1 q2 q3=>?_⟩⟩
   refine ok Φ η H H' w x x3 F1 l vs Fs x2 _ w2 w3 ⟨sm0.trans q1,q2,⟨fun n v' F' a1 a2=>(q3.each n v' F' a1 a2).back sm0,q3.nd⟩⟩ w4 fun u H2 F' g=>?_
   obtain ⟨F2,g2⟩:=w5 H2 F' g
   obtain ⟨z1,z2⟩:=s.mut ht h1 g2
   exact k _ σ H2 z1 z2
  ·cases e1
end
section
variable {G:Gx} {X:Cx} {e o:Expr} {es:List Expr} {i:Nat} {way:List Stp} {pos pos' p1 apos cpos:Pos} {c:Ex} {cs:Exs} {b:Expr} {k:Nat} {ce ck:Ex}
noncomputable def ic (k v:Val):T->Option (T×Unit)
 | .lst l=>match k.2 with
  | .int n=>(fit v).bind fun t=>(ixP l.length n).map fun j=>(.lst (l.set j t),())
  | _=>none
 | .dct 0 l=>if hU k.2/\imm v.2/\l.length < dS then some (.dct 0 (dput l k.2 v.2),()) else none
 | _=>none
noncomputable def dH (i:Nat) (way:List Stp) (k e:Ex) (η:VS.Env):Option Out:=(e η).bind fun v=>match η[i]? with
 | some (some (.ow t))=>(keys way η).bind fun ks=>(k η).bind fun kv=>(pm (ic kv v) ks t).map fun z=>.nx (η.set i (some (.ow z.1)))
 | _=>none
theorem RpL.putAt {H:Hp}:∀ {vs:List V} {ts:Ww} {Fs:Xq} (j:Nat) {u:V} {x:T} {F:X4},RpL G H vs ts Fs->Rp G H u x F->RpL G H (vs.set j u) (ts.set j x) (Fs.set j F)
 | _,_,_,_,_,_,_,.nil,_=>.nil
 | _,_,_,0,_,_,_,.cons r q,r'=>.cons r' q
 | _,_,_,j+1,_,_,_,.cons r q,r'=>.cons r (RpL.putAt j q r')
theorem pQ {H:Hp} {kk:Key} {xv:V} {t:T} (rv:Rp G H xv t []):∀ {ks:List Key} {vs:List V} {ts:Ww} {Fs:Xq},ks.length=vs.length->RpL G H vs ts Fs →
  ∃ vs' ts' Fs',(ks.zip vs).map (fun kv=>if kv.1=kk then (kv.1,xv) else kv)=ks.zip vs'/\ks.length=vs'.length/\((ks.map aX).zip ts).map (fun p=>if eqT p.1 (aX kk) then (p.1,t) else p)=(ks.map aX).zip ts'/\RpL G H vs' ts' Fs'/\Fs'.flatten.Sublist Fs.flatten
 | [],[],_,_,_,.nil=>⟨[],[],[],rfl,rfl,rfl,.nil,YA _⟩
 | k :: ks,v :: vs,_,_,hl,.cons (t:=t0) (F:=F) (ts:=ts) (Fs:=Fs) r q=>by
  obtain ⟨vs',ts',Fs',h1,h2,h3,h4,h5⟩:=pQ rv (by simpa using hl) q
  by_cases hk:k=kk
  ·have e:eqT (aX k) (aX kk)=true:=(iz kk k).mpr hk
   refine ⟨xv :: vs',t :: ts',[] :: Fs',?_,by simp [h2],?_,.cons rv h4,?_⟩
   ·rw [Zd,Zp,h1,Zd];simp [hk]
   ·rw [Zp,Zd,Zp,h3,Zd];simp [e]
   ·rw [ZL,ZL]
    exact h5.trans (Yg _ _)
  ·have e:¬ eqT (aX k) (aX kk)=true:=fun z=>hk ((iz kk k).mp z)
   refine ⟨v :: vs',t0 :: ts',F :: Fs',?_,by simp [h2],?_,.cons r h4,?_⟩
   ·rw [Zd,Zp,h1,Zd];simp [hk]
   ·rw [Zp,Zd,Zp,h3,Zd];simp [e]
   ·rw [ZL,ZL]
    exact List.Sublist.append (YA _) h5
theorem nW {kk:Key}:∀ {ks:List Key} {vs:List V} {ts:Ww},ks.length=vs.length->ks.length=ts.length->((ks.zip vs).any fun kv=>decide (kv.1=kk))=(((ks.map aX).zip ts).any fun p=>eqT p.1 (aX kk))
 | [],_,_,_,_=>by simp
 | k :: ks,v :: vs,t :: ts,h1,h2=>by
  rw [Zp,Zd,Zd,Yj,Yj,nW (by simpa using h1) (by simpa using h2)]
  have:decide (k=kk)=eqT (aX k) (aX kk):=by rw [Xi,decide_eq_true_eq];exact (iz kk k).symm
  rw [this]
 | _ :: _,[],_,h,_=>by simp at h
 | _ :: _,_ :: _,[],_,h=>by simp at h
theorem oU {H:Hp} {kk:Key} {xv:V} {t:T} (rv:Rp G H xv t []) {ks:List Key} {vs:List V} {ts:Ww} {Fs:Xq} (hl:ks.length=vs.length) (ra:RpL G H vs ts Fs) :
  ∃ (ks':List Key) (vs':List V) (ts':Ww) (Fs':Xq),putK (ks.zip vs) kk xv=ks'.zip vs'/\ks'.length=vs'.length/\dput ((ks.map aX).zip ts) (aX kk) t=(ks'.map aX).zip ts'/\RpL G H vs' ts' Fs'/\Fs'.flatten.Sublist Fs.flatten:=by
 have an:=nW (kk:=kk) hl (hl.trans ra.len.1)
 unfold putK dput
 rw [an]
 by_cases h:(((ks.map aX).zip ts).any fun p=>eqT p.1 (aX kk))=true
 ·rw [Zq h,Zq h]
  obtain ⟨vs',ts',Fs',h1,h2,h3,h4,h5⟩:=pQ (kk:=kk) rv hl ra
  exact ⟨ks,vs',ts',Fs',h1,h2,h3,h4,h5⟩
 ·rw [Zn h,Zn h]
  refine ⟨ks++[kk],vs++[xv],ts++[t],Fs++[[]],?_,by simp [hl],?_,ra.append (.cons rv .nil),by simp⟩
  ·rw [List.zip_append hl];rfl
  ·rw [ZD,List.zip_append (by rw [Zy];exact hl.trans ra.len.1)];rfl
noncomputable def x5:xw:=fun o i v H Q=>yi o i v H Q\/∃ a H4,o=.ref a/\oR H a i v H4/\Q H4
theorem ua (hu:X.A.units+1 < cLine):yQ X x5:=by
 intro pins s σ H o i v ov iv u Q I ro ri rv h
 rcases h with h | ⟨a,H4,rfl,g,q⟩
 ·exact set_list pins s σ H o i v ov iv u Q I ro ri rv h
 ·cases ro
  exact qG hu I g ri rv fun s4 I4=>⟨H4,I4,q⟩
theorem sy {kr:Nat} (J:eO G) (hr:Room kr X.A) (ho:PPl G X o i way) (hk:PV G X b ck) (he:PV G X e ce)
  (ha:∀ v,assign (.Subscript o b pos') X.env v=(do
   let ov ← holding [v] (eval o X.env)
   let iv ← holding [v,ov] (eval b X.env)
   standAt pos'
   holding [v,ov,iv] (setItem ov iv v)
   release [v,ov,iv] [])) (hs:swapsWithSole [.Subscript o b pos'] e pos.line X.env=pure false) (hw:swappedStores [.Subscript o b pos'] e X.env=pure none)
  (h1:(assignEach [.Subscript o b pos'] X.env).map (·.2)=[assign (.Subscript o b pos') X.env]):PSV G X (.Assign [.Subscript o b pos'] e pos) (dH i way ck ce) :=
 PS.weak (oV he (pE ho hk (ua (iy hr)) ha) hs hw h1) fun D σ H hq=>by
  obtain ⟨Φ,η,out,s,e,k⟩:=hq
  refine L2.iW fun P_ k_=>?_
  unfold dH at e
  obtain ⟨⟨mv,tv⟩,ev,e⟩:=Zz.mp e
  split at e
  ·rename_i t ht
   obtain ⟨ks,ek,e⟩:=Zz.mp e
   obtain ⟨⟨mk,tk⟩,ekk,e⟩:=Zz.mp e
   obtain ⟨⟨t',y'⟩,e5,e6⟩:=Zw.mp e
   cases e6
   obtain ⟨v,g1,g2⟩:=s.rp _ _ ht
   obtain ⟨w,x,F1,x3,w1,w2,w3,w4,w5⟩:=gQ ks J g2 (s.nd i t ht) e5
   refine k_ ?_
   refine ⟨Φ,η,mv,tv,s,ev,fun xv H1 Fv sm1 rv fv=>?_⟩
   refine ⟨Φ,η,t,ks,v,w,s.same sm1,ht,g1,ek,w1.same sm1,fun H2 sm2=>⟨Φ,η,mk,tk,(s.same sm1).same sm2,ekk,fun kv H3 Fk sm3 rk fk=>?_⟩⟩
   have sm:aP H H3:=(sm1.trans sm2).trans sm3
   have rv3:Rp G H3 xv tv Fv:=(rv.same sm2).same sm3
   have fin:∀ H4 F',Chg G H w F1 x3 H4 F'->D.nx σ H4:=fun H4 F' g=>by
    obtain ⟨F2,g2'⟩:=w5 H4 F' g
    obtain ⟨z1,z2⟩:=s.mut ht g1 g2'
    exact k _ σ H4 z1 z2
   refine L2.iW fun P_ k_=>?_
   cases x with
   | lst l =>
    cases tk with
    | int n =>
     obtain ⟨tt,et,e7⟩:=Zz.mp (show ((fit (mv,tv)).bind fun t=>(ixP l.length n).map fun j=>(T.lst (l.set j t),()))=some (x3,y') from w4)
     obtain ⟨j,ej,e8⟩:=Zw.mp e7
     cases e8
     have em:=iG et
     cases em
     obtain ⟨a,vs,Fs,rfl,rfl,ha',ra⟩:=w2.lst_inv
     have ha3:H3 a=some (.lst vs):=sm a _ ha'
     have nd:=Ze.mp w3
     have na:a ∉ Fv:=fun z=>by rw [fv.2 a z] at ha';cases ha'
     have m3:Mut (H3 a):=by rw [ha3];exact True.intro
     have off:∀ bb∈Fs.flatten,bb ∉ Fv:=fun bb hb hv=>Mut.ne_none (ra.dom bb hb) (fv.2 bb hv)
     refine k_ ?_
     refine .inl ⟨a,vs,n,j,rfl,rk.int_inv,ha3,by rw [← pw,ra.len.1];exact ej,fin _ (a :: (Fs.set j Fv).flatten) ?_⟩
     have keep:∀ {u:V} {x:T} {F:X4},Rp G H3 u x F->a ∉ F->Rp G (upd H3 a (.lst (vs.set j xv))) u x F:=fun r hn=>r.keep (Kept.upd (.inl m3)) fun bb hb o' ho'=>by rw [aI (fun z=>hn (by rw [← z];exact hb))];exact ho'
     refine Chg.upd sm Zx m3 (.lst aD ((((ra.same sm).off m3 nd.1)).putAt j (keep rv3 na))) ?_ ?_
     ·rw [Ze]
      refine ⟨fun h=>?_,dE nd.2 fv.1 fun i' F' _ hi bb hb=>off bb (dk hi hb)⟩
      rcases cI h with z | ⟨i',F',_,h1,h2⟩
      ·exact na z
      ·exact nd.1 (dk h1 h2)
     ·intro bb hb
      rcases Zi.mp hb with rfl | hb
      ·exact .inl Zx
      ·rcases cI hb with z | ⟨i',F',_,h1,h2⟩
       ·exact .inr (fv.2 bb z)
       ·exact .inl (Zv _ (dk h1 h2))
    | _=>cases w4
   | dct kd l =>
    cases kd with
    | zero =>
     have hc:(hU tk=true/\imm tv=true/\l.length < dS)/\x3=.dct 0 (dput l tk tv):=by
      have w4':(if hU tk/\imm tv/\l.length < dS then some (T.dct 0 (dput l tk tv),()) else none)=some (x3,y'):=w4
      split at w4'
      ·rename_i hc
       cases w4'
       exact ⟨hc,rfl⟩
      ·cases w4'
     obtain ⟨⟨c1,c2,c3⟩,rfl⟩:=hc
     have eF:=rv3.imm c2
     subst eF
     obtain ⟨a,ns,vs,ts,Fs,rfl,rfl,ha',hl,rfl,ra⟩:=d7 w2
     obtain ⟨kk,rfl,ekk'⟩:=dN rk c1
     subst ekk'
     have ha3:H3 a=some (.dK (ns.zip vs)):=sm a _ ha'
     have m3:Mut (H3 a):=by rw [ha3];exact True.intro
     have nd:=Ze.mp w3
     obtain ⟨ks',vs',ts',Fs',q1,q2,q3,q4,q5⟩:=oU (kk:=kk) rv3 hl (ra.same sm)
     have ln:(ns.zip vs).length < sizeLine:=by
      have:((ns.map aX).zip ts).length < 16777216:=c3
      rw [Yz,Zy] at this
      rw [Yz]
      have:=ra.len.1
      have:(sizeLine:Nat)=16777216:=rfl
      lia
     refine k_ ?_
     refine .inr ⟨a,_,rfl,oR.k ha3 ln,fin _ (a :: Fs'.flatten) ?_⟩
     rw [q1,q3]
     refine Chg.upd sm Zx m3 (.dct aD q2 (q4.off m3 fun z=>nd.1 (q5.subset z))) ?_ ?_
     ·exact Ze.mpr ⟨fun z=>nd.1 (q5.subset z),nd.2.sublist q5⟩
     ·intro bb hb
      rcases Zi.mp hb with rfl | hb
      ·exact .inl Zx
      ·exact .inl (Zv _ (q5.subset hb))
    | succ n=>cases w4
   | _=>cases w4
  ·cases e
end
theorem zX {K:X0} {H:Hp} {a:Addr} {ns:X8} (hO:uq H) (hS:SqL K H a (ns.map V.int)):jC K H a ns:=by
 rcases hS with h | h
 ·rcases h with h | h
  ·rcases hO a with z | ⟨o,xs,z⟩
   ·rw [z] at h;cases h
   ·rw [z] at h;cases h
  ·exact .inl h
 ·exact .inr h
theorem Az {G:Gx} {g:Fn} {H:Hp} {a:Addr} {ns:X8} {E:XK} (hg:g [.scr ns]=some (.fr,.bl true)) (hO:uq H) (hS:SqL G.K H a (ns.map V.int)):spF G g [.ref a] H (fun v _=>v=.bl true) E :=
 ⟨[.scr ns],[[]],.fr,.bl true,.cons (.scr (zX hO hS)) .nil,hg,fun v H' F _ r _=>r.bl_inv⟩
noncomputable def gx0 (K:X0):Gx:=⟨K,fun _=>(0,fun k=>⟨#[k]⟩),none⟩
theorem tJ {l:PySem.W.OpenLaw} {q:Program} {loose:List Str} {XP:(X3)->Heap->Prop} {d:DefRec} {K:Params->X0} {g:Fn} {x:Str} {k:Nat} (hn:l.most=some 63) (hdf:d.params.defaults=[]) (hr:Room k callerA)
  (hg:∀ ns:X8,g [.scr ns]=some (.fr,.bl true))
  (F:∀ (w:World) (mg:X3) (fa:Addr) (h:Heap),(K w.params).In h->h.Ns mainGlobals mg->mg d.name=some (.ref fa) →
   ∃ fd:FuncData,(∀ (s:Shared) (u:Value),BindsTo s fd ⟨[u],[]⟩ [(x,u)])/\∀ base:Heap,(K w.params).In base->base.Ns mainGlobals mg->FnOk l.prog w (K w.params) mg base CX0 k fa fd [x] (spF (gx0 (K w.params)) g)) :
  PySem.W.WalkO q loose XP (fun w h=>(K w.params).In h) l.row.toRowW d [] (fun f vs=>PySem.call f vs) :=
 L2.xk (n:=63) (k:=k) (x:=x) (CX:=fun _=>CX0) (sp:=fun w=>spF (gx0 (K w.params)) g) hn (by decide) hdf hr (fun _ _ h=>h) F (fun w H a ns _ hO hS=>Az (G:=gx0 (K w.params)) (hg ns) hO hS) fun _ _ _ _ _ z=>z
end VS
end
section
namespace L2
open PySem PySem.Spec PyProof.Rows
section
variable {X:Cx}
theorem pj (hc:X.calm=true):dC X (.type "list") (fun xs H Q=>∃ x:Str,xs=[.str x]/\x.cps.size<=sizeLine/\∀ l,H l=none->Q (.ref l) (upd H l (.lst (x.cps.toList.map fun c=>V.str ⟨#[c]⟩)))):=by
 intro pins s σ H xs us Q I rx h
 obtain ⟨x,rfl,hz,q⟩:=h
 obtain ⟨u,rfl,t,rfl⟩:=vals1 rx
 refine call_list_str (I.ok.hd hc) x t (fun h' tk acc c kp g ha=>?_) hz
 have hv:aR (x.cps.toList.map fun c=>V.str ⟨#[c]⟩) acc.toList:=by
  have key:∀ (cs:X7) (vs:X5),cs.length=vs.length->(∀ (i:Nat) (v:Value),vs[i]?=some v->∃ c u,cs[i]?=some c/\v=.str ⟨#[c]⟩ u)->aR (cs.map fun c=>V.str ⟨#[c]⟩) vs:=by
   intro cs
   induction cs with
   | nil =>
    intro vs hl _
    cases vs with
    | nil=>exact .nil
    | cons v vs=>simp at hl
   | cons c cs ih =>
    intro vs hl hg
    cases vs with
    | nil=>simp at hl
    | cons v vs =>
     obtain ⟨d,u,e1,e2⟩:=hg 0 v rfl
     cases e1
     exact .cons ⟨u,e2⟩ (ih vs (by simpa using hl) fun i w hw=>by simpa using hg (i+1) w (by simpa using hw))
  refine key _ _ (by rw [YY,YY,ha.1]) fun i v hi=>?_
  rw [Yq] at hi
  obtain ⟨d,u,e1,e2⟩:=ha.2 i v hi
  exact ⟨d,u,by rw [Yq];exact e1,e2⟩
 refine ⟨.ref s.heap.objs.size,_,I.laid kp (Zk _) (show b9 X.prog X.w _ h' _ (.lst (x.cps.toList.map fun c=>V.str ⟨#[c]⟩)) from ⟨by rw [Zy,YY];exact hz,acc.toList,c,hv,g⟩),rfl,q _ (I.hok.fresh (Zk _))⟩
end
end L2
namespace VS
open PySem PySem.Spec PyProof.Rows L2
section
variable {G:Gx} {X:Cx} {a b c e tg:Expr} {es:List Expr} {ca cb cc ce ck:Ex} {cs:Exs} {pos p p1 p2 apos cpos pos':Pos} {k k' kr:Nat}
@[simp] noncomputable def eQ:Wy->Wx
 | [(m,.lst l)]=>mkL m l
 | [(m,.tup l)]=>mkL m l
 | [(_,.str s)]=>mkL .fr (s.map fun c=>.str [c])
 | _=>none
theorem sO:eK G (fun xs H Q=>xX G.K xs H Q\/∃ x:Str,xs=[.str x]/\x.cps.size<=sizeLine/\∀ l,H l=none->Q (.ref l) (upd H l (.lst (x.cps.toList.map fun c=>V.str ⟨#[c]⟩)))) eQ:=by
 intro Φ η H0 H l vs Fs m t Q A e k
 unfold eQ at e
 split at e
 ·exact .inl (pZ Φ η H0 H _ vs Fs m t Q A e k)
 ·exact .inl (pZ Φ η H0 H _ vs Fs m t Q A e k)
 ·rename_i mx x
  obtain ⟨v,F,rfl,rfl,rx⟩:=(show RpL G H vs [.str x] Fs from A.rp).one
  have ts:=rx.str_inv.2
  refine .inr ⟨sx x,by rw [rx.str_inv.1],?_,fun q hq=>?_⟩
  ·have:=ts.1
   simp only [sx,Za]
   exact this
  ·have ec:(sx x).cps.toList.map (fun c=>V.str ⟨#[c]⟩)=(x.map fun c=>[c]).map fun s=>V.str (sx s):=by
    simp [sx]
   have et:(x.map fun c=>T.str [c])=(x.map fun c=>[c]).map T.str:=by simp
   rw [ec]
   rw [et] at e
   have r0:=oN (G:=G) (H:=H) (ss:=x.map fun c=>[c]) fun s hs=>by
    obtain ⟨c,hc,rfl⟩:=Z9.mp hs
    exact ⟨by show 1<=dS;decide,fun y hy=>by rw [Zj.mp hy];exact ts.2 c hc⟩
   refine g6 A.same e r0 ?_ k q hq
   rw [nu]
   exact Fp.nil
 ·cases e
theorem wQ (hm:X.mg "list" = none) (ha:PVs G X [e] cs) (hg:Gl X "list" := by rfl) (hK:X.K=G.K:=by rfl) (hc:X.calm=true:=by rfl) (he:starEach [e] X.env=(false,eval e X.env) :: starEach [] X.env:=by rfl):PV G X (.Call (.Name "list" p) [e] [] pos) (eN eQ cs) :=
 jg (mw.or (pj hc)) (hK ▸ sO) hg hm xJ ha (he:=he) (hpl:=rfl)
end
end VS
end
section
open PySem PyProof.Rows
namespace TS
variable {prog:Program} {w:World} {A:Around} {E:Yt} {s:Shared}
end TS
end
section
namespace ST
open PySem PySem.Spec PyProof.Rows
variable {prog:Program} {w:World} {A:Around} {E:Yt} {s:Shared}
noncomputable abbrev dO (es:Array DictEntry) (ep:Nat):Obj:={ cls:=.type "dict",data:=.dict es ep }
noncomputable abbrev kO (d:Addr) (i n ep:Nat):Obj:={ cls:=.type "dict_keyiterator",data:=.fields #[.ref d,.int i 0,.int n 0,.int ep 0] }
theorem rV {d:Addr} {es:Array DictEntry} {ep:Nat} {Q:Yt} (hd:(d == sysModules)=false) (hm:s.heap.get? d=some (dO es ep)) (q:Q (.ref s.heap.objs.size) { s with heap:=s.heap.push (kO d 0 es.size ep) }) :
  wpAny (model prog w) A (pyIter (.ref d)) Q E s:=by
 have ty:s.TypeIs (.ref d) "dict" := ⟨_,hm,rfl⟩
 refine wpAny_pyIter_slot ty F.slot_dict_iter (Y9 F.slot_dict_iter ty F.entry_dict_iter (show wpAny _ _ (Builtin.«dict.__iter__» _) _ _ _ from ?_) (F.args_dict_iter_1 _))
 unfold Builtin.«dict.__iter__» Builtin.Dict.dictSlotNone Builtin.Dict.showsAll
 refine Zr (Zr (wpAny_notOrdered_dict ty (show wpAny _ _ (pure (Value.ref d)) _ _ s from Zb (Zr (m:=Builtin.Dict.addrOf (.ref d)) (Zb ?_)))))
 rw [Zn (by rw [hd];exact Zh)]
 exact Zr (Zb (Zr (wpAny_dictEntries hm rfl (Zr (wpAny_dictEpoch hm rfl (Zr (Xl (Zb ⟨_,rfl, "dict_keyiterator",_,⟨_,ZS _ rfl,rfl⟩,YK.lookup,q⟩))))))))
theorem nN {I d:Addr} {i ep:Nat} {es:Array DictEntry} {Q:X6->Shared->Prop} (hh:A.handled=none) (hI:s.heap.get? I=some (kO d i es.size ep)) (hm:s.heap.get? d=some (dO es ep))
  (h1:∀ e,es[i]?=some e->∀ h',Heap.SameBut I s.heap h'->h'.get? I=some (kO d (i+1) es.size ep)->Q (some e.key) { s with heap:=h' })
  (h2:es[i]?=none->∀ h',(∀ b o,b ≠ I->s.heap.get? b=some o->h'.get? b=some o)->Q none { s with heap:=h' }):wpAny (model prog w) A (pyNext (.ref I)) Q E s:=by
 have ty:s.TypeIs (.ref I) "dict_keyiterator" := ⟨_,hI,rfl⟩
 unfold pyNext
 refine Zr (wpAny_attempt (wpAny_callSpecial?_slot (name:=Str.ofString "__next__") ty YK (Y9 YK ty F.entry_dict_keyiterator_next (YN
  (Q:=fun f s'=>∃ v,f=.done (.ret v)/\Q (some v) s') (E:=fun e s'=>∃ x,e=.ref x/\(∃ o,s'.heap.get? x=some o/\o.cls=.type "StopIteration")/\Q none s') ?_ (fun f s' ⟨v,e,q⟩=>⟨v,e,Zb q⟩) fun e s' ⟨x,e1,⟨o,g,c⟩,q⟩=>?_) (F.args_dict_keyiterator_next_1 _))))
 ·refine Zr (Zb (Zr (Zr (Zr (Xy ty (Zb (Zr (wpAny_fieldsOf hI rfl ?_))))))))
  have own:Builtin.Dict_items.ownsTuple "dict_keyiterator" = false:=rfl
  simp only [own,YE,↓reduceIte]
  refine (show wpAny _ _ (if (Value.ref d == Value.none)=true then _ else _) _ _ s from ?_)
  rw [Zn (fun e:(Value.ref d == Value.none)=true=>Zh e)]
  refine Zr (Zb (Zr (wpAny_dictEntries hm rfl ?_)))
  rw [Zn (by simp)]
  refine Zr (Zb (Zr (wpAny_dictEpoch hm rfl ?_)))
  rw [Zn (by simp)]
  refine Zb ?_
  simp only [show ¬ ((i:Int) < 0) from by lia,↓reduceIte,Int.toNat_natCast]
  cases he:es[i]? with
  | some e =>
   dsimp only
   have g1:(s.heap.update I (Obj.mapFields (·.setIfInBounds 1 (rawInt ((i:Int)+1))))).get? I=some (kO d (i+1) es.size ep):=Heap.get?_update_self _ hI rfl
   refine Zr (Zr (Xy ty (Zb (Zr (wpAny_isOneOf_keyiter ty ?_)))))
   refine (show wpAny _ _ (setField (.ref I) 1 (rawInt ((i:Int)+1)) >>= _) _ _ s from Zr (wpAny_setField hI rfl (by show 1 < 4;decide) (Zr (Xz ?_))))
   refine Zr (wpAny_isOneOf_keyiter (s:={ s with heap:=s.heap.update I (Obj.mapFields (·.setIfInBounds 1 (rawInt ((i:Int)+1)))) }) ⟨_,g1,rfl⟩ ?_)
   refine (show wpAny _ _ (pure e.key) _ _ _ from Zb (Zb ⟨_,rfl,h1 e he _ (Heap.SameBut.update ..) g1⟩))
  | none =>
   dsimp only
   refine Zr (Zr (Xy ty (Zb ?_)))
   refine (show wpAny _ _ (setField (.ref I) 0 .none >>= _) _ _ s from Zr (wpAny_setField hI rfl (by show 0 < 4;decide) (B5 hh fun h' x kp hx=>⟨x,rfl,hx,h2 he h' fun b o hb e=>kp b o ?_⟩)))
   rw [Xb _ _ (Ya hb)]
   exact e
 ·subst e1
  exact Zr (wpAny_isInstance (T := "StopIteration") (b:=true) ⟨o,g,c⟩ isSubtype_stop (Zb q))
end ST
end
section
namespace L2
open PySem PySem.Spec PyProof.Rows TS
end L2
end
section
namespace VS
open PySem PySem.Spec PyProof.Rows L2 TS
section
variable {G:Gx} {X:Cx} {a b c e tg:Expr} {es:List Expr} {ca cb cc ce ck:Ex} {cs:Exs} {pos p p1 p2 apos cpos pos':Pos} {k k' kr:Nat}
noncomputable def As:T->Bool
 | .tup l=>l.all hU
 | _=>false
@[simp] noncomputable def CU (x y:Val):Wx:=match y.2 with
 | .dct 1 l=>if As x.2 then some (.fr,.bl (ed l x.2).isSome) else none
 | .lst l=>if As x.2 && l.all As then some (.fr,.bl (l.any fun z=>eqT z x.2)) else none
 | _=>none
@[simp] noncomputable def Cp (x y:Val):Wx:=match CU x y with
 | some (_,.bl b)=>some (.fr,.bl (!b))
 | _=>none
end
end VS
namespace VS
open PySem PySem.Spec PyProof.Rows L2
end VS
end
section
namespace L2
open PySem PySem.Spec PyProof.Rows
end L2
namespace VS
open PySem PySem.Spec PyProof.Rows L2
end VS
end
section
namespace L2
open PySem PySem.Spec PyProof.Rows
end L2
namespace VS
open PySem PySem.Spec PyProof.Rows L2
end VS
end
section
namespace L2
open PySem PySem.Spec PyProof.Rows
section
variable {X:Cx} {tg:Expr} {pos:Pos}
theorem sE {o:Obj} {es:Array DictEntry} {ep:Nat} (h:o.ExactDict) (e:o.data=.dict es ep):o=ST.dO es ep:=by
 obtain ⟨c,d,dt,sl⟩:=o
 obtain ⟨h1,h2,h3⟩:=h
 simp only at h1 h2 h3 e
 subst h1 h2 h3 e
 rfl
end
end L2
namespace VS
open PySem PySem.Spec PyProof.Rows L2
end VS
end
section
open PySem PyProof.Rows
namespace TS
variable {prog:Program} {w:World} {A:Around} {E:Yt} {s:Shared} {G:Keyed->Prop} {r:Keyed->Keyed->Bool}
end TS
end
section
open PySem PyProof.Rows
namespace TS
variable {prog:Program} {w:World} {A:Around} {E:Yt} {s:Shared}
end TS
end
section
namespace L2
open PySem PySem.Spec PyProof.Rows TS
end L2
end
section
namespace VS
open PySem PySem.Spec PyProof.Rows L2 TS
end VS
end
section
namespace L2
open PySem PySem.Spec PyProof.Rows
end L2
namespace VS
open PySem PySem.Spec PyProof.Rows L2
section
variable {G:Gx} {X:Cx} {e b:Expr} {cs:Exs} {cb:Ex} {pos p p1 p2 kp apos cpos:Pos} {k k' kr:Nat} {x:Str} {ps:List Str} {g:Fn}
theorem kU {a b c:Expr} {ca cb cc:Ex} (ha:PV G X a ca) (hb:PV G X b cb) (hc:PV G X c cc) (hm:lastMarks [.LtE,.Lt] [b,c]=false):PVT G X (.Compare a [.LtE,.Lt] [b,c] pos) (ij oLe oLt ca cb cc) :=
 PT.weak (rS zJ um ha hb hc hm) fun σ H Q h=>ni h (fun η m r e=>by
  unfold ij at e
  obtain ⟨x,ea,e⟩:=Zz.mp e
  obtain ⟨y,eb,e⟩:=Zz.mp e
  obtain ⟨⟨mz,z⟩,ez,e⟩:=Zz.mp e
  cases z with
  | bl q =>
   cases q with
   | false=>cases e;exact ⟨_,rfl⟩
   | true =>
    obtain ⟨z2,ec,e⟩:=Zz.mp (show (cc η).bind (fun z=>oLt y z)=some (m,r) from e)
    exact kh y z2 m r e
  | _=>cases e) fun Q h=>u5 BS yb h
theorem yW {ce:Ex} (h:PV G X e ce) (hsw:swapsWith e none pos.line X.env=pure false):PSV G X (.Expr e pos) (sX (xP ce)) :=
 PS.weak (iT h hsw) fun D σ H hq=>by
  obtain ⟨Φ,η,out,s,e,k⟩:=hq
  unfold sX xP at e
  obtain ⟨⟨v,η'⟩,e1,e2⟩:=Zw.mp e
  obtain ⟨⟨m,t⟩,e3,e4⟩:=Zw.mp e1
  cases e4
  cases e2
  exact ⟨Φ,η,m,t,s,e3,fun v H' F e1 r1 f1=>k Φ σ H' (s.same e1) (Frm.same e1)⟩
@[simp] noncomputable def C3 (i:Nat) (c:Ex) (as:Exs) (η:VS.Env):Option (Val×VS.Env):=match η[i]? with
 | some (some (.ow (.lst l)))=>(c η).bind fun kv=>(int? kv.2).bind fun n=>(ixP l.length n).bind fun j=>(l[j]?).bind fun x=>(as η).bind fun xs=>(aG x xs).map fun z=>(z.2,η.set i (some (.ow (.lst (l.set j z.1)))))
 | _=>none
end
section
variable {G:Gx} {X:Cx} {a b e:Expr} {ca ck ce:Ex} {pos pos' p1:Pos} {kr:Nat}
theorem yx {j pos'} (ha:PV G X a ca):PVT G X (.Compare a [.Is] [.Constant .none j pos'] pos) (uS ca) :=
 PT.weak (sY (Am ha)) fun σ H Q h=>yg h (fun η m r e=>by
  unfold uS at e
  obtain ⟨x,_,e⟩:=Zz.mp e
  cases e
  exact ⟨_,rfl⟩) fun Q hq=>by
   obtain ⟨Φ,η,m,r,s,e,q⟩:=hq
   unfold uS at e
   obtain ⟨⟨n,x⟩,ea,e⟩:=Zz.mp e
   cases e
   refine ⟨Φ,η,n,x,s,ea,fun v H' F e1 r1 f1=>?_⟩
   show Q (.bl (decide (v=.non))) H'
   rw [pO r1]
   exact q _ H' _ e1 (.bl _) Fp.nil
theorem wI {j pos'} (ha:PV G X a ca):PVT G X (.Compare a [.IsNot] [.Constant .none j pos'] pos) (eT ca) :=
 PT.weak (sY (xb ha)) fun σ H Q h=>yg h (fun η m r e=>by
  unfold eT at e
  obtain ⟨x,_,e⟩:=Zz.mp e
  cases e
  exact ⟨_,rfl⟩) fun Q hq=>by
   obtain ⟨Φ,η,m,r,s,e,q⟩:=hq
   unfold eT at e
   obtain ⟨⟨n,x⟩,ea,e⟩:=Zz.mp e
   cases e
   refine ⟨Φ,η,n,x,s,ea,fun v H' F e1 r1 f1=>?_⟩
   show Q (.bl (!decide (v=.non))) H'
   rw [pO r1]
   exact q _ H' _ e1 (.bl _) Fp.nil
noncomputable def lJ (i:Nat) (k e:Ex) (η:VS.Env):Option Out:=(e η).bind fun v=>match η[i]? with
 | some (some (.ow (.dct 0 l)))=>(k η).bind fun kv=>if hU kv.2/\imm v.2/\l.length < dS then some (.nx (η.set i (some (.ow (.dct 0 (dput l kv.2 v.2)))))) else none
 | _=>none
theorem zL (i:Nat) {x:Str} (hr:Room kr X.A) (hk:PV G X b ck) (he:PV G X e ce) (hN:X.N[i]?=some x) (hv:Vis X.env.scope x) (hd:(x == ("__debug__" : Str))=false) (hcd:(x == ("__classdict__" : Str))=false)
  (ha:∀ v,assign (.Subscript (.Name x p1) b pos') X.env v=(do
   let ov ← holding [v] (eval (.Name x p1) X.env)
   let iv ← holding [v,ov] (eval b X.env)
   standAt pos'
   holding [v,ov,iv] (setItem ov iv v)
   release [v,ov,iv] [])) (hs:swapsWithSole [.Subscript (.Name x p1) b pos'] e pos.line X.env=pure false) (hw:swappedStores [.Subscript (.Name x p1) b pos'] e X.env=pure none)
  (h1:(assignEach [.Subscript (.Name x p1) b pos'] X.env).map (·.2)=[assign (.Subscript (.Name x p1) b pos') X.env]):PSV G X (.Assign [.Subscript (.Name x p1) b pos'] e pos) (lJ i ck ce) :=
 PS.weak (oV he (pE (gm hN hv hd hcd) hk (ua (iy hr)) ha) hs hw h1) fun D σ H hq=>by
  obtain ⟨Φ,η,out,s,e,k⟩:=hq
  unfold lJ at e
  obtain ⟨⟨mv,tv⟩,ev,e⟩:=Zz.mp e
  split at e
  ·rename_i l ht
   obtain ⟨⟨mk,tk⟩,ekk,e⟩:=Zz.mp e
   split at e
   ·rename_i hc
    obtain ⟨c1,c2,c3⟩:=hc
    cases e
    obtain ⟨w,g1,w2⟩:=s.rp _ _ ht
    have w3:=s.nd i _ ht
    refine ⟨Φ,η,mv,tv,s,ev,fun xv H1 Fv sm1 rv fv=>⟨w,g1,Φ,η,mk,tk,s.same sm1,ekk,fun kv H3 Fk sm3 rk fk=>?_⟩⟩
    have sm:aP H H3:=sm1.trans sm3
    have rv3:Rp G H3 xv tv Fv:=rv.same sm3
    have eF:=rv3.imm c2
    subst eF
    obtain ⟨a,ns,vs,ts,Fs,rfl,eF1,ha',hl,rfl,ra⟩:=d7 w2
    rw [eF1] at w3
    obtain ⟨kk,rfl,ekk'⟩:=dN rk c1
    subst ekk'
    have ha3:H3 a=some (.dK (ns.zip vs)):=sm a _ ha'
    have m3:Mut (H3 a):=by rw [ha3];exact True.intro
    have nd:=Ze.mp w3
    obtain ⟨ks',vs',ts',Fs',q1,q2,q3,q4,q5⟩:=oU (kk:=kk) rv3 hl (ra.same sm)
    have ln:(ns.zip vs).length < sizeLine:=by
     have:((ns.map aX).zip ts).length < 16777216:=c3
     rw [Yz,Zy] at this
     rw [Yz]
     have:=ra.len.1
     have:(sizeLine:Nat)=16777216:=rfl
     lia
    refine .inr ⟨a,_,rfl,oR.k ha3 ln,?_⟩
    have g:Chg G H (.ref a) (Φ i) (.dct 0 (dput ((ns.map aX).zip ts) (aX kk) tv)) (upd H3 a (.dK (putK (ns.zip vs) kk xv))) (a :: Fs'.flatten):=by
     rw [eF1,q1,q3]
     refine Chg.upd sm Zx m3 (.dct aD q2 (q4.off m3 fun z=>nd.1 (q5.subset z))) ?_ ?_
     ·exact Ze.mpr ⟨fun z=>nd.1 (q5.subset z),nd.2.sublist q5⟩
     ·intro bb hb
      rcases Zi.mp hb with rfl | hb
      ·exact .inl Zx
      ·exact .inl (Zv _ (q5.subset hb))
    obtain ⟨z1,z2⟩:=s.mut ht g1 g
    exact k _ σ _ z1 z2
   ·cases e
  ·cases e
end
end VS
end
section
namespace DP
open PySem PySem.Spec PyProof.Rows
variable {prog:Program} {w:World} {A:Around} {E:Yt}
end DP
end
section
namespace DP
open PySem PySem.Spec PyProof.Rows L2
variable {prog:Program} {w:World} {A:Around} {E:Yt}
end DP
end
section
namespace DP
open PySem PySem.Spec PyProof.Rows L2
variable {prog:Program} {w:World} {A:Around} {E:Yt} {s:Shared}
end DP
end
section
namespace L2
open PySem PySem.Spec PyProof.Rows
end L2
end
section
namespace VS
open PySem PySem.Spec PyProof.Rows L2
section
variable {G:Gx} {X:Cx} {e:Expr} {cs:Exs} {p pos:Pos}
theorem xx:bootBuiltins ("dict" : Str)=some (.type "dict"):=by decide +kernel
@[simp] noncomputable def C8:Wy->Wx
 | [(_,.int i)]=>some (.fr,.int i)
 | [(_,.bl b)]=>some (.fr,.int (if b then 1 else 0))
 | _=>none
end
end VS
end
section
namespace L2
open PySem PySem.Spec PyProof.Rows
section
variable {X:Cx} {pins:Xw} {σ:St} {H:Hp} {s:Shared}
theorem m6 {d:Addr} {kvs:List (Key×V)} {o:Obj} (I:Inv X pins σ H s) (e:H d=some (.dK kvs)) (g:s.heap.get? d=some o):Inv X pins σ (upd H d (.frz o (.dK kvs))) s :=
 jT (t':=s.toks) I (by rw [e];exact True.intro) ⟨rfl,fun _ _=>rfl⟩ ⟨o,g⟩ ⟨g,I.hok d _ e⟩
end
noncomputable def Itk (d:Addr) (o:Obj) (kvs:List (Key×V)):It :=
 ⟨fun i H=>H d=some (.frz o (.dK kvs))/\i < kvs.length,fun i H x H'=>H'=H/\∃ p,kvs[i]?=some p/\x=kV p.1,fun i H=>H d=some (.frz o (.dK kvs))/\kvs.length<=i⟩
theorem xi {k:Key} {v:Value} (h:jE k v=true):RelV (kV k) v:=by
 rcases bL h with ⟨i,t,rfl,rfl⟩ | ⟨x,t,rfl,rfl⟩
 ·exact ⟨t,rfl⟩
 ·exact ⟨t,rfl⟩
theorem lF {P:Program} {w:World} {es:List DictEntry} {m:List (Key×Value)} (r:Pairs (bG P w) es m) {i:Nat} {e:DictEntry} (h:es[i]?=some e):∃ q,m[i]?=some q/\jE q.1 e.key=true:=by
 induction r generalizing i with
 | nil=>simp at h
 | @cons e' kv es kvs h1 h2 _ ih =>
  cases i with
  | zero =>
   simp at h
   subst h
   exact ⟨kv,rfl,h1⟩
  | succ i=>simpa using ih (by simpa using h)
theorem yC {l:List (Key×V)} {m:List (Key×Value)} (r:KV l m) {i:Nat} {q:Key×Value} (h:m[i]?=some q):∃ p,l[i]?=some p/\p.1=q.1:=by
 induction r generalizing i with
 | nil=>simp at h
 | @cons p' q' ps qs hq t ih =>
  cases i with
  | zero=>simp at h;subst h;exact ⟨p',rfl,hq.1⟩
  | succ i=>simpa using ih (by simpa using h)
section
variable {X:Cx} {tg:Expr} {pos:Pos}
theorem Ai {P:Program} {w:World} {K:X0} (d it:Addr) {kvs:List (Key×V)} {es:Array DictEntry} {ep:Nat} {xs:List (Key×Value)} (rel:KV kvs xs) (he:Pairs (bG P w) es.toList xs) :
  Turn P w K tg (Itk d (ST.dO es ep) kvs) [it] it (fun i h=>h.get? it=some (ST.kO d i es.size ep)) where
 mem:=by simp
 obj:=fun i h st b hb=>by
  rw [Zj.mp hb]
  exact ⟨_,st,fun v z=>by cases z⟩
 keep:=fun i h h' st k=>k it (by simp) _ st
 item:=by
  intro X hP hw hK hc i pins s σ H E I hf st hg
  subst hP hw hK
  obtain ⟨f0,f1,f2,f3,f4,f5⟩:=hf it (by simp)
  refine ST.nN (I.ok.hd hc) st (show s.heap.get? d=some (ST.dO es ep) from (I.hok d _ hg.1).1) (fun e hi h' sb g=>?_) fun hn=>?_
  ·have I1:Inv X pins σ H { s with heap:=h' }:=I.turned (t':=s.toks) (fun b o hb e=>(sb.2 b hb).trans e) f0 f1 f3 f4 f5
   rw [← Yq] at hi
   obtain ⟨q,hq,hk⟩:=lF he hi
   obtain ⟨p,hp,hb⟩:=yC rel hq
   exact ⟨_,rfl,nP (s:={ s with heap:=h' }) g rfl rfl rfl ⟨kV p.1,H,I1,by rw [hb];exact xi hk,⟨rfl,p,hp,rfl⟩,g,fun b hb=>(hf b hb).1⟩⟩
  ·exfalso
   rw [← Yq,Yv,he.length,← YB rel] at hn
   exact absurd hg.2 (by lia)
 done:=by
  intro X hP hw hK hc i pins s σ H E I hf st hg
  subst hP hw hK
  obtain ⟨f0,f1,f2,f3,f4,f5⟩:=hf it (by simp)
  refine ST.nN (I.ok.hd hc) st (show s.heap.get? d=some (ST.dO es ep) from (I.hok d _ hg.1).1) (fun e hi h' sb g=>?_) fun hn h' kp=>⟨rfl,I.turned (t':=s.toks) (fun b o hb e=>kp b o hb e) f0 f1 f3 f4 f5⟩
  exfalso
  rw [← Yq] at hi
  obtain ⟨q,hq,hk⟩:=lF he hi
  have:=(Zf.mp hq).1
  have h2:=hg.2
  rw [YB rel] at h2
  lia
 self:=fun _ _ _ _ _ st hQ=>wpAny_pyIter_slot ⟨_,st,rfl⟩ F.slot_dict_keyiterator_iter (Y9 F.slot_dict_keyiterator_iter ⟨_,st,rfl⟩ F.entry_dict_keyiterator_iter (show wpAny _ _ (ret (.ref it)) _ _ _ from Zb ⟨_,rfl, "dict_keyiterator",_,⟨_,st,rfl⟩,YK.lookup,hQ⟩) (F.args_dict_keyiterator_iter_1 _))
noncomputable def iDk (tl:TE):TI:=fun σ H R=>tl σ H fun x H1=>∃ d kvs,x=.ref d/\H1 d=some (.dK kvs)/\∀ o,R (Itk d o kvs) (upd H1 d (.frz o (.dK kvs)))
theorem Cm {l:Expr} {tl:TE} (hl:PE X l tl):PI X tg l (iDk tl):=by
 intro pins s σ H R I h
 refine thn (hl pins s σ H _ I h) fun v s1 ⟨x,H1,I1,r1,q1⟩=>?_
 obtain ⟨d,kvs,ex,e,q⟩:=q1
 subst ex
 cases r1
 obtain ⟨z,y,xs,rel,o,es,ep,g,ex,hd,_,he,hn⟩:=nQ I1.hok e
 have eo:=sE ex hd
 subst eo
 refine ST.rV y g ?_
 refine ⟨s1.heap.objs.size,[s1.heap.objs.size],_,_,_,rfl,(m6 I1 e g).kept (t':=s1.toks) fun b o e=>Zl _ e,Ai d _ rel he,ZS _ rfl,fun b hb=>?_,q _⟩
 have eb:b=s1.heap.objs.size:=by simpa using hb
 subst eb
 exact (m6 I1 e g).fpOk (Zk _) ((m6 I1 e g).hok.fresh (Zk _))
end
end L2
namespace VS
open PySem PySem.Spec PyProof.Rows L2
noncomputable def sca:T->Bool
 | .non=>true
 | .bl _=>true
 | .int _=>true
 | .str _=>true
 | _=>false
end VS
end
section
namespace L2
open PySem PySem.Spec PyProof.Rows
noncomputable def pick {α:Type} (l:List α) (is:X7):List α:=is.filterMap (l[·]?)
noncomputable def CC {α:Type} (l:List α) (lo hi st:Option Int):List α:=pick l (sliceRange (sliceBounds lo hi st l.length).1 (sliceBounds lo hi st l.length).2.1 (sliceBounds lo hi st l.length).2.2)
end L2
namespace VS
open PySem PySem.Spec PyProof.Rows L2
section
variable {G:Gx} {X:Cx} {a:Expr} {ca:Ex} {pos:Pos}
noncomputable def sl3 (x:Val) (l h c:Option Int):Wx:=match x with
 | (_,.lst ts)=>if ts.all sca/\c ≠ some 0 then some (.fr,.lst (CC ts l h c)) else none
 | _=>none
end
end VS
end
section
namespace L2
open PySem PySem.Spec PyProof.Rows
end L2
namespace VS
open PySem PySem.Spec PyProof.Rows L2
end VS
end
section
namespace ST
open PySem PySem.Spec PyProof.Rows
variable {prog:Program} {w:World} {A:Around} {E:Yt} {s:Shared}
end ST
namespace L2
open PySem PySem.Spec PyProof.Rows TS
end L2
namespace VS
open PySem PySem.Spec PyProof.Rows L2
end VS
end
section
namespace L2
theorem zC {α:Type} {n:Nat} {us:List α} (hl:us.length=n+1):∃ a t,us=a :: t/\t.length=n:=by
 obtain ⟨a,t,e⟩:=List.exists_cons_of_length_eq_add_one hl
 subst e
 exact ⟨a,t,rfl,Nat.succ.inj hl⟩
theorem la {α:Type} {us:List α} (hl:us.length=1):∃ a,us=[a]:=List.length_eq_one_iff.mp hl
theorem fg {α:Type} {us:List α} (hl:us.length=2):∃ a b,us=[a,b]:=by
 obtain ⟨a,t,rfl,ht⟩:=zC hl
 obtain ⟨b,rfl⟩:=la ht
 exact ⟨a,b,rfl⟩
theorem rQ {α:Type} {us:List α} (hl:us.length=3):∃ a b c,us=[a,b,c]:=by
 obtain ⟨a,t,rfl,ht⟩:=zC hl
 obtain ⟨b,c,rfl⟩:=fg ht
 exact ⟨a,b,c,rfl⟩
theorem BX {α:Type} {us:List α} (hl:us.length=4):∃ a b c d,us=[a,b,c,d]:=by
 obtain ⟨a,t,rfl,ht⟩:=zC hl
 obtain ⟨b,c,d,rfl⟩:=rQ ht
 exact ⟨a,b,c,d,rfl⟩
end L2
end
section
namespace ST
open PySem PySem.Spec PyProof.Rows
variable {prog:Program} {w:World} {A:Around} {E:Yt} {s:Shared}
end ST
namespace VS
end VS
namespace VS
open PySem PySem.Spec PyProof.Rows L2
end VS
end
section
namespace XN
open PySem PySem.Spec PyProof.Rows L2
end XN
end
section
namespace VS
open PySem PySem.Spec PyProof.Rows L2 XN
inductive Res where | ok (v:Val) | ex (x:Str)
inductive OutX where | ok (o:Out) | ex (x:Str) (η:VS.Env)
noncomputable abbrev ExX:=VS.Env->Option Res
noncomputable abbrev SxX:=VS.Env->Option OutX
end VS
end
section
namespace XN
open PySem PySem.Spec PyProof.Rows L2
end XN
namespace VS
open PySem PySem.Spec PyProof.Rows L2 XN
end VS
end
section
namespace XN
open PySem PySem.Spec PyProof.Rows L2
end XN
namespace VS
open PySem PySem.Spec PyProof.Rows L2 XN
end VS
end
section
namespace XN
open PySem PySem.Spec PyProof.Rows L2 PySem.W
end XN
namespace VS
open PySem PySem.Spec PyProof.Rows L2 XN
end VS
end
section
namespace VS
open PySem PySem.Spec PyProof.Rows L2 XN PySem.F
section
variable {P:Program} {w:World} {K:X0} {mg:X3} {base:Heap}
noncomputable def wg:Fn:=fun ts=>match ts with
 | [.scr _]=>some (.fr,.bl true)
 | _=>none
end
end VS
end
section
namespace VS
open PySem PySem.Spec PyProof.Rows L2 XN
end VS
end
section
namespace VS
open PySem PySem.Spec PyProof.Rows L2
end VS
end
section
namespace VS
open PySem PySem.Spec PyProof.Rows L2 PySem.Builtin.Str PySem.StrLaws
end VS
end
section
namespace VS
open PySem PySem.Spec PyProof.Rows L2 XN
end VS
end
section
namespace L2
open PySem PySem.Spec PyProof.Rows
section
variable {X:Cx}
noncomputable def pV:V->List V->Hp->VK->Prop:=fun x vs H Q=>∃ l xs i y,x=.ref l/\vs=[.int i,y]/\H l=some (.lst xs)/\0<=i/\i<=xs.length/\xs.length < sizeLine/\Q .non (upd H l (.lst (xs.take i.toNat++y :: xs.drop i.toNat)))
theorem qE:MtM X "list.insert" pV:=by
 intro pins s σ H x vs v us Q I rx rv h
 obtain ⟨l,xs,i,y,rfl,rfl,hH,h1,h2,h3,q⟩:=h
 cases rx
 obtain ⟨u,w,rfl,ru,rw'⟩:=rv.two
 obtain ⟨t,rfl⟩:=ru
 obtain ⟨z,its,n,r,hl,e⟩:=I.lstM hH
 have hz:xs.length < 2 ^ 63:=ZY h3 (by decide)
 refine call_meets F.slot_list_insert ⟨_,e,rfl⟩ F.entry_list_insert (F.args_list_insert_3 _ _ _)
  (AutoSeq1.list_insert_list_int_val_1 l its.toArray n i t w (by rw [fitsIndex_both (by omega) (by omega)];decide) (by rw [Za];lia)) ⟨e,?_⟩
 have ht:=r.take i.toNat
 have hd:=r.drop i.toNat
 refine ⟨.non,_,I.lset (its':=its.take i.toNat++w :: its.drop i.toNat) hH e ?_ (ht.append (.cons rw' hd)) ?_,rfl,q⟩
 ·have h4:i.toNat<=its.length:=by omega
  apply Array.toList_inj.mp
  simp only [Za]
  rw [Zn (by omega),Y6 h4]
  simp
  rw [YS (by rw [Yi];exact Zk _)]
 ·rw [Zt,ZZ,YU,Yi]
  omega
end
end L2
namespace VS
open PySem PySem.Spec PyProof.Rows L2
section
variable {G:Gx} {X:Cx} {st:Stmt} {sts:List Stmt} {c c1 c2:Sx} {pos:Pos} {e b:Expr} {es:List Expr} {ce:Ex} {cs:Exs} {apos cpos p1:Pos}
noncomputable def mU:T->Wy->Option (T×Val)
 | .lst l,[(_,.int i),y]=>(fit y).bind fun z=>if cY l && cY [z] then (if 0<=i/\i<=l.length/\l.length < dS then some (.lst (l.take i.toNat++z :: l.drop i.toNat),(.fr,.non)) else none) else none
 | _,_=>none
theorem rG:qd G pV mU:=by
 intro Φ η H H1 v t t' F l vs Fs x Q r nd A e k
 unfold mU at e
 split at e
 ·rename_i ts mi i y
  obtain ⟨z,ez,e1⟩:=Zz.mp e
  have ey:=iG ez
  subst ey
  split at e1
  ·rename_i him
   obtain ⟨hi1,hi2⟩:=YJ.mp him
   split at e1
   ·rename_i hi
    cases e1
    obtain ⟨a,us,Gs,rfl,rfl,ha,ra⟩:=r.lst_inv
    obtain ⟨w,w2,Fw,Fw2,rfl,rfl,rw',rw2⟩:=(show RpL G H1 vs [.int i,z] Fs from A.rp).two
    have ha1:H1 a=some (.lst us):=A.same a _ ha
    have m1:Mut (H1 a):=by rw [ha1];exact True.intro
    have na:a ∉ Gs.flatten:=(Ze.mp nd).1
    have hl:us.length=ts.length:=ra.len.1
    have f2:Fw2=[]:=by
     have:=RpL.imm (.cons rw2 .nil) hi2
     simpa using this
    subst f2
    refine ⟨a,us,i,w2,rfl,by rw [rw'.int_inv],ha1,hi.1,by rw [hl];exact hi.2.1,by rw [hl];exact hi.2.2,k _ _ (a :: (Gs.take i.toNat++[] :: Gs.drop i.toNat).flatten) ?_⟩
    have r0:=(ra.same A.same).off (o:=.lst (us.take i.toNat++w2 :: us.drop i.toNat)) m1 na
    have r2:Rp G (upd H1 a (.lst (us.take i.toNat++w2 :: us.drop i.toNat))) w2 z []:=rw2.keep (Kept.upd (.inl m1)) fun b hb=>nomatch hb
    have ri:=(r0.take i.toNat).append (.cons r2 (r0.drop i.toNat))
    have hf:(Gs.take i.toNat++[] :: Gs.drop i.toNat).flatten=[]:=RpL.imm ri (by
     have h1:cY (ts.take i.toNat++ts.drop i.toNat)=true:=by rw [Xg];exact hi1
     rw [iA,YJ] at h1
     rw [iA,YJ]
     refine ⟨h1.1,?_⟩
     have:=iA [z] (ts.drop i.toNat)
     rw [List.singleton_append] at this
     rw [this,hi2,h1.2]
     rfl)
    have r1:Rp G (upd H1 a (.lst (us.take i.toNat++w2 :: us.drop i.toNat))) (.ref a) (.lst (ts.take i.toNat++z :: ts.drop i.toNat)) (a :: (Gs.take i.toNat++[] :: Gs.drop i.toNat).flatten):=.lst aD ri
    rw [hf] at r1 ⊢
    exact Chg.upd A.same Zx m1 r1 (by simp) fun b hb=>.inl (by rw [Zj.mp hb];exact Zx)
   ·cases e1
  ·cases e1
 ·cases e
theorem oG {H:Hp} {v:V} {t:T} {F:X4} {l:Wy} {z:T×Val} (r:Rp G H v t F) (h:mU t l=some z):tyV G.K "list" v H:=by
 unfold mU at h
 split at h
 ·exact nA r
 ·cases h
theorem sZ (i:Nat) {x:Str} (ha:PVs G X [e,b] cs) (hK:X.K=G.K) (hN:X.N[i]?=some x) (hv:Vis X.env.scope x) (hd:(x == ("__debug__" : Str))=false)
  (hcd:(x == ("__classdict__" : Str))=false) (hfew:((backTo cpos (starEach [e,b] X.env)).all (fun x=>!x.1) && (backToKw cpos (keywordEach [] X.env)).all (fun x=>x.1.isSome)
   && decide ([e,b].length+([]:List Keyword).length+(if ([]:List Keyword).isEmpty then 0 else 1) < 30))=true)
  (hline:(apos.endLine == cpos.line)=true) (hs:starEach [e,b] X.env=(false,eval e X.env) :: starEach [b] X.env) (hpl:(backTo cpos (starEach [b] X.env)).any (·.1)=false) :
  PSV G X (.Expr (.Call (.Attribute (.Name x p1) "insert" apos) [e,b] [] cpos) pos) (sX (jN i [] mU cs)) :=
 nJ i YD PySem.F.slot_list_insert PySem.F.type_list_insert qE rG (fun H v t F l z r h=>oG r h) ha hK hN hv hd hcd rfl hfew hline hs hpl rfl
end
end VS
end
section
namespace TS
open PySem PySem.Spec PyProof.Rows
variable {prog:Program} {w:World} {A:Around} {E:Yt} {s:Shared}
theorem qY {us:X5} (hv:∀ v∈us,∃ x t,v=Value.str x t) {xs:Array Keyed} (hp:xs.Perm (pairsOf us)) (hs:SortedToK strKind xs (pairsOf us).size):((xs.map (·.2)).toList.map strOf).Pairwise (fun a b=>¬ b.cps.toList < a.cps.toList):=by
 obtain ⟨p1,p2⟩:=lR hp
 rw [XQ,List.pairwise_iff_getElem]
 intro i j hi hj hij
 have key:∀ i (h:i < (xs.map (·.2)).toList.length),KK strKind xs i=(strOf (xs.map (·.2)).toList[i]).cps.toList:=fun i h=>by
  have e:xs[i]?=some ((xs.map (·.2)).toList[i],(xs.map (·.2)).toList[i]):=by
   rw [← Yq,← p2,ZQ,Zm h]
   rfl
  obtain ⟨x,t,ex⟩:=hv _ (p1.mem_iff.mp (Z7 h))
  unfold KK
  rw [e]
  rw [ex]
  rfl
 have q:=hs i j (XS hij) (by rw [← hp.size_eq];simpa using hj)
 rw [key i hi,key j hj] at q
 exact of_decide_eq_false q
theorem mh {x:Value} {Q:Yt}
  (hcol:∀ (A':Around) (E':Yt),A'.handled=A.handled->wpAny (model prog w) A' (collect x) (fun us s1=>(∀ v∈us,∃ x t,v=Value.str x t)/\us.length < 64/\∀ (out:X5) (h':Heap) (e:Nat),out.Perm us->(out.map strOf).Pairwise (fun a b=>¬ b.cps.toList < a.cps.toList)->(∀ b o,s1.heap.get? b=some o->h'.get? b=some o)->h'.get? s1.heap.objs.size=some (seqObj "list" out.toArray e)->Q (.ref s1.heap.objs.size) { s1 with heap:=h' }) E' s) :
  wpAny (model prog w) A (call (.builtin "sorted") [x]) Q E s:=by
 refine Calls.call_function_entry kind_sorted plain_sorted entry_sorted (args_sorted1 _) (show wpAny _ _ (Builtin.«sorted» _) _ _ _ from ?_)
 unfold Builtin.«sorted»
 refine Zr (m:=checkCount "sorted" 1 1 _) (Zb (Zr (YN (hcol A.in1 (fun _ _=>False) rfl) ?_ fun _ _ e=>e.elim)))
 rintro vs s1 ⟨hv,h64,h⟩
 refine Zr (wpAny_newList ?_ (by show vs.length<=sizeLine;rw [Y2];omega))
 have hoL:(s1.heap.push (seqObj "list" vs.toArray 0)).get? s1.heap.objs.size=some (seqObj "list" vs.toArray 0):=ZS _ rfl
 show wpAny _ _ _ _ _ { s1 with heap:=s1.heap.push (seqObj "list" vs.toArray 0) }
 refine Zr (Xz (Y9 slot_list_sort ⟨_,hoL,rfl⟩ entry_list_sort (list_sort_treeK strKind_oneLt hoL (strsAre_map _ hv).keysOf (fun v₁ v₂ rest e=>keyKind_strs (by rw [← e];exact strsAre_map _ hv)) h64 fun st' a1 a2=>⟨_,rfl,?_⟩) (args_list_sort _)))
 obtain ⟨e,he⟩:=sortedHeap_at (out:=(arrOf st').map (·.2)) hoL
 exact Zb ⟨_,rfl,h ((arrOf st').map (·.2)).toList _ e (lR a1).1 (qY hv a1 a2) (fun b o eb=>by
  have hb:=ZX eb
  show (sortedHeap (s1.heap.push (seqObj "list" vs.toArray 0)) s1.heap.objs.size vs ((arrOf st').map (·.2))).get? b=some o
  rw [sortedHeap_old (ZW hb) (by rw [size_push'];exact XT hb),Heap.get?_push_ne _ _ _ (ZW hb)]
  exact eb) he⟩
end TS
namespace L2
open PySem PySem.Spec PyProof.Rows TS
section
variable {X:Cx}
theorem ik (hc:X.calm=true):dC X (.builtin "sorted") (fun xs H Q=>∃ p,∃ (ss:List Str) (vs:List V),xs=[.ref p]/\ss.length < 64/\ss.length=vs.length/\H p=some (.dK ((ss.map Sum.inr).zip vs)) ∧
  ∀ (l:Addr) (ss':List Str),H l=none->ss'.Perm ss->ss'.Pairwise (fun a b=>¬ b.cps.toList < a.cps.toList)->Q (.ref l) (upd H l (.lst (ss'.map V.str)))):=by
 intro pins s σ H xs us Q I rx h
 obtain ⟨p,ss,vs,rfl,h64,hl,hq,q⟩:=h
 obtain ⟨u,rfl,ru⟩:=rx.one
 cases ru
 obtain ⟨hz,hS,kvs,rel,dd⟩:=nQ I.hok hq
 obtain ⟨ep,dd⟩:=dd.dictAt
 have hkl:kvs.length=ss.length:=by
  have:=rel.length
  rw [Yz,Zy] at this
  lia
 have hky:∀ i:Nat,(kvs[i]?).map (fun x=>x.1)=(ss[i]?).map (Sum.inr:Str->Key):=fun i=>by
  have h1:((kvs.map (·.1)))[i]?=(ss.map (Sum.inr:Str->Key))[i]?:=by
   rw [← rel.keys]
   rw [XG (by rw [Zy];exact XR hl)]
  rw [ZQ,ZQ] at h1
  exact h1
 refine TS.mh fun A' E' hA=>PySem.W.kdu_collect (PySem.W.kdl_dict hS) (hA.trans (I.ok.hd hc)) dd (by rw [Yz,Zy] at hz;lia) fun h' tk acc kp hacc=>?_
 have I1:Inv X pins σ H { s with heap:=h',toks:=tk }:=I.kept kp
 have hal:acc.toList.length=ss.length:=by rw [YY,hacc.1,hkl]
 have each:∀ i v,acc.toList[i]?=some v->∃ x t,v=Value.str x t/\ss[i]?=some x:=fun i v hv=>by
  rw [Yq] at hv
  obtain ⟨k,x,e1,e2⟩:=hacc.2 i v hv
  have e3:=hky i
  rw [e1] at e3
  cases e4:ss[i]? with
  | none=>rw [e4] at e3;cases e3
  | some y =>
   rw [e4] at e3
   have e5:k=Sum.inr y:=Zo e3
   subst e5
   obtain ⟨t,rfl⟩:=Value.isStrOf_shape (show Value.isStrOf y v=true from e2)
   exact ⟨y,t,rfl,e4⟩
 have hv:∀ v∈acc.toList,∃ x t,v=Value.str x t:=fun v hm=>by
  obtain ⟨i,hi,e⟩:=List.getElem_of_mem hm
  obtain ⟨x,t,e1,_⟩:=each i v (by rw [Zm hi,e])
  exact ⟨x,t,e1⟩
 have es:acc.toList.map strOf=ss:=by
  apply List.ext_getElem?
  intro i
  rw [ZQ]
  cases e:acc.toList[i]? with
  | none =>
   have:acc.toList.length<=i:=Yv.mp e
   rw [Yv.mpr (by lia)]
   rfl
  | some v =>
   obtain ⟨x,t,rfl,e1⟩:=each i v e
   rw [e1]
   rfl
 refine ⟨hv,by omega,fun out h2 e o1 o2 kp2 he=>?_⟩
 have hv':∀ v∈out,∃ x t,v=Value.str x t:=fun v hm=>hv v (o1.mem_iff.mp hm)
 have hz2:((out.map strOf).map V.str).length<=sizeLine:=by rw [Zy,Zy,o1.length_eq,hal,Y2];omega
 exact ⟨.ref h'.objs.size,_,I1.laid (t':=tk) kp2 (Zk _) (show b9 X.prog X.w _ h2 _ (.lst ((out.map strOf).map V.str)) from ⟨hz2,out,e,oF hv',he⟩),rfl,q _ _ (I1.hok.fresh (Zk _)) (by rw [← es];exact o1.map _) o2⟩
end
end L2
namespace VS
open PySem PySem.Spec PyProof.Rows L2
section
variable {G:Gx} {X:Cx} {e:Expr} {cs:Exs} {p pos:Pos}
noncomputable def ft:Wy->Wx
 | [(_,.dct 0 l)]=>(strs? (l.map (·.1))).bind fun ss=>if ss.length < 64/\ss.all txB=true then some (.fr,.lst ((d2 ss).map .str)) else none
 | _=>none
theorem uE:eK G (fun xs H Q=>∃ p,∃ (ss:List Str) (vs:List V),xs=[.ref p]/\ss.length < 64/\ss.length=vs.length/\H p=some (.dK ((ss.map Sum.inr).zip vs)) ∧
  ∀ (l:Addr) (ss':List Str),H l=none->ss'.Perm ss->ss'.Pairwise (fun a b=>¬ b.cps.toList < a.cps.toList)->Q (.ref l) (upd H l (.lst (ss'.map V.str)))) ft:=by
 intro Φ η H0 H l vs Fs m t Q A e k
 unfold ft at e
 split at e
 ·rename_i mx x
  obtain ⟨ss,e1,e2⟩:=Zz.mp e
  split at e2
  ·rename_i hb
   cases e2
   obtain ⟨v,F,rfl,rfl,rx⟩:=(show RpL G H vs [.dct 0 x] Fs from A.rp).one
   obtain ⟨a,ks,ys,ts,Gs,rfl,rfl,ha,hl,rfl,ra⟩:=d7 rx
   have hl2:ks.length=ts.length:=by rw [hl,ra.len.1]
   have e3:((ks.map aX).zip ts).map (·.1)=ks.map aX:=XG (by rw [Zy];exact XR hl2)
   rw [e3] at e1
   have e4:=keys_str e1
   refine ⟨a,ss.map sx,ys,rfl,by rw [Zy];exact hb.1,?_,by rw [← e4];exact ha,tY k A.same fun s hs=>yG (Yw.mp hb.2 s hs)⟩
   rw [← hl,e4,Zy,Zy,Zy]
  ·cases e2
 ·cases e
theorem v8 (hm:X.mg "sorted" = none) (ha:PVs G X [e] cs) (hg:Gl X "sorted" := by rfl) (hK:X.K=G.K:=by rfl) (hc:X.calm=true:=by rfl) (he:starEach [e] X.env=(false,eval e X.env) :: starEach [] X.env:=by rfl):PV G X (.Call (.Name "sorted" p) [e] [] pos) (eN ft cs) :=
 gz (ik hc) uE hg hm qD ha (he:=he) (hpl:=rfl)
end
@[simp] noncomputable def isT:T->Bool
 | .bl true=>true
 | _=>false
mutual
@[simp] noncomputable def eW:T->Bool
 | .tup l=>cM l
 | .lst l=>cM l
 | .dct _ l=>lP l
 | .obj _ l=>dJ l
 | _=>true
@[simp] noncomputable def cM:Ww->Bool
 | []=>true
 | t :: r=>eW t && cM r
@[simp] noncomputable def lP:List (T×T)->Bool
 | []=>true
 | (_,v) :: r=>eW v && lP r
@[simp] noncomputable def dJ:List (Nat×T)->Bool
 | []=>true
 | (n,v) :: r=>(eW v && !(n == 0 && isT v)) && dJ r
end
theorem fW:∀ {ks:Ww} {ts:Ww},ks.length=ts.length->lP (ks.zip ts)=true->cM ts=true
 | [],[],_,_=>rfl
 | _ :: _,[],h,_=>by simp at h
 | [],_ :: _,h,_=>by simp at h
 | k :: ks,t :: ts,h,e=>by
  rw [Zd,lP,Zc] at e
  rw [cM,Zc]
  exact ⟨e.1,fW (by simpa using h) e.2⟩
theorem dX:∀ {ks:X7} {ts:Ww},ks.length=ts.length->dJ (ks.zip ts)=true->cM ts=true
 | [],[],_,_=>rfl
 | _ :: _,[],h,_=>by simp at h
 | [],_ :: _,h,_=>by simp at h
 | k :: ks,t :: ts,h,e=>by
  rw [Zd,dJ,Zc,Zc] at e
  rw [cM,Zc]
  exact ⟨e.1.1,dX (by simpa using h) e.2⟩
section
variable {G:Gx} {H:Hp}
theorem Rp.at {v:V} {t:T} {F:X4} (m:Option Addr) (r:Rp G H v t F):eW t=true->Rp (G.at m) H v t F :=
 Rp.rec (G:=G) (H:=H) (motive_1:=fun v t F _=>eW t=true->Rp (G.at m) H v t F) (motive_2:=fun vs ts Fs _=>cM ts=true->RpL (G.at m) H vs ts Fs)
  (fun _=>.non) (fun b _=>.bl b) (fun i _=>.int i) (fun s h _=>.str s h) (fun h _=>.scr h) (fun h _ ih f=>.tup h (ih (by simpa using f))) (fun h _ ih f=>.lst h (ih (by simpa using f)))
  (fun h l q ih f=>.dct h l (ih (fW (by rw [Zy,l];exact q.len.1) (by simpa using f)))) (fun h l q ih f=>.dctT h l (ih (fW (by rw [Zy,l];exact q.len.1) (by simpa using f))))
  (fun h l n q ih f=>.dctN h l n (ih (fW (by rw [Zy,l];exact q.len.1) (by simpa using f)))) (fun h l q ih f=>.dctZ h l (ih (fW (by rw [Zy,l];exact q.len.1) (by simpa using f)))) (fun h hc _=>.exc h hc)
  (fun {c a dx b ks vs ts Fs} h l mm q ih f=>by
   rw [eW,dJ,Zc] at f
   have hb:b=false:=by
    cases b with
    | false=>rfl
    | true=>simp at f
   refine .ins h l (fun z=>?_) (ih (dX (by rw [l];exact q.len.1) f.2))
   rw [hb] at z
   cases z)
  (fun _=>.nil) (fun _ _ i1 i2 f=>by
   rw [cM,Zc] at f
   exact .cons (i1 f.1) (i2 f.2)) r
theorem RpL.at (m:Option Addr):∀ {vs:List V} {ts:Ww} {Fs:Xq},RpL G H vs ts Fs->cM ts=true->RpL (G.at m) H vs ts Fs
 | _,_,_,.nil,_=>.nil
 | _,_,_,.cons r q,f=>by
  rw [cM,Zc] at f
  exact .cons (r.at m f.1) (RpL.at m q f.2)
mutual
theorem km:∀ t:T,imm t=true->eW t=true
 | .non,_=>rfl
 | .bl _,_=>rfl
 | .int _,_=>rfl
 | .str _,_=>rfl
 | .scr _,_=>rfl
 | .tup l,h=>by
  rw [eW]
  exact p9 l (by simpa using h)
 | .lst _,h=>by simp at h
 | .dct _ _,h=>by simp at h
 | .obj _ _,h=>by simp at h
theorem p9:∀ l:Ww,cY l=true->cM l=true
 | [],_=>rfl
 | t :: l,h=>by
  rw [cY,Zc] at h
  rw [cM,Zc]
  exact ⟨km t h.1,p9 l h.2⟩
end
end
noncomputable def mn (k:Nat):T->Option T
 | .obj _ (_ :: fs)=>(fs.findIdx? fun p=>p.1 == k).bind fun i=>(fs[i]?).map (·.2)
 | _=>none
noncomputable def aY (k:Nat) (a:Ex):Ex:=fun η=>(a η).bind fun x=>(mn k x.2).map fun t=>sub x.1 t
section
variable {G:Gx} {X:Cx} {a e o:Expr} {ca ce:Ex} {k i:Nat} {f x:Str} {pos pos' p1:Pos}
theorem w_fld (J:eO G) (F:FldOk G X.K k f) (ha:PV G X a ca) (hb:attributeBase a f X.env (eval a X.env)=eval a X.env):PV G X (.Attribute a f pos) (aY k ca) :=
 PE.weak (vk ha hb) fun σ H Q hq=>by
  obtain ⟨Φ,η,m,t,s,e,kq⟩:=hq
  unfold aY at e
  obtain ⟨⟨mx,y⟩,ea,e1⟩:=Zz.mp e
  obtain ⟨z,ez,e2⟩:=Zw.mp e1
  refine ⟨Φ,η,mx,y,s,ea,fun v H' F' sm r1 f1=>?_⟩
  unfold mn at ez
  split at ez
  ·rename_i c q0 fs hy
   dsimp only at hy
   subst hy
   obtain ⟨j,h1,e3⟩:=Zz.mp ez
   obtain ⟨p,h2,e4⟩:=Zw.mp e3
   subst e4
   obtain ⟨c',a,dx,b,ns,vs,ts,Fs,rfl,rfl,rfl,rfl,rfl,hA,hl,hb,ra⟩:=dF r1
   have lts:ns.length=ts.length:=hl.trans ra.len.1
   obtain ⟨k0,x0,g1,g2,g3,g4⟩:=iD (fun n=>n == k) lts h1
   have ek:k0=k:=by simpa using g3
   subst ek
   have ep:p=(k0,x0):=by
    have:(ns.zip ts)[j]?=some (k0,x0):=by rw [Yf];exact ⟨g1,g2⟩
    rw [this] at h2;exact (Zo h2).symm
   subst ep
   obtain ⟨u,Fi,u1,u2,u3⟩:=ra.get j g2
   have hlk:=oy (G:=G) (c:=c'+1) J hl h1 g1 u1
   rw [F.nm c'] at hlk
   refine ⟨a,_,dx,_,u,rfl,hA,F.cl c',F.no c',hlk,?_⟩
   have fp:=((f1.sub (Z2 _ _)).sub (dq u2)).up u3
   unfold VS.sub at e2
   rw [e2] at fp
   have et:x0=t:=congrArg Prod.snd e2
   rw [et] at u3
   exact kq u H' Fi sm u3 fp
  ·cases ez
noncomputable def gp (i k:Nat) (e:Ex) (η:VS.Env):Option Out:=(e η).bind fun v=>match η[i]? with
 | some (some (.ow (.obj c (q :: fs))))=>(fit v).bind fun t=>if fs.length < 900/\(fs.all fun p=>!(p.1 == k))=true then some (.nx (η.set i (some (.ow (.obj c (q :: (fs++[(k,t)]))))))) else none
 | _=>none
theorem oh {g:Nat->Str} {k:Nat} {v:V} (J:∀ k k':Nat,g k=g k'->k=k'):∀ {ks:X7} {vs:List V} {ts:Ww},ks.length=vs.length->ks.length=ts.length->((ks.zip ts).all fun p=>!(p.1 == k))=true->gr (g k) v ((ks.map g).zip vs)=((ks++[k]).map g).zip (vs++[v])
 | [],[],_,_,_,_=>rfl
 | [],_ :: _,_,h,_,_=>by simp at h
 | _ :: _,[],_,h,_,_=>by simp at h
 | _ :: _,_ :: _,[],_,h,_=>by simp at h
 | k0 :: ks,v0 :: vs,t0 :: ts,h1,h2,h3=>by
  rw [Zd,Xr,Zc] at h3
  have ne:g k0 ≠ g k:=fun z=>by
   have:=J _ _ z
   subst this
   simp at h3
  rw [Zp,Zd,gr,Zn ne,oh J (by simpa using h1) (by simpa using h2) h3.2]
  rfl
theorem An (i k:Nat) (J:eO G) (F:FldOk G X.K k f) (he:PV G X e ce) (hN:X.N[i]?=some x) (hv:Vis X.env.scope x) (hd:(x == ("__debug__" : Str))=false) (hcd:(x == ("__classdict__" : Str))=false)
  (hs:swapsWith e (some (.Attribute (.Name x p1) f pos')) pos.line X.env=pure false):PSV G X (.Assign [.Attribute (.Name x p1) f pos'] e pos) (gp i k ce) :=
 PS.weak (zN (gm hN hv hd hcd) he hs) fun D σ H hq=>by
  obtain ⟨Φ,η,out,s,e,kq⟩:=hq
  unfold gp at e
  obtain ⟨⟨mv,tv⟩,ev,e⟩:=Zz.mp e
  split at e
  ·rename_i c q0 fs ht
   obtain ⟨t,et,e⟩:=Zz.mp e
   have em:=iG et
   cases em
   split at e
   ·rename_i hc
    cases e
    obtain ⟨v,g1,g2⟩:=s.rp _ _ ht
    refine ⟨Φ,η,.fr,tv,s,ev,fun y H1 Fy sm ry fy=>⟨v,g1,?_⟩⟩
    obtain ⟨c',a,dx,b,ns,vs,ts,Fs,rfl,rfl,rfl,rfl,eF,hA,hl,hb,ra⟩:=dF g2
    have nd:=s.nd i _ ht
    rw [eF] at nd
    have nd':=Ze.mp nd
    have hA1:H1 a=some (.ins (G.ct (c'+1)).1 dx ((ns.map (G.ct (c'+1)).2).zip vs)):=sm a _ hA
    have m1:Mut (H1 a):=by rw [hA1];exact True.intro
    have lts:ns.length=ts.length:=hl.trans ra.len.1
    have na:a ∉ Fy:=fun z=>by rw [fy.2 a z] at hA;cases hA
    have ln:((ns.map (G.ct (c'+1)).2).zip vs).length < 1000:=by
     have:=hc.1
     rw [Yz] at this ⊢
     rw [Zy]
     lia
    refine ⟨a,_,dx,_,rfl,hA1,F.cl c',F.no c',ln,?_⟩
    have ep:=oh (g:=(G.ct (c'+1)).2) (k:=k) (v:=y) (J (c'+1)) hl lts hc.2
    rw [F.nm c'] at ep
    rw [ep]
    have off:∀ bb∈Fs.flatten,bb ∉ Fy:=fun bb hb hw=>Mut.ne_none (ra.dom bb hb) (fy.2 bb hw)
    have g:Chg G H (.ref a) (Φ i) (.obj (c'+1) ((0,.bl b) :: (ns.zip ts++[(k,tv)]))) (upd H1 a (.ins (G.ct (c'+1)).1 dx (((ns++[k]).map (G.ct (c'+1)).2).zip (vs++[y])))) (a :: (Fs++[Fy]).flatten):=by
     rw [eF,show ns.zip ts++[(k,tv)]=(ns++[k]).zip (ts++[tv]) from by rw [List.zip_append lts];rfl]
     refine Chg.upd sm Zx m1 (.ins aD (by simp [hl]) hb (((ra.same sm).off m1 nd'.1).append (.cons (ry.keep (Kept.upd (.inl m1)) fun bb hb o ho=>by rw [aI (fun z=>na (by rw [← z];exact hb))];exact ho) .nil))) ?_ ?_
     ·rw [Z8]
      refine Ze.mpr ⟨fun m=>?_,ZV.mpr ⟨nd'.2,by simpa using fy.1,fun b hb c hc z=>?_⟩⟩
      ·rcases Zg.mp m with m | m
       ·exact nd'.1 m
       ·exact na (by simpa using m)
      ·subst z;exact off b hb (by simpa using hc)
     ·intro bb hb
      rcases Zi.mp hb with rfl | hb
      ·exact .inl Zx
      ·rw [Z8] at hb
       rcases Zg.mp hb with hb | hb
       ·exact .inl (Zv _ hb)
       ·exact .inr (fy.2 bb (by simpa using hb))
    obtain ⟨z1,z2⟩:=s.mut ht g1 g
    exact kq _ σ _ z1 z2
   ·cases e
  ·cases e
end
noncomputable abbrev nG:=List (Nat×T)
noncomputable abbrev Mt:=nG->Ww->Option (nG×T)
noncomputable def mvF:List Bool->Xq->X4
 | b :: bs,F :: Fs=>(if b then F else [])++mvF bs Fs
 | _,_=>[]
noncomputable def puF:List Bool->Xq->X4
 | b :: bs,F :: Fs=>(if b then [] else F)++puF bs Fs
 | _,_=>[]
theorem fH:∀ {mv:List Bool} {Fs:Xq} {j:Nat} {F:X4},mv[j]?=some true->Fs[j]?=some F->F.Sublist (mvF mv Fs)
 | [],_,_,_,h,_=>by simp at h
 | _ :: _,[],_,_,_,h=>by simp at h
 | b :: bs,F0 :: Fs,0,F,h1,h2=>by
  simp at h1 h2
  subst h1 h2
  rw [mvF,Zq rfl]
  exact List.sublist_append_left _ _
 | b :: bs,F0 :: Fs,j+1,F,h1,h2=>by
  rw [mvF]
  exact (fH (by simpa using h1) (by simpa using h2)).trans (Yg _ _)
theorem mV:∀ {mv:List Bool} {Fs:Xq} {j:Nat} {F:X4},mv[j]?=some false->Fs[j]?=some F->F.Sublist (puF mv Fs)
 | [],_,_,_,h,_=>by simp at h
 | _ :: _,[],_,_,_,h=>by simp at h
 | b :: bs,F0 :: Fs,0,F,h1,h2=>by
  simp at h1 h2
  subst h1 h2
  rw [puF]
  exact List.sublist_append_left _ _
 | b :: bs,F0 :: Fs,j+1,F,h1,h2=>by
  rw [puF]
  exact (mV (by simpa using h1) (by simpa using h2)).trans (Yg _ _)
theorem pF:∀ {mv:List Bool} {Fs:Xq} {i j:Nat} {F F':X4},(mvF mv Fs).Nodup->mv[i]?=some true->mv[j]?=some true->Fs[i]?=some F->Fs[j]?=some F'->i ≠ j->∀ a∈F,a ∉ F'
 | [],_,_,_,_,_,_,h,_,_,_,_=>by simp at h
 | _ :: _,[],_,_,_,_,_,_,_,h,_,_=>by simp at h
 | b :: bs,F0 :: Fs,0,0,F,F',_,_,_,_,_,n=>absurd rfl n
 | b :: bs,F0 :: Fs,0,j+1,F,F',nd,h1,h2,h3,h4,n=>fun a ha ha'=>by
  simp at h1 h3
  subst h1 h3
  rw [mvF,Zq rfl,ZV] at nd
  exact nd.2.2 a ha a ((fH (by simpa using h2) (by simpa using h4)).subset ha') rfl
 | b :: bs,F0 :: Fs,i+1,0,F,F',nd,h1,h2,h3,h4,n=>fun a ha ha'=>by
  simp at h2 h4
  subst h2 h4
  rw [mvF,Zq rfl,ZV] at nd
  exact nd.2.2 a ha' a ((fH (by simpa using h1) (by simpa using h3)).subset ha) rfl
 | b :: bs,F0 :: Fs,i+1,j+1,F,F',nd,h1,h2,h3,h4,n=>by
  rw [mvF,ZV] at nd
  exact pF nd.2.1 (by simpa using h1) (by simpa using h2) (by simpa using h3) (by simpa using h4) (by lia)
theorem p5:∀ {mv:List Bool} {Fs:Xq} {a:Addr},a∈mvF mv Fs->∃ (j:Nat) (F:X4),mv[j]?=some true/\Fs[j]?=some F/\a∈F
 | [],_,_,h=>by simp [mvF] at h
 | _ :: _,[],_,h=>by simp [mvF] at h
 | b :: bs,F0 :: Fs,a,h=>by
  rw [mvF] at h
  rcases Zg.mp h with h | h
  ·cases b with
   | true=>exact ⟨0,F0,rfl,rfl,h⟩
   | false=>simp at h
  ·obtain ⟨j,F,h1,h2,h3⟩:=p5 h
   exact ⟨j+1,F,by simpa using h1,by simpa using h2,h3⟩
noncomputable def kD (b:Bool) (t:T):Wz:=some (if b then .ow t else .pu t)
noncomputable def uJ (c:Nat) (η:VS.Env):Option nG:=match (η[(0:Nat)]?:Option (Wz)) with
 | some (some (.ow (.obj c' ((0,.bl true) :: fs))))=>if c'=c+1 then some fs else none
 | _=>none
noncomputable def mfn (c np nn:Nat) (mv:List Bool) (body:Sx):Mt:=fun fs ts=>if ts.length+1=np/\mv.length=ts.length then
 (body ((some (.ow (.obj (c+1) ((0,.bl true) :: fs))) :: List.zipWith kD mv ts)++List.replicate (nn - np) none)).bind fun o=>match o with
  | .rt v η=>(uJ c η).bind fun fs'=>if imm v.2 then some (fs',v.2) else none
  | .nx η=>(uJ c η).map fun fs'=>(fs',.non)
  | _=>none else none
noncomputable def spM (G:Gx) (c:Nat) (mv:List Bool) (g:Mt):Sp:=fun vs H Q _=>∃ (a:Addr) (us:List V) (fs:nG) (ts:Ww) (F:X4) (Fs:Xq) (fs':nG) (x:T),vs=.ref a :: us/\Rp (G.at (some a)) H (.ref a) (.obj (c+1) ((0,.bl true) :: fs)) F ∧
 RpL (G.at (some a)) H us ts Fs/\mv.length=ts.length/\(F++mvF mv Fs).Nodup/\(∀ b∈F++mvF mv Fs,b ∉ puF mv Fs)/\g fs ts=some (fs',x) ∧
 ∀ u H' F',Chg (G.at (some a)) H (.ref a) (F++mvF mv Fs) (.obj (c+1) ((0,.bl true) :: fs')) H' F'->Rp (G.at (some a)) H' u x []->Q u H'
section
variable {G:Gx} {H:Hp}
theorem uP {v:V} {us:List V} {t:T} {ts:Ww} {F:X4} {Fs:Xq} {mv:List Bool} (r0:Rp G H v t F) (r:RpL G H us ts Fs) (hm:mv.length=ts.length) (nd:(F++mvF mv Fs).Nodup) (sp:∀ b∈F++mvF mv Fs,b ∉ puF mv Fs) (n nv:Nat) (hn:nv=us.length+1) :
  SR G (fun i=>(F :: Fs).getD i []) ((some (.ow t) :: List.zipWith kD mv ts)++List.replicate (n - (ts.length+1)) none) ((v :: us).map some++List.replicate (n - nv) none) H ∧
  ∀ a,cG (fun i=>(F :: Fs).getD i []) ((some (.ow t) :: List.zipWith kD mv ts)++List.replicate (n - (ts.length+1)) none) a->a∈F++mvF mv Fs:=by
 subst hn
 have hl:=r.len
 have zl:(List.zipWith kD mv ts).length=ts.length:=by rw [List.length_zipWith,hm,Nat.min_self]
 have back:∀ {i:Nat} {c:Cell},((some (Cell.ow t) :: List.zipWith kD mv ts)++List.replicate (n - (ts.length+1)) none)[i]?=some (some c)->(i=0/\c=.ow t)\/∃ (j:Nat) (b:Bool) (u:T),i=j+1/\mv[j]?=some b/\ts[j]?=some u/\c=(if b then .ow u else .pu u):=fun {i c} h=>by
  cases i with
  | zero=>exact .inl ⟨rfl,(Zo (Zo h)).symm⟩
  | succ j =>
   rw [Xo,List.getElem?_cons_succ] at h
   by_cases hj:j < ts.length
   ·rw [ZJ (by rw [zl];exact hj),List.getElem?_zipWith] at h
    have e1:mv[j]?=some mv[j]:=Zm (by rw [hm];exact hj)
    have e2:ts[j]?=some ts[j]:=Zm hj
    rw [e1,e2] at h
    exact .inr ⟨j,_,_,rfl,e1,e2,(Zo (Zo h)).symm⟩
   ·rw [ZA (by rw [zl];exact ZP hj),Yl] at h
    split at h <;> cases h
 have fp:∀ {j:Nat} {u:T},ts[j]?=some u->∃ w Fj,us[j]?=some w/\Fs[j]?=some Fj/\Rp G H w u Fj:=fun {j u} h=>r.get j h
 have ow:∀ {i:Nat} {u:T},((some (Cell.ow t) :: List.zipWith kD mv ts)++List.replicate (n - (ts.length+1)) none)[i]?=some (some (.ow u))->i=0\/∃ j:Nat,i=j+1/\mv[j]?=some true/\ts[j]?=some u:=fun {i u} h=>by
  rcases back h with ⟨h1,h2⟩ | ⟨j,b,u',h1,h2,h3,h4⟩
  ·exact .inl h1
  ·cases b with
   | true=>cases h4;exact .inr ⟨j,h1,h2,h3⟩
   | false=>cases h4
 rw [ZV] at nd
 refine ⟨⟨?_,fun i c h=>?_,fun i u h=>?_,fun i j u c h1 h2 n=>?_⟩,fun a ⟨i,u,h1,h2⟩=>?_⟩
 ·simp [zl];lia
 ·rcases back h with ⟨rfl,rfl⟩ | ⟨j,b,u,rfl,h2,h3,h4⟩
  ·exact ⟨v,rfl,r0⟩
  ·obtain ⟨w,Fj,g1,g2,g3⟩:=fp h3
   refine ⟨w,?_,?_⟩
   ·rw [Zp,Xo,List.getElem?_cons_succ,ZJ (by rw [Zy];exact (Zf.mp g1).1),ZQ,g1]
    rfl
   ·show Rp G H w (iX c) ((F :: Fs).getD (j+1) [])
    rw [YZ,Zs,g2,h4]
    cases b <;> exact g3
 ·rcases ow h with rfl | ⟨j,rfl,h2,h3⟩
  ·exact nd.1
  ·obtain ⟨w,Fj,g1,g2,g3⟩:=fp h3
   show ((F :: Fs).getD (j+1) []).Nodup
   rw [YZ,Zs,g2]
   exact nd.2.1.sublist (fH h2 g2)
 ·rcases ow h1 with rfl | ⟨i',rfl,a2,a3⟩
  ·rcases back h2 with ⟨rfl,_⟩ | ⟨j',b,u',rfl,b2,b3,_⟩
   ·exact absurd rfl n
   ·obtain ⟨w,Fj,g1,g2,g3⟩:=fp b3
    intro a ha
    show a ∉ (F :: Fs).getD (j'+1) []
    rw [YZ,Zs,g2]
    intro ha'
    cases b with
    | true=>exact nd.2.2 a ha a ((fH b2 g2).subset ha') rfl
    | false=>exact sp a (Z1 _ ha) ((mV b2 g2).subset ha')
  ·obtain ⟨w,Fi,g1,g2,g3⟩:=fp a3
   have ei:(F :: Fs).getD (i'+1) []=Fi:=by rw [YZ,Zs,g2];rfl
   show ∀ a∈(F :: Fs).getD (i'+1) [],_
   rw [ei]
   rcases back h2 with ⟨rfl,_⟩ | ⟨j',b,u',rfl,b2,b3,_⟩
   ·exact fun a ha ha'=>nd.2.2 a ha' a ((fH a2 g2).subset ha) rfl
   ·obtain ⟨w',Fj,k1,k2,k3⟩:=fp b3
    intro a ha
    show a ∉ (F :: Fs).getD (j'+1) []
    rw [YZ,Zs,k2]
    intro ha'
    cases b with
    | true=>exact pF nd.2.1 a2 b2 g2 k2 (fun z=>n (by rw [z])) a ha ha'
    | false=>exact sp a (ZU _ ((fH a2 g2).subset ha)) ((mV b2 k2).subset ha')
 ·rcases ow h1 with rfl | ⟨j,rfl,h3,h4⟩
  ·exact Z1 _ h2
  ·obtain ⟨w,Fj,g1,g2,g3⟩:=fp h4
   have h2':a∈(F :: Fs).getD (j+1) []:=h2
   rw [YZ,Zs,g2] at h2'
   exact ZU _ ((fH h3 g2).subset h2')
theorem uT {c:Nat} {η:VS.Env} {fs:nG} (h:uJ c η=some fs):η[0]?=some (some (.ow (.obj (c+1) ((0,.bl true) :: fs)))):=by
 unfold uJ at h
 split at h
 ·rename_i c' fs' e
  split at h
  ·rename_i hc
   cases h
   rw [e,hc]
  ·cases h
 ·cases h
end
section
variable {G:Gx} {P:Program} {w:World} {K:X0} {mg:X3} {base:Heap}
theorem Cg {qual:Str} {st:Stmt} {f:Addr} {fd:FuncData} {N ps:List Str} {k np nn c:Nat} {mv:List Bool} {body:Sx} (ok:∀ {sp:Sp},(∀ vs H Q E,sp vs H Q E->vs.length=ps.length)->(∀ (cdv:Value) (A:Around) (outer:List PySem.Env) (s:Shared) (H:Hp) (vs:List V) (Q:VK) (E:XK),Room k (A.deeper (envOfC qual (af st) s.heap.objs.size f cdv))->sp vs H Q E →
   ∃ t,PSs (fC CX0 P w K mg base N qual (af st) f cdv A outer s H E).nox (au st) t/\t { nx:=fun _ H'=>Q .non H',rt:=Q } (L2.start N vs) H)->FnOk P w K mg base CX0 (k+1) f fd ps sp) (hp:ps.length=np) (hn:N.length=nn)
  (hb:∀ (a:Addr) (cdv:Value) (A:Around) (outer:List PySem.Env) (s:Shared) (H:Hp) (E:XK),Room k (A.deeper (envOfC qual (af st) s.heap.objs.size f cdv))->dh (G.at (some a)) (fC CX0 P w K mg base N qual (af st) f cdv A outer s H E).nox (au st) body) :
  FnOk P w K mg base CX0 (k+1) f fd ps (spM G c mv (mfn c np nn mv body)):=by
 refine ok (fun vs H Q E h=>?_) fun cdv A outer s H vs Q E hr h=>?_
 ·obtain ⟨a,us,fs,ts,F,Fs,fs',y,rfl,r0,r,hm,nd,sp,e,q⟩:=h
  unfold mfn at e
  split at e
  ·rename_i hl
   rw [ZZ,r.len.1,hl.1,hp]
  ·cases e
 ·obtain ⟨a,us,fs,ts,F,Fs,fs',y,rfl,r0,r,hm,nd,sp,e,q⟩:=h
  refine ⟨_,hb a cdv A outer s H E hr,?_⟩
  unfold mfn at e
  split at e
  ·rename_i hl
   obtain ⟨o,e1,e2⟩:=Zz.mp e
   obtain ⟨s0,ow0⟩:=uP r0 r hm nd sp nn (us.length+1) rfl
   rw [hl.1] at s0 ow0
   have e3:L2.start N (V.ref a :: us)=(V.ref a :: us).map some++List.replicate (nn - (us.length+1)) none:=by
    unfold L2.start
    rw [hn]
    rfl
   rw [e3]
   have fin:∀ {η':VS.Env} {Φ':Fps} {σ':L2.St} {H':Hp},uJ c η'=some fs'->SR (G.at (some a)) Φ' η' σ' H'->Frm (fun i=>(F :: Fs).getD i []) ((some (.ow (.obj (c+1) ((0,.bl true) :: fs))) :: List.zipWith kD mv ts)++List.replicate (nn - np) none) H Φ' η' H' →
     Chg (G.at (some a)) H (.ref a) (F++mvF mv Fs) (.obj (c+1) ((0,.bl true) :: fs')) H' (Φ' 0):=fun {η' Φ' σ' H'} hme s' fr=>by
    have h0:=uT hme
    obtain ⟨v',g1,g2⟩:=s'.rp 0 _ h0
    have g2':Rp (G.at (some a)) H' v' (.obj (c+1) ((0,.bl true) :: fs')) (Φ' 0):=g2
    obtain ⟨c',a',dx,b,ns,vs,ts',Fs',ec,rfl,eb,_,eF,hA,hl',hb',ra⟩:=dF g2'
    have hb1:b=true:=by cases eb;rfl
    have ea:some a=some a':=hb' hb1
    cases ea
    refine ⟨fr.kept,fun b' o' hb' ho=>(fr.keep b' o' ho fun z=>hb' (ow0 b' z)).1,fr.dom,g2',s'.nd 0 _ h0,fun b' hb'=>?_⟩
    rcases fr.ow b' ⟨0,_,h0,hb'⟩ with z | z
    ·exact .inl (ow0 b' z)
    ·exact .inr z
   refine ⟨_,_,o,s0,e1,?_⟩
   cases o with
   | nx η' =>
    obtain ⟨fs2,e4,e5⟩:=Zw.mp e2
    cases e5
    intro Φ' σ' H' s' fr
    exact q .non H' _ (fin e4 s' fr) .non
   | rt v η' =>
    obtain ⟨fs2,e4,e5⟩:=Zz.mp e2
    split at e5
    ·rename_i hi
     cases e5
     intro u H' F' Φ' σ' s' fr r' rf
     have:=r'.imm hi
     subst this
     exact q u H' _ (fin e4 s' fr) r'
    ·cases e5
   | bk η'=>cases e2
   | ct η'=>cases e2
  ·cases e
theorem fnM {x qual:Str} {st:Stmt} {f:Addr} {fd:FuncData} {N ps:List Str} {k np nn c:Nat} {mv:List Bool} {body:Sx} (F:Fun K x qual st f fd) (S:FnScope N ps (af st)) (hp:ps.length=np) (hn:N.length=nn)
  (hb:∀ (a:Addr) (cdv:Value) (A:Around) (outer:List PySem.Env) (s:Shared) (H:Hp) (E:XK),Room k (A.deeper (envOfC qual (af st) s.heap.objs.size f cdv))->dh (G.at (some a)) (fC CX0 P w K mg base N qual (af st) f cdv A outer s H E).nox (au st) body) :
  FnOk P w K mg base CX0 (k+1) f fd ps (spM G c mv (mfn c np nn mv body)):=Cg (fun l b=>F.ok S l b) hp hn hb
structure FunD (K:X0) (x qual:Str) (st:Stmt) (f:Addr) (fd:FuncData):Prop where
 ex:∃ (T:Addr) (oc:Value) (od:Option Addr) (kV doc pm:Value) (an:Option Addr) (cdv ct:Value) (osl:Array (X6)) (o:Obj) (n:Nat),
  fd=PySem.W.fnOf x qual (aE st) (au st) (af st) (.ref T) kV doc pm an cdv ct/\K.lookup f=some ⟨oc,od,.func fd,osl⟩/\PySem.W.codeIn K cdv qual=true/\K.lookup T=some o/\o.data=.seq #[.none] n
 kp:PySem.W.keepIn K (.ref f)=true
theorem FunD.ok {x qual:Str} {st:Stmt} {f:Addr} {fd:FuncData} {N ps:List Str} {k:Nat} {sp:Sp} (F:FunD K x qual st f fd) (S:FnScope N ps (af st)) (len:∀ vs H Q E,sp vs H Q E->vs.length=ps.length)
  (hbody:∀ (cdv:Value) (A:Around) (outer:List PySem.Env) (s:Shared) (H:Hp) (vs:List V) (Q:VK) (E:XK),Room k (A.deeper (envOfC qual (af st) s.heap.objs.size f cdv))->sp vs H Q E →
   ∃ t,PSs (fC CX0 P w K mg base N qual (af st) f cdv A outer s H E).nox (au st) t/\t { nx:=fun _ H'=>Q .non H',rt:=Q } (L2.start N vs) H):FnOk P w K mg base CX0 (k+1) f fd ps sp:=by
 obtain ⟨T,oc,od,kV,doc,pm,an,cdv,ct,osl,o,n,rfl,lk,hcd,_⟩:=F.ex
 refine x8 lk hcd S len fun A outer s H vs Q E hr hsp=>?_
 obtain ⟨t,h,q⟩:=hbody cdv A outer s H vs Q E hr hsp
 exact ⟨t,h.nox,q⟩
theorem FunD.binds {x qual:Str} {st:Stmt} {f:Addr} {fd:FuncData} {ps:List Str} (F:FunD K x qual st f fd)
  (h:∀ (s:Shared) (T:Addr) (kV doc pm:Value) (an:Option Addr) (cdv ct:Value) (o:Obj) (n:Nat) (us:X5),K.In s.heap->K.lookup T=some o->o.data=.seq #[.none] n->us.length=ps.length->BindsTo s (PySem.W.fnOf x qual (aE st) (au st) (af st) (.ref T) kV doc pm an cdv ct) ⟨us,[]⟩ (ps.zip us)):Binds K fd ps []:=by
 obtain ⟨T,oc,od,kV,doc,pm,an,cdv,ct,osl,o,n,rfl,lk,hcd,l2,l3⟩:=F.ex
 intro s us X hl
 rw [ZK] at hl ⊢
 exact h s T kV doc pm an cdv ct o n us X l2 l3 hl
end
noncomputable def argsOk:List Bool->Wy->Bool
 | [],[]=>true
 | b :: bs,v :: vs=>(if b then v.1 == .fr else imm v.2) && argsOk bs vs
 | _,_=>false
noncomputable def jA (c:Nat) (mv:List Bool) (g:Mt) (xs:Wy):T->Option (T×Val)
 | .obj c' ((0,.bl b) :: fs)=>if c'=c+1/\dJ fs=true/\argsOk mv xs=true/\cM (trees xs)=true then (g fs (trees xs)).bind fun z=>if dJ z.1=true/\imm z.2=true then some (.obj c' ((0,.bl b) :: z.1),(.fr,z.2)) else none else none
 | _=>none
noncomputable def br (i:Nat) (way:List Stp) (c:Nat) (mv:List Bool) (g:Mt) (as:Exs) (η:VS.Env):Option (Val×VS.Env):=match (η[i]?:Option (Wz)) with
 | some (some (.ow t))=>(keys way η).bind fun ks=>(as η).bind fun xs=>(pm (jA c mv g xs) ks t).map fun z=>(z.2,η.set i (some (.ow z.1)))
 | _=>none
noncomputable def tX (G:Gx) (x:Xx):TE:=fun σ H Q=>∃ Φ η v η',SR G Φ η σ H/\x η=some (v,η')/\imm v.2=true/\∀ u H' Φ',SR G Φ' η' σ H'->Frm Φ η H Φ' η' H'->Rp G H' u v.2 []->Q u H'
noncomputable def PX (G:Gx) (X:Cx) (e:Expr) (x:Xx):Prop:=PE X e (tX G x)
theorem ia:∀ {mv:List Bool} {xs:Wy},argsOk mv xs=true->mv.length=xs.length
 | [],[],_=>rfl
 | [],_ :: _,h=>by simp [argsOk] at h
 | _ :: _,[],h=>by simp [argsOk] at h
 | b :: bs,v :: vs,h=>by
  rw [argsOk,Zc] at h
  rw [ZZ,ZZ,ia h.2]
theorem kN:∀ {mv:List Bool} {xs:Wy} {Fs:Xq},argsOk mv xs=true->(mvF mv Fs).Sublist (frs xs Fs)
 | [],[],_,_=>by simp [mvF]
 | [],_ :: _,_,h=>by simp [argsOk] at h
 | _ :: _,[],_,h=>by simp [argsOk] at h
 | b :: bs,v :: vs,[],h=>by simp [mvF]
 | b :: bs,(m,t) :: vs,F :: Fs,h=>by
  rw [argsOk,Zc] at h
  have ih:=kN (Fs:=Fs) h.2
  rw [mvF]
  cases b with
  | true =>
   have:m=.fr:=by simpa using h.1
   subst this
   exact List.Sublist.append (YA _) ih
  | false =>
   rw [Zn Zh,Xk]
   cases m with
   | fr=>exact ih.trans (Yg _ _)
   | pu=>exact ih
   | bo=>exact ih
theorem mR {G:Gx} {H:Hp}:∀ {mv:List Bool} {xs:Wy} {us:List V} {Fs:Xq},argsOk mv xs=true->RpL G H us (trees xs) Fs->puF mv Fs=[]
 | [],[],_,_,_,_=>by simp [puF]
 | [],_ :: _,_,_,h,_=>by simp [argsOk] at h
 | _ :: _,[],_,_,h,_=>by simp [argsOk] at h
 | b :: bs,(m,t) :: vs,_,_,h,r=>by
  rw [argsOk,Zc] at h
  cases r with
  | cons r0 q =>
   rw [puF,mR h.2 q,ZK]
   cases b with
   | true=>rfl
   | false=>exact r0.imm (by simpa using h.1)
theorem pR {Φ:Fps} {η:VS.Env} {H:Hp} {mv:List Bool} {xs:Wy} {Fs:Xq} (h:argsOk mv xs=true) (f:FpL Φ η H xs Fs):∀ a∈mvF mv Fs,H a=none:=fun a ha=>by
 obtain ⟨j,F,h1,h2,h3⟩:=p5 ha
 have key:∀ {mv:List Bool} {xs:Wy} {j:Nat},argsOk mv xs=true->mv[j]?=some true->∃ v,xs[j]?=some v/\v.1=.fr:=by
  intro mv
  induction mv with
  | nil=>intro xs j _ h;simp at h
  | cons b bs ih =>
   intro xs j h h1
   cases xs with
   | nil=>simp [argsOk] at h
   | cons v vs =>
    rw [argsOk,Zc] at h
    cases j with
    | zero =>
     simp at h1
     subst h1
     exact ⟨v,rfl,by simpa using h.1⟩
    | succ j =>
     obtain ⟨w,q1,q2⟩:=ih h.2 (by simpa using h1)
     exact ⟨w,by simpa using q1,q2⟩
 obtain ⟨v,q1,q2⟩:=key h h1
 have:=f.each j v F q1 h2
 rw [q2] at this
 exact this.2 a h3
section
variable {G:Gx} {X:Cx} {CX:CXT} {i c k k':Nat} {way:List Stp} {o e:Expr} {es:List Expr} {cs:Exs} {m:Str} {f:Addr} {fd:FuncData} {ps:List Str} {mv:List Bool} {g:Mt} {apos pos:Pos}
theorem om {σ:L2.St} {H:Hp} {Q:VK} {E:XK} {t:TA} (J:eO G) (hn:∀ k,(G.ct (c+1)).2 k ≠ m) (ht:∀ Φ η xs σ H (R:List V->Hp->Prop),SR G Φ η σ H->cs η=some xs->(∀ vs H' Fs,aP H H'->RpL G H' vs (trees xs) Fs->FpL Φ η H xs Fs->R vs H')->t σ H R)
  (h:tX G (br i way c mv g cs) σ H Q):qm (G.ct (c+1)).1 m (spM G c mv g) [] E (tPl G i way) t σ H Q:=by
 obtain ⟨Φ,η,v,η',s,e,him,kq⟩:=h
 unfold br at e
 split at e
 ·rename_i t0 h0
  obtain ⟨ks,ek,e3⟩:=Zz.mp e
  obtain ⟨xs,el,e4⟩:=Zz.mp e3
  obtain ⟨⟨t',x2⟩,e5,e6⟩:=Zw.mp e4
  cases e6
  obtain ⟨v0,h1,h2⟩:=s.rp _ _ h0
  obtain ⟨w,x,F1,x3,w1,w2,w3,w4,w5⟩:=gQ ks J h2 (s.nd i t0 h0) e5
  unfold jA at w4
  split at w4
  ·rename_i c1 b fs
   split at w4
   ·rename_i hc
    obtain ⟨rfl,hno,hao,han⟩:=hc
    obtain ⟨⟨fs',y⟩,eg,e7⟩:=Zz.mp w4
    split at e7
    ·rename_i hno'
     cases e7
     obtain ⟨c',a,dx,b',ns,vs,ts,Fs,ec,rfl,eb,rfl,eF,hA,hl,hb,ra⟩:=dF w2
     cases ec
     cases eb
     have lts:ns.length=ts.length:=hl.trans ra.len.1
     refine ⟨Φ,η,t0,ks,v0,.ref a,s,h0,h1,ek,w1,fun H1 sm=>⟨a,dx,_,rfl,sm a _ hA,?_,?_⟩⟩
     ·have key:∀ (ns:X7) (vs:List V),((ns.map (G.ct (c+1)).2).zip vs).lookup m=none:=by
       intro ns
       induction ns with
       | nil=>intro vs;simp
       | cons n ns ih =>
        intro vs
        cases vs with
        | nil=>simp
        | cons v vs =>
         rw [Zp,Zd,Z6]
         have:(m == (G.ct (c+1)).2 n)=false:=by
          rw [beq_eq_false_iff_ne]
          exact fun z=>hn n z.symm
         rw [this]
         exact ih vs
      exact key ns vs
     ·refine ht Φ η xs σ H1 _ (s.same sm) el fun us H2 Gs sm2 rp2 fp2=>?_
      have sm3:aP H H2:=sm.trans sm2
      have fp0:FpL Φ η H xs Gs:=⟨fun n v' F' a1 a2=>(fp2.each n v' F' a1 a2).back sm,fp2.nd⟩
      have mvn:=pR hao fp0
      have ra2:RpL (G.at (some a)) H2 vs ts Fs:=(ra.same sm3).at (some a) (dX lts hno)
      refine ⟨a,us,ns.zip ts,trees xs,F1,Gs,fs',y,by rw [ZK],?_,rp2.at (some a) han,?_,?_,?_,eg,fun u H' F' gc ru=>?_⟩
      ·rw [eF]
       exact .ins (sm3 a _ hA) hl (fun _=>rfl) ra2
      ·rw [ia hao]
       simp [trees]
      ·refine ZV.mpr ⟨w3,fp2.nd.sublist (kN hao),fun b1 hb1 b2 hb2 z=>?_⟩
       subst z
       exact Mut.ne_none (w2.dom b1 hb1) (mvn b1 hb2)
      ·rw [mR hao rp2]
       exact fun b1 _ z=>nomatch z
      ·have back:Rp G H' (.ref a) (.obj (c+1) ((0,.bl b) :: fs')) F':=by
        obtain ⟨c2,a2,dx2,b2,ns2,vs2,ts2,Fs2,ec2,ea2,eb2,ef2,eF2,hA2,hl2,hb2,ra3⟩:=dF gc.rp
        cases ec2
        cases ea2
        subst ef2
        rw [eF2]
        exact .ins hA2 hl2 hb (ra3.at G.me (dX (hl2.trans ra3.len.1) hno'.1))
       have gG:Chg G H (.ref a) F1 (.obj (c+1) ((0,.bl b) :: fs')) H' F':=⟨(Kept.of sm3).trans gc.kept,fun b1 o1 hb1 ho=>gc.keep b1 o1 (fun z=>(Zg.mp z).elim hb1 fun z=>by rw [mvn b1 z] at ho;cases ho) (sm3 b1 o1 ho),fun b1 h=>gc.dom b1 fun z=>h (sm3.free z),back,gc.nd,fun b1 hb1=>by
        rcases gc.sub b1 hb1 with z | z
        ·rcases Zg.mp z with z | z
         ·exact .inl z
         ·exact .inr (mvn b1 z)
        ·exact .inr (sm3.free z)⟩
       obtain ⟨F2,g2⟩:=w5 H' F' gG
       obtain ⟨z1,z2⟩:=s.mut h0 h1 g2
       exact kq u H' _ z1 z2 (ru.at G.me (km y hno'.2))
    ·cases e7
   ·cases w4
  ·cases w4
 ·cases e
theorem vY {pl:Sem Bool} (J:eO G) (hn:∀ k,(G.ct (c+1)).2 k ≠ m) (ho:PPl G X o i way) (hc:Cls X.K (G.ct (c+1)).1) (hm:Meth X.K (G.ct (c+1)).1 m f) (F:FnOk X.prog X.w X.K X.mg X.base CX0 k f fd ps (spM G c mv g)) (hr:Room k' X.A) (hk:k<=k') (hb:Binds X.K fd ps []) (ha:PVs G X (e :: es) cs)
  (hst:starEach (e :: es) X.env=(false,eval e X.env) :: starEach es X.env) (hpl:(backTo pos (starEach es X.env)).any (·.1)=false)
  (ht:eval (.Call (.Attribute o m apos) (e :: es) [] pos) X.env=(do
   let ov ← eval o X.env
   standAt apos.atName
   let (f,first) ← holding [ov] (getMethod ov m pl)
   callWith pos f first (backTo pos (starEach (e :: es) X.env)) (backToKw pos (keywordEach [] X.env)))):PX G X (.Call (.Attribute o m apos) (e :: es) [] pos) (br i way c mv g cs) :=
 PE.weak (mZ (E:=E0) ho hc hm F (hr.mono hk) hb .nil jy ha hst hpl ht) fun σ H Q h=>om (t:=tEs G cs) J hn (fun Φ η xs σ H R s e k=>⟨Φ,η,xs,s,e,k⟩) h
theorem uN {pl:Sem Bool} (J:eO G) (hn:∀ k,(G.ct (c+1)).2 k ≠ m) (ho:PPl G X o i way) (hc:Cls X.K (G.ct (c+1)).1) (hm:Meth X.K (G.ct (c+1)).1 m f) (F:FnOk X.prog X.w X.K X.mg X.base CX0 k f fd ps (spM G c mv g)) (hr:Room k' X.A) (hk:k<=k') (hb:Binds X.K fd ps [])
  (ht:eval (.Call (.Attribute o m apos) [] [] pos) X.env=(do
   let ov ← eval o X.env
   standAt apos.atName
   let (f,first) ← holding [ov] (getMethod ov m pl)
   callWith pos f first (backTo pos (starEach [] X.env)) (backToKw pos (keywordEach [] X.env)))):PX G X (.Call (.Attribute o m apos) [] [] pos) (br i way c mv g ai) :=
 PE.weak (ou (E:=E0) ho hc hm F (hr.mono hk) hb .nil jy ht) fun σ H Q h=>om (t:=rN) J hn (fun Φ η xs σ H R s e k=>by
  cases (show some ([]:Wy)=some xs from e)
  exact k [] H [] (aP.refl _) .nil ⟨fun i v F h=>by simp at h,by simp [frs]⟩) h
noncomputable def sXM (x:Xx):Sx:=fun η=>(x η).bind fun z=>if imm z.1.2 then some (.nx z.2) else none
noncomputable def fL (j:Nat) (x:Xx):Sx:=fun η=>(x η).bind fun z=>if imm z.1.2=true/\j < z.2.length then some (.nx (z.2.set j (some (.pu z.1.2)))) else none
noncomputable def jG (x:Xx):Sx:=fun η=>(x η).bind fun z=>if imm z.1.2 then some (.rt (.fr,z.1.2) z.2) else none
variable {x:Xx}
theorem uX (h:PX G X e x) (hsw:swapsWith e none pos.line X.env=pure false):PSV G X (.Expr e pos) (sXM x) :=
 PS.weak (iT h hsw) fun D σ H hq=>by
  obtain ⟨Φ,η,out,s,e,k⟩:=hq
  unfold sXM at e
  obtain ⟨⟨v,η'⟩,e1,e2⟩:=Zz.mp e
  split at e2
  ·rename_i hi
   cases e2
   exact ⟨Φ,η,v,η',s,e1,hi,fun u H' Φ' s' f r=>k Φ' σ H' s' f⟩
  ·cases e2
theorem wD (h:PX G X e x):PSV G X (.Return (some e) pos) (jG x) :=
 PS.weak (mY h) fun D σ H hq=>by
  obtain ⟨Φ,η,out,s,e,k⟩:=hq
  unfold jG at e
  obtain ⟨⟨v,η'⟩,e1,e2⟩:=Zz.mp e
  split at e2
  ·rename_i hi
   cases e2
   exact ⟨Φ,η,v,η',s,e1,hi,fun u H' Φ' s' f r=>k u H' [] Φ' σ s' f r ⟨Yh,fun a h=>nomatch h⟩⟩
  ·cases e2
theorem wR {j:Nat} {nm:Str} {pos':Pos} (h:PX G X e x) (hN:X.N.Nodup) (hi:X.N[j]?=some nm) (hx:Loc X.env.scope nm) (hs:swapsWith e (some (.Name nm pos')) pos.line X.env=pure false) (hf:X.fn nm=true\/X.env.scope.names.lookup nm=some .local) :
  PSV G X (.Assign [.Name nm pos'] e pos) (fL j x) :=
 PS.weak (o6 hN hi hx h hs hf) fun D σ H hq=>by
  obtain ⟨Φ,η,out,s,e,k⟩:=hq
  unfold fL at e
  obtain ⟨⟨v,η'⟩,e1,e2⟩:=Zz.mp e
  split at e2
  ·rename_i hi
   cases e2
   refine ⟨Φ,η,v,η',s,e1,hi.1,fun u H' Φ' s' f r=>?_⟩
   obtain ⟨q1,q2⟩:=s'.val (c:=.pu v.2) (m:=.fr) hi.2 (aP.refl H') r ⟨Yh,fun a h=>nomatch h⟩ (.inl ⟨rfl,by decide⟩)
   exact k _ _ H' q1 (f.trans q2)
  ·cases e2
noncomputable def gn (i:Nat) (way:List Stp) (k:Ex) (x:Xx):Sx:=fun η=>(x η).bind fun z=>if imm z.1.2 then dH i way k (fun _=>some (.fr,z.1.2)) z.2 else none
theorem uF {Φ:Fps} {η:VS.Env} {σ:L2.St} {H H1:Hp} {t t':T} {ks:List Ky} {mk mv:Md} {tk tv:T} {y':Unit} {xv:V} {Fv:X4} {ck:Ex} {D:L2.St->Hp->Prop} (J:eO G) (s:SR G Φ η σ H) (ht:η[i]?=some (some (.ow t))) (ek:keys way η=some ks) (ekk:ck η=some (mk,tk)) (e5:pm (ic (mk,tk) (mv,tv)) ks t=some (t',y'))
  (sm1:aP H H1) (rv:Rp G H1 xv tv Fv) (fv:Fp Φ η H mv Fv) (k:∀ Φ' H',SR G Φ' (η.set i (some (.ow t'))) σ H'->Frm Φ η H Φ' (η.set i (some (.ow t'))) H'->D σ H'):BE (tPl G i way) (tE G ck) x5 xv σ H1 D:=by
   obtain ⟨v,g1,g2⟩:=s.rp _ _ ht
   obtain ⟨w,x,F1,x3,w1,w2,w3,w4,w5⟩:=gQ ks J g2 (s.nd i t ht) e5
   refine ⟨Φ,η,t,ks,v,w,s.same sm1,ht,g1,ek,w1.same sm1,fun H2 sm2=>⟨Φ,η,mk,tk,(s.same sm1).same sm2,ekk,fun kv H3 Fk sm3 rk fk=>?_⟩⟩
   have sm:aP H H3:=(sm1.trans sm2).trans sm3
   have rv3:Rp G H3 xv tv Fv:=(rv.same sm2).same sm3
   have fin:∀ H4 F',Chg G H w F1 x3 H4 F'->D σ H4:=fun H4 F' g=>by
    obtain ⟨F2,g2'⟩:=w5 H4 F' g
    obtain ⟨z1,z2⟩:=s.mut ht g1 g2'
    exact k _ H4 z1 z2
   refine L2.iW fun P_ k_=>?_
   cases x with
   | lst l =>
    cases tk with
    | int n =>
     obtain ⟨tt,et,e7⟩:=Zz.mp (show ((fit (mv,tv)).bind fun t=>(ixP l.length n).map fun j=>(T.lst (l.set j t),()))=some (x3,y') from w4)
     obtain ⟨j,ej,e8⟩:=Zw.mp e7
     cases e8
     have em:=iG et
     cases em
     obtain ⟨a,vs,Fs,rfl,rfl,ha',ra⟩:=w2.lst_inv
     have ha3:H3 a=some (.lst vs):=sm a _ ha'
     have nd:=Ze.mp w3
     have na:a ∉ Fv:=fun z=>by rw [fv.2 a z] at ha';cases ha'
     have m3:Mut (H3 a):=by rw [ha3];exact True.intro
     have off:∀ bb∈Fs.flatten,bb ∉ Fv:=fun bb hb hv=>Mut.ne_none (ra.dom bb hb) (fv.2 bb hv)
     refine k_ ?_
     refine .inl ⟨a,vs,n,j,rfl,rk.int_inv,ha3,by rw [← pw,ra.len.1];exact ej,fin _ (a :: (Fs.set j Fv).flatten) ?_⟩
     have keep:∀ {u:V} {x:T} {F:X4},Rp G H3 u x F->a ∉ F->Rp G (upd H3 a (.lst (vs.set j xv))) u x F:=fun r hn=>r.keep (Kept.upd (.inl m3)) fun bb hb o' ho'=>by rw [aI (fun z=>hn (by rw [← z];exact hb))];exact ho'
     refine Chg.upd sm Zx m3 (.lst aD ((((ra.same sm).off m3 nd.1)).putAt j (keep rv3 na))) ?_ ?_
     ·rw [Ze]
      refine ⟨fun h=>?_,dE nd.2 fv.1 fun i' F' _ hi bb hb=>off bb (dk hi hb)⟩
      rcases cI h with z | ⟨i',F',_,h1,h2⟩
      ·exact na z
      ·exact nd.1 (dk h1 h2)
     ·intro bb hb
      rcases Zi.mp hb with rfl | hb
      ·exact .inl Zx
      ·rcases cI hb with z | ⟨i',F',_,h1,h2⟩
       ·exact .inr (fv.2 bb z)
       ·exact .inl (Zv _ (dk h1 h2))
    | _=>cases w4
   | dct kd l =>
    cases kd with
    | zero =>
     have hc:(hU tk=true/\imm tv=true/\l.length < dS)/\x3=.dct 0 (dput l tk tv):=by
      have w4':(if hU tk/\imm tv/\l.length < dS then some (T.dct 0 (dput l tk tv),()) else none)=some (x3,y'):=w4
      split at w4'
      ·rename_i hc
       cases w4'
       exact ⟨hc,rfl⟩
      ·cases w4'
     obtain ⟨⟨c1,c2,c3⟩,rfl⟩:=hc
     have eF:=rv3.imm c2
     subst eF
     obtain ⟨a,ns,vs,ts,Fs,rfl,rfl,ha',hl,rfl,ra⟩:=d7 w2
     obtain ⟨kk,rfl,ekk'⟩:=dN rk c1
     subst ekk'
     have ha3:H3 a=some (.dK (ns.zip vs)):=sm a _ ha'
     have m3:Mut (H3 a):=by rw [ha3];exact True.intro
     have nd:=Ze.mp w3
     obtain ⟨ks',vs',ts',Fs',q1,q2,q3,q4,q5⟩:=oU (kk:=kk) rv3 hl (ra.same sm)
     have ln:(ns.zip vs).length < sizeLine:=by
      have:((ns.map aX).zip ts).length < 16777216:=c3
      rw [Yz,Zy] at this
      rw [Yz]
      have:=ra.len.1
      have:(sizeLine:Nat)=16777216:=rfl
      lia
     refine k_ ?_
     refine .inr ⟨a,_,rfl,oR.k ha3 ln,fin _ (a :: Fs'.flatten) ?_⟩
     rw [q1,q3]
     refine Chg.upd sm Zx m3 (.dct aD q2 (q4.off m3 fun z=>nd.1 (q5.subset z))) ?_ ?_
     ·exact Ze.mpr ⟨fun z=>nd.1 (q5.subset z),nd.2.sublist q5⟩
     ·intro bb hb
      rcases Zi.mp hb with rfl | hb
      ·exact .inl Zx
      ·exact .inl (Zv _ (q5.subset hb))
    | succ n=>cases w4
   | _=>cases w4
theorem xp {kr:Nat} {b:Expr} {ck:Ex} {pos':Pos} (J:eO G) (hr:Room kr X.A) (ho:PPl G X o i way) (hk:PV G X b ck) (he:PX G X e x)
  (ha:∀ v,assign (.Subscript o b pos') X.env v=(do
   let ov ← holding [v] (eval o X.env)
   let iv ← holding [v,ov] (eval b X.env)
   standAt pos'
   holding [v,ov,iv] (setItem ov iv v)
   release [v,ov,iv] [])) (hs:swapsWithSole [.Subscript o b pos'] e pos.line X.env=pure false) (hw:swappedStores [.Subscript o b pos'] e X.env=pure none)
  (h1:(assignEach [.Subscript o b pos'] X.env).map (·.2)=[assign (.Subscript o b pos') X.env]):PSV G X (.Assign [.Subscript o b pos'] e pos) (gn i way ck x) :=
 PS.weak (oV he (pE ho hk (ua (iy hr)) ha) hs hw h1) fun D σ H hq=>by
  obtain ⟨Φ,η,out,s,e,k⟩:=hq
  unfold gn at e
  obtain ⟨⟨v,η'⟩,e1,e2⟩:=Zz.mp e
  split at e2
  ·rename_i hi
   refine ⟨Φ,η,v,η',s,e1,hi,fun u H' Φ' s' f r=>?_⟩
   unfold dH at e2
   obtain ⟨⟨mv,tv⟩,ev,e2⟩:=Zz.mp e2
   cases ev
   split at e2
   ·rename_i t ht
    obtain ⟨ks,ek,e2⟩:=Zz.mp e2
    obtain ⟨⟨mk,tk⟩,ekk,e2⟩:=Zz.mp e2
    obtain ⟨⟨t',y'⟩,e5,e6⟩:=Zw.mp e2
    cases e6
    exact uF J s' ht ek ekk e5 (aP.refl H') r (mv:=.fr) ⟨Yh,fun a h=>nomatch h⟩ fun Φ2 H2 z1 z2=>k _ σ H2 z1 (f.trans z2)
   ·cases e2
  ·cases e2
end
end VS
end
section
namespace L2
open PySem PySem.Spec PyProof.Rows
theorem pB {X:Cx}:dC X (.type "dict") (fun xs H Q=>∃ (d:Addr) (kvs:List (Key×V)),xs=[.ref d]/\H d=some (.dK kvs)/\∀ l,H l=none->Q (.ref l) (upd H l (.dK kvs))):=by
 intro pins s σ H xs us Q I rx h
 obtain ⟨d,kvs,rfl,hd,q⟩:=h
 obtain ⟨u,rfl,ru⟩:=rx.one
 cases ru
 obtain ⟨hz,hne,vs,rel,dd⟩:=nQ I.hok hd
 refine PySem.kt_call_dict hne dd (by rw [← YB rel];exact hz) fun h' dd' sb=>?_
 exact ⟨.ref s.heap.objs.size,_,I.laid (t':=s.toks) (fun b o e=>(sb.2 b (ZW (ZX e))).trans (Zl _ e)) (Zk _) (oH hz (beq_eq_false_iff_ne.mpr (Ya (ZW I.big))) rel dd'),rfl,q _ (I.hok.fresh (Zk _))⟩
end L2
namespace VS
open PySem PySem.Spec PyProof.Rows L2
noncomputable def ie:Wy->Wx
 | [(_,.dct 0 l)]=>if cY (l.map (·.2))=true then some (.fr,.dct 0 l) else none
 | _=>none
section
variable {G:Gx} {X:Cx} {a b e o:Expr} {ca cb ce:Ex} {cs:Exs} {p pos cpos apos:Pos} {k kr:Nat}
theorem uh:eK G (fun xs H Q=>∃ (d:Addr) (kvs:List (Key×V)),xs=[.ref d]/\H d=some (.dK kvs)/\∀ l,H l=none->Q (.ref l) (upd H l (.dK kvs))) ie:=by
 intro Φ η H0 H l vs Fs m t Q A e k
 unfold ie at e
 split at e
 ·rename_i mx l0
  split at e
  ·rename_i hi
   cases e
   obtain ⟨v,F,rfl,rfl,r⟩:=(show RpL G H vs [.dct 0 l0] Fs from A.rp).one
   obtain ⟨a,ns,us,ts,Gs,rfl,rfl,ha,hl,rfl,ra⟩:=d7 r
   refine ⟨a,_,rfl,ha,fun q hq=>?_⟩
   have sm:aP H (upd H q (.dK (ns.zip us))):=dM hq
   rw [List.map_snd_zip (by rw [Zy,hl,ra.len.1];exact Zk _)] at hi
   have eF:=ra.imm hi
   refine k _ _ (q :: Gs.flatten) sm (.dct aD hl (ra.same sm)) ?_
   rw [eF]
   exact Fp.new (A.same.free hq) (by simp) Fp.nil
  ·cases e
 ·cases e
theorem vC (hm:X.mg "dict" = none) (ha:PVs G X [e] cs) (hg:Gl X "dict") (he:starEach [e] X.env=(false,eval e X.env) :: starEach [] X.env):PV G X (.Call (.Name "dict" p) [e] [] pos) (eN ie cs) :=
 jg pB uh hg hm xx ha (he:=he) (hpl:=rfl)
theorem zB {i i':Int} {j j':Nat} {q q':Pos}:PV G X (.Dict [some (.Constant (.int i) j q)] [.Constant (.int i') j' q'] pos) (lq 0 [(eC (.int i),eC (.int i'))]) :=
 PE.weak (vJ (tN pA pA xl) rfl rfl (by simp) (by show 1<=15;decide)) fun σ H Q hq=>by
  obtain ⟨Φ,η,m,r,s,e,k⟩:=hq
  cases (show some (Md.fr,T.dct 0 [(.int i,.int i')])=some (m,r) from e)
  intro p hp
  refine ⟨aD,[(Sum.inl i,.int i')],rfl,(by show 1<=15;decide),?_⟩
  rw [wt]
  have:Rp G (upd H p (.dK [(Sum.inl i,V.int i')])) (.ref p) (.dct 0 ((([Sum.inl i]:List Key).map aX).zip [.int i'])) (p :: ([[]]:Xq).flatten) :=
   .dct (ks:=[Sum.inl i]) (vs:=[V.int i']) aD rfl (.cons (.int i') .nil)
  exact k _ _ _ (dM hp) this ⟨by simp,fun b hb=>by simp at hb;rw [hb];exact hp⟩
noncomputable def pd (x y:Val):Wx:=match x.2 with
 | .dct 0 l=>if hU y.2 then some (match ed l y.2 with | some t=>sub x.1 t | none=>(.fr,.non)) else none
 | _=>none
theorem w_get (hr:Room kr X.A) (ho:PV G X o ca) (he:PV G X e cb) (hbase:attributeBase o "get" X.env (eval o X.env)=eval o X.env)
  (hfew:((backTo cpos (starEach [e] X.env)).all (fun x=>!x.1) && (backToKw cpos (keywordEach [] X.env)).all (fun x=>x.1.isSome)
   && decide (([e]:List Expr).length+([]:List Keyword).length+(if ([]:List Keyword).isEmpty then 0 else 1) < 30))=true)
  (hline:(apos.endLine == cpos.line)=true) (htr:backTo cpos (starEach [e] X.env)=[(false,eval e X.env)]):PV G X (.Call (.Attribute o "get" apos) [e] [] cpos) (e2 pd ca cb) :=
 PE.weak (rY (iy hr) ho he ⟨hbase,hfew,hline,htr⟩) fun σ H Q hq=>by
  obtain ⟨Φ,η,m,r,s,e,kq⟩:=hq
  unfold e2 at e
  obtain ⟨⟨m1,x⟩,ea,e⟩:=Zz.mp e
  obtain ⟨⟨m2,y⟩,eb,e⟩:=Zz.mp e
  unfold pd at e
  split at e
  ·rename_i l hx
   dsimp only at hx
   subst hx
   split at e
   ·rename_i hk
    have e':=Zo e
    refine ⟨Φ,η,m1,_,s,ea,fun v H1 F1 sm1 r1 f1=>?_⟩
    obtain ⟨a,ks,vs,ts,Fs,rfl,rfl,ha,hl,rfl,q⟩:=d7 r1
    refine ⟨a,rfl,.inl ⟨_,.inl ha⟩,Φ,η,m2,y,s.same sm1,eb,fun v2 H2 F2 sm2 r2 f2=>?_⟩
    obtain ⟨kk,rfl,ek⟩:=dN r2 hk
    dsimp only at e'
    rw [ek] at e'
    rcases iM (k:=kk) hl (q.same sm2) with ⟨h1,h2⟩ | ⟨i,v,t2,F,a1,a2,a3,a4,a5⟩
    ·rw [h1] at e'
     cases e'
     refine ⟨_,fM.k (sm2 a _ ha),?_⟩
     rw [h2]
     exact kq .non H2 [] (sm1.trans sm2) .non Fp.nil
    ·rw [a1] at e'
     refine ⟨_,fM.k (sm2 a _ ha),?_⟩
     rw [a2]
     have f:=((f1.sub (Z2 _ _)).sub (dq a4)).up a5
     unfold VS.sub at e'
     dsimp only at e'
     rw [e'] at f
     have et:t2=r:=congrArg Prod.snd e'
     rw [et] at a5
     exact kq v H2 F (sm1.trans sm2) a5 f
   ·cases e
  ·cases e
noncomputable def lj (x y:Val):Wx:=match x.2 with
 | .dct 3 l=>if hU y.2 then (ed l y.2).map (sub x.1) else none
 | _=>none
theorem n5 {H:Hp} {v:V} {l:List (T×T)} {F:X4} (r:Rp G H v (.dct 3 l) F):∃ (a:Addr) (o:Obj) (ks:List Key) (vs:List V) (ts:Ww) (Fs:Xq),v=.ref a/\F=Fs.flatten/\H a=some (.frz o (.dK (ks.zip vs)))/\ks.length=vs.length/\l=(ks.map aX).zip ts/\RpL G H vs ts Fs:=by
 generalize hz:T.dct 3 l=z at r
 cases r with
 | dctZ h hl q=>cases hz;exact ⟨_,_,_,_,_,_,rfl,rfl,h,hl,rfl,q⟩
 | _=>cases hz
theorem AJ:fB G (Bz G.K) lj:=by
 intro Φ η H0 H x y u w F1 F2 m t Q tw e k
 obtain ⟨m1,x⟩:=x
 unfold lj at e
 split at e
 ·rename_i l hx
  dsimp only at hx
  subst hx
  split at e
  ·rename_i hk
   obtain ⟨t',e1,e2⟩:=Zw.mp e
   obtain ⟨a,o,ks,vs,ts,Fs,rfl,rfl,ha,hl,rfl,q⟩:=n5 tw.r1
   obtain ⟨kk,rfl,ek⟩:=dN tw.r2 hk
   rw [ek] at e1
   rcases iM (k:=kk) hl q with ⟨h1,_⟩ | ⟨i,v,t2,F,a1,a2,a3,a4,a5⟩
   ·rw [h1] at e1;cases e1
   ·rw [a1] at e1
    cases e1
    cases e2
    refine .inr ⟨a,v,rfl,.inl ⟨_,kk,.inr ⟨o,ha⟩,rfl,a2.symm⟩,?_⟩
    have f:=(tw.f1.sub (dq a4)).up a5
    exact k v H F (aP.refl _) a5 f
  ·cases e
 ·cases e
theorem Cj (hr:Room kr X.A) (ha:PV G X a ca) (hb:PV G X b cb) (hs:d5 b) (hK:X.K=G.K):PV G X (.Subscript a b pos) (e2 lj ca cb) :=
 PE.weak (qo (IxR.or mL (mK (iy hr))) ha hb hs) fun σ H Q h=>by rw [hK];exact jb AJ h
end
noncomputable def eNew (c:Nat) (g:Mt) (cs:Exs):Ex:=fun η=>(cs η).bind fun xs=>if cM (trees xs)=true then (g [] (trees xs)).bind fun z=>if dJ z.1=true/\isN z.2=true then some (.fr,.obj (c+1) ((0,.bl false) :: z.1)) else none else none
noncomputable def cJ (c:Nat) (g:Fn) (ca:Ex) (cs:Exs):Ex:=fun η=>(ca η).bind fun x=>match x.2 with
 | .obj c' (_ :: _)=>if c'=c+1 then (cs η).bind fun xs=>(g (x.2 :: trees xs)).bind fun r=>match r.1 with
  | .fr=>some r
  | _=>none else none
 | _=>none
theorem u7 {α:Type}:∀ (l:List α) (Fs:Xq),mvF (l.map fun _=>false) Fs=[]
 | [],_=>by simp [mvF]
 | _ :: _,[]=>by simp [mvF]
 | _ :: l,F :: Fs=>by
  rw [Zp,mvF,Zn Zh,Xk]
  exact u7 l Fs
theorem tU:∀ (mv:List Bool) (Fs:Xq),∀ a∈puF mv Fs,a∈Fs.flatten
 | [],_,a,h=>by simp [puF] at h
 | _ :: _,[],a,h=>by simp [puF] at h
 | b :: bs,F :: Fs,a,h=>by
  rw [puF] at h
  rw [ZL]
  rcases Zg.mp h with h | h
  ·cases b with
   | true=>simp at h
   | false=>exact Z1 _ (by simpa using h)
  ·exact ZU _ (tU bs Fs a h)
section
variable {G:Gx} {X:Cx} {i c k k':Nat} {o e:Expr} {es:List Expr} {cs:Exs} {ca:Ex} {m x:Str} {f:Addr} {fd:FuncData} {ps:List Str} {g:Mt} {h:Fn} {apos pos p:Pos}
theorem vF {G:Gx} {H:Hp} {u:V} {t:T} {F:X4} (r:Rp G H u t F) (h:isN t=true):u=.non:=by
 cases r with
 | non=>rfl
 | _=>cases h
theorem sr {σ:L2.St} {H:Hp} {Q:VK} {E:XK} {t:TA} (F:∀ n,FnOk X.prog X.w X.K X.mg X.base CX0 k f fd ps (spM G c (List.replicate n false) g)->True) (ht:∀ Φ η xs σ H (R:List V->Hp->Prop),SR G Φ η σ H->cs η=some xs->(∀ vs H' Fs,aP H H'->RpL G H' vs (trees xs) Fs->FpL Φ η H xs Fs->R vs H')->t σ H R)
  (n:Nat) (hn:∀ η xs,cs η=some xs->xs.length=n) (hq:tE G (eNew c g cs) σ H Q):uV (G.ct (c+1)).1 (spM G c (List.replicate n false) g) [] E t σ H Q:=by
 obtain ⟨Φ,η,mo,r,s,e,kq⟩:=hq
 unfold eNew at e
 obtain ⟨xs,el,e1⟩:=Zz.mp e
 split at e1
 ·rename_i han
  obtain ⟨⟨fs',y⟩,eg,e2⟩:=Zz.mp e1
  split at e2
  ·rename_i hc
   cases e2
   have lx:=hn η xs el
   refine ht Φ η xs σ H _ s el fun vs H1 Gs sm1 rp1 fp1 a dx ha hdx ne=>?_
   have hHa:H a=none:=sm1.free ha
   have sm2:aP H1 (upd (upd H1 dx (.own a)) a (.ins (G.ct (c+1)).1 dx [])):=fun b ob q=>by
    rw [aI (fun z=>by rw [z,ha] at q;cases q),aI (fun z=>by rw [z,hdx] at q;cases q)]
    exact q
   have em:List.replicate n false=(List.range n).map fun _=>false:=by rw [List.map_const',Z0]
   have mv0:mvF (List.replicate n false) Gs=[]:=by rw [em];exact u7 _ _
   have fresh:∀ b,(upd (upd H1 dx (.own a)) a (.ins (G.ct (c+1)).1 dx [])) b=none->H b=none:=fun b z=>sm1.free (sm2.free z)
   refine ⟨a,vs,[],trees xs,[a],Gs,fs',y,by rw [ZK],.ins (ks:=[]) (vs:=[]) (ts:=[]) (Fs:=[]) aD rfl (fun _=>rfl) .nil,(rp1.same sm2).at (some a) han,?_,?_,?_,eg,fun u H' F' gc ru=>⟨vF ru hc.2,?_⟩⟩
   ·simp [trees,lx]
   ·rw [mv0];simp
   ·rw [mv0]
    intro b hb hb'
    have:b=a:=by simpa using hb
    subst this
    exact Mut.ne_none (rp1.dom b (tU _ _ b hb')) ha
   ·rw [mv0,ZK] at gc
    have back:Rp G H' (.ref a) (.obj (c+1) ((0,.bl false) :: fs')) F':=by
     obtain ⟨c2,a2,dx2,b2,ns2,vs2,ts2,Fs2,ec2,ea2,eb2,ef2,eF2,hA2,hl2,hb2,ra3⟩:=dF gc.rp
     cases ec2
     cases ea2
     subst ef2
     rw [eF2]
     exact .ins hA2 hl2 (fun z=>nomatch z) (ra3.at G.me (dX (hl2.trans ra3.len.1) hc.1))
    refine kq (.ref a) H' F' (fun b ob q=>gc.keep b ob (fun z=>?_) (sm2 b ob (sm1 b ob q))) back ⟨gc.nd,fun b hb=>?_⟩
    ·have:b=a:=by simpa using z
     rw [this,hHa] at q
     cases q
    ·rcases gc.sub b hb with z | z
     ·have:b=a:=by simpa using z
      rw [this]
      exact hHa
     ·exact fresh b z
  ·cases e2
 ·cases e1
theorem B3 (n:Nat) (M:Mk X.K (G.ct (c+1)).1 f) (F:FnOk X.prog X.w X.K X.mg X.base CX0 k f fd ps (spM G c (List.replicate n false) g)) (hr:Room k' X.A) (hk:k+1<=k') (hg:Gl X x) (hm:X.mg x=some (.ref (G.ct (c+1)).1)) (hb:Binds X.K fd ps []) (ha:PVs G X (e :: es) cs) (hn:∀ η xs,cs η=some xs->xs.length=n)
  (hdb:(x == ("__debug__" : Str))=false) (he:starEach (e :: es) X.env=(false,eval e X.env) :: starEach es X.env) (hpl:(backTo pos (starEach es X.env)).any (·.1)=false):PV G X (.Call (.Name x p) (e :: es) [] pos) (eNew c g cs) :=
 PE.weak (xK (E:=E0) M F (hr.mono hk) hg hm hb .nil jy ha hdb he hpl) fun σ H Q h=>sr (X:=X) (k:=k) (f:=f) (fd:=fd) (ps:=ps) (t:=tEs G cs) (fun _ _=>True.intro) (fun Φ η xs σ H R s e k=>⟨Φ,η,xs,s,e,k⟩) n hn h
theorem zj (M:Mk X.K (G.ct (c+1)).1 f) (F:FnOk X.prog X.w X.K X.mg X.base CX0 k f fd ps (spM G c [] g)) (hr:Room k' X.A) (hk:k+1<=k') (hg:Gl X x) (hm:X.mg x=some (.ref (G.ct (c+1)).1)) (hb:Binds X.K fd ps [])
  (hdb:(x == ("__debug__" : Str))=false):PV G X (.Call (.Name x p) [] [] pos) (eNew c g ai) :=
 PE.weak (vh (E:=E0) M F (hr.mono hk) hg hm hb .nil jy hdb) fun σ H Q h=>sr (X:=X) (k:=k) (f:=f) (fd:=fd) (ps:=ps) (t:=rN) (fun _ _=>True.intro) (fun Φ η xs σ H R s e k=>by
  cases (show some ([]:Wy)=some xs from e)
  exact k [] H [] (aP.refl _) .nil ⟨fun i v F h=>by simp at h,by simp [frs]⟩) 0 (fun η xs e=>by
  cases (show some ([]:Wy)=some xs from e)
  rfl) h
theorem qc {g:Nat->Str} (hn:∀ k,g k ≠ m):∀ (ns:X7) (vs:List V),((ns.map g).zip vs).lookup m=none
 | [],vs=>by simp
 | _ :: _,[]=>by simp
 | n :: ns,v :: vs=>by
  rw [Zp,Zd,Z6]
  have:(m == g n)=false:=by
   rw [beq_eq_false_iff_ne]
   exact fun z=>hn n z.symm
  rw [this]
  exact qc hn ns vs
theorem pJ {σ:L2.St} {H:Hp} {Q:VK} {E:XK} {t:TA} (hn:∀ k,(G.ct (c+1)).2 k ≠ m) (ht:∀ Φ η xs σ H (R:List V->Hp->Prop),SR G Φ η σ H->cs η=some xs->(∀ vs H' Fs,aP H H'->RpL G H' vs (trees xs) Fs->FpL Φ η H xs Fs->R vs H')->t σ H R)
  (hq:tE G (cJ c h ca cs) σ H Q):qm (G.ct (c+1)).1 m (spF G h) [] E (tE G ca) t σ H Q:=by
 obtain ⟨Φ,η,mo,r,s,e,kq⟩:=hq
 unfold cJ at e
 obtain ⟨⟨mx,y⟩,ea,e1⟩:=Zz.mp e
 split at e1
 ·rename_i c' q0 fs hy
  dsimp only at hy
  subst hy
  split at e1
  ·rename_i hc
   subst hc
   obtain ⟨xs,el,e2⟩:=Zz.mp e1
   obtain ⟨⟨n,r'⟩,eg,e3⟩:=Zz.mp e2
   refine ⟨Φ,η,mx,_,s,ea,fun v H1 F1 sm1 r1 f1=>?_⟩
   obtain ⟨c2,a,dx,b,ns,vs,ts,Fs,ec,rfl,eb,ef,eF,hA,hl,hb,ra⟩:=dF r1
   cases ec
   refine ⟨a,dx,_,rfl,hA,qc hn _ _,ht Φ η xs σ H1 _ (s.same sm1) el fun us H2 Gs sm2 rp2 fp2=>?_⟩
   rw [ZK]
   refine ⟨_ :: trees xs,F1 :: Gs,n,r',.cons (r1.same sm2) rp2,eg,fun u H' F' sm3 r3 f3=>?_⟩
   cases n with
   | fr =>
    cases e3
    exact kq u H' F' ((sm1.trans sm2).trans sm3) r3 ⟨f3.1,fun b hb=>sm1.free (sm2.free (f3.2 b hb))⟩
   | pu=>cases e3
   | bo=>cases e3
  ·cases e1
 ·cases e1
theorem ym {pl:Sem Bool} (hn:∀ k,(G.ct (c+1)).2 k ≠ m) (ho:PV G X o ca) (hc:Cls X.K (G.ct (c+1)).1) (hm:Meth X.K (G.ct (c+1)).1 m f) (F:FnOk X.prog X.w X.K X.mg X.base CX0 k f fd ps (spF G h)) (hr:Room k' X.A) (hk:k<=k') (hb:Binds X.K fd ps []) (ha:PVs G X (e :: es) cs)
  (hst:starEach (e :: es) X.env=(false,eval e X.env) :: starEach es X.env) (hpl:(backTo pos (starEach es X.env)).any (·.1)=false)
  (ht:eval (.Call (.Attribute o m apos) (e :: es) [] pos) X.env=(do
   let ov ← eval o X.env
   standAt apos.atName
   let (f,first) ← holding [ov] (getMethod ov m pl)
   callWith pos f first (backTo pos (starEach (e :: es) X.env)) (backToKw pos (keywordEach [] X.env)))):PV G X (.Call (.Attribute o m apos) (e :: es) [] pos) (cJ c h ca cs) :=
 PE.weak (mZ (E:=E0) ho hc hm F (hr.mono hk) hb .nil jy ha hst hpl ht) fun σ H Q q=>pJ (t:=tEs G cs) hn (fun Φ η xs σ H R s e k=>⟨Φ,η,xs,s,e,k⟩) q
theorem vX {pl:Sem Bool} (hn:∀ k,(G.ct (c+1)).2 k ≠ m) (ho:PV G X o ca) (hc:Cls X.K (G.ct (c+1)).1) (hm:Meth X.K (G.ct (c+1)).1 m f) (F:FnOk X.prog X.w X.K X.mg X.base CX0 k f fd ps (spF G h)) (hr:Room k' X.A) (hk:k<=k') (hb:Binds X.K fd ps [])
  (ht:eval (.Call (.Attribute o m apos) [] [] pos) X.env=(do
   let ov ← eval o X.env
   standAt apos.atName
   let (f,first) ← holding [ov] (getMethod ov m pl)
   callWith pos f first (backTo pos (starEach [] X.env)) (backToKw pos (keywordEach [] X.env)))):PV G X (.Call (.Attribute o m apos) [] [] pos) (cJ c h ca ai) :=
 PE.weak (ou (E:=E0) ho hc hm F (hr.mono hk) hb .nil jy ht) fun σ H Q q=>pJ (t:=rN) hn (fun Φ η xs σ H R s e k=>by
  cases (show some ([]:Wy)=some xs from e)
  exact k [] H [] (aP.refl _) .nil ⟨fun i v F h=>by simp at h,by simp [frs]⟩) q
end
noncomputable def jc (i:Nat) (way:List Stp) (j:Nat) (η:VS.Env):Option Out:=match (η[i]?:Option (Wz)),(η[j]?:Option (Wz)) with
 | some (some (.ow t)),some (some (.ow u))=>if i ≠ j then (keys way η).bind fun ks=>(pm (fun x=>aG x [(.fr,u)]) ks t).map fun z=>.nx ((η.set j none).set i (some (.ow z.1))) else none
 | _,_=>none
open Classical in
noncomputable def less (H:Hp) (F:X4):Hp:=fun b=>if b∈F then none else H b
section
variable {G:Gx} {X:Cx} {i j:Nat} {way:List Stp} {o:Expr} {y:Str} {apos cpos pos p1:Pos}
theorem mQ {H:Hp} {F:X4} {b:Addr} (h:b∈F):less H F b=none:=Zq h
theorem fX {H:Hp} {F:X4} {b:Addr} (h:b ∉ F):less H F b=H b:=Zn h
theorem fR {H:Hp} {F:X4} {b:Addr} {o:HO} (h:less H F b=some o):H b=some o/\b ∉ F:=by
 by_cases q:b∈F
 ·rw [mQ q] at h;cases h
 ·rw [fX q] at h;exact ⟨h,q⟩
theorem qR {H:Hp} {F:X4} (h:∀ b∈F,Mut (H b)):Kept H (less H F) :=
 ⟨fun b xs e=>by
  rw [fX (fun z=>by have:=h b z;rw [e] at this;exact this)]
  exact e,fun b o u e=>by
  rw [fX (fun z=>by have:=h b z;rw [e] at this;exact this)]
  exact e⟩
theorem wa (J:eO G) (ho:PPl G X o i way) (hK:X.K=G.K) (hN:X.N[j]?=some y) (hv:Vis X.env.scope y) (hd:(y == ("__debug__" : Str))=false) (hcd:(y == ("__classdict__" : Str))=false)
  (hbase:attributeBase o "append" X.env (eval o X.env)=eval o X.env)
  (hfew:((backTo cpos (starEach [.Name y p1] X.env)).all (fun x=>!x.1) && (backToKw cpos (keywordEach [] X.env)).all (fun x=>x.1.isSome)
   && decide ([Expr.Name y p1].length+([]:List Keyword).length+(if ([]:List Keyword).isEmpty then 0 else 1) < 30))=true)
  (hline:(apos.endLine == cpos.line)=true) (hs:starEach [.Name y p1] X.env=(false,eval (.Name y p1) X.env) :: starEach [] X.env) (hplain:(backTo cpos (starEach [] X.env)).any (·.1)=false)
  (hsw:swapsWith (.Call (.Attribute o "append" apos) [.Name y p1] [] cpos) none pos.line X.env=pure false) :
  PSV G X (.Expr (.Call (.Attribute o "append" apos) [.Name y p1] [] cpos) pos) (jc i way j) :=
 PS.weak (iT (qq YD Xs Xt hJ ho (gT (gm hN hv hd hcd) ng hs) hbase hfew hline hs hplain) hsw) fun D σ H hq=>by
  obtain ⟨Φ,η,out,s,e,k⟩:=hq
  unfold jc at e
  split at e
  ·rename_i t u ht hu
   split at e
   ·rename_i hij
    obtain ⟨ks,ek,e3⟩:=Zz.mp e
    obtain ⟨⟨t',x2⟩,e5,e6⟩:=Zw.mp e3
    cases e6
    obtain ⟨vj,j1,j2⟩:=s.rp _ _ hu
    have j2':Rp G H vj u (Φ j):=j2
    have ndj:=s.nd j u hu
    have mj:∀ b∈Φ j,Mut (H b):=j2'.dom
    have kp:=qR mj
    have sepj:∀ i' c',i' ≠ j->η[i']?=some (some c')->∀ b∈Φ i',b ∉ Φ j:=fun i' c' n h b hb hb'=>s.sep j i' u c' hu h (Ya n) b hb' hb
    have s0:SR G Φ (η.set j none) σ (less H (Φ j)):=⟨(s.drop j).len,fun i' c' h=>by
     obtain ⟨n,h'⟩:=cN h
     obtain ⟨v,h1,h2⟩:=s.rp i' c' h'
     exact ⟨v,h1,h2.keep kp fun b hb ob hob=>by rw [fX (sepj i' c' n h' b hb)];exact hob⟩,(s.drop j).nd,(s.drop j).sep⟩
    have ht0:(η.set j none)[i]?=some (some (.ow t)):=by
     rw [Yd (Ya hij)]
     exact ht
    obtain ⟨v,h1,h2⟩:=s0.rp _ _ ht0
    obtain ⟨w,x,F1,x3,w1,w2,w3,w4,w5⟩:=gQ ks J h2 (s0.nd i t ht0) e5
    unfold aG at w4
    split at w4
    ·rename_i l yv heq
     cases heq
     obtain ⟨z,ez,e7⟩:=Zz.mp w4
     cases (show some u=some z from ez)
     split at e7
     ·rename_i hl
      cases e7
      obtain ⟨a,us,Gs,rfl,rfl,ha,ra⟩:=w2.lst_inv
      obtain ⟨haH,haj⟩:=fR ha
      have w1':Pth G H ks v (.ref a):=by
       have:∀ {ks:List Ky} {v w:V},Pth G (less H (Φ j)) ks v w->Pth G H ks v w:=by
        intro ks v w p
        induction p with
        | nil v=>exact .nil v
        | fld h l _ ih=>exact .fld (fR h).1 l ih
        | ix h l m _ ih=>exact .ix (fR h).1 l m ih
        | key h l _ ih=>exact .key (fR h).1 l ih
       exact this w1
      refine ⟨Φ,η,t,ks,v,.ref a,s,ht,h1,ek,w1',fun H0 sm0=>⟨.inl ⟨rfl,us,by rw [hK];exact SqL.of (sm0 a _ haH)⟩,vj,j1,a,us,vj,rfl,rfl,sm0 a _ haH,by rw [ra.len.1];exact hl,?_⟩⟩
      have m0:Mut (H0 a):=by rw [sm0 a _ haH];exact True.intro
      have nd1:=Ze.mp w3
      have offj:∀ b∈Gs.flatten,b ∉ Φ j:=fun b hb hb'=>by
       have:=ra.dom b hb
       rw [mQ hb'] at this
       exact this
      have lsm:∀ b ob,less H (Φ j) b=some ob->H0 b=some ob:=fun b ob h=>sm0 b ob (fR h).1
      have kl:Kept (less H (Φ j)) H0:=⟨fun b xs h=>lsm b _ h,fun b ob u h=>lsm b _ h⟩
      have g:Chg G (less H (Φ j)) (.ref a) (a :: Gs.flatten) (.lst (l++[u])) (upd H0 a (.lst (us++[vj]))) (a :: (Gs++[Φ j]).flatten):=by
       refine ⟨kl.trans (Kept.upd (.inl m0)),fun b ob hb h=>by rw [aI (fun z=>hb (by rw [z];exact Zx))];exact lsm b ob h,fun b h z=>?_,.lst aD ((RpL.off (ra.keep kl fun b hb ob h=>lsm b ob h) m0 nd1.1).append (.cons (((j2'.same sm0)).keep (Kept.upd (.inl m0)) fun b hb ob ho=>by rw [aI (fun z=>haj (by rw [← z];exact hb))];exact ho) .nil)),?_,fun b hb=>?_⟩
       ·by_cases q:b=a
        ·rw [q,aD] at z;cases z
        ·rw [aI q] at z
         cases e:less H (Φ j) b with
         | none=>exact h e
         | some ob=>rw [lsm b ob e] at z;cases z
       ·rw [Z8]
        refine Ze.mpr ⟨fun m=>?_,ZV.mpr ⟨nd1.2,by simpa using ndj,fun b hb c hc z=>?_⟩⟩
        ·rcases Zg.mp m with m | m
         ·exact nd1.1 m
         ·exact haj (by simpa using m)
        ·subst z;exact offj b hb (by simpa using hc)
       ·rcases Zi.mp hb with rfl | hb
        ·exact .inl Zx
        ·rw [Z8] at hb
         rcases Zg.mp hb with hb | hb
         ·exact .inl (Zv _ hb)
         ·exact .inr (mQ (by simpa using hb))
      obtain ⟨F2,g2⟩:=w5 _ _ g
      obtain ⟨z1,z2⟩:=s0.mut ht0 h1 g2
      have back:∀ b,less H (Φ j) b=none->cG Φ η b\/H b=none:=fun b h=>by
       by_cases q:b∈Φ j
       ·exact .inl ⟨j,u,hu,q⟩
       ·rw [fX q] at h;exact .inr h
      have ow0:∀ b,cG Φ (η.set j none) b->cG Φ η b:=fun b ⟨j',t',q1,q2⟩=>⟨j',t',(cN q1).2,q2⟩
      have pu0:∀ b,dP Φ (η.set j none) b->dP Φ η b:=fun b ⟨j',t',q1,q2⟩=>⟨j',t',(cN q1).2,q2⟩
      refine k _ σ _ z1 ⟨fun b ob h n=>?_,fun b h z=>?_,fun b h=>?_,fun b h=>?_,(Kept.of sm0).trans (Kept.upd (.inl m0))⟩
      ·have nj:b ∉ Φ j:=fun z=>n ⟨j,u,hu,z⟩
       exact z2.keep b ob (by rw [fX nj];exact h) fun z=>n (ow0 b z)
      ·by_cases q:b=a
       ·rw [q,aD] at z;cases z
       ·rw [aI q] at z;exact h (sm0.free z)
      ·rcases z2.ow b h with h | h
       ·exact .inl (ow0 b h)
       ·exact back b h
      ·rcases z2.pu b h with h | h | h
       ·exact .inl (pu0 b h)
       ·exact .inr (.inl (ow0 b h))
       ·exact (back b h).elim (fun z=>.inr (.inl z)) fun z=>.inr (.inr z)
     ·cases e7
    ·cases w4
   ·cases e
  ·cases e
end
end VS
end
section
namespace VS
open PySem PySem.Spec PyProof.Rows L2
noncomputable def isInt:T->Bool
 | .int _=>true
 | _=>false
noncomputable def oz (i:Nat):Its:=fun η=>match (η[i]?:Option (Wz)) with
 | some (some (.pu (.dct 3 l)))=>if (l.all fun p=>isInt p.1)=true then some (.fr,l.map (·.1)) else none
 | _=>none
noncomputable def pL (i:Nat) (tg:Tg) (ce:Ex):Sx:=fun η=>match (η[i]?:Option (Wz)) with
 | some (some (.ow (.dct 0 l)))=>(fF 1 tg (oz i) none ce (η.set i (some (.pu (.dct 3 l))))).bind fun v=>match v.1 with
  | .fr=>some (.rt v (η.set i none))
  | _=>none
 | _=>none
theorem zip_inj {α β:Type}:∀ {a c:List α} {b d:List β},a.length=b.length->c.length=d.length->a.zip b=c.zip d->a=c
 | [],[],_,_,_,_,_=>rfl
 | [],_ :: _,_,[],_,h,_=>by simp at h
 | [],_ :: _,[],_ :: _,_,_,h=>by simp at h
 | [],_ :: _,_ :: _,_ :: _,h,_,_=>by simp at h
 | _ :: _,_,[],_,h,_,_=>by simp at h
 | _ :: _,[],_ :: _,[],_,_,h=>by simp at h
 | _ :: _,[],_ :: _,_ :: _,_,h,_=>by simp at h
 | _ :: _,_ :: _,_ :: _,[],_,h,_=>by simp at h
 | x :: a,y :: c,z :: b,w :: d,h1,h2,h=>by
  rw [Zd,Zd] at h
  obtain ⟨e1,e2⟩:=List.cons.inj h
  rw [zip_inj (by simpa using h1) (by simpa using h2) e2,(Xu e1).1]
section
variable {G:Gx} {X:Cx} {i:Nat} {elt tg:Expr} {sc:Scope} {pos pos' p1:Pos} {N:List Str} {x:Str} {g:Tg} {ce:Ex}
theorem Ag (i:Nat) (N:List Str) (hcalm:X.calm=true) (hN:X.N[i]?=some x) (hv:Vis X.env.scope x) (hd:(x == ("__debug__" : Str))=false) (hcd:(x == ("__classdict__" : Str))=false) (hin:qP 1 g)
  (hg:∀ cl C s H fp,PVG G (di X N sc cl C s H fp) tg g) (he:∀ cl C s H fp,PV G (di X N sc cl C s H fp) elt ce)
  (hsc:my X.env sc=true) (hnm:jJ sc (N.drop 1) X.N=true) (hNl:1<=N.length) (hs:∀ y,foldedSetIterable (.Name x p1) X.env y=pure y) :
  PSV G X (.Return (some (.ListComp elt [⟨tg,.Name x p1,[],0⟩] sc pos)) pos') (pL i g ce) :=
 PS.weak (mY (qg hcalm (Cm (gm hN hv hd hcd)) hsc hnm hNl (fun cl C s H fp=>⟨hg cl C s H fp,n4,he cl C s H fp⟩) hs)) fun D σ H hq=>by
  obtain ⟨Φ,η,out,s,e,k⟩:=hq
  unfold pL at e
  split at e
  ·rename_i l hl
   obtain ⟨⟨mv,tv⟩,ev,e1⟩:=Zz.mp e
   have hfr:mv=.fr/\out=.rt (.fr,tv) (η.set i none):=by
    cases mv with
    | fr=>cases e1;exact ⟨rfl,rfl⟩
    | pu=>cases e1
    | bo=>cases e1
   obtain ⟨rfl,rfl⟩:=hfr
   obtain ⟨v,g1,g2⟩:=s.rp _ _ hl
   obtain ⟨a,ns,vs,ts,Fs,rfl,eF,ha,hln,rfl,ra⟩:=d7 g2
   have hlt:i < η.length:=(Zf.mp hl).1
   have nd:=s.nd i _ hl
   rw [eF] at nd
   have nd':=Ze.mp nd
   refine ⟨.ref a,g1,a,ns.zip vs,rfl,ha,fun o=>?_⟩
   have mu:Mut (H a):=by rw [ha];exact True.intro
   have kp:Kept H (upd H a (.frz o (.dK (ns.zip vs)))):=Kept.upd (.inl mu)
   have es:σ.set i (some (.ref a))=σ:=by
    obtain ⟨h,e⟩:=Zf.mp g1
    rw [← e]
    exact Xf h
   have aΦ:a∈Φ i:=by rw [eF];exact Zx
   have sub:∀ b∈Fs.flatten,b∈Φ i:=fun b hb=>by rw [eF];exact Zv _ hb
   have s1:SR G (jK Φ i Fs.flatten) (η.set i (some (.pu (.dct 3 ((ns.map aX).zip ts))))) σ (upd H a (.frz o (.dK (ns.zip vs)))):=by
    have:=s.put (c:=.pu (.dct 3 ((ns.map aX).zip ts))) (v:=.ref a) (F:=Fs.flatten) (H':=upd H a (.frz o (.dK (ns.zip vs)))) hlt (.dctZ aD hln (ra.off mu nd'.1)) (fun j c' n hj w q=>q.keep kp fun b hb ob ho=>by
     rw [aI (fun z=>s.sep i j _ c' hl hj (Ya n) a aΦ (by rw [← z];exact hb))];exact ho) (fun _ z=>nomatch z) (fun _ z=>nomatch z) fun j u n hj b hb hb'=>s.sep j i u _ hj hl n b hb (sub b hb')
    rw [es] at this
    exact this
   have hT:tE G (fF 1 g (oz i) none ce) σ (upd H a (.frz o (.dK (ns.zip vs)))) D.rt:=by
    refine ⟨_,_,.fr,tv,s1,ev,fun u H' F sm r f=>?_⟩
    have ee:(η.set i (some (.pu (.dct 3 ((ns.map aX).zip ts))))).set i none=η.set i none:=by rw [List.set_set]
    have sd:=(s1.drop i).same sm
    rw [ee] at sd
    have ow0:∀ b,cG (jK Φ i Fs.flatten) (η.set i none) b->cG Φ η b:=fun b ⟨j,t,q1,q2⟩=>by
     obtain ⟨n,q1'⟩:=cN q1
     rw [d6 n] at q2
     exact ⟨j,t,q1',q2⟩
    refine k u H' F _ σ sd ⟨fun b ob h n=>?_,fun b h z=>?_,fun b h=>.inl (ow0 b h),fun b ⟨j,t,q1,q2⟩=>?_,kp.trans (Kept.of sm)⟩ r ⟨f.1,fun b hb=>.inl ?_⟩
    ·have nb:b ≠ a:=fun z=>n ⟨i,_,hl,by rw [z];exact aΦ⟩
     exact ⟨sm b ob (by rw [aI nb];exact h),fun z=>n (ow0 b z)⟩
    ·have z1:=sm.free z
     by_cases q:b=a
     ·rw [q,aD] at z1;cases z1
     ·rw [aI q] at z1;exact h z1
    ·obtain ⟨n,q1'⟩:=cN q1
     rw [d6 n] at q2
     exact .inl ⟨j,t,q1',q2⟩
    ·have:=f.2 b hb
     by_cases q:b=a
     ·rw [q,aD] at this;cases this
     ·rw [aI q] at this;exact this
   obtain ⟨Φ2,η2,m2,l2,s2,e2,k2⟩:=pU (cond:=none) hin hT
   refine k2 (Itk a o (ns.zip vs)) _ [] (aP.refl _) ?_ (fun b hb=>nomatch hb)
   unfold oz at e2
   split at e2
   ·rename_i l3 h3
    split at e2
    ·rename_i hint
     cases e2
     obtain ⟨v3,q1,q2⟩:=s2.rp _ _ h3
     rw [g1] at q1
     cases q1
     obtain ⟨a3,o3,ks3,vs3,ts3,Fs3,ea3,_,ha3,hl3,rfl,ra3⟩:=n5 q2
     cases ea3
     rw [aD] at ha3
     have hz:ns.zip vs=ks3.zip vs3:=HO.dK.inj (HO.frz.inj (Zo ha3)).2
     have ek:=zip_inj hln hl3 hz
     subst ek
     have em:((ns.map aX).zip ts3).map (·.1)=ns.map aX:=XG (by rw [Zy,hl3,ra3.len.1];exact Zk _)
     have zl:(ns.zip vs).length=ns.length:=by rw [Yz,hln,Nat.min_self]
     refine ⟨fun H2 kp2 _=>⟨fun n t hn=>?_,fun n hn=>?_⟩,fun b hb=>nomatch hb⟩
     ·rw [em,ZQ] at hn
      obtain ⟨kk,hk1,hk2⟩:=Zw.mp hn
      have hnl:=(Zf.mp hk1).1
      refine ⟨⟨kp2.frz _ _ _ aD,by rw [zl];exact hnl⟩,fun y H3 hy=>?_⟩
      obtain ⟨rfl,p,hp,rfl⟩:=hy
      refine ⟨aP.refl _,[],?_,fun b hb=>nomatch hb⟩
      have hp1:p.1=kk:=by
       have hzip:(ns.zip vs)[n]?=some p:=hp
       rw [Yf] at hzip
       rw [hk1] at hzip
       exact (Zo hzip.1).symm
      have hi:isInt t=true:=by
       have:=Yw.mp hint (t,ts3[n]'(by rw [← ra3.len.1,← hl3];exact hnl)) (by
        refine YL (i:=n) ?_
        rw [Yf]
        exact ⟨by rw [ZQ,hk1];exact congrArg some hk2,Zm _⟩)
       exact this
      rw [hp1,← hk2]
      rw [← hk2] at hi
      cases kk with
      | inl n=>exact .int n
      | inr z=>cases hi
     ·refine ⟨kp2.frz _ _ _ aD,?_⟩
      rw [em,Zy] at hn
      rw [zl]
      exact hn
    ·cases e2
   ·cases e2
  ·cases e
end
noncomputable def zU (c:Nat):Option (Wz)->Bool
 | some (some (.ow (.obj c' (_ :: _))))=>c' == c+1
 | _=>false
noncomputable def j8 (i c:Nat) (mv:List Bool) (g:Mt) (x:Xx) (cs:Exs) (η:VS.Env):Option (Val×VS.Env):=if zU c (η[i]?:Option (Wz))=true then (x η).bind fun z=>if imm z.1.2=true then (match (z.2[i]?:Option (Wz)) with
 | some (some (.ow t))=>(cs z.2).bind fun xs=>(jA c mv g ((.fr,z.1.2) :: xs) t).map fun r=>(r.2,z.2.set i (some (.ow r.1)))
 | _=>none) else none else none
section
variable {G:Gx} {X:Cx} {i c k k':Nat} {e:Expr} {es:List Expr} {cs:Exs} {m y:Str} {f:Addr} {fd:FuncData} {ps:List Str} {mv:List Bool} {g:Mt} {x:Xx} {apos pos p1:Pos}
theorem vt {pl:Sem Bool} (hn:∀ k,(G.ct (c+1)).2 k ≠ m) (hN:X.N[i]?=some y) (hv:Vis X.env.scope y) (hd:(y == ("__debug__" : Str))=false) (hcd:(y == ("__classdict__" : Str))=false) (hc:Cls X.K (G.ct (c+1)).1) (hm:Meth X.K (G.ct (c+1)).1 m f) (F:FnOk X.prog X.w X.K X.mg X.base CX0 k f fd ps (spM G c mv g)) (hr:Room k' X.A) (hk:k<=k') (hb:Binds X.K fd ps []) (h1:PX G X e x) (ha:PVs G X es cs)
  (hst:starEach (e :: es) X.env=(false,eval e X.env) :: starEach es X.env) (hpl:(backTo pos (starEach es X.env)).any (·.1)=false)
  (ht:eval (.Call (.Attribute (.Name y p1) m apos) (e :: es) [] pos) X.env=(do
   let ov ← eval (.Name y p1) X.env
   standAt apos.atName
   let (f,first) ← holding [ov] (getMethod ov m pl)
   callWith pos f first (backTo pos (starEach (e :: es) X.env)) (backToKw pos (keywordEach [] X.env)))):PX G X (.Call (.Attribute (.Name y p1) m apos) (e :: es) [] pos) (j8 i c mv g x cs) :=
 PE.weak (mZ (E:=E0) (gm hN hv hd hcd) hc hm F (hr.mono hk) hb .nil jy (gT h1 ha hst) hst hpl ht) fun σ H Q h=>by
  obtain ⟨Φ,η,v,η',s,e,him,kq⟩:=h
  unfold j8 at e
  split at e
  ·rename_i hob
   obtain ⟨⟨v1,η1⟩,e1,e2⟩:=Zz.mp e
   split at e2
   ·rename_i him1
    unfold zU at hob
    split at hob
    ·rename_i c0 q0 fs0 h0
     have ec0:c0=c+1:=by simpa using hob
     subst ec0
     obtain ⟨v0,g1,g2⟩:=s.rp _ _ h0
     have g2':Rp G H v0 (.obj (c+1) (q0 :: fs0)) (Φ i):=g2
     obtain ⟨c',a,dx,b,ns,vs,ts,Fs,ec,rfl,eb,ef,eF,hA,hl,hbb,ra⟩:=dF g2'
     cases ec
     have key:∀ (ns:X7) (vs:List V),((ns.map (G.ct (c+1)).2).zip vs).lookup m=none:=by
      intro ns
      induction ns with
      | nil=>intro vs;simp
      | cons n ns ih =>
       intro vs
       cases vs with
       | nil=>simp
       | cons v vs =>
        rw [Zp,Zd,Z6]
        have:(m == (G.ct (c+1)).2 n)=false:=by
         rw [beq_eq_false_iff_ne]
         exact fun z=>hn n z.symm
        rw [this]
        exact ih vs
     refine ⟨.ref a,g1,a,dx,_,rfl,hA,key _ _,Φ,η,v1,η1,s,e1,him1,fun u1 H1 Φ1 s1 f1 r1=>?_⟩
     dsimp only at e2
     split at e2
     ·rename_i t1 ht1
      obtain ⟨xs,el,e3⟩:=Zz.mp e2
      obtain ⟨⟨x3,y3⟩,w4,e4⟩:=Zw.mp e3
      cases e4
      obtain ⟨va,q1,w2⟩:=s1.rp _ _ ht1
      rw [g1] at q1
      cases q1
      have w3:=s1.nd i t1 ht1
      refine ⟨Φ1,η1,xs,s1,el,fun us H2 Gs sm2 rp2 fp2=>?_⟩
      show spM G c mv g (V.ref a :: ((u1 :: us)++[])) H2 Q E0
      rw [ZK]
      unfold jA at w4
      split at w4
      ·rename_i c1 b1 fs
       split at w4
       ·rename_i hcc
        obtain ⟨rfl,hno,hao,han⟩:=hcc
        obtain ⟨⟨fs',z⟩,eg,e7⟩:=Zz.mp w4
        split at e7
        ·rename_i hno'
         cases e7
         have w2':Rp G H1 (.ref a) (.obj (c+1) ((0,.bl b1) :: fs)) (Φ1 i):=w2
         obtain ⟨c2,a2,dx2,b2,ns2,vs2,ts2,Fs2,ec2,ea2,eb2,rfl,eF2,hA2,hl2,hb2,ra2⟩:=dF w2'
         cases ec2
         cases ea2
         cases eb2
         have lts:ns2.length=ts2.length:=hl2.trans ra2.len.1
         have fpl:FpL Φ1 η1 H1 ((.fr,v1.2) :: xs) ([] :: Gs):=⟨fun n v' F' a1 a2=>by
          cases n with
          | zero=>cases a1;cases a2;exact Fp.nil
          | succ n=>exact fp2.each n v' F' (by simpa using a1) (by simpa using a2),by
          show ([]++frs xs Gs).Nodup
          exact fp2.nd⟩
         have mvn:=pR hao fpl
         have rpA:RpL G H2 (u1 :: us) (trees ((.fr,v1.2) :: xs)) ([] :: Gs):=.cons (r1.same sm2) rp2
         refine ⟨a,u1 :: us,ns2.zip ts2,trees ((.fr,v1.2) :: xs),Φ1 i,[] :: Gs,fs',z,rfl,?_,rpA.at (some a) han,?_,?_,?_,eg,fun u H' F' gc ru=>?_⟩
         ·rw [eF2]
          exact .ins (sm2 a _ hA2) hl2 (fun _=>rfl) ((ra2.same sm2).at (some a) (dX lts hno))
         ·rw [ia hao]
          simp [trees]
         ·refine ZV.mpr ⟨w3,fpl.nd.sublist (kN hao),fun b1 hb1 b2 hb2 z=>?_⟩
          subst z
          exact Mut.ne_none (w2.dom b1 hb1) (mvn b1 hb2)
         ·rw [mR hao rpA]
          exact fun b1 _ z=>nomatch z
         ·have back:Rp G H' (.ref a) (.obj (c+1) ((0,.bl b1) :: fs')) F':=by
           obtain ⟨c3,a3,dx3,b3,ns3,vs3,ts3,Fs3,ec3,ea3,eb3,ef3,eF3,hA3,hl3,hb3,ra3⟩:=dF gc.rp
           cases ec3
           cases ea3
           subst ef3
           rw [eF3]
           exact .ins hA3 hl3 hb2 (ra3.at G.me (dX (hl3.trans ra3.len.1) hno'.1))
          have gG:Chg G H1 (.ref a) (Φ1 i) (.obj (c+1) ((0,.bl b1) :: fs')) H' F':=⟨(Kept.of sm2).trans gc.kept,fun b1 o1 hb1 ho=>gc.keep b1 o1 (fun z=>(Zg.mp z).elim hb1 fun z=>by rw [mvn b1 z] at ho;cases ho) (sm2 b1 o1 ho),fun b1 h=>gc.dom b1 fun z=>h (sm2.free z),back,gc.nd,fun b1 hb1=>by
           rcases gc.sub b1 hb1 with z | z
           ·rcases Zg.mp z with z | z
            ·exact .inl z
            ·exact .inr (mvn b1 z)
           ·exact .inr (sm2.free z)⟩
          obtain ⟨z1,z2⟩:=s1.mut ht1 g1 gG
          exact kq u H' _ z1 (f1.trans z2) (ru.at G.me (km z hno'.2))
        ·cases e7
       ·cases w4
      ·cases w4
     ·cases e2
    ·cases hob
   ·cases e2
  ·cases e
end
noncomputable def fnm (ns:List Str) (k:Nat):Str:=match ns[k]? with
 | some x=>x
 | none=>⟨#[k]⟩
noncomputable def gxO (ns:List Str) (K:X0) (C D:Addr):Gx:=⟨K,fun c=>(if c=2 then D else C,fnm ns),none⟩
theorem vI {ns:List Str} (nd:ns.Nodup) (h:∀ x∈ns,x.cps.size ≠ 1) (k k':Nat) (e:fnm ns k=fnm ns k'):k=k':=by
 unfold fnm at e
 by_cases h1:k < ns.length
 ·by_cases h2:k' < ns.length
  ·rw [Zm h1,Zm h2] at e
   exact (List.getElem_inj nd).mp e
  ·rw [Zm h1,ZE (ZP h2)] at e
   have e':ns[k]=(⟨#[k']⟩:Str):=e
   exact absurd (by rw [e'];rfl) (h _ (Z7 h1))
 ·by_cases h2:k' < ns.length
  ·rw [ZE (ZP h1),Zm h2] at e
   have e':(⟨#[k]⟩:Str)=ns[k']:=e
   exact absurd (by rw [← e'];rfl) (h _ (Z7 h2))
  ·rw [ZE (ZP h1),ZE (ZP h2)] at e
   have e':(⟨#[k]⟩:Str)=⟨#[k']⟩:=e
   cases e'
   rfl
theorem vL {ns:List Str} {K:X0} {C D:Addr} {m:Option Addr} (nd:ns.Nodup) (h:∀ x∈ns,x.cps.size ≠ 1):eO ((gxO ns K C D).at m):=fun _ k k' e=>vI nd h k k' e
theorem fu {ns:List Str} {x:Str} (h:x ∉ ns) (h1:x.cps.size ≠ 1) (k:Nat):fnm ns k ≠ x:=fun e=>by
 unfold fnm at e
 split at e
 ·rename_i y hy
  exact h (e ▸ YL hy)
 ·exact h1 (by rw [← e];rfl)
theorem qF {ns:List Str} {K:X0} {C D:Addr} {m:Option Addr} {k:Nat} {f:Str} (hk:ns[k]?=some f) (cC:Cls K C) (cD:Cls K D) (nC:bY K C f) (nD:bY K D f):FldOk ((gxO ns K C D).at m) K k f :=
 ⟨fun c=>by show fnm ns k=f;unfold fnm;rw [hk],fun c=>by show Cls K (if c+1=2 then D else C);split <;> assumption,fun c=>by show bY K (if c+1=2 then D else C) f;split <;> assumption⟩
structure MtAt (P:Program) (w:World) (K:X0) (mg:X3) (base:Heap) (k:Nat) (G:Gx) (c:Nat) (x:Str) (ps:List Str) (mv:List Bool) (g:Mt):Prop where
 ex:∃ f fd,FnOk P w K mg base CX0 k f fd ps (spM G c mv g)/\Meth K (G.ct (c+1)).1 x f/\Binds K fd ps []
 cl:Cls K (G.ct (c+1)).1
 no:∀ k,(G.ct (c+1)).2 k ≠ x
structure MpAt (P:Program) (w:World) (K:X0) (mg:X3) (base:Heap) (k:Nat) (G:Gx) (c:Nat) (x:Str) (ps:List Str) (h:Fn):Prop where
 ex:∃ f fd,FnOk P w K mg base CX0 k f fd ps (spF G h)/\Meth K (G.ct (c+1)).1 x f/\Binds K fd ps []
 cl:Cls K (G.ct (c+1)).1
 no:∀ k,(G.ct (c+1)).2 k ≠ x
structure InAt (P:Program) (w:World) (K:X0) (mg:X3) (base:Heap) (k:Nat) (G:Gx) (c n:Nat) (x:Str) (ps:List Str) (g:Mt):Prop where
 ex:∃ f fd,FnOk P w K mg base CX0 k f fd ps (spM G c (List.replicate n false) g)/\Mk K (G.ct (c+1)).1 f/\Binds K fd ps []
 mg:mg x=some (.ref (G.ct (c+1)).1)
section
variable {P:Program} {w:World} {K:X0} {mg:X3} {base:Heap} {k c n:Nat} {G:Gx} {x:Str} {ps:List Str} {mv:List Bool} {g:Mt}
theorem MtAt.at {m:Option Addr} (h:MtAt P w K mg base k G c x ps mv g):MtAt P w K mg base k (G.at m) c x ps mv g:=⟨h.ex,h.cl,h.no⟩
theorem InAt.at {m:Option Addr} (h:InAt P w K mg base k G c n x ps g):InAt P w K mg base k (G.at m) c n x ps g:=⟨h.ex,h.mg⟩
theorem Aj {qual:Str} {st:Stmt} {f:Addr} {fd:FuncData} {N:List Str} {np nn:Nat} {body:Sx} (F:Fun K x qual st f fd) (hm:Meth K (G.ct (c+1)).1 x f) (hc:Cls K (G.ct (c+1)).1) (hno:∀ k,(G.ct (c+1)).2 k ≠ x) (S:FnScope N ps (af st)) (hp:ps.length=np) (hn:N.length=nn)
  (hbd:∀ (kV doc pm:Value) (an:Option Addr) (cdv ct:Value) (us:X5),us.length=ps.length->bindArgs (PySem.W.fnOf x qual (aE st) (au st) (af st) .none kV doc pm an cdv ct) ⟨us,[]⟩=pure (ps.zip us))
  (hb:∀ (a:Addr) (cdv:Value) (A:Around) (outer:List PySem.Env) (s:Shared) (H:Hp) (E:XK),Room k (A.deeper (envOfC qual (af st) s.heap.objs.size f cdv))->dh (G.at (some a)) (fC CX0 P w K mg base N qual (af st) f cdv A outer s H E).nox (au st) body) :
  MtAt P w K mg base (k+1) G c x ps mv (mfn c np nn mv body):=⟨⟨f,fd,fnM F S hp hn hb,hm,F.binds hbd⟩,hc,hno⟩
theorem zA {y qual:Str} {st:Stmt} {f:Addr} {fd:FuncData} {N:List Str} {np nn:Nat} {body:Sx} (F:Fun K y qual st f fd) (hm:Mk K (G.ct (c+1)).1 f) (hg:mg x=some (.ref (G.ct (c+1)).1)) (S:FnScope N ps (af st)) (hp:ps.length=np) (hn:N.length=nn)
  (hbd:∀ (kV doc pm:Value) (an:Option Addr) (cdv ct:Value) (us:X5),us.length=ps.length->bindArgs (PySem.W.fnOf y qual (aE st) (au st) (af st) .none kV doc pm an cdv ct) ⟨us,[]⟩=pure (ps.zip us))
  (hb:∀ (a:Addr) (cdv:Value) (A:Around) (outer:List PySem.Env) (s:Shared) (H:Hp) (E:XK),Room k (A.deeper (envOfC qual (af st) s.heap.objs.size f cdv))->dh (G.at (some a)) (fC CX0 P w K mg base N qual (af st) f cdv A outer s H E).nox (au st) body) :
  InAt P w K mg base (k+1) G c n x ps (mfn c np nn (List.replicate n false) body):=⟨⟨f,fd,fnM F S hp hn hb,hm,F.binds hbd⟩,hg⟩
theorem xa {y qual:Str} {st:Stmt} {f:Addr} {fd:FuncData} {N:List Str} {np nn:Nat} {body:Sx} (F:FunD K y qual st f fd) (hm:Mk K (G.ct (c+1)).1 f) (hg:mg x=some (.ref (G.ct (c+1)).1)) (S:FnScope N ps (af st)) (hp:ps.length=np) (hn:N.length=nn)
  (hbd:∀ (s:Shared) (T:Addr) (kV doc pm:Value) (an:Option Addr) (cdv ct:Value) (o:Obj) (n:Nat) (us:X5),K.In s.heap->K.lookup T=some o->o.data=.seq #[.none] n->us.length=ps.length->BindsTo s (PySem.W.fnOf y qual (aE st) (au st) (af st) (.ref T) kV doc pm an cdv ct) ⟨us,[]⟩ (ps.zip us))
  (hb:∀ (a:Addr) (cdv:Value) (A:Around) (outer:List PySem.Env) (s:Shared) (H:Hp) (E:XK),Room k (A.deeper (envOfC qual (af st) s.heap.objs.size f cdv))->dh (G.at (some a)) (fC CX0 P w K mg base N qual (af st) f cdv A outer s H E).nox (au st) body) :
  InAt P w K mg base (k+1) G c n x ps (mfn c np nn (List.replicate n false) body):=⟨⟨f,fd,Cg (fun l b=>F.ok S l b) hp hn hb,hm,F.binds hbd⟩,hg⟩
theorem zI {qual:Str} {st:Stmt} {f:Addr} {fd:FuncData} {N:List Str} {np nn:Nat} {body:Sx} (F:Fun K x qual st f fd) (hm:Meth K (G.ct (c+1)).1 x f) (hc:Cls K (G.ct (c+1)).1) (hno:∀ k,(G.ct (c+1)).2 k ≠ x) (S:FnScope N ps (af st)) (hp:ps.length=np) (hn:N.length=nn)
  (hbd:∀ (kV doc pm:Value) (an:Option Addr) (cdv ct:Value) (us:X5),us.length=ps.length->bindArgs (PySem.W.fnOf x qual (aE st) (au st) (af st) .none kV doc pm an cdv ct) ⟨us,[]⟩=pure (ps.zip us))
  (hb:∀ (cdv:Value) (A:Around) (outer:List PySem.Env) (s:Shared) (H:Hp) (E:XK),Room k (A.deeper (envOfC qual (af st) s.heap.objs.size f cdv))->dh G (fC CX0 P w K mg base N qual (af st) f cdv A outer s H E).nox (au st) body) :
  MpAt P w K mg base (k+1) G c x ps (fn np nn body):=⟨⟨f,fd,fnV F S hp hn hb,hm,F.binds hbd⟩,hc,hno⟩
theorem vN {k:Nat} {f:Addr} {fd:FuncData} {y:Str} {g:Fn} (hK:G.K=K) (F:FnOk P w K mg base CX0 k f fd [y] (spF G g)) (hg:∀ ns:X8,g [.scr ns]=some (.fr,.bl true)) :
  FnOk P w K mg base CX0 k f fd [y] (spF (gx0 K) wg):=F.imp fun vs H Q E h=>by
 obtain ⟨ts,Fs,m,r,h1,h2,q⟩:=h
 unfold wg at h2
 split at h2
 ·rename_i ns
  cases h2
  cases h1 with
  | cons r1 r2 =>
   cases r2
   cases r1 with
   | scr hs=>exact ⟨[.scr ns],[[]],.fr,.bl true,.cons (.scr (by rw [hK];exact hs)) .nil,hg ns,fun v H' F e1 r f1=>q v H' F e1 (by cases r;exact .bl _) f1⟩
 ·cases h2
end
section
variable {G:Gx} {X:Cx} {i j c k k' kr n:Nat} {way:List Stp} {o e b:Expr} {es:List Expr} {cs:Exs} {ca ck ce:Ex} {m x:Str} {ps:List Str} {mv:List Bool} {g:Mt} {h:Fn} {xc:Xx} {f:Str} {apos cpos pos pos' p p1:Pos}
theorem sC (i:Nat) (hN:X.N[i]?=some x) (hv:Vis X.env.scope x) (hd:(x == ("__debug__" : Str))=false) (hcd:(x == ("__classdict__" : Str))=false):PPl G X (.Name x pos) i []:=wJ i hN hv hd hcd
theorem wF (k:Nat) (F:FldOk G X.K k f) (h:PPl G X e i way) (hb:attributeBase e f X.env (eval e X.env)=eval e X.env):PPl G X (.Attribute e f pos) i (way++[.fld k]):=yI k F h hb
theorem zu (hr:Room kr X.A) (h:PPl G X e i way) (hb:PV G X b ck) (hs:d5 b) (hK:X.K=G.K):PPl G X (.Subscript e b pos) i (way++[.ix ck]):=A5 hr h hb hs hK
theorem vS {pl:Sem Bool} (J:eO G) (F:MtAt X.prog X.w X.K X.mg X.base k G c m ps mv g) (hr:Room k' X.A) (hk:k<=k') (ho:PPl G X o i way) (ha:PVs G X (e :: es) cs)
  (hst:starEach (e :: es) X.env=(false,eval e X.env) :: starEach es X.env) (hpl:(backTo pos (starEach es X.env)).any (·.1)=false)
  (ht:eval (.Call (.Attribute o m apos) (e :: es) [] pos) X.env=(do
   let ov ← eval o X.env
   standAt apos.atName
   let (f,first) ← holding [ov] (getMethod ov m pl)
   callWith pos f first (backTo pos (starEach (e :: es) X.env)) (backToKw pos (keywordEach [] X.env)))):PX G X (.Call (.Attribute o m apos) (e :: es) [] pos) (br i way c mv g cs):=by
 obtain ⟨f,fd,h1,h2,h3⟩:=F.ex
 exact vY J F.no ho F.cl h2 h1 hr hk h3 ha hst hpl ht
theorem uj {pl:Sem Bool} (J:eO G) (F:MtAt X.prog X.w X.K X.mg X.base k G c m ps mv g) (hr:Room k' X.A) (hk:k<=k') (ho:PPl G X o i way)
  (ht:eval (.Call (.Attribute o m apos) [] [] pos) X.env=(do
   let ov ← eval o X.env
   standAt apos.atName
   let (f,first) ← holding [ov] (getMethod ov m pl)
   callWith pos f first (backTo pos (starEach [] X.env)) (backToKw pos (keywordEach [] X.env)))):PX G X (.Call (.Attribute o m apos) [] [] pos) (br i way c mv g ai):=by
 obtain ⟨f,fd,h1,h2,h3⟩:=F.ex
 exact uN J F.no ho F.cl h2 h1 hr hk h3 ht
theorem zt {pl:Sem Bool} (F:MtAt X.prog X.w X.K X.mg X.base k G c m ps mv g) (hr:Room k' X.A) (hk:k<=k') (hN:X.N[i]?=some x) (hv:Vis X.env.scope x) (hd:(x == ("__debug__" : Str))=false) (hcd:(x == ("__classdict__" : Str))=false) (h1:PX G X e xc) (ha:PVs G X es cs)
  (hst:starEach (e :: es) X.env=(false,eval e X.env) :: starEach es X.env) (hpl:(backTo pos (starEach es X.env)).any (·.1)=false)
  (ht:eval (.Call (.Attribute (.Name x p1) m apos) (e :: es) [] pos) X.env=(do
   let ov ← eval (.Name x p1) X.env
   standAt apos.atName
   let (f,first) ← holding [ov] (getMethod ov m pl)
   callWith pos f first (backTo pos (starEach (e :: es) X.env)) (backToKw pos (keywordEach [] X.env)))):PX G X (.Call (.Attribute (.Name x p1) m apos) (e :: es) [] pos) (j8 i c mv g xc cs):=by
 obtain ⟨f,fd,h2,h3,h4⟩:=F.ex
 exact vt F.no hN hv hd hcd F.cl h3 h2 hr hk h4 h1 ha hst hpl ht
theorem vO {pl:Sem Bool} (F:MpAt X.prog X.w X.K X.mg X.base k G c m ps h) (hr:Room k' X.A) (hk:k<=k') (ho:PV G X o ca) (ha:PVs G X (e :: es) cs)
  (hst:starEach (e :: es) X.env=(false,eval e X.env) :: starEach es X.env) (hpl:(backTo pos (starEach es X.env)).any (·.1)=false)
  (ht:eval (.Call (.Attribute o m apos) (e :: es) [] pos) X.env=(do
   let ov ← eval o X.env
   standAt apos.atName
   let (f,first) ← holding [ov] (getMethod ov m pl)
   callWith pos f first (backTo pos (starEach (e :: es) X.env)) (backToKw pos (keywordEach [] X.env)))):PV G X (.Call (.Attribute o m apos) (e :: es) [] pos) (cJ c h ca cs):=by
 obtain ⟨f,fd,h1,h2,h3⟩:=F.ex
 exact ym F.no ho F.cl h2 h1 hr hk h3 ha hst hpl ht
theorem uw {pl:Sem Bool} (F:MpAt X.prog X.w X.K X.mg X.base k G c m ps h) (hr:Room k' X.A) (hk:k<=k') (ho:PV G X o ca)
  (ht:eval (.Call (.Attribute o m apos) [] [] pos) X.env=(do
   let ov ← eval o X.env
   standAt apos.atName
   let (f,first) ← holding [ov] (getMethod ov m pl)
   callWith pos f first (backTo pos (starEach [] X.env)) (backToKw pos (keywordEach [] X.env)))):PV G X (.Call (.Attribute o m apos) [] [] pos) (cJ c h ca ai):=by
 obtain ⟨f,fd,h1,h2,h3⟩:=F.ex
 exact vX F.no ho F.cl h2 h1 hr hk h3 ht
theorem lX {e:Ex}:∀ (η:VS.Env) (xs:Wy),ae e ai η=some xs->xs.length=1:=fun η xs h=>by
 obtain ⟨a,_,h⟩:=Zz.mp h
 cases h
 rfl
theorem zx (F:InAt X.prog X.w X.K X.mg X.base k G c n x ps g) (hr:Room k' X.A) (hk:k+1<=k') (ha:PVs G X (e :: es) cs) (hn:∀ η xs,cs η=some xs->xs.length=n) (hg:Gl X x)
  (hdb:(x == ("__debug__" : Str))=false) (he:starEach (e :: es) X.env=(false,eval e X.env) :: starEach es X.env) (hpl:(backTo pos (starEach es X.env)).any (·.1)=false):PV G X (.Call (.Name x p) (e :: es) [] pos) (eNew c g cs):=by
 obtain ⟨f,fd,h1,h2,h3⟩:=F.ex
 exact B3 n h2 h1 hr hk hg F.mg h3 ha hn hdb he hpl
theorem wA (F:InAt X.prog X.w X.K X.mg X.base k G c 0 x ps g) (hr:Room k' X.A) (hk:k+1<=k') (hg:Gl X x) (hdb:(x == ("__debug__" : Str))=false):PV G X (.Call (.Name x p) [] [] pos) (eNew c g ai):=by
 obtain ⟨f,fd,h1,h2,h3⟩:=F.ex
 exact zj h2 h1 hr hk hg F.mg h3 hdb
theorem Bt (h:PX G X e xc) (hsw:swapsWith e none pos.line X.env=pure false):PSV G X (.Expr e pos) (sXM xc):=uX h hsw
theorem AD (h:PX G X e xc):PSV G X (.Return (some e) pos) (jG xc):=wD h
theorem zK (h:PX G X e xc) (hN:X.N.Nodup) (hi:X.N[j]?=some x) (hx:Loc X.env.scope x) (hs:swapsWith e (some (.Name x pos')) pos.line X.env=pure false) (hf:X.fn x=true\/X.env.scope.names.lookup x=some .local):PSV G X (.Assign [.Name x pos'] e pos) (fL j xc):=wR h hN hi hx hs hf
theorem zQ (J:eO G) (hr:Room kr X.A) (ho:PPl G X o i way) (hk:PV G X b ck) (he:PX G X e xc)
  (ha:∀ v,assign (.Subscript o b pos') X.env v=(do
   let ov ← holding [v] (eval o X.env)
   let iv ← holding [v,ov] (eval b X.env)
   standAt pos'
   holding [v,ov,iv] (setItem ov iv v)
   release [v,ov,iv] [])) (hs:swapsWithSole [.Subscript o b pos'] e pos.line X.env=pure false) (hw:swappedStores [.Subscript o b pos'] e X.env=pure none)
  (h1:(assignEach [.Subscript o b pos'] X.env).map (·.2)=[assign (.Subscript o b pos') X.env]):PSV G X (.Assign [.Subscript o b pos'] e pos) (gn i way ck xc):=xp J hr ho hk he ha hs hw h1
theorem zq (J:eO G) (hr:Room kr X.A) (ho:PPl G X o i way) (hk:PV G X b ck) (he:PV G X e ce)
  (ha:∀ v,assign (.Subscript o b pos') X.env v=(do
   let ov ← holding [v] (eval o X.env)
   let iv ← holding [v,ov] (eval b X.env)
   standAt pos'
   holding [v,ov,iv] (setItem ov iv v)
   release [v,ov,iv] [])) (hs:swapsWithSole [.Subscript o b pos'] e pos.line X.env=pure false) (hw:swappedStores [.Subscript o b pos'] e X.env=pure none)
  (h1:(assignEach [.Subscript o b pos'] X.env).map (·.2)=[assign (.Subscript o b pos') X.env]):PSV G X (.Assign [.Subscript o b pos'] e pos) (dH i way ck ce):=sy J hr ho hk he ha hs hw h1
theorem Ay (J:eO G) (ho:PPl G X o i way) (ha:PVs G X [e] cs) (hK:X.K=G.K)
  (hbase:attributeBase o "append" X.env (eval o X.env)=eval o X.env)
  (hfew:((backTo cpos (starEach [e] X.env)).all (fun x=>!x.1) && (backToKw cpos (keywordEach [] X.env)).all (fun x=>x.1.isSome)
   && decide ([e].length+([]:List Keyword).length+(if ([]:List Keyword).isEmpty then 0 else 1) < 30))=true)
  (hline:(apos.endLine == cpos.line)=true) (hs:starEach [e] X.env=(false,eval e X.env) :: starEach [] X.env) (hplain:(backTo cpos (starEach [] X.env)).any (·.1)=false)
  (hsw:swapsWith (.Call (.Attribute o "append" apos) [e] [] cpos) none pos.line X.env=pure false) :
  PSV G X (.Expr (.Call (.Attribute o "append" apos) [e] [] cpos) pos) (sX (fQ i way aG cs)) :=
 vi J YD Xs Xt hJ lE (fun H v t F l z r h=>jz r h) ho ha hK hbase hfew hline hs hplain hsw
end
end VS
end
section
namespace VS
open PySem PySem.Spec PyProof.Rows L2 XN
structure Q (p:Prop):Prop where h:p
section
variable {G:Gx} {X:Cx} {a b c e tg iter elt:Expr} {es rest:List Expr} {ca cb cc ce:Ex} {cs:Exs} {pos pos' spos p p1 p2 apos cpos tpos:Pos} {k k' n i:Nat} {x:Str} {st:Stmt} {sts:List Stmt} {c1 c2:Sx} {sc:Scope} {N:List Str} {ci:Its} {g:Tg} {elts:List Expr} {ps:List Str}
theorem aj {i j pos}:Q (PV G X (.Constant (.int i) j pos) (eC (.int i))):=⟨zv⟩
theorem iJ {i j pos}:Q (PV G X (.Constant (.bool i) j pos) (eC (.bl i))):=⟨Bf⟩
theorem nI {j pos}:Q (PV G X (.Constant .none j pos) (eC .non)):=⟨yn⟩
theorem da {x:Str} {t:Tx} {j pos} (h:x=sx t) (hl:lA t):Q (PV G X (.Constant (.str x) j pos) (eC (.str t))):=⟨Ar h hl⟩
theorem cK (i:Nat) {x:Str} {pos:Pos} (hN:X.N[i]?=some x) (hv:Vis X.env.scope x) (hd:(x == ("__debug__" : Str))=false) (hcd:(x == ("__classdict__" : Str))=false):Q (PV G X (.Name x pos) (ab i)):=⟨AN i hN hv hd hcd⟩
theorem ag  : Q (PVs G X [] ai):=⟨xm⟩
theorem aa (ha:Q (PV G X e ca)) (hr:Q (PVs G X es cs)) (hs:starEach (e :: es) X.env=(false,eval e X.env) :: starEach es X.env):Q (PVs G X (e :: es) (ae ca cs)):=⟨tu ha.h hr.h hs⟩
theorem bE (h:Q (PVs G X es cs)):Q (PV G X (.List es pos) (dz cs)):=⟨AF h.h⟩
theorem kB {x1} (h:Q (PVs G X es cs)):Q (PV G X (.Tuple es x1 pos) (mG cs)):=⟨AC h.h⟩
theorem rD (h:Q (PV G X a ca)) (hK:X.K=G.K) (he:∀ whole,isTrue a X.env whole=(do let v ← whole;standAt a.pos;holding [v] (truthy v))):Q (PVT G X a ca):=⟨vQ h.h hK he⟩
theorem eX (h:Q (PVW G X e ca)):Q (PVT G X e ca):=⟨PVW.pvt h.h⟩
theorem gk (ha:Q (PVT G X a ca)):Q (PVW G X (.BoolOp .And [a] pos) ca):=⟨sU ha.h⟩
theorem lW (ha:Q (PVT G X a ca)):Q (PVW G X (.BoolOp .Or [a] pos) ca):=⟨wX ha.h⟩
theorem gX (ha:Q (PVT G X a ca)) (hb:Q (PVW G X (.BoolOp .And (b :: rest) pos) cb)):Q (PVW G X (.BoolOp .And (a :: b :: rest) pos) (gL ca cb)):=⟨vU ha.h hb.h⟩
theorem nU (ha:Q (PVT G X a ca)) (hb:Q (PVW G X (.BoolOp .Or (b :: rest) pos) cb)):Q (PVW G X (.BoolOp .Or (a :: b :: rest) pos) (eOr ca cb)):=⟨yo ha.h hb.h⟩
theorem lQ (ha:Q (PVT G X a ca)):Q (PVT G X (.UnaryOp .Not a pos) (lz ca)):=⟨wk ha.h⟩
theorem uy (ha:Q (PV G X a ca)):Q (PV G X (.UnaryOp .Not a pos) (lz ca)):=⟨yA ha.h⟩
theorem sF {op} (h:Q (PV G X a ca)):Q (PV G X (.BoolOp op [a] pos) ca):=⟨zE h.h⟩
theorem uC (ha:Q (PV G X a ca)) (hb:Q (PV G X (.BoolOp .And (b :: rest) pos) cb)):Q (PV G X (.BoolOp .And (a :: b :: rest) pos) (gL ca cb)):=⟨yS ha.h hb.h⟩
theorem iq  : Q (PVO G X none none):=⟨t7⟩
theorem dA (h:Q (PV G X a ca)):Q (PVO G X (some a) (some ca)):=⟨ve h.h⟩
theorem fi {lo hi:Option Expr} {cl ch:Option Ex} {p2:Pos} (ha:Q (PV G X a ca)) (hl:Q (PVO G X lo cl)) (hh:Q (PVO G X hi ch)) (hK:X.K=G.K):Q (PV G X (.Subscript a (.Slice lo hi none p2) pos) (eSl ca cl ch)):=⟨rW ha.h hl.h hh.h hK⟩
theorem rM {apos cpos:Pos} (ho:Q (PV G X a ca)) (ha:Q (PVs G X [e] cs)) (hK:X.K=G.K) (hbase:attributeBase a "join" X.env (eval a X.env)=eval a X.env) (hfew:((backTo cpos (starEach [e] X.env)).all (fun x=>!x.1) && (backToKw cpos (keywordEach [] X.env)).all (fun x=>x.1.isSome)
   && decide ([e].length+([]:List Keyword).length+(if ([]:List Keyword).isEmpty then 0 else 1) < 30))=true) (hline:(apos.endLine == cpos.line)=true) (hs:starEach [e] X.env=(false,eval e X.env) :: starEach [] X.env) (hplain:(backTo cpos (starEach [] X.env)).any (·.1)=false):Q (PV G X (.Call (.Attribute a "join" apos) [e] [] cpos) (eM iY ca cs)):=⟨xQ ho.h ha.h hK hbase hfew hline hs hplain⟩
theorem bj  : Q (dh G X [] eG):=⟨vz⟩
theorem ah (h1:Q (PSV G X st c1)) (h2:Q (dh G X sts c2)):Q (dh G X (st :: sts) (ar c1 c2)):=⟨sq h1.h h2.h⟩
theorem ak (h1:Q (PSV G X st c1)):Q (dh G X [st] c1):=⟨vG h1.h⟩
theorem bz {t:Expr} {ct:Ex} {a b:List Stmt} (hc:Q (PVT G X t ct)) (ha:Q (dh G X a c1)) (hb:Q (dh G X b c2)):Q (PSV G X (.If t a b pos) (sIf ct c1 c2)):=⟨Aa hc.h ha.h hb.h⟩
theorem ba (he:Q (PV G X e ce)):Q (PSV G X (.Return (some e) pos) (eJ ce)):=⟨wj he.h⟩
theorem eY (i:Nat) {x:Str} {p:Pos} (hN:X.N[i]?=some x) (hv:Vis X.env.scope x) (hd:(x == ("__debug__" : Str))=false) (hcd:(x == ("__classdict__" : Str))=false):Q (PSV G X (.Return (some (.Name x p)) pos) (gv i)):=⟨sW i hN hv hd hcd⟩
theorem fS {i:Nat} {x:Str} {pos':Pos} (he:Q (PV G X e ce)) (hN:X.N.Nodup) (hi:X.N[i]?=some x) (hx:Loc X.env.scope x) (hs:swapsWith e (some (.Name x pos')) pos.line X.env=pure false) (hf:X.fn x=true\/X.env.scope.names.lookup x=some .local):Q (PSV G X (.Assign [.Name x pos'] e pos) (ly i ce)):=⟨wW he.h hN hi hx hs hf⟩
theorem aw {i:Nat} {x:Str} {pos':Pos} (he:Q (PV G X e ce)) (hN:X.N.Nodup) (hi:X.N[i]?=some x) (hx:Loc X.env.scope x) (hs:swapsWith e (some (.Name x pos')) pos.line X.env=pure false) (hf:X.fn x=true\/X.env.scope.names.lookup x=some .local):Q (PSV G X (.Assign [.Name x pos'] e pos) (aW i ce)):=⟨ur he.h hN hi hx hs hf⟩
theorem i9 {c:Sx} (i:Nat) (h:Q (dh G X sts c)):Q (dh G X sts (ar (oK i) c)):=⟨vy i h.h⟩
theorem gg (ha:Q (PV G X a ca)) (hg:Gl X "range") (hm:X.mg "range" = none) (hs:starEach [a] X.env=(false,eval a X.env) :: starEach [] X.env) (hs':starEach [a] X.env=[(false,eval a X.env)]):Q (PVI G X tg (.Call (.Name "range" p) [a] [] pos) (de ca)):=⟨oJ ha.h hg hm hs hs'⟩
theorem bP (i:Nat) {x:Str} (hN:X.N.Nodup) (hi:X.N[i]?=some x) (hx:Loc X.env.scope x) (hf:X.fn x=true\/X.env.scope.names.lookup x=some .local):Q (PVG G X (.Name x pos) (cS i)):=⟨tm i hN hi hx hf⟩
theorem d0 {iter:Expr} {body:List Stmt} {ci:Its} {g:Tg} {cb:Sx} (hp:PassesOwn (model X.prog X.w) X.A X.env X.xe) (hc:X.calm=true) (hi:Q (PVI G X tg iter ci)) (hg:Q (PVG G X tg g)) (hb:Q (dh G X body cb)) (hs:∀ x,foldedSetIterable iter X.env x=pure x):Q (PSV G X (.For tg iter body [] pos) (hZ g ci cb)):=⟨xg hp hc hi.h hg.h hb.h hs⟩
theorem js (k:Nat) (N:List Str) (hcalm:X.calm=true) (hi:Q (PVI G X tg iter ci)) (hin:qP k g) (hg:∀ cl C s H fp,Q (PVG G (di X N sc cl C s H fp) tg g)) (he:∀ cl C s H fp,Q (PV G (di X N sc cl C s H fp) elt ce)) (hsc:my X.env sc=true) (hnm:jJ sc (N.drop k) X.N=true) (hNl:k<=N.length) (hs:∀ x,foldedSetIterable iter X.env x=pure x):Q (PV G X (.ListComp elt [⟨tg,iter,[],0⟩] sc pos) (fF k g ci none ce)):=⟨vv k N hcalm hi.h hin (fun cl C s H fp=>(hg cl C s H fp).h) (fun cl C s H fp=>(he cl C s H fp).h) hsc hnm hNl hs⟩
theorem bF (ha:Q (PV G X a ca)) (hb:Q (PV G X b cb)):Q (PV G X (.BinOp a .Add b pos) (e2 cH ca cb)):=⟨w_add ha.h hb.h⟩
theorem jU (ha:Q (PV G X a ca)) (hb:Q (PV G X b cb)):Q (PV G X (.BinOp a .Sub b pos) (e2 jL ca cb)):=⟨w_sub ha.h hb.h⟩
theorem iB (ha:Q (PV G X a ca)) (hb:Q (PV G X b cb)):Q (PV G X (.BinOp a .Mult b pos) (e2 lr ca cb)):=⟨w_mul ha.h hb.h⟩
theorem dr (ha:Q (PV G X a ca)) (hb:Q (PV G X b cb)):Q (PV G X (.BinOp a .FloorDiv b pos) (e2 eI ca cb)):=⟨zk ha.h hb.h⟩
theorem cp (ha:Q (PV G X a ca)) (hb:Q (PV G X b cb)):Q (PV G X (.BinOp a .Mod b pos) (e2 oMod ca cb)):=⟨w_mod ha.h hb.h⟩
theorem mq (ha:Q (PV G X a ca)) (hb:Q (PV G X b cb)):Q (PVT G X (.Compare a [.Lt] [b] pos) (e2 oLt ca cb)):=⟨A8 ha.h hb.h⟩
theorem AS (hr:Room k X.A) (ha:Q (PV G X a ca)) (hb:Q (PV G X b cb)):Q (PV G X (.Compare a [.Eq] [b] pos) (e2 oEq ca cb)):=⟨w_eq hr ha.h hb.h⟩
theorem fY (hr:Room k X.A) (ha:Q (PV G X a ca)) (hb:Q (PV G X b cb)):Q (PVT G X (.Compare a [.Eq] [b] pos) (e2 oEq ca cb)):=⟨Bn hr ha.h hb.h⟩
theorem iZ (hr:Room k X.A) (ha:Q (PV G X a ca)) (hb:Q (PV G X b cb)):Q (PVT G X (.Compare a [.NotEq] [b] pos) (e2 oNe ca cb)):=⟨B4 hr ha.h hb.h⟩
theorem bf (ha:Q (PV G X a ca)) (hb:Q (PV G X b cb)) (hs:d5 b) (hK:X.K=G.K):Q (PV G X (.Subscript a b pos) (e2 aJ ca cb)):=⟨Co ha.h hb.h hs hK⟩
theorem bW (hm:X.mg "len" = none) (ha:Q (PVs G X [e] cs)) (hg:Gl X "len") (hK:X.K=G.K) (he:starEach [e] X.env=(false,eval e X.env) :: starEach [] X.env):Q (PV G X (.Call (.Name "len" p) [e] [] pos) (eN cn cs)):=⟨Ba hm ha.h hg hK he⟩
theorem tZ (hm:X.mg "max" = none) (ha:Q (PVs G X [a,b] cs)) (hc:X.calm=true) (hg:Gl X "max") (he:starEach [a,b] X.env=(false,eval a X.env) :: starEach [b] X.env) (hpl:(backTo pos (starEach [b] X.env)).any (·.1)=false):Q (PV G X (.Call (.Name "max" p) [a,b] [] pos) (eN ot cs)):=⟨yV hm ha.h hc hg he hpl⟩
theorem sj (hm:X.mg "min" = none) (ha:Q (PVs G X [a,b] cs)) (hc:X.calm=true) (hg:Gl X "min") (he:starEach [a,b] X.env=(false,eval a X.env) :: starEach [b] X.env) (hpl:(backTo pos (starEach [b] X.env)).any (·.1)=false):Q (PV G X (.Call (.Name "min" p) [a,b] [] pos) (eN oB cs)):=⟨zw hm ha.h hc hg he hpl⟩
theorem uH (t:Ty) (hm:X.mg "isinstance" = none) (hm2:X.mg (tyN t)=none) (ha:Q (PV G X a ca)) (hg:Gl X "isinstance") (hg2:Gl X (tyN t)) (hK:X.K=G.K) (hs:starEach [a,.Name (tyN t) p2] X.env=(false,eval a X.env) :: starEach [.Name (tyN t) p2] X.env):Q (PV G X (.Call (.Name "isinstance" p1) [a,.Name (tyN t) p2] [] pos) (eIs t ca)):=⟨w_is t hm hm2 ha.h hg hg2 hK hs⟩
theorem ig (i:Nat) {x:Str} (ha:Q (PVs G X [e] cs)) (hK:X.K=G.K) (hN:X.N[i]?=some x) (hv:Vis X.env.scope x) (hd:(x == ("__debug__" : Str))=false) (hcd:(x == ("__classdict__" : Str))=false) (hfew:((backTo cpos (starEach [e] X.env)).all (fun x=>!x.1) && (backToKw cpos (keywordEach [] X.env)).all (fun x=>x.1.isSome)
   && decide ([e].length+([]:List Keyword).length+(if ([]:List Keyword).isEmpty then 0 else 1) < 30))=true) (hline:(apos.endLine == cpos.line)=true) (hs:starEach [e] X.env=(false,eval e X.env) :: starEach [] X.env):Q (PSV G X (.Expr (.Call (.Attribute (.Name x p1) "append" apos) [e] [] cpos) pos) (sX (jN i [] aG cs))):=⟨u0 i ha.h hK hN hv hd hcd hfew hline hs⟩
theorem cu {g:Fn} (F:FnAt X.prog X.w X.K X.mg X.base k x ps G g) (hr:Room k' X.A) (ha:Q (PVs G X (e :: es) cs)) (hk:k<=k') (hg:Gl X x) (hdb:(x == ("__debug__" : Str))=false) (he:starEach (e :: es) X.env=(false,eval e X.env) :: starEach es X.env) (hpl:(backTo pos (starEach es X.env)).any (·.1)=false):Q (PV G X (.Call (.Name x p) (e :: es) [] pos) (bD g cs)):=⟨Ao F hr ha.h hk hg hdb he hpl⟩
theorem dY (ha:Q (PV G X a ca)) (hK:X.K=G.K):Q (PVI G X tg a (gR ca)):=⟨wG ha.h hK⟩
theorem vR (hm:X.mg "sum" = none) (ha:Q (PVs G X [e] cs)) (hg:Gl X "sum") (hK:X.K=G.K) (hc:X.calm=true) (he:starEach [e] X.env=(false,eval e X.env) :: starEach [] X.env):Q (PV G X (.Call (.Name "sum" p) [e] [] pos) (eN uO cs)):=⟨w_sum hm ha.h hg hK hc he⟩
theorem rC (hm:X.mg "tuple" = none) (ha:Q (PVs G X [e] cs)) (hg:Gl X "tuple") (hK:X.K=G.K) (he:starEach [e] X.env=(false,eval e X.env) :: starEach [] X.env):Q (PV G X (.Call (.Name "tuple" p) [e] [] pos) (eN g9 cs)):=⟨vD hm ha.h hg hK he⟩
theorem wm (ha:Q (PV G X a ca)) (hb:Q (PV G X b cb)):Q (PVT G X (.Compare a [.Gt] [b] pos) (e2 oGt ca cb)):=⟨A0 ha.h hb.h⟩
theorem xI (ha:Q (PV G X a ca)) (hb:Q (PV G X b cb)):Q (PVT G X (.Compare a [.GtE] [b] pos) (e2 oGe ca cb)):=⟨BC ha.h hb.h⟩
theorem lL {x:Str} {i:Int} (h:∃ t,X.mg x=some (.int i t)) (hg:Gl X x) (hd:(x == ("__debug__" : Str))=false):Q (PV G X (.Name x pos) (eC (.int i))):=⟨wC h hg hd⟩
theorem nK  : Q (PV G X (.Dict [] [] pos) (lq 0 [])):=⟨AK⟩
theorem gN {body:List Stmt} {cb:Sx} (hp:PassesOwn (model X.prog X.w) X.A X.env X.xe) (hc:Q (PVT G X c cc)) (hb:Q (dh G X body cb)):Q (PSV G X (.While c body [] pos) (jv cc cb)):=⟨qB hp hc.h hb.h⟩
theorem kX {st:Stmt}:Q (PSV G X st sNo):=⟨AI⟩
theorem kZ (hr:Room k X.A) (ha:Q (PV G X a ca)) (hb:Q (PV G X b cb)) (hs:d5 b) (hK:X.K=G.K):Q (PV G X (.Subscript a b pos) (e2 oIx ca cb)):=⟨Cr hr ha.h hb.h hs hK⟩
theorem wb (hr:Room k X.A) (ha:Q (PV G X a ca)) (hb:Q (PV G X b cb)) (hm:behindInMarks .In b=false) (hK:X.K=G.K):Q (PVT G X (.Compare a [.In] [b] pos) (e2 jM ca cb)):=⟨Bc hr ha.h hb.h hm hK⟩
theorem ox (hr:Room k X.A) (ha:Q (PV G X a ca)) (hb:Q (PV G X b cb)) (hm:behindInMarks .NotIn b=false) (hK:X.K=G.K):Q (PVT G X (.Compare a [.NotIn] [b] pos) (e2 dc ca cb)):=⟨yL hr ha.h hb.h hm hK⟩
theorem je (hm:X.mg "list" = none) (ha:Q (PVs G X [e] cs)) (hg:Gl X "list") (hK:X.K=G.K) (hc:X.calm=true) (he:starEach [e] X.env=(false,eval e X.env) :: starEach [] X.env):Q (PV G X (.Call (.Name "list" p) [e] [] pos) (eN eQ cs)):=⟨wQ hm ha.h hg hK hc he⟩
theorem jh {a b c:Expr} {ca cb cc:Ex} (ha:Q (PV G X a ca)) (hb:Q (PV G X b cb)) (hc:Q (PV G X c cc)) (hm:lastMarks [.LtE,.Lt] [b,c]=false):Q (PVT G X (.Compare a [.LtE,.Lt] [b,c] pos) (ij oLe oLt ca cb cc)):=⟨kU ha.h hb.h hc.h hm⟩
theorem vf {ce:Ex} (h:Q (PV G X e ce)) (hsw:swapsWith e none pos.line X.env=pure false):Q (PSV G X (.Expr e pos) (sX (xP ce))):=⟨yW h.h hsw⟩
theorem t6 {j pos'} (ha:Q (PV G X a ca)):Q (PVT G X (.Compare a [.Is] [.Constant .none j pos'] pos) (uS ca)):=⟨yx ha.h⟩
theorem g8 {j pos'} (ha:Q (PV G X a ca)):Q (PVT G X (.Compare a [.IsNot] [.Constant .none j pos'] pos) (eT ca)):=⟨wI ha.h⟩
theorem sG (i:Nat) {x:Str} (hr:Room kr X.A) (hk:Q (PV G X b ck)) (he:Q (PV G X e ce)) (hN:X.N[i]?=some x) (hv:Vis X.env.scope x) (hd:(x == ("__debug__" : Str))=false) (hcd:(x == ("__classdict__" : Str))=false) (ha:∀ v,assign (.Subscript (.Name x p1) b pos') X.env v=(do
   let ov ← holding [v] (eval (.Name x p1) X.env)
   let iv ← holding [v,ov] (eval b X.env)
   standAt pos'
   holding [v,ov,iv] (setItem ov iv v)
   release [v,ov,iv] [])) (hs:swapsWithSole [.Subscript (.Name x p1) b pos'] e pos.line X.env=pure false) (hw:swappedStores [.Subscript (.Name x p1) b pos'] e X.env=pure none) (h1:(assignEach [.Subscript (.Name x p1) b pos'] X.env).map (·.2)=[assign (.Subscript (.Name x p1) b pos') X.env]):Q (PSV G X (.Assign [.Subscript (.Name x p1) b pos'] e pos) (lJ i ck ce)):=⟨zL i hr hk.h he.h hN hv hd hcd ha hs hw h1⟩
theorem px (i:Nat) {x:Str} (ha:Q (PVs G X [e,b] cs)) (hK:X.K=G.K) (hN:X.N[i]?=some x) (hv:Vis X.env.scope x) (hd:(x == ("__debug__" : Str))=false) (hcd:(x == ("__classdict__" : Str))=false) (hfew:((backTo cpos (starEach [e,b] X.env)).all (fun x=>!x.1) && (backToKw cpos (keywordEach [] X.env)).all (fun x=>x.1.isSome)
   && decide ([e,b].length+([]:List Keyword).length+(if ([]:List Keyword).isEmpty then 0 else 1) < 30))=true) (hline:(apos.endLine == cpos.line)=true) (hs:starEach [e,b] X.env=(false,eval e X.env) :: starEach [b] X.env) (hpl:(backTo cpos (starEach [b] X.env)).any (·.1)=false):Q (PSV G X (.Expr (.Call (.Attribute (.Name x p1) "insert" apos) [e,b] [] cpos) pos) (sX (jN i [] mU cs))):=⟨sZ i ha.h hK hN hv hd hcd hfew hline hs hpl⟩
theorem lK (hm:X.mg "sorted" = none) (ha:Q (PVs G X [e] cs)) (hg:Gl X "sorted") (hK:X.K=G.K) (hc:X.calm=true) (he:starEach [e] X.env=(false,eval e X.env) :: starEach [] X.env):Q (PV G X (.Call (.Name "sorted" p) [e] [] pos) (eN ft cs)):=⟨v8 hm ha.h hg hK hc he⟩
end
section
variable {G:Gx} {X:Cx} {a e o:Expr} {ca ce:Ex} {k i:Nat} {f x:Str} {pos pos' p1:Pos}
theorem bh (J:eO G) (F:FldOk G X.K k f) (ha:Q (PV G X a ca)) (hb:attributeBase a f X.env (eval a X.env)=eval a X.env):Q (PV G X (.Attribute a f pos) (aY k ca)):=⟨w_fld J F ha.h hb⟩
end
section
variable {G:Gx} {X:Cx} {a e o:Expr} {ca ce:Ex} {k i:Nat} {f x:Str} {pos pos' p1:Pos}
theorem fN (i k:Nat) (J:eO G) (F:FldOk G X.K k f) (he:Q (PV G X e ce)) (hN:X.N[i]?=some x) (hv:Vis X.env.scope x) (hd:(x == ("__debug__" : Str))=false) (hcd:(x == ("__classdict__" : Str))=false) (hs:swapsWith e (some (.Attribute (.Name x p1) f pos')) pos.line X.env=pure false):Q (PSV G X (.Assign [.Attribute (.Name x p1) f pos'] e pos) (gp i k ce)):=⟨An i k J F he.h hN hv hd hcd hs⟩
end
section
variable {G:Gx} {X:Cx} {a b e o:Expr} {ca cb ce:Ex} {cs:Exs} {p pos cpos apos:Pos} {k kr:Nat}
theorem qZ (hm:X.mg "dict" = none) (ha:Q (PVs G X [e] cs)) (hg:Gl X "dict") (he:starEach [e] X.env=(false,eval e X.env) :: starEach [] X.env):Q (PV G X (.Call (.Name "dict" p) [e] [] pos) (eN ie cs)):=⟨vC hm ha.h hg he⟩
end
section
variable {G:Gx} {X:Cx} {a b e o:Expr} {ca cb ce:Ex} {cs:Exs} {p pos cpos apos:Pos} {k kr:Nat}
theorem uD {i i':Int} {j j':Nat} {q q':Pos}:Q (PV G X (.Dict [some (.Constant (.int i) j q)] [.Constant (.int i') j' q'] pos) (lq 0 [(eC (.int i),eC (.int i'))])):=⟨zB⟩
end
section
variable {G:Gx} {X:Cx} {a b e o:Expr} {ca cb ce:Ex} {cs:Exs} {p pos cpos apos:Pos} {k kr:Nat}
theorem wV (hr:Room kr X.A) (ho:Q (PV G X o ca)) (he:Q (PV G X e cb)) (hbase:attributeBase o "get" X.env (eval o X.env)=eval o X.env) (hfew:((backTo cpos (starEach [e] X.env)).all (fun x=>!x.1) && (backToKw cpos (keywordEach [] X.env)).all (fun x=>x.1.isSome)
   && decide (([e]:List Expr).length+([]:List Keyword).length+(if ([]:List Keyword).isEmpty then 0 else 1) < 30))=true) (hline:(apos.endLine == cpos.line)=true) (htr:backTo cpos (starEach [e] X.env)=[(false,eval e X.env)]):Q (PV G X (.Call (.Attribute o "get" apos) [e] [] cpos) (e2 pd ca cb)):=⟨w_get hr ho.h he.h hbase hfew hline htr⟩
end
section
variable {G:Gx} {X:Cx} {a b e o:Expr} {ca cb ce:Ex} {cs:Exs} {p pos cpos apos:Pos} {k kr:Nat}
theorem pI (hr:Room kr X.A) (ha:Q (PV G X a ca)) (hb:Q (PV G X b cb)) (hs:d5 b) (hK:X.K=G.K):Q (PV G X (.Subscript a b pos) (e2 lj ca cb)):=⟨Cj hr ha.h hb.h hs hK⟩
end
section
variable {G:Gx} {X:Cx} {i j:Nat} {way:List Stp} {o:Expr} {y:Str} {apos cpos pos p1:Pos}
theorem qI (J:eO G) (ho:Q (PPl G X o i way)) (hK:X.K=G.K) (hN:X.N[j]?=some y) (hv:Vis X.env.scope y) (hd:(y == ("__debug__" : Str))=false) (hcd:(y == ("__classdict__" : Str))=false) (hbase:attributeBase o "append" X.env (eval o X.env)=eval o X.env) (hfew:((backTo cpos (starEach [.Name y p1] X.env)).all (fun x=>!x.1) && (backToKw cpos (keywordEach [] X.env)).all (fun x=>x.1.isSome)
   && decide ([Expr.Name y p1].length+([]:List Keyword).length+(if ([]:List Keyword).isEmpty then 0 else 1) < 30))=true) (hline:(apos.endLine == cpos.line)=true) (hs:starEach [.Name y p1] X.env=(false,eval (.Name y p1) X.env) :: starEach [] X.env) (hplain:(backTo cpos (starEach [] X.env)).any (·.1)=false) (hsw:swapsWith (.Call (.Attribute o "append" apos) [.Name y p1] [] cpos) none pos.line X.env=pure false):Q (PSV G X (.Expr (.Call (.Attribute o "append" apos) [.Name y p1] [] cpos) pos) (jc i way j)):=⟨wa J ho.h hK hN hv hd hcd hbase hfew hline hs hplain hsw⟩
end
section
variable {G:Gx} {X:Cx} {i:Nat} {elt tg:Expr} {sc:Scope} {pos pos' p1:Pos} {N:List Str} {x:Str} {g:Tg} {ce:Ex}
theorem uR (i:Nat) (N:List Str) (hcalm:X.calm=true) (hN:X.N[i]?=some x) (hv:Vis X.env.scope x) (hd:(x == ("__debug__" : Str))=false) (hcd:(x == ("__classdict__" : Str))=false) (hin:qP 1 g) (hg:∀ cl C s H fp,Q (PVG G (di X N sc cl C s H fp) tg g)) (he:∀ cl C s H fp,Q (PV G (di X N sc cl C s H fp) elt ce)) (hsc:my X.env sc=true) (hnm:jJ sc (N.drop 1) X.N=true) (hNl:1<=N.length) (hs:∀ y,foldedSetIterable (.Name x p1) X.env y=pure y):Q (PSV G X (.Return (some (.ListComp elt [⟨tg,.Name x p1,[],0⟩] sc pos)) pos') (pL i g ce)):=⟨Ag i N hcalm hN hv hd hcd hin (fun cl C s H fp=>(hg cl C s H fp).h) (fun cl C s H fp=>(he cl C s H fp).h) hsc hnm hNl hs⟩
end
section
variable {G:Gx} {X:Cx} {i j c k k' kr n:Nat} {way:List Stp} {o e b:Expr} {es:List Expr} {cs:Exs} {ca ck ce:Ex} {m x:Str} {ps:List Str} {mv:List Bool} {g:Mt} {h:Fn} {xc:Xx} {f:Str} {apos cpos pos pos' p p1:Pos}
theorem aS (i:Nat) (hN:X.N[i]?=some x) (hv:Vis X.env.scope x) (hd:(x == ("__debug__" : Str))=false) (hcd:(x == ("__classdict__" : Str))=false):Q (PPl G X (.Name x pos) i []):=⟨sC i hN hv hd hcd⟩
end
section
variable {G:Gx} {X:Cx} {i j c k k' kr n:Nat} {way:List Stp} {o e b:Expr} {es:List Expr} {cs:Exs} {ca ck ce:Ex} {m x:Str} {ps:List Str} {mv:List Bool} {g:Mt} {h:Fn} {xc:Xx} {f:Str} {apos cpos pos pos' p p1:Pos}
theorem b8 (k:Nat) (F:FldOk G X.K k f) (h:Q (PPl G X e i way)) (hb:attributeBase e f X.env (eval e X.env)=eval e X.env):Q (PPl G X (.Attribute e f pos) i (way++[.fld k])):=⟨wF k F h.h hb⟩
end
section
variable {G:Gx} {X:Cx} {i j c k k' kr n:Nat} {way:List Stp} {o e b:Expr} {es:List Expr} {cs:Exs} {ca ck ce:Ex} {m x:Str} {ps:List Str} {mv:List Bool} {g:Mt} {h:Fn} {xc:Xx} {f:Str} {apos cpos pos pos' p p1:Pos}
theorem nq (hr:Room kr X.A) (h:Q (PPl G X e i way)) (hb:Q (PV G X b ck)) (hs:d5 b) (hK:X.K=G.K):Q (PPl G X (.Subscript e b pos) i (way++[.ix ck])):=⟨zu hr h.h hb.h hs hK⟩
end
section
variable {G:Gx} {X:Cx} {i j c k k' kr n:Nat} {way:List Stp} {o e b:Expr} {es:List Expr} {cs:Exs} {ca ck ce:Ex} {m x:Str} {ps:List Str} {mv:List Bool} {g:Mt} {h:Fn} {xc:Xx} {f:Str} {apos cpos pos pos' p p1:Pos}
theorem d4 {pl:Sem Bool} (J:eO G) (F:MtAt X.prog X.w X.K X.mg X.base k G c m ps mv g) (hr:Room k' X.A) (hk:k<=k') (ho:Q (PPl G X o i way)) (ha:Q (PVs G X (e :: es) cs)) (hst:starEach (e :: es) X.env=(false,eval e X.env) :: starEach es X.env) (hpl:(backTo pos (starEach es X.env)).any (·.1)=false) (ht:eval (.Call (.Attribute o m apos) (e :: es) [] pos) X.env=(do
   let ov ← eval o X.env
   standAt apos.atName
   let (f,first) ← holding [ov] (getMethod ov m pl)
   callWith pos f first (backTo pos (starEach (e :: es) X.env)) (backToKw pos (keywordEach [] X.env)))):Q (PX G X (.Call (.Attribute o m apos) (e :: es) [] pos) (br i way c mv g cs)):=⟨vS J F hr hk ho.h ha.h hst hpl ht⟩
end
section
variable {G:Gx} {X:Cx} {i j c k k' kr n:Nat} {way:List Stp} {o e b:Expr} {es:List Expr} {cs:Exs} {ca ck ce:Ex} {m x:Str} {ps:List Str} {mv:List Bool} {g:Mt} {h:Fn} {xc:Xx} {f:Str} {apos cpos pos pos' p p1:Pos}
theorem oY {pl:Sem Bool} (J:eO G) (F:MtAt X.prog X.w X.K X.mg X.base k G c m ps mv g) (hr:Room k' X.A) (hk:k<=k') (ho:Q (PPl G X o i way)) (ht:eval (.Call (.Attribute o m apos) [] [] pos) X.env=(do
   let ov ← eval o X.env
   standAt apos.atName
   let (f,first) ← holding [ov] (getMethod ov m pl)
   callWith pos f first (backTo pos (starEach [] X.env)) (backToKw pos (keywordEach [] X.env)))):Q (PX G X (.Call (.Attribute o m apos) [] [] pos) (br i way c mv g ai)):=⟨uj J F hr hk ho.h ht⟩
end
section
variable {G:Gx} {X:Cx} {i j c k k' kr n:Nat} {way:List Stp} {o e b:Expr} {es:List Expr} {cs:Exs} {ca ck ce:Ex} {m x:Str} {ps:List Str} {mv:List Bool} {g:Mt} {h:Fn} {xc:Xx} {f:Str} {apos cpos pos pos' p p1:Pos}
theorem uW {pl:Sem Bool} (F:MtAt X.prog X.w X.K X.mg X.base k G c m ps mv g) (hr:Room k' X.A) (hk:k<=k') (hN:X.N[i]?=some x) (hv:Vis X.env.scope x) (hd:(x == ("__debug__" : Str))=false) (hcd:(x == ("__classdict__" : Str))=false) (h1:Q (PX G X e xc)) (ha:Q (PVs G X es cs)) (hst:starEach (e :: es) X.env=(false,eval e X.env) :: starEach es X.env) (hpl:(backTo pos (starEach es X.env)).any (·.1)=false) (ht:eval (.Call (.Attribute (.Name x p1) m apos) (e :: es) [] pos) X.env=(do
   let ov ← eval (.Name x p1) X.env
   standAt apos.atName
   let (f,first) ← holding [ov] (getMethod ov m pl)
   callWith pos f first (backTo pos (starEach (e :: es) X.env)) (backToKw pos (keywordEach [] X.env)))):Q (PX G X (.Call (.Attribute (.Name x p1) m apos) (e :: es) [] pos) (j8 i c mv g xc cs)):=⟨zt F hr hk hN hv hd hcd h1.h ha.h hst hpl ht⟩
end
section
variable {G:Gx} {X:Cx} {i j c k k' kr n:Nat} {way:List Stp} {o e b:Expr} {es:List Expr} {cs:Exs} {ca ck ce:Ex} {m x:Str} {ps:List Str} {mv:List Bool} {g:Mt} {h:Fn} {xc:Xx} {f:Str} {apos cpos pos pos' p p1:Pos}
theorem rq {pl:Sem Bool} (F:MpAt X.prog X.w X.K X.mg X.base k G c m ps h) (hr:Room k' X.A) (hk:k<=k') (ho:Q (PV G X o ca)) (ha:Q (PVs G X (e :: es) cs)) (hst:starEach (e :: es) X.env=(false,eval e X.env) :: starEach es X.env) (hpl:(backTo pos (starEach es X.env)).any (·.1)=false) (ht:eval (.Call (.Attribute o m apos) (e :: es) [] pos) X.env=(do
   let ov ← eval o X.env
   standAt apos.atName
   let (f,first) ← holding [ov] (getMethod ov m pl)
   callWith pos f first (backTo pos (starEach (e :: es) X.env)) (backToKw pos (keywordEach [] X.env)))):Q (PV G X (.Call (.Attribute o m apos) (e :: es) [] pos) (cJ c h ca cs)):=⟨vO F hr hk ho.h ha.h hst hpl ht⟩
end
section
variable {G:Gx} {X:Cx} {i j c k k' kr n:Nat} {way:List Stp} {o e b:Expr} {es:List Expr} {cs:Exs} {ca ck ce:Ex} {m x:Str} {ps:List Str} {mv:List Bool} {g:Mt} {h:Fn} {xc:Xx} {f:Str} {apos cpos pos pos' p p1:Pos}
theorem cU {pl:Sem Bool} (F:MpAt X.prog X.w X.K X.mg X.base k G c m ps h) (hr:Room k' X.A) (hk:k<=k') (ho:Q (PV G X o ca)) (ht:eval (.Call (.Attribute o m apos) [] [] pos) X.env=(do
   let ov ← eval o X.env
   standAt apos.atName
   let (f,first) ← holding [ov] (getMethod ov m pl)
   callWith pos f first (backTo pos (starEach [] X.env)) (backToKw pos (keywordEach [] X.env)))):Q (PV G X (.Call (.Attribute o m apos) [] [] pos) (cJ c h ca ai)):=⟨uw F hr hk ho.h ht⟩
end
section
variable {G:Gx} {X:Cx} {i j c k k' kr n:Nat} {way:List Stp} {o e b:Expr} {es:List Expr} {cs:Exs} {ca ck ce:Ex} {m x:Str} {ps:List Str} {mv:List Bool} {g:Mt} {h:Fn} {xc:Xx} {f:Str} {apos cpos pos pos' p p1:Pos}
theorem fU (F:InAt X.prog X.w X.K X.mg X.base k G c n x ps g) (hr:Room k' X.A) (hk:k+1<=k') (ha:Q (PVs G X (e :: es) cs)) (hn:∀ η xs,cs η=some xs->xs.length=n) (hg:Gl X x) (hdb:(x == ("__debug__" : Str))=false) (he:starEach (e :: es) X.env=(false,eval e X.env) :: starEach es X.env) (hpl:(backTo pos (starEach es X.env)).any (·.1)=false):Q (PV G X (.Call (.Name x p) (e :: es) [] pos) (eNew c g cs)):=⟨zx F hr hk ha.h hn hg hdb he hpl⟩
end
section
variable {G:Gx} {X:Cx} {i j c k k' kr n:Nat} {way:List Stp} {o e b:Expr} {es:List Expr} {cs:Exs} {ca ck ce:Ex} {m x:Str} {ps:List Str} {mv:List Bool} {g:Mt} {h:Fn} {xc:Xx} {f:Str} {apos cpos pos pos' p p1:Pos}
theorem rE (F:InAt X.prog X.w X.K X.mg X.base k G c 0 x ps g) (hr:Room k' X.A) (hk:k+1<=k') (hg:Gl X x) (hdb:(x == ("__debug__" : Str))=false):Q (PV G X (.Call (.Name x p) [] [] pos) (eNew c g ai)):=⟨wA F hr hk hg hdb⟩
end
section
variable {G:Gx} {X:Cx} {i j c k k' kr n:Nat} {way:List Stp} {o e b:Expr} {es:List Expr} {cs:Exs} {ca ck ce:Ex} {m x:Str} {ps:List Str} {mv:List Bool} {g:Mt} {h:Fn} {xc:Xx} {f:Str} {apos cpos pos pos' p p1:Pos}
theorem qw (h:Q (PX G X e xc)) (hsw:swapsWith e none pos.line X.env=pure false):Q (PSV G X (.Expr e pos) (sXM xc)):=⟨Bt h.h hsw⟩
end
section
variable {G:Gx} {X:Cx} {i j c k k' kr n:Nat} {way:List Stp} {o e b:Expr} {es:List Expr} {cs:Exs} {ca ck ce:Ex} {m x:Str} {ps:List Str} {mv:List Bool} {g:Mt} {h:Fn} {xc:Xx} {f:Str} {apos cpos pos pos' p p1:Pos}
theorem uM (h:Q (PX G X e xc)):Q (PSV G X (.Return (some e) pos) (jG xc)):=⟨AD h.h⟩
end
section
variable {G:Gx} {X:Cx} {i j c k k' kr n:Nat} {way:List Stp} {o e b:Expr} {es:List Expr} {cs:Exs} {ca ck ce:Ex} {m x:Str} {ps:List Str} {mv:List Bool} {g:Mt} {h:Fn} {xc:Xx} {f:Str} {apos cpos pos pos' p p1:Pos}
theorem kK (h:Q (PX G X e xc)) (hN:X.N.Nodup) (hi:X.N[j]?=some x) (hx:Loc X.env.scope x) (hs:swapsWith e (some (.Name x pos')) pos.line X.env=pure false) (hf:X.fn x=true\/X.env.scope.names.lookup x=some .local):Q (PSV G X (.Assign [.Name x pos'] e pos) (fL j xc)):=⟨zK h.h hN hi hx hs hf⟩
end
section
variable {G:Gx} {X:Cx} {i j c k k' kr n:Nat} {way:List Stp} {o e b:Expr} {es:List Expr} {cs:Exs} {ca ck ce:Ex} {m x:Str} {ps:List Str} {mv:List Bool} {g:Mt} {h:Fn} {xc:Xx} {f:Str} {apos cpos pos pos' p p1:Pos}
theorem n6 (J:eO G) (hr:Room kr X.A) (ho:Q (PPl G X o i way)) (hk:Q (PV G X b ck)) (he:Q (PX G X e xc)) (ha:∀ v,assign (.Subscript o b pos') X.env v=(do
   let ov ← holding [v] (eval o X.env)
   let iv ← holding [v,ov] (eval b X.env)
   standAt pos'
   holding [v,ov,iv] (setItem ov iv v)
   release [v,ov,iv] [])) (hs:swapsWithSole [.Subscript o b pos'] e pos.line X.env=pure false) (hw:swappedStores [.Subscript o b pos'] e X.env=pure none) (h1:(assignEach [.Subscript o b pos'] X.env).map (·.2)=[assign (.Subscript o b pos') X.env]):Q (PSV G X (.Assign [.Subscript o b pos'] e pos) (gn i way ck xc)):=⟨zQ J hr ho.h hk.h he.h ha hs hw h1⟩
end
section
variable {G:Gx} {X:Cx} {i j c k k' kr n:Nat} {way:List Stp} {o e b:Expr} {es:List Expr} {cs:Exs} {ca ck ce:Ex} {m x:Str} {ps:List Str} {mv:List Bool} {g:Mt} {h:Fn} {xc:Xx} {f:Str} {apos cpos pos pos' p p1:Pos}
theorem iw (J:eO G) (hr:Room kr X.A) (ho:Q (PPl G X o i way)) (hk:Q (PV G X b ck)) (he:Q (PV G X e ce)) (ha:∀ v,assign (.Subscript o b pos') X.env v=(do
   let ov ← holding [v] (eval o X.env)
   let iv ← holding [v,ov] (eval b X.env)
   standAt pos'
   holding [v,ov,iv] (setItem ov iv v)
   release [v,ov,iv] [])) (hs:swapsWithSole [.Subscript o b pos'] e pos.line X.env=pure false) (hw:swappedStores [.Subscript o b pos'] e X.env=pure none) (h1:(assignEach [.Subscript o b pos'] X.env).map (·.2)=[assign (.Subscript o b pos') X.env]):Q (PSV G X (.Assign [.Subscript o b pos'] e pos) (dH i way ck ce)):=⟨zq J hr ho.h hk.h he.h ha hs hw h1⟩
end
section
variable {G:Gx} {X:Cx} {i j c k k' kr n:Nat} {way:List Stp} {o e b:Expr} {es:List Expr} {cs:Exs} {ca ck ce:Ex} {m x:Str} {ps:List Str} {mv:List Bool} {g:Mt} {h:Fn} {xc:Xx} {f:Str} {apos cpos pos pos' p p1:Pos}
theorem iP (J:eO G) (ho:Q (PPl G X o i way)) (ha:Q (PVs G X [e] cs)) (hK:X.K=G.K) (hbase:attributeBase o "append" X.env (eval o X.env)=eval o X.env) (hfew:((backTo cpos (starEach [e] X.env)).all (fun x=>!x.1) && (backToKw cpos (keywordEach [] X.env)).all (fun x=>x.1.isSome)
   && decide ([e].length+([]:List Keyword).length+(if ([]:List Keyword).isEmpty then 0 else 1) < 30))=true) (hline:(apos.endLine == cpos.line)=true) (hs:starEach [e] X.env=(false,eval e X.env) :: starEach [] X.env) (hplain:(backTo cpos (starEach [] X.env)).any (·.1)=false) (hsw:swapsWith (.Call (.Attribute o "append" apos) [e] [] cpos) none pos.line X.env=pure false):Q (PSV G X (.Expr (.Call (.Attribute o "append" apos) [e] [] cpos) pos) (sX (fQ i way aG cs))):=⟨Ay J ho.h ha.h hK hbase hfew hline hs hplain hsw⟩
end
section
variable {G:Gx} {P:Program} {w:World} {K:X0} {mg:X3} {base:Heap}
theorem kE {x:Str} {st:Stmt} {f:Addr} {fd:FuncData} {N ps:List Str} {k np nn:Nat} {c:Sx} (F:Fun K x x st f fd) (hm:mg x=some (.ref f)) (S:FnScope N ps (af st)) (hp:ps.length=np) (hn:N.length=nn)
  (hbd:∀ (kV doc pm:Value) (an:Option Addr) (cdv ct:Value) (us:X5),us.length=ps.length->bindArgs (PySem.W.fnOf x x (aE st) (au st) (af st) .none kV doc pm an cdv ct) ⟨us,[]⟩=pure (ps.zip us))
  (hb:∀ (cdv:Value) (A:Around) (outer:List PySem.Env) (s:Shared) (H:Hp) (E:XK),Room k (A.deeper (envOfC x (af st) s.heap.objs.size f cdv))->Q (dh G (fC CX0 P w K mg base N x (af st) f cdv A outer s H E).nox (au st) c)) :
  FnAt P w K mg base (k+1) x ps G (fn np nn c):=BQ F hm S hp hn hbd fun cdv A outer s H E hr=>(hb cdv A outer s H E hr).h
theorem Cw {x qual:Str} {st:Stmt} {f:Addr} {fd:FuncData} {N ps:List Str} {k np nn:Nat} {c:Sx} (F:Fun K x qual st f fd) (S:FnScope N ps (af st)) (hp:ps.length=np) (hn:N.length=nn)
  (hb:∀ (cdv:Value) (A:Around) (outer:List PySem.Env) (s:Shared) (H:Hp) (E:XK),Room k (A.deeper (envOfC qual (af st) s.heap.objs.size f cdv))->Q (dh G (fC CX0 P w K mg base N qual (af st) f cdv A outer s H E).nox (au st) c)) :
  FnOk P w K mg base CX0 (k+1) f fd ps (spF G (fn np nn c)):=fnV F S hp hn fun cdv A outer s H E hr=>(hb cdv A outer s H E hr).h
theorem rz {c:Nat} {x qual:Str} {st:Stmt} {f:Addr} {fd:FuncData} {N ps:List Str} {k np nn:Nat} {mv:List Bool} {body:Sx} (F:Fun K x qual st f fd) (hm:Meth K (G.ct (c+1)).1 x f) (hc:Cls K (G.ct (c+1)).1) (hno:∀ k,(G.ct (c+1)).2 k ≠ x) (S:FnScope N ps (af st)) (hp:ps.length=np) (hn:N.length=nn)
  (hbd:∀ (kV doc pm:Value) (an:Option Addr) (cdv ct:Value) (us:X5),us.length=ps.length->bindArgs (PySem.W.fnOf x qual (aE st) (au st) (af st) .none kV doc pm an cdv ct) ⟨us,[]⟩=pure (ps.zip us))
  (hb:∀ (a:Addr) (cdv:Value) (A:Around) (outer:List PySem.Env) (s:Shared) (H:Hp) (E:XK),Room k (A.deeper (envOfC qual (af st) s.heap.objs.size f cdv))->Q (dh (G.at (some a)) (fC CX0 P w K mg base N qual (af st) f cdv A outer s H E).nox (au st) body)) :
  MtAt P w K mg base (k+1) G c x ps mv (mfn c np nn mv body):=Aj F hm hc hno S hp hn hbd fun a cdv A outer s H E hr=>(hb a cdv A outer s H E hr).h
theorem CG {c n:Nat} {x y qual:Str} {st:Stmt} {f:Addr} {fd:FuncData} {N ps:List Str} {k np nn:Nat} {body:Sx} (F:Fun K y qual st f fd) (hm:Mk K (G.ct (c+1)).1 f) (hg:mg x=some (.ref (G.ct (c+1)).1)) (S:FnScope N ps (af st)) (hp:ps.length=np) (hn:N.length=nn)
  (hbd:∀ (kV doc pm:Value) (an:Option Addr) (cdv ct:Value) (us:X5),us.length=ps.length->bindArgs (PySem.W.fnOf y qual (aE st) (au st) (af st) .none kV doc pm an cdv ct) ⟨us,[]⟩=pure (ps.zip us))
  (hb:∀ (a:Addr) (cdv:Value) (A:Around) (outer:List PySem.Env) (s:Shared) (H:Hp) (E:XK),Room k (A.deeper (envOfC qual (af st) s.heap.objs.size f cdv))->Q (dh (G.at (some a)) (fC CX0 P w K mg base N qual (af st) f cdv A outer s H E).nox (au st) body)) :
  InAt P w K mg base (k+1) G c n x ps (mfn c np nn (List.replicate n false) body):=zA F hm hg S hp hn hbd fun a cdv A outer s H E hr=>(hb a cdv A outer s H E hr).h
theorem Bp {c n:Nat} {x y qual:Str} {st:Stmt} {f:Addr} {fd:FuncData} {N ps:List Str} {k np nn:Nat} {body:Sx} (F:FunD K y qual st f fd) (hm:Mk K (G.ct (c+1)).1 f) (hg:mg x=some (.ref (G.ct (c+1)).1)) (S:FnScope N ps (af st)) (hp:ps.length=np) (hn:N.length=nn)
  (hbd:∀ (s:Shared) (T:Addr) (kV doc pm:Value) (an:Option Addr) (cdv ct:Value) (o:Obj) (n:Nat) (us:X5),K.In s.heap->K.lookup T=some o->o.data=.seq #[.none] n->us.length=ps.length->BindsTo s (PySem.W.fnOf y qual (aE st) (au st) (af st) (.ref T) kV doc pm an cdv ct) ⟨us,[]⟩ (ps.zip us))
  (hb:∀ (a:Addr) (cdv:Value) (A:Around) (outer:List PySem.Env) (s:Shared) (H:Hp) (E:XK),Room k (A.deeper (envOfC qual (af st) s.heap.objs.size f cdv))->Q (dh (G.at (some a)) (fC CX0 P w K mg base N qual (af st) f cdv A outer s H E).nox (au st) body)) :
  InAt P w K mg base (k+1) G c n x ps (mfn c np nn (List.replicate n false) body):=xa F hm hg S hp hn hbd fun a cdv A outer s H E hr=>(hb a cdv A outer s H E hr).h
theorem tF {c:Nat} {x qual:Str} {st:Stmt} {f:Addr} {fd:FuncData} {N ps:List Str} {k np nn:Nat} {body:Sx} (F:Fun K x qual st f fd) (hm:Meth K (G.ct (c+1)).1 x f) (hc:Cls K (G.ct (c+1)).1) (hno:∀ k,(G.ct (c+1)).2 k ≠ x) (S:FnScope N ps (af st)) (hp:ps.length=np) (hn:N.length=nn)
  (hbd:∀ (kV doc pm:Value) (an:Option Addr) (cdv ct:Value) (us:X5),us.length=ps.length->bindArgs (PySem.W.fnOf x qual (aE st) (au st) (af st) .none kV doc pm an cdv ct) ⟨us,[]⟩=pure (ps.zip us))
  (hb:∀ (cdv:Value) (A:Around) (outer:List PySem.Env) (s:Shared) (H:Hp) (E:XK),Room k (A.deeper (envOfC qual (af st) s.heap.objs.size f cdv))->Q (dh G (fC CX0 P w K mg base N qual (af st) f cdv A outer s H E).nox (au st) body)) :
  MpAt P w K mg base (k+1) G c x ps (fn np nn body):=zI F hm hc hno S hp hn hbd fun cdv A outer s H E hr=>(hb cdv A outer s H E hr).h
end
end VS
end
section
namespace T10
open VS
noncomputable def aH:Mt:=mfn 0 4 4 [false,false,true]
  (ar (sX (fQ 0 [.fld 1] aG (ae (ab 1) ai)))
  (ar (sX (fQ 0 [.fld 2] aG (ae (ab 2) ai)))
  (ar (jc 0 [.fld 3] 3)
  (eJ (e2 jL (eN cn (ae (aY 1 (ab 0)) ai)) (eC (.int 1)))))))
noncomputable def df:Mt:=mfn 0 1 1 (List.replicate 0 false)
  (ar (gp 0 1 (dz ai))
  (ar (gp 0 2 (dz ai))
  (ar (gp 0 3 (dz ai))
  (sXM (br 0 [] 0 [false,false,true] aH (ae (eC (.int 0)) (ae (eC .non) (ae (lq 0 []) ai))))))))
noncomputable def bJ:Sx :=
  (ar (dH 0 [.fld 3,.ix (ab 1)] (ab 2) (ab 5))
  (aW 1 (e2 aJ (aY 2 (ab 0)) (ab 1))))
noncomputable def av:Mt:=mfn 0 3 6 [false,false]
  (ar (aW 3 (e2 oIx (e2 aJ (aY 3 (ab 0)) (ab 1)) (ab 2)))
  (ar (aW 4 (e2 cH (e2 aJ (aY 1 (ab 0)) (ab 1)) (eC (.int 1))))
  (ar (sIf (e2 oEq (e2 aJ (aY 1 (ab 0)) (ab 3)) (ab 4)) (gv 3) eG)
  (ar (fL 5 (br 0 [] 0 [false,false,true] aH (ae (ab 4) (ae (e2 aJ (aY 2 (ab 0)) (ab 3)) (ae (eN ie (ae (e2 aJ (aY 3 (ab 0)) (ab 3)) ai)) ai)))))
  (ar (dH 0 [.fld 2] (ab 3) (ab 5))
  (ar (jv (gL (eT (ab 1)) (e2 oEq (e2 pd (e2 aJ (aY 3 (ab 0)) (ab 1)) (ab 2)) (ab 3))) bJ)
  (gv 5)))))))
noncomputable def bK:Sx :=
  (ar (dH 0 [.fld 3,.ix (ab 4)] (ab 2) (ab 3))
  (aW 4 (e2 aJ (aY 2 (ab 0)) (ab 4))))
noncomputable def bH:Mt:=mfn 0 3 5 [false,false]
  (ar (sIf (e2 jM (ab 2) (e2 aJ (aY 3 (ab 0)) (ab 1))) (jG (br 0 [] 0 [false,false] av (ae (ab 1) (ae (ab 2) ai)))) eG)
  (ar (fL 3 (br 0 [] 0 [false,false,true] aH (ae (e2 cH (e2 aJ (aY 1 (ab 0)) (ab 1)) (eC (.int 1))) (ae (eC (.int 0)) (ae (lq 0 []) ai)))))
  (ar (aW 4 (ab 1))
  (ar (jv (gL (eT (ab 4)) (e2 dc (ab 2) (e2 aJ (aY 3 (ab 0)) (ab 4)))) bK)
  (ar (sIf (eT (ab 4)) (gn 0 [.fld 2] (ab 3) (br 0 [] 0 [false,false] av (ae (ab 4) (ae (ab 2) ai)))) eG)
  (gv 3))))))
noncomputable def bX:Sx :=
  (fL 1 (br 0 [] 0 [false,false] bH (ae (ab 1) (ae (ab 3) ai))))
noncomputable def aQ:Mt:=mfn 0 3 4 [false,false]
  (ar (hZ (cS 3) (gR (ab 2)) bX)
  (gv 1))
noncomputable def bq:Sx :=
  (sIf (e2 dc (e2 oIx (ab 4) (ab 5)) (ab 1)) (ar (lJ 1 (e2 oIx (ab 4) (ab 5)) (eN cn (ae (ab 2) ai)))
  (sX (jN 2 [] aG (ae (e2 oIx (ab 4) (ab 5)) ai)))) eG)
noncomputable def bU:Sx :=
  (ar (aW 4 (e2 aJ (aY 3 (ab 0)) (e2 aJ (ab 2) (ab 3))))
  (ar (hZ (cS 5) (gR (eN ft (ae (ab 4) ai))) bq)
  (aW 3 (e2 cH (ab 3) (eC (.int 1))))))
noncomputable def aF:Fn:=fn 1 6
  (ar (ly 1 (lq 0 [((eC (.int 0)),(eC (.int 0)))]))
  (ar (ly 2 (dz (ae (eC (.int 0)) ai)))
  (ar (aW 3 (eC (.int 0)))
  (ar (jv (e2 oLt (ab 3) (eN cn (ae (ab 2) ai))) bU)
  (ar (oK 2)
  (gv 1))))))
noncomputable def bQ:Fn:=fn 3 6
  (ar (aW 3 (e2 aJ (aY 2 (ab 0)) (ab 1)))
  (ar (aW 4 (e2 aJ (aY 3 (ab 0)) (ab 1)))
  (ar (aW 5 (eN g9 (ae (fF 1 (cS 0) (gR (eN ft (ae (ab 4) ai))) none (mG (ae (ab 0) (ae (e2 lj (ab 3) (e2 oIx (ab 5) (ab 0))) ai)))) ai)))
  (ar (sIf (uS (ab 3)) (eJ (mG (ae (eC (.int 0)) (ae (eC (.int 0)) (ae (eC .non) (ae (ab 5) ai)))))) eG)
  (eJ (mG (ae (e2 cH (e2 aJ (aY 1 (ab 0)) (ab 3)) (eC (.int 1))) (ae (e2 aJ (aY 1 (ab 0)) (ab 1)) (ae (e2 lj (ab 2) (ab 3)) (ae (ab 5) ai))))))))))
noncomputable def dv:Fn:=fn 1 2
  (ar (ly 1 (cJ 0 aF (ab 0) ai))
  (pL 1 (cS 0) (cJ 0 bQ (ab 1) (ae (ab 0) (ae (ab 2) ai)))))
noncomputable def bw:Mt:=mfn 1 1 1 []
  (ar (sIf (e2 oGe (eN cn (ae (aY 4 (ab 0)) ai)) (eC (.int 8))) sNo eG)
  (ar (sX (fQ 0 [.fld 4] aG (ae (eC (.str [])) ai)))
  (ar (sX (fQ 0 [.fld 5] aG (ae (eC (.int 0)) ai)))
  (eJ (e2 jL (eN cn (ae (aY 4 (ab 0)) ai)) (eC (.int 1)))))))
noncomputable def ib:Fn:=fn 1 1
  (eJ (gL (eIs .int (ab 0)) (lz (eIs .bool (ab 0)))))
noncomputable def bB:Fn:=fn 2 2
  (sIf (eOr (lz (bD ib (ae (ab 1) ai))) (lz (ij oLe oLt (eC (.int 0)) (ab 1) (eN cn (ae (ab 0) ai))))) sNo eG)
noncomputable def ff:Fn:=fn 1 1
  (eJ (eN uO (ae (fF 1 (cS 0) (gR (ab 0)) none (eN cn (ae (ab 0) ai))) ai)))
noncomputable def bt:Mt:=mfn 1 3 3 [false,false]
  (ar (sX (xP (bD bB (ae (aY 4 (ab 0)) (ae (ab 1) ai)))))
  (ar (sIf (e2 oGt (e2 cH (bD ff (ae (aY 4 (ab 0)) ai)) (eN cn (ae (ab 2) ai))) (eC (.int 120))) sNo eG)
  (ar (gn 0 [.fld 5] (ab 1) (br 0 [.fld 6] 0 [false,false] aQ (ae (e2 aJ (aY 5 (ab 0)) (ab 1)) (ae (ab 2) ai))))
  (dH 0 [.fld 4] (ab 1) (e2 cH (e2 aJ (aY 4 (ab 0)) (ab 1)) (ab 2))))))
noncomputable def bx:Sx :=
  (sXM (j8 0 1 [false,false] bt (br 0 [] 1 [] bw ai) (ae (ab 2) ai)))
noncomputable def ax:Mt:=mfn 1 2 3 (List.replicate 1 false)
  (ar (gp 0 4 (dz ai))
  (ar (gp 0 5 (dz ai))
  (ar (gp 0 6 (eNew 0 df ai))
  (sIf (eT (ab 1)) (hZ (cS 2) (gR (ab 1)) bx) eG))))
noncomputable def kj:Fn:=fn 1 1
  (eJ (eN eQ (ae (aY 4 (ab 0)) ai)))
noncomputable def aN:Fn:=fn 1 1
  (eJ (cJ 0 dv (aY 6 (ab 0)) ai))
noncomputable def aC:Fn:=fn 2 2
  (ar (sIf (e2 oLt (ab 1) (eN cn (ae (ab 0) ai))) (eJ (e2 aJ (ab 0) (ab 1))) eG)
  (eJ (eC (.int 0))))
noncomputable def eu:Fn:=fn 2 3
  (ar (aW 2 (e2 oMod (e2 cH (e2 cH (e2 oMod (ab 0) (eC (.int 2147483629))) (e2 lr (eC (.int 48271)) (ab 1))) (eC (.int 11))) (eC (.int 2147483629))))
  (ar (aW 2 (e2 cH (e2 oMod (e2 lr (ab 2) (ab 2)) (eC (.int 2147483629))) (e2 lr (eC (.int 7919)) (ab 1))))
  (eJ (e2 oMod (e2 lr (ab 2) (ab 2)) (eC (.int 2147483587))))))
noncomputable def d8:Sx :=
  (sIf (e2 oEq (e2 oMod (bD aC (ae (ab 0) (ae (eC (.int 0)) ai))) (eC (.int 2))) (eC (.int 0))) (ar (sX (jN 6 [] aG (ae (e2 aJ (ab 1) (e2 oMod (ab 4) (eN cn (ae (ab 1) ai)))) ai)))
  (aW 4 (e2 eI (ab 4) (eN cn (ae (ab 1) ai))))) (sX (jN 6 [] aG (ae (e2 aJ (ab 1) (e2 oMod (e2 eI (bD eu (ae (ab 4) (ae (e2 cH (e2 lr (eC (.int 30)) (ab 3)) (ab 7)) ai))) (eC (.int 7))) (eN cn (ae (ab 1) ai)))) ai))))
noncomputable def dy:Fn:=fn 4 8
  (ar (aW 4 (bD aC (ae (ab 0) (ae (e2 cH (eC (.int 1)) (ab 3)) ai))))
  (ar (aW 5 (e2 oMod (ab 4) (e2 cH (ab 2) (eC (.int 1)))))
  (ar (aW 4 (e2 eI (ab 4) (e2 cH (ab 2) (eC (.int 1)))))
  (ar (ly 6 (dz ai))
  (ar (hZ (cS 7) (de (ab 5)) d8)
  (ar (oK 6)
  (eJ (eM iY (eC (.str [])) (ae (ab 6) ai)))))))))
noncomputable def aB:Fn:=fn 1 5
  (ar (aW 1 (bD aC (ae (ab 0) (ae (eC (.int 0)) ai))))
  (ar (aW 2 (e2 aJ (dz (ae (eC (.str [97,98])) (ae (eC (.str [97,98,99])) (ae (eC (.str [97,98,99,100])) (ae (eC (.str [97,122])) (ae (eC (.str [97])) (ae (eC (.str [97,98,99,100,101,102,103,104,105,106,107,108,109,110,111,112,113,114,115,116,117,118,119,120,121,122])) ai))))))) (e2 oMod (e2 eI (ab 1) (eC (.int 2))) (eC (.int 6)))))
  (ar (aW 3 (e2 aJ (dz (ae (eC (.int 1)) (ae (eC (.int 2)) (ae (eC (.int 3)) (ae (eC (.int 4)) (ae (eC (.int 2)) (ae (eC (.int 1)) (ae (eC (.int 0)) (ae (eC (.int 8)) ai))))))))) (e2 oMod (e2 eI (ab 1) (eC (.int 12))) (eC (.int 8)))))
  (ar (aW 4 (e2 aJ (dz (ae (eC (.int 24)) (ae (eC (.int 12)) (ae (eC (.int 8)) (ae (eC (.int 6)) ai))))) (e2 jL (eN oB (ae (ab 3) (ae (eC (.int 4)) ai))) (eC (.int 1)))))
  (ar (sIf (e2 oEq (e2 oMod (e2 eI (ab 1) (eC (.int 96))) (eC (.int 8))) (eC (.int 5))) (aW 4 (e2 eI (eC (.int 60)) (eN ot (ae (eC (.int 1)) (ae (ab 3) ai))))) eG)
  (ar (sIf (gL (e2 oEq (ab 3) (eC (.int 8))) (e2 oNe (e2 oMod (e2 eI (ab 1) (eC (.int 96))) (eC (.int 8))) (eC (.int 5)))) (aW 4 (eC (.int 3))) eG)
  (eJ (fF 1 (cS 0) (de (ab 3)) none (bD dy (ae (ab 1) (ae (ab 3) (ae (ab 5) (ae (ab 0) ai)))))))))))))
noncomputable def gF:Sx :=
  (sX (jN 3 [] mU (ae (e2 oMod (bD aC (ae (ab 0) (ae (e2 cH (eC (.int 12)) (ab 4)) ai))) (e2 cH (eN cn (ae (ab 3) ai)) (eC (.int 1)))) (ae (e2 aJ (ab 1) (ab 4)) ai))))
noncomputable def kW:Sx :=
  (sIf (eOr (e2 oNe (cJ 1 aN (eNew 1 ax (ae (e2 cH (ab 3) (dz (ae (ab 8) ai))) ai)) ai) (ab 2)) (e2 oNe (cJ 1 aN (eNew 1 ax (ae (e2 cH (dz (ae (ab 8) ai)) (ab 1)) ai)) ai) (ab 2))) (eJ (eC (.bl false))) eG)
noncomputable def ke:Sx :=
  (sIf (gL (e2 oEq (eSl (ab 10) none (some (e2 jL (ab 6) (ab 7)))) (eSl (ab 5) (some (ab 7)) (some (ab 6)))) (e2 oNe (ab 9) (ab 2))) (eJ (eC (.bl false))) eG)
noncomputable def pP:Fn:=fn 1 11
  (ar (aW 1 (eSl (bD aB (ae (ab 0) ai)) none (some (eC (.int 7)))))
  (ar (aW 2 (cJ 1 aN (eNew 1 ax (ae (eN eQ (ae (ab 1) ai)) ai)) ai))
  (ar (ly 3 (dz ai))
  (ar (hZ (cS 4) (de (eN cn (ae (ab 1) ai))) gF)
  (ar (oK 3)
  (ar (sIf (e2 oNe (cJ 1 aN (eNew 1 ax (ae (eN eQ (ae (ab 3) ai)) ai)) ai) (ab 2)) (eJ (eC (.bl false))) eG)
  (ar (sIf (e2 oEq (ab 1) (dz ai)) (eJ (e2 oEq (cJ 1 aN (eNew 1 ax (ae (dz (ae (eC (.str [])) (ae (eC (.str [])) ai))) ai)) ai) (ab 2))) eG)
  (ar (aW 5 (e2 aJ (ab 1) (e2 oMod (bD aC (ae (ab 0) (ae (eC (.int 10)) ai))) (eN cn (ae (ab 1) ai)))))
  (ar (aW 6 (e2 oMod (e2 eI (bD aC (ae (ab 0) (ae (eC (.int 10)) ai))) (eC (.int 8))) (e2 cH (eN cn (ae (ab 5) ai)) (eC (.int 1)))))
  (ar (aW 7 (e2 oMod (e2 eI (bD aC (ae (ab 0) (ae (eC (.int 10)) ai))) (eC (.int 512))) (e2 cH (ab 6) (eC (.int 1)))))
  (ar (hZ (cS 8) (gR (dz (ae (ab 5) (ae (eSl (ab 5) none (some (ab 6))) (ae (eC (.str [])) ai))))) kW)
  (ar (aW 9 (cJ 1 aN (eNew 1 ax (ae (e2 cH (ab 1) (dz (ae (eSl (ab 5) (some (ab 7)) (some (ab 6))) ai))) ai)) ai))
  (ar (sIf (e2 oLt (eN cn (ae (ab 9) ai)) (eN cn (ae (ab 2) ai))) (eJ (eC (.bl false))) eG)
  (ar (hZ (cS 10) (gR (ab 1)) ke)
  (eJ (eC (.bl true)))))))))))))))))
end T10
end
section
namespace AU
structure St where
 lg:X7
 lk:List (Option Nat)
 wy:List (List (Nat×Nat))
noncomputable def gW (w:List (Nat×Nat)) (c:Nat):Option Nat:=(w.find? fun p=>p.1 == c).map (·.2)
noncomputable def pW (w:List (Nat×Nat)) (c m:Nat):List (Nat×Nat):=if w.any (fun p=>p.1 == c) then w.map (fun p=>if p.1 == c then (p.1,m) else p) else w++[(c,m)]
structure WF (S:St):Prop where
 lk:S.lk.length=S.lg.length
 wy:S.wy.length=S.lg.length
 pos:0 < S.lg.length
 up:∀ i n,S.lk.getD i none=some n->n < S.lg.length
 on:∀ i c n,gW (S.wy.getD i []) c=some n->n < S.lg.length
 nd:∀ w∈S.wy,(w.map (·.1)).Nodup
 az:∀ w∈S.wy,∀ p∈w,97<=p.1/\p.1<=122
theorem sub_len {α:Type} [DecidableEq α]:∀ (l r:List α),l.Nodup->(∀ x∈l,x∈r)->l.length<=r.length
 | [],_,_,_=>Ye _
 | a :: l,r,nd,h=>by
  obtain ⟨h1,h2⟩:=Ze.mp nd
  have hr:a∈r:=h a Zx
  have:=sub_len l (r.erase a) h2 fun x hx=>(List.mem_erase_of_ne (show x ≠ a from fun e=>h1 (by rw [← e];exact hx))).mpr (h x (Zv _ hx))
  rw [List.length_erase_of_mem hr] at this
  have:0 < r.length:=List.length_pos_of_mem hr
  rw [ZZ]
  omega
theorem WF.small {S:St} (W:WF S) (i:Nat):(S.wy.getD i []).length < 16777216:=by
 by_cases h:i < S.wy.length
 ·have hm:S.wy.getD i []∈S.wy:=by
   rw [Zs,Zm h]
   exact Z7 h
  have:=sub_len ((S.wy.getD i []).map (·.1)) (List.range 123) (W.nd _ hm) fun x hx=>by
   obtain ⟨p,hp,rfl⟩:=Z9.mp hx
   have:=(W.az _ hm p hp).2
   exact YV.mpr (by omega)
  rw [Zy,Z0] at this
  omega
 ·rw [Zs,ZE (ZP h)]
  decide
theorem y0 (w:List (Nat×Nat)) (c:Nat):(w.any fun p=>p.1 == c)=(gW w c).isSome:=by
 unfold gW
 rw [Ym,Xi,Y5,List.find?_isSome]
theorem xY (w:List (Nat×Nat)) (c m d:Nat):gW (pW w c m) d=if d=c then some m else gW w d:=by
 unfold pW
 split
 ·rename_i h
  induction w with
  | nil=>simp at h
  | cons p w ih =>
   rw [Zp]
   unfold gW
   rw [Z4,Z4]
   by_cases q:p.1=c
   ·rw [Zq (by simpa using q)]
    by_cases r:p.1=d
    ·have:(p.1 == d)=true:=by simpa using r
     simp only [this]
     rw [Zq (by rw [← r,q])]
     rfl
    ·have r':(p.1 == d)=false:=by simpa using r
     have:d ≠ c:=fun e=>r (by rw [e,q])
     simp only [r',Zn this]
     have key:∀ w:List (Nat×Nat),(w.map fun p=>if p.1 == c then (p.1,m) else p).find? (fun p=>p.1 == d)=w.find? fun p=>p.1 == d:=by
      intro w
      induction w with
      | nil=>rfl
      | cons x w ih =>
       rw [Zp,Z4,Z4,ih]
       by_cases y:x.1=c
       ·rw [Zq (by simpa using y)]
        have:(x.1 == d)=false:=by simpa using fun e=>this (by rw [← e,y])
        simp only [this]
       ·rw [Zn (by simpa using y)]
     rw [key w]
   ·rw [Zn (by simpa using q)]
    have h':(w.any fun p=>p.1 == c)=true:=by
     rw [Yj] at h
     simpa [q] using h
    have ih':=ih h'
    unfold gW at ih'
    by_cases r:p.1=d
    ·have r':(p.1 == d)=true:=by simpa using r
     simp only [r']
     rw [Zn (fun e=>q (by rw [r,e]))]
    ·have r':(p.1 == d)=false:=by simpa using r
     simp only [r']
     exact ih'
 ·rename_i h
  unfold gW
  rw [List.find?_append]
  by_cases q:d=c
  ·subst q
   have:w.find? (fun p=>p.1 == d)=none:=by
    rw [List.find?_eq_none]
    intro p hp e
    exact h (Y5.mpr ⟨p,hp,e⟩)
   rw [this,Zq rfl]
   simp
  ·rw [Zn q]
   have:((c == d)=false):=by simpa using fun e=>q e.symm
   simp [this]
theorem xD (w:List (Nat×Nat)) (c m:Nat) (nd:(w.map (·.1)).Nodup):((pW w c m).map (·.1)).Nodup:=by
 unfold pW
 split
 ·rw [Yx]
  have:((fun p:Nat×Nat=>p.1) ∘ fun p=>if (p.1 == c)=true then (p.1,m) else p)=fun p=>p.1:=by
   funext p
   simp only [Function.comp]
   split <;> rfl
  rw [this]
  exact nd
 ·rename_i h
  rw [ZD,ZV]
  refine ⟨nd,by simp,fun a ha b hb e=>?_⟩
  have hb':b=c:=by simpa using hb
  subst e hb'
  obtain ⟨p,hp,e⟩:=Z9.mp ha
  exact h (Y5.mpr ⟨p,hp,by simpa using e⟩)
theorem yJ {w:List (Nat×Nat)} {c m:Nat} {p:Nat×Nat} (h:p∈pW w c m):p.1=c\/p∈w:=by
 unfold pW at h
 split at h
 ·obtain ⟨q,hq,rfl⟩:=Z9.mp h
  by_cases r:(q.1 == c)=true
  ·rw [Zq r];exact .inl (by simpa using r)
  ·rw [Zn r];exact .inr hq
 ·rcases Zg.mp h with h | h
  ·exact .inr h
  ·rw [Zj.mp h];exact .inl rfl
theorem fO {α:Type} (l:List α) (i j:Nat) (x d:α):(l.set i x).getD j d=if i=j/\i < l.length then x else l.getD j d:=by
 rw [Zs,Zs,XM]
 by_cases h:i=j
 ·subst h
  by_cases h2:i < l.length
  ·rw [Zq rfl,Zq h2,Zq ⟨rfl,h2⟩];rfl
  ·rw [Zq rfl,Zn h2,Zn (fun z=>h2 z.2),ZE (ZP h2)]
 ·rw [Zn h,Zn (fun z=>h z.1)]
theorem bR {α:Type} (l:List α) (x d:α) (j:Nat):(l++[x]).getD j d=if j=l.length then x else l.getD j d:=by
 rw [Zs,Zs]
 by_cases h:j < l.length
 ·rw [ZJ h,Zn (ZW h)]
 ·rw [ZA (ZP h)]
  by_cases h2:j=l.length
  ·rw [Zq h2,h2,Nat.sub_self];rfl
  ·rw [Zn h2,ZE (ZP h),ZE (by simp;omega)]
theorem WF.way {S:St} (W:WF S) {n c v:Nat} (hv:v < S.lg.length) (hc:97<=c/\c<=122):WF ⟨S.lg,S.lk,S.wy.set n (pW (S.wy.getD n []) c v)⟩:=by
 refine ⟨W.lk,by rw [Z3];exact W.wy,W.pos,W.up,fun i d m h=>?_,fun w hw=>?_,fun w hw p hp=>?_⟩
 ·show m < S.lg.length
  have h':gW ((S.wy.set n (pW (S.wy.getD n []) c v)).getD i []) d=some m:=h
  rw [fO] at h'
  split at h'
  ·rw [xY] at h'
   split at h'
   ·cases h';exact hv
   ·exact W.on n d m h'
  ·exact W.on i d m h'
 ·by_cases hn:n < S.wy.length
  ·rcases List.mem_or_eq_of_mem_set hw with h | h
   ·exact W.nd w h
   ·rw [h]
    refine xD _ c v (W.nd _ ?_)
    rw [Zs,Zm hn]
    exact Z7 hn
  ·rw [List.set_eq_of_length_le (ZP hn)] at hw
   exact W.nd w hw
 ·by_cases hn:n < S.wy.length
  ·rcases List.mem_or_eq_of_mem_set hw with h | h
   ·exact W.az w h p hp
   ·rw [h] at hp
    rcases yJ hp with e | e
    ·rw [e];exact hc
    ·refine W.az _ ?_ p e
     rw [Zs,Zm hn]
     exact Z7 hn
  ·rw [List.set_eq_of_length_le (ZP hn)] at hw
   exact W.az w hw p hp
theorem WF.link {S:St} (W:WF S) {n v:Nat} (hv:v < S.lg.length):WF ⟨S.lg,S.lk.set n (some v),S.wy⟩:=by
 refine ⟨by rw [Z3];exact W.lk,W.wy,W.pos,fun i m h=>?_,W.on,W.nd,W.az⟩
 have h':(S.lk.set n (some v)).getD i none=some m:=h
 rw [fO] at h'
 split at h'
 ·cases h';exact hv
 ·exact W.up i m h'
theorem WF.more {S:St} (W:WF S) {l:Nat} {o:Option Nat} {w:List (Nat×Nat)} (ho:∀ n,o=some n->n < S.lg.length) (hw:∀ c n,gW w c=some n->n < S.lg.length) (nd:(w.map (·.1)).Nodup) (az:∀ p∈w,97<=p.1/\p.1<=122):WF ⟨S.lg++[l],S.lk++[o],S.wy++[w]⟩:=by
 have hs:∀ {n},n < S.lg.length->n < (S.lg++[l]).length:=fun h=>by rw [Zt,ZO];omega
 refine ⟨by rw [Zt,Zt,W.lk];rfl,by rw [Zt,Zt,W.wy];rfl,by rw [Zt];exact ZY W.pos (YI _ _),fun i n h=>?_,fun i c n h=>?_,fun x hx=>?_,fun x hx=>?_⟩
 ·have h':(S.lk++[o]).getD i none=some n:=h
  rw [bR] at h'
  split at h'
  ·exact hs (ho n h')
  ·exact hs (W.up i n h')
 ·have h':gW ((S.wy++[w]).getD i []) c=some n:=h
  rw [bR] at h'
  split at h'
  ·exact hs (hw c n h')
  ·exact hs (W.on i c n h')
 ·rcases Zg.mp hx with h | h
  ·exact W.nd x h
  ·rw [Zj.mp h];exact nd
 ·rcases Zg.mp hx with h | h
  ·exact W.az x h
  ·rw [Zj.mp h];exact az
noncomputable def up1 (c v:Nat):Nat->St->Option Nat->Option (St×Option Nat)
 | _,S,none=>some (S,none)
 | 0,_,some _=>none
 | k+1,S,some n=>if (gW (S.wy.getD n []) c).isSome then some (S,some n) else up1 c v k ⟨S.lg,S.lk,S.wy.set n (pW (S.wy.getD n []) c v)⟩ (S.lk.getD n none)
noncomputable def up2 (c old v:Nat):Nat->St->Option Nat->Option St
 | _,S,none=>some S
 | 0,_,some _=>none
 | k+1,S,some n=>if gW (S.wy.getD n []) c=some old then up2 c old v k ⟨S.lg,S.lk,S.wy.set n (pW (S.wy.getD n []) c v)⟩ (S.lk.getD n none) else some S
noncomputable def njb (S:St) (n c:Nat):Option (St×Nat):=(gW (S.wy.getD n []) c).bind fun old=>if S.lg.getD old 0=S.lg.getD n 0+1 then some (S,old) else
 (up2 c old S.lg.length 1000 ⟨S.lg++[S.lg.getD n 0+1],(S.lk++[S.lk.getD old none]).set old (some S.lg.length),S.wy++[S.wy.getD old []]⟩ (some n)).map fun S'=>(S',S.lg.length)
noncomputable def hb (S:St) (h c:Nat):Option (St×Nat):=if (gW (S.wy.getD h []) c).isSome then njb S h c else
 (up1 c S.lg.length 1000 ⟨S.lg++[S.lg.getD h 0+1],S.lk++[some 0],S.wy++[[]]⟩ (some h)).bind fun z=>match z.2 with
  | none=>some (z.1,S.lg.length)
  | some n=>(njb z.1 n c).map fun y=>(⟨y.1.lg,y.1.lk.set S.lg.length (some y.2),y.1.wy⟩,S.lg.length)
noncomputable def hg (S:St) (h:Nat):X7->Option (St×Nat)
 | []=>some (S,h)
 | c :: r=>(hb S h c).bind fun z=>hg z.1 z.2 r
noncomputable def Sm (S:St):Prop:=S.lg.length<=100001
theorem WF.wnd {S:St} (W:WF S) (i:Nat):((S.wy.getD i []).map (·.1)).Nodup/\∀ p∈S.wy.getD i [],97<=p.1/\p.1<=122:=by
 by_cases h:i < S.wy.length
 ·have hm:S.wy.getD i []∈S.wy:=by
   rw [Zs,Zm h]
   exact Z7 h
  exact ⟨W.nd _ hm,W.az _ hm⟩
 ·rw [Zs,ZE (ZP h)]
  exact ⟨Yh,fun p hp=>nomatch hp⟩
noncomputable def S0:St:=⟨[0],[none],[[]]⟩
theorem ye:WF S0:=by
 refine ⟨rfl,rfl,by decide,fun i n h=>?_,fun i c n h=>?_,fun w hw=>?_,fun w hw p hp=>?_⟩
 ·cases i with
  | zero=>cases h
  | succ i=>cases h
 ·cases i with
  | zero=>cases h
  | succ i=>cases h
 ·rw [Zj.mp hw];exact Yh
 ·rw [Zj.mp hw] at hp;cases hp
end AU
end
section
namespace VS
theorem e2v {f:Val->Val->Wx} {a b:Ex} {η:Env} {x y z:Val} (h1:a η=some x) (h2:b η=some y) (h3:f x y=some z):e2 f a b η=some z:=by
 show (a η).bind _=_
 rw [h1,Zu,h2]
 exact h3
theorem xv {a:Ex} {r:Exs} {η:Env} {x:Val} {xs:Wy} (h1:a η=some x) (h2:r η=some xs):ae a r η=some (x :: xs):=by
 show (a η).bind _=_
 rw [h1,Zu,h2]
 rfl
theorem oW {c:Ex} {a b:Sx} {η:Env} {m:Md} (h:c η=some (m,.bl true)):sIf c a b η=a η:=by
 show (c η).bind _=_
 rw [h]
 rfl
theorem ju {c:Ex} {a b:Sx} {η:Env} {m:Md} (h:c η=some (m,.bl false)):sIf c a b η=b η:=by
 show (c η).bind _=_
 rw [h]
 rfl
theorem hV {f:Wy->Wx} {as:Exs} {η:Env} {xs:Wy} {v:Val} (h:as η=some xs) (h2:f xs=some v):eN f as η=some v:=by
 show (as η).bind f=_
 rw [h,Zu,h2]
theorem gK {e:Ex} {η:Env} {t:T} (h:e η=some (.fr,t)):eJ e η=some (.rt (.fr,t) η):=by
 show (e η).bind _=_
 rw [h]
 rfl
theorem jS {a b:Sx} {η η1:Env} {v:Val} (h:a η=some (.rt v η1)):ar a b η=some (.rt v η1):=by
 show (a η).bind _=_
 rw [h]
 rfl
theorem aq {a b:Sx} {η η1:Env} (h:a η=some (.nx η1)):ar a b η=b η1:=by
 show (a η).bind _=_
 rw [h]
 rfl
theorem jB {np nn:Nat} {b:Sx} {ts:Ww} {v:Val} {η:Env} (hl:ts.length=np) (h:b (ts.map (fun t=>some (.pu t))++List.replicate (nn - np) none)=some (.rt v η)):fn np nn b ts=some v:=by
 unfold fn
 rw [Zq hl,h]
 rfl
theorem Ca {np nn:Nat} {b:Sx} {ts:Ww} {η:Env} (hl:ts.length=np) (h:b (ts.map (fun t=>some (.pu t))++List.replicate (nn - np) none)=some (.nx η)):fn np nn b ts=some (.fr,.non):=by
 unfold fn
 rw [Zq hl,h]
 rfl
theorem o5 {a b:Ex} {η:Env} {m:Md} {x:Bool} {v:Val} (h1:a η=some (m,.bl x)) (h2:x=true->b η=some v) (h3:x=false->v=(.fr,.bl false)):gL a b η=some v:=by
 show (a η).bind _=_
 rw [h1,Zu]
 cases x with
 | true=>exact h2 rfl
 | false=>exact congrArg some (h3 rfl).symm
theorem xV {a b:Ex} {η:Env} {m:Md} {x:Bool} {v:Val} (h1:a η=some (m,.bl x)) (h2:x=false->b η=some v) (h3:x=true->v=(.fr,.bl true)):eOr a b η=some v:=by
 show (a η).bind _=_
 rw [h1,Zu]
 cases x with
 | false=>exact h2 rfl
 | true=>exact congrArg some (h3 rfl).symm
theorem uf {a:Ex} {η:Env} {m:Md} {b:Bool} (h:a η=some (m,.bl b)):lz a η=some (.fr,.bl (!b)):=by
 show (a η).bind _=_
 rw [h]
 rfl
theorem vH {f g:Val->Val->Wx} {a b c:Ex} {η:Env} {x y z v:Val} (h1:a η=some x) (h2:b η=some y) (h3:f x y=some (.fr,.bl true)) (h4:c η=some z) (h5:g y z=some v):ij f g a b c η=some v:=by
 show (a η).bind _=_
 rw [h1,Zu,h2,Zu,h3,Zu]
 show (c η).bind _=_
 rw [h4]
 exact h5
theorem rX {n:Nat} {i:Nat} (h1:i < n):ixP n (i:Int)=some i:=by
 rw [ixP,Zq (Int.natCast_nonneg i),Zq (Int.ofNat_lt.mpr h1)]
 rfl
theorem lO {m n:Md} {a b:T} {r:Bool} (ha:eqD 60 a=true) (hb:eqD 60 b=true) (h:eqT a b=r):oEq (m,a) (n,b)=some (.fr,.bl r):=by
 show (if eqD 60 a/\eqD 60 b then some (Md.fr,T.bl (eqT a b)) else none)=_
 rw [Zq ⟨ha,hb⟩,h]
theorem A7 {m n:Md} {a b:T} {r:Bool} (ha:eqD 60 a=true) (hb:eqD 60 b=true) (h:eqT a b=r):oNe (m,a) (n,b)=some (.fr,.bl (!r)):=by
 show (if eqD 60 a/\eqD 60 b then some (Md.fr,T.bl (!eqT a b)) else none)=_
 rw [Zq ⟨ha,hb⟩,h]
theorem AH {i:Nat} {e:Ex} {η:Env} {l:Ww} {v:T} (h0:η[i]?=some (some (.ow (.lst l)))) (h1:e η=some (.fr,v)) (h2:l.length < 16777216):sX (jN i [] aG (ae e ai)) η=some (.nx (η.set i (some (.ow (.lst (l++[v])))))):=by
 have h3:ae e ai η=some [(.fr,v)]:=xv h1 rfl
 unfold sX jN
 rw [h0]
 show ((some ([]:List Ky)).bind _ |>.map _)=_
 rw [Zu,h3,Zu]
 show ((aG (.lst l) [(.fr,v)]).map _ |>.map _)=_
 rw [cT h2]
 rfl
theorem t4 {as:Exs} {η:Env} (l:List Tx) (h:as η=some (l.map fun x=>(Md.fr,T.str x))) (hl:l.length<=16777216):dz as η=some (.fr,.lst (l.map .str)):=by
 unfold dz
 rw [h,Zu]
 have e:trees (l.map fun x=>(Md.fr,T.str x))=l.map T.str:=by unfold trees;rw [Yx];rfl
 rw [e,cy (by rw [Zy];exact hl),show cY (l.map T.str)=true from gM _ (fun _=>rfl) l]
 rfl
theorem pq {a b:Ex} {η:Env} {m n:Md} {x y:List Tx} (h1:a η=some (m,.lst (x.map .str))) (h2:b η=some (n,.lst (y.map .str))) (h:x.length+y.length<=16777216):e2 cH a b η=some (.fr,.lst ((x++y).map .str)):=by
 refine e2v h1 h2 ?_
 rw [sJ,← ZD,cy (by rw [Zy,Zt];exact h),show cY ((x++y).map T.str)=true from gM _ (fun _=>rfl) _]
 rfl
end VS
end
section
namespace T10
open VS AU
noncomputable abbrev pc (t:T):Wz:=some (.pu t)
noncomputable abbrev oc (t:T):Wz:=some (.ow t)
noncomputable def wT' (w:List (Nat×Nat)):T:=.dct 0 (w.map fun p=>(T.str [p.1],T.int (p.2:Int)))
noncomputable def lkT:Option Nat->T
 | none=>.non
 | some n=>.int (n:Int)
noncomputable def fsT (S:St):nG:=[(1,.lst (S.lg.map fun (n:Nat)=>T.int (n:Int))),(2,.lst (S.lk.map lkT)),(3,.lst (S.wy.map wT'))]
noncomputable def obT (S:St) (b:Bool):T:=.obj 1 ((0,.bl b) :: fsT S)
theorem kL (o:Option Nat):imm (lkT o)=true:=by cases o <;> rfl
theorem d3 {α:Type} (f:α->T) (h:∀ a,eW (f a)=true):∀ l:List α,cM (l.map f)=true
 | []=>rfl
 | a :: l=>by rw [Zp,cM,h a,d3 f h l];rfl
theorem tW (w:List (Nat×Nat)):eW (wT' w)=true:=by
 show lP (w.map fun p=>(T.str [p.1],T.int (p.2:Int)))=true
 induction w with
 | nil=>rfl
 | cons p w ih=>rw [Zp,lP,ih];rfl
theorem iC (S:St):dJ (fsT S)=true:=by
 have h1:eW (.lst (S.lg.map fun (n:Nat)=>T.int (n:Int)))=true:=d3 _ (fun _=>rfl) _
 have h2:eW (.lst (S.lk.map lkT))=true:=d3 _ (fun o=>km _ (kL o)) _
 have h3:eW (.lst (S.wy.map wT'))=true:=d3 _ tW _
 show ((eW _ && !(1 == 0 && isT _)) && ((eW _ && !(2 == 0 && isT _)) && ((eW _ && !(3 == 0 && isT _)) && true)))=true
 rw [h1,h2,h3]
 rfl
theorem A9 (S:St) (b:Bool):mn 1 (obT S b)=some (.lst (S.lg.map fun (n:Nat)=>T.int (n:Int))):=rfl
theorem CT (S:St) (b:Bool):mn 2 (obT S b)=some (.lst (S.lk.map lkT)):=rfl
theorem CO (S:St) (b:Bool):mn 3 (obT S b)=some (.lst (S.wy.map wT')):=rfl
theorem fK {k:Nat} {a:Ex} {η:Env} {m:Md} {t u:T} (h:a η=some (m,t)) (h2:mn k t=some u):aY k a η=some (sub m u):=by
 unfold aY
 rw [h,Zu,h2]
 rfl
theorem jF {α:Type} {m n:Md} (f:α->T) (l:List α) (i:Nat) (d:α) (h:i < l.length):aJ (m,.lst (l.map f)) (n,.int (i:Int))=some (sub m (f (l.getD i d))):=by
 show (ixP (l.map f).length (i:Int)).bind _=_
 rw [Zy,rX h,Zu,ZQ,Zm h,Zs,Zm h]
 rfl
section
variable {η:Env} {m n:Md} {S:St} {b:Bool} {a e:Ex} {i:Nat}
theorem nX (h:a η=some (m,obT S b)) (he:e η=some (n,.int (i:Int))) (hi:i < S.lg.length):e2 aJ (aY 1 a) e η=some (.fr,.int ((S.lg.getD i 0:Nat):Int)):=e2v (fK h (A9 S b)) he (jF _ _ i 0 hi)
theorem ql (h:a η=some (m,obT S b)) (he:e η=some (n,.int (i:Int))) (hi:i < S.lk.length):e2 aJ (aY 2 a) e η=some (.fr,lkT (S.lk.getD i none)):=(e2v (fK h (CT S b)) he (jF _ _ i none hi)).trans (by
 show some (up _ _)=_
 unfold up
 rw [kL]
 rfl)
theorem kR (h:a η=some (m,obT S b)) (he:e η=some (n,.int (i:Int))) (hi:i < S.wy.length):e2 aJ (aY 3 a) e η=some (m,wT' (S.wy.getD i [])):=e2v (fK h (CO S b)) he (jF _ _ i [] hi)
theorem yR (h:a η=some (m,obT S b)):eN cn (ae (aY 1 a) ai) η=some (.fr,.int (S.lg.length:Nat)):=hV (xv (fK h (A9 S b)) rfl) (by
 show some (Md.fr,T.int (((S.lg.map fun (n:Nat)=>T.int (n:Int)).length:Nat):Int))=_
 rw [Zy])
end
theorem Af (a c:Nat):eqT (.str [a]) (.str [c])=(a == c):=by
 simp only [eqT]
 by_cases h:a=c
 ·simp [h]
 ·simp [h]
theorem mW (w:List (Nat×Nat)) (c:Nat):ed (w.map fun p=>(T.str [p.1],T.int (p.2:Int))) (.str [c])=(gW w c).map fun (n:Nat)=>T.int (n:Int):=by
 unfold ed gW
 rw [List.find?_map]
 have:((fun p:T×T=>eqT p.1 (.str [c])) ∘ fun p:Nat×Nat=>(T.str [p.1],T.int (p.2:Int)))=fun p:Nat×Nat=>p.1 == c:=by
  funext p
  exact Af p.1 c
 rw [this]
 cases w.find? fun p=>p.1 == c with
 | none=>rfl
 | some p=>rfl
theorem Bj (w:List (Nat×Nat)) (c m:Nat):dput (w.map fun p=>(T.str [p.1],T.int (p.2:Int))) (.str [c]) (.int (m:Int))=(pW w c m).map fun p=>(T.str [p.1],T.int (p.2:Int)):=by
 have h1:(w.map fun p=>(T.str [p.1],T.int (p.2:Int))).any (fun p=>eqT p.1 (.str [c]))=w.any fun p=>p.1 == c:=by
  rw [List.any_map]
  congr 1
  funext p
  exact Af p.1 c
 unfold dput pW
 rw [h1]
 split
 ·rw [Yx,Yx]
  apply YG
  intro p _
  simp only [Function.comp,Af]
  split <;> rfl
 ·rw [ZD]
  rfl
section
variable {η:Env} {m n k:Md} {S:St} {b:Bool} {a e ec ev:Ex} {i c v:Nat} {w:List (Nat×Nat)}
theorem CQ (h:a η=some (m,wT' w)) (he:e η=some (n,.str [c])):e2 jM e a η=some (.fr,.bl (gW w c).isSome):=e2v he h (by
 show (if true=true then some (Md.fr,T.bl (ed _ _).isSome) else none)=_
 rw [Zq rfl,mW,Ym])
theorem BP (h:a η=some (m,wT' w)) (he:e η=some (n,.str [c])):e2 dc e a η=some (.fr,.bl (!(gW w c).isSome)):=e2v he h (by
 show (match (if true=true then some (Md.fr,T.bl (ed (w.map fun p=>(T.str [p.1],T.int (p.2:Int))) (.str [c])).isSome) else none) with | some (_,.bl b)=>some (Md.fr,T.bl (!b)) | _=>none)=_
 rw [Zq rfl,mW,Ym])
theorem ub (h:a η=some (m,wT' w)) (he:e η=some (n,.str [c])) (hv:gW w c=some v):e2 oIx a e η=some (.fr,.int (v:Int)):=e2v h he (by
 show (if true=true then (ed _ _).map (sub m) else none)=_
 rw [Zq rfl,mW,hv]
 rfl)
theorem BI (h:a η=some (m,wT' w)) (he:e η=some (n,.str [c])):e2 pd a e η=some (.fr,lkT (gW w c)):=e2v h he (by
 show (if true=true then some (match ed (w.map fun p=>(T.str [p.1],T.int (p.2:Int))) (.str [c]) with | some t=>sub m t | none=>(.fr,.non)) else none)=_
 rw [Zq rfl,mW]
 cases gW w c with
 | none=>rfl
 | some v=>rfl)
theorem tf {r:List (Wz)} (hi:i < S.wy.length) (he:e (oc (obT S b) :: r)=some (n,.int (i:Int))) (hc:ec (oc (obT S b) :: r)=some (m,.str [c])) (hv:ev (oc (obT S b) :: r)=some (k,.int (v:Int))) (hl:(S.wy.getD i []).length < 16777216) :
  dH 0 [.fld 3,.ix e] ec ev (oc (obT S b) :: r)=some (.nx (oc (obT ⟨S.lg,S.lk,S.wy.set i (pW (S.wy.getD i []) c v)⟩ b) :: r)):=by
 unfold dH
 rw [hv,Zu]
 show ((keys [.fld 3,.ix e] (oc (obT S b) :: r)).bind _)=_
 have hk:keys [.fld 3,.ix e] (oc (obT S b) :: r)=some [.fld 3,.at (.int (i:Int))]:=by
  show ((e _).bind _).map _=_
  rw [he]
  rfl
 rw [hk,Zu,hc,Zu]
 have hp:pm (ic (m,.str [c]) (k,.int (v:Int))) [.fld 3,.at (.int (i:Int))] (obT S b)=some (obT ⟨S.lg,S.lk,S.wy.set i (pW (S.wy.getD i []) c v)⟩ b,()):=by
  show ((pm (ic (m,.str [c]) (k,.int (v:Int))) [.at (.int (i:Int))] (.lst (S.wy.map wT'))).map _)=_
  have:pm (ic (m,.str [c]) (k,.int (v:Int))) [.at (.int (i:Int))] (.lst (S.wy.map wT'))=some (.lst ((S.wy.set i (pW (S.wy.getD i []) c v)).map wT'),()):=by
   show ((ixP (S.wy.map wT').length (i:Int)).bind _)=_
   rw [Zy,rX hi,Zu,ZQ,Zm hi]
   show ((ic (m,.str [c]) (k,.int (v:Int)) (wT' S.wy[i])).map _)=_
   have e1:S.wy.getD i []=S.wy[i]:=by rw [Zs,Zm hi];rfl
   rw [e1] at hl ⊢
   show ((if true=true/\true=true/\(S.wy[i].map _).length < dS then some (T.dct 0 (dput _ _ _),()) else none).map _)=_
   rw [Zq ⟨rfl,rfl,by rw [Zy];exact hl⟩,Bj,XO]
   rfl
  rw [this]
  rfl
 rw [hp]
 rfl
theorem tK {r:List (Wz)} (hi:i < S.lk.length) (he:e (oc (obT S b) :: r)=some (n,.int (i:Int))) (hv:ev (oc (obT S b) :: r)=some (.fr,.int (v:Int))) :
  dH 0 [.fld 2] e ev (oc (obT S b) :: r)=some (.nx (oc (obT ⟨S.lg,S.lk.set i (some v),S.wy⟩ b) :: r)):=by
 unfold dH
 rw [hv,Zu]
 show ((keys [.fld 2] (oc (obT S b) :: r)).bind _)=_
 have hk:keys [.fld 2] (oc (obT S b) :: r)=some [.fld 2]:=rfl
 rw [hk,Zu,he,Zu]
 have hp:pm (ic (n,.int (i:Int)) (.fr,.int (v:Int))) [.fld 2] (obT S b)=some (obT ⟨S.lg,S.lk.set i (some v),S.wy⟩ b,()):=by
  show ((ic (n,.int (i:Int)) (.fr,.int (v:Int)) (.lst (S.lk.map lkT))).map _)=_
  have:ic (n,.int (i:Int)) (.fr,.int (v:Int)) (.lst (S.lk.map lkT))=some (.lst ((S.lk.set i (some v)).map lkT),()):=by
   show ((ixP (S.lk.map lkT).length (i:Int)).map _)=_
   rw [Zy,rX hi,XO]
   rfl
  rw [this]
  rfl
 rw [hp]
 rfl
end
theorem mH {c:Ex} {body:Sx} {n:Nat} {η η':Env} {m:Md} (h1:c η=some (m,.bl true)) (h2:body η=some (.nx η')):eP c body (n+1) η=eP c body n η':=by
 show (c η).bind _=_
 rw [h1]
 show (if true=true then (body η).bind _ else some (.nx η))=_
 rw [Zq rfl,h2]
 rfl
theorem fE {c:Ex} {body:Sx} {n:Nat} {η:Env} {m:Md} (h1:c η=some (m,.bl false)):eP c body (n+1) η=some (.nx η):=by
 show (c η).bind _=_
 rw [h1]
 rfl
theorem gI {mv:List Bool} {g:Mt} {as:Exs} {xs:Wy} {S S':St} {v:T} {b:Bool} {r:List (Wz)} (ha:as (oc (obT S b) :: r)=some xs) (hao:argsOk mv xs=true) (hno:cM (trees xs)=true) (hg:g (fsT S) (trees xs)=some (fsT S',v)) (hv:imm v=true) :
  br 0 [] 0 mv g as (oc (obT S b) :: r)=some ((.fr,v),oc (obT S' b) :: r):=by
 show ((some ([]:List Ky)).bind fun ks=>(as (oc (obT S b) :: r)).bind fun xs=>(pm (jA 0 mv g xs) ks (obT S b)).map fun z=>(z.2,(oc (obT S b) :: r).set 0 (oc z.1)))=_
 rw [Zu,ha,Zu]
 show ((if 1=0+1/\dJ (fsT S)=true/\argsOk mv xs=true/\cM (trees xs)=true then (g (fsT S) (trees xs)).bind fun z=>if dJ z.1=true/\imm z.2=true then some (T.obj 1 ((0,.bl b) :: z.1),(Md.fr,z.2)) else none else none).map _)=_
 rw [Zq ⟨rfl,iC S,hao,hno⟩,hg,Zu,Zq ⟨iC S',hv⟩]
 rfl
theorem za {e:Ex} {S:St} {b:Bool} {r:List (Wz)} {v:Nat} (h:e (oc (obT S b) :: r)=some (.fr,.int (v:Int))) (hl:S.lg.length < 16777216):sX (fQ 0 [.fld 1] aG (ae e ai)) (oc (obT S b) :: r)=some (.nx (oc (obT ⟨S.lg++[v],S.lk,S.wy⟩ b) :: r)):=by
 show (((some [Ky.fld 1]).bind fun ks=>(ae e ai (oc (obT S b) :: r)).bind fun xs=>(pm (fun x=>aG x xs) ks (obT S b)).map _).map _)=_
 rw [Zu,xv (r:=ai) h rfl,Zu]
 show (((aG (.lst (S.lg.map fun (n:Nat)=>T.int (n:Int))) [(.fr,.int (v:Int))]).map _).map _ |>.map _)=_
 rw [cT (by rw [Zy];exact hl),show (S.lg.map fun (n:Nat)=>T.int (n:Int))++[.int (v:Int)]=(S.lg++[v]).map fun (n:Nat)=>T.int (n:Int) from by rw [ZD];rfl]
 rfl
theorem AL {e:Ex} {S:St} {b:Bool} {r:List (Wz)} {v:Option Nat} (h:e (oc (obT S b) :: r)=some (.fr,lkT v)) (hl:S.lk.length < 16777216):sX (fQ 0 [.fld 2] aG (ae e ai)) (oc (obT S b) :: r)=some (.nx (oc (obT ⟨S.lg,S.lk++[v],S.wy⟩ b) :: r)):=by
 show (((some [Ky.fld 2]).bind fun ks=>(ae e ai (oc (obT S b) :: r)).bind fun xs=>(pm (fun x=>aG x xs) ks (obT S b)).map _).map _)=_
 rw [Zu,xv (r:=ai) h rfl,Zu]
 show (((aG (.lst (S.lk.map lkT)) [(.fr,lkT v)]).map _).map _ |>.map _)=_
 rw [cT (by rw [Zy];exact hl),show (S.lk.map lkT)++[lkT v]=(S.lk++[v]).map lkT from by rw [ZD];rfl]
 rfl
theorem yN (o:Option Nat):up .pu (lkT o)=(.fr,lkT o):=by
 unfold up
 rw [kL]
 rfl
theorem sP (S:St) (l:Nat) (o:Option Nat) (w:List (Nat×Nat)) (h1:S.lg.length < 16777216) (h2:S.lk.length < 16777216) (h3:S.wy.length < 16777216):aH (fsT S) [.int (l:Int),lkT o,wT' w]=some (fsT ⟨S.lg++[l],S.lk++[o],S.wy++[w]⟩,.int (S.lg.length:Int)):=by
 have a1:=za (S:=S) (b:=true) (r:=[pc (.int (l:Int)),pc (lkT o),oc (wT' w)]) (e:=ab 1) (v:=l) rfl h1
 have a2:=AL (S:=⟨S.lg++[l],S.lk,S.wy⟩) (b:=true) (r:=[pc (.int (l:Int)),pc (lkT o),oc (wT' w)]) (e:=ab 2) (v:=o) (congrArg some (yN o)) h2
 have a3:jc 0 [.fld 3] 3 [oc (obT ⟨S.lg++[l],S.lk++[o],S.wy⟩ true),pc (.int (l:Int)),pc (lkT o),oc (wT' w)]=some (.nx [oc (obT ⟨S.lg++[l],S.lk++[o],S.wy++[w]⟩ true),pc (.int (l:Int)),pc (lkT o),none]):=by
  show ((aG (.lst (S.wy.map wT')) [(.fr,wT' w)]).map _ |>.map _)=_
  rw [cT (by rw [Zy];exact h3),show (S.wy.map wT')++[wT' w]=(S.wy++[w]).map wT' from by rw [ZD];rfl]
  rfl
 have a4:=gK (e:=e2 jL (eN cn (ae (aY 1 (ab 0)) ai)) (eC (.int 1))) (η:=[oc (obT ⟨S.lg++[l],S.lk++[o],S.wy++[w]⟩ true),pc (.int (l:Int)),pc (lkT o),none]) (t:=.int (S.lg.length:Int)) (e2v (yR (m:=.bo) rfl) rfl (by
  show some (Md.fr,T.int ((((S.lg++[l]).length:Nat):Int) - 1))=_
  rw [Zt,ZO,show (((S.lg.length+1:Nat)):Int) - 1=(S.lg.length:Int) by omega]))
 unfold aH mfn
 rw [Zq ⟨rfl,rfl⟩]
 have body:=(aq (b:=ar (sX (fQ 0 [.fld 2] aG (ae (ab 2) ai))) (ar (jc 0 [.fld 3] 3) (eJ (e2 jL (eN cn (ae (aY 1 (ab 0)) ai)) (eC (.int 1)))))) a1).trans ((aq a2).trans ((aq a3).trans a4))
 exact congrArg (fun z:Option Out=>z.bind _) body
theorem yt {c old v:Nat} (hc:97<=c/\c<=122):∀ (k:Nat) (S S':St) (o:Option Nat),WF S->v < S.lg.length->(∀ n,o=some n->n < S.lg.length)->up2 c old v k S o=some S'->WF S'/\S'.lg=S.lg/\∃ o',∀ N,k < N->∀ z:Wz,
  eP (gL (eT (ab 1)) (e2 oEq (e2 pd (e2 aJ (aY 3 (ab 0)) (ab 1)) (ab 2)) (ab 3))) bJ N [oc (obT S true),pc (lkT o),pc (.str [c]),pc (.int (old:Int)),z,pc (.int (v:Int))] =
   some (.nx [oc (obT S' true),pc (lkT o'),pc (.str [c]),pc (.int (old:Int)),z,pc (.int (v:Int))]):=by
 intro k
 induction k with
 | zero =>
  intro S S' o W hv ho e
  cases o with
  | none =>
   cases (show some S=some S' from e)
   refine ⟨W,rfl,none,fun N hN z=>?_⟩
   obtain ⟨N,rfl⟩:∃ M,N=M+1:=⟨N - 1,by omega⟩
   exact fE (m:=.fr) rfl
  | some n=>cases e
 | succ k ih =>
  intro S S' o W hv ho e
  cases o with
  | none =>
   cases (show some S=some S' from e)
   refine ⟨W,rfl,none,fun N hN z=>?_⟩
   obtain ⟨N,rfl⟩:∃ M,N=M+1:=⟨N - 1,by omega⟩
   exact fE (m:=.fr) rfl
  | some n =>
   have hn:=ho n rfl
   have hnw:n < S.wy.length:=by rw [W.wy];exact hn
   have cond:∀ z:Wz,gL (eT (ab 1)) (e2 oEq (e2 pd (e2 aJ (aY 3 (ab 0)) (ab 1)) (ab 2)) (ab 3)) [oc (obT S true),pc (.int (n:Int)),pc (.str [c]),pc (.int (old:Int)),z,pc (.int (v:Int))]=some (.fr,.bl (decide (gW (S.wy.getD n []) c=some old))):=fun z=>by
    refine o5 (m:=.fr) (x:=true) rfl (fun _=>?_) (fun h=>by cases h)
    refine e2v (BI (m:=.bo) (kR (m:=.bo) (n:=.fr) rfl rfl hnw) (n:=.fr) rfl) (y:=(.fr,.int (old:Int))) rfl ?_
    cases hg:gW (S.wy.getD n []) c with
    | none=>rw [decide_eq_false (by simp)];exact lO rfl rfl rfl
    | some q =>
     refine (lO rfl rfl (show eqT (.int (q:Int)) (.int (old:Int))=decide (some q=some old) from ?_))
     simp only [eqT]
     by_cases h:q=old
     ·subst h;simp
     ·have h1:¬ (q:Int)=(old:Int):=by omega
      have h2:¬ some q=some old:=fun z=>h (Zo z)
      rw [decide_eq_false h2]
      exact beq_eq_false_iff_ne.mpr h1
   unfold up2 at e
   split at e
   ·rename_i hq
    have W':=W.way (n:=n) (c:=c) (v:=v) hv hc
    obtain ⟨w1,w2,o',w3⟩:=ih _ S' (S.lk.getD n none) W' hv (fun m hm=>W.up n m hm) e
    refine ⟨w1,w2,o',fun N hN z=>?_⟩
    obtain ⟨N,rfl⟩:∃ M,N=M+1:=⟨N - 1,by omega⟩
    refine (mH (m:=.fr) ((cond z).trans (by rw [decide_eq_true hq])) ?_).trans (w3 N (by omega) z)
    unfold bJ
    refine (aq (tf (S:=S) (i:=n) (n:=.fr) (m:=.fr) (k:=.fr) (c:=c) (v:=v) hnw rfl rfl rfl (W.small n))).trans ?_
    have hlk:n < S.lk.length:=by rw [W.lk];exact hn
    exact bV (m:=.fr) (t:=lkT (S.lk.getD n none)) (ql (S:=⟨S.lg,S.lk,S.wy.set n (pW (S.wy.getD n []) c v)⟩) (m:=.bo) (n:=.fr) rfl rfl hlk) (by decide) (by decide:1 < 6)
   ·rename_i hq
    cases e
    refine ⟨W,rfl,some n,fun N hN z=>?_⟩
    obtain ⟨N,rfl⟩:∃ M,N=M+1:=⟨N - 1,by omega⟩
    exact fE (m:=.fr) ((cond z).trans (by rw [decide_eq_false hq]))
theorem zT {c v:Nat} (hc:97<=c/\c<=122):∀ (k:Nat) (S S':St) (o o':Option Nat),WF S->v < S.lg.length->(∀ n,o=some n->n < S.lg.length)->up1 c v k S o=some (S',o')->WF S'/\S'.lg=S.lg/\(∀ n,o'=some n->n < S.lg.length)/\∀ N,k < N->∀ z:Wz,
  eP (gL (eT (ab 4)) (e2 dc (ab 2) (e2 aJ (aY 3 (ab 0)) (ab 4)))) bK N [oc (obT S true),z,pc (.str [c]),pc (.int (v:Int)),pc (lkT o)] =
   some (.nx [oc (obT S' true),z,pc (.str [c]),pc (.int (v:Int)),pc (lkT o')]):=by
 intro k
 induction k with
 | zero =>
  intro S S' o o' W hv ho e
  cases o with
  | none =>
   cases (show some (S,none)=some (S',o') from e)
   refine ⟨W,rfl,(fun n h=>nomatch h),fun N hN z=>?_⟩
   obtain ⟨N,rfl⟩:∃ M,N=M+1:=⟨N - 1,by omega⟩
   exact fE (m:=.fr) rfl
  | some n=>cases e
 | succ k ih =>
  intro S S' o o' W hv ho e
  cases o with
  | none =>
   cases (show some (S,none)=some (S',o') from e)
   refine ⟨W,rfl,(fun n h=>nomatch h),fun N hN z=>?_⟩
   obtain ⟨N,rfl⟩:∃ M,N=M+1:=⟨N - 1,by omega⟩
   exact fE (m:=.fr) rfl
  | some n =>
   have hn:=ho n rfl
   have hnw:n < S.wy.length:=by rw [W.wy];exact hn
   have cond:∀ z:Wz,gL (eT (ab 4)) (e2 dc (ab 2) (e2 aJ (aY 3 (ab 0)) (ab 4))) [oc (obT S true),z,pc (.str [c]),pc (.int (v:Int)),pc (.int (n:Int))]=some (.fr,.bl (!(gW (S.wy.getD n []) c).isSome)):=fun z =>
    o5 (m:=.fr) (x:=true) rfl (fun _=>BP (m:=.bo) (n:=.fr) (kR (m:=.bo) (n:=.fr) rfl rfl hnw) rfl) (fun h=>by cases h)
   unfold up1 at e
   split at e
   ·rename_i hq
    cases e
    refine ⟨W,rfl,ho,fun N hN z=>?_⟩
    obtain ⟨N,rfl⟩:∃ M,N=M+1:=⟨N - 1,by omega⟩
    exact fE (m:=.fr) ((cond z).trans (by rw [hq];rfl))
   ·rename_i hq
    have W':=W.way (n:=n) (c:=c) (v:=v) hv hc
    obtain ⟨w1,w2,w4,w3⟩:=ih _ S' (S.lk.getD n none) o' W' hv (fun m hm=>W.up n m hm) e
    refine ⟨w1,w2,w4,fun N hN z=>?_⟩
    obtain ⟨N,rfl⟩:∃ M,N=M+1:=⟨N - 1,by omega⟩
    have hq':(gW (S.wy.getD n []) c).isSome=false:=by simpa using hq
    refine (mH (m:=.fr) ((cond z).trans (by rw [hq'];rfl)) ?_).trans (w3 N (by omega) z)
    unfold bK
    refine (aq (tf (S:=S) (i:=n) (n:=.fr) (m:=.fr) (k:=.fr) (c:=c) (v:=v) hnw rfl rfl rfl (W.small n))).trans ?_
    have hlk:n < S.lk.length:=by rw [W.lk];exact hn
    exact bV (m:=.fr) (t:=lkT (S.lk.getD n none)) (ql (S:=⟨S.lg,S.lk,S.wy.set n (pW (S.wy.getD n []) c v)⟩) (m:=.bo) (n:=.fr) rfl rfl hlk) (by decide) (by decide:4 < 5)
theorem yY (a b:Nat) {m n:Md}:oEq (m,.int (a:Int)) (n,.int (b:Int))=some (.fr,.bl (decide (a=b))):=lO rfl rfl (by
 simp only [eqT]
 by_cases h:a=b
 ·subst h;simp
 ·rw [decide_eq_false h]
  exact beq_eq_false_iff_ne.mpr (by omega))
theorem sV {S S':St} {n c r:Nat} (W:WF S) (hs:Sm S) (hn:n < S.lg.length) (hc:97<=c/\c<=122) (e:njb S n c=some (S',r)):WF S'/\r < S'.lg.length/\S.lg.length<=S'.lg.length/\S'.lg.length<=S.lg.length+1/\av (fsT S) [.int (n:Int),.str [c]]=some (fsT S',.int (r:Int)):=by
 unfold njb at e
 obtain ⟨old,ho,e⟩:=Zz.mp e
 have hold:=W.on n c old ho
 have hnw:n < S.wy.length:=by rw [W.wy];exact hn
 have how:old < S.wy.length:=by rw [W.wy];exact hold
 have hok:old < S.lk.length:=by rw [W.lk];exact hold
 have hs1:S.lg.length<=100001:=hs
 unfold av mfn
 rw [Zq ⟨rfl,rfl⟩]
 have s1:=bV (i:=3) (m:=.fr) (e:=e2 oIx (e2 aJ (aY 3 (ab 0)) (ab 1)) (ab 2)) (η:=[oc (obT S true),pc (.int (n:Int)),pc (.str [c]),none,none,none]) (ub (m:=.bo) (n:=.fr) (kR (m:=.bo) (n:=.fr) rfl rfl hnw) rfl ho) (by decide) (by decide:3 < 6)
 have s2:=bV (i:=4) (m:=.fr) (e:=e2 cH (e2 aJ (aY 1 (ab 0)) (ab 1)) (eC (.int 1))) (η:=[oc (obT S true),pc (.int (n:Int)),pc (.str [c]),pc (.int (old:Int)),none,none]) (t:=.int ((S.lg.getD n 0+1:Nat):Int)) (e2v (nX (m:=.bo) (n:=.fr) rfl rfl hn) rfl rfl) (by decide) (by decide:4 < 6)
 have cd:e2 oEq (e2 aJ (aY 1 (ab 0)) (ab 3)) (ab 4) [oc (obT S true),pc (.int (n:Int)),pc (.str [c]),pc (.int (old:Int)),pc (.int ((S.lg.getD n 0+1:Nat):Int)),none]=some (.fr,.bl (decide (S.lg.getD old 0=S.lg.getD n 0+1))):=e2v (nX (m:=.bo) (n:=.fr) rfl rfl hold) (y:=(.fr,.int ((S.lg.getD n 0+1:Nat):Int))) rfl (yY _ _)
 split at e
 ·rename_i hq
  obtain ⟨rfl,rfl⟩:=Xu (Zo e)
  rw [decide_eq_true hq] at cd
  refine ⟨W,hold,Zk _,Nat.le_succ _,?_⟩
  have body:∀ b:Sx,ar (aW 3 (e2 oIx (e2 aJ (aY 3 (ab 0)) (ab 1)) (ab 2))) (ar (aW 4 (e2 cH (e2 aJ (aY 1 (ab 0)) (ab 1)) (eC (.int 1)))) (ar (sIf (e2 oEq (e2 aJ (aY 1 (ab 0)) (ab 3)) (ab 4)) (gv 3) eG) b)) [oc (obT S true),pc (.int (n:Int)),pc (.str [c]),none,none,none]=some (.rt (.fr,.int (old:Int)) [oc (obT S true),pc (.int (n:Int)),pc (.str [c]),pc (.int (old:Int)),pc (.int ((S.lg.getD n 0+1:Nat):Int)),none]):=fun b =>
   (aq s1).trans ((aq s2).trans (jS ((oW cd).trans rfl)))
  exact congrArg (fun z:Option Out=>z.bind _) (body _)
 ·rename_i hq
  rw [decide_eq_false hq] at cd
  obtain ⟨S2,e2',e3⟩:=Zw.mp e
  obtain ⟨rfl,rfl⟩:=Xu e3
  have wn:=W.wnd old
  have W1:=W.more (l:=S.lg.getD n 0+1) (o:=S.lk.getD old none) (w:=S.wy.getD old []) (fun m hm=>W.up old m hm) (fun d m hm=>W.on old d m hm) wn.1 wn.2
  have hlen:(S.lg++[S.lg.getD n 0+1]).length=S.lg.length+1:=by rw [Zt];rfl
  have W2:=W1.link (n:=old) (v:=S.lg.length) (by show S.lg.length < (S.lg++[S.lg.getD n 0+1]).length;omega)
  obtain ⟨w1,w2,o',w3⟩:=yt hc 1000 _ S2 (some n) W2 (by show S.lg.length < (S.lg++[S.lg.getD n 0+1]).length;omega) (fun m hm=>by cases hm;show n < (S.lg++[S.lg.getD n 0+1]).length;omega) e2'
  have w2':S2.lg.length=S.lg.length+1:=by rw [w2];exact hlen
  refine ⟨w1,by omega,by omega,by omega,?_⟩
  have nw:=sP S (S.lg.getD n 0+1) (S.lk.getD old none) (S.wy.getD old []) (by omega) (by rw [W.lk];omega) (by rw [W.wy];omega)
  have args:ae (ab 4) (ae (e2 aJ (aY 2 (ab 0)) (ab 3)) (ae (eN ie (ae (e2 aJ (aY 3 (ab 0)) (ab 3)) ai)) ai)) [oc (obT S true),pc (.int (n:Int)),pc (.str [c]),pc (.int (old:Int)),pc (.int ((S.lg.getD n 0+1:Nat):Int)),none]=some [(.fr,.int ((S.lg.getD n 0+1:Nat):Int)),(.fr,lkT (S.lk.getD old none)),(.fr,wT' (S.wy.getD old []))] :=
   xv rfl (xv (ql (m:=.bo) (n:=.fr) rfl rfl hok) (xv (hV (xv (kR (m:=.bo) (n:=.fr) rfl rfl how) rfl) (by
    show (if cY (((S.wy.getD old []).map fun p=>(T.str [p.1],T.int (p.2:Int))).map (·.2))=true then some (Md.fr,wT' (S.wy.getD old [])) else none)=_
    rw [Zq (by rw [Yx];exact gM _ (fun _=>rfl) _)])) rfl))
  have ao:argsOk [false,false,true] [(.fr,.int ((S.lg.getD n 0+1:Nat):Int)),(.fr,lkT (S.lk.getD old none)),(.fr,wT' (S.wy.getD old []))]=true:=by
   show (true && (imm (lkT (S.lk.getD old none)) && true))=true
   rw [kL]
   rfl
  have an:cM (trees [(Md.fr,T.int ((S.lg.getD n 0+1:Nat):Int)),(.fr,lkT (S.lk.getD old none)),(.fr,wT' (S.wy.getD old []))])=true:=by
   show (true && (eW (lkT (S.lk.getD old none)) && (eW (wT' (S.wy.getD old [])) && true)))=true
   rw [km _ (kL _),tW]
   rfl
  have cm:=gI (b:=true) args ao an nw rfl
  have s3:fL 5 (br 0 [] 0 [false,false,true] aH (ae (ab 4) (ae (e2 aJ (aY 2 (ab 0)) (ab 3)) (ae (eN ie (ae (e2 aJ (aY 3 (ab 0)) (ab 3)) ai)) ai)))) [oc (obT S true),pc (.int (n:Int)),pc (.str [c]),pc (.int (old:Int)),pc (.int ((S.lg.getD n 0+1:Nat):Int)),none]=some (.nx [oc (obT ⟨S.lg++[S.lg.getD n 0+1],S.lk++[S.lk.getD old none],S.wy++[S.wy.getD old []]⟩ true),pc (.int (n:Int)),pc (.str [c]),pc (.int (old:Int)),pc (.int ((S.lg.getD n 0+1:Nat):Int)),pc (.int (S.lg.length:Int))]):=by
   unfold fL
   rw [cm]
   rfl
  have s4:=tK (S:=⟨S.lg++[S.lg.getD n 0+1],S.lk++[S.lk.getD old none],S.wy++[S.wy.getD old []]⟩) (b:=true) (r:=[pc (.int (n:Int)),pc (.str [c]),pc (.int (old:Int)),pc (.int ((S.lg.getD n 0+1:Nat):Int)),pc (.int (S.lg.length:Int))]) (i:=old) (v:=S.lg.length) (n:=.fr) (e:=ab 3) (ev:=ab 5) (by show old < (S.lk++[S.lk.getD old none]).length;rw [Zt];omega) rfl rfl
  have s5:=w3 sA (by decide) (pc (.int ((S.lg.getD n 0+1:Nat):Int)))
  exact congrArg (fun z:Option Out=>z.bind _) ((aq s1).trans ((aq s2).trans ((aq ((ju cd).trans rfl)).trans ((aq s3).trans ((aq s4).trans ((aq s5).trans rfl))))))
theorem Bv {S S':St} {h c r:Nat} (W:WF S) (hs1:S.lg.length<=100000) (hh:h < S.lg.length) (hc:97<=c/\c<=122) (e:hb S h c=some (S',r)):WF S'/\r < S'.lg.length/\S.lg.length<=S'.lg.length/\S'.lg.length<=S.lg.length+2/\bH (fsT S) [.int (h:Int),.str [c]]=some (fsT S',.int (r:Int)):=by
 have hw:h < S.wy.length:=by rw [W.wy];exact hh
 unfold hb at e
 unfold bH mfn
 rw [Zq ⟨rfl,rfl⟩]
 have cd:e2 jM (ab 2) (e2 aJ (aY 3 (ab 0)) (ab 1)) [oc (obT S true),pc (.int (h:Int)),pc (.str [c]),none,none]=some (.fr,.bl (gW (S.wy.getD h []) c).isSome):=CQ (m:=.bo) (n:=.fr) (kR (m:=.bo) (n:=.fr) rfl rfl hw) rfl
 split at e
 ·rename_i hq
  rw [hq] at cd
  obtain ⟨w1,w2,w3,w4,w5⟩:=sV W (Nat.le_succ_of_le hs1) hh hc e
  refine ⟨w1,w2,w3,by omega,?_⟩
  have cm:=gI (mv:=[false,false]) (as:=ae (ab 1) (ae (ab 2) ai)) (xs:=[(.fr,.int (h:Int)),(.fr,.str [c])]) (b:=true) (r:=[pc (.int (h:Int)),pc (.str [c]),none,none]) rfl rfl rfl w5 rfl
  have s1:jG (br 0 [] 0 [false,false] av (ae (ab 1) (ae (ab 2) ai))) [oc (obT S true),pc (.int (h:Int)),pc (.str [c]),none,none]=some (.rt (.fr,.int (r:Int)) [oc (obT S' true),pc (.int (h:Int)),pc (.str [c]),none,none]):=by
   unfold jG
   rw [cm]
   rfl
  exact congrArg (fun z:Option Out=>z.bind _) (jS ((oW cd).trans s1))
 ·rename_i hq
  have hq':(gW (S.wy.getD h []) c).isSome=false:=by simpa using hq
  rw [hq'] at cd
  obtain ⟨⟨S2,o⟩,e1,e2'⟩:=Zz.mp e
  have W1:=W.more (l:=S.lg.getD h 0+1) (o:=some 0) (w:=[]) (fun m hm=>by cases hm;exact W.pos) (fun d m hm=>by cases hm) Yh (fun p hp=>nomatch hp)
  have hlen:(S.lg++[S.lg.getD h 0+1]).length=S.lg.length+1:=by rw [Zt];rfl
  obtain ⟨w1,w2,w3,w4⟩:=zT hc 1000 _ S2 (some h) o W1 (by show S.lg.length < (S.lg++[S.lg.getD h 0+1]).length;omega) (fun m hm=>by cases hm;show h < (S.lg++[S.lg.getD h 0+1]).length;omega) e1
  have w2':S2.lg.length=S.lg.length+1:=by rw [w2];exact hlen
  have nw:=sP S (S.lg.getD h 0+1) (some 0) [] (by omega) (by rw [W.lk];omega) (by rw [W.wy];omega)
  have args:ae (e2 cH (e2 aJ (aY 1 (ab 0)) (ab 1)) (eC (.int 1))) (ae (eC (.int 0)) (ae (lq 0 []) ai)) [oc (obT S true),pc (.int (h:Int)),pc (.str [c]),none,none]=some [(.fr,.int ((S.lg.getD h 0+1:Nat):Int)),(.fr,.int 0),(.fr,.dct 0 [])] :=
   xv (e2v (nX (m:=.bo) (n:=.fr) rfl rfl hh) rfl rfl) (xv rfl (xv rfl rfl))
  have cm:=gI (mv:=[false,false,true]) (b:=true) args rfl rfl nw rfl
  have s1:fL 3 (br 0 [] 0 [false,false,true] aH (ae (e2 cH (e2 aJ (aY 1 (ab 0)) (ab 1)) (eC (.int 1))) (ae (eC (.int 0)) (ae (lq 0 []) ai)))) [oc (obT S true),pc (.int (h:Int)),pc (.str [c]),none,none]=some (.nx [oc (obT ⟨S.lg++[S.lg.getD h 0+1],S.lk++[some 0],S.wy++[[]]⟩ true),pc (.int (h:Int)),pc (.str [c]),pc (.int (S.lg.length:Int)),none]):=by
   unfold fL
   rw [cm]
   rfl
  have s2:=w4 sA (by decide) (pc (.int (h:Int)))
  have hd:∀ b:Sx,ar (sIf (e2 jM (ab 2) (e2 aJ (aY 3 (ab 0)) (ab 1))) (jG (br 0 [] 0 [false,false] av (ae (ab 1) (ae (ab 2) ai)))) eG)
    (ar (fL 3 (br 0 [] 0 [false,false,true] aH (ae (e2 cH (e2 aJ (aY 1 (ab 0)) (ab 1)) (eC (.int 1))) (ae (eC (.int 0)) (ae (lq 0 []) ai)))))
    (ar (aW 4 (ab 1)) (ar (jv (gL (eT (ab 4)) (e2 dc (ab 2) (e2 aJ (aY 3 (ab 0)) (ab 4)))) bK) b))) [oc (obT S true),pc (.int (h:Int)),pc (.str [c]),none,none] =
    b [oc (obT S2 true),pc (.int (h:Int)),pc (.str [c]),pc (.int (S.lg.length:Int)),pc (lkT o)]:=fun b =>
   (aq ((ju cd).trans rfl)).trans ((aq s1).trans ((aq rfl).trans (aq s2)))
  cases o with
  | none =>
   obtain ⟨rfl,rfl⟩:=Xu (Zo e2')
   have fin:ar (sIf (eT (ab 4)) (gn 0 [.fld 2] (ab 3) (br 0 [] 0 [false,false] av (ae (ab 4) (ae (ab 2) ai)))) eG) (gv 3) [oc (obT S2 true),pc (.int (h:Int)),pc (.str [c]),pc (.int (S.lg.length:Int)),pc (lkT none)] =
     some (.rt (.fr,.int (S.lg.length:Int)) [oc (obT S2 true),pc (.int (h:Int)),pc (.str [c]),pc (.int (S.lg.length:Int)),pc (lkT none)]):=(aq ((ju (m:=.fr) rfl).trans rfl)).trans rfl
   refine ⟨w1,by show S.lg.length < S2.lg.length;omega,by show S.lg.length<=S2.lg.length;omega,by show S2.lg.length<=_;omega,?_⟩
   exact congrArg (fun z:Option Out=>z.bind _) ((hd _).trans fin)
  | some n =>
   obtain ⟨⟨S3,m⟩,e3,e4⟩:=Zw.mp e2'
   obtain ⟨rfl,rfl⟩:=Xu e4
   have hn:n < S2.lg.length:=by
    have:=w3 n rfl
    rw [w2]
    exact this
   obtain ⟨v1,v2,v3,v4,v5⟩:=sV w1 (by show S2.lg.length<=100001;omega) hn hc e3
   have v6:=v1.link (n:=S.lg.length) (v:=m) v2
   have cm:=gI (mv:=[false,false]) (as:=ae (ab 4) (ae (ab 2) ai)) (xs:=[(.fr,.int (n:Int)),(.fr,.str [c])]) (b:=true) (r:=[pc (.int (h:Int)),pc (.str [c]),pc (.int (S.lg.length:Int)),pc (.int (n:Int))]) rfl rfl rfl v5 rfl
   have pl:=tK (S:=S3) (b:=true) (r:=[pc (.int (h:Int)),pc (.str [c]),pc (.int (S.lg.length:Int)),pc (.int (n:Int))]) (i:=S.lg.length) (v:=m) (n:=.fr) (e:=ab 3) (ev:=fun _=>some (.fr,.int (m:Int))) (by rw [v1.lk];omega) rfl rfl
   have s3:gn 0 [.fld 2] (ab 3) (br 0 [] 0 [false,false] av (ae (ab 4) (ae (ab 2) ai))) [oc (obT S2 true),pc (.int (h:Int)),pc (.str [c]),pc (.int (S.lg.length:Int)),pc (.int (n:Int))]=some (.nx [oc (obT ⟨S3.lg,S3.lk.set S.lg.length (some m),S3.wy⟩ true),pc (.int (h:Int)),pc (.str [c]),pc (.int (S.lg.length:Int)),pc (.int (n:Int))]):=by
    unfold gn
    rw [cm]
    exact pl
   have fin:ar (sIf (eT (ab 4)) (gn 0 [.fld 2] (ab 3) (br 0 [] 0 [false,false] av (ae (ab 4) (ae (ab 2) ai)))) eG) (gv 3) [oc (obT S2 true),pc (.int (h:Int)),pc (.str [c]),pc (.int (S.lg.length:Int)),pc (.int (n:Int))] =
     some (.rt (.fr,.int (S.lg.length:Int)) [oc (obT ⟨S3.lg,S3.lk.set S.lg.length (some m),S3.wy⟩ true),pc (.int (h:Int)),pc (.str [c]),pc (.int (S.lg.length:Int)),pc (.int (n:Int))]):=(aq ((oW (m:=.fr) rfl).trans s3)).trans rfl
   refine ⟨v6,by show S.lg.length < S3.lg.length;omega,by show S.lg.length<=S3.lg.length;omega,by show S3.lg.length<=_;omega,?_⟩
   exact congrArg (fun z:Option Out=>z.bind _) ((hd _).trans fin)
theorem uk {S S':St}:∀ {word:X7} {h r:Nat},WF S->S.lg.length+2 * word.length<=100000->h < S.lg.length->(∀ c∈word,97<=c/\c<=122)->hg S h word=some (S',r) →
  WF S'/\r < S'.lg.length/\S'.lg.length<=S.lg.length+2 * word.length/\∀ z3:Wz,∀ z2:T,∃ z3',forL (cS 3) bX (word.map fun c=>T.str [c]) [oc (obT S true),pc (.int (h:Int)),pc z2,z3]=some (.nx [oc (obT S' true),pc (.int (r:Int)),pc z2,z3'])
 | [],h,r,W,hl,hh,hc,e=>by
  obtain ⟨rfl,rfl⟩:=Xu (Zo e)
  exact ⟨W,hh,by simp,fun z3 z2=>⟨z3,rfl⟩⟩
 | c :: word,h,r,W,hl,hh,hc,e=>by
  obtain ⟨⟨S1,h1⟩,e1,e2'⟩:=Zz.mp e
  rw [ZZ] at hl
  obtain ⟨w1,w2,w3,w4,w5⟩:=Bv W (by omega) hh (hc c Zx) e1
  obtain ⟨v1,v2,v3,v4⟩:=uk (S:=S1) (S':=S') (word:=word) w1 (by omega) w2 (fun d hd=>hc d (Zv _ hd)) e2'
  refine ⟨v1,v2,by rw [ZZ];omega,fun z3 z2=>?_⟩
  obtain ⟨z3',q⟩:=v4 (pc (.str [c])) z2
  refine ⟨z3',?_⟩
  rw [Zp]
  refine (fI (η1:=[oc (obT S true),pc (.int (h:Int)),pc z2,pc (.str [c])]) rfl ?_).trans q
  have cm:=gI (mv:=[false,false]) (as:=ae (ab 1) (ae (ab 3) ai)) (xs:=[(.fr,.int (h:Int)),(.fr,.str [c])]) (b:=true) (r:=[pc (.int (h:Int)),pc z2,pc (.str [c])]) rfl rfl rfl w5 rfl
  unfold bX fL
  rw [cm]
  rfl
theorem x4 {S S':St} {word:Tx} {h r:Nat} (W:WF S) (hl:S.lg.length+2 * word.length<=100000) (hh:h < S.lg.length) (hc:∀ c∈word,97<=c/\c<=122) (e:hg S h word=some (S',r)) :
  WF S'/\r < S'.lg.length/\S'.lg.length<=S.lg.length+2 * word.length/\aQ (fsT S) [.int (h:Int),.str word]=some (fsT S',.int (r:Int)):=by
 obtain ⟨w1,w2,w3,w4⟩:=uk W hl hh hc e
 obtain ⟨z3,q⟩:=w4 none (.str word)
 refine ⟨w1,w2,w3,?_⟩
 unfold aQ mfn
 rw [Zq ⟨rfl,rfl⟩]
 have s1:=(hR (tg:=cS 3) (it:=gR (ab 2)) (body:=bX) (η:=[oc (obT S true),pc (.int (h:Int)),pc (.str word),none]) (m:=.fr) (l:=word.map fun c=>T.str [c]) rfl rfl).trans q
 exact congrArg (fun z:Option Out=>z.bind _) ((aq s1).trans rfl)
end T10
end
section
namespace AU
noncomputable abbrev Wd:=X7
noncomputable abbrev W (wd:List Wd) (n:Nat):Wd:=wd.getD n []
structure I (fr:Option Nat) (S:St) (nd:Wd->Option Nat) (wd:List Wd):Prop where
 wf:WF S
 len:wd.length=S.lg.length
 lg:∀ n,n < wd.length->S.lg.getD n 0=(W wd n).length
 z:nd []=some 0
 wz:W wd 0=[]
 lt:∀ {x n},nd x=some n->n < wd.length
 sf:∀ {x n},nd x=some n->x <:+ W wd n
 top:∀ {n},n < wd.length->nd (W wd n)=some n
 iv:∀ {x y n},nd x=some n->x <:+ y->y <:+ W wd n->nd y=some n
 pre:∀ {x c n},nd (x++[c])=some n->∃ m,nd x=some m
 suf:∀ {x y n},nd y=some n->x <:+ y->∃ m,nd x=some m
 lk0:S.lk.getD 0 none=none
 lk:∀ {n},0 < n->n < wd.length->some n ≠ fr->∃ m,S.lk.getD n none=some m/\(m < wd.length/\some m ≠ fr)/\W wd m <:+ W wd n/\(W wd m).length < (W wd n).length/\∀ y,y <:+ W wd n->(W wd m).length < y.length->nd y=some n
 wy:∀ {x n},nd x=some n->∀ c,gW (S.wy.getD n []) c=nd (x++[c])
theorem cQ {α:Type} {x y w:List α} (h1:x <:+ w) (h2:y <:+ w) (hl:x.length<=y.length):x <:+ y:=List.suffix_of_suffix_length_le h1 h2 hl
section
variable {fr:Option Nat} {S:St} {nd:Wd->Option Nat} {wd:List Wd}
theorem I.up (H:I fr S nd wd):∀ (k n:Nat) (x:Wd),(W wd n).length<=k->n < wd.length->some n ≠ fr->x <:+ W wd n->∃ m,nd x=some m/\W wd m <:+ W wd n:=by
 intro k
 induction k with
 | zero =>
  intro n x hk hn hf hx
  have e:W wd n=[]:=List.length_eq_zero_iff.mp (Nat.le_zero.mp hk)
  rw [e] at hx
  have:x=[]:=YQ.mp hx
  subst this
  exact ⟨0,H.z,by rw [H.wz];exact Y7⟩
 | succ k ih =>
  intro n x hk hn hf hx
  by_cases h0:n=0
  ·subst h0
   rw [H.wz] at hx
   have:x=[]:=YQ.mp hx
   subst this
   exact ⟨0,H.z,Z5 _⟩
  ·obtain ⟨m,h1,⟨h2,h2'⟩,h3,h4,h5⟩:=H.lk (YT h0) hn hf
   by_cases hl:(W wd m).length < x.length
   ·exact ⟨n,h5 x hx hl,Z5 _⟩
   ·obtain ⟨q,q1,q2⟩:=ih m x (by omega) h2 h2' (cQ hx h3 (by omega))
    exact ⟨q,q1,q2.trans h3⟩
theorem I.up' (H:I fr S nd wd) {n:Nat} {x:Wd} (hn:n < wd.length) (hf:some n ≠ fr) (hx:x <:+ W wd n):∃ m,nd x=some m/\W wd m <:+ W wd n:=H.up _ n x (Zk _) hn hf hx
theorem I.all (H:I fr S nd wd) {n q:Nat} {x y:Wd} (hq:q < wd.length) (hf:some q ≠ fr) (hx:nd x=some n) (hy:nd y=some n) (h:x <:+ W wd q):y <:+ W wd q:=by
 obtain ⟨m,h1,h2⟩:=H.up' hq hf h
 rw [hx] at h1
 cases h1
 exact (H.sf hy).trans h2
theorem I.inj (H:I fr S nd wd) {m n:Nat} (hm:m < wd.length) (hn:n < wd.length) (h:W wd m=W wd n):m=n:=by
 have:=H.top hm
 rw [h,H.top hn] at this
 exact (Zo this).symm
theorem I.way (H:I fr S nd wd) {n c old:Nat} (hn:n < wd.length) (h:gW (S.wy.getD n []) c=some old):nd (W wd n++[c])=some old:=by
 rw [← H.wy (H.top hn) c]
 exact h
theorem I.zero (H:I fr S nd wd) {x:Wd} (h:nd x=some 0):x=[]:=by
 have:=H.sf h
 rw [H.wz] at this
 exact YQ.mp this
theorem I.low (H:I fr S nd wd) {n m:Nat} {y:Wd} (hf:some n ≠ fr) (hl:S.lk.getD n none=some m) (hy:nd y=some n):(W wd m).length < y.length/\m < wd.length/\W wd m <:+ W wd n/\some m ≠ fr:=by
 have hn:=H.lt hy
 by_cases h0:n=0
 ·subst h0;rw [H.lk0] at hl;cases hl
 ·obtain ⟨m',h1,⟨h2,h2'⟩,h3,h4,h5⟩:=H.lk (YT h0) hn hf
  rw [h1] at hl
  cases hl
  refine ⟨Nat.lt_of_not_le fun hle=>?_,h2,h3,h2'⟩
  have:=H.iv hy (cQ (H.sf hy) h3 hle) h3
  rw [H.top h2] at this
  cases this
  exact Yn _ h4
theorem I.below (H:I fr S nd wd) {n q m:Nat} (hn:n < wd.length) (hf:some n ≠ fr) (hl:S.lk.getD n none=some q) (hm:m < wd.length) (hs:W wd m <:+ W wd n) (hne:m ≠ n):W wd m <:+ W wd q:=by
 by_cases h0:n=0
 ·subst h0;rw [H.lk0] at hl;cases hl
 ·obtain ⟨q',h1,⟨h2,_⟩,h3,h4,h5⟩:=H.lk (YT h0) hn hf
  rw [h1] at hl
  cases hl
  refine cQ hs h3 (ZP fun hlt=>hne ?_)
  have:=h5 _ hs hlt
  rw [H.top hm] at this
  exact Zo this
theorem I.root (H:I fr S nd wd) {n m:Nat} (hn:n < wd.length) (hf:some n ≠ fr) (hl:S.lk.getD n none=none) (hm:m < wd.length) (hs:W wd m <:+ W wd n):m=n:=by
 have h0:n=0:=Nat.eq_zero_of_not_pos fun hp=>by
  obtain ⟨q,h1,_⟩:=H.lk hp hn hf
  rw [h1] at hl
  cases hl
 subst h0
 rw [H.wz] at hs
 exact H.inj hm hn (by rw [H.wz,YQ.mp hs])
theorem fz (wy:List (List (Nat×Nat))) (n m c v d:Nat) (hn:n < wy.length):gW ((wy.set n (pW (wy.getD n []) c v)).getD m []) d=if m=n/\d=c then some v else gW (wy.getD m []) d:=by
 rw [fO]
 by_cases h:n=m
 ·subst h
  rw [Zq ⟨rfl,hn⟩,xY]
  by_cases hd:d=c
  ·rw [Zq hd,Zq ⟨rfl,hd⟩]
  ·rw [Zn hd,Zn (fun z=>hd z.2)]
 ·rw [Zn (fun z=>h z.1),Zn (fun z=>h z.1.symm)]
theorem I.climb2 (H:I fr S nd wd) {c old v:Nat}:∀ (k:Nat) (T:St) (n:Nat),n < wd.length->some n ≠ fr->(W wd n).length < k->(∀ m,m < wd.length->W wd m <:+ W wd n->T.lk.getD m none=S.lk.getD m none)->wd.length<=T.wy.length →
  (∀ m m',m < wd.length->m' < wd.length->W wd m <:+ W wd m'->W wd m' <:+ W wd n->gW (T.wy.getD m []) c=some old->gW (T.wy.getD m' []) c=some old) →
  ∃ wy',up2 c old v k T (some n)=some ⟨T.lg,T.lk,wy'⟩/\wy'.length=T.wy.length/\∀ m d,gW (wy'.getD m []) d=if d=c/\m < wd.length/\W wd m <:+ W wd n/\gW (T.wy.getD m []) c=some old then some v else gW (T.wy.getD m []) d:=by
 intro k
 induction k with
 | zero=>intro T n _ _ h;omega
 | succ k ih =>
  intro T n hn hf hk hlk hw mono
  have hnw:n < T.wy.length:=ZY hn hw
  unfold up2
  by_cases hq:gW (T.wy.getD n []) c=some old
  ·rw [Zq hq,hlk n hn (Z5 _)]
   cases hl:S.lk.getD n none with
   | none =>
    refine ⟨T.wy.set n (pW (T.wy.getD n []) c v),by cases k <;> rfl,Z3,fun m d=>?_⟩
    rw [fz _ _ _ _ _ _ hnw]
    by_cases hm:m=n/\d=c
    ·rw [Zq hm,Zq ⟨hm.2,by rw [hm.1];exact hn,by rw [hm.1];exact Z5 _,by rw [hm.1];exact hq⟩]
    ·rw [Zn hm,Zn fun z=>hm ⟨H.root hn hf hl z.2.1 z.2.2.1,z.1⟩]
   | some q =>
    obtain ⟨l1,l2,l3,l4⟩:=H.low hf hl (H.top hn)
    have ne:∀ m,W wd m <:+ W wd q->m ≠ n:=fun m hm e=>by
     rw [e] at hm
     have:=hm.length_le
     omega
    obtain ⟨wy',e1,e2,e3⟩:=ih ⟨T.lg,T.lk,T.wy.set n (pW (T.wy.getD n []) c v)⟩ q l2 l4 (by omega) (fun m hm hs=>hlk m hm (hs.trans l3)) (by show _<=(T.wy.set _ _).length;rw [Z3];exact hw) (fun m m' hm hm' hs hs' h=>by
     have h':gW ((T.wy.set n (pW (T.wy.getD n []) c v)).getD m []) c=some old:=h
     show gW ((T.wy.set n (pW (T.wy.getD n []) c v)).getD m' []) c=some old
     rw [fz _ _ _ _ _ _ hnw,Zn (fun z=>ne m (hs.trans hs') z.1)] at h'
     rw [fz _ _ _ _ _ _ hnw,Zn (fun z=>ne m' hs' z.1)]
     exact mono m m' hm hm' hs (hs'.trans l3) h')
    refine ⟨wy',e1,by rw [e2];exact Z3,fun m d=>?_⟩
    rw [e3 m d]
    show (if d=c/\m < wd.length/\W wd m <:+ W wd q/\gW ((T.wy.set n (pW (T.wy.getD n []) c v)).getD m []) c=some old then some v else gW ((T.wy.set n (pW (T.wy.getD n []) c v)).getD m []) d)=_
    by_cases hm:m=n
    ·subst hm
     rw [Zn (fun z=>ne m z.2.2.1 rfl),fz _ _ _ _ _ _ hnw]
     by_cases hd:d=c
     ·rw [Zq ⟨rfl,hd⟩,Zq ⟨hd,hn,Z5 _,hq⟩]
     ·rw [Zn (fun z=>hd z.2),Zn (fun z=>hd z.1)]
    ·have g1:∀ d,gW ((T.wy.set n (pW (T.wy.getD n []) c v)).getD m []) d=gW (T.wy.getD m []) d:=fun d=>by rw [fz _ _ _ _ _ _ hnw,Zn (fun z=>hm z.1)]
     rw [g1,g1]
     by_cases hc:d=c/\m < wd.length/\W wd m <:+ W wd n/\gW (T.wy.getD m []) c=some old
     ·rw [Zq hc,Zq ⟨hc.1,hc.2.1,H.below hn hf hl hc.2.1 hc.2.2.1 hm,hc.2.2.2⟩]
     ·rw [Zn hc,Zn fun z=>hc ⟨z.1,z.2.1,z.2.2.1.trans l3,z.2.2.2⟩]
  ·rw [Zn hq]
   refine ⟨T.wy,rfl,rfl,fun m d=>?_⟩
   rw [Zn fun z=>hq (mono m n z.2.1 hn z.2.2.1 (Z5 _) z.2.2.2)]
theorem I.climb1 (H:I fr S nd wd) {c v:Nat}:∀ (k:Nat) (T:St) (n:Nat),n < wd.length->some n ≠ fr->(W wd n).length < k->(∀ m,m < wd.length->W wd m <:+ W wd n->T.lk.getD m none=S.lk.getD m none)->wd.length<=T.wy.length →
  (∀ m m',m < wd.length->m' < wd.length->W wd m <:+ W wd m'->W wd m' <:+ W wd n->(gW (T.wy.getD m' []) c).isSome->(gW (T.wy.getD m []) c).isSome) →
  ∃ wy' o',up1 c v k T (some n)=some (⟨T.lg,T.lk,wy'⟩,o')/\wy'.length=T.wy.length/\(∀ m d,gW (wy'.getD m []) d=if d=c/\m < wd.length/\W wd m <:+ W wd n/\gW (T.wy.getD m []) c=none then some v else gW (T.wy.getD m []) d) ∧
   (o'=none->∀ m,m < wd.length->W wd m <:+ W wd n->gW (T.wy.getD m []) c=none) ∧
   ∀ p,o'=some p->p < wd.length/\W wd p <:+ W wd n/\(gW (T.wy.getD p []) c).isSome/\∀ m,m < wd.length->W wd m <:+ W wd n->(W wd p).length < (W wd m).length->gW (T.wy.getD m []) c=none:=by
 intro k
 induction k with
 | zero=>intro T n _ _ h;omega
 | succ k ih =>
  intro T n hn hf hk hlk hw mono
  have hnw:n < T.wy.length:=ZY hn hw
  unfold up1
  by_cases hq:(gW (T.wy.getD n []) c).isSome=true
  ·rw [Zq hq]
   refine ⟨T.wy,some n,rfl,rfl,fun m d=>?_,(fun h=>nomatch h),fun p hp=>?_⟩
   ·rw [Zn fun z=>?_]
    have:=mono m n z.2.1 hn z.2.2.1 (Z5 _) hq
    rw [z.2.2.2] at this
    cases this
   ·cases hp
    refine ⟨hn,Z5 _,hq,fun m hm hs hl=>?_⟩
    have:=hs.length_le
    omega
  ·have hq':gW (T.wy.getD n []) c=none:=by
    cases h:gW (T.wy.getD n []) c with
    | none=>rfl
    | some x=>rw [h] at hq;exact absurd rfl hq
   rw [Zn hq,hlk n hn (Z5 _)]
   cases hl:S.lk.getD n none with
   | none =>
    refine ⟨T.wy.set n (pW (T.wy.getD n []) c v),none,by cases k <;> rfl,Z3,fun m d=>?_,fun _ m hm hs=>?_,(fun p hp=>nomatch hp)⟩
    ·rw [fz _ _ _ _ _ _ hnw]
     by_cases hm:m=n/\d=c
     ·rw [Zq hm,Zq ⟨hm.2,by rw [hm.1];exact hn,by rw [hm.1];exact Z5 _,by rw [hm.1];exact hq'⟩]
     ·rw [Zn hm,Zn fun z=>hm ⟨H.root hn hf hl z.2.1 z.2.2.1,z.1⟩]
    ·rw [H.root hn hf hl hm hs];exact hq'
   | some q =>
    obtain ⟨l1,l2,l3,l4⟩:=H.low hf hl (H.top hn)
    have ne:∀ m,W wd m <:+ W wd q->m ≠ n:=fun m hm e=>by
     rw [e] at hm
     have:=hm.length_le
     omega
    obtain ⟨wy',o',e1,e2,e3,e4,e5⟩:=ih ⟨T.lg,T.lk,T.wy.set n (pW (T.wy.getD n []) c v)⟩ q l2 l4 (by omega) (fun m hm hs=>hlk m hm (hs.trans l3)) (by show _<=(T.wy.set _ _).length;rw [Z3];exact hw) (fun m m' hm hm' hs hs' h=>by
     have h':(gW ((T.wy.set n (pW (T.wy.getD n []) c v)).getD m' []) c).isSome:=h
     show (gW ((T.wy.set n (pW (T.wy.getD n []) c v)).getD m []) c).isSome
     rw [fz _ _ _ _ _ _ hnw,Zn (fun z=>ne m' hs' z.1)] at h'
     rw [fz _ _ _ _ _ _ hnw,Zn (fun z=>ne m (hs.trans hs') z.1)]
     exact mono m m' hm hm' hs (hs'.trans l3) h')
    have old:∀ m,W wd m <:+ W wd q->gW ((T.wy.set n (pW (T.wy.getD n []) c v)).getD m []) c=gW (T.wy.getD m []) c:=fun m hm=>by rw [fz _ _ _ _ _ _ hnw,Zn (fun z=>ne m hm z.1)]
    refine ⟨wy',o',e1,by rw [e2];exact Z3,fun m d=>?_,fun ho m hm hs=>?_,fun p hp=>?_⟩
    ·rw [e3 m d]
     show (if d=c/\m < wd.length/\W wd m <:+ W wd q/\gW ((T.wy.set n (pW (T.wy.getD n []) c v)).getD m []) c=none then some v else gW ((T.wy.set n (pW (T.wy.getD n []) c v)).getD m []) d)=_
     by_cases hm:m=n
     ·subst hm
      rw [Zn (fun z=>ne m z.2.2.1 rfl),fz _ _ _ _ _ _ hnw]
      by_cases hd:d=c
      ·rw [Zq ⟨rfl,hd⟩,Zq ⟨hd,hn,Z5 _,hq'⟩]
      ·rw [Zn (fun z=>hd z.2),Zn (fun z=>hd z.1)]
     ·have g1:∀ d,gW ((T.wy.set n (pW (T.wy.getD n []) c v)).getD m []) d=gW (T.wy.getD m []) d:=fun d=>by rw [fz _ _ _ _ _ _ hnw,Zn (fun z=>hm z.1)]
      rw [g1,g1]
      by_cases hc:d=c/\m < wd.length/\W wd m <:+ W wd n/\gW (T.wy.getD m []) c=none
      ·rw [Zq hc,Zq ⟨hc.1,hc.2.1,H.below hn hf hl hc.2.1 hc.2.2.1 hm,hc.2.2.2⟩]
      ·rw [Zn hc,Zn fun z=>hc ⟨z.1,z.2.1,z.2.2.1.trans l3,z.2.2.2⟩]
    ·by_cases hmn:m=n
     ·rw [hmn];exact hq'
     ·have hb:=H.below hn hf hl hm hs hmn
      rw [← old m hb]
      exact e4 ho m hm hb
    ·obtain ⟨p1,p2,p3,p4⟩:=e5 p hp
     have p3':(gW ((T.wy.set n (pW (T.wy.getD n []) c v)).getD p []) c).isSome:=p3
     rw [old p p2] at p3'
     refine ⟨p1,p2.trans l3,p3',fun m hm hs hlt=>?_⟩
     by_cases hmn:m=n
     ·rw [hmn];exact hq'
     ·have hb:=H.below hn hf hl hm hs hmn
      rw [← old m hb]
      exact p4 m hm hb hlt
end
theorem yD {c old v:Nat} (hc:97<=c/\c<=122):∀ (k:Nat) (S S':St) (o:Option Nat),WF S->v < S.lg.length->up2 c old v k S o=some S'->WF S':=by
 intro k
 induction k with
 | zero =>
  intro S S' o H hv e
  cases o with
  | none=>cases (show some S=some S' from e);exact H
  | some n=>cases e
 | succ k ih =>
  intro S S' o H hv e
  cases o with
  | none=>cases (show some S=some S' from e);exact H
  | some n =>
   unfold up2 at e
   split at e
   ·exact ih ⟨S.lg,S.lk,S.wy.set n (pW (S.wy.getD n []) c v)⟩ S' _ (H.way (n:=n) hv hc) hv e
   ·cases e;exact H
theorem AO {c v:Nat} (hc:97<=c/\c<=122):∀ (k:Nat) (S S':St) (o o':Option Nat),WF S->v < S.lg.length->up1 c v k S o=some (S',o')->WF S':=by
 intro k
 induction k with
 | zero =>
  intro S S' o o' H hv e
  cases o with
  | none=>cases (show some (S,none)=some (S',o') from e);exact H
  | some n=>cases e
 | succ k ih =>
  intro S S' o o' H hv e
  cases o with
  | none=>cases (show some (S,none)=some (S',o') from e);exact H
  | some n =>
   unfold up1 at e
   split at e
   ·cases e;exact H
   ·exact ih ⟨S.lg,S.lk,S.wy.set n (pW (S.wy.getD n []) c v)⟩ S' _ o' (H.way (n:=n) hv hc) hv e
theorem gE {α:Type} {x y:List α} {a b:α} (h:x++[a] <:+ y++[b]):a=b/\x <:+ y:=by
 obtain ⟨t,e⟩:=h
 rw [← Yu] at e
 obtain ⟨e1,e2⟩:=List.append_inj' e rfl
 exact ⟨by simpa using e2,⟨t,e1⟩⟩
theorem fT {α:Type} {x y:List α} (a:α) (h:x <:+ y):x++[a] <:+ y++[a]:=by
 obtain ⟨t,e⟩:=h
 exact ⟨t,by rw [← e,Yu]⟩
noncomputable def gu (nd:Wd->Option Nat) (old l h:Nat) (x:Wd):Option Nat:=if nd x=some old/\x.length<=l then some h else nd x
theorem I.split {fr:Option Nat} {S:St} {nd:Wd->Option Nat} {wd:List Wd} (H:I fr S nd wd) {n c old:Nat} (hn:n < wd.length) (hf:some n ≠ fr) (hc:97<=c/\c<=122) (ho:gW (S.wy.getD n []) c=some old) (hof:some old ≠ fr) (hfr:fr ≠ some wd.length) (hne:S.lg.getD old 0 ≠ S.lg.getD n 0+1) (hk:(W wd n).length < 1000) :
  ∃ S',njb S n c=some (S',S.lg.length)/\I fr S' (gu nd old ((W wd n).length+1) wd.length) (wd++[W wd n++[c]]):=by
 have hL:S.lg.length=wd.length:=H.len.symm
 have hw:=H.way hn ho
 have hold:=H.lt hw
 have hsf:=H.sf hw
 have lw:(W wd n++[c]).length=(W wd n).length+1:=by rw [Zt];rfl
 rw [H.lg old hold,H.lg n hn] at hne
 have hlt:(W wd n).length+1 < (W wd old).length:=by
  have:=hsf.length_le
  rw [lw] at this
  omega
 have o0:old ≠ 0:=fun e=>by
  rw [e,H.wz] at hlt
  simp at hlt
 have hLp:0 < wd.length:=by rw [H.len];exact H.wf.pos
 have l1:S.lk.length=wd.length:=by rw [H.wf.lk,hL]
 have l2:S.wy.length=wd.length:=by rw [H.wf.wy,hL]
 have lk':∀ m,((S.lk++[S.lk.getD old none]).set old (some S.lg.length)).getD m none=if m=old then some wd.length else if m=wd.length then S.lk.getD old none else S.lk.getD m none:=fun m=>by
  rw [fO,bR,l1,hL]
  by_cases h:m=old
  ·rw [Zq ⟨h.symm,by rw [Zt,l1];omega⟩,Zq h]
  ·rw [Zn (fun z=>h z.1.symm),Zn h]
 have wy':∀ m,(S.wy++[S.wy.getD old []]).getD m []=if m=wd.length then S.wy.getD old [] else S.wy.getD m []:=fun m=>by rw [bR,l2]
 have wyl:∀ m,m < wd.length->(S.wy++[S.wy.getD old []]).getD m []=S.wy.getD m []:=fun m hm=>by rw [wy',Zn (ZW hm)]
 obtain ⟨w2,e1,e2,e3⟩:=H.climb2 (c:=c) (old:=old) (v:=S.lg.length) 1000 ⟨S.lg++[S.lg.getD n 0+1],(S.lk++[S.lk.getD old none]).set old (some S.lg.length),S.wy++[S.wy.getD old []]⟩ n hn hf hk (fun m hm hs=>by
   have:=hs.length_le
   show ((S.lk++[S.lk.getD old none]).set old (some S.lg.length)).getD m none=_
   rw [lk',Zn (fun e=>by rw [e] at this;omega),Zn (ZW hm)])
  (by show _<=(S.wy++[S.wy.getD old []]).length;rw [Zt,l2];omega)
  (fun m m' hm hm' hs hs' h=>by
   have h':gW ((S.wy++[S.wy.getD old []]).getD m []) c=some old:=h
   show gW ((S.wy++[S.wy.getD old []]).getD m' []) c=some old
   rw [wyl m hm] at h'
   rw [wyl m' hm',H.wy (H.top hm') c]
   rw [H.wy (H.top hm) c] at h'
   exact H.iv h' (fT c hs) ((fT c hs').trans hsf))
 have wn:=H.wf.wnd old
 have W1:=H.wf.more (l:=S.lg.getD n 0+1) (o:=S.lk.getD old none) (w:=S.wy.getD old []) (fun m hm=>H.wf.up old m hm) (fun d m hm=>H.wf.on old d m hm) wn.1 wn.2
 have hlen:(S.lg++[S.lg.getD n 0+1]).length=S.lg.length+1:=by rw [Zt];rfl
 have W2:=W1.link (n:=old) (v:=S.lg.length) (by show S.lg.length < (S.lg++[S.lg.getD n 0+1]).length;omega)
 have wfS:=yD hc 1000 _ _ _ W2 (by show S.lg.length < (S.lg++[S.lg.getD n 0+1]).length;omega) e1
 refine ⟨⟨S.lg++[S.lg.getD n 0+1],(S.lk++[S.lk.getD old none]).set old (some S.lg.length),w2⟩,?_,?_⟩
 ·unfold njb
  rw [ho,Zu,Zn (by rw [H.lg old hold,H.lg n hn];exact hne),e1]
  rfl
 have Wn:∀ m,W (wd++[W wd n++[c]]) m=if m=wd.length then W wd n++[c] else W wd m:=fun m=>bR wd _ _ m
 have WL:W (wd++[W wd n++[c]]) wd.length=W wd n++[c]:=by rw [Wn,Zq rfl]
 have Wl:∀ {m},m < wd.length->W (wd++[W wd n++[c]]) m=W wd m:=fun {m} hm=>by rw [Wn,Zn (ZW hm)]
 have fg:(wd++[W wd n++[c]]).length=wd.length+1:=by rw [Zt];rfl
 have tell:∀ {x m},gu nd old ((W wd n).length+1) wd.length x=some m->(m=wd.length/\nd x=some old/\x.length<=(W wd n).length+1)\/(m < wd.length/\nd x=some m/\¬ (m=old/\x.length<=(W wd n).length+1)):=fun {x m} h=>by
  unfold gu at h
  split at h
  ·rename_i q
   cases h
   exact .inl ⟨rfl,q.1,q.2⟩
  ·rename_i q
   exact .inr ⟨H.lt h,h,fun z=>q ⟨by rw [h,z.1],z.2⟩⟩
 have tL:∀ {x},nd x=some old->x.length<=(W wd n).length+1->gu nd old ((W wd n).length+1) wd.length x=some wd.length:=fun {x} h1 h2=>Zq ⟨h1,h2⟩
 have tO:∀ {x m},nd x=some m->¬ (m=old/\x.length<=(W wd n).length+1)->gu nd old ((W wd n).length+1) wd.length x=some m:=fun {x m} h1 h2=>by
  unfold gu
  rw [Zn (fun z=>h2 ⟨by rw [h1] at z;exact Zo z.1,z.2⟩),h1]
 have some_:∀ {x m},nd x=some m->∃ m',gu nd old ((W wd n).length+1) wd.length x=some m':=fun {x m} h=>by
  unfold gu
  split
  ·exact ⟨_,rfl⟩
  ·exact ⟨m,h⟩
 have un:∀ {x m},gu nd old ((W wd n).length+1) wd.length x=some m->∃ m',nd x=some m':=fun {x m} h=>(tell h).elim (fun z=>⟨_,z.2.1⟩) fun z=>⟨_,z.2.1⟩
 refine ⟨wfS,by rw [fg,hlen,hL],fun m hm=>?_,tO H.z (fun z=>o0 z.1.symm),by rw [Wl hLp];exact H.wz,fun {x m} h=>by rcases tell h with z | z <;> omega,fun {x m} h=>?_,fun {m} hm=>?_,fun {x y m} h hxy hy=>?_,fun {x d m} h=>?_,fun {x y m} h hxy=>?_,?_,fun {m} h0 hm hmf=>?_,fun {x m} h d=>?_⟩
 ·rw [fg] at hm
  show (S.lg++[S.lg.getD n 0+1]).getD m 0=_
  rw [bR,hL]
  by_cases e:m=wd.length
  ·rw [Zq e,e,WL,H.lg n hn,lw]
  ·rw [Zn e,Wl (by omega),H.lg m (by omega)]
 ·rcases tell h with ⟨rfl,z1,z2⟩ | ⟨z0,z1,_⟩
  ·rw [WL]
   exact cQ (H.sf z1) hsf (by rw [lw];exact z2)
  ·rw [Wl z0]
   exact H.sf z1
 ·rw [fg] at hm
  by_cases e:m=wd.length
  ·rw [e,WL]
   exact tL hw (by rw [lw];exact Zk _)
  ·rw [Wl (by omega)]
   exact tO (H.top (by omega)) (fun z=>by have:=z.2;rw [z.1] at this;omega)
 ·rcases tell h with ⟨rfl,z1,z2⟩ | ⟨z0,z1,z2⟩
  ·rw [WL] at hy
   have:=hy.length_le
   rw [lw] at this
   exact tL (H.iv z1 hxy (hy.trans hsf)) this
  ·rw [Wl z0] at hy
   exact tO (H.iv z1 hxy hy) (fun z=>z2 ⟨z.1,ZI hxy.length_le z.2⟩)
 ·obtain ⟨m',h'⟩:=un h
  obtain ⟨q,hq⟩:=H.pre h'
  exact some_ hq
 ·obtain ⟨m',h'⟩:=un h
  obtain ⟨q,hq⟩:=H.suf h' hxy
  exact some_ hq
 ·show ((S.lk++[S.lk.getD old none]).set old (some S.lg.length)).getD 0 none=none
  rw [lk',Zn (Ya o0),Zn (by omega)]
  exact H.lk0
 ·rw [fg] at hm
  show ∃ q,((S.lk++[S.lk.getD old none]).set old (some S.lg.length)).getD m none=some q/\_
  rw [lk',fg]
  obtain ⟨q,q1,⟨q2,q2'⟩,q3,q4,q5⟩:=H.lk (YT o0) hold hof
  obtain ⟨lo,_⟩:=H.low hof q1 hw
  rw [lw] at lo
  by_cases e:m=old
  ·subst e
   rw [Zq rfl]
   refine ⟨wd.length,rfl,⟨by omega,fun z=>hfr z.symm⟩,?_,?_,fun y hy hl=>?_⟩
   ·rw [WL,Wl hold];exact hsf
   ·rw [WL,Wl hold,lw];exact hlt
   ·rw [WL,lw] at hl
    rw [Wl hold] at hy
    exact tO (H.iv hw (cQ hsf hy (by rw [lw];omega)) hy) (fun z=>by have:=z.2;omega)
  ·rw [Zn e]
   by_cases eL:m=wd.length
   ·subst eL
    rw [Zq rfl,q1]
    refine ⟨q,rfl,⟨by omega,q2'⟩,?_,?_,fun y hy hl=>?_⟩
    ·rw [WL,Wl q2];exact cQ q3 hsf (by rw [lw];omega)
    ·rw [WL,Wl q2,lw];exact lo
    ·rw [WL] at hy
     rw [Wl q2] at hl
     have:=hy.length_le
     rw [lw] at this
     exact tL (q5 y (hy.trans hsf) hl) this
   ·rw [Zn eL]
    have hm':m < wd.length:=by omega
    obtain ⟨r,r1,⟨r2,r2'⟩,r3,r4,r5⟩:=H.lk h0 hm' hmf
    rw [r1]
    refine ⟨r,rfl,⟨by omega,r2'⟩,by rw [Wl r2,Wl hm'];exact r3,by rw [Wl r2,Wl hm'];exact r4,fun y hy hl=>?_⟩
    rw [Wl hm'] at hy
    rw [Wl r2] at hl
    exact tO (r5 y hy hl) (fun z=>e z.1)
 ·show gW (w2.getD m []) d=_
  rw [e3 m d]
  show (if d=c/\m < wd.length/\W wd m <:+ W wd n/\gW ((S.wy++[S.wy.getD old []]).getD m []) c=some old then some S.lg.length else gW ((S.wy++[S.wy.getD old []]).getD m []) d)=_
  rcases tell h with ⟨rfl,z1,z2⟩ | ⟨z0,z1,z2⟩
  ·rw [Zn (fun z=>Yn _ z.2.1),wy',Zq rfl,H.wy z1 d]
   unfold gu
   rw [Zn]
   intro z
   have h1:=z.1
   rw [← H.wy z1 d,H.wy (H.top hold) d] at h1
   have:=(H.sf h1).length_le
   rw [Zt,ZO] at this
   omega
  ·rw [wyl m z0,H.wy z1 c,H.wy z1 d]
   unfold gu
   by_cases hq:nd (x++[d])=some old/\(x++[d]).length<=(W wd n).length+1
   ·have hs2:=cQ (H.sf hq.1) hsf (by rw [lw];exact hq.2)
    obtain ⟨rfl,hx⟩:=gE hs2
    obtain ⟨m',m1,m2⟩:=H.up' hn hf hx
    rw [z1] at m1
    cases m1
    rw [Zq ⟨rfl,z0,m2,hq.1⟩,Zq hq,hL]
   ·rw [Zn hq,Zn]
    rintro ⟨rfl,_,a3,a4⟩
    refine hq ⟨a4,?_⟩
    have b1:=(H.sf z1).length_le
    have b2:=a3.length_le
    rw [Zt,ZO]
    omega
end AU
end
section
namespace AU
open Classical in
noncomputable def gb (nd:Wd->Option Nat) (w:Wd) (f:Nat) (x:Wd):Option Nat:=match nd x with
 | some m=>some m
 | none=>if x <:+ w then some f else none
theorem du {nd:Wd->Option Nat} {w:Wd} {f m:Nat} {x:Wd} (h:nd x=some m):gb nd w f x=some m:=by
 unfold gb
 rw [h]
theorem fh {nd:Wd->Option Nat} {w:Wd} {f:Nat} {x:Wd} (h:nd x=none) (hx:x <:+ w):gb nd w f x=some f:=by
 unfold gb
 rw [h]
 exact Zq hx
theorem cO {nd:Wd->Option Nat} {w:Wd} {f m:Nat} {x:Wd} (h:gb nd w f x=some m):nd x=some m\/(m=f/\nd x=none/\x <:+ w):=by
 unfold gb at h
 split at h
 ·rename_i q e
  cases h
  exact .inl e
 ·rename_i e
  split at h
  ·rename_i hx
   cases h
   exact .inr ⟨rfl,e,hx⟩
  ·cases h
theorem uK {α:Type} {y t:List α} {c:α} (h:y <:+ t++[c]) (hy:y ≠ []):∃ y',y=y'++[c]/\y' <:+ t:=by
 rcases List.eq_nil_or_concat y with e | ⟨y',b,e⟩
 ·exact absurd e hy
 ·rw [List.concat_eq_append] at e
  subst e
  obtain ⟨e1,e2⟩:=gE h
  exact ⟨y',by rw [e1],e2⟩
section
variable {S:St} {nd:Wd->Option Nat} {wd:List Wd}
theorem I.fresh (H:I none S nd wd) {h c:Nat} (hh:h < wd.length) (hc:97<=c/\c<=122) (hn:gW (S.wy.getD h []) c=none) (hk:(W wd h).length < 1000) :
  ∃ S2 o',up1 c S.lg.length 1000 ⟨S.lg++[S.lg.getD h 0+1],S.lk++[some 0],S.wy++[[]]⟩ (some h)=some (S2,o')/\I (some wd.length) S2 (gb nd (W wd h++[c]) wd.length) (wd++[W wd h++[c]])/\S2.lk.getD wd.length none=some 0/\S2.lg.length=S.lg.length+1 ∧
   (∀ m,m < wd.length->(gW (S.wy.getD m []) c).isSome->gW (S2.wy.getD m []) c=gW (S.wy.getD m []) c) ∧
   (o'=none->∀ m,m < wd.length->W wd m <:+ W wd h->gW (S.wy.getD m []) c=none) ∧
   ∀ p,o'=some p->p < wd.length/\W wd p <:+ W wd h/\(gW (S.wy.getD p []) c).isSome/\∀ m,m < wd.length->W wd m <:+ W wd h->(W wd p).length < (W wd m).length->gW (S.wy.getD m []) c=none:=by
 have hL:S.lg.length=wd.length:=H.len.symm
 have l1:S.lk.length=wd.length:=by rw [H.wf.lk,hL]
 have l2:S.wy.length=wd.length:=by rw [H.wf.wy,hL]
 have hLp:0 < wd.length:=by rw [H.len];exact H.wf.pos
 have lk':∀ m,(S.lk++[some 0]).getD m none=if m=wd.length then some 0 else S.lk.getD m none:=fun m=>by rw [bR,l1]
 have wy':∀ m,(S.wy++[[]]).getD m []=if m=wd.length then [] else S.wy.getD m []:=fun m=>by rw [bR,l2]
 have wyl:∀ m,m < wd.length->(S.wy++[[]]).getD m []=S.wy.getD m []:=fun m hm=>by rw [wy',Zn (ZW hm)]
 have nt:nd (W wd h++[c])=none:=by rw [← H.wy (H.top hh) c];exact hn
 obtain ⟨w2,o',e1,e2,e3,e4,e5⟩:=H.climb1 (c:=c) (v:=S.lg.length) 1000 ⟨S.lg++[S.lg.getD h 0+1],S.lk++[some 0],S.wy++[[]]⟩ h hh (fun z=>nomatch z) hk (fun m hm _=>by
   show (S.lk++[some 0]).getD m none=_
   rw [lk',Zn (ZW hm)])
  (by show _<=(S.wy++[[]]).length;rw [Zt,l2];omega)
  (fun m m' hm hm' hs hs' q=>by
   have q':(gW ((S.wy++[[]]).getD m' []) c).isSome:=q
   show (gW ((S.wy++[[]]).getD m []) c).isSome
   rw [wyl m' hm',H.wy (H.top hm') c] at q'
   rw [wyl m hm,H.wy (H.top hm) c]
   obtain ⟨r,hr⟩:=Yc.mp q'
   obtain ⟨r',hr'⟩:=H.suf hr (fT c hs)
   rw [hr']
   rfl)
 have hlen:(S.lg++[S.lg.getD h 0+1]).length=S.lg.length+1:=by rw [Zt];rfl
 have W1:=H.wf.more (l:=S.lg.getD h 0+1) (o:=some 0) (w:=[]) (fun m hm=>by cases hm;exact H.wf.pos) (fun d m hm=>by cases hm) Yh (fun p hp=>nomatch hp)
 have wfS:=AO hc 1000 _ _ _ _ W1 (by show S.lg.length < (S.lg++[S.lg.getD h 0+1]).length;omega) e1
 have lw:(W wd h++[c]).length=(W wd h).length+1:=by rw [Zt];rfl
 have Wn:∀ m,W (wd++[W wd h++[c]]) m=if m=wd.length then W wd h++[c] else W wd m:=fun m=>bR wd _ _ m
 have WL:W (wd++[W wd h++[c]]) wd.length=W wd h++[c]:=by rw [Wn,Zq rfl]
 have Wl:∀ {m},m < wd.length->W (wd++[W wd h++[c]]) m=W wd m:=fun {m} hm=>by rw [Wn,Zn (ZW hm)]
 have fg:(wd++[W wd h++[c]]).length=wd.length+1:=by rw [Zt];rfl
 refine ⟨⟨S.lg++[S.lg.getD h 0+1],S.lk++[some 0],w2⟩,o',e1,?_,by show (S.lk++[some 0]).getD wd.length none=_;rw [lk',Zq rfl],hlen,fun m hm hs=>?_,fun ho m hm hs=>?_,fun p hp=>?_⟩
 rotate_left
 ·show gW (w2.getD m []) c=_
  rw [e3 m c]
  show (if c=c/\m < wd.length/\W wd m <:+ W wd h/\gW ((S.wy++[[]]).getD m []) c=none then some S.lg.length else gW ((S.wy++[[]]).getD m []) c)=_
  rw [wyl m hm,Zn (fun z=>by rw [z.2.2.2] at hs;cases hs)]
 ·have:=e4 ho m hm hs
  have this':gW ((S.wy++[[]]).getD m []) c=none:=this
  rw [wyl m hm] at this'
  exact this'
 ·obtain ⟨p1,p2,p3,p4⟩:=e5 p hp
  have p3':(gW ((S.wy++[[]]).getD p []) c).isSome:=p3
  rw [wyl p p1] at p3'
  refine ⟨p1,p2,p3',fun m hm hs hl=>?_⟩
  have:=p4 m hm hs hl
  have this':gW ((S.wy++[[]]).getD m []) c=none:=this
  rw [wyl m hm] at this'
  exact this'
 refine ⟨wfS,by rw [fg];show _=(S.lg++[S.lg.getD h 0+1]).length;rw [hlen,hL],fun m hm=>?_,du H.z,by rw [Wl hLp];exact H.wz,fun {x m} q=>?_,fun {x m} q=>?_,fun {m} hm=>?_,fun {x y m} q hxy hy=>?_,fun {x d m} q=>?_,fun {x y m} q hxy=>?_,?_,fun {m} h0 hm hmf=>?_,fun {x m} q d=>?_⟩
 ·rw [fg] at hm
  show (S.lg++[S.lg.getD h 0+1]).getD m 0=_
  rw [bR,hL]
  by_cases e:m=wd.length
  ·rw [Zq e,e,WL,H.lg h hh,lw]
  ·rw [Zn e,Wl (by omega),H.lg m (by omega)]
 ·rw [fg]
  rcases cO q with z | z
  ·have:=H.lt z;omega
  ·omega
 ·rcases cO q with z | ⟨rfl,_,z⟩
  ·rw [Wl (H.lt z)];exact H.sf z
  ·rw [WL];exact z
 ·rw [fg] at hm
  by_cases e:m=wd.length
  ·rw [e,WL];exact fh nt (Z5 _)
  ·rw [Wl (by omega)];exact du (H.top (by omega))
 ·rcases cO q with z | ⟨rfl,z1,z2⟩
  ·rw [Wl (H.lt z)] at hy
   exact du (H.iv z hxy hy)
  ·rw [WL] at hy
   refine fh ?_ hy
   cases e:nd y with
   | none=>rfl
   | some r =>
    obtain ⟨r',hr⟩:=H.suf e hxy
    rw [z1] at hr
    cases hr
 ·rcases cO q with z | ⟨_,_,z⟩
  ·obtain ⟨r,hr⟩:=H.pre z
   exact ⟨r,du hr⟩
  ·obtain ⟨_,hx⟩:=gE z
   obtain ⟨r,hr⟩:=H.suf (H.top hh) hx
   exact ⟨r,du hr⟩
 ·rcases cO q with z | ⟨_,_,z⟩
  ·obtain ⟨r,hr⟩:=H.suf z hxy
   exact ⟨r,du hr⟩
  ·cases e:nd x with
   | none=>exact ⟨_,fh e (hxy.trans z)⟩
   | some r=>exact ⟨r,du e⟩
 ·show (S.lk++[some 0]).getD 0 none=none
  rw [lk',Zn (by omega)]
  exact H.lk0
 ·rw [fg] at hm
  have hm':m < wd.length:=by
   have:m ≠ wd.length:=fun e=>hmf (by rw [e])
   omega
  show ∃ q,(S.lk++[some 0]).getD m none=some q/\_
  rw [lk',Zn (ZW hm'),fg]
  obtain ⟨r,r1,⟨r2,_⟩,r3,r4,r5⟩:=H.lk h0 hm' (fun z=>nomatch z)
  refine ⟨r,r1,⟨by omega,fun z=>?_⟩,by rw [Wl r2,Wl hm'];exact r3,by rw [Wl r2,Wl hm'];exact r4,fun y hy hl=>?_⟩
  ·have:=Zo z
   omega
  ·rw [Wl hm'] at hy
   rw [Wl r2] at hl
   exact du (r5 y hy hl)
 ·show gW (w2.getD m []) d=_
  rw [e3 m d]
  show (if d=c/\m < wd.length/\W wd m <:+ W wd h/\gW ((S.wy++[[]]).getD m []) c=none then some S.lg.length else gW ((S.wy++[[]]).getD m []) d)=_
  rcases cO q with z | ⟨rfl,z1,z2⟩
  ·have hm:=H.lt z
   rw [wyl m hm,H.wy z c,H.wy z d]
   cases e:nd (x++[d]) with
   | some r =>
    rw [du e,Zn]
    rintro ⟨rfl,_,_,a⟩
    rw [e] at a
    cases a
   | none =>
    by_cases hs:x++[d] <:+ W wd h++[c]
    ·obtain ⟨rfl,hx⟩:=gE hs
     obtain ⟨m',m1,m2⟩:=H.up' hh (fun z=>nomatch z) hx
     rw [z] at m1
     cases m1
     rw [fh e hs,Zq ⟨rfl,hm,m2,e⟩,hL]
    ·have:gb nd (W wd h++[c]) wd.length (x++[d])=none:=by
      unfold gb
      rw [e]
      exact Zn hs
     rw [this,Zn]
     rintro ⟨rfl,_,a,_⟩
     exact hs (fT d ((H.sf z).trans a))
  ·rw [Zn (fun a=>Yn _ a.2.1),wy',Zq rfl]
   have e:nd (x++[d])=none:=by
    cases e:nd (x++[d]) with
    | none=>rfl
    | some r =>
     obtain ⟨r',hr⟩:=H.pre e
     rw [z1] at hr
     cases hr
   have:gb nd (W wd h++[c]) wd.length (x++[d])=none:=by
    unfold gb
    rw [e]
    refine Zn fun hs=>?_
    obtain ⟨_,hx⟩:=gE hs
    obtain ⟨r,hr⟩:=H.suf (H.top hh) hx
    rw [z1] at hr
    cases hr
   rw [this]
   rfl
theorem I.fix {f m:Nat} (H:I (some f) S nd wd) (hf:f < wd.length) (hm:m < wd.length) (hs:W wd m <:+ W wd f) (hl:(W wd m).length < (W wd f).length) (hy:∀ y,y <:+ W wd f->(W wd m).length < y.length->nd y=some f):I none ⟨S.lg,S.lk.set f (some m),S.wy⟩ nd wd:=by
 have f0:f ≠ 0:=fun e=>by
  rw [e,H.wz] at hl
  simp at hl
 have lf:f < S.lk.length:=by rw [H.wf.lk,← H.len];exact hf
 refine ⟨H.wf.link (by rw [← H.len];exact hm),H.len,H.lg,H.z,H.wz,H.lt,H.sf,H.top,H.iv,H.pre,H.suf,?_,fun {n} h0 hn _=>?_,H.wy⟩
 ·show (S.lk.set f (some m)).getD 0 none=none
  rw [fO,Zn (fun z=>f0 z.1)]
  exact H.lk0
 ·show ∃ q,(S.lk.set f (some m)).getD n none=some q/\_
  rw [fO]
  by_cases e:f=n
  ·subst e
   rw [Zq ⟨rfl,lf⟩]
   exact ⟨m,rfl,⟨hm,fun z=>nomatch z⟩,hs,hl,hy⟩
  ·rw [Zn (fun z=>e z.1)]
   obtain ⟨r,r1,⟨r2,_⟩,r3⟩:=H.lk h0 hn (fun z=>e (Zo z).symm)
   exact ⟨r,r1,⟨r2,fun z=>nomatch z⟩,r3⟩
end
end AU
end
section
namespace AU
structure Fine (nd nd':Wd->Option Nat) (w:Wd):Prop where
 eq:∀ {x y m n},nd' x=some m->nd' y=some n->(m=n ↔ nd x=nd y/\(x <:+ w ↔ y <:+ w))
section
variable {fr:Option Nat} {S:St} {nd:Wd->Option Nat} {wd:List Wd}
theorem I.just (H:I fr S nd wd) {n c old:Nat} (hn:n < wd.length) (hf:some n ≠ fr) (hc:97<=c/\c<=122) (ho:gW (S.wy.getD n []) c=some old) (hof:some old ≠ fr) (hfr:fr ≠ some wd.length) (hk:(W wd n).length < 1000) :
  ∃ S' r nd' wd',njb S n c=some (S',r)/\I fr S' nd' wd'/\r < wd'.length/\some r ≠ fr/\W wd' r=W wd n++[c]/\(∀ m,m < wd.length->W wd' m=W wd m)/\wd.length<=wd'.length/\wd'.length<=wd.length+1 ∧
   (∀ x,(∃ m,nd' x=some m) ↔ ∃ m,nd x=some m)/\Fine nd nd' (W wd n++[c])/\∀ x f,f ≠ old->nd x=some f->nd' x=some f:=by
 have hw:=H.way hn ho
 have hold:=H.lt hw
 have hsf:=H.sf hw
 have lw:(W wd n++[c]).length=(W wd n).length+1:=by rw [Zt];rfl
 by_cases hne:S.lg.getD old 0=S.lg.getD n 0+1
 ·have hWo:W wd old=W wd n++[c]:=by
   have:=hne
   rw [H.lg old hold,H.lg n hn] at this
   exact (hsf.eq_of_length (by rw [lw,this])).symm
  refine ⟨S,old,nd,wd,?_,H,hold,hof,hWo,fun m _=>rfl,Zk _,Nat.le_succ _,fun x=>Iff.rfl,⟨fun {x y m k} h1 h2=>?_⟩,fun x f _ h=>h⟩
  ·unfold njb
   rw [ho,Zu,Zq hne]
  ·constructor
   ·rintro rfl
    exact ⟨by rw [h1,h2],fun h=>by rw [← hWo] at h ⊢;exact H.all hold hof h1 h2 h,fun h=>by rw [← hWo] at h ⊢;exact H.all hold hof h2 h1 h⟩
   ·rintro ⟨h,_⟩
    rw [h1,h2] at h
    exact Zo h
 ·obtain ⟨S',e1,H'⟩:=H.split hn hf hc ho hof hfr hne hk
  have WL:W (wd++[W wd n++[c]]) wd.length=W wd n++[c]:=(bR wd _ _ _).trans (Zq rfl)
  have Wl:∀ m,m < wd.length->W (wd++[W wd n++[c]]) m=W wd m:=fun m hm=>(bR wd _ _ m).trans (Zn (ZW hm))
  have fg:(wd++[W wd n++[c]]).length=wd.length+1:=by rw [Zt];rfl
  have inv:∀ {x m},gu nd old ((W wd n).length+1) wd.length x=some m->(m=wd.length/\nd x=some old/\x.length<=(W wd n).length+1)\/nd x=some m:=fun {x m} h=>by
   unfold gu at h
   split at h
   ·rename_i q;cases h;exact .inl ⟨rfl,q.1,q.2⟩
   ·exact .inr h
  have sfx:∀ {x},nd x=some old->(x.length<=(W wd n).length+1 ↔ x <:+ W wd n++[c]):=fun {x} h=>⟨fun hl=>cQ (H.sf h) hsf (by rw [lw];exact hl),fun hs=>by have:=hs.length_le;rw [lw] at this;exact this⟩
  refine ⟨S',S.lg.length,_,_,e1,H',by rw [fg,← H.len];exact Yp _,by rw [← H.len];exact fun z=>hfr z.symm,by rw [← H.len];exact WL,Wl,by omega,by omega,fun x=>⟨fun ⟨m,h⟩=>(inv h).elim (fun z=>⟨_,z.2.1⟩) fun z=>⟨_,z⟩,fun ⟨m,h⟩=>?_⟩,⟨fun {x y m k} h1 h2=>?_⟩,fun x f hfo h=>?_⟩
  ·unfold gu
   split
   ·exact ⟨_,rfl⟩
   ·exact ⟨m,h⟩
  ·constructor
   ·rintro rfl
    have hq:wd.length < (wd++[W wd n++[c]]).length:=by omega
    have a1:=fun h=>H'.all hq (fun z=>hfr z.symm) h1 h2 h
    have a2:=fun h=>H'.all hq (fun z=>hfr z.symm) h2 h1 h
    rw [WL] at a1 a2
    refine ⟨?_,a1,a2⟩
    rcases inv h1 with ⟨z1,z2,_⟩ | z
    ·rcases inv h2 with ⟨_,y2,_⟩ | y
     ·rw [z2,y2]
     ·have:=H.lt y;omega
    ·rcases inv h2 with ⟨y1,_,_⟩ | y
     ·have:=H.lt z;omega
     ·rw [z,y]
   ·rintro ⟨h,hs⟩
    have:gu nd old ((W wd n).length+1) wd.length x=gu nd old ((W wd n).length+1) wd.length y:=by
     unfold gu
     rw [h]
     by_cases q:nd y=some old
     ·have e1:=sfx (show nd x=some old by rw [h,q])
      have e2:=sfx q
      by_cases l:y.length<=(W wd n).length+1
      ·rw [Zq ⟨q,e1.mpr (hs.mpr (e2.mp l))⟩,Zq ⟨q,l⟩]
      ·rw [Zn (fun z=>l (e2.mpr (hs.mp (e1.mp z.2)))),Zn (fun z=>l z.2)]
     ·rw [Zn (fun z=>q z.1),Zn (fun z=>q z.1)]
    rw [h1,h2] at this
    exact Zo this
  ·unfold gu
   rw [Zn (fun z=>hfo (by rw [h] at z;exact Zo z.1))]
   exact h
end
section
variable {S:St} {nd:Wd->Option Nat} {wd:List Wd}
theorem I.step (H:I none S nd wd) {h c:Nat} (hh:h < wd.length) (hc:97<=c/\c<=122) (hk:(W wd h).length+1 < 1000) :
  ∃ S' r nd' wd',hb S h c=some (S',r)/\I none S' nd' wd'/\r < wd'.length/\W wd' r=W wd h++[c]/\(∀ m,m < wd.length->W wd' m=W wd m)/\wd.length<=wd'.length/\wd'.length<=wd.length+2 ∧
   (∀ x,(∃ m,nd' x=some m) ↔ (∃ m,nd x=some m)\/x <:+ W wd h++[c])/\Fine nd nd' (W wd h++[c]):=by
 cases hg:gW (S.wy.getD h []) c with
 | some old =>
  obtain ⟨S',r,nd',wd',e,H',h1,_,h2,h3,h4,h5,h6,h7,_⟩:=H.just hh (fun z=>nomatch z) hc hg (fun z=>nomatch z) (fun z=>nomatch z) (by omega)
  refine ⟨S',r,nd',wd',?_,H',h1,h2,h3,h4,by omega,fun x=>(h6 x).trans ⟨.inl,fun z=>z.elim id fun z=>H.suf (H.way hh hg) z⟩,h7⟩
  unfold hb
  rw [hg]
  exact e
 | none =>
  have hL:S.lg.length=wd.length:=H.len.symm
  obtain ⟨S2,o',e1,H2,k0,k1,k2,k3,k4⟩:=H.fresh hh hc hg (by omega)
  have WL:W (wd++[W wd h++[c]]) wd.length=W wd h++[c]:=(bR wd _ _ _).trans (Zq rfl)
  have Wl:∀ m,m < wd.length->W (wd++[W wd h++[c]]) m=W wd m:=fun m hm=>(bR wd _ _ m).trans (Zn (ZW hm))
  have fg:(wd++[W wd h++[c]]).length=wd.length+1:=by rw [Zt];rfl
  have lw:(W wd h++[c]).length=(W wd h).length+1:=by rw [Zt];rfl
  have nt:nd (W wd h++[c])=none:=by rw [← H.wy (H.top hh) c];exact hg
  have ex:∀ x,(∃ m,gb nd (W wd h++[c]) wd.length x=some m) ↔ (∃ m,nd x=some m)\/x <:+ W wd h++[c]:=fun x=>⟨fun ⟨m,q⟩=>(cO q).elim (fun z=>.inl ⟨_,z⟩) fun z=>.inr z.2.2,fun q=>by
   cases e:nd x with
   | some m=>exact ⟨m,du e⟩
   | none=>exact q.elim (fun ⟨m,z⟩=>by rw [e] at z;cases z) fun z=>⟨_,fh e z⟩⟩
  have same:∀ {x y m n},gb nd (W wd h++[c]) wd.length x=some m->gb nd (W wd h++[c]) wd.length y=some n->(m=n ↔ nd x=nd y):=fun {x y m n} q1 q2=>by
   rcases cO q1 with z | ⟨z1,z2,_⟩
   ·rcases cO q2 with y' | ⟨y1,y2,_⟩
    ·rw [z,y'];exact ⟨fun e=>by rw [e],fun e=>Zo e⟩
    ·have:=H.lt z
     refine ⟨fun e=>by omega,fun e=>?_⟩
     rw [z,y2] at e;cases e
   ·rcases cO q2 with y' | ⟨y1,y2,_⟩
    ·have:=H.lt y'
     refine ⟨fun e=>by omega,fun e=>?_⟩
     rw [z2,y'] at e;cases e
    ·exact ⟨fun _=>by rw [z2,y2],fun _=>by rw [z1,y1]⟩
  have tails:∀ {y},y <:+ W wd h++[c]->y ≠ []->∀ {q},nd y=some q->∃ y' m,y=y'++[c]/\y' <:+ W wd h/\nd y'=some m/\m < wd.length/\W wd m <:+ W wd h/\(gW (S.wy.getD m []) c).isSome:=fun {y} hy hne {q} hq=>by
   obtain ⟨y',rfl,hy'⟩:=uK hy hne
   obtain ⟨m,m1,m2⟩:=H.up' hh (fun z=>nomatch z) hy'
   exact ⟨y',m,rfl,hy',m1,H.lt m1,m2,by rw [H.wy m1 c,hq];rfl⟩
  unfold hb
  rw [hg,Zn (by simp),e1]
  cases o' with
  | none =>
   have kn:=k3 rfl
   have none_:∀ {y},y <:+ W wd h++[c]->y ≠ []->nd y=none:=fun {y} hy hne=>by
    cases e:nd y with
    | none=>rfl
    | some q =>
     obtain ⟨y',m,_,_,_,m3,m4,m5⟩:=tails hy hne e
     rw [kn m m3 m4] at m5
     cases m5
   have H3:=H2.fix (f:=wd.length) (m:=0) (by omega) (by omega) (by rw [H2.wz];exact Y7) (by rw [H2.wz,WL,lw];exact Nat.succ_pos _) (fun y hy hl=>by
    rw [WL] at hy
    rw [H2.wz] at hl
    exact fh (none_ hy (fun e=>by rw [e] at hl;cases hl)) hy)
   have eS:(⟨S2.lg,S2.lk.set wd.length (some 0),S2.wy⟩:St)=S2:=by
    have hl:wd.length < S2.lk.length:=by rw [H2.wf.lk,← H2.len,fg];exact Yp _
    have:S2.lk.set wd.length (some 0)=S2.lk:=by
     rw [Zs,Zm hl,YW] at k0
     rw [← k0]
     exact Xf hl
    rw [this]
   rw [eS] at H3
   refine ⟨S2,S.lg.length,_,_,rfl,H3,by rw [fg,hL];exact Yp _,by rw [hL];exact WL,Wl,by omega,by omega,ex,⟨fun {x y m n} q1 q2=>?_⟩⟩
   rw [same q1 q2]
   refine ⟨fun e=>⟨e,?_⟩,fun e=>e.1⟩
   have key:∀ {x y m n},gb nd (W wd h++[c]) wd.length x=some m->gb nd (W wd h++[c]) wd.length y=some n->nd x=nd y->x <:+ W wd h++[c]->y <:+ W wd h++[c]:=fun {x y m n} q1 q2 e hx=>by
    rcases cO q2 with z | z
    ·rw [z] at e
     by_cases hx0:x=[]
     ·subst hx0
      rw [H.z] at e
      cases e
      rw [H.zero z]
      exact Y7
     ·rw [none_ hx hx0] at e
      cases e
    ·exact z.2.2
   exact ⟨key q1 q2 e,key q2 q1 e.symm⟩
  | some p =>
   obtain ⟨p1,p2,p3,p4⟩:=k4 p rfl
   obtain ⟨old,ho⟩:=Yc.mp p3
   have ho2:gW (S2.wy.getD p []) c=some old:=by rw [k2 p p1 p3];exact ho
   have ndw:=H.way p1 ho
   have hold:=H.lt ndw
   have ph:(W wd p).length < (W wd h).length:=by
    rcases Nat.lt_or_eq_of_le p2.length_le with l | l
    ·exact l
    ·have:=H.inj p1 hh (p2.eq_of_length l)
     rw [this,hg] at ho
     cases ho
   obtain ⟨S3,r,nd',wd',f1,H3,f2,f2',f3,f4,f5,f6,f7,f8,f9⟩:=H2.just (n:=p) (c:=c) (old:=old) (by omega) (fun z=>by have:=Zo z;omega) hc ho2 (fun z=>by have:=Zo z;omega) (fun z=>by have:=Zo z;omega) (by rw [Wl p p1];omega)
   rw [Wl p p1] at f3 f8
   have lwp:(W wd p++[c]).length=(W wd p).length+1:=by rw [Zt];rfl
   have WL':W wd' wd.length=W wd h++[c]:=by rw [f4 _ (by omega),WL]
   have none_:∀ {y},y <:+ W wd h++[c]->(W wd p).length+1 < y.length->nd y=none:=fun {y} hy hl=>by
    cases e:nd y with
    | none=>rfl
    | some q =>
     obtain ⟨y',m,rfl,m1,m2,m3,m4,m5⟩:=tails hy (fun e=>by rw [e] at hl;cases hl) e
     have l1:=(H.sf m2).length_le
     rw [Zt,ZO] at hl
     rw [p4 m m3 m4 (by omega)] at m5
     cases m5
   have H4:=H3.fix (f:=wd.length) (m:=r) (by omega) f2 (by rw [f3,WL'];exact fT c p2) (by rw [f3,WL',lwp,lw];omega) (fun y hy hl=>by
    rw [WL'] at hy
    rw [f3,lwp] at hl
    exact f9 y wd.length (by omega) (fh (none_ hy hl) hy))
   refine ⟨⟨S3.lg,S3.lk.set S.lg.length (some r),S3.wy⟩,S.lg.length,nd',wd',?_,by rw [hL];exact H4,by rw [hL];omega,by rw [hL];exact WL',fun m hm=>by rw [f4 m (by omega),Wl m hm],by omega,by omega,fun x=>(f7 x).trans (ex x),⟨fun {x y m n} q1 q2=>?_⟩⟩
   ·show (njb S2 p c).map _=_
    rw [f1]
    rfl
   ·rw [f8.eq q1 q2]
    obtain ⟨m1,g1⟩:=(f7 x).mp ⟨m,q1⟩
    obtain ⟨n1,g2⟩:=(f7 y).mp ⟨n,q2⟩
    have e1:gb nd (W wd h++[c]) wd.length x=gb nd (W wd h++[c]) wd.length y ↔ nd x=nd y:=by
     rw [g1,g2]
     exact ⟨fun e=>(same g1 g2).mp (Zo e),fun e=>by rw [(same g1 g2).mpr e]⟩
    rw [e1]
    have sw:W wd p++[c] <:+ W wd h++[c]:=fT c p2
    have kn:∀ {z q},nd z=some q->(z <:+ W wd h++[c] ↔ z <:+ W wd p++[c]):=fun {z q} hz=>⟨fun a=>cQ a sw (by
     rw [lwp]
     refine ZP fun b=>?_
     rw [none_ a b] at hz
     cases hz),fun a=>a.trans sw⟩
    have un:∀ {z q},nd z=none->gb nd (W wd h++[c]) wd.length z=some q->z <:+ W wd h++[c]/\¬ z <:+ W wd p++[c]:=fun {z q} hz a=>by
     rcases cO a with b | b
     ·rw [hz] at b;cases b
     ·refine ⟨b.2.2,fun a=>?_⟩
      obtain ⟨q',hq⟩:=H.suf ndw a
      rw [hz] at hq
      cases hq
    refine ⟨fun ⟨a,b⟩=>⟨a,?_⟩,fun ⟨a,b⟩=>⟨a,?_⟩⟩
    ·cases ez:nd x with
     | some q=>rw [kn ez,kn (show nd y=some q by rw [← a,ez])];exact b
     | none =>
      have u1:=un ez g1
      have u2:=un (show nd y=none by rw [← a,ez]) g2
      exact ⟨fun _=>u2.1,fun _=>u1.1⟩
    ·cases ez:nd x with
     | some q=>rw [← kn ez,← kn (show nd y=some q by rw [← a,ez])];exact b
     | none =>
      have u1:=un ez g1
      have u2:=un (show nd y=none by rw [← a,ez]) g2
      exact ⟨fun z=>absurd z u1.2,fun z=>absurd z u2.2⟩
end
structure K (P:Wd->Prop) (S:St) (nd:Wd->Option Nat) (wd:List Wd):Prop where
 i:I none S nd wd
 nil:P []
 some:∀ x,(∃ m,nd x=some m) ↔ ∃ p,P p/\x <:+ p
 eq:∀ {x y m n},nd x=.some m->nd y=.some n->(m=n ↔ ∀ p,P p->(x <:+ p ↔ y <:+ p))
theorem K.congr {P Q:Wd->Prop} {S:St} {nd:Wd->Option Nat} {wd:List Wd} (H:K P S nd wd) (h:∀ p,P p ↔ Q p):K Q S nd wd:=by
 have:P=Q:=funext fun p=>propext (h p)
 rw [← this]
 exact H
noncomputable def nd0 (x:Wd):Option Nat:=if x=[] then some 0 else none
theorem eV {x:Wd} {n:Nat} (h:nd0 x=some n):x=[]/\n=0:=by
 unfold nd0 at h
 split at h
 ·exact ⟨by assumption,(Zo h).symm⟩
 ·cases h
theorem K0:K (fun p=>p=[]) S0 nd0 [[]]:=by
 refine ⟨⟨ye,rfl,fun n hn=>?_,rfl,rfl,fun {x n} h=>?_,fun {x n} h=>?_,fun {n} hn=>?_,fun {x y n} h h1 h2=>?_,fun {x c n} h=>?_,fun {x y n} h h1=>?_,rfl,fun {n} h1 h2=>?_,fun {x n} h c=>?_⟩,rfl,fun x=>?_,fun {x y m n} h1 h2=>?_⟩
 ·have:n=0:=Nat.lt_one_iff.mp hn
  subst this;rfl
 ·rw [(eV h).2];exact Nat.one_pos
 ·rw [(eV h).1];exact Y7
 ·have:n=0:=Nat.lt_one_iff.mp hn
  subst this;rfl
 ·have e:=(eV h).2
  subst e
  have:y=[]:=YQ.mp h2
  subst this;rfl
 ·have:=(eV h).1
  exact absurd this (by simp)
 ·have e:=(eV h).1
  subst e
  have:x=[]:=YQ.mp h1
  subst this
  exact ⟨0,rfl⟩
 ·have:n < 1:=h2
  omega
 ·have e:=eV h
  obtain ⟨rfl,rfl⟩:=e
  rfl
 ·constructor
  ·rintro ⟨m,h⟩
   exact ⟨[],rfl,by rw [(eV h).1];exact Y7⟩
  ·rintro ⟨p,rfl,h⟩
   have:x=[]:=YQ.mp h
   subst this
   exact ⟨0,rfl⟩
 ·obtain ⟨rfl,rfl⟩:=eV h1
  obtain ⟨rfl,rfl⟩:=eV h2
  exact ⟨fun _ _ _=>Iff.rfl,fun _=>rfl⟩
section
variable {P:Wd->Prop} {S:St} {nd:Wd->Option Nat} {wd:List Wd}
theorem K.step (H:K P S nd wd) {h c:Nat} (hh:h < wd.length) (hc:97<=c/\c<=122) (hk:(W wd h).length+1 < 1000) :
  ∃ S' r nd' wd',hb S h c=.some (S',r)/\K (fun p=>P p\/p=W wd h++[c]) S' nd' wd'/\r < wd'.length/\W wd' r=W wd h++[c]/\(∀ m,m < wd.length->W wd' m=W wd m)/\wd.length<=wd'.length/\wd'.length<=wd.length+2:=by
 obtain ⟨S',r,nd',wd',e,H',h1,h2,h3,h4,h5,h6,h7⟩:=H.i.step hh hc hk
 refine ⟨S',r,nd',wd',e,⟨H',.inl H.nil,fun x=>?_,fun {x y m n} g1 g2=>?_⟩,h1,h2,h3,h4,h5⟩
 ·rw [h6,H.some]
  constructor
  ·rintro (⟨p,a,b⟩ | a)
   ·exact ⟨p,.inl a,b⟩
   ·exact ⟨_,.inr rfl,a⟩
  ·rintro ⟨p,a | rfl,b⟩
   ·exact .inl ⟨p,a,b⟩
   ·exact .inr b
 ·rw [h7.eq g1 g2]
  have un:∀ {z q},nd' z=.some q->nd z=none->z <:+ W wd h++[c]/\∀ p,P p->¬ z <:+ p:=fun {z q} a b=>⟨((h6 z).mp ⟨q,a⟩).elim (fun ⟨m,x⟩=>by rw [b] at x;cases x) id,fun p hp hz=>by
   obtain ⟨m,x⟩:=(H.some z).mpr ⟨p,hp,hz⟩
   rw [b] at x
   cases x⟩
  have old:nd x=nd y ↔ ∀ p,P p->(x <:+ p ↔ y <:+ p):=by
   cases ex:nd x with
   | some a =>
    cases ey:nd y with
    | some b=>exact ⟨fun e=>(H.eq ex ey).mp (Zo e),fun e=>by rw [(H.eq ex ey).mpr e]⟩
    | none =>
     refine ⟨fun e=>(nomatch e),fun e=>?_⟩
     obtain ⟨p,hp,hx⟩:=(H.some x).mp ⟨a,ex⟩
     exact absurd ((e p hp).mp hx) ((un g2 ey).2 p hp)
   | none =>
    cases ey:nd y with
    | some b =>
     refine ⟨fun e=>(nomatch e),fun e=>?_⟩
     obtain ⟨p,hp,hx⟩:=(H.some y).mp ⟨b,ey⟩
     exact absurd ((e p hp).mpr hx) ((un g1 ex).2 p hp)
    | none=>exact ⟨fun _ p hp=>⟨fun z=>absurd z ((un g1 ex).2 p hp),fun z=>absurd z ((un g2 ey).2 p hp)⟩,fun _=>rfl⟩
  rw [old]
  constructor
  ·rintro ⟨a,b⟩ p (hp | rfl)
   ·exact a p hp
   ·exact b
  ·intro a
   exact ⟨fun p hp=>a p (.inl hp),a _ (.inr rfl)⟩
end
theorem K.grow:∀ (w:X7) {P:Wd->Prop} {S:St} {nd:Wd->Option Nat} {wd:List Wd} (H:K P S nd wd) {h:Nat},h < wd.length->P (W wd h)->(∀ c∈w,97<=c/\c<=122)->(W wd h).length+w.length < 1000 →
  ∃ S' r nd' wd',hg S h w=.some (S',r)/\K (fun p=>P p\/∃ v,v <+: w/\p=W wd h++v) S' nd' wd'/\r < wd'.length/\W wd' r=W wd h++w/\(∀ m,m < wd.length->W wd' m=W wd m)/\wd.length<=wd'.length/\wd'.length<=wd.length+2 * w.length:=by
 intro w
 induction w with
 | nil =>
  intro P S nd wd H h hh hp hw hk
  refine ⟨S,h,nd,wd,rfl,H.congr fun p=>⟨.inl,?_⟩,hh,(ZK _).symm,fun _ _=>rfl,Zk _,Zk _⟩
  rintro (a | ⟨v,a,rfl⟩)
  ·exact a
  ·rw [List.prefix_nil.mp a,ZK]
   exact hp
 | cons c w ih =>
  intro P S nd wd H h hh hp hw hk
  rw [ZZ] at hk
  obtain ⟨S1,r1,nd1,wd1,e1,H1,a1,a2,a3,a4,a5⟩:=H.step hh (hw c Zx) (by omega)
  obtain ⟨S2,r2,nd2,wd2,e2,H2,b1,b2,b3,b4,b5⟩:=ih H1 a1 (.inr a2) (fun d hd=>hw d (Zv _ hd)) (by rw [a2,Zt,ZO];omega)
  refine ⟨S2,r2,nd2,wd2,?_,H2.congr fun p=>?_,b1,?_,fun m hm=>by rw [b3 m (by omega),a3 m hm],by omega,by rw [ZZ];omega⟩
  ·show (hb S h c).bind _=_
   rw [e1]
   exact e2
  ·rw [a2]
   constructor
   ·rintro ((a | rfl) | ⟨v,a,rfl⟩)
    ·exact .inl a
    ·exact .inr ⟨[c],Xe.mpr ⟨rfl,List.nil_prefix⟩,rfl⟩
    ·exact .inr ⟨c :: v,Xe.mpr ⟨rfl,a⟩,by rw [Yu];rfl⟩
   ·rintro (a | ⟨v,a,rfl⟩)
    ·exact .inl (.inl a)
    ·cases v with
     | nil=>rw [ZK];exact .inl (.inl hp)
     | cons d v =>
      obtain ⟨rfl,a'⟩:=Xe.mp a
      exact .inr ⟨v,a',by rw [Yu];rfl⟩
  ·rw [b2,a2,Yu];rfl
noncomputable def mB (S:St):List Wd->Option St
 | []=>some S
 | t :: b=>(hg S 0 t).bind fun z=>mB z.1 b
theorem K.book:∀ (b:List Wd) {P:Wd->Prop} {S:St} {nd:Wd->Option Nat} {wd:List Wd} (H:K P S nd wd),(∀ t∈b,∀ c∈t,97<=c/\c<=122)->(∀ t∈b,t.length < 1000) →
  ∃ S' nd' wd',mB S b=.some S'/\K (fun p=>P p\/∃ t∈b,p <+: t) S' nd' wd'/\wd.length<=wd'.length/\wd'.length<=wd.length+2 * (b.map List.length).sum:=by
 intro b
 induction b with
 | nil =>
  intro P S nd wd H _ _
  refine ⟨S,nd,wd,rfl,H.congr fun p=>⟨.inl,?_⟩,Zk _,YI _ _⟩
  rintro (a | ⟨t,ht,_⟩)
  ·exact a
  ·cases ht
 | cons t b ih =>
  intro P S nd wd H ha hl
  have hz:0 < wd.length:=H.i.lt H.i.z
  obtain ⟨S1,r1,nd1,wd1,e1,H1,a1,a2,a3,a4,a5⟩:=H.grow t hz (by rw [H.i.wz];exact H.nil) (ha t Zx) (by rw [H.i.wz];have:=hl t Zx;simpa using this)
  obtain ⟨S2,nd2,wd2,e2,H2,b1,b2⟩:=ih H1 (fun t ht=>ha t (Zv _ ht)) (fun t ht=>hl t (Zv _ ht))
  refine ⟨S2,nd2,wd2,?_,H2.congr fun p=>?_,by omega,by rw [Zp,Yb];omega⟩
  ·show (hg S 0 t).bind _=_
   rw [e1]
   exact e2
  ·rw [H.i.wz]
   constructor
   ·rintro ((a | ⟨v,a,rfl⟩) | ⟨u,hu,a⟩)
    ·exact .inl a
    ·exact .inr ⟨t,Zx,a⟩
    ·exact .inr ⟨u,Zv _ hu,a⟩
   ·rintro (a | ⟨u,hu,a⟩)
    ·exact .inl (.inl a)
    ·rcases Zi.mp hu with rfl | hu
     ·exact .inl (.inr ⟨p,a,rfl⟩)
     ·exact .inr ⟨u,hu,a⟩
noncomputable def Hd (b:List Wd) (p:Wd):Prop:=p=[]\/∃ t∈b,p <+: t
theorem K.of (b:List Wd) (ha:∀ t∈b,∀ c∈t,97<=c/\c<=122) (hl:∀ t∈b,t.length < 1000):∃ S nd wd,mB S0 b=.some S/\K (Hd b) S nd wd/\wd.length<=1+2 * (b.map List.length).sum:=by
 obtain ⟨S,nd,wd,e,H,_,l⟩:=K0.book b ha hl
 exact ⟨S,nd,wd,e,H,l⟩
noncomputable def sk (w:List (Nat×Nat)):X7:=(List.range' 97 26).filter fun c=>(gW w c).isSome
noncomputable def visit (w:List (Nat×Nat)):X7->X7->X7
 | [],met=>met
 | c :: r,met=>visit w r (if (gW w c).getD 0∈met then met else met++[(gW w c).getD 0])
noncomputable def bfs (S:St):Nat->X7->Nat->Option (X7)
 | k,met,d=>if d < met.length then (match k with
  | 0=>none
  | k+1=>bfs S k (visit (S.wy.getD (met.getD d 0) []) (sk (S.wy.getD (met.getD d 0) [])) met) (d+1)) else some met
noncomputable def steps (S:St) (met:X7) (n:Nat):List (Nat×Nat):=(sk (S.wy.getD n [])).map fun c=>(c,met.idxOf ((gW (S.wy.getD n []) c).getD 0))
noncomputable abbrev Row:=Nat×Nat×Option Nat×List (Nat×Nat)
noncomputable def row (S:St) (met:X7) (n:Nat):Row:=match S.lk.getD n none with
 | none=>(0,0,none,steps S met n)
 | some l=>(S.lg.getD l 0+1,S.lg.getD n 0,some (met.idxOf l),steps S met n)
noncomputable def tab (S:St) (met:X7):List Row:=met.map (row S met)
structure Iso (S T:St) (f:Nat->Nat):Prop where
 lt:∀ {n},n < S.lg.length->f n < T.lg.length
 z:f 0=0
 inj:∀ {m n},m < S.lg.length->n < S.lg.length->f m=f n->m=n
 lg:∀ {n},n < S.lg.length->T.lg.getD (f n) 0=S.lg.getD n 0
 lk:∀ {n},n < S.lg.length->T.lk.getD (f n) none=(S.lk.getD n none).map f
 wy:∀ {n},n < S.lg.length->∀ c,gW (T.wy.getD (f n) []) c=(gW (S.wy.getD n []) c).map f
section
variable {S T:St} {f:Nat->Nat}
theorem Iso.mem (F:Iso S T f) {m:Nat} {l:X7} (hm:m < S.lg.length) (hl:∀ x∈l,x < S.lg.length):f m∈l.map f ↔ m∈l:=by
 rw [Z9]
 exact ⟨fun ⟨x,hx,e⟩=>by rw [← F.inj (hl x hx) hm e];exact hx,fun h=>⟨m,h,rfl⟩⟩
theorem Iso.idx (F:Iso S T f) {m:Nat} (hm:m < S.lg.length):∀ {l:X7},(∀ x∈l,x < S.lg.length)->(l.map f).idxOf (f m)=l.idxOf m
 | [],_=>rfl
 | x :: l,hl=>by
  rw [Zp,Xj,Xj,F.idx hm fun y hy=>hl y (Zv _ hy)]
  by_cases e:x=m
  ·subst e
   simp
  ·have:(x == m)=false:=by simpa using e
   have h2:(f x == f m)=false:=by
    have:=fun z=>e (F.inj (hl x Zx) hm z)
    simpa using this
   rw [this,h2]
theorem Iso.sk (F:Iso S T f) {n:Nat} (hn:n < S.lg.length):sk (T.wy.getD (f n) [])=sk (S.wy.getD n []):=by
 unfold AU.sk
 refine congrArg (fun p=>List.filter p (List.range' 97 26)) ?_
 funext c
 rw [F.wy hn,Ym]
theorem gC {w:List (Nat×Nat)} {c:Nat} (h:c∈sk w):∃ m,gW w c=some m:=Yc.mp (Y8.mp h).2
theorem gA {w:List (Nat×Nat)} {N:Nat} (hw:∀ c m,gW w c=some m->m < N):∀ (r met:X7),(∀ c∈r,∃ m,gW w c=some m)->(∀ x∈met,x < N)->∀ x∈visit w r met,x < N
 | [],met,_,hm=>hm
 | c :: r,met,hr,hm=>by
  refine gA hw r _ (fun d hd=>hr d (Zv _ hd)) ?_
  obtain ⟨m,e⟩:=hr c Zx
  rw [e,YW]
  split
  ·exact hm
  ·intro x hx
   rcases Zg.mp hx with h | h
   ·exact hm x h
   ·rw [Zj.mp h];exact hw c m e
theorem Iso.visit (F:Iso S T f) (WS:WF S) {n:Nat} (hn:n < S.lg.length):∀ (r met:X7),(∀ c∈r,∃ m,gW (S.wy.getD n []) c=some m)->(∀ x∈met,x < S.lg.length)->AU.visit (T.wy.getD (f n) []) r (met.map f)=(AU.visit (S.wy.getD n []) r met).map f
 | [],_,_,_=>rfl
 | c :: r,met,hr,hm=>by
  obtain ⟨m,e⟩:=hr c Zx
  have hlt:=WS.on n c m e
  show AU.visit _ r (if (gW (T.wy.getD (f n) []) c).getD 0∈met.map f then met.map f else met.map f++[(gW (T.wy.getD (f n) []) c).getD 0])=(AU.visit _ r (if (gW (S.wy.getD n []) c).getD 0∈met then met else met++[(gW (S.wy.getD n []) c).getD 0])).map f
  rw [F.wy hn,e]
  show AU.visit _ r (if f m∈met.map f then met.map f else met.map f++[f m])=(AU.visit _ r (if m∈met then met else met++[m])).map f
  by_cases q:m∈met
  ·rw [Zq q,Zq ((F.mem hlt hm).mpr q)]
   exact F.visit WS hn r met (fun d hd=>hr d (Zv _ hd)) hm
  ·rw [Zn q,Zn (fun z=>q ((F.mem hlt hm).mp z))]
   have:=F.visit WS hn r (met++[m]) (fun d hd=>hr d (Zv _ hd)) (fun x hx=>by
    rcases Zg.mp hx with h | h
    ·exact hm x h
    ·rw [Zj.mp h];exact hlt)
   rw [ZD] at this
   exact this
theorem getD_mem {l:X7} {d:Nat} (h:d < l.length):l.getD d 0∈l:=by
 rw [Zs,Zm h]
 exact Z7 h
theorem getD_map {l:X7} {d:Nat} (f:Nat->Nat) (h:d < l.length):(l.map f).getD d 0=f (l.getD d 0):=by
 rw [Zs,Zs,ZQ,Zm h]
 rfl
theorem Iso.bfs (F:Iso S T f) (WS:WF S):∀ (k:Nat) (met:X7) (d:Nat),(∀ x∈met,x < S.lg.length)->AU.bfs T k (met.map f) d=(AU.bfs S k met d).map (·.map f):=by
 intro k
 induction k with
 | zero =>
  intro met d hm
  unfold AU.bfs
  rw [Zy]
  split <;> rfl
 | succ k ih =>
  intro met d hm
  unfold AU.bfs
  rw [Zy]
  by_cases h:d < met.length
  ·rw [Zq h,Zq h]
   have hn:=hm _ (getD_mem h)
   show AU.bfs T k (AU.visit (T.wy.getD ((met.map f).getD d 0) []) (AU.sk (T.wy.getD ((met.map f).getD d 0) [])) (met.map f)) (d+1)=(AU.bfs S k _ (d+1)).map _
   rw [getD_map f h,F.sk hn,F.visit WS hn _ met (fun c hc=>gC hc) hm]
   exact ih _ _ (gA (fun c m e=>WS.on _ c m e) _ _ (fun c hc=>gC hc) hm)
  ·rw [Zn h,Zn h]
   rfl
theorem Iso.row (F:Iso S T f) (WS:WF S) {met:X7} (hm:∀ x∈met,x < S.lg.length) {n:Nat} (hn:n < S.lg.length):AU.row T (met.map f) (f n)=AU.row S met n:=by
 have st:AU.steps T (met.map f) (f n)=AU.steps S met n:=by
  unfold AU.steps
  rw [F.sk hn]
  refine YG fun c hc=>?_
  obtain ⟨m,e⟩:=gC hc
  rw [F.wy hn,e]
  show (c,(met.map f).idxOf (f m))=(c,met.idxOf m)
  rw [F.idx (WS.on _ c m e) hm]
 unfold AU.row
 rw [F.lk hn,st]
 cases e:S.lk.getD n none with
 | none=>rfl
 | some l =>
  have hl:=WS.up n l e
  show (T.lg.getD (f l) 0+1,T.lg.getD (f n) 0,some ((met.map f).idxOf (f l)),_)=_
  rw [F.lg hl,F.lg hn,F.idx hl hm]
theorem Iso.tab (F:Iso S T f) (WS:WF S) {met:X7} (hm:∀ x∈met,x < S.lg.length):AU.tab T (met.map f)=AU.tab S met:=by
 unfold AU.tab
 rw [Yx]
 exact YG fun n hn=>F.row WS hm (hm n hn)
end
theorem K.iso {P:Wd->Prop} {S T:St} {nd nd':Wd->Option Nat} {wd wd':List Wd} (H:K P S nd wd) (G:K P T nd' wd'):Iso S T fun n=>(nd' (W wd n)).getD 0:=by
 have sm:∀ {x n},nd x=.some n->nd' x=.some ((nd' (W wd n)).getD 0):=fun {x n} h=>by
  obtain ⟨a,ha⟩:=(G.some x).mpr ((H.some x).mp ⟨n,h⟩)
  have ht:=H.i.top (H.i.lt h)
  obtain ⟨b,hb⟩:=(G.some (W wd n)).mpr ((H.some _).mp ⟨n,ht⟩)
  rw [hb,YW,ha,(G.eq ha hb).mpr ((H.eq h ht).mp rfl)]
 have no:∀ {x},nd x=none->nd' x=none:=fun {x} h=>by
  cases e:nd' x with
  | none=>rfl
  | some m =>
   obtain ⟨a,ha⟩:=(H.some x).mpr ((G.some x).mp ⟨m,e⟩)
   rw [h] at ha
   cases ha
 have inj:∀ {x y m n},nd x=.some m->nd y=.some n->(nd' (W wd m)).getD 0=(nd' (W wd n)).getD 0->m=n:=fun {x y m n} h1 h2 e=>(H.eq h1 h2).mpr ((G.eq (sm h1) (sm h2)).mp e)
 have L:S.lg.length=wd.length:=H.i.len.symm
 have L':T.lg.length=wd'.length:=G.i.len.symm
 have wq:∀ {n},n < wd.length->W wd' ((nd' (W wd n)).getD 0)=W wd n:=fun {n} hn=>by
  have ht:=H.i.top hn
  have s1:=sm ht
  have l1:=G.i.lt s1
  have s2:=G.i.top l1
  obtain ⟨a,ha⟩:=(H.some (W wd' ((nd' (W wd n)).getD 0))).mpr ((G.some _).mp ⟨_,s2⟩)
  have:=(H.eq ha ht).mpr ((G.eq s2 s1).mp rfl)
  subst this
  exact ((H.i.sf ha).eq_of_length_le ((G.i.sf s1).length_le))
 refine ⟨fun {n} hn=>?_,?_,fun {m n} hm hn e=>?_,fun {n} hn=>?_,fun {n} hn=>?_,fun {n} hn c=>?_⟩
 ·rw [L] at hn
  rw [L']
  exact G.i.lt (sm (H.i.top hn))
 ·show (nd' (W wd 0)).getD 0=0
  rw [H.i.wz,G.i.z];rfl
 ·rw [L] at hm hn
  exact inj (H.i.top hm) (H.i.top hn) e
 ·rw [L] at hn
  show T.lg.getD ((nd' (W wd n)).getD 0) 0=_
  rw [G.i.lg _ (G.i.lt (sm (H.i.top hn))),wq hn,H.i.lg n hn]
 ·rw [L] at hn
  show T.lk.getD ((nd' (W wd n)).getD 0) none=_
  have s1:=sm (H.i.top hn)
  have l1:=G.i.lt s1
  by_cases h0:n=0
  ·subst h0
   rw [H.i.lk0,H.i.wz,G.i.z]
   exact G.i.lk0
  ·have hn':(nd' (W wd n)).getD 0 ≠ 0:=fun z=>by
    have:=inj (H.i.top hn) H.i.z (by rw [z,H.i.wz,G.i.z];rfl)
    exact h0 this
   obtain ⟨m,a1,⟨a2,_⟩,a3,a4,a5⟩:=H.i.lk (YT h0) hn (fun z=>nomatch z)
   obtain ⟨m',b1,⟨b2,_⟩,b3,b4,b5⟩:=G.i.lk (YT hn') l1 (fun z=>nomatch z)
   rw [wq hn] at b3 b4 b5
   rw [a1,b1]
   show Option.some m'=Option.some ((nd' (W wd m)).getD 0)
   have sM:=sm (H.i.top a2)
   have le1:(W wd m).length<=(W wd' m').length:=ZP fun z=>by
    have q:=b5 (W wd m) a3 z
    rw [sM] at q
    have:=inj (H.i.top a2) (H.i.top hn) (Zo q)
    rw [this] at a4
    omega
   have le2:(W wd' m').length<=(W wd m).length:=ZP fun z=>by
    have q:=sm (a5 (W wd' m') b3 z)
    rw [G.i.top b2] at q
    have e:=Zo q
    rw [e,wq hn] at b4
    omega
   have e:W wd' m'=W wd m:=(cQ b3 a3 le2).eq_of_length (Nat.le_antisymm le2 le1)
   rw [← e,G.i.top b2]
   rfl
 ·rw [L] at hn
  have ht:=H.i.top hn
  show gW (T.wy.getD ((nd' (W wd n)).getD 0) []) c=_
  rw [G.i.wy (sm ht) c,H.i.wy ht c]
  cases e:nd (W wd n++[c]) with
  | none=>rw [no e];rfl
  | some k=>rw [sm e];rfl
theorem K.same {P:Wd->Prop} {S T:St} {nd nd':Wd->Option Nat} {wd wd':List Wd} (H:K P S nd wd) (G:K P T nd' wd') (k:Nat):(bfs T k [0] 0).map (tab T)=(bfs S k [0] 0).map (tab S):=by
 have F:=H.iso G
 have h0:∀ x∈[0],x < S.lg.length:=fun x hx=>by rw [Zj.mp hx];exact H.i.wf.pos
 have e:=F.bfs H.i.wf k [0] 0 h0
 rw [List.map_singleton,F.z] at e
 rw [e]
 have key:∀ (k:Nat) (met:X7) (d:Nat),(∀ x∈met,x < S.lg.length)->∀ m,bfs S k met d=Option.some m->∀ x∈m,x < S.lg.length:=by
  intro k
  induction k with
  | zero =>
   intro met d hm m e
   unfold bfs at e
   split at e
   ·cases e
   ·cases e;exact hm
  | succ k ih =>
   intro met d hm m e
   unfold bfs at e
   split at e
   ·exact ih _ _ (gA (fun c m e=>H.i.wf.on _ c m e) _ _ (fun c hc=>gC hc) hm) m e
   ·cases e;exact hm
 cases e2:bfs S k [0] 0 with
 | none=>rfl
 | some m=>exact congrArg Option.some (F.tab H.i.wf (key k [0] 0 h0 m e2))
theorem jq {w:List (Nat×Nat)}:∀ (r met:X7),∃ l,visit w r met=met++l
 | [],met=>⟨[],(ZK _).symm⟩
 | c :: r,met=>by
  obtain ⟨l,e⟩:=jq (w:=w) r (if (gW w c).getD 0∈met then met else met++[(gW w c).getD 0])
  show ∃ l,visit w r _=_
  rw [e]
  split
  ·exact ⟨l,rfl⟩
  ·exact ⟨_,Yu _ _ _⟩
theorem j6 {w:List (Nat×Nat)}:∀ (r met:X7),met.Nodup->(visit w r met).Nodup
 | [],met,h=>h
 | c :: r,met,h=>by
  refine j6 (w:=w) r _ ?_
  split
  ·exact h
  ·rename_i q
   rw [ZV]
   refine ⟨h,by simp,fun a ha b hb e=>q ?_⟩
   rw [Zj.mp hb] at e
   rw [← e]
   exact ha
theorem lZ {w:List (Nat×Nat)}:∀ (r met:X7),∀ c∈r,(gW w c).getD 0∈visit w r met
 | d :: r,met,c,hc=>by
  rcases Zi.mp hc with rfl | hc
  ·obtain ⟨l,e⟩:=jq (w:=w) r (if (gW w c).getD 0∈met then met else met++[(gW w c).getD 0])
   show _∈visit w r _
   rw [e]
   refine Z1 _ ?_
   split
   ·assumption
   ·exact ZU _ Zx
  ·exact lZ r _ c hc
theorem vn {w:List (Nat×Nat)} (az:∀ p∈w,97<=p.1/\p.1<=122) {c m:Nat} (h:gW w c=some m):c∈sk w:=by
 refine Y8.mpr ⟨?_,by rw [h];rfl⟩
 unfold gW at h
 obtain ⟨p,hp,_⟩:=Zw.mp h
 have e:=List.find?_some hp
 have:=az p (List.mem_of_find?_eq_some hp)
 have e':p.1=c:=by simpa using e
 rw [e'] at this
 rw [List.mem_range'_1]
 omega
theorem AA {S:St} (WS:WF S):∀ (k:Nat) (met:X7) (d:Nat),met.Nodup->(∀ x∈met,x < S.lg.length)->d<=met.length->S.lg.length<=k+d->(∀ i,i < d->∀ c m,gW (S.wy.getD (met.getD i 0) []) c=some m->m∈met) →
  ∃ l,bfs S k met d=some (met++l)/\(met++l).Nodup/\(∀ x∈met++l,x < S.lg.length)/\∀ n∈met++l,∀ c m,gW (S.wy.getD n []) c=some m->m∈met++l:=by
 intro k
 have fin:∀ (met:X7) (d:Nat),¬ d < met.length->d<=met.length->(∀ i,i < d->∀ c m,gW (S.wy.getD (met.getD i 0) []) c=some m->m∈met)->∀ n∈met,∀ c m,gW (S.wy.getD n []) c=some m->m∈met:=by
  intro met d h1 h2 h n hn c m e
  obtain ⟨i,hi,q⟩:=List.mem_iff_getElem.mp hn
  refine h i (by omega) c m ?_
  have:met.getD i 0=n:=by rw [Zs,Zm hi,q];rfl
  rw [this]
  exact e
 induction k with
 | zero =>
  intro met d nd lt hd hk h
  have hl:met.length<=S.lg.length:=by
   have:=sub_len met (List.range S.lg.length) nd fun x hx=>YV.mpr (lt x hx)
   rwa [Z0] at this
  have hlt:¬ d < met.length:=by omega
  refine ⟨[],?_,?_⟩
  ·unfold bfs
   rw [Zn hlt,ZK]
  ·rw [ZK]
   exact ⟨nd,lt,fin met d hlt hd h⟩
 | succ k ih =>
  intro met d nd lt hd hk h
  by_cases hlt:d < met.length
  ·obtain ⟨l1,e1⟩:=jq (w:=S.wy.getD (met.getD d 0) []) (sk (S.wy.getD (met.getD d 0) [])) met
   obtain ⟨l,e,h1,h2,h3⟩:=ih (visit (S.wy.getD (met.getD d 0) []) (sk (S.wy.getD (met.getD d 0) [])) met) (d+1) (j6 _ _ nd) (gA (fun c m e=>WS.on _ c m e) _ _ (fun c hc=>gC hc) lt) (by rw [e1,Zt];omega) (by omega) (fun i hi c m e=>by
    have gi:(visit (S.wy.getD (met.getD d 0) []) (sk (S.wy.getD (met.getD d 0) [])) met).getD i 0=met.getD i 0:=by
     rw [e1,Zs,Zs,ZJ (by omega)]
    rw [gi] at e
    by_cases q:i=d
    ·subst q
     have:=lZ (w:=S.wy.getD (met.getD i 0) []) (sk (S.wy.getD (met.getD i 0) [])) met c (vn (WS.wnd _).2 e)
     rw [e] at this
     exact this
    ·rw [e1]
     exact Z1 _ (h i (by omega) c m e))
   rw [e1,Yu] at h1 h2 h3
   refine ⟨l1++l,?_,h1,h2,h3⟩
   unfold bfs
   rw [Zq hlt]
   show bfs S k _ (d+1)=_
   rw [e,e1,Yu]
  ·refine ⟨[],?_,?_⟩
   ·unfold bfs
    rw [Zn hlt,ZK]
   ·rw [ZK]
    exact ⟨nd,lt,fin met d hlt hd h⟩
theorem vp {α:Type} {p:List α->Prop} (h0:p []) (h1:∀ l a,p l->p (l++[a])) (l:List α):p l:=by
 have:∀ l:List α,p l.reverse:=by
  intro l
  induction l with
  | nil=>exact h0
  | cons a l ih=>rw [List.reverse_cons];exact h1 _ a ih
 rw [← List.reverse_reverse l]
 exact this _
theorem K.met {P:Wd->Prop} {S:St} {nd:Wd->Option Nat} {wd:List Wd} (H:K P S nd wd) {k:Nat} (hk:wd.length<=k):∃ l,bfs S k [0] 0=Option.some (0 :: l)/\(0 :: l).Nodup/\(∀ x,x∈0 :: l ↔ x < wd.length)/\(0 :: l).length=wd.length:=by
 have L:S.lg.length=wd.length:=H.i.len.symm
 obtain ⟨l,e,h1,h2,h3⟩:=AA H.i.wf k [0] 0 (by simp) (fun x hx=>by rw [Zj.mp hx];exact H.i.wf.pos) (Ye _) (by omega) (fun i hi=>absurd hi (Nat.not_lt_zero _))
 have h0:∀ (x:Wd) n,nd x=Option.some n->n∈0 :: l:=by
  intro x
  induction x using vp with
  | h0=>intro n e;rw [H.i.z] at e;cases e;exact Zx
  | h1 x c ih =>
   intro n e
   obtain ⟨m,hm⟩:=H.i.pre e
   exact h3 m (ih m hm) c n (by rw [H.i.wy hm];exact e)
 have hx:∀ x,x∈0 :: l ↔ x < wd.length:=fun x=>⟨fun z=>by rw [← L];exact h2 x z,fun z=>h0 _ x (H.i.top z)⟩
 refine ⟨l,e,h1,hx,Nat.le_antisymm ?_ ?_⟩
 ·have:=sub_len (0 :: l) (List.range wd.length) h1 fun x z=>YV.mpr ((hx x).mp z)
  rwa [Z0] at this
 ·have:=sub_len (List.range wd.length) (0 :: l) List.nodup_range fun x z=>(hx x).mpr (YV.mp z)
  rwa [Z0] at this
end AU
end
section
namespace T10
open VS AU
theorem xO (w:List (Nat×Nat)) (c:Nat):c∈w.map (·.1) ↔ (gW w c).isSome=true:=by
 rw [← y0,Y5,Z9]
 exact ⟨fun ⟨p,h1,h2⟩=>⟨p,h1,by rw [h2];exact beq_self_eq_true c⟩,fun ⟨p,h1,h2⟩=>⟨p,h1,by simpa using h2⟩⟩
theorem qh {w:List (Nat×Nat)} (nd:(w.map (·.1)).Nodup) (az:∀ p∈w,97<=p.1/\p.1<=122):(sk w).Perm (w.map (·.1)):=by
 refine (List.perm_ext_iff_of_nodup ?_ nd).mpr fun c=>?_
 ·exact List.Nodup.sublist List.filter_sublist List.nodup_range'
 ·rw [xO]
  constructor
  ·intro h
   exact (Y8.mp h).2
  ·intro h
   obtain ⟨m,e⟩:=Yc.mp h
   exact vn az e
theorem tj {m:Md} {w:List (Nat×Nat)} (nd:(w.map (·.1)).Nodup) (az:∀ p∈w,97<=p.1/\p.1<=122):ft [(m,wT' w)]=some (.fr,.lst ((sk w).map fun c=>T.str [c])):=by
 show ((strs? ((w.map fun p=>(T.str [p.1],T.int (p.2:Int))).map (·.1))).bind _)=_
 have e1:(w.map fun p=>(T.str [p.1],T.int (p.2:Int))).map (·.1)=(w.map (·.1)).map fun c=>T.str [c]:=by
  rw [Yx,Yx]
  rfl
 rw [e1,strs_map (fun c=>[c]),Zu,Zq]
 ·have:(sk w).map (fun c=>[c])=d2 ((w.map (·.1)).map fun c=>[c]):=by
   refine lU ((qh nd az).map _) ?_
   rw [XQ]
   refine List.Pairwise.imp ?_ (List.Pairwise.filter _ (List.pairwise_lt_range' (s:=97) (n:=26)))
   intro a b hab h
   rcases Y3.mp h with h | ⟨_,h⟩
   ·omega
   ·exact absurd h (List.not_lt_nil _)
  rw [← this,Yx]
  rfl
 ·refine ⟨?_,Yw.mpr ?_⟩
  ·rw [Zy,← (qh nd az).length_eq]
   have:(sk w).length<=(List.range' 97 26).length:=List.length_filter_le _ _
   rw [List.length_range'] at this
   omega
  intro s hs
  obtain ⟨c,hc,rfl⟩:=Z9.mp hs
  obtain ⟨p,hp,rfl⟩:=Z9.mp hc
  have:=az p hp
  show (decide (1<=dS) && (decide (p.1 < 1114112) && true))=true
  rw [decide_eq_true (show p.1 < 1114112 by omega)]
  rfl
noncomputable def nE:Nat->X7->List (T×T)
 | _,[]=>[]
 | k,n :: r=>(T.int (n:Int),T.int (k:Int)) :: nE (k+1) r
theorem rT:∀ (met:X7) (k:Nat),(nE k met).length=met.length
 | [],_=>rfl
 | _ :: r,k=>by rw [nE,ZZ,ZZ,rT r]
theorem nh:∀ (met:X7) (k:Nat),(nE k met).map (·.1)=met.map fun (n:Nat)=>T.int (n:Int)
 | [],_=>rfl
 | _ :: r,k=>by rw [nE,Zp,Zp,nh r]
theorem sD:∀ (met:X7) (k n:Nat),nE k (met++[n])=nE k met++[(T.int (n:Int),T.int ((k+met.length:Nat):Int))]
 | [],k,n=>rfl
 | m :: r,k,n=>by
  rw [Xo,nE,nE,sD r (k+1) n,ZZ,Xo]
  rw [show k+1+r.length=k+(r.length+1) by omega]
theorem CV (a b:Nat):eqT (.int (a:Int)) (.int (b:Int))=(a == b):=by
 simp only [eqT]
 by_cases h:a=b
 ·simp [h]
 ·have h1:¬ (a:Int)=(b:Int):=by omega
  rw [beq_eq_false_iff_ne.mpr h,beq_eq_false_iff_ne.mpr h1]
theorem mF:∀ (met:X7) (k n:Nat),ed (nE k met) (.int (n:Int))=if n∈met then some (T.int ((k+met.idxOf n:Nat):Int)) else none
 | [],_,_=>rfl
 | m :: r,k,n=>by
  show ((((T.int (m:Int),T.int (k:Int)) :: nE (k+1) r).find? fun p=>eqT p.1 (.int (n:Int))).map (·.2))=_
  rw [Z4]
  simp only [CV]
  by_cases h:m=n
  ·subst h
   simp [Xj]
  ·have hb:(m == n)=false:=beq_eq_false_iff_ne.mpr h
   have ih:=mF r (k+1) n
   unfold ed at ih
   simp only [hb]
   rw [ih,Xj,hb]
   by_cases q:n∈r
   ·rw [Zq q,Zq (Zv _ q)]
    show some (T.int ((k+1+r.idxOf n:Nat):Int))=some (T.int ((k+(r.idxOf n+1):Nat):Int))
    rw [show k+1+r.idxOf n=k+(r.idxOf n+1) by omega]
   ·rw [Zn q,Zn (fun z=>(Zi.mp z).elim (fun e=>h e.symm) q)]
theorem yZ (met:X7) (n:Nat) (h:n ∉ met):dput (nE 0 met) (.int (n:Int)) (.int (met.length:Int))=nE 0 (met++[n]):=by
 unfold dput
 rw [Zn,sD]
 ·rw [Nat.zero_add]
 ·intro z
  obtain ⟨p,hp,e⟩:=Y5.mp z
  have:(ed (nE 0 met) (.int (n:Int))).isSome=true:=by
   unfold ed
   rw [Ym,List.find?_isSome]
   exact ⟨p,hp,e⟩
  rw [mF,Zn h] at this
  cases this
noncomputable def nT (met:X7):T:=.dct 0 (nE 0 met)
noncomputable def mT (met:X7):T:=.lst (met.map fun (n:Nat)=>T.int (n:Int))
theorem xW {η:Env} {m k:Md} {met:X7} {n:Nat} {a e:Ex} (h:a η=some (m,nT met)) (he:e η=some (k,.int (n:Int))):e2 dc e a η=some (.fr,.bl (decide (n ∉ met))):=e2v he h (by
 show (match (if true=true then some (Md.fr,T.bl (ed (nE 0 met) (.int (n:Int))).isSome) else none) with | some (_,.bl b)=>some (Md.fr,T.bl (!b)) | _=>none)=_
 rw [Zq rfl,mF]
 by_cases q:n∈met
 ·rw [Zq q,decide_eq_false (fun z=>z q)];rfl
 ·rw [Zn q,decide_eq_true q];rfl)
section
variable {S:St} {w:List (Nat×Nat)}
theorem vb {d:Nat} {ob:Wz}:∀ (r met:X7) (z:Wz),(∀ c∈r,∃ m,gW w c=some m)->met.length+r.length < 16777216->∃ z',forL (cS 5) bq (r.map fun c=>T.str [c]) [ob,oc (nT met),oc (mT met),pc (.int (d:Int)),pc (wT' w),z]=some (.nx [ob,oc (nT (visit w r met)),oc (mT (visit w r met)),pc (.int (d:Int)),pc (wT' w),z'])
 | [],met,z,_,_=>⟨z,rfl⟩
 | c :: r,met,z,hr,hl=>by
  obtain ⟨m,e⟩:=hr c Zx
  rw [ZZ] at hl
  have hlen:(nE 0 met).length=met.length:=rT met 0
  by_cases q:m∈met
  ·obtain ⟨z',ih⟩:=vb r met (pc (.str [c])) (fun d hd=>hr d (Zv _ hd)) (by omega)
   refine ⟨z',?_⟩
   have ev:visit w (c :: r) met=visit w r met:=by
    show visit w r (if (gW w c).getD 0∈met then met else met++[(gW w c).getD 0])=_
    rw [e,YW,Zq q]
   rw [ev,Zp]
   refine (fI (η1:=[ob,oc (nT met),oc (mT met),pc (.int (d:Int)),pc (wT' w),pc (.str [c])]) rfl ?_).trans ih
   unfold bq
   refine (ju (m:=.fr) ?_).trans rfl
   refine (xW (m:=.bo) (k:=.fr) (met:=met) (n:=m) rfl (ub (m:=.pu) (n:=.fr) (c:=c) (w:=w) rfl rfl e)).trans ?_
   rw [decide_eq_false (fun z=>z q)]
  ·obtain ⟨z',ih⟩:=vb r (met++[m]) (pc (.str [c])) (fun d hd=>hr d (Zv _ hd)) (by rw [Zt,ZO];omega)
   refine ⟨z',?_⟩
   have ev:visit w (c :: r) met=visit w r (met++[m]):=by
    show visit w r (if (gW w c).getD 0∈met then met else met++[(gW w c).getD 0])=_
    rw [e,YW,Zn q]
   rw [ev,Zp]
   refine (fI (η1:=[ob,oc (nT met),oc (mT met),pc (.int (d:Int)),pc (wT' w),pc (.str [c])]) rfl ?_).trans ih
   unfold bq
   refine (oW (m:=.fr) ?_).trans ?_
   ·refine (xW (m:=.bo) (k:=.fr) (met:=met) (n:=m) rfl (ub (m:=.pu) (n:=.fr) (c:=c) (w:=w) rfl rfl e)).trans ?_
    rw [decide_eq_true q]
   ·have ix1:∀ nn mm:Wz,e2 oIx (ab 4) (ab 5) [ob,nn,mm,pc (.int (d:Int)),pc (wT' w),pc (.str [c])]=some (.fr,.int (m:Int)):=fun nn mm=>ub (m:=.pu) (n:=.fr) (c:=c) (w:=w) rfl rfl e
    have p1:lJ 1 (e2 oIx (ab 4) (ab 5)) (eN cn (ae (ab 2) ai)) [ob,oc (nT met),oc (mT met),pc (.int (d:Int)),pc (wT' w),pc (.str [c])]=some (.nx [ob,oc (nT (met++[m])),oc (mT met),pc (.int (d:Int)),pc (wT' w),pc (.str [c])]):=by
     have l1:eN cn (ae (ab 2) ai) [ob,oc (nT met),oc (mT met),pc (.int (d:Int)),pc (wT' w),pc (.str [c])]=some (.fr,.int (met.length:Int)):=hV (xv (x:=(.bo,mT met)) rfl rfl) (by
      show some (Md.fr,T.int (((met.map fun (n:Nat)=>T.int (n:Int)).length:Nat):Int))=_
      rw [Zy])
     unfold lJ
     rw [l1,Zu]
     show ((e2 oIx (ab 4) (ab 5) [ob,oc (nT met),oc (mT met),pc (.int (d:Int)),pc (wT' w),pc (.str [c])]).bind _)=_
     rw [ix1,Zu]
     show (if true=true/\true=true/\(nE 0 met).length < dS then some (Out.nx [ob,oc (.dct 0 (dput (nE 0 met) (.int (m:Int)) (.int (met.length:Int)))),oc (mT met),pc (.int (d:Int)),pc (wT' w),pc (.str [c])]) else none)=_
     rw [Zq ⟨rfl,rfl,by rw [hlen];show met.length < 16777216;omega⟩,yZ met m q]
     rfl
    refine (aq p1).trans ?_
    refine (AH (i:=2) (l:=met.map fun (n:Nat)=>T.int (n:Int)) (v:=.int (m:Int)) rfl (ix1 _ _) (by rw [Zy];omega)).trans ?_
    rw [show (met.map fun (n:Nat)=>T.int (n:Int))++[.int (m:Int)]=(met++[m]).map fun (n:Nat)=>T.int (n:Int) from by rw [ZD];rfl]
    rfl
end
theorem oT (w:List (Nat×Nat)):(sk w).length<=26:=by
 refine ZI (List.length_filter_le _ _) ?_
 rw [List.length_range']
 exact Zk _
theorem vV {S:St} {met:X7} (nd:met.Nodup) (lt:∀ x∈met,x < S.lg.length):met.length<=S.lg.length:=by
 have:=sub_len met (List.range S.lg.length) nd fun x hx=>YV.mpr (lt x hx)
 rwa [Z0] at this
theorem B1 {S:St} (WS:WF S) (hs:S.lg.length<=100001):∀ (k:Nat) (met:X7) (d:Nat) (M:X7),met.Nodup->(∀ x∈met,x < S.lg.length)->bfs S k met d=some M->∀ N,k < N->∀ z4 z5:Wz,∃ d' z4' z5',
  eP (e2 oLt (ab 3) (eN cn (ae (ab 2) ai))) bU N [pc (obT S false),oc (nT met),oc (mT met),pc (.int ((d:Nat):Int)),z4,z5] =
   some (.nx [pc (obT S false),oc (nT M),oc (mT M),pc d',z4',z5']):=by
 have cond:∀ (met:X7) (d:Nat) (z4 z5:Wz),e2 oLt (ab 3) (eN cn (ae (ab 2) ai)) [pc (obT S false),oc (nT met),oc (mT met),pc (.int ((d:Nat):Int)),z4,z5]=some (.fr,.bl (decide (d < met.length))):=fun met d z4 z5 =>
  e2v (x:=(.fr,.int (d:Int))) rfl (hV (v:=(.fr,.int (met.length:Int))) (xv (x:=(.bo,mT met)) rfl rfl) (by
   show some (Md.fr,T.int (((met.map fun (n:Nat)=>T.int (n:Int)).length:Nat):Int))=_
   rw [Zy])) (by
   show some (Md.fr,T.bl (decide ((d:Int) < (met.length:Int))))=_
   rw [show decide ((d:Int) < (met.length:Int))=decide (d < met.length) from decide_eq_decide.mpr (by omega)])
 intro k
 induction k with
 | zero =>
  intro met d M nd lt e N hN z4 z5
  obtain ⟨N,rfl⟩:∃ M,N=M+1:=⟨N - 1,by omega⟩
  unfold bfs at e
  split at e
  ·cases e
  ·rename_i h
   cases e
   exact ⟨_,z4,z5,fE (m:=.fr) ((cond _ _ _ _).trans (by rw [decide_eq_false h]))⟩
 | succ k ih =>
  intro met d M nd lt e N hN z4 z5
  obtain ⟨N,rfl⟩:∃ M,N=M+1:=⟨N - 1,by omega⟩
  unfold bfs at e
  split at e
  ·rename_i h
   have hn:=lt _ (getD_mem h)
   have hnw:met.getD d 0 < S.wy.length:=by rw [WS.wy];exact hn
   have ml:=vV nd lt
   have sl:=oT (S.wy.getD (met.getD d 0) [])
   obtain ⟨z',l1⟩:=vb (w:=S.wy.getD (met.getD d 0) []) (d:=d) (ob:=pc (obT S false)) (sk (S.wy.getD (met.getD d 0) [])) met z5 (fun c hc=>gC hc) (by omega)
   obtain ⟨d',y4,y5,q⟩:=ih _ (d+1) M (j6 _ _ nd) (gA (fun c m e=>WS.on _ c m e) _ _ (fun c hc=>gC hc) lt) e N (by omega) (pc (wT' (S.wy.getD (met.getD d 0) []))) z'
   refine ⟨d',y4,y5,(mH (m:=.fr) ((cond _ _ _ _).trans (by rw [decide_eq_true h])) ?_).trans q⟩
   unfold bU
   have ix:e2 aJ (ab 2) (ab 3) [pc (obT S false),oc (nT met),oc (mT met),pc (.int ((d:Nat):Int)),z4,z5]=some (.fr,.int ((met.getD d 0:Nat):Int)):=e2v (x:=(.bo,mT met)) (y:=(.fr,.int (d:Int))) rfl rfl (jF _ met d 0 h)
   have s1:aW 4 (e2 aJ (aY 3 (ab 0)) (e2 aJ (ab 2) (ab 3))) [pc (obT S false),oc (nT met),oc (mT met),pc (.int ((d:Nat):Int)),z4,z5]=some (.nx [pc (obT S false),oc (nT met),oc (mT met),pc (.int ((d:Nat):Int)),pc (wT' (S.wy.getD (met.getD d 0) [])),z5]) :=
    bV (m:=.pu) (kR (S:=S) (b:=false) (m:=.pu) (n:=.fr) rfl ix hnw) (by decide) (by decide:4 < 6)
   refine (aq s1).trans ?_
   have nw:=WS.wnd (met.getD d 0)
   refine (aq ((hR (m:=.fr) (l:=(sk (S.wy.getD (met.getD d 0) [])).map fun c=>T.str [c]) ?_ rfl).trans l1)).trans ?_
   ·show (eN ft (ae (ab 4) ai) _).bind vZ=_
    rw [hV (xv (x:=(.pu,wT' (S.wy.getD (met.getD d 0) []))) rfl rfl) (tj nw.1 nw.2)]
    rfl
   ·exact bV (m:=.fr) (t:=.int (((d+1:Nat)):Int)) rfl (by decide) (by decide:3 < 6)
  ·rename_i h
   cases e
   exact ⟨_,z4,z5,fE (m:=.fr) ((cond _ _ _ _).trans (by rw [decide_eq_false h]))⟩
theorem yy {S:St} (WS:WF S) (hs:S.lg.length<=100001) {M:X7} {k:Nat} (hk:k < 1000000) (e:bfs S k [0] 0=some M):aF [obT S false]=some (.fr,nT M):=by
 obtain ⟨d',z4,z5,q⟩:=B1 WS hs k [0] 0 M (by simp) (fun x hx=>by rw [Zj.mp hx];exact WS.pos) e sA (by show k < 1000000;exact hk) none none
 refine jB (η:=[pc (obT S false),none,pc (mT M),pc d',z4,z5]) rfl ?_
 exact (aq rfl).trans ((aq rfl).trans ((aq rfl).trans ((aq q).trans ((aq rfl).trans rfl))))
noncomputable def stT (l:List (Nat×Nat)):T:=.tup (l.map fun p=>T.tup [.str [p.1],.int (p.2:Int)])
noncomputable def mJ (r:Row):T:=.tup [.int (r.1:Int),.int (r.2.1:Int),lkT r.2.2.1,stT r.2.2.2]
theorem pM:∀ l:List (Nat×Nat),cY (l.map fun p=>T.tup [.str [p.1],.int (p.2:Int)])=true
 | []=>rfl
 | p :: l=>by
  rw [Zp]
  show (true && cY _)=true
  rw [pM l]
  rfl
theorem sQ (l:List (Nat×Nat)):imm (stT l)=true:=pM l
theorem BM {a b c d:Ex} {η:Env} {x y z w:T} (h1:a η=some (.fr,x)) (h2:b η=some (.fr,y)) (h3:c η=some (.fr,z)) (h4:d η=some (.fr,w)):mG (ae a (ae b (ae c (ae d ai)))) η=some (.fr,.tup [x,y,z,w]):=by
 show (ae a (ae b (ae c (ae d ai))) η).bind qk=_
 rw [xv h1 (xv h2 (xv h3 (xv (r:=ai) h4 rfl))),Zu]
 show some (up .fr _)=_
 unfold up
 split <;> rfl
theorem yE {S:St} (WS:WF S) {met:X7} (all:∀ x,x < S.lg.length->x∈met) {n:Nat} (hn:n < S.lg.length):bQ [obT S false,.int (n:Int),.dct 3 (nE 0 met)]=some (.fr,mJ (row S met n)):=by
 have hw:n < S.wy.length:=by rw [WS.wy];exact hn
 have hk:n < S.lk.length:=by rw [WS.lk];exact hn
 have nw:=WS.wnd n
 have get:∀ v,v < S.lg.length->ed (nE 0 met) (.int (v:Int))=some (T.int ((met.idxOf v:Nat):Int)):=fun v hv=>by rw [mF,Zq (all v hv),Nat.zero_add]
 have s1:aW 3 (e2 aJ (aY 2 (ab 0)) (ab 1)) [pc (obT S false),pc (.int (n:Int)),pc (.dct 3 (nE 0 met)),none,none,none]=some (.nx [pc (obT S false),pc (.int (n:Int)),pc (.dct 3 (nE 0 met)),pc (lkT (S.lk.getD n none)),none,none]):=bV (m:=.fr) (ql (S:=S) (b:=false) (m:=.pu) (n:=.fr) rfl rfl hk) (by decide) (by decide:3 < 6)
 have s2:aW 4 (e2 aJ (aY 3 (ab 0)) (ab 1)) [pc (obT S false),pc (.int (n:Int)),pc (.dct 3 (nE 0 met)),pc (lkT (S.lk.getD n none)),none,none]=some (.nx [pc (obT S false),pc (.int (n:Int)),pc (.dct 3 (nE 0 met)),pc (lkT (S.lk.getD n none)),pc (wT' (S.wy.getD n [])),none]):=bV (m:=.pu) (kR (S:=S) (b:=false) (m:=.pu) (n:=.fr) rfl rfl hw) (by decide) (by decide:4 < 6)
 have c5:eN g9 (ae (fF 1 (cS 0) (gR (eN ft (ae (ab 4) ai))) none (mG (ae (ab 0) (ae (e2 lj (ab 3) (e2 oIx (ab 5) (ab 0))) ai)))) ai) [pc (obT S false),pc (.int (n:Int)),pc (.dct 3 (nE 0 met)),pc (lkT (S.lk.getD n none)),pc (wT' (S.wy.getD n [])),none]=some (.fr,stT (steps S met n)):=by
  have c1:=g0 (k:=1) (tg:=cS 0) (it:=gR (eN ft (ae (ab 4) ai))) (elt:=mG (ae (ab 0) (ae (e2 lj (ab 3) (e2 oIx (ab 5) (ab 0))) ai))) (m:=.fr) (η:=[pc (obT S false),pc (.int (n:Int)),pc (.dct 3 (nE 0 met)),pc (lkT (S.lk.getD n none)),pc (wT' (S.wy.getD n [])),none]) (fun c=>T.str [c]) (fun c=>T.tup [.str [c],.int ((met.idxOf ((gW (S.wy.getD n []) c).getD 0):Nat):Int)]) (sk (S.wy.getD n [])) (by
   show (eN ft (ae (ab 4) ai) _).bind vZ=_
   rw [hV (xv (x:=(.pu,wT' (S.wy.getD n []))) rfl rfl) (tj nw.1 nw.2)]
   rfl) rfl (ZI (oT _) (by decide)) (fun c hc=>by
   obtain ⟨v,ev⟩:=gC hc
   refine ⟨[pc (.str [c]),pc (obT S false),pc (.int (n:Int)),pc (.dct 3 (nE 0 met)),pc (lkT (S.lk.getD n none)),pc (wT' (S.wy.getD n [])),none],rfl,?_⟩
   have i1:e2 lj (ab 3) (e2 oIx (ab 5) (ab 0)) [pc (.str [c]),pc (obT S false),pc (.int (n:Int)),pc (.dct 3 (nE 0 met)),pc (lkT (S.lk.getD n none)),pc (wT' (S.wy.getD n [])),none]=some (.fr,.int ((met.idxOf v:Nat):Int)) :=
    e2v (x:=(.pu,.dct 3 (nE 0 met))) rfl (ub (m:=.pu) (n:=.fr) (c:=c) (w:=S.wy.getD n []) rfl rfl ev) (by
     show (if true=true then (ed (nE 0 met) (.int (v:Int))).map (sub .pu) else none)=_
     rw [Zq rfl,get v (WS.on n c v ev)]
     rfl)
   rw [ev,YW]
   show (ae (ab 0) (ae (e2 lj (ab 3) (e2 oIx (ab 5) (ab 0))) ai) _).bind qk=_
   rw [xv (x:=(.fr,.str [c])) rfl (xv (r:=ai) i1 rfl)]
   rfl)
  refine hV (xv (r:=ai) c1 rfl) ?_
  show (if _<=dS then some (up .fr (.tup _)) else none)=_
  rw [Zq (by rw [Zy];exact ZI (oT _) (by decide))]
  have:T.tup ((sk (S.wy.getD n [])).map fun c=>T.tup [.str [c],.int ((met.idxOf ((gW (S.wy.getD n []) c).getD 0):Nat):Int)])=stT (steps S met n):=by
   unfold stT steps
   rw [Yx]
   rfl
  rw [this]
  unfold up
  rw [sQ]
  rfl
 have s3:=bV (i:=5) c5 (by decide) (by decide:5 < 6)
 have v5:∀ η:Env,η[5]?=some (pc (stT (steps S met n)))->ab 5 η=some (.fr,stT (steps S met n)):=fun η h=>by
  show (match η[5]? with | some (some (.pu t))=>some (up .pu t) | some (some (.ow t))=>some (.bo,t) | _=>none)=_
  rw [h]
  show some (up .pu _)=_
  unfold up
  rw [sQ]
  rfl
 unfold row
 cases el:S.lk.getD n none with
 | none =>
  rw [el] at s1 s2 s3
  refine jB (v:=(.fr,mJ (0,0,none,steps S met n))) (η:=[pc (obT S false),pc (.int (n:Int)),pc (.dct 3 (nE 0 met)),pc (lkT none),pc (wT' (S.wy.getD n [])),pc (stT (steps S met n))]) rfl ?_
  refine (aq s1).trans ((aq s2).trans ((aq s3).trans (jS ((oW (m:=.fr) rfl).trans (gK (BM rfl rfl rfl (v5 _ rfl)))))))
 | some l =>
  rw [el] at s1 s2 s3
  have hl:=WS.up n l el
  refine jB (v:=(.fr,mJ (S.lg.getD l 0+1,S.lg.getD n 0,some (met.idxOf l),steps S met n))) (η:=[pc (obT S false),pc (.int (n:Int)),pc (.dct 3 (nE 0 met)),pc (lkT (some l)),pc (wT' (S.wy.getD n [])),pc (stT (steps S met n))]) rfl ?_
  refine (aq s1).trans ((aq s2).trans ((aq s3).trans ((aq ((ju (m:=.fr) rfl).trans rfl)).trans (gK (BM ?_ ?_ ?_ (v5 _ rfl))))))
  ·exact e2v (nX (S:=S) (b:=false) (m:=.pu) (n:=.fr) (i:=l) rfl rfl hl) rfl rfl
  ·exact nX (S:=S) (b:=false) (m:=.pu) (n:=.fr) (i:=n) rfl rfl hn
  ·exact e2v (x:=(.pu,.dct 3 (nE 0 met))) (y:=(.fr,.int (l:Int))) rfl rfl (by
    show (if true=true then (ed (nE 0 met) (.int (l:Int))).map (sub .pu) else none)=_
    rw [Zq rfl,get l hl]
    rfl)
noncomputable def tbT (t:List Row):T:=.lst (t.map mJ)
theorem zp {S:St} (WS:WF S) (hs:S.lg.length<=100001) {M:X7} {k:Nat} (hk:k < 1000000) (e:bfs S k [0] 0=some M) (all:∀ x,x∈M ↔ x < S.lg.length) (hl:M.length<=16777216):dv [obT S false]=some (.fr,tbT (tab S M)):=by
 have n1:=yy WS hs hk e
 refine jB (η:=[pc (obT S false),none]) rfl ?_
 have s1:ly 1 (cJ 0 aF (ab 0) ai) [pc (obT S false),none]=some (.nx [pc (obT S false),oc (nT M)]):=by
  show (cJ 0 aF (ab 0) ai [pc (obT S false),none]).bind _=_
  have:cJ 0 aF (ab 0) ai [pc (obT S false),none]=some (.fr,nT M):=by
   show ((aF [obT S false]).bind _)=_
   rw [n1]
   rfl
  rw [this]
  rfl
 refine (aq s1).trans ?_
 have c1:=g0 (k:=1) (tg:=cS 0) (it:=oz 1) (elt:=cJ 0 bQ (ab 1) (ae (ab 0) (ae (ab 2) ai))) (m:=.fr) (η:=[pc (obT S false),pc (.dct 3 (nE 0 M))]) (fun (n:Nat)=>T.int (n:Int)) (fun n=>mJ (row S M n)) M (by
  show (if ((nE 0 M).all fun p=>isInt p.1)=true then some (Md.fr,(nE 0 M).map (·.1)) else none)=_
  rw [Zq,nh]
  rw [Yw]
  intro p hp
  have:p.1∈(nE 0 M).map (·.1):=List.mem_map_of_mem hp
  rw [nh] at this
  obtain ⟨n,_,e⟩:=Z9.mp this
  rw [← e]
  rfl) rfl hl (fun n hn=>by
  refine ⟨[pc (.int (n:Int)),pc (obT S false),pc (.dct 3 (nE 0 M))],rfl,?_⟩
  show ((bQ [obT S false,.int (n:Int),.dct 3 (nE 0 M)]).bind _)=_
  rw [yE WS (fun x hx=>(all x).mpr hx) ((all n).mp hn)]
  rfl)
 show ((fF 1 (cS 0) (oz 1) none (cJ 0 bQ (ab 1) (ae (ab 0) (ae (ab 2) ai))) [pc (obT S false),pc (.dct 3 (nE 0 M))]).bind _)=_
 rw [c1]
 unfold tbT tab
 rw [Yx]
 rfl
noncomputable def fsM (tx:List Tx) (hd:X7) (S:St):nG:=[(4,.lst (tx.map .str)),(5,.lst (hd.map fun (n:Nat)=>T.int (n:Int))),(6,obT S false)]
noncomputable def maT (tx:List Tx) (hd:X7) (S:St) (b:Bool):T:=.obj 2 ((0,.bl b) :: fsM tx hd S)
theorem xA (S:St):eW (obT S false)=true:=by
 show ((true && !(0 == 0 && false)) && dJ (fsT S))=true
 rw [iC]
 rfl
theorem iH (tx:List Tx) (hd:X7) (S:St):dJ (fsM tx hd S)=true:=by
 have h1:eW (.lst (tx.map T.str))=true:=d3 _ (fun _=>rfl) _
 have h2:eW (.lst (hd.map fun (n:Nat)=>T.int (n:Int)))=true:=d3 _ (fun _=>rfl) _
 show ((eW _ && !(4 == 0 && isT _)) && ((eW _ && !(5 == 0 && isT _)) && ((eW _ && !(6 == 0 && isT _)) && true)))=true
 rw [h1,h2,xA]
 rfl
theorem vB (tx:List Tx) (hd:X7) (S:St) (b:Bool):mn 4 (maT tx hd S b)=some (.lst (tx.map .str)):=rfl
theorem CH (tx:List Tx) (hd:X7) (S:St) (b:Bool):mn 5 (maT tx hd S b)=some (.lst (hd.map fun (n:Nat)=>T.int (n:Int))):=rfl
theorem CS (tx:List Tx) (hd:X7) (S:St) (b:Bool):mn 6 (maT tx hd S b)=some (obT S false):=rfl
section
variable {tx:List Tx} {hd:X7} {S S':St} {b:Bool} {r:List (Wz)}
theorem tq {a:Ex} {η:Env} {m:Md} (h:a η=some (m,maT tx hd S b)):eN cn (ae (aY 4 a) ai) η=some (.fr,.int (tx.length:Nat)):=hV (xv (fK h (vB tx hd S b)) rfl) (by
 show some (Md.fr,T.int (((tx.map T.str).length:Nat):Int))=_
 rw [Zy])
theorem zG {e:Ex} {v:Tx} (h:e (oc (maT tx hd S b) :: r)=some (.fr,.str v)) (hl:tx.length < 16777216):sX (fQ 0 [.fld 4] aG (ae e ai)) (oc (maT tx hd S b) :: r)=some (.nx (oc (maT (tx++[v]) hd S b) :: r)):=by
 show (((some [Ky.fld 4]).bind fun ks=>(ae e ai (oc (maT tx hd S b) :: r)).bind fun xs=>(pm (fun x=>aG x xs) ks (maT tx hd S b)).map _).map _)=_
 rw [Zu,xv (r:=ai) h rfl,Zu]
 show (((aG (.lst (tx.map T.str)) [(.fr,.str v)]).map _).map _ |>.map _)=_
 rw [cT (by rw [Zy];exact hl),show (tx.map T.str)++[.str v]=(tx++[v]).map T.str from by rw [ZD];rfl]
 rfl
theorem zh {e:Ex} {v:Nat} (h:e (oc (maT tx hd S b) :: r)=some (.fr,.int (v:Int))) (hl:hd.length < 16777216):sX (fQ 0 [.fld 5] aG (ae e ai)) (oc (maT tx hd S b) :: r)=some (.nx (oc (maT tx (hd++[v]) S b) :: r)):=by
 show (((some [Ky.fld 5]).bind fun ks=>(ae e ai (oc (maT tx hd S b) :: r)).bind fun xs=>(pm (fun x=>aG x xs) ks (maT tx hd S b)).map _).map _)=_
 rw [Zu,xv (r:=ai) h rfl,Zu]
 show (((aG (.lst (hd.map fun (n:Nat)=>T.int (n:Int))) [(.fr,.int (v:Int))]).map _).map _ |>.map _)=_
 rw [cT (by rw [Zy];exact hl),show (hd.map fun (n:Nat)=>T.int (n:Int))++[.int (v:Int)]=(hd++[v]).map fun (n:Nat)=>T.int (n:Int) from by rw [ZD];rfl]
 rfl
theorem ui (hl:tx.length < 8) (hh:hd.length=tx.length):bw (fsM tx hd S) []=some (fsM (tx++[[]]) (hd++[0]) S,.int (tx.length:Int)):=by
 unfold bw mfn
 rw [Zq ⟨rfl,rfl⟩]
 have c1:e2 oGe (eN cn (ae (aY 4 (ab 0)) ai)) (eC (.int 8)) [oc (maT tx hd S true)]=some (.fr,.bl false):=e2v (tq (m:=.bo) rfl) rfl (by
  show some (Md.fr,T.bl (decide ((8:Int)<=(tx.length:Int))))=_
  rw [decide_eq_false (by omega)])
 have a1:=zG (tx:=tx) (hd:=hd) (S:=S) (b:=true) (r:=[]) (e:=eC (.str [])) (v:=[]) rfl (by omega)
 have a2:=zh (tx:=tx++[[]]) (hd:=hd) (S:=S) (b:=true) (r:=[]) (e:=eC (.int 0)) (v:=0) rfl (by omega)
 have a4:=gK (e:=e2 jL (eN cn (ae (aY 4 (ab 0)) ai)) (eC (.int 1))) (η:=[oc (maT (tx++[[]]) (hd++[0]) S true)]) (t:=.int (tx.length:Int)) (e2v (tq (m:=.bo) rfl) rfl (by
  show some (Md.fr,T.int ((((tx++[[]]).length:Nat):Int) - 1))=_
  rw [Zt,ZO,show (((tx.length+1:Nat)):Int) - 1=(tx.length:Int) by omega]))
 exact congrArg (fun z:Option Out=>z.bind _) ((aq ((ju c1).trans rfl)).trans ((aq a1).trans ((aq a2).trans a4)))
theorem rJ {i:Nat} (hi:i < tx.length):bB [.lst (tx.map .str),.int (i:Int)]=some (.fr,.non):=by
 refine Ca (η:=[pc (.lst (tx.map .str)),pc (.int (i:Int))]) rfl ?_
 refine (ju (m:=.fr) (xV (m:=.fr) (x:=false) ?_ (fun _=>?_) (fun h=>by cases h))).trans rfl
 ·exact uf (m:=.fr) (b:=true) rfl
 ·refine uf (m:=.fr) (b:=true) (vH (x:=(.fr,.int 0)) (y:=(.fr,.int (i:Int))) (z:=(.fr,.int (tx.length:Int))) rfl rfl ?_ ?_ ?_)
  ·show some (Md.fr,T.bl (decide ((0:Int)<=(i:Int))))=_
   rw [decide_eq_true (by omega)]
  ·exact hV (xv (x:=(.pu,.lst (tx.map T.str))) (by
    show some (up .pu (.lst (tx.map T.str)))=_
    rfl) rfl) (by
    show some (Md.fr,T.int (((tx.map T.str).length:Nat):Int))=_
    rw [Zy])
  ·show some (Md.fr,T.bl (decide ((i:Int) < (tx.length:Int))))=_
   rw [decide_eq_true (by omega)]
end
noncomputable def cB (tx:List Tx):Nat:=(tx.map List.length).sum
theorem pY:∀ tx:List Tx,(tx.map fun t=>(t.length:Int)).sum=(cB tx:Int)
 | []=>rfl
 | t :: tx=>by
  rw [Zp,Yb,pY tx]
  unfold cB
  rw [Zp,Yb]
  omega
theorem rU (tx:List Tx) (hl:tx.length<=16777216):ff [.lst (tx.map .str)]=some (.fr,.int (cB tx:Int)):=by
 refine jB (η:=[pc (.lst (tx.map .str))]) rfl ?_
 refine gK (hV (xv (r:=ai) (g0 (m:=.pu) T.str (fun (t:Tx)=>T.int (t.length:Int)) tx rfl rfl hl (fun t ht=>⟨[pc (.str t),pc (.lst (tx.map .str))],rfl,rfl⟩)) rfl) ?_)
 show (ka (tx.map fun (t:Tx)=>T.int (t.length:Int))).bind _=_
 rw [ints_map (fun (t:Tx)=>(t.length:Int)),Zu,pY]
section
variable {tx:List Tx} {hd:X7} {S S':St} {b:Bool}
theorem zr {i v:Nat} {e ev:Ex} {n:Md} {r:List (Wz)} (hi:i < hd.length) (he:e (oc (maT tx hd S b) :: r)=some (n,.int (i:Int))) (hv:ev (oc (maT tx hd S b) :: r)=some (.fr,.int (v:Int))) :
  dH 0 [.fld 5] e ev (oc (maT tx hd S b) :: r)=some (.nx (oc (maT tx (hd.set i v) S b) :: r)):=by
 unfold dH
 rw [hv,Zu]
 show ((keys [.fld 5] (oc (maT tx hd S b) :: r)).bind _)=_
 have hk:keys [.fld 5] (oc (maT tx hd S b) :: r)=some [.fld 5]:=rfl
 rw [hk,Zu,he,Zu]
 have hp:pm (ic (n,.int (i:Int)) (.fr,.int (v:Int))) [.fld 5] (maT tx hd S b)=some (maT tx (hd.set i v) S b,()):=by
  show ((ic (n,.int (i:Int)) (.fr,.int (v:Int)) (.lst (hd.map fun (n:Nat)=>T.int (n:Int)))).map _)=_
  have:ic (n,.int (i:Int)) (.fr,.int (v:Int)) (.lst (hd.map fun (n:Nat)=>T.int (n:Int)))=some (.lst ((hd.set i v).map fun (n:Nat)=>T.int (n:Int)),()):=by
   show ((ixP (hd.map fun (n:Nat)=>T.int (n:Int)).length (i:Int)).map _)=_
   rw [Zy,rX hi,XO]
   rfl
  rw [this]
  rfl
 rw [hp]
 rfl
theorem zi {i:Nat} {v:Tx} {e ev:Ex} {n:Md} {r:List (Wz)} (hi:i < tx.length) (he:e (oc (maT tx hd S b) :: r)=some (n,.int (i:Int))) (hv:ev (oc (maT tx hd S b) :: r)=some (.fr,.str v)) :
  dH 0 [.fld 4] e ev (oc (maT tx hd S b) :: r)=some (.nx (oc (maT (tx.set i v) hd S b) :: r)):=by
 unfold dH
 rw [hv,Zu]
 show ((keys [.fld 4] (oc (maT tx hd S b) :: r)).bind _)=_
 have hk:keys [.fld 4] (oc (maT tx hd S b) :: r)=some [.fld 4]:=rfl
 rw [hk,Zu,he,Zu]
 have hp:pm (ic (n,.int (i:Int)) (.fr,.str v)) [.fld 4] (maT tx hd S b)=some (maT (tx.set i v) hd S b,()):=by
  show ((ic (n,.int (i:Int)) (.fr,.str v) (.lst (tx.map T.str))).map _)=_
  have:ic (n,.int (i:Int)) (.fr,.str v) (.lst (tx.map T.str))=some (.lst ((tx.set i v).map T.str),()):=by
   show ((ixP (tx.map T.str).length (i:Int)).map _)=_
   rw [Zy,rX hi,XO]
   rfl
  rw [this]
  rfl
 rw [hp]
 rfl
theorem wL {i r:Nat} {w:Tx} (W:WF S) (hh:hd.length=tx.length) (hi:i < tx.length) (h8:tx.length<=8) (hs:cB tx+w.length<=120) (hl:S.lg.length+2 * w.length<=100000) (hn:hd.getD i 0 < S.lg.length) (hc:∀ c∈w,97<=c/\c<=122) (ht:(tx.getD i []).length<=120) (e:hg S (hd.getD i 0) w=some (S',r)) :
  bt (fsM tx hd S) [.int (i:Int),.str w]=some (fsM (tx.set i (tx.getD i []++w)) (hd.set i r) S',.non):=by
 obtain ⟨w1,w2,w3,w4⟩:=x4 W hl hn hc e
 unfold bt mfn
 rw [Zq ⟨rfl,rfl⟩]
 have s1:sX (xP (bD bB (ae (aY 4 (ab 0)) (ae (ab 1) ai)))) [oc (maT tx hd S true),pc (.int (i:Int)),pc (.str w)]=some (.nx [oc (maT tx hd S true),pc (.int (i:Int)),pc (.str w)]):=by
  have:bD bB (ae (aY 4 (ab 0)) (ae (ab 1) ai)) [oc (maT tx hd S true),pc (.int (i:Int)),pc (.str w)]=some (.fr,.non):=iU (xv (fK (m:=.bo) (t:=maT tx hd S true) rfl (vB tx hd S true)) (xv (x:=(.fr,.int (i:Int))) rfl rfl)) (rJ hi)
  show (((bD bB _ _).map _).map _)=_
  rw [this]
  rfl
 have c2:e2 oGt (e2 cH (bD ff (ae (aY 4 (ab 0)) ai)) (eN cn (ae (ab 2) ai))) (eC (.int 120)) [oc (maT tx hd S true),pc (.int (i:Int)),pc (.str w)]=some (.fr,.bl false) :=
  e2v (x:=(.fr,.int ((cB tx:Int)+(w.length:Int)))) (e2v (iU (xv (r:=ai) (fK (m:=.bo) (t:=maT tx hd S true) rfl (vB tx hd S true)) rfl) (rU tx (by omega))) (y:=(.fr,.int (w.length:Int))) rfl rfl) rfl (by
   show some (Md.fr,T.bl (decide ((120:Int) < (cB tx:Int)+(w.length:Int))))=_
   rw [decide_eq_false (by omega)])
 have x3:br 0 [.fld 6] 0 [false,false] aQ (ae (e2 aJ (aY 5 (ab 0)) (ab 1)) (ae (ab 2) ai)) [oc (maT tx hd S true),pc (.int (i:Int)),pc (.str w)]=some ((.fr,.int (r:Int)),[oc (maT tx hd S' true),pc (.int (i:Int)),pc (.str w)]):=by
  show ((some [Ky.fld 6]).bind fun ks=>(ae (e2 aJ (aY 5 (ab 0)) (ab 1)) (ae (ab 2) ai) [oc (maT tx hd S true),pc (.int (i:Int)),pc (.str w)]).bind fun xs=>(pm (jA 0 [false,false] aQ xs) ks (maT tx hd S true)).map fun z=>(z.2,[oc z.1,pc (.int (i:Int)),pc (.str w)]))=_
  rw [Zu,xv (x:=(.fr,.int ((hd.getD i 0:Nat):Int))) (e2v (fK (m:=.bo) (t:=maT tx hd S true) rfl (CH tx hd S true)) (y:=(.fr,.int (i:Int))) rfl (jF _ hd i 0 (by omega))) (xv (r:=ai) (x:=(.fr,.str w)) rfl rfl),Zu]
  show (((if 1=0+1/\dJ (fsT S)=true/\argsOk [false,false] [(Md.fr,T.int ((hd.getD i 0:Nat):Int)),(Md.fr,T.str w)]=true/\cM (trees [(Md.fr,T.int ((hd.getD i 0:Nat):Int)),(Md.fr,T.str w)])=true then (aQ (fsT S) [.int ((hd.getD i 0:Nat):Int),.str w]).bind fun z=>if dJ z.1=true/\imm z.2=true then some (T.obj 1 ((0,.bl false) :: z.1),(Md.fr,z.2)) else none else none).map _).map _)=_
  rw [Zq ⟨rfl,iC S,rfl,rfl⟩,w4,Zu,Zq ⟨iC S',rfl⟩]
  rfl
 have s3:gn 0 [.fld 5] (ab 1) (br 0 [.fld 6] 0 [false,false] aQ (ae (e2 aJ (aY 5 (ab 0)) (ab 1)) (ae (ab 2) ai))) [oc (maT tx hd S true),pc (.int (i:Int)),pc (.str w)]=some (.nx [oc (maT tx (hd.set i r) S' true),pc (.int (i:Int)),pc (.str w)]):=by
  unfold gn
  rw [x3]
  exact zr (tx:=tx) (hd:=hd) (S:=S') (b:=true) (r:=[pc (.int (i:Int)),pc (.str w)]) (e:=ab 1) (ev:=fun _=>some (.fr,.int (r:Int))) (i:=i) (v:=r) (n:=.fr) (by omega) rfl rfl
 have s4:dH 0 [.fld 4] (ab 1) (e2 cH (e2 aJ (aY 4 (ab 0)) (ab 1)) (ab 2)) [oc (maT tx (hd.set i r) S' true),pc (.int (i:Int)),pc (.str w)]=some (.nx [oc (maT (tx.set i (tx.getD i []++w)) (hd.set i r) S' true),pc (.int (i:Int)),pc (.str w)]) :=
  zi (n:=.fr) hi rfl (e2v (fK (m:=.bo) (t:=maT tx (hd.set i r) S' true) rfl (vB tx (hd.set i r) S' true) |> fun h=>e2v h (y:=(.fr,.int (i:Int))) rfl (jF T.str tx i [] hi)) (y:=(.fr,.str w)) rfl (r6 (by omega)))
 exact congrArg (fun z:Option Out=>z.bind _) ((aq s1).trans ((aq ((ju c2).trans rfl)).trans ((aq s3).trans s4)))
end
theorem iS {α:Type} (l:List α) (x d:α):(l++[x]).getD l.length d=x:=(bR l x d l.length).trans (Zq rfl)
theorem pH {α:Type} (l:List α) (x y:α):(l++[x]).set l.length y=l++[y]:=by
 rw [List.set_append_right _ _ (Zk _),Nat.sub_self]
 rfl
theorem fP (a b:List Tx):cB (a++b)=cB a+cB b:=by
 unfold cB
 rw [ZD,List.sum_append]
theorem Ax:∀ (rest:List Tx) {tx:List Tx} {hd:X7} {S S':St} {B:T} {z:Wz},WF S->hd.length=tx.length->tx.length+rest.length<=8->cB tx+cB rest<=120->S.lg.length+2 * cB rest<=100000->(∀ t∈rest,∀ c∈t,97<=c/\c<=122)->mB S rest=some S' →
  ∃ hd' z',forL (cS 2) bx (rest.map .str) [oc (maT tx hd S true),pc B,z]=some (.nx [oc (maT (tx++rest) hd' S' true),pc B,z']):=by
 intro rest
 induction rest with
 | nil =>
  intro tx hd S S' B z W hh h8 hs hl hc e
  cases (show some S=some S' from e)
  exact ⟨hd,z,by rw [ZK];rfl⟩
 | cons t rest ih =>
  intro tx hd S S' B z W hh h8 hs hl hc e
  obtain ⟨⟨S1,r⟩,e1,e2'⟩:=Zz.mp (show (hg S 0 t).bind _=some S' from e)
  rw [ZZ] at h8
  have hsum:cB (t :: rest)=t.length+cB rest:=by unfold cB;rw [Zp,Yb]
  rw [hsum] at hs hl
  have e1':hg S ((hd++[0]).getD tx.length 0) t=some (S1,r):=by rw [← hh,iS];exact e1
  have hgo:=x4 W (by omega) W.pos (hc t Zx) e1
  have g:=wL (tx:=tx++[[]]) (hd:=hd++[0]) (S:=S) (S':=S1) (i:=tx.length) (r:=r) (w:=t) W (by rw [Zt,Zt,hh];rfl) (by rw [Zt];exact Yp _) (by rw [Zt];show tx.length+1<=8;omega) (by rw [fP];show cB tx+0+t.length<=120;omega) (by omega) (by rw [← hh,iS];exact W.pos) (hc t Zx) (by rw [iS];exact Ye _) e1'
  rw [iS,pH,Xk] at g
  have g2:(hd++[0]).set tx.length r=hd++[r]:=by rw [← hh];exact pH hd 0 r
  rw [g2] at g
  have b:=ui (tx:=tx) (hd:=hd) (S:=S) (by omega) hh
  obtain ⟨hd',z',q⟩:=ih (tx:=tx++[t]) (hd:=hd++[r]) (S:=S1) (S':=S') (B:=B) (z:=pc (.str t)) hgo.1 (by rw [Zt,Zt,hh];rfl) (by rw [Zt,ZO];omega) (by rw [fP];show cB tx+(t.length+0)+cB rest<=120;omega) (by have:=hgo.2.2.1;omega) (fun u hu=>hc u (Zv _ hu)) e2'
  refine ⟨hd',z',?_⟩
  rw [Zp]
  refine (fI (η1:=[oc (maT tx hd S true),pc B,pc (.str t)]) rfl ?_).trans (q.trans (by rw [Yu];rfl))
  have x1:br 0 [] 1 [] bw ai [oc (maT tx hd S true),pc B,pc (.str t)]=some ((.fr,.int (tx.length:Int)),[oc (maT (tx++[[]]) (hd++[0]) S true),pc B,pc (.str t)]):=by
   show (((if 2=1+1/\dJ (fsM tx hd S)=true/\argsOk [] []=true/\cM (trees [])=true then (bw (fsM tx hd S) (trees [])).bind fun z=>if dJ z.1=true/\imm z.2=true then some (T.obj 2 ((0,.bl true) :: z.1),(Md.fr,z.2)) else none else none).map _))=_
   rw [Zq ⟨rfl,iH tx hd S,rfl,rfl⟩,show trees []=[] from rfl,b,Zu,Zq ⟨iH _ _ _,rfl⟩]
   rfl
  have x2:j8 0 1 [false,false] bt (br 0 [] 1 [] bw ai) (ae (ab 2) ai) [oc (maT tx hd S true),pc B,pc (.str t)]=some ((.fr,.non),[oc (maT (tx++[t]) (hd++[r]) S1 true),pc B,pc (.str t)]):=by
   unfold j8
   rw [Zq (show zU 1 [oc (maT tx hd S true),pc B,pc (T.str t)][0]?=true from rfl),x1,Zu,Zq (show imm (T.int (tx.length:Int))=true from rfl)]
   have ct:jA 1 [false,false] bt [(Md.fr,T.int (tx.length:Int)),(Md.fr,T.str t)] (maT (tx++[[]]) (hd++[0]) S true)=some (maT (tx++[t]) (hd++[r]) S1 true,(Md.fr,T.non)):=by
    show (if 2=1+1/\dJ (fsM (tx++[[]]) (hd++[0]) S)=true/\argsOk [false,false] [(Md.fr,T.int (tx.length:Int)),(Md.fr,T.str t)]=true/\cM (trees [(Md.fr,T.int (tx.length:Int)),(Md.fr,T.str t)])=true then (bt (fsM (tx++[[]]) (hd++[0]) S) (trees [(Md.fr,T.int (tx.length:Int)),(Md.fr,T.str t)])).bind fun z=>if dJ z.1=true/\imm z.2=true then some (T.obj 2 ((0,.bl true) :: z.1),(Md.fr,z.2)) else none else none)=_
    rw [Zq ⟨rfl,iH _ _ _,rfl,rfl⟩,show trees [(Md.fr,T.int (tx.length:Int)),(Md.fr,T.str t)]=[T.int (tx.length:Int),T.str t] from rfl,g,Zu,Zq ⟨iH _ _ _,rfl⟩]
    rfl
   show ((jA 1 [false,false] bt [(Md.fr,T.int (tx.length:Int)),(Md.fr,T.str t)] (maT (tx++[[]]) (hd++[0]) S true)).map _)=_
   rw [ct]
   rfl
  unfold bx sXM
  rw [x2]
  rfl
structure Bok (bk:List Tx):Prop where
 few:bk.length<=8
 sum:cB bk<=120
 az:∀ t∈bk,∀ c∈t,97<=c/\c<=122
theorem Bok.len {bk:List Tx} (h:Bok bk):∀ t∈bk,t.length < 1000:=fun t ht=>by
 have:∀ (l:List Tx),t∈l->t.length<=cB l:=by
  intro l
  induction l with
  | nil=>intro h;cases h
  | cons a l ih =>
   intro h
   have e:cB (a :: l)=a.length+cB l:=by unfold cB;rw [Zp,Yb]
   rw [e]
   rcases Zi.mp h with rfl | h
   ·omega
   ·have:=ih h;omega
 have:=this bk ht
 have:=h.sum
 omega
noncomputable def fD (bk:List Tx):St:=(mB S0 bk).getD S0
noncomputable def lS (bk:List Tx):X7:=(bfs (fD bk) 1000 [0] 0).getD []
noncomputable def tabOf (bk:List Tx):List Row:=tab (fD bk) (lS bk)
theorem Bok.k {bk:List Tx} (h:Bok bk):mB S0 bk=some (fD bk)/\∃ nd wd,K (Hd bk) (fD bk) nd wd/\wd.length<=241/\bfs (fD bk) 1000 [0] 0=some (lS bk)/\(∀ x,x∈lS bk ↔ x < (fD bk).lg.length)/\(lS bk).length=wd.length:=by
 obtain ⟨S,nd,wd,e,H,l⟩:=K.of bk h.az h.len
 have eS:fD bk=S:=by unfold fD;rw [e];rfl
 rw [eS]
 have l':wd.length<=241:=by
  have:=h.sum
  unfold cB at this
  omega
 obtain ⟨m,e2,_,e3,e4⟩:=H.met (k:=1000) (by omega)
 have eM:lS bk=0 :: m:=by unfold lS;rw [eS,e2];rfl
 rw [eM]
 exact ⟨e,nd,wd,H,l',e2,fun x=>by rw [e3,H.i.len],e4⟩
theorem zP {bk:List Tx} (h:Bok bk):∃ hd,ax [] [.lst (bk.map .str)]=some (fsM bk hd (fD bk),.non):=by
 obtain ⟨e,_⟩:=h.k
 have hsm:=h.sum
 obtain ⟨hd,z,q⟩:=Ax bk (tx:=[]) (hd:=[]) (S:=S0) (S':=fD bk) (B:=.lst (bk.map .str)) (z:=none) ye rfl (by have:=h.few;simpa using this) (by show 0+cB bk<=120;omega) (by show 1+2 * cB bk<=100000;omega) h.az e
 rw [Xk] at q
 refine ⟨hd,?_⟩
 unfold ax mfn
 rw [Zq ⟨rfl,rfl⟩]
 have f:=(hR (tg:=cS 2) (it:=gR (ab 1)) (body:=bx) (η:=[oc (maT [] [] S0 true),pc (.lst (bk.map .str)),none]) (m:=.pu) (l:=bk.map .str) rfl rfl).trans q
 have body:=(aq (a:=gp 0 4 (dz ai)) (b:=ar (gp 0 5 (dz ai)) (ar (gp 0 6 (eNew 0 df ai)) (sIf (eT (ab 1)) (hZ (cS 2) (gR (ab 1)) bx) eG))) (η:=[oc (.obj 2 [(0,.bl true)]),pc (.lst (bk.map .str)),none]) (η1:=[oc (.obj 2 [(0,.bl true),(4,.lst [])]),pc (.lst (bk.map .str)),none]) rfl).trans
  ((aq (η1:=[oc (.obj 2 [(0,.bl true),(4,.lst []),(5,.lst [])]),pc (.lst (bk.map .str)),none]) rfl).trans ((aq (η1:=[oc (maT [] [] S0 true),pc (.lst (bk.map .str)),none]) rfl).trans ((oW (m:=.fr) rfl).trans f)))
 exact congrArg (fun z:Option Out=>z.bind _) body
theorem gU {bk:List Tx} (h:Bok bk) {arg:Ex} {η:Env} {m:Md} (ha:arg η=some (m,.lst (bk.map .str))):cJ 1 aN (eNew 1 ax (ae arg ai)) ai η=some (.fr,tbT (tabOf bk)):=by
 obtain ⟨hd,e⟩:=zP h
 obtain ⟨_,nd,wd,H,l,e2,e3,e4⟩:=h.k
 have hlen:(fD bk).lg.length<=100001:=by rw [← H.i.len];omega
 have t1:=zp H.i.wf hlen (k:=1000) (by decide) e2 e3 (by omega)
 have n1:eNew 1 ax (ae arg ai) η=some (.fr,maT bk hd (fD bk) false):=by
  unfold eNew
  rw [xv (r:=ai) ha rfl,Zu]
  have hno:cM (trees [(m,T.lst (bk.map .str))])=true:=by
   show (cM (bk.map T.str) && true)=true
   rw [d3 _ (fun _=>rfl)]
   rfl
  rw [Zq hno,show trees [(m,T.lst (bk.map .str))]=[T.lst (bk.map .str)] from rfl,e,Zu,Zq ⟨iH _ _ _,rfl⟩]
  rfl
 have t2:aN [maT bk hd (fD bk) false]=some (.fr,tbT (tabOf bk)):=by
  refine jB (η:=[pc (maT bk hd (fD bk) false)]) rfl (gK ?_)
  have f6:aY 6 (ab 0) [pc (maT bk hd (fD bk) false)]=some (.pu,obT (fD bk) false):=fK (m:=.pu) (t:=maT bk hd (fD bk) false) rfl (CS bk hd (fD bk) false)
  unfold cJ
  show ((aY 6 (ab 0) [pc (maT bk hd (fD bk) false)]).bind _)=_
  rw [f6]
  show ((dv [obT (fD bk) false]).bind _)=_
  rw [t1]
  rfl
 show ((eNew 1 ax (ae arg ai) η).bind _)=_
 rw [n1]
 show ((aN [maT bk hd (fD bk) false]).bind _)=_
 rw [t2]
 rfl
theorem gP {a b:List Tx} (ha:Bok a) (hb:Bok b) (h:∀ p,Hd a p ↔ Hd b p):tabOf b=tabOf a:=by
 obtain ⟨_,nd,wd,H,_,e,_,_⟩:=ha.k
 obtain ⟨_,nd',wd',G,_,e',_,_⟩:=hb.k
 have:=(H.congr h).same G 1000
 rw [e,e'] at this
 exact Zo this
theorem uo {a:List Tx} {t:Tx} (ha:Bok a) (hb:Bok (a++[t])):(tabOf a).length<=(tabOf (a++[t])).length:=by
 unfold tabOf tab
 rw [Zy,Zy]
 obtain ⟨f,nd,wd,H,_,e,_,l⟩:=ha.k
 obtain ⟨f',nd',wd',G,_,e',_,l'⟩:=hb.k
 rw [l,l',H.i.len,G.i.len]
 have happ:∀ (x:List Tx) (S:St),mB S (x++[t])=(mB S x).bind fun S'=>(hg S' 0 t).map (·.1):=by
  intro x
  induction x with
  | nil =>
   intro S
   show ((hg S 0 t).bind fun z=>some z.1)=(hg S 0 t).map (·.1)
   cases hg S 0 t <;> rfl
  | cons u x ih =>
   intro S
   show ((hg S 0 u).bind fun z=>mB z.1 (x++[t]))=((hg S 0 u).bind fun z=>mB z.1 x).bind _
   cases hg S 0 u with
   | none=>rfl
   | some z=>exact ih z.1
 rw [happ,f,Zu] at f'
 have hz:0 < wd.length:=H.i.lt H.i.z
 obtain ⟨S',r,nd2,wd2,e2,H2,_,_,_,l3,_⟩:=H.grow t hz (by rw [H.i.wz];exact H.nil) (hb.az t (by simp)) (by rw [H.i.wz];have:=hb.len t (by simp);simpa using this)
 rw [e2] at f'
 have:S'=fD (a++[t]):=Zo f'
 rw [← this,← H2.i.len,← H.i.len]
 exact l3
end T10
end
section
namespace T10
open VS
noncomputable def cellAt (ns:X8) (k:Nat):Int:=(ns[k]?).getD 0
theorem gZ (ns:X8) (k:Nat):aC [.scr ns,.int k]=some (.fr,.int (cellAt ns k)):=by
 by_cases h:k < ns.length
 ·have h2:(k:Int) < (ns.length:Int):=by omega
  simp [aC,h,h2,ixP,cellAt]
 ·have h2:¬ (k:Int) < (ns.length:Int):=by omega
  simp [aC,h2,cellAt,ZE (ZP h)]
noncomputable def mixed (c k:Int):Int :=
 let n:=(c % 2147483629+48271 * k+11) % 2147483629
 let n:=n * n % 2147483629+7919 * k
 n * n % 2147483587
theorem w6 (c k:Int) (h0:0<=k) (h1:k < 1000000):eu [.int c,.int k]=some (.fr,.int (mixed c k)):=by
 have e0:=Yy (c % 2147483629+48271 * k+11) (b:=2147483629) (by decide)
 have e1:=ZF (c % 2147483629+48271 * k+11) (b:=2147483629) (by decide)
 have e2:=Yy ((c % 2147483629+48271 * k+11) % 2147483629 * ((c % 2147483629+48271 * k+11) % 2147483629)) (b:=2147483629) (by decide)
 have e3:=ZF ((c % 2147483629+48271 * k+11) % 2147483629 * ((c % 2147483629+48271 * k+11) % 2147483629)) (b:=2147483629) (by decide)
 simp [eu,mixed,aA,kF (i:=48271) (by decide),kF (i:=7919) (by decide)]
 rw [kF (by omega)]
 simp [aA]
 rw [kF (by omega)]
 simp [aA]
noncomputable def txt (ns:X8) (letters:Tx) (j:Nat):Int->X7->Tx
 | _,[]=>[]
 | c,k :: r=>if cellAt ns 0 % 2=0 then letters.getD (c % letters.length).toNat 0 :: txt ns letters j (c / letters.length) r
  else letters.getD (mixed c (30 * j+k) / 7 % letters.length).toNat 0 :: txt ns letters j c r
theorem mr (ns:X8) (letters:Tx) (j:Nat):∀ (l:X7) (c:Int),(txt ns letters j c l).length=l.length
 | [],_=>rfl
 | k :: r,c=>by
  unfold txt
  split <;> simp [mr ns letters j r]
theorem mM (ns:X8) (letters:Tx) (j:Nat) (h:0 < letters.length):∀ (l:X7) (c:Int),∀ x∈txt ns letters j c l,x∈letters
 | [],_=>fun x hx=>by simp [txt] at hx
 | k :: r,c=>fun x hx=>by
  have g:∀ y:Int,letters.getD (y % letters.length).toNat 0∈letters:=fun y=>by
   have b0:=Yy y (b:=(letters.length:Int)) (by omega)
   have b1:=ZF y (b:=(letters.length:Int)) (by omega)
   have:(y % letters.length).toNat < letters.length:=by omega
   rw [Zs,Zm this]
   exact Z7 this
  unfold txt at hx
  split at hx
  ·rcases Zi.mp hx with e | e
   ·rw [e];exact g c
   ·exact mM ns letters j h r _ x e
  ·rcases Zi.mp hx with e | e
   ·rw [e];exact g _
   ·exact mM ns letters j h r _ x e
theorem ko {m n:Md} (letters:Tx) (h:0 < letters.length) (y:Int):aJ (m,.str letters) (n,.int (y % letters.length))=some (.fr,.str [letters.getD (y % letters.length).toNat 0]):=by
 have b0:=Yy y (b:=(letters.length:Int)) (by omega)
 have b1:=ZF y (b:=(letters.length:Int)) (by omega)
 have b2:(y % letters.length).toNat < letters.length:=by omega
 simp [ixP,b0,b1,Zs,b2]
theorem jZ (ns:X8) (letters:Tx) (most j size:Int) (jn:Nat) (hj:j=jn) (hjn:jn<=1000) (hl:0 < letters.length) (hl2:letters.length < 1000):∀ (ks:X7) (c:Int) (signs:Ww) (z:Wz),(∀ k∈ks,k < 1000)->signs.length+ks.length<=1000 →
  ∃ c' z',forL (cS 7) d8 (ks.map fun (k:Nat)=>T.int (k:Int)) [some (.pu (.scr ns)),some (.pu (.str letters)),some (.pu (.int most)),some (.pu (.int j)),some (.pu (.int c)),some (.pu (.int size)),some (.ow (.lst signs)),z] =
   some (.nx [some (.pu (.scr ns)),some (.pu (.str letters)),some (.pu (.int most)),some (.pu (.int j)),some (.pu (.int c')),some (.pu (.int size)),some (.ow (.lst (signs++(txt ns letters jn c ks).map fun x=>.str [x]))),z'])
 | [],c,signs,z,_,_=>⟨c,z,by simp [forL,txt]⟩
 | k :: ks,c,signs,z,hk,hs=>by
  have h1:k < 1000:=hk k Zx
  have hs':signs.length+ks.length < 1000:=by simp only [ZZ] at hs;omega
  have ll:(0:Int) < letters.length:=by omega
  have l0:=gZ ns 0
  simp only [Int.natCast_zero] at l0
  subst hj
  have mx:=w6 c (30 * (jn:Int)+k) (by omega) (by omega)
  by_cases p:cellAt ns 0 % 2=0
  ·obtain ⟨c',z',e⟩:=jZ ns letters most jn size jn rfl hjn hl hl2 ks (c / letters.length) (signs++[.str [letters.getD (c % letters.length).toNat 0]]) (some (.pu (.int k))) (fun k hk'=>hk k (Zv _ hk')) (by simp only [Zt,ZO];omega)
   refine ⟨c',z',?_⟩
   rw [Zp,fI (η1:=[some (.pu (.scr ns)),some (.pu (.str letters)),some (.pu (.int most)),some (.pu (.int jn)),some (.pu (.int c)),some (.pu (.int size)),some (.ow (.lst signs)),some (.pu (.int k))]) (by simp)
    (η2:=[some (.pu (.scr ns)),some (.pu (.str letters)),some (.pu (.int most)),some (.pu (.int jn)),some (.pu (.int (c / letters.length))),some (.pu (.int size)),some (.ow (.lst (signs++[.str [letters.getD (c % letters.length).toNat 0]]))),some (.pu (.int k))]) (by
     simp [-aJ,-Zs,d8,l0,aA (j:=2) (by decide),aA ll,p,ko letters hl,cT (show signs.length < 16777216 by omega),ay (show (0:Int) < letters.length/\(letters.length:Int) < 1073741824 by omega)]),e]
   simp [txt,p]
  ·obtain ⟨c',z',e⟩:=jZ ns letters most jn size jn rfl hjn hl hl2 ks c (signs++[.str [letters.getD (mixed c (30 * jn+k) / 7 % letters.length).toNat 0]]) (some (.pu (.int k))) (fun k hk'=>hk k (Zv _ hk')) (by simp only [Zt,ZO];omega)
   refine ⟨c',z',?_⟩
   rw [Zp,fI (η1:=[some (.pu (.scr ns)),some (.pu (.str letters)),some (.pu (.int most)),some (.pu (.int jn)),some (.pu (.int c)),some (.pu (.int size)),some (.ow (.lst signs)),some (.pu (.int k))]) (by simp)
    (η2:=[some (.pu (.scr ns)),some (.pu (.str letters)),some (.pu (.int most)),some (.pu (.int jn)),some (.pu (.int c)),some (.pu (.int size)),some (.ow (.lst (signs++[.str [letters.getD (mixed c (30 * jn+k) / 7 % letters.length).toNat 0]]))),some (.pu (.int k))]) (by
     simp [-aJ,-Zs,d8,l0,aA (j:=2) (by decide),aA ll,p,mx,kF (i:=30) (by decide),ko letters hl,cT (show signs.length < 16777216 by omega),ay (j:=7) (by decide)]),e]
   simp [txt,p]
noncomputable def textOf (ns:X8) (letters:Tx) (most:Int) (j:Nat):Tx:=txt ns letters j (cellAt ns (1+j) / (most+1)) (List.range (cellAt ns (1+j) % (most+1)).toNat)
theorem Au (ns:X8) (letters:Tx) (most:Int) (j:Nat) (hj:j<=1000) (hl:0 < letters.length) (hl2:letters.length < 1000) (h0:0<=most) (h1:most < 1000) :
  dy [.scr ns,.str letters,.int most,.int j]=some (.fr,.str (textOf ns letters most j)):=by
 have c:=gZ ns (1+j)
 have e1:((1+j:Nat):Int)=1+(j:Int):=by omega
 rw [e1] at c
 have b0:=Yy (cellAt ns (1+j)) (b:=most+1) (by omega)
 have b1:=ZF (cellAt ns (1+j)) (b:=most+1) (by omega)
 obtain ⟨c',z',e⟩:=jZ ns letters most j (cellAt ns (1+j) % (most+1)) j rfl hj hl hl2 (List.range (cellAt ns (1+j) % (most+1)).toNat) (cellAt ns (1+j) / (most+1)) [] none (fun k hk=>by have:=YV.mp hk;omega) (by rw [Z0];simp;omega)
 have rg:∀ (a:Ex) (η:Env) (m:Md),a η=some (m,.int (cellAt ns (1+j) % (most+1)))->de a η=some (.fr,rng 0 (cellAt ns (1+j) % (most+1)).toNat):=fun a η m e=>il e (by omega)
 have jn:∀ m n,iY (m,.str []) [(n,.lst ((txt ns letters j (cellAt ns (1+j) / (most+1)) (List.range (cellAt ns (1+j) % (most+1)).toNat)).map fun x=>.str [x]))]=some (.fr,.str (textOf ns letters most j)):=fun m n=>by
  rw [qV (strs_map (fun x=>[x]) _) (by rw [iI,mr,Z0];omega),iI]
  rfl
 simp [dy,c,aA (show (0:Int) < most+1 by omega),ay (show (0:Int) < most+1/\most+1 < 1073741824 by omega),cy]
 rw [rg _ _ .fr (by simp)]
 simp [ku]
 rw [e]
 simp [gM,jn]
theorem pf (ns:X8) (letters:Tx) (most:Int) (j:Nat) (h0:0<=most):(textOf ns letters most j).length<=most.toNat:=by
 unfold textOf
 rw [mr,Z0]
 have b0:=Yy (cellAt ns (1+j)) (b:=most+1) (by omega)
 have b1:=ZF (cellAt ns (1+j)) (b:=most+1) (by omega)
 omega
theorem pC (ns:X8) (letters:Tx) (most:Int) (j:Nat) (h:0 < letters.length):∀ x∈textOf ns letters most j,x∈letters:=mM ns letters j h _ _
noncomputable def cj:List Tx:=[[97,98],[97,98,99],[97,98,99,100],[97,122],[97],[97,98,99,100,101,102,103,104,105,106,107,108,109,110,111,112,113,114,115,116,117,118,119,120,121,122]]
theorem lu (i:Int) (h0:0<=i) (h1:i < 6):0 < (cj.getD i.toNat []).length/\(cj.getD i.toNat []).length < 1000/\∀ c∈cj.getD i.toNat [],97<=c/\c<=122:=by
 have:∀ k,k < 6->0 < (cj.getD k []).length/\(cj.getD k []).length < 1000/\∀ c∈cj.getD k [],97<=c/\c<=122:=by decide
 exact this i.toNat (by omega)
noncomputable def iV (ns:X8) (letters:Tx) (most:Int) (count:Nat):List Tx:=(List.range count).map fun j=>textOf ns letters most j
theorem uY (ns:X8) (letters:Tx) (most:Int) (count:Nat) (h0:0<=most):(iV ns letters most count).length=count/\(iV ns letters most count).flatten.length<=count * most.toNat/\(0 < letters.length->∀ t∈iV ns letters most count,∀ c∈t,c∈letters):=by
 refine ⟨by simp [iV],?_,fun hl t ht c hc=>?_⟩
 ·induction count with
  | zero=>simp [iV]
  | succ n ih =>
   have:=pf ns letters most n h0
   simp only [iV,List.range_succ,ZD,Z8,Zt,Zp,Xn,ZL,List.flatten_nil,ZK] at ih ⊢
   rw [Nat.succ_mul]
   omega
 ·obtain ⟨j,_,rfl⟩:=Z9.mp ht
  exact pC ns letters most j hl c hc
theorem qW (ns:X8) (letters:Tx) (most count:Int) (cell:T) (h0:0<=most) (h1:most < 1000) (c0:0<=count) (c1:count<=8) (hl:0 < letters.length) (hl2:letters.length < 1000) :
  fF 1 (cS 0) (de (ab 3)) none (bD dy (ae (ab 1) (ae (ab 3) (ae (ab 5) (ae (ab 0) ai))))) [some (.pu (.scr ns)),some (.pu cell),some (.pu (.str letters)),some (.pu (.int count)),some (.pu (.int most))] =
   some (.fr,.lst ((iV ns letters most count.toNat).map .str)):=by
 have:=g0 (k:=1) (tg:=cS 0) (it:=de (ab 3)) (elt:=bD dy (ae (ab 1) (ae (ab 3) (ae (ab 5) (ae (ab 0) ai)))))
  (η:=[some (.pu (.scr ns)),some (.pu cell),some (.pu (.str letters)),some (.pu (.int count)),some (.pu (.int most))]) (m:=.fr) (fun (j:Nat)=>T.int (j:Int)) (fun j=>T.str (textOf ns letters most j)) (List.range count.toNat)
  (by rw [il (m:=.fr) (j:=count) (by simp) (by omega),ku]) rfl (by rw [Z0];omega) (fun j hj=>⟨_,by simp;rfl,by
   have:=YV.mp hj
   simp [Au ns letters most j (by omega) hl hl2 h0 h1]⟩)
 rw [this]
 simp [iV]
set_option maxHeartbeats 8000000 in
theorem yM (ns:X8):∃ bk:List Tx,aB [.scr ns]=some (.fr,.lst (bk.map .str))/\bk.length<=8/\bk.flatten.length<=60/\∀ t∈bk,∀ c∈t,97<=c/\c<=122:=by
 have l0:=gZ ns 0
 simp only [Int.natCast_zero] at l0
 generalize cellAt ns 0=cell at l0
 have a0:=Yy (cell / 2) (b:=6) (by decide)
 have a1:=ZF (cell / 2) (b:=6) (by decide)
 have li:=AB (m:=.fr) (n:=.fr) T.str cj (cell / 2 % 6) [] a0 (by simpa [cj] using a1) rfl
 simp only [cj,Zp,Xn] at li
 obtain ⟨k1,k2,k3⟩:=lu (cell / 2 % 6) a0 a1
 simp only [cj] at k1 k2 k3
 generalize hL:(List.getD [[97,98],[97,98,99],[97,98,99,100],[97,122],[97],[97,98,99,100,101,102,103,104,105,106,107,108,109,110,111,112,113,114,115,116,117,118,119,120,121,122]] (cell / 2 % 6).toNat [])=L at li k1 k2 k3
 have main:∀ (count most:Int),0<=most->most < 1000->0<=count->count<=8->count.toNat * most.toNat<=60 →
   aB [.scr ns]=some (.fr,.lst ((iV ns L most count.toNat).map .str))->∃ bk:List Tx,aB [.scr ns]=some (.fr,.lst (bk.map .str))/\bk.length<=8/\bk.flatten.length<=60/\∀ t∈bk,∀ c∈t,97<=c/\c<=122:=fun count most h0 h1 h2 h3 h4 e=>by
  obtain ⟨b1,b2,b3⟩:=uY ns L most count.toNat h0
  exact ⟨_,e,by omega,by omega,fun t ht c hc=>k3 c (b3 k1 t ht c hc)⟩
 have b0:=Yy (cell / 12) (b:=8) (by decide)
 have b1:=ZF (cell / 12) (b:=8) (by decide)
 have bc:=fun most count h0 h1 c0 c1=>qW ns L most count (.int cell) h0 h1 c0 c1 k1 k2
 have e8:cell / 12 % 8=0\/cell / 12 % 8=1\/cell / 12 % 8=2\/cell / 12 % 8=3\/cell / 12 % 8=4\/cell / 12 % 8=5\/cell / 12 % 8=6\/cell / 12 % 8=7:=by omega
 by_cases five:cell / 96 % 8=5
 ·rcases e8 with h | h | h | h | h | h | h | h
  ·refine main 1 60 (by omega) (by omega) (by omega) (by omega) (by decide) ?_
   simp [-aJ,aB,l0,aA,ay,cy,li]
   simp [h,five,ixP,bc,aA,ay]
  ·refine main 2 30 (by omega) (by omega) (by omega) (by omega) (by decide) ?_
   simp [-aJ,aB,l0,aA,ay,cy,li]
   simp [h,five,ixP,bc,aA,ay]
  ·refine main 3 20 (by omega) (by omega) (by omega) (by omega) (by decide) ?_
   simp [-aJ,aB,l0,aA,ay,cy,li]
   simp [h,five,ixP,bc,aA,ay]
  ·refine main 4 15 (by omega) (by omega) (by omega) (by omega) (by decide) ?_
   simp [-aJ,aB,l0,aA,ay,cy,li]
   simp [h,five,ixP,bc,aA,ay]
  ·refine main 2 30 (by omega) (by omega) (by omega) (by omega) (by decide) ?_
   simp [-aJ,aB,l0,aA,ay,cy,li]
   simp [h,five,ixP,bc,aA,ay]
  ·refine main 1 60 (by omega) (by omega) (by omega) (by omega) (by decide) ?_
   simp [-aJ,aB,l0,aA,ay,cy,li]
   simp [h,five,ixP,bc,aA,ay]
  ·refine main 0 60 (by omega) (by omega) (by omega) (by omega) (by decide) ?_
   simp [-aJ,aB,l0,aA,ay,cy,li]
   simp [h,five,ixP,bc,aA,ay]
  ·refine main 8 7 (by omega) (by omega) (by omega) (by omega) (by decide) ?_
   simp [-aJ,aB,l0,aA,ay,cy,li]
   simp [h,five,ixP,bc,aA,ay]
 ·rcases e8 with h | h | h | h | h | h | h | h
  ·refine main 1 24 (by omega) (by omega) (by omega) (by omega) (by decide) ?_
   simp [-aJ,aB,l0,aA,ay,cy,li]
   simp [h,five,ixP,bc,aA,ay]
  ·refine main 2 12 (by omega) (by omega) (by omega) (by omega) (by decide) ?_
   simp [-aJ,aB,l0,aA,ay,cy,li]
   simp [h,five,ixP,bc,aA,ay]
  ·refine main 3 8 (by omega) (by omega) (by omega) (by omega) (by decide) ?_
   simp [-aJ,aB,l0,aA,ay,cy,li]
   simp [h,five,ixP,bc,aA,ay]
  ·refine main 4 6 (by omega) (by omega) (by omega) (by omega) (by decide) ?_
   simp [-aJ,aB,l0,aA,ay,cy,li]
   simp [h,five,ixP,bc,aA,ay]
  ·refine main 2 12 (by omega) (by omega) (by omega) (by omega) (by decide) ?_
   simp [-aJ,aB,l0,aA,ay,cy,li]
   simp [h,five,ixP,bc,aA,ay]
  ·refine main 1 24 (by omega) (by omega) (by omega) (by omega) (by decide) ?_
   simp [-aJ,aB,l0,aA,ay,cy,li]
   simp [h,five,ixP,bc,aA,ay]
  ·refine main 0 6 (by omega) (by omega) (by omega) (by omega) (by decide) ?_
   simp [-aJ,aB,l0,aA,ay,cy,li]
   simp [h,five,ixP,bc,aA,ay]
  ·refine main 8 3 (by omega) (by omega) (by omega) (by omega) (by decide) ?_
   simp [-aJ,aB,l0,aA,ay,cy,li]
   simp [h,five,ixP,bc,aA,ay]
end T10
end
section
namespace T10
open VS AU
theorem jR:∀ l:List Tx,cY (l.map T.str)=true
 | []=>rfl
 | _ :: l=>by
  rw [Zp]
  show (true && cY _)=true
  rw [jR l]
  rfl
theorem lT (bk:List Tx):cB bk=bk.flatten.length:=by
 unfold cB
 rw [List.length_flatten]
theorem qA {a b:List Tx} (h:a.Perm b):cB a=cB b:=by
 induction h with
 | nil=>rfl
 | cons x _ ih=>unfold cB at *;rw [Zp,Zp,Yb,Yb,ih]
 | swap x y l=>unfold cB;simp only [Zp,Yb];omega
 | trans _ _ i1 i2=>rw [i1,i2]
theorem nB {a b:List Tx} (h1:∀ t∈a,t=[]\/∃ u∈b,t <+: u) (h2:∀ t∈b,t=[]\/∃ u∈a,t <+: u) (p:Tx):Hd a p ↔ Hd b p:=by
 have key:∀ {a b:List Tx},(∀ t∈a,t=[]\/∃ u∈b,t <+: u)->Hd a p->Hd b p:=fun {a b} h hp=>by
  rcases hp with hp | ⟨t,ht,hp⟩
  ·exact .inl hp
  ·rcases h t ht with rfl | ⟨u,hu,q⟩
   ·exact .inl (List.prefix_nil.mp hp)
   ·exact .inr ⟨u,hu,hp.trans q⟩
 exact ⟨key h1,key h2⟩
theorem vW (r:Row):eqD 59 (mJ r)=true:=by
 have h1:eqD 58 (lkT r.2.2.1)=true:=by cases r.2.2.1 <;> rfl
 have h2:eqD 58 (stT r.2.2.2)=true:=by
  show (r.2.2.2.map fun p=>T.tup [.str [p.1],.int (p.2:Int)]).all (eqD 57)=true
  rw [Yw]
  intro x hx
  obtain ⟨p,_,rfl⟩:=Z9.mp hx
  rfl
 show (true && (true && (eqD 58 (lkT r.2.2.1) && (eqD 58 (stT r.2.2.2) && true))))=true
 rw [h1,h2]
 rfl
theorem jd (t:List Row):eqD 60 (tbT t)=true:=by
 show (t.map mJ).all (eqD 59)=true
 rw [Yw]
 intro x hx
 obtain ⟨r,_,rfl⟩:=Z9.mp hx
 exact vW r
theorem p7 {m n:Md} {s t:List Row} (h:s=t):oNe (m,tbT s) (n,tbT t)=some (.fr,.bl false):=by
 subst h
 exact A7 (jd s) (jd s) (kM 60 _ (jd s))
theorem BF {m n:Md} {s t:List Row} (h:s=t):oEq (m,tbT s) (n,tbT t)=some (.fr,.bl true):=by
 subst h
 exact lO (jd s) (jd s) (kM 60 _ (jd s))
theorem x6 {a:Ex} {η:Env} {m:Md} {l:List Tx} (h:a η=some (m,.lst (l.map .str))) (hl:l.length<=8):eN eQ (ae a ai) η=some (.fr,.lst (l.map .str)):=hV (xv (r:=ai) h rfl) (by
 show mkL m (l.map T.str)=_
 unfold mkL
 rw [Zq (by rw [Zy];show l.length<=16777216;omega),jR]
 rfl)
theorem ji {tg:Tg} {body:Sx} (env:Wz->Env):∀ (l:Ww) (z:Wz),(∀ t∈l,∀ z,tg t (env z)=some (env (pc t)))->(∀ t∈l,body (env (pc t))=some (.nx (env (pc t))))->∃ z',forL tg body l (env z)=some (.nx (env z'))
 | [],z,_,_=>⟨z,rfl⟩
 | t :: l,z,h1,h2=>by
  obtain ⟨z',q⟩:=ji env l (pc t) (fun u hu=>h1 u (Zv _ hu)) (fun u hu=>h2 u (Zv _ hu))
  exact ⟨z',(fI (h1 t Zx z) (h2 t Zx)).trans q⟩
theorem jV {ns:X8} {k:Nat} {e:Ex} {η:Env} {m:Md} (h0:ab 0 η=some (m,.scr ns)) (h:e η=some (.fr,.int (k:Int))):bD aC (ae (ab 0) (ae e ai)) η=some (.fr,.int (cellAt ns k)):=iU (xv h0 (xv (r:=ai) h rfl)) (gZ ns k)
section
variable {ns:X8} {B:List Tx} {tb:T}
theorem uz (h8:B.length<=8):∀ (m k:Nat) (o:List Tx) (z:Wz),B.length=k+m->o.Perm (B.take k)->∃ (o':List Tx) (z':Wz),forL (cS 4) gF ((List.range' k m).map fun (j:Nat)=>T.int (j:Int)) [pc (.scr ns),pc (.lst (B.map .str)),pc tb,oc (.lst (o.map .str)),z,none,none,none,none,none,none] =
   some (.nx [pc (.scr ns),pc (.lst (B.map .str)),pc tb,oc (.lst (o'.map .str)),z',none,none,none,none,none,none])/\o'.Perm B:=by
 intro m
 induction m with
 | zero =>
  intro k o z hk ho
  refine ⟨o,z,rfl,?_⟩
  rw [YS (by omega)] at ho
  exact ho
 | succ m ih =>
  intro k o z hk ho
  have hkB:k < B.length:=by omega
  have hol:o.length=k:=by rw [ho.length_eq,YU];omega
  have c0:=Yy (cellAt ns (12+k)) (b:=(o.length:Int)+1) (by omega)
  have c1:=ZF (cellAt ns (12+k)) (b:=(o.length:Int)+1) (by omega)
  generalize hq:cellAt ns (12+k) % ((o.length:Int)+1)=q at c0 c1
  obtain ⟨o',z',e,hp⟩:=ih (k+1) (o.take q.toNat++B.getD k [] :: o.drop q.toNat) (pc (.int (k:Int))) (by omega) (by
   have h1:B.take (k+1)=B.take k++[B.getD k []]:=by
    rw [List.take_add_one,Zm hkB,Zs,Zm hkB]
    rfl
   rw [h1]
   refine List.perm_middle.trans ?_
   rw [Xg]
   exact (List.Perm.cons _ ho).trans (List.perm_append_singleton _ _).symm)
  refine ⟨o',z',?_,hp⟩
  rw [List.range'_succ,Zp]
  refine (fI (η1:=[pc (.scr ns),pc (.lst (B.map .str)),pc tb,oc (.lst (o.map .str)),pc (.int (k:Int)),none,none,none,none,none,none]) rfl ?_).trans e
  have a1:e2 oMod (bD aC (ae (ab 0) (ae (e2 cH (eC (.int 12)) (ab 4)) ai))) (e2 cH (eN cn (ae (ab 3) ai)) (eC (.int 1))) [pc (.scr ns),pc (.lst (B.map .str)),pc tb,oc (.lst (o.map .str)),pc (.int (k:Int)),none,none,none,none,none,none]=some (.fr,.int q):=by
   refine e2v (jV (ns:=ns) (k:=12+k) (m:=.fr) rfl (e2v (x:=(.fr,.int 12)) (y:=(.fr,.int (k:Int))) rfl rfl ?_)) (e2v (hV (v:=(.fr,.int (o.length:Int))) (xv (x:=(.bo,.lst (o.map .str))) rfl rfl) ?_) (y:=(.fr,.int 1)) rfl rfl) ?_
   ·show some (Md.fr,T.int ((12:Int)+(k:Int)))=_
    rw [show (12:Int)+(k:Int)=((12+k:Nat):Int) by omega]
   ·show some (Md.fr,T.int (((o.map T.str).length:Nat):Int))=_
    rw [Zy]
   ·rw [aA (by omega),hq]
  have a2:e2 aJ (ab 1) (ab 4) [pc (.scr ns),pc (.lst (B.map .str)),pc tb,oc (.lst (o.map .str)),pc (.int (k:Int)),none,none,none,none,none,none]=some (.fr,.str (B.getD k [])):=e2v (x:=(.pu,.lst (B.map .str))) (y:=(.fr,.int (k:Int))) rfl rfl (jF T.str B k [] hkB)
  unfold gF
  have mi:mU (.lst (o.map T.str)) [(.fr,.int q),(.fr,.str (B.getD k []))]=some (.lst ((o.take q.toNat++B.getD k [] :: o.drop q.toNat).map T.str),(.fr,.non)):=by
   show (if (cY (o.map T.str) && cY [T.str (B.getD k [])])=true then (if 0<=q/\q<=(o.map T.str).length/\(o.map T.str).length < dS then some (T.lst ((o.map T.str).take q.toNat++T.str (B.getD k []) :: (o.map T.str).drop q.toNat),((Md.fr,T.non):Val)) else none) else none)=_
   rw [Zq (by rw [jR];rfl),Zq ⟨c0,by rw [Zy];omega,by rw [Zy];show o.length < 16777216;omega⟩,ZD,Zp,List.map_take,List.map_drop]
  show (((ae _ (ae _ ai) [pc (.scr ns),pc (.lst (B.map .str)),pc tb,oc (.lst (o.map .str)),pc (.int (k:Int)),none,none,none,none,none,none]).bind _).map _)=_
  rw [xv a1 (xv (r:=ai) a2 rfl),Zu]
  show (((mU (.lst (o.map T.str)) [(.fr,.int q),(.fr,.str (B.getD k []))]).map _).map _)=_
  rw [mi]
  rfl
end
theorem yH {η:Env} {a b:Ex} {m n:Md} {s t:List Row} (h1:a η=some (m,tbT s)) (h2:b η=some (n,tbT t)) (h:t.length<=s.length):e2 oLt (eN cn (ae a ai)) (eN cn (ae b ai)) η=some (.fr,.bl false) :=
 e2v (x:=(.fr,.int (s.length:Int))) (y:=(.fr,.int (t.length:Int))) (hV (xv (r:=ai) h1 rfl) (by
  show some (Md.fr,T.int (((s.map mJ).length:Nat):Int))=_
  rw [Zy])) (hV (xv (r:=ai) h2 rfl) (by
  show some (Md.fr,T.int (((t.map mJ).length:Nat):Int))=_
  rw [Zy])) (by
  show some (Md.fr,T.bl (decide ((s.length:Int) < (t.length:Int))))=_
  rw [decide_eq_false (by omega)])
theorem ne_nil:∀ B:List Tx,B ≠ []->eqT (.lst (B.map T.str)) (.lst [])=false
 | [],h=>absurd rfl h
 | t :: r,_=>by simp
noncomputable abbrev eA (ns:X8) (B o:List Tx) (l:Env):Env:=pc (.scr ns) :: pc (.lst (B.map .str)) :: pc (tbT (tabOf B)) :: pc (.lst (o.map .str)) :: l
noncomputable abbrev eB (ns:X8) (B o:List Tx) (z:Wz) (u:Tx) (e s:Nat) (l:Env):Env:=eA ns B o (z :: pc (.str u) :: pc (.int (e:Int)) :: pc (.int (s:Int)) :: l)
noncomputable abbrev xM (a:Ex):Ex:=cJ 1 aN (eNew 1 ax (ae a ai)) ai
theorem AG (ns:X8) {bk:List Tx} (eb:aB [.scr ns]=some (.fr,.lst (bk.map .str))) (h8:bk.length<=8) (h60:bk.flatten.length<=60) (haz:∀ t∈bk,∀ c∈t,97<=c/\c<=122):pP [.scr ns]=some (.fr,.bl true):=by
 obtain ⟨B,hB⟩:∃ B,B=bk.take 7:=⟨_,rfl⟩
 have b7:B.length<=7:=by rw [hB,YU];omega
 have bs:cB B<=60:=by
  have h:=congrArg cB (Xg 7 bk)
  rw [fP,← hB] at h
  rw [lT bk] at h
  omega
 have baz:∀ t∈B,∀ c∈t,97<=c/\c<=122:=fun t ht=>haz t (by rw [hB] at ht;exact List.mem_of_mem_take ht)
 have blen:∀ t∈B,t.length<=60:=fun t ht=>by
  have:t.length<=cB B:=by
   rw [lT]
   exact List.Sublist.length_le (List.sublist_flatten_of_mem ht)
  omega
 have BB:Bok B:=⟨by omega,by omega,baz⟩
 have s1:∀ z2 z3 z4 z5 z6 z7 z8 z9 z10:Wz,aW 1 (eSl (bD aB (ae (ab 0) ai)) none (some (eC (.int 7)))) [pc (.scr ns),none,z2,z3,z4,z5,z6,z7,z8,z9,z10]=some (.nx [pc (.scr ns),pc (.lst (B.map .str)),z2,z3,z4,z5,z6,z7,z8,z9,z10]):=fun z2 z3 z4 z5 z6 z7 z8 z9 z10=>by
  refine bV (m:=.fr) (t:=.lst (B.map .str)) ?_ (by decide) (by decide:1 < 11)
  have e1:bD aB (ae (ab 0) ai) [pc (.scr ns),none,z2,z3,z4,z5,z6,z7,z8,z9,z10]=some (.fr,.lst (bk.map .str)):=iU (xv (x:=(.fr,.scr ns)) (r:=ai) rfl rfl) eb
  show ((bD aB (ae (ab 0) ai) [pc (.scr ns),none,z2,z3,z4,z5,z6,z7,z8,z9,z10]).bind _)=_
  rw [e1,Zu]
  show mkL .fr (cut (bk.map T.str) none (some ((7:Nat):Int)))=_
  rw [oO,← List.map_take,← hB]
  unfold mkL
  rw [Zq (by rw [Zy];show B.length<=16777216;omega),jR]
  rfl
 have s2:aW 2 (xM (eN eQ (ae (ab 1) ai))) [pc (.scr ns),pc (.lst (B.map .str)),none,none,none,none,none,none,none,none,none]=some (.nx [pc (.scr ns),pc (.lst (B.map .str)),pc (tbT (tabOf B)),none,none,none,none,none,none,none,none]) :=
  bV (m:=.fr) (gU BB (x6 (m:=.pu) rfl (by omega))) (by decide) (by decide:2 < 11)
 obtain ⟨o,z4,lo,hp⟩:=uz (ns:=ns) (B:=B) (tb:=tbT (tabOf B)) (by omega) B.length 0 [] none (by omega) (by rw [List.take_zero])
 have s4:hZ (cS 4) (de (eN cn (ae (ab 1) ai))) gF [pc (.scr ns),pc (.lst (B.map .str)),pc (tbT (tabOf B)),oc (.lst []),none,none,none,none,none,none,none]=some (.nx [pc (.scr ns),pc (.lst (B.map .str)),pc (tbT (tabOf B)),oc (.lst (o.map .str)),z4,none,none,none,none,none,none]):=by
  refine (hR (m:=.fr) (l:=(List.range' 0 B.length).map fun (j:Nat)=>T.int (j:Int)) ?_ rfl).trans lo
  rw [il (m:=.fr) (j:=(B.length:Int)) (hV (xv (x:=(.pu,.lst (B.map .str))) (r:=ai) rfl rfl) (by
   show some (Md.fr,T.int (((B.map T.str).length:Nat):Int))=_
   rw [Zy])) (by omega),ku,List.range_eq_range']
  rfl
 have ol:o.length=B.length:=hp.length_eq
 have oaz:∀ t∈o,∀ c∈t,97<=c/\c<=122:=fun t ht=>baz t (hp.mem_iff.mp ht)
 have os:cB o<=60:=by rw [qA hp];exact bs
 have BO:Bok o:=⟨by omega,by omega,oaz⟩
 have hdO:∀ p,Hd B p ↔ Hd o p:=nB (fun t ht=>.inr ⟨t,hp.mem_iff.mpr ht,Yk⟩) (fun t ht=>.inr ⟨t,hp.mem_iff.mp ht,Yk⟩)
 have tO:tabOf o=tabOf B:=gP BB BO hdO
 have c6:e2 oNe (xM (eN eQ (ae (ab 3) ai))) (ab 2) (eA ns B o [z4,none,none,none,none,none,none])=some (.fr,.bl false) :=
  e2v (gU BO (x6 (m:=.pu) rfl (by omega))) (y:=(.pu,tbT (tabOf B))) rfl (p7 tO)
 have pre:∀ rest:Sx,ar (aW 1 (eSl (bD aB (ae (ab 0) ai)) none (some (eC (.int 7))))) (ar (aW 2 (xM (eN eQ (ae (ab 1) ai)))) (ar (ly 3 (dz ai)) (ar (hZ (cS 4) (de (eN cn (ae (ab 1) ai))) gF) (ar (oK 3) (ar (sIf (e2 oNe (xM (eN eQ (ae (ab 3) ai))) (ab 2)) (eJ (eC (.bl false))) eG) rest))))) [pc (.scr ns),none,none,none,none,none,none,none,none,none,none]=rest (eA ns B o [z4,none,none,none,none,none,none]):=fun rest =>
  (aq (s1 _ _ _ _ _ _ _ _ _)).trans ((aq s2).trans ((aq rfl).trans ((aq s4).trans ((aq rfl).trans (aq ((ju c6).trans rfl))))))
 by_cases h0:B=[]
 ·refine jB (η:=(eA ns B o [z4,none,none,none,none,none,none])) rfl ((pre _).trans (jS ((oW (m:=.fr) ?_).trans (gK ?_))))
  ·subst h0
   rfl
  ·have B2:Bok [[],[]]:=⟨by decide,by decide,by decide⟩
   refine e2v (gU B2 (m:=.fr) rfl) (y:=(.pu,tbT (tabOf B))) rfl (BF (gP BB B2 ?_))
   rw [h0]
   exact nB (fun t ht=>nomatch ht) (fun t ht=>.inl (by simpa using ht))
 ·have hpos:0 < B.length:=List.length_pos_iff.mpr h0
  have c7:e2 oEq (ab 1) (dz ai) (eA ns B o [z4,none,none,none,none,none,none])=some (.fr,.bl false):=by
   refine e2v (x:=(.pu,.lst (B.map .str))) (y:=(.fr,.lst [])) rfl rfl (lO ?_ rfl ?_)
   ·show (B.map T.str).all (eqD 59)=true
    rw [Yw]
    intro x hx
    obtain ⟨t,_,rfl⟩:=Z9.mp hx
    rfl
   ·exact ne_nil B h0
  have q0:=Yy (cellAt ns 10) (b:=(B.length:Int)) (by omega)
  have q1:=ZF (cellAt ns 10) (b:=(B.length:Int)) (by omega)
  obtain ⟨q,hq⟩:∃ q:Nat,cellAt ns 10 % (B.length:Int)=(q:Int):=⟨(cellAt ns 10 % (B.length:Int)).toNat,by omega⟩
  have qlt:q < B.length:=by omega
  obtain ⟨u,hu⟩:∃ u,u=B.getD q []:=⟨_,rfl⟩
  have uB:u∈B:=by rw [hu,Zs,Zm qlt];exact Z7 qlt
  have u60:=blen u uB
  have uaz:=baz u uB
  have r0:=Yy (cellAt ns 10 / 8) (b:=(u.length:Int)+1) (by omega)
  have r1:=ZF (cellAt ns 10 / 8) (b:=(u.length:Int)+1) (by omega)
  obtain ⟨e,he⟩:∃ e:Nat,cellAt ns 10 / 8 % ((u.length:Int)+1)=(e:Int):=⟨(cellAt ns 10 / 8 % ((u.length:Int)+1)).toNat,by omega⟩
  have t0:=Yy (cellAt ns 10 / 512) (b:=(e:Int)+1) (by omega)
  have t1:=ZF (cellAt ns 10 / 512) (b:=(e:Int)+1) (by omega)
  obtain ⟨s,hs⟩:∃ s:Nat,cellAt ns 10 / 512 % ((e:Int)+1)=(s:Int):=⟨(cellAt ns 10 / 512 % ((e:Int)+1)).toNat,by omega⟩
  have se:s<=e:=by omega
  have s8:aW 5 (e2 aJ (ab 1) (e2 oMod (bD aC (ae (ab 0) (ae (eC (.int 10)) ai))) (eN cn (ae (ab 1) ai)))) (eA ns B o [z4,none,none,none,none,none,none])=some (.nx (eA ns B o [z4,pc (.str u),none,none,none,none,none])):=by
   refine bV (m:=.fr) (t:=.str u) ?_ (by decide) (by decide:5 < 11)
   rw [hu]
   refine e2v (x:=(.pu,.lst (B.map .str))) (y:=(.fr,.int (q:Int))) rfl (e2v (jV (ns:=ns) (k:=10) (m:=.fr) rfl rfl) (hV (v:=(.fr,.int (B.length:Int))) (xv (x:=(.pu,.lst (B.map .str))) rfl rfl) ?_) ?_) (jF T.str B q [] qlt)
   ·show some (Md.fr,T.int (((B.map T.str).length:Nat):Int))=_
    rw [Zy]
   ·rw [aA (by omega),hq]
  have s9:aW 6 (e2 oMod (e2 eI (bD aC (ae (ab 0) (ae (eC (.int 10)) ai))) (eC (.int 8))) (e2 cH (eN cn (ae (ab 5) ai)) (eC (.int 1)))) (eA ns B o [z4,pc (.str u),none,none,none,none,none])=some (.nx (eA ns B o [z4,pc (.str u),pc (.int (e:Int)),none,none,none,none])):=by
   refine bV (m:=.fr) (t:=.int (e:Int)) ?_ (by decide) (by decide:6 < 11)
   refine e2v (e2v (jV (ns:=ns) (k:=10) (m:=.fr) rfl rfl) (y:=(.fr,.int 8)) rfl (ay (by omega))) (y:=(.fr,.int ((u.length:Int)+1))) rfl ?_
   rw [aA (by omega),he]
  have s10:aW 7 (e2 oMod (e2 eI (bD aC (ae (ab 0) (ae (eC (.int 10)) ai))) (eC (.int 512))) (e2 cH (ab 6) (eC (.int 1)))) (eA ns B o [z4,pc (.str u),pc (.int (e:Int)),none,none,none,none])=some (.nx (eB ns B o z4 u e s [none,none,none])):=by
   refine bV (m:=.fr) (t:=.int (s:Int)) ?_ (by decide) (by decide:7 < 11)
   refine e2v (e2v (jV (ns:=ns) (k:=10) (m:=.fr) rfl rfl) (y:=(.fr,.int 512)) rfl (ay (by omega))) (y:=(.fr,.int ((e:Int)+1))) rfl ?_
   rw [aA (by omega),hs]
  have more:∀ v:Tx,v <+: u->∃ (X1:Bok (o++[v])) (X2:Bok ([v]++B)),tabOf (o++[v])=tabOf B/\tabOf ([v]++B)=tabOf B:=fun v hv=>by
   have vl:v.length<=60:=ZI hv.length_le u60
   have va:∀ c∈v,97<=c/\c<=122:=fun c hc=>uaz c (hv.subset hc)
   have sv:cB [v]=v.length:=by unfold cB;simp
   have X1:Bok (o++[v]):=⟨by rw [Zt,ZO];omega,by rw [fP,sv];omega,fun t ht=>by
    rcases Zg.mp ht with ht | ht
    ·exact oaz t ht
    ·rw [Zj.mp ht];exact va⟩
   have X2:Bok ([v]++B):=⟨by rw [Zt,ZO];omega,by rw [fP,sv];omega,fun t ht=>by
    rcases Zg.mp ht with ht | ht
    ·rw [Zj.mp ht];exact va
    ·exact baz t ht⟩
   refine ⟨X1,X2,gP BB X1 (nB (fun t ht=>.inr ⟨t,Z1 _ (hp.mem_iff.mpr ht),Yk⟩) (fun t ht=>.inr ?_)),gP BB X2 (nB (fun t ht=>.inr ⟨t,ZU _ ht,Yk⟩) (fun t ht=>.inr ?_))⟩
   ·rcases Zg.mp ht with ht | ht
    ·exact ⟨t,hp.mem_iff.mp ht,Yk⟩
    ·rw [Zj.mp ht];exact ⟨u,uB,hv⟩
   ·rcases Zg.mp ht with ht | ht
    ·rw [Zj.mp ht];exact ⟨u,uB,hv⟩
    ·exact ⟨t,ht,Yk⟩
  obtain ⟨z8,f11⟩:=ji (tg:=cS 8) (body:=kW) (fun z=>(eB ns B o z4 u e s [z,none,none])) ([u,u.take e,[]].map T.str) none (fun t _ z=>rfl) (fun t ht=>by
   obtain ⟨v,hv,rfl⟩:=Z9.mp ht
   have vu:v <+: u:=by
    rcases Zi.mp hv with rfl | hv
    ·exact Yk
    ·rcases Zi.mp hv with rfl | hv
     ·exact List.take_prefix _ _
     ·rw [Zj.mp hv];exact List.nil_prefix
   obtain ⟨X1,X2,y1,y2⟩:=more v vu
   have one:dz (ae (ab 8) ai) (eB ns B o z4 u e s [pc (.str v),none,none])=some (.fr,.lst ([v].map .str)):=rfl
   refine (ju (m:=.fr) (xV (m:=.fr) (x:=false) ?_ (fun _=>?_) (fun h=>by cases h))).trans rfl
   ·exact e2v (gU X1 (pq (x:=o) (y:=[v]) (m:=.pu) rfl one (by show o.length+1<=16777216;omega))) (y:=(.pu,tbT (tabOf B))) rfl (p7 y1)
   ·exact e2v (gU X2 (pq (x:=[v]) (y:=B) (n:=.pu) one rfl (by show 1+B.length<=16777216;omega))) (y:=(.pu,tbT (tabOf B))) rfl (p7 y2))
  have s11:hZ (cS 8) (gR (dz (ae (ab 5) (ae (eSl (ab 5) none (some (ab 6))) (ae (eC (.str [])) ai))))) kW (eB ns B o z4 u e s [none,none,none])=some (.nx (eB ns B o z4 u e s [z8,none,none])):=by
   refine (hR (m:=.fr) (l:=[u,u.take e,[]].map T.str) ?_ rfl).trans f11
   have sl:eSl (ab 5) none (some (ab 6)) (eB ns B o z4 u e s [none,none,none])=some (.fr,.str (u.take e)):=by
    show some (Md.fr,T.str (cut u none (some (e:Int))))=_
    rw [oO]
   show ((dz (ae (ab 5) (ae (eSl (ab 5) none (some (ab 6))) (ae (eC (.str [])) ai))) _).bind vZ)=_
   rw [t4 [u,u.take e,[]] (xv (x:=(.fr,.str u)) rfl (xv sl (xv (x:=(.fr,.str [])) rfl rfl))) (by show 3<=16777216;decide)]
   rfl
  obtain ⟨w,hw⟩:∃ w,w=cut u (some (s:Int)) (some (e:Int)):=⟨_,rfl⟩
  have wl:w.length<=60:=by rw [hw];exact ZI (AM _ _ _) u60
  have sw:cB [w]=w.length:=by unfold cB;simp
  have BW:Bok (B++[w]):=⟨by rw [Zt,ZO];omega,by rw [fP,sw];omega,fun t ht=>by
   rcases Zg.mp ht with ht | ht
   ·exact baz t ht
   ·rw [Zj.mp ht,hw];exact fun c hc=>uaz c (xT _ _ _ hc)⟩
  have lst_w:∀ z9:Wz,dz (ae (eSl (ab 5) (some (ab 7)) (some (ab 6))) ai) (eB ns B o z4 u e s [z8,z9,none])=some (.fr,.lst ([w].map .str)):=fun z9=>by
   refine t4 [w] (xv (x:=(.fr,.str w)) ?_ rfl) (by show 1<=16777216;decide)
   rw [hw]
   rfl
  have s12:aW 9 (xM (e2 cH (ab 1) (dz (ae (eSl (ab 5) (some (ab 7)) (some (ab 6))) ai)))) (eB ns B o z4 u e s [z8,none,none])=some (.nx (eB ns B o z4 u e s [z8,pc (tbT (tabOf (B++[w]))),none])) :=
   bV (m:=.fr) (gU BW (pq (x:=B) (y:=[w]) (m:=.pu) rfl (lst_w none) (by show B.length+1<=16777216;omega))) (by decide) (by decide:9 < 11)
  have c13:e2 oLt (eN cn (ae (ab 9) ai)) (eN cn (ae (ab 2) ai)) (eB ns B o z4 u e s [z8,pc (tbT (tabOf (B++[w]))),none])=some (.fr,.bl false):=yH (m:=.pu) (n:=.pu) rfl rfl (uo BB BW)
  obtain ⟨z10,f14⟩:=ji (tg:=cS 10) (body:=ke) (fun z=>(eB ns B o z4 u e s [z8,pc (tbT (tabOf (B++[w]))),z])) (B.map T.str) none (fun t _ z=>rfl) (fun t ht=>by
   obtain ⟨v,hv,rfl⟩:=Z9.mp ht
   refine (ju (m:=.fr) (o5 (m:=.fr) (x:=v.take (e - s) == w) ?_ (fun hx=>?_) (fun _=>rfl))).trans rfl
   ·have sl:eSl (ab 10) none (some (e2 jL (ab 6) (ab 7))) (eB ns B o z4 u e s [z8,pc (tbT (tabOf (B++[w]))),pc (.str v)])=some (.fr,.str (v.take (e - s))):=by
     show some (Md.fr,T.str (cut v none (some ((e:Int) - (s:Int)))))=_
     rw [show (e:Int) - (s:Int)=((e - s:Nat):Int) by omega,oO]
    refine e2v sl (y:=(.fr,.str w)) ?_ (lO rfl rfl ?_)
    ·rw [hw]
     rfl
    ·simp only [eqT]
   ·have hx':v.take (e - s)=w:=by simpa using hx
    refine e2v (x:=(.pu,tbT (tabOf (B++[w])))) (y:=(.pu,tbT (tabOf B))) rfl rfl (p7 (gP BB BW (nB (fun t ht=>.inr ⟨t,Z1 _ ht,Yk⟩) (fun t ht=>.inr ?_))))
    rcases Zg.mp ht with ht | ht
    ·exact ⟨t,ht,Yk⟩
    ·rw [Zj.mp ht,← hx'];exact ⟨v,hv,List.take_prefix _ _⟩)
  have s14:=(hR (tg:=cS 10) (it:=gR (ab 1)) (body:=ke) (η:=(eB ns B o z4 u e s [z8,pc (tbT (tabOf (B++[w]))),none])) (m:=.pu) (l:=B.map .str) rfl rfl).trans f14
  refine jB (η:=(eB ns B o z4 u e s [z8,pc (tbT (tabOf (B++[w]))),z10])) rfl ((pre _).trans ((aq ((ju c7).trans rfl)).trans ?_))
  exact (aq s8).trans ((aq s9).trans ((aq s10).trans ((aq s11).trans ((aq s12).trans ((aq ((ju c13).trans rfl)).trans ((aq s14).trans (gK rfl)))))))
theorem uI (ns:X8):pP [.scr ns]=some (.fr,.bl true):=by
 obtain ⟨bk,e,h8,h60,haz⟩:=yM ns
 exact AG ns e h8 h60 haz
end T10
end
section
namespace T10
open PySem PySem.Spec PyProof.Rows L2 VS
theorem qv {G:Gx} {X:Cx} {x:Str} {p:Pos} (i:Nat) (a:X.N[i]?=some x) (b:Vis X.env.scope x:=by exact Or.inl rfl) (c:(x == ("__debug__" : Str))=false:=by rfl) (d:(x == ("__classdict__" : Str))=false:=by rfl):Q (PV G X (.Name x p) (ab i)):=cK i a b c d
noncomputable def top (i:Nat):Stmt:=PySem.Challenge.pw_allparts_k10_whole_books_with_the_same_t.main.body.getD i (.Pass ⟨0,0,0,0⟩)
structure Blt (mg:X3):Prop where
 b_bool:mg "bool" = none
 b_dict:mg "dict" = none
 b_int:mg "int" = none
 b_isinstance:mg "isinstance" = none
 b_len:mg "len" = none
 b_list:mg "list" = none
 b_max:mg "max" = none
 b_min:mg "min" = none
 b_range:mg "range" = none
 b_sorted:mg "sorted" = none
 b_sum:mg "sum" = none
 b_tuple:mg "tuple" = none
 c_MOST_SIGNS:∃ t,mg "MOST_SIGNS" = some (.int 120 t)
 c_MOST_TEXTS:∃ t,mg "MOST_TEXTS" = some (.int 8 t)
noncomputable abbrev nsL:List Str:=["  ", "longs", "links", "ways", "texts", "heads", "nodes"]
theorem gJ {K:X0} {C D:Addr} {m:Option Addr}:eO ((gxO nsL K C D).at m):=vL (by decide +kernel) (by decide +kernel)
structure ObF (K:X0) (mg:X3) (C D:Addr):Prop where
 cl_Nodes:Cls K C
 mg_Nodes:mg "Nodes" = some (.ref C)
 n_longs_Nodes:bY K C "longs"
 n_links_Nodes:bY K C "links"
 n_ways_Nodes:bY K C "ways"
 n_texts_Nodes:bY K C "texts"
 n_heads_Nodes:bY K C "heads"
 n_nodes_Nodes:bY K C "nodes"
 cl_Machine:Cls K D
 mg_Machine:mg "Machine" = some (.ref D)
 n_longs_Machine:bY K D "longs"
 n_links_Machine:bY K D "links"
 n_ways_Machine:bY K D "ways"
 n_texts_Machine:bY K D "texts"
 n_heads_Machine:bY K D "heads"
 n_nodes_Machine:bY K D "nodes"
theorem d9 {K:X0} {mg:X3} {C D:Addr} {m:Option Addr} (O:ObF K mg C D):FldOk ((gxO nsL K C D).at m) K 1 "longs" := qF rfl O.cl_Nodes O.cl_Machine O.n_longs_Nodes O.n_longs_Machine
theorem eE {K:X0} {mg:X3} {C D:Addr} {m:Option Addr} (O:ObF K mg C D):FldOk ((gxO nsL K C D).at m) K 2 "links" := qF rfl O.cl_Nodes O.cl_Machine O.n_links_Nodes O.n_links_Machine
theorem dD {K:X0} {mg:X3} {C D:Addr} {m:Option Addr} (O:ObF K mg C D):FldOk ((gxO nsL K C D).at m) K 3 "ways" := qF rfl O.cl_Nodes O.cl_Machine O.n_ways_Nodes O.n_ways_Machine
theorem dG {K:X0} {mg:X3} {C D:Addr} {m:Option Addr} (O:ObF K mg C D):FldOk ((gxO nsL K C D).at m) K 4 "texts" := qF rfl O.cl_Nodes O.cl_Machine O.n_texts_Nodes O.n_texts_Machine
theorem iu {K:X0} {mg:X3} {C D:Addr} {m:Option Addr} (O:ObF K mg C D):FldOk ((gxO nsL K C D).at m) K 5 "heads" := qF rfl O.cl_Nodes O.cl_Machine O.n_heads_Nodes O.n_heads_Machine
theorem kf {K:X0} {mg:X3} {C D:Addr} {m:Option Addr} (O:ObF K mg C D):FldOk ((gxO nsL K C D).at m) K 6 "nodes" := qF rfl O.cl_Nodes O.cl_Machine O.n_nodes_Nodes O.n_nodes_Machine
section
variable {P:Program} {w:World} {K:X0} {mg:X3} {base:Heap} {C D:Addr}
noncomputable abbrev bM:Stmt:=inClass (top 11) 1
theorem iL:FnScope ["self", "long", "link", "ways"] ["self", "long", "link", "ways"] (af bM):=⟨rfl,rfl,rfl,by decide +kernel,rfl,by decide +kernel,by decide +kernel⟩
theorem aO {f:Addr} {fd:FuncData} (F:Fun K "new_node" "Nodes.new_node" bM f fd) (hm:Meth K C "new_node" f) (B:Blt mg) (O:ObF K mg C D) :
  MtAt P w K mg base 1 (gxO nsL K C D) 0 "new_node" ["self", "long", "link", "ways"] [false,false,true] aH:=rz F hm O.cl_Nodes (fu (by decide +kernel) (by decide +kernel)) iL rfl rfl (fun _ _ _ _ _ _ us hl=>by obtain ⟨_,_,_,_,rfl⟩:=L2.BX hl;rfl) fun a cdv A outer s H E hr =>
  (ah (iP gJ (b8 1 (d9 O) (aS 0 rfl (Or.inl rfl) rfl rfl) rfl) (aa (qv 1 rfl) ag rfl) rfl rfl rfl rfl rfl rfl rfl)
  (ah (iP gJ (b8 2 (eE O) (aS 0 rfl (Or.inl rfl) rfl rfl) rfl) (aa (qv 2 rfl) ag rfl) rfl rfl rfl rfl rfl rfl rfl)
  (ah (qI gJ (b8 3 (dD O) (aS 0 rfl (Or.inl rfl) rfl rfl) rfl) rfl rfl (Or.inl rfl) rfl rfl rfl rfl rfl rfl rfl rfl)
  (ak (ba (jU (bW B.b_len (aa (bh gJ (d9 O) (qv 0 rfl) rfl) ag rfl) rfl rfl rfl) aj))))))
noncomputable abbrev bO:Stmt:=inClass (top 11) 0
theorem ir:FnScope ["self"] ["self"] (af bO):=⟨rfl,rfl,rfl,by decide +kernel,rfl,by decide +kernel,by decide +kernel⟩
theorem cz {f:Addr} {fd:FuncData} (F:Fun K "__init__" "Nodes.__init__" bO f fd) (hm:Mk K C f) (B:Blt mg) (O:ObF K mg C D) (aO:MtAt P w K mg base 1 (gxO nsL K C D) 0 "new_node" ["self", "long", "link", "ways"] [false,false,true] aH) :
  InAt P w K mg base 2 (gxO nsL K C D) 0 0 "Nodes" ["self"] df:=CG F hm O.mg_Nodes ir rfl rfl (fun _ _ _ _ _ _ us hl=>by obtain ⟨_,rfl⟩:=L2.la hl;rfl) fun a cdv A outer s H E hr =>
  (ah (fN 0 1 gJ (d9 O) (bE ag) rfl (Or.inl rfl) rfl rfl rfl)
  (ah (fN 0 2 gJ (eE O) (bE ag) rfl (Or.inl rfl) rfl rfl rfl)
  (ah (fN 0 3 gJ (dD O) (bE ag) rfl (Or.inl rfl) rfl rfl rfl)
  (ak (qw (d4 gJ aO.at hr (by decide) (aS 0 rfl (Or.inl rfl) rfl rfl) (aa aj (aa nI (aa nK ag rfl) rfl) rfl) rfl rfl rfl) rfl)))))
noncomputable abbrev aU:Stmt:=inClass (top 11) 4
theorem bg:FnScope ["self", "node", "sign", "old", "long", "half"] ["self", "node", "sign"] (af aU):=⟨rfl,rfl,rfl,by decide +kernel,rfl,by decide +kernel,by decide +kernel⟩
theorem aT {f:Addr} {fd:FuncData} (F:Fun K "node_just_behind" "Nodes.node_just_behind" aU f fd) (hm:Meth K C "node_just_behind" f) (B:Blt mg) (O:ObF K mg C D) (aO:MtAt P w K mg base 1 (gxO nsL K C D) 0 "new_node" ["self", "long", "link", "ways"] [false,false,true] aH) :
  MtAt P w K mg base 2 (gxO nsL K C D) 0 "node_just_behind" ["self", "node", "sign"] [false,false] av:=rz F hm O.cl_Nodes (fu (by decide +kernel) (by decide +kernel)) bg rfl rfl (fun _ _ _ _ _ _ us hl=>by obtain ⟨_,_,_,rfl⟩:=L2.rQ hl;rfl) fun a cdv A outer s H E hr =>
  (ah (aw (kZ hr (bf (bh gJ (dD O) (qv 0 rfl) rfl) (qv 1 rfl) (fun _ _=>rfl) rfl) (qv 2 rfl) (fun _ _=>rfl) rfl) bg.nd rfl (Or.inl rfl) rfl (Or.inl rfl))
  (ah (aw (bF (bf (bh gJ (d9 O) (qv 0 rfl) rfl) (qv 1 rfl) (fun _ _=>rfl) rfl) aj) bg.nd rfl (Or.inl rfl) rfl (Or.inl rfl))
  (ah (bz (fY hr (bf (bh gJ (d9 O) (qv 0 rfl) rfl) (qv 3 rfl) (fun _ _=>rfl) rfl) (qv 4 rfl)) (ak (eY 3 rfl (Or.inl rfl) rfl rfl)) bj)
  (ah (kK (d4 gJ aO.at hr (by decide) (aS 0 rfl (Or.inl rfl) rfl rfl) (aa (qv 4 rfl) (aa (bf (bh gJ (eE O) (qv 0 rfl) rfl) (qv 3 rfl) (fun _ _=>rfl) rfl) (aa (qZ B.b_dict (aa (bf (bh gJ (dD O) (qv 0 rfl) rfl) (qv 3 rfl) (fun _ _=>rfl) rfl) ag rfl) rfl rfl) ag rfl) rfl) rfl) rfl rfl rfl) bg.nd rfl (Or.inl rfl) rfl (Or.inl rfl))
  (ah (iw gJ hr (b8 2 (eE O) (aS 0 rfl (Or.inl rfl) rfl rfl) rfl) (qv 3 rfl) (qv 5 rfl) (fun _=>rfl) rfl rfl rfl)
  (ah (gN Yo (eX (gX (g8 (qv 1 rfl)) (gk (fY hr (wV hr (bf (bh gJ (dD O) (qv 0 rfl) rfl) (qv 1 rfl) (fun _ _=>rfl) rfl) (qv 2 rfl) rfl rfl rfl rfl) (qv 3 rfl)))))
  (ah (iw gJ hr (nq hr (b8 3 (dD O) (aS 0 rfl (Or.inl rfl) rfl rfl) rfl) (qv 1 rfl) (fun _ _=>rfl) rfl) (qv 2 rfl) (qv 5 rfl) (fun _=>rfl) rfl rfl rfl)
  (ak (aw (bf (bh gJ (eE O) (qv 0 rfl) rfl) (qv 1 rfl) (fun _ _=>rfl) rfl) bg.nd rfl (Or.inl rfl) rfl (Or.inl rfl)))))
  (ak (eY 5 rfl (Or.inl rfl) rfl rfl))))))))
noncomputable abbrev bu:Stmt:=inClass (top 11) 3
theorem cf:FnScope ["self", "head", "sign", "fresh", "node"] ["self", "head", "sign"] (af bu):=⟨rfl,rfl,rfl,by decide +kernel,rfl,by decide +kernel,by decide +kernel⟩
theorem bI {f:Addr} {fd:FuncData} (F:Fun K "head_behind" "Nodes.head_behind" bu f fd) (hm:Meth K C "head_behind" f) (B:Blt mg) (O:ObF K mg C D) (aO:MtAt P w K mg base 1 (gxO nsL K C D) 0 "new_node" ["self", "long", "link", "ways"] [false,false,true] aH) (aT:MtAt P w K mg base 2 (gxO nsL K C D) 0 "node_just_behind" ["self", "node", "sign"] [false,false] av) :
  MtAt P w K mg base 3 (gxO nsL K C D) 0 "head_behind" ["self", "head", "sign"] [false,false] bH:=rz F hm O.cl_Nodes (fu (by decide +kernel) (by decide +kernel)) cf rfl rfl (fun _ _ _ _ _ _ us hl=>by obtain ⟨_,_,_,rfl⟩:=L2.rQ hl;rfl) fun a cdv A outer s H E hr =>
  (ah (bz (wb hr (qv 2 rfl) (bf (bh gJ (dD O) (qv 0 rfl) rfl) (qv 1 rfl) (fun _ _=>rfl) rfl) (by with_unfolding_all rfl) rfl) (ak (uM (d4 gJ aT.at hr (by decide) (aS 0 rfl (Or.inl rfl) rfl rfl) (aa (qv 1 rfl) (aa (qv 2 rfl) ag rfl) rfl) rfl rfl rfl))) bj)
  (ah (kK (d4 gJ aO.at hr (by decide) (aS 0 rfl (Or.inl rfl) rfl rfl) (aa (bF (bf (bh gJ (d9 O) (qv 0 rfl) rfl) (qv 1 rfl) (fun _ _=>rfl) rfl) aj) (aa aj (aa nK ag rfl) rfl) rfl) rfl rfl rfl) cf.nd rfl (Or.inl rfl) rfl (Or.inl rfl))
  (ah (aw (qv 1 rfl) cf.nd rfl (Or.inl rfl) rfl (Or.inl rfl))
  (ah (gN Yo (eX (gX (g8 (qv 4 rfl)) (gk (ox hr (qv 2 rfl) (bf (bh gJ (dD O) (qv 0 rfl) rfl) (qv 4 rfl) (fun _ _=>rfl) rfl) (by with_unfolding_all rfl) rfl))))
  (ah (iw gJ hr (nq hr (b8 3 (dD O) (aS 0 rfl (Or.inl rfl) rfl rfl) rfl) (qv 4 rfl) (fun _ _=>rfl) rfl) (qv 2 rfl) (qv 3 rfl) (fun _=>rfl) rfl rfl rfl)
  (ak (aw (bf (bh gJ (eE O) (qv 0 rfl) rfl) (qv 4 rfl) (fun _ _=>rfl) rfl) cf.nd rfl (Or.inl rfl) rfl (Or.inl rfl)))))
  (ah (bz (g8 (qv 4 rfl)) (ak (n6 gJ hr (b8 2 (eE O) (aS 0 rfl (Or.inl rfl) rfl rfl) rfl) (qv 3 rfl) (d4 gJ aT.at hr (by decide) (aS 0 rfl (Or.inl rfl) rfl rfl) (aa (qv 4 rfl) (aa (qv 2 rfl) ag rfl) rfl) rfl rfl rfl) (fun _=>rfl) rfl rfl rfl)) bj)
  (ak (eY 3 rfl (Or.inl rfl) rfl rfl)))))))
noncomputable abbrev bC:Stmt:=inClass (top 11) 2
theorem dj:FnScope ["self", "head", "word", "sign"] ["self", "head", "word"] (af bC):=⟨rfl,rfl,rfl,by decide +kernel,rfl,by decide +kernel,by decide +kernel⟩
theorem bS {f:Addr} {fd:FuncData} (F:Fun K "head_grown" "Nodes.head_grown" bC f fd) (hm:Meth K C "head_grown" f) (B:Blt mg) (O:ObF K mg C D) (bI:MtAt P w K mg base 3 (gxO nsL K C D) 0 "head_behind" ["self", "head", "sign"] [false,false] bH) :
  MtAt P w K mg base 4 (gxO nsL K C D) 0 "head_grown" ["self", "head", "word"] [false,false] aQ:=rz F hm O.cl_Nodes (fu (by decide +kernel) (by decide +kernel)) dj rfl rfl (fun _ _ _ _ _ _ us hl=>by obtain ⟨_,_,_,rfl⟩:=L2.rQ hl;rfl) fun a cdv A outer s H E hr =>
  (ah (d0 Yo rfl (dY (qv 2 rfl) rfl) (bP 3 dj.nd rfl (Or.inl rfl) (Or.inl rfl))
  (ak (kK (d4 gJ bI.at hr (by decide) (aS 0 rfl (Or.inl rfl) rfl rfl) (aa (qv 1 rfl) (aa (qv 3 rfl) ag rfl) rfl) rfl rfl rfl) dj.nd rfl (Or.inl rfl) rfl (Or.inl rfl))) (fun _=>rfl))
  (ak (eY 1 rfl (Or.inl rfl) rfl rfl)))
noncomputable abbrev aV:Stmt:=inClass (top 11) 6
theorem aL:FnScope ["self", "numbers", "met", "done", "ways", "sign"] ["self"] (af aV):=⟨rfl,rfl,rfl,by decide +kernel,rfl,by decide +kernel,by decide +kernel⟩
theorem bp {m:Option Addr} {f:Addr} {fd:FuncData} (F:Fun K "numbers_by_node" "Nodes.numbers_by_node" aV f fd) (hm:Meth K C "numbers_by_node" f) (B:Blt mg) (O:ObF K mg C D) :
  MpAt P w K mg base 1 ((gxO nsL K C D).at m) 0 "numbers_by_node" ["self"] aF:=tF F hm O.cl_Nodes (fu (by decide +kernel) (by decide +kernel)) aL rfl rfl (fun _ _ _ _ _ _ us hl=>by obtain ⟨_,rfl⟩:=L2.la hl;rfl) fun cdv A outer s H E hr =>
  (ah (fS uD aL.nd rfl (Or.inl rfl) rfl (Or.inl rfl))
  (ah (fS (bE (aa aj ag rfl)) aL.nd rfl (Or.inl rfl) rfl (Or.inl rfl))
  (ah (aw aj aL.nd rfl (Or.inl rfl) rfl (Or.inl rfl))
  (ah (gN Yo (mq (qv 3 rfl) (bW B.b_len (aa (qv 2 rfl) ag rfl) rfl rfl rfl))
  (ah (aw (bf (bh gJ (dD O) (qv 0 rfl) rfl) (bf (qv 2 rfl) (qv 3 rfl) (fun _ _=>rfl) rfl) (fun _ _=>rfl) rfl) aL.nd rfl (Or.inl rfl) rfl (Or.inl rfl))
  (ah (d0 Yo rfl (dY (lK B.b_sorted (aa (qv 4 rfl) ag rfl) rfl rfl rfl rfl) rfl) (bP 5 aL.nd rfl (Or.inl rfl) (Or.inl rfl))
  (ak (bz (ox hr (kZ hr (qv 4 rfl) (qv 5 rfl) (fun _ _=>rfl) rfl) (qv 1 rfl) (by with_unfolding_all rfl) rfl) (ah (sG 1 hr (kZ hr (qv 4 rfl) (qv 5 rfl) (fun _ _=>rfl) rfl) (bW B.b_len (aa (qv 2 rfl) ag rfl) rfl rfl rfl) rfl (Or.inl rfl) rfl rfl (fun _=>rfl) rfl rfl rfl)
  (ak (ig 2 (aa (kZ hr (qv 4 rfl) (qv 5 rfl) (fun _ _=>rfl) rfl) ag rfl) rfl rfl (Or.inl rfl) rfl rfl rfl rfl rfl))) bj)) (fun _=>rfl))
  (ak (aw (bF (qv 3 rfl) aj) aL.nd rfl (Or.inl rfl) rfl (Or.inl rfl))))))
  (i9 2 (ak (eY 1 rfl (Or.inl rfl) rfl rfl)))))))
noncomputable abbrev cx:Stmt:=inClass (top 11) 7
theorem dw:FnScope ["self", "node", "numbers", "link", "ways", "steps"] ["self", "node", "numbers"] (af cx):=⟨rfl,rfl,rfl,by decide +kernel,rfl,by decide +kernel,by decide +kernel⟩
theorem cW {m:Option Addr} {f:Addr} {fd:FuncData} (F:Fun K "row_of" "Nodes.row_of" cx f fd) (hm:Meth K C "row_of" f) (B:Blt mg) (O:ObF K mg C D) :
  MpAt P w K mg base 1 ((gxO nsL K C D).at m) 0 "row_of" ["self", "node", "numbers"] bQ:=tF F hm O.cl_Nodes (fu (by decide +kernel) (by decide +kernel)) dw rfl rfl (fun _ _ _ _ _ _ us hl=>by obtain ⟨_,_,_,rfl⟩:=L2.rQ hl;rfl) fun cdv A outer s H E hr =>
  (ah (aw (bf (bh gJ (eE O) (qv 0 rfl) rfl) (qv 1 rfl) (fun _ _=>rfl) rfl) dw.nd rfl (Or.inl rfl) rfl (Or.inl rfl))
  (ah (aw (bf (bh gJ (dD O) (qv 0 rfl) rfl) (qv 1 rfl) (fun _ _=>rfl) rfl) dw.nd rfl (Or.inr rfl) rfl (Or.inl rfl))
  (ah (aw (rC B.b_tuple (aa (js 1 ["sign", "self", "node", "numbers", "link", "ways", "steps"] rfl (dY (lK B.b_sorted (aa (cK 4 rfl (Or.inr (Or.inl rfl)) rfl rfl) ag rfl) rfl rfl rfl rfl) rfl) (jY (by decide)) (fun _ _ _ _ _=>(bP 0 (show List.Nodup (["sign", "self", "node", "numbers", "link", "ways", "steps"]:List Str) from by decide +kernel) rfl (Or.inl rfl) (Or.inr rfl))) (fun _ _ _ _ _=>(kB (aa (qv 0 rfl) (aa (pI hr (cK 3 rfl (Or.inr (Or.inl rfl)) rfl rfl) (kZ hr (cK 5 rfl (Or.inr (Or.inl rfl)) rfl rfl) (qv 0 rfl) (fun _ _=>rfl) rfl) (fun _ _=>rfl) rfl) ag rfl) rfl))) rfl rfl (by decide) (fun _=>rfl)) ag rfl) rfl rfl rfl) dw.nd rfl (Or.inl rfl) rfl (Or.inl rfl))
  (ah (bz (t6 (qv 3 rfl)) (ak (ba (kB (aa aj (aa aj (aa nI (aa (qv 5 rfl) ag rfl) rfl) rfl) rfl)))) bj)
  (ak (ba (kB (aa (bF (bf (bh gJ (d9 O) (qv 0 rfl) rfl) (qv 3 rfl) (fun _ _=>rfl) rfl) aj) (aa (bf (bh gJ (d9 O) (qv 0 rfl) rfl) (qv 1 rfl) (fun _ _=>rfl) rfl) (aa (pI hr (cK 2 rfl (Or.inr (Or.inl rfl)) rfl rfl) (qv 3 rfl) (fun _ _=>rfl) rfl) (aa (qv 5 rfl) ag rfl) rfl) rfl) rfl))))))))
noncomputable abbrev cR:Stmt:=inClass (top 11) 5
theorem gx:FnScope ["self", "numbers"] ["self"] (af cR):=⟨rfl,rfl,rfl,by decide +kernel,rfl,by decide +kernel,by decide +kernel⟩
theorem dn {m:Option Addr} {f:Addr} {fd:FuncData} (F:Fun K "table" "Nodes.table" cR f fd) (hm:Meth K C "table" f) (B:Blt mg) (O:ObF K mg C D) (bp:∀ m,MpAt P w K mg base 1 ((gxO nsL K C D).at m) 0 "numbers_by_node" ["self"] aF) (cW:∀ m,MpAt P w K mg base 1 ((gxO nsL K C D).at m) 0 "row_of" ["self", "node", "numbers"] bQ) :
  MpAt P w K mg base 2 ((gxO nsL K C D).at m) 0 "table" ["self"] dv:=tF F hm O.cl_Nodes (fu (by decide +kernel) (by decide +kernel)) gx rfl rfl (fun _ _ _ _ _ _ us hl=>by obtain ⟨_,rfl⟩:=L2.la hl;rfl) fun cdv A outer s H E hr =>
  (ah (fS (cU (bp _) hr (by decide) (cK 0 rfl (Or.inr (Or.inl rfl)) rfl rfl) rfl) gx.nd rfl (Or.inr rfl) rfl (Or.inl rfl))
  (ak (uR 1 ["node", "self", "numbers"] rfl rfl (Or.inr (Or.inl rfl)) rfl rfl (jY (by decide)) (fun _ _ _ _ _=>(bP 0 (show List.Nodup (["node", "self", "numbers"]:List Str) from by decide +kernel) rfl (Or.inl rfl) (Or.inr rfl))) (fun _ _ _ _ _=>(rq (cW _) hr (by decide) (cK 1 rfl (Or.inr (Or.inl rfl)) rfl rfl) (aa (qv 0 rfl) (aa (cK 2 rfl (Or.inr (Or.inl rfl)) rfl rfl) ag rfl) rfl) rfl rfl rfl)) rfl rfl (by decide) (fun _=>rfl))))
noncomputable abbrev bZ:Stmt:=inClass (top 13) 1
theorem jr:FnScope ["self"] ["self"] (af bZ):=⟨rfl,rfl,rfl,by decide +kernel,rfl,by decide +kernel,by decide +kernel⟩
theorem cL {f:Addr} {fd:FuncData} (F:Fun K "begin" "Machine.begin" bZ f fd) (hm:Meth K D "begin" f) (B:Blt mg) (O:ObF K mg C D) :
  MtAt P w K mg base 1 (gxO nsL K C D) 1 "begin" ["self"] [] bw:=rz F hm O.cl_Machine (fu (by decide +kernel) (by decide +kernel)) jr rfl rfl (fun _ _ _ _ _ _ us hl=>by obtain ⟨_,rfl⟩:=L2.la hl;rfl) fun a cdv A outer s H E hr =>
  (ah (bz (xI (bW B.b_len (aa (bh gJ (dG O) (qv 0 rfl) rfl) ag rfl) rfl rfl rfl) (lL B.c_MOST_TEXTS rfl rfl)) (ak kX) bj)
  (ah (iP gJ (b8 4 (dG O) (aS 0 rfl (Or.inl rfl) rfl rfl) rfl) (aa (da (by decide +kernel) (by decide)) ag rfl) rfl rfl rfl rfl rfl rfl rfl)
  (ah (iP gJ (b8 5 (iu O) (aS 0 rfl (Or.inl rfl) rfl rfl) rfl) (aa aj ag rfl) rfl rfl rfl rfl rfl rfl rfl)
  (ak (ba (jU (bW B.b_len (aa (bh gJ (dG O) (qv 0 rfl) rfl) ag rfl) rfl rfl rfl) aj))))))
noncomputable abbrev dQ:Stmt:=top 7
theorem n9:FnScope ["thing"] ["thing"] (af dQ):=⟨rfl,rfl,rfl,by decide +kernel,rfl,by decide +kernel,by decide +kernel⟩
theorem fm {m:Option Addr} {f:Addr} {fd:FuncData} (F:Fun K "is_whole" "is_whole" dQ f fd) (hm:mg "is_whole" = some (.ref f)) (B:Blt mg) (O:ObF K mg C D) :
  FnAt P w K mg base 1 "is_whole" ["thing"] ((gxO nsL K C D).at m) ib:=kE F hm n9 rfl rfl (fun _ _ _ _ _ _ us hl=>by obtain ⟨_,rfl⟩:=L2.la hl;rfl) fun cdv A outer s H E hr =>
  (ak (ba (uC (uH .int B.b_isinstance B.b_int (qv 0 rfl) rfl rfl rfl rfl) (sF (uy (uH .bool B.b_isinstance B.b_bool (qv 0 rfl) rfl rfl rfl rfl))))))
noncomputable abbrev bN:Stmt:=top 8
theorem iE:FnScope ["book", "number"] ["book", "number"] (af bN):=⟨rfl,rfl,rfl,by decide +kernel,rfl,by decide +kernel,by decide +kernel⟩
theorem cw {m:Option Addr} {f:Addr} {fd:FuncData} (F:Fun K "refuse_no_text" "refuse_no_text" bN f fd) (hm:mg "refuse_no_text" = some (.ref f)) (B:Blt mg) (O:ObF K mg C D) (fm:∀ m,FnAt P w K mg base 1 "is_whole" ["thing"] ((gxO nsL K C D).at m) ib) :
  FnAt P w K mg base 2 "refuse_no_text" ["book", "number"] ((gxO nsL K C D).at m) bB:=kE F hm iE rfl rfl (fun _ _ _ _ _ _ us hl=>by obtain ⟨_,_,rfl⟩:=L2.fg hl;rfl) fun cdv A outer s H E hr =>
  (ak (bz (eX (nU (lQ (rD (cu (fm _) hr (aa (qv 1 rfl) ag rfl) (by decide) rfl rfl rfl rfl) rfl (fun _=>rfl))) (lW (lQ (jh aj (qv 1 rfl) (bW B.b_len (aa (qv 0 rfl) ag rfl) rfl rfl rfl) (by with_unfolding_all rfl)))))) (ak kX) bj))
noncomputable abbrev dZ:Stmt:=top 9
theorem n0:FnScope ["book"] ["book"] (af dZ):=⟨rfl,rfl,rfl,by decide +kernel,rfl,by decide +kernel,by decide +kernel⟩
theorem fj {m:Option Addr} {f:Addr} {fd:FuncData} (F:Fun K "signs_in" "signs_in" dZ f fd) (hm:mg "signs_in" = some (.ref f)) (B:Blt mg) (O:ObF K mg C D) :
  FnAt P w K mg base 1 "signs_in" ["book"] ((gxO nsL K C D).at m) ff:=kE F hm n0 rfl rfl (fun _ _ _ _ _ _ us hl=>by obtain ⟨_,rfl⟩:=L2.la hl;rfl) fun cdv A outer s H E hr =>
  (ak (ba (vR B.b_sum (aa (js 1 ["text", "book"] rfl (dY (qv 0 rfl) rfl) (jY (by decide)) (fun _ _ _ _ _=>(bP 0 (show List.Nodup (["text", "book"]:List Str) from by decide +kernel) rfl (Or.inl rfl) (Or.inr rfl))) (fun _ _ _ _ _=>(bW B.b_len (aa (qv 0 rfl) ag rfl) rfl rfl rfl)) rfl rfl (by decide) (fun _=>rfl)) ag rfl) rfl rfl rfl rfl)))
noncomputable abbrev cq:Stmt:=inClass (top 13) 2
theorem jQ:FnScope ["self", "text", "word"] ["self", "text", "word"] (af cq):=⟨rfl,rfl,rfl,by decide +kernel,rfl,by decide +kernel,by decide +kernel⟩
theorem cX {f:Addr} {fd:FuncData} (F:Fun K "grow" "Machine.grow" cq f fd) (hm:Meth K D "grow" f) (B:Blt mg) (O:ObF K mg C D) (bS:MtAt P w K mg base 4 (gxO nsL K C D) 0 "head_grown" ["self", "head", "word"] [false,false] aQ) (cw:∀ m,FnAt P w K mg base 2 "refuse_no_text" ["book", "number"] ((gxO nsL K C D).at m) bB) (fj:∀ m,FnAt P w K mg base 1 "signs_in" ["book"] ((gxO nsL K C D).at m) ff) :
  MtAt P w K mg base 5 (gxO nsL K C D) 1 "grow" ["self", "text", "word"] [false,false] bt:=rz F hm O.cl_Machine (fu (by decide +kernel) (by decide +kernel)) jQ rfl rfl (fun _ _ _ _ _ _ us hl=>by obtain ⟨_,_,_,rfl⟩:=L2.rQ hl;rfl) fun a cdv A outer s H E hr =>
  (ah (vf (cu (cw _) hr (aa (bh gJ (dG O) (qv 0 rfl) rfl) (aa (qv 1 rfl) ag rfl) rfl) (by decide) rfl rfl rfl rfl) rfl)
  (ah (bz (wm (bF (cu (fj _) hr (aa (bh gJ (dG O) (qv 0 rfl) rfl) ag rfl) (by decide) rfl rfl rfl rfl) (bW B.b_len (aa (qv 2 rfl) ag rfl) rfl rfl rfl)) (lL B.c_MOST_SIGNS rfl rfl)) (ak kX) bj)
  (ah (n6 gJ hr (b8 5 (iu O) (aS 0 rfl (Or.inl rfl) rfl rfl) rfl) (qv 1 rfl) (d4 gJ bS.at hr (by decide) (b8 6 (kf O) (aS 0 rfl (Or.inl rfl) rfl rfl) rfl) (aa (bf (bh gJ (iu O) (qv 0 rfl) rfl) (qv 1 rfl) (fun _ _=>rfl) rfl) (aa (qv 2 rfl) ag rfl) rfl) rfl rfl rfl) (fun _=>rfl) rfl rfl rfl)
  (ak (iw gJ hr (b8 4 (dG O) (aS 0 rfl (Or.inl rfl) rfl rfl) rfl) (qv 1 rfl) (bF (bf (bh gJ (dG O) (qv 0 rfl) rfl) (qv 1 rfl) (fun _ _=>rfl) rfl) (qv 2 rfl)) (fun _=>rfl) rfl rfl rfl)))))
noncomputable abbrev bT:Stmt:=inClass (top 13) 0
theorem eR:FnScope ["self", "book", "text"] ["self", "book"] (af bT):=⟨rfl,rfl,rfl,by decide +kernel,rfl,by decide +kernel,by decide +kernel⟩
theorem aK {f:Addr} {fd:FuncData} (F:FunD K "__init__" "Machine.__init__" bT f fd) (hm:Mk K D f) (B:Blt mg) (O:ObF K mg C D) (cL:MtAt P w K mg base 1 (gxO nsL K C D) 1 "begin" ["self"] [] bw) (cX:MtAt P w K mg base 5 (gxO nsL K C D) 1 "grow" ["self", "text", "word"] [false,false] bt) (cz:InAt P w K mg base 2 (gxO nsL K C D) 0 0 "Nodes" ["self"] df) :
  InAt P w K mg base 6 (gxO nsL K C D) 1 1 "Machine" ["self", "book"] ax:=Bp F hm O.mg_Machine eR rfl rfl (fun _ _ _ _ _ _ _ _ _ _ us X ho hs hl=>by obtain ⟨_,_,rfl⟩:=L2.fg hl;exact PySem.W.binds_K X rfl ho hs rfl rfl) fun a cdv A outer s H E hr =>
  (ah (fN 0 4 gJ (dG O) (bE ag) rfl (Or.inl rfl) rfl rfl rfl)
  (ah (fN 0 5 gJ (iu O) (bE ag) rfl (Or.inl rfl) rfl rfl rfl)
  (ah (fN 0 6 gJ (kf O) (rE cz.at hr (by decide) rfl rfl) rfl (Or.inl rfl) rfl rfl rfl)
  (ak (bz (g8 (qv 1 rfl)) (ak (d0 Yo rfl (dY (qv 1 rfl) rfl) (bP 2 eR.nd rfl (Or.inl rfl) (Or.inl rfl))
  (ak (qw (uW cX.at hr (by decide) rfl (Or.inl rfl) rfl rfl (oY gJ cL.at hr (by decide) (aS 0 rfl (Or.inl rfl) rfl rfl) rfl) (aa (qv 2 rfl) ag rfl) rfl rfl rfl) rfl)) (fun _=>rfl))) bj)))))
noncomputable abbrev cF:Stmt:=inClass (top 13) 3
theorem jO:FnScope ["self"] ["self"] (af cF):=⟨rfl,rfl,rfl,by decide +kernel,rfl,by decide +kernel,by decide +kernel⟩
theorem gO {m:Option Addr} {f:Addr} {fd:FuncData} (F:Fun K "book" "Machine.book" cF f fd) (hm:Meth K D "book" f) (B:Blt mg) (O:ObF K mg C D) :
  MpAt P w K mg base 1 ((gxO nsL K C D).at m) 1 "book" ["self"] kj:=tF F hm O.cl_Machine (fu (by decide +kernel) (by decide +kernel)) jO rfl rfl (fun _ _ _ _ _ _ us hl=>by obtain ⟨_,rfl⟩:=L2.la hl;rfl) fun cdv A outer s H E hr =>
  (ak (ba (je B.b_list (aa (bh gJ (dG O) (qv 0 rfl) rfl) ag rfl) rfl rfl rfl rfl)))
noncomputable abbrev b6:Stmt:=inClass (top 13) 4
theorem jl:FnScope ["self"] ["self"] (af b6):=⟨rfl,rfl,rfl,by decide +kernel,rfl,by decide +kernel,by decide +kernel⟩
theorem aZ {m:Option Addr} {f:Addr} {fd:FuncData} (F:Fun K "table" "Machine.table" b6 f fd) (hm:Meth K D "table" f) (B:Blt mg) (O:ObF K mg C D) (dn:∀ m,MpAt P w K mg base 2 ((gxO nsL K C D).at m) 0 "table" ["self"] dv) :
  MpAt P w K mg base 3 ((gxO nsL K C D).at m) 1 "table" ["self"] aN:=tF F hm O.cl_Machine (fu (by decide +kernel) (by decide +kernel)) jl rfl rfl (fun _ _ _ _ _ _ us hl=>by obtain ⟨_,rfl⟩:=L2.la hl;rfl) fun cdv A outer s H E hr =>
  (ak (ba (cU (dn _) hr (by decide) (bh gJ (kf O) (qv 0 rfl) rfl) rfl)))
noncomputable abbrev cP:Stmt:=top 15
theorem j0:FnScope ["_law_script", "_law_k"] ["_law_script", "_law_k"] (af cP):=⟨rfl,rfl,rfl,by decide +kernel,rfl,by decide +kernel,by decide +kernel⟩
theorem aM {m:Option Addr} {f:Addr} {fd:FuncData} (F:Fun K "_law_cell_at" "_law_cell_at" cP f fd) (hm:mg "_law_cell_at" = some (.ref f)) (B:Blt mg) (O:ObF K mg C D) :
  FnAt P w K mg base 1 "_law_cell_at" ["_law_script", "_law_k"] ((gxO nsL K C D).at m) aC:=kE F hm j0 rfl rfl (fun _ _ _ _ _ _ us hl=>by obtain ⟨_,_,rfl⟩:=L2.fg hl;rfl) fun cdv A outer s H E hr =>
  (ah (bz (mq (qv 1 rfl) (bW B.b_len (aa (qv 0 rfl) ag rfl) rfl rfl rfl)) (ak (ba (bf (qv 0 rfl) (qv 1 rfl) (fun _ _=>rfl) rfl))) bj)
  (ak (ba aj)))
noncomputable abbrev dB:Stmt:=top 16
theorem gj:FnScope ["_law_cell", "_law_k", "_law_number"] ["_law_cell", "_law_k"] (af dB):=⟨rfl,rfl,rfl,by decide +kernel,rfl,by decide +kernel,by decide +kernel⟩
theorem eD {m:Option Addr} {f:Addr} {fd:FuncData} (F:Fun K "_law_mixed" "_law_mixed" dB f fd) (hm:mg "_law_mixed" = some (.ref f)) (B:Blt mg) (O:ObF K mg C D) :
  FnAt P w K mg base 1 "_law_mixed" ["_law_cell", "_law_k"] ((gxO nsL K C D).at m) eu:=kE F hm gj rfl rfl (fun _ _ _ _ _ _ us hl=>by obtain ⟨_,_,rfl⟩:=L2.fg hl;rfl) fun cdv A outer s H E hr =>
  (ah (aw (cp (bF (bF (cp (qv 0 rfl) aj) (iB aj (qv 1 rfl))) aj) aj) gj.nd rfl (Or.inl rfl) rfl (Or.inl rfl))
  (ah (aw (bF (cp (iB (qv 2 rfl) (qv 2 rfl)) aj) (iB aj (qv 1 rfl))) gj.nd rfl (Or.inl rfl) rfl (Or.inl rfl))
  (ak (ba (cp (iB (qv 2 rfl) (qv 2 rfl)) aj)))))
noncomputable abbrev dW:Stmt:=top 17
theorem cV:FnScope ["_law_script", "_law_letters", "_law_most", "_law_j", "_law_cell", "_law_size", "_law_signs", "_law_k"] ["_law_script", "_law_letters", "_law_most", "_law_j"] (af dW):=⟨rfl,rfl,rfl,by decide +kernel,rfl,by decide +kernel,by decide +kernel⟩
theorem fq {m:Option Addr} {f:Addr} {fd:FuncData} (F:Fun K "_law_text" "_law_text" dW f fd) (hm:mg "_law_text" = some (.ref f)) (B:Blt mg) (O:ObF K mg C D) (aM:∀ m,FnAt P w K mg base 1 "_law_cell_at" ["_law_script", "_law_k"] ((gxO nsL K C D).at m) aC) (eD:∀ m,FnAt P w K mg base 1 "_law_mixed" ["_law_cell", "_law_k"] ((gxO nsL K C D).at m) eu) :
  FnAt P w K mg base 2 "_law_text" ["_law_script", "_law_letters", "_law_most", "_law_j"] ((gxO nsL K C D).at m) dy:=kE F hm cV rfl rfl (fun _ _ _ _ _ _ us hl=>by obtain ⟨_,_,_,_,rfl⟩:=L2.BX hl;rfl) fun cdv A outer s H E hr =>
  (ah (aw (cu (aM _) hr (aa (qv 0 rfl) (aa (bF aj (qv 3 rfl)) ag rfl) rfl) (by decide) rfl rfl rfl rfl) cV.nd rfl (Or.inl rfl) rfl (Or.inl rfl))
  (ah (aw (cp (qv 4 rfl) (bF (qv 2 rfl) aj)) cV.nd rfl (Or.inl rfl) rfl (Or.inl rfl))
  (ah (aw (dr (qv 4 rfl) (bF (qv 2 rfl) aj)) cV.nd rfl (Or.inl rfl) rfl (Or.inl rfl))
  (ah (fS (bE ag) cV.nd rfl (Or.inl rfl) rfl (Or.inl rfl))
  (ah (d0 Yo rfl (gg (qv 5 rfl) rfl B.b_range rfl rfl) (bP 7 cV.nd rfl (Or.inl rfl) (Or.inl rfl))
  (ak (bz (fY hr (cp (cu (aM _) hr (aa (qv 0 rfl) (aa aj ag rfl) rfl) (by decide) rfl rfl rfl rfl) aj) aj) (ah (ig 6 (aa (bf (qv 1 rfl) (cp (qv 4 rfl) (bW B.b_len (aa (qv 1 rfl) ag rfl) rfl rfl rfl)) (fun _ _=>rfl) rfl) ag rfl) rfl rfl (Or.inl rfl) rfl rfl rfl rfl rfl)
  (ak (aw (dr (qv 4 rfl) (bW B.b_len (aa (qv 1 rfl) ag rfl) rfl rfl rfl)) cV.nd rfl (Or.inl rfl) rfl (Or.inl rfl)))) (ak (ig 6 (aa (bf (qv 1 rfl) (cp (dr (cu (eD _) hr (aa (qv 4 rfl) (aa (bF (iB aj (qv 3 rfl)) (qv 7 rfl)) ag rfl) rfl) (by decide) rfl rfl rfl rfl) aj) (bW B.b_len (aa (qv 1 rfl) ag rfl) rfl rfl rfl)) (fun _ _=>rfl) rfl) ag rfl) rfl rfl (Or.inl rfl) rfl rfl rfl rfl rfl)))) (fun _=>rfl))
  (i9 6 (ak (ba (rM (da (by decide +kernel) (by decide)) (aa (qv 6 rfl) ag rfl) rfl rfl rfl rfl rfl rfl)))))))))
noncomputable abbrev dU:Stmt:=top 18
theorem cZ:FnScope ["_law_script", "_law_cell", "_law_letters", "_law_count", "_law_most"] ["_law_script"] (af dU):=⟨rfl,rfl,rfl,by decide +kernel,rfl,by decide +kernel,by decide +kernel⟩
theorem fo {m:Option Addr} {f:Addr} {fd:FuncData} (F:Fun K "_law_book" "_law_book" dU f fd) (hm:mg "_law_book" = some (.ref f)) (B:Blt mg) (O:ObF K mg C D) (aM:∀ m,FnAt P w K mg base 1 "_law_cell_at" ["_law_script", "_law_k"] ((gxO nsL K C D).at m) aC) (fq:∀ m,FnAt P w K mg base 2 "_law_text" ["_law_script", "_law_letters", "_law_most", "_law_j"] ((gxO nsL K C D).at m) dy) :
  FnAt P w K mg base 3 "_law_book" ["_law_script"] ((gxO nsL K C D).at m) aB:=kE F hm cZ rfl rfl (fun _ _ _ _ _ _ us hl=>by obtain ⟨_,rfl⟩:=L2.la hl;rfl) fun cdv A outer s H E hr =>
  (ah (aw (cu (aM _) hr (aa (cK 0 rfl (Or.inr (Or.inl rfl)) rfl rfl) (aa aj ag rfl) rfl) (by decide) rfl rfl rfl rfl) cZ.nd rfl (Or.inl rfl) rfl (Or.inl rfl))
  (ah (aw (bf (bE (aa (da (by decide +kernel) (by decide)) (aa (da (by decide +kernel) (by decide)) (aa (da (by decide +kernel) (by decide)) (aa (da (by decide +kernel) (by decide)) (aa (da (by decide +kernel) (by decide)) (aa (da (by decide +kernel) (by decide)) ag rfl) rfl) rfl) rfl) rfl) rfl)) (cp (dr (qv 1 rfl) aj) aj) (fun _ _=>rfl) rfl) cZ.nd rfl (Or.inr rfl) rfl (Or.inl rfl))
  (ah (aw (bf (bE (aa aj (aa aj (aa aj (aa aj (aa aj (aa aj (aa aj (aa aj ag rfl) rfl) rfl) rfl) rfl) rfl) rfl) rfl)) (cp (dr (qv 1 rfl) aj) aj) (fun _ _=>rfl) rfl) cZ.nd rfl (Or.inl rfl) rfl (Or.inl rfl))
  (ah (aw (bf (bE (aa aj (aa aj (aa aj (aa aj ag rfl) rfl) rfl) rfl)) (jU (sj B.b_min (aa (qv 3 rfl) (aa aj ag rfl) rfl) rfl rfl rfl rfl) aj) (fun _ _=>rfl) rfl) cZ.nd rfl (Or.inr rfl) rfl (Or.inl rfl))
  (ah (bz (fY hr (cp (dr (qv 1 rfl) aj) aj) aj) (ak (aw (dr aj (tZ B.b_max (aa aj (aa (qv 3 rfl) ag rfl) rfl) rfl rfl rfl rfl)) cZ.nd rfl (Or.inr rfl) rfl (Or.inl rfl))) bj)
  (ah (bz (eX (gX (fY hr (qv 3 rfl) aj) (gk (iZ hr (cp (dr (qv 1 rfl) aj) aj) aj)))) (ak (aw aj cZ.nd rfl (Or.inr rfl) rfl (Or.inl rfl))) bj)
  (ak (ba (js 1 ["_law_j", "_law_script", "_law_cell", "_law_letters", "_law_count", "_law_most"] rfl (gg (qv 3 rfl) rfl B.b_range rfl rfl) (jY (by decide)) (fun _ _ _ _ _=>(bP 0 (show List.Nodup (["_law_j", "_law_script", "_law_cell", "_law_letters", "_law_count", "_law_most"]:List Str) from by decide +kernel) rfl (Or.inl rfl) (Or.inr rfl))) (fun _ _ _ _ _=>(cu (fq _) hr (aa (cK 1 rfl (Or.inr (Or.inl rfl)) rfl rfl) (aa (cK 3 rfl (Or.inr (Or.inl rfl)) rfl rfl) (aa (cK 5 rfl (Or.inr (Or.inl rfl)) rfl rfl) (aa (qv 0 rfl) ag rfl) rfl) rfl) rfl) (by decide) rfl rfl rfl rfl)) rfl rfl (by decide) (fun _=>rfl))))))))))
noncomputable abbrev iQ:Stmt:=top 19
theorem fe:FnScope ["_law_script", "_law_book_here", "_law_table", "_law_other", "_law_k", "_law_text_here", "_law_end", "_law_start", "_law_more", "_law_longer", "_law_one"] ["_law_script"] (af iQ):=⟨rfl,rfl,rfl,by decide +kernel,rfl,by decide +kernel,by decide +kernel⟩
theorem zc {m:Option Addr} {f:Addr} {fd:FuncData} (F:Fun K "law" "law" iQ f fd) (B:Blt mg) (O:ObF K mg C D) (aK:InAt P w K mg base 6 (gxO nsL K C D) 1 1 "Machine" ["self", "book"] ax) (aZ:∀ m,MpAt P w K mg base 3 ((gxO nsL K C D).at m) 1 "table" ["self"] aN) (fo:∀ m,FnAt P w K mg base 3 "_law_book" ["_law_script"] ((gxO nsL K C D).at m) aB) (aM:∀ m,FnAt P w K mg base 1 "_law_cell_at" ["_law_script", "_law_k"] ((gxO nsL K C D).at m) aC) :
  FnOk P w K mg base CX0 8 f fd ["_law_script"] (spF ((gxO nsL K C D).at m) pP):=Cw F fe rfl rfl fun cdv A outer s H E hr =>
  (ah (aw (fi (cu (fo _) hr (aa (qv 0 rfl) ag rfl) (by decide) rfl rfl rfl rfl) iq (dA aj) rfl) fe.nd rfl (Or.inl rfl) rfl (Or.inl rfl))
  (ah (aw (cU (aZ _) hr (by decide) (fU aK.at hr (by decide) (aa (je B.b_list (aa (qv 1 rfl) ag rfl) rfl rfl rfl rfl) ag rfl) lX rfl rfl rfl rfl) rfl) fe.nd rfl (Or.inl rfl) rfl (Or.inl rfl))
  (ah (fS (bE ag) fe.nd rfl (Or.inl rfl) rfl (Or.inl rfl))
  (ah (d0 Yo rfl (gg (bW B.b_len (aa (qv 1 rfl) ag rfl) rfl rfl rfl) rfl B.b_range rfl rfl) (bP 4 fe.nd rfl (Or.inl rfl) (Or.inl rfl))
  (ak (px 3 (aa (cp (cu (aM _) hr (aa (qv 0 rfl) (aa (bF aj (qv 4 rfl)) ag rfl) rfl) (by decide) rfl rfl rfl rfl) (bF (bW B.b_len (aa (qv 3 rfl) ag rfl) rfl rfl rfl) aj)) (aa (bf (qv 1 rfl) (qv 4 rfl) (fun _ _=>rfl) rfl) ag rfl) rfl) rfl rfl (Or.inl rfl) rfl rfl rfl rfl rfl rfl)) (fun _=>rfl))
  (i9 3 (ah (bz (iZ hr (cU (aZ _) hr (by decide) (fU aK.at hr (by decide) (aa (je B.b_list (aa (qv 3 rfl) ag rfl) rfl rfl rfl rfl) ag rfl) lX rfl rfl rfl rfl) rfl) (qv 2 rfl)) (ak (ba iJ)) bj)
  (ah (bz (fY hr (qv 1 rfl) (bE ag)) (ak (ba (AS hr (cU (aZ _) hr (by decide) (fU aK.at hr (by decide) (aa (bE (aa (da (by decide +kernel) (by decide)) (aa (da (by decide +kernel) (by decide)) ag rfl) rfl)) ag rfl) lX rfl rfl rfl rfl) rfl) (qv 2 rfl)))) bj)
  (ah (aw (bf (qv 1 rfl) (cp (cu (aM _) hr (aa (qv 0 rfl) (aa aj ag rfl) rfl) (by decide) rfl rfl rfl rfl) (bW B.b_len (aa (qv 1 rfl) ag rfl) rfl rfl rfl)) (fun _ _=>rfl) rfl) fe.nd rfl (Or.inl rfl) rfl (Or.inl rfl))
  (ah (aw (cp (dr (cu (aM _) hr (aa (qv 0 rfl) (aa aj ag rfl) rfl) (by decide) rfl rfl rfl rfl) aj) (bF (bW B.b_len (aa (qv 5 rfl) ag rfl) rfl rfl rfl) aj)) fe.nd rfl (Or.inl rfl) rfl (Or.inl rfl))
  (ah (aw (cp (dr (cu (aM _) hr (aa (qv 0 rfl) (aa aj ag rfl) rfl) (by decide) rfl rfl rfl rfl) aj) (bF (qv 6 rfl) aj)) fe.nd rfl (Or.inl rfl) rfl (Or.inl rfl))
  (ah (d0 Yo rfl (dY (bE (aa (qv 5 rfl) (aa (fi (qv 5 rfl) iq (dA (qv 6 rfl)) rfl) (aa (da (by decide +kernel) (by decide)) ag rfl) rfl) rfl)) rfl) (bP 8 fe.nd rfl (Or.inl rfl) (Or.inl rfl))
  (ak (bz (eX (nU (iZ hr (cU (aZ _) hr (by decide) (fU aK.at hr (by decide) (aa (bF (qv 3 rfl) (bE (aa (qv 8 rfl) ag rfl))) ag rfl) lX rfl rfl rfl rfl) rfl) (qv 2 rfl)) (lW (iZ hr (cU (aZ _) hr (by decide) (fU aK.at hr (by decide) (aa (bF (bE (aa (qv 8 rfl) ag rfl)) (qv 1 rfl)) ag rfl) lX rfl rfl rfl rfl) rfl) (qv 2 rfl))))) (ak (ba iJ)) bj)) (fun _=>rfl))
  (ah (aw (cU (aZ _) hr (by decide) (fU aK.at hr (by decide) (aa (bF (qv 1 rfl) (bE (aa (fi (qv 5 rfl) (dA (qv 7 rfl)) (dA (qv 6 rfl)) rfl) ag rfl))) ag rfl) lX rfl rfl rfl rfl) rfl) fe.nd rfl (Or.inl rfl) rfl (Or.inl rfl))
  (ah (bz (mq (bW B.b_len (aa (qv 9 rfl) ag rfl) rfl rfl rfl) (bW B.b_len (aa (qv 2 rfl) ag rfl) rfl rfl rfl)) (ak (ba iJ)) bj)
  (ah (d0 Yo rfl (dY (qv 1 rfl) rfl) (bP 10 fe.nd rfl (Or.inl rfl) (Or.inl rfl))
  (ak (bz (eX (gX (fY hr (fi (qv 10 rfl) iq (dA (jU (qv 6 rfl) (qv 7 rfl))) rfl) (fi (qv 5 rfl) (dA (qv 7 rfl)) (dA (qv 6 rfl)) rfl)) (gk (iZ hr (qv 9 rfl) (qv 2 rfl))))) (ak (ba iJ)) bj)) (fun _=>rfl))
  (ak (ba iJ))))))))))))))))
end
theorem all_mk {l:PySem.W.OpenLaw} {w:World} {K:X0} {h:Heap} {mg:X3} {fa C D f0 f1 f2 f3 f4 f5 f6 f7 f8 f9 f10 f11 f12 f13 f14 f15 f16 f17 f18 f19 f20:Addr} (X:K.In h) (G:h.Ns mainGlobals mg) (hfa:mg "law" = some (.ref fa))
  {od0 an0 od1 an1 od2 an2 od3 an3 od4 an4 od5 an5 od6 an6 od7 an7 od8 an8 od9 an9 od10 an10 od11 an11 od12 an12 od13 an13 od14 an14 od15 an15 od16 an16 od17 an17 od18 an18 od19 an19 od20 an20:Option Addr} {sl0 sl1 sl2 sl3 sl4 sl5 sl6 sl7 sl8 sl9 sl10 sl11 sl12 sl13 sl14 sl15 sl16 sl17 sl18 sl19 sl20:Array (X6)} {oc0 kV0 dc0 pm0 cd0 ct0 oc1 kV1 dc1 pm1 cd1 ct1 oc2 kV2 dc2 pm2 cd2 ct2 oc3 kV3 dc3 pm3 cd3 ct3 oc4 kV4 dc4 pm4 cd4 ct4 oc5 kV5 dc5 pm5 cd5 ct5 oc6 kV6 dc6 pm6 cd6 ct6 oc7 kV7 dc7 pm7 cd7 ct7 oc8 kV8 dc8 pm8 cd8 ct8 oc9 kV9 dc9 pm9 cd9 ct9 oc10 kV10 dc10 pm10 cd10 ct10 oc11 kV11 dc11 pm11 cd11 ct11 oc12 kV12 dc12 pm12 cd12 ct12 oc13 kV13 dc13 pm13 cd13 ct13 oc14 kV14 dc14 pm14 cd14 ct14 oc15 kV15 dc15 pm15 cd15 ct15 oc16 kV16 dc16 pm16 cd16 ct16 oc17 kV17 dc17 pm17 cd17 ct17 oc18 kV18 dc18 pm18 cd18 ct18 oc19 kV19 dc19 pm19 cd19 ct19 oc20 kV20 dc20 pm20 cd20 ct20:Value}
  (hlaw:∀ ns:X8,pP [.scr ns]=some (.fr,.bl true))
  (a0:PySem.W.findIn K (.ref C) "new_node" = some (some (.ref f0))) (i0:PySem.W.isFn K (.ref f0)=true) (l0:K.lookup f0=some ⟨oc0,od0,.func (PySem.W.fnOf "new_node" "Nodes.new_node" (aE bM) (au bM) (af bM) .none kV0 dc0 pm0 an0 cd0 ct0),sl0⟩) (c0:PySem.W.codeIn K cd0 "Nodes.new_node" = true) (k0:PySem.W.keepIn K (.ref f0)=true)
  (a1:PySem.W.findIn K (.ref C) "__init__" = some (some (.ref f1))) (i1:PySem.W.isFn K (.ref f1)=true) (l1:K.lookup f1=some ⟨oc1,od1,.func (PySem.W.fnOf "__init__" "Nodes.__init__" (aE bO) (au bO) (af bO) .none kV1 dc1 pm1 an1 cd1 ct1),sl1⟩) (c1:PySem.W.codeIn K cd1 "Nodes.__init__" = true) (k1:PySem.W.keepIn K (.ref f1)=true)
  (a2:PySem.W.findIn K (.ref C) "node_just_behind" = some (some (.ref f2))) (i2:PySem.W.isFn K (.ref f2)=true) (l2:K.lookup f2=some ⟨oc2,od2,.func (PySem.W.fnOf "node_just_behind" "Nodes.node_just_behind" (aE aU) (au aU) (af aU) .none kV2 dc2 pm2 an2 cd2 ct2),sl2⟩) (c2:PySem.W.codeIn K cd2 "Nodes.node_just_behind" = true) (k2:PySem.W.keepIn K (.ref f2)=true)
  (a3:PySem.W.findIn K (.ref C) "head_behind" = some (some (.ref f3))) (i3:PySem.W.isFn K (.ref f3)=true) (l3:K.lookup f3=some ⟨oc3,od3,.func (PySem.W.fnOf "head_behind" "Nodes.head_behind" (aE bu) (au bu) (af bu) .none kV3 dc3 pm3 an3 cd3 ct3),sl3⟩) (c3:PySem.W.codeIn K cd3 "Nodes.head_behind" = true) (k3:PySem.W.keepIn K (.ref f3)=true)
  (a4:PySem.W.findIn K (.ref C) "head_grown" = some (some (.ref f4))) (i4:PySem.W.isFn K (.ref f4)=true) (l4:K.lookup f4=some ⟨oc4,od4,.func (PySem.W.fnOf "head_grown" "Nodes.head_grown" (aE bC) (au bC) (af bC) .none kV4 dc4 pm4 an4 cd4 ct4),sl4⟩) (c4:PySem.W.codeIn K cd4 "Nodes.head_grown" = true) (k4:PySem.W.keepIn K (.ref f4)=true)
  (a5:PySem.W.findIn K (.ref C) "numbers_by_node" = some (some (.ref f5))) (i5:PySem.W.isFn K (.ref f5)=true) (l5:K.lookup f5=some ⟨oc5,od5,.func (PySem.W.fnOf "numbers_by_node" "Nodes.numbers_by_node" (aE aV) (au aV) (af aV) .none kV5 dc5 pm5 an5 cd5 ct5),sl5⟩) (c5:PySem.W.codeIn K cd5 "Nodes.numbers_by_node" = true) (k5:PySem.W.keepIn K (.ref f5)=true)
  (a6:PySem.W.findIn K (.ref C) "row_of" = some (some (.ref f6))) (i6:PySem.W.isFn K (.ref f6)=true) (l6:K.lookup f6=some ⟨oc6,od6,.func (PySem.W.fnOf "row_of" "Nodes.row_of" (aE cx) (au cx) (af cx) .none kV6 dc6 pm6 an6 cd6 ct6),sl6⟩) (c6:PySem.W.codeIn K cd6 "Nodes.row_of" = true) (k6:PySem.W.keepIn K (.ref f6)=true)
  (a7:PySem.W.findIn K (.ref C) "table" = some (some (.ref f7))) (i7:PySem.W.isFn K (.ref f7)=true) (l7:K.lookup f7=some ⟨oc7,od7,.func (PySem.W.fnOf "table" "Nodes.table" (aE cR) (au cR) (af cR) .none kV7 dc7 pm7 an7 cd7 ct7),sl7⟩) (c7:PySem.W.codeIn K cd7 "Nodes.table" = true) (k7:PySem.W.keepIn K (.ref f7)=true)
  (a8:PySem.W.findIn K (.ref D) "begin" = some (some (.ref f8))) (i8:PySem.W.isFn K (.ref f8)=true) (l8:K.lookup f8=some ⟨oc8,od8,.func (PySem.W.fnOf "begin" "Machine.begin" (aE bZ) (au bZ) (af bZ) .none kV8 dc8 pm8 an8 cd8 ct8),sl8⟩) (c8:PySem.W.codeIn K cd8 "Machine.begin" = true) (k8:PySem.W.keepIn K (.ref f8)=true)
  (a9:PySem.W.nsIn K mainGlobals "is_whole" = some (some (.ref f9))) (l9:K.lookup f9=some ⟨oc9,od9,.func (PySem.W.fnOf "is_whole" "is_whole" (aE dQ) (au dQ) (af dQ) .none kV9 dc9 pm9 an9 cd9 ct9),sl9⟩) (c9:PySem.W.codeIn K cd9 "is_whole" = true) (k9:PySem.W.keepIn K (.ref f9)=true)
  (a10:PySem.W.nsIn K mainGlobals "refuse_no_text" = some (some (.ref f10))) (l10:K.lookup f10=some ⟨oc10,od10,.func (PySem.W.fnOf "refuse_no_text" "refuse_no_text" (aE bN) (au bN) (af bN) .none kV10 dc10 pm10 an10 cd10 ct10),sl10⟩) (c10:PySem.W.codeIn K cd10 "refuse_no_text" = true) (k10:PySem.W.keepIn K (.ref f10)=true)
  (a11:PySem.W.nsIn K mainGlobals "signs_in" = some (some (.ref f11))) (l11:K.lookup f11=some ⟨oc11,od11,.func (PySem.W.fnOf "signs_in" "signs_in" (aE dZ) (au dZ) (af dZ) .none kV11 dc11 pm11 an11 cd11 ct11),sl11⟩) (c11:PySem.W.codeIn K cd11 "signs_in" = true) (k11:PySem.W.keepIn K (.ref f11)=true)
  (a12:PySem.W.findIn K (.ref D) "grow" = some (some (.ref f12))) (i12:PySem.W.isFn K (.ref f12)=true) (l12:K.lookup f12=some ⟨oc12,od12,.func (PySem.W.fnOf "grow" "Machine.grow" (aE cq) (au cq) (af cq) .none kV12 dc12 pm12 an12 cd12 ct12),sl12⟩) (c12:PySem.W.codeIn K cd12 "Machine.grow" = true) (k12:PySem.W.keepIn K (.ref f12)=true)
  {T13:Addr} {ob13:Obj} {nn13:Nat}
  (a13:PySem.W.findIn K (.ref D) "__init__" = some (some (.ref f13))) (i13:PySem.W.isFn K (.ref f13)=true) (l13:K.lookup f13=some ⟨oc13,od13,.func (PySem.W.fnOf "__init__" "Machine.__init__" (aE bT) (au bT) (af bT) (.ref T13) kV13 dc13 pm13 an13 cd13 ct13),sl13⟩) (c13:PySem.W.codeIn K cd13 "Machine.__init__" = true) (k13:PySem.W.keepIn K (.ref f13)=true) (t13:K.lookup T13=some ob13) (u13:ob13.data=.seq #[.none] nn13)
  (a14:PySem.W.findIn K (.ref D) "book" = some (some (.ref f14))) (i14:PySem.W.isFn K (.ref f14)=true) (l14:K.lookup f14=some ⟨oc14,od14,.func (PySem.W.fnOf "book" "Machine.book" (aE cF) (au cF) (af cF) .none kV14 dc14 pm14 an14 cd14 ct14),sl14⟩) (c14:PySem.W.codeIn K cd14 "Machine.book" = true) (k14:PySem.W.keepIn K (.ref f14)=true)
  (a15:PySem.W.findIn K (.ref D) "table" = some (some (.ref f15))) (i15:PySem.W.isFn K (.ref f15)=true) (l15:K.lookup f15=some ⟨oc15,od15,.func (PySem.W.fnOf "table" "Machine.table" (aE b6) (au b6) (af b6) .none kV15 dc15 pm15 an15 cd15 ct15),sl15⟩) (c15:PySem.W.codeIn K cd15 "Machine.table" = true) (k15:PySem.W.keepIn K (.ref f15)=true)
  (a16:PySem.W.nsIn K mainGlobals "_law_cell_at" = some (some (.ref f16))) (l16:K.lookup f16=some ⟨oc16,od16,.func (PySem.W.fnOf "_law_cell_at" "_law_cell_at" (aE cP) (au cP) (af cP) .none kV16 dc16 pm16 an16 cd16 ct16),sl16⟩) (c16:PySem.W.codeIn K cd16 "_law_cell_at" = true) (k16:PySem.W.keepIn K (.ref f16)=true)
  (a17:PySem.W.nsIn K mainGlobals "_law_mixed" = some (some (.ref f17))) (l17:K.lookup f17=some ⟨oc17,od17,.func (PySem.W.fnOf "_law_mixed" "_law_mixed" (aE dB) (au dB) (af dB) .none kV17 dc17 pm17 an17 cd17 ct17),sl17⟩) (c17:PySem.W.codeIn K cd17 "_law_mixed" = true) (k17:PySem.W.keepIn K (.ref f17)=true)
  (a18:PySem.W.nsIn K mainGlobals "_law_text" = some (some (.ref f18))) (l18:K.lookup f18=some ⟨oc18,od18,.func (PySem.W.fnOf "_law_text" "_law_text" (aE dW) (au dW) (af dW) .none kV18 dc18 pm18 an18 cd18 ct18),sl18⟩) (c18:PySem.W.codeIn K cd18 "_law_text" = true) (k18:PySem.W.keepIn K (.ref f18)=true)
  (a19:PySem.W.nsIn K mainGlobals "_law_book" = some (some (.ref f19))) (l19:K.lookup f19=some ⟨oc19,od19,.func (PySem.W.fnOf "_law_book" "_law_book" (aE dU) (au dU) (af dU) .none kV19 dc19 pm19 an19 cd19 ct19),sl19⟩) (c19:PySem.W.codeIn K cd19 "_law_book" = true) (k19:PySem.W.keepIn K (.ref f19)=true)
  (a20:PySem.W.nsIn K mainGlobals "law" = some (some (.ref f20))) (l20:K.lookup f20=some ⟨oc20,od20,.func (PySem.W.fnOf "law" "law" (aE iQ) (au iQ) (af iQ) .none kV20 dc20 pm20 an20 cd20 ct20),sl20⟩) (c20:PySem.W.codeIn K cd20 "law" = true) (k20:PySem.W.keepIn K (.ref f20)=true)
  (z_bool:PySem.W.nsIn K mainGlobals "bool" = some none)
  (z_dict:PySem.W.nsIn K mainGlobals "dict" = some none)
  (z_int:PySem.W.nsIn K mainGlobals "int" = some none)
  (z_isinstance:PySem.W.nsIn K mainGlobals "isinstance" = some none)
  (z_len:PySem.W.nsIn K mainGlobals "len" = some none)
  (z_list:PySem.W.nsIn K mainGlobals "list" = some none)
  (z_max:PySem.W.nsIn K mainGlobals "max" = some none)
  (z_min:PySem.W.nsIn K mainGlobals "min" = some none)
  (z_range:PySem.W.nsIn K mainGlobals "range" = some none)
  (z_sorted:PySem.W.nsIn K mainGlobals "sorted" = some none)
  (z_sum:PySem.W.nsIn K mainGlobals "sum" = some none)
  (z_tuple:PySem.W.nsIn K mainGlobals "tuple" = some none)
  {t_MOST_SIGNS:Tok} (y_MOST_SIGNS:PySem.W.nsIn K mainGlobals "MOST_SIGNS" = some (some (.int 120 t_MOST_SIGNS)))
  {t_MOST_TEXTS:Tok} (y_MOST_TEXTS:PySem.W.nsIn K mainGlobals "MOST_TEXTS" = some (some (.int 8 t_MOST_TEXTS)))
  (w_Nodes:PySem.W.nsIn K mainGlobals "Nodes" = some (some (.ref C))) (pg_Nodes:PySem.W.plainGet K C Str.empty=true) (hd_Nodes:PySem.W.hasDictIn K C=true) (po_Nodes:PySem.W.plainOver K C=true) (sa_Nodes:PySem.W.findIn K (.ref C) "__setattr__" = some (some (.builtin "object.__setattr__"))) (mk_Nodes:PySem.W.makesIn K C=true) (kc_Nodes:PySem.W.keepIn K (.ref C)=true) (n_longs_Nodes:PySem.W.findIn K (.ref C) "longs" = some none) (n_links_Nodes:PySem.W.findIn K (.ref C) "links" = some none) (n_ways_Nodes:PySem.W.findIn K (.ref C) "ways" = some none) (n_texts_Nodes:PySem.W.findIn K (.ref C) "texts" = some none) (n_heads_Nodes:PySem.W.findIn K (.ref C) "heads" = some none) (n_nodes_Nodes:PySem.W.findIn K (.ref C) "nodes" = some none)
  (w_Machine:PySem.W.nsIn K mainGlobals "Machine" = some (some (.ref D))) (pg_Machine:PySem.W.plainGet K D Str.empty=true) (hd_Machine:PySem.W.hasDictIn K D=true) (po_Machine:PySem.W.plainOver K D=true) (sa_Machine:PySem.W.findIn K (.ref D) "__setattr__" = some (some (.builtin "object.__setattr__"))) (mk_Machine:PySem.W.makesIn K D=true) (kc_Machine:PySem.W.keepIn K (.ref D)=true) (n_longs_Machine:PySem.W.findIn K (.ref D) "longs" = some none) (n_links_Machine:PySem.W.findIn K (.ref D) "links" = some none) (n_ways_Machine:PySem.W.findIn K (.ref D) "ways" = some none) (n_texts_Machine:PySem.W.findIn K (.ref D) "texts" = some none) (n_heads_Machine:PySem.W.findIn K (.ref D) "heads" = some none) (n_nodes_Machine:PySem.W.findIn K (.ref D) "nodes" = some none)
  : ∃ fd:FuncData,(∀ (s:Shared) (v:Value),BindsTo s fd ⟨[v],[]⟩ [("_law_script",v)])/\∀ base:Heap,K.In base->base.Ns mainGlobals mg->FnOk l.prog w K mg base CX0 8 fa fd ["_law_script"] (spF (gx0 K) wg):=by
 have e:=hfa.symm.trans (Yr X G a20)
 cases e
 have B:Blt mg:=⟨ZG X G z_bool,ZG X G z_dict,ZG X G z_int,ZG X G z_isinstance,ZG X G z_len,ZG X G z_list,ZG X G z_max,ZG X G z_min,ZG X G z_range,ZG X G z_sorted,ZG X G z_sum,ZG X G z_tuple,⟨_,Yr X G y_MOST_SIGNS⟩,⟨_,Yr X G y_MOST_TEXTS⟩⟩
 have O:ObF K mg C D:=⟨⟨pg_Nodes,hd_Nodes,po_Nodes,sa_Nodes⟩,Yr X G w_Nodes,n_longs_Nodes,n_links_Nodes,n_ways_Nodes,n_texts_Nodes,n_heads_Nodes,n_nodes_Nodes,⟨pg_Machine,hd_Machine,po_Machine,sa_Machine⟩,Yr X G w_Machine,n_longs_Machine,n_links_Machine,n_ways_Machine,n_texts_Machine,n_heads_Machine,n_nodes_Machine⟩
 refine ⟨PySem.W.fnOf "law" "law" (aE iQ) (au iQ) (af iQ) .none kV20 dc20 pm20 an20 cd20 ct20,fun s v=>.of_eq rfl,fun base _ _=>?_⟩
 have aO:=aO (P:=l.prog) (w:=w) (base:=base) (cE (st:=bM) l0 c0 k0) ⟨a0,i0,k0⟩ B O
 have cz:=cz (P:=l.prog) (w:=w) (base:=base) (cE (st:=bO) l1 c1 k1) ⟨mk_Nodes,a1,i1,kc_Nodes⟩ B O aO
 have aT:=aT (P:=l.prog) (w:=w) (base:=base) (cE (st:=aU) l2 c2 k2) ⟨a2,i2,k2⟩ B O aO
 have bI:=bI (P:=l.prog) (w:=w) (base:=base) (cE (st:=bu) l3 c3 k3) ⟨a3,i3,k3⟩ B O aO aT
 have bS:=bS (P:=l.prog) (w:=w) (base:=base) (cE (st:=bC) l4 c4 k4) ⟨a4,i4,k4⟩ B O bI
 have bp:=fun m=>bp (m:=m) (P:=l.prog) (w:=w) (base:=base) (cE (st:=aV) l5 c5 k5) ⟨a5,i5,k5⟩ B O
 have cW:=fun m=>cW (m:=m) (P:=l.prog) (w:=w) (base:=base) (cE (st:=cx) l6 c6 k6) ⟨a6,i6,k6⟩ B O
 have dn:=fun m=>dn (m:=m) (P:=l.prog) (w:=w) (base:=base) (cE (st:=cR) l7 c7 k7) ⟨a7,i7,k7⟩ B O bp cW
 have cL:=cL (P:=l.prog) (w:=w) (base:=base) (cE (st:=bZ) l8 c8 k8) ⟨a8,i8,k8⟩ B O
 have fm:=fun m=>fm (m:=m) (P:=l.prog) (w:=w) (base:=base) (cE (st:=dQ) l9 c9 k9) (Yr X G a9) B O
 have cw:=fun m=>cw (m:=m) (P:=l.prog) (w:=w) (base:=base) (cE (st:=bN) l10 c10 k10) (Yr X G a10) B O fm
 have fj:=fun m=>fj (m:=m) (P:=l.prog) (w:=w) (base:=base) (cE (st:=dZ) l11 c11 k11) (Yr X G a11) B O
 have cX:=cX (P:=l.prog) (w:=w) (base:=base) (cE (st:=cq) l12 c12 k12) ⟨a12,i12,k12⟩ B O bS cw fj
 have aK:=aK (P:=l.prog) (w:=w) (base:=base) ⟨⟨_,_,_,_,_,_,_,_,_,_,_,_,rfl,l13,c13,t13,u13⟩,k13⟩ ⟨mk_Machine,a13,i13,kc_Machine⟩ B O cL cX cz
 have gO:=fun m=>gO (m:=m) (P:=l.prog) (w:=w) (base:=base) (cE (st:=cF) l14 c14 k14) ⟨a14,i14,k14⟩ B O
 have aZ:=fun m=>aZ (m:=m) (P:=l.prog) (w:=w) (base:=base) (cE (st:=b6) l15 c15 k15) ⟨a15,i15,k15⟩ B O dn
 have aM:=fun m=>aM (m:=m) (P:=l.prog) (w:=w) (base:=base) (cE (st:=cP) l16 c16 k16) (Yr X G a16) B O
 have eD:=fun m=>eD (m:=m) (P:=l.prog) (w:=w) (base:=base) (cE (st:=dB) l17 c17 k17) (Yr X G a17) B O
 have fq:=fun m=>fq (m:=m) (P:=l.prog) (w:=w) (base:=base) (cE (st:=dW) l18 c18 k18) (Yr X G a18) B O aM eD
 have fo:=fun m=>fo (m:=m) (P:=l.prog) (w:=w) (base:=base) (cE (st:=dU) l19 c19 k19) (Yr X G a19) B O aM fq
 exact vN rfl (zc (m:=none) (cE (st:=iQ) l20 c20 k20) B O aK aZ fo aM) hlaw
end T10
open PySem PySem.W PyProof.Rows PySem.W.X PySem.W.ZRun
set_option maxRecDepth 100000 in
set_option maxHeartbeats 0 in
theorem PySem.Challenge.cw_allparts_k10_whole_books_with_the_same_t_holds : PySem.Challenge.rw_allparts_k10_whole_books_with_the_same_t.Holds := by
 w_on;o_law;z_head;(case hw=>w_witness2)
 k_fill
 intro w s₀ s₁ mg mb G y fa o pm cd doc dV kV ho hd hcd hD hmg hg args vals as L hpre hlay hrd hwl hlo
 z_open y L KX ZH ZN ZT
 clear ZH ZN ZT
 refine VS.tJ (l:=PySem.Challenge.rw_allparts_k10_whole_books_with_the_same_t) (k:=8) (x := "_law_script") (g:=VS.wg) rfl rfl ⟨rfl,by decide,by decide⟩ (fun _=>rfl) ?F w s₀ s₁ mg mb G KX fa o pm cd doc dV kV ho hd hcd hD hmg hg args vals as hpre hlay hrd hwl hlo
 case F =>
  intro w mg fa h KX G hmg
  refine' T10.all_mk KX G hmg T10.uI ?a0 ?i0 ?l0 ?c0 ?k0 ?a1 ?i1 ?l1 ?c1 ?k1 ?a2 ?i2 ?l2 ?c2 ?k2 ?a3 ?i3 ?l3 ?c3 ?k3 ?a4 ?i4 ?l4 ?c4 ?k4 ?a5 ?i5 ?l5 ?c5 ?k5 ?a6 ?i6 ?l6 ?c6 ?k6 ?a7 ?i7 ?l7 ?c7 ?k7 ?a8 ?i8 ?l8 ?c8 ?k8 ?a9 ?l9 ?c9 ?k9 ?a10 ?l10 ?c10 ?k10 ?a11 ?l11 ?c11 ?k11 ?a12 ?i12 ?l12 ?c12 ?k12 ?a13 ?i13 ?l13 ?c13 ?k13 ?t13 ?u13 ?a14 ?i14 ?l14 ?c14 ?k14 ?a15 ?i15 ?l15 ?c15 ?k15 ?a16 ?l16 ?c16 ?k16 ?a17 ?l17 ?c17 ?k17 ?a18 ?l18 ?c18 ?k18 ?a19 ?l19 ?c19 ?k19 ?a20 ?l20 ?c20 ?k20 ?z_bool ?z_dict ?z_int ?z_isinstance ?z_len ?z_list ?z_max ?z_min ?z_range ?z_sorted ?z_sum ?z_tuple ?y_MOST_SIGNS ?y_MOST_TEXTS ?w_Nodes ?pg_Nodes ?hd_Nodes ?po_Nodes ?sa_Nodes ?mk_Nodes ?kc_Nodes ?n_longs_Nodes ?n_links_Nodes ?n_ways_Nodes ?n_texts_Nodes ?n_heads_Nodes ?n_nodes_Nodes ?w_Machine ?pg_Machine ?hd_Machine ?po_Machine ?sa_Machine ?mk_Machine ?kc_Machine ?n_longs_Machine ?n_links_Machine ?n_ways_Machine ?n_texts_Machine ?n_heads_Machine ?n_nodes_Machine
  (case w_Nodes=>k_is)
  (case w_Machine=>k_is)
  (case a0=>k_is)
  (case i0=>k_is)
  (case l0=>k_is)
  (case c0=>k_is)
  (case k0=>k_is)
  (case a1=>k_is)
  (case i1=>k_is)
  (case l1=>k_is)
  (case c1=>k_is)
  (case k1=>k_is)
  (case a2=>k_is)
  (case i2=>k_is)
  (case l2=>k_is)
  (case c2=>k_is)
  (case k2=>k_is)
  (case a3=>k_is)
  (case i3=>k_is)
  (case l3=>k_is)
  (case c3=>k_is)
  (case k3=>k_is)
  (case a4=>k_is)
  (case i4=>k_is)
  (case l4=>k_is)
  (case c4=>k_is)
  (case k4=>k_is)
  (case a5=>k_is)
  (case i5=>k_is)
  (case l5=>k_is)
  (case c5=>k_is)
  (case k5=>k_is)
  (case a6=>k_is)
  (case i6=>k_is)
  (case l6=>k_is)
  (case c6=>k_is)
  (case k6=>k_is)
  (case a7=>k_is)
  (case i7=>k_is)
  (case l7=>k_is)
  (case c7=>k_is)
  (case k7=>k_is)
  (case a8=>k_is)
  (case i8=>k_is)
  (case l8=>k_is)
  (case c8=>k_is)
  (case k8=>k_is)
  (case a9=>k_is)
  (case l9=>k_is)
  (case c9=>k_is)
  (case k9=>k_is)
  (case a10=>k_is)
  (case l10=>k_is)
  (case c10=>k_is)
  (case k10=>k_is)
  (case a11=>k_is)
  (case l11=>k_is)
  (case c11=>k_is)
  (case k11=>k_is)
  (case a12=>k_is)
  (case i12=>k_is)
  (case l12=>k_is)
  (case c12=>k_is)
  (case k12=>k_is)
  (case a13=>k_is)
  (case i13=>k_is)
  (case l13=>k_is)
  (case c13=>k_is)
  (case k13=>k_is)
  (case t13=>k_is)
  (case u13=>first | k_is | exact rfl)
  (case a14=>k_is)
  (case i14=>k_is)
  (case l14=>k_is)
  (case c14=>k_is)
  (case k14=>k_is)
  (case a15=>k_is)
  (case i15=>k_is)
  (case l15=>k_is)
  (case c15=>k_is)
  (case k15=>k_is)
  (case a16=>k_is)
  (case l16=>k_is)
  (case c16=>k_is)
  (case k16=>k_is)
  (case a17=>k_is)
  (case l17=>k_is)
  (case c17=>k_is)
  (case k17=>k_is)
  (case a18=>k_is)
  (case l18=>k_is)
  (case c18=>k_is)
  (case k18=>k_is)
  (case a19=>k_is)
  (case l19=>k_is)
  (case c19=>k_is)
  (case k19=>k_is)
  (case a20=>k_is)
  (case l20=>k_is)
  (case c20=>k_is)
  (case k20=>k_is)
  (case z_bool=>k_is)
  (case z_dict=>k_is)
  (case z_int=>k_is)
  (case z_isinstance=>k_is)
  (case z_len=>k_is)
  (case z_list=>k_is)
  (case z_max=>k_is)
  (case z_min=>k_is)
  (case z_range=>k_is)
  (case z_sorted=>k_is)
  (case z_sum=>k_is)
  (case z_tuple=>k_is)
  (case y_MOST_SIGNS=>k_is)
  (case y_MOST_TEXTS=>k_is)
  (case pg_Nodes=>k_is)
  (case hd_Nodes=>k_is)
  (case po_Nodes=>k_is)
  (case sa_Nodes=>k_is)
  (case mk_Nodes=>k_is)
  (case kc_Nodes=>k_is)
  (case n_longs_Nodes=>k_is)
  (case n_links_Nodes=>k_is)
  (case n_ways_Nodes=>k_is)
  (case n_texts_Nodes=>k_is)
  (case n_heads_Nodes=>k_is)
  (case n_nodes_Nodes=>k_is)
  (case pg_Machine=>k_is)
  (case hd_Machine=>k_is)
  (case po_Machine=>k_is)
  (case sa_Machine=>k_is)
  (case mk_Machine=>k_is)
  (case kc_Machine=>k_is)
  (case n_longs_Machine=>k_is)
  (case n_links_Machine=>k_is)
  (case n_ways_Machine=>k_is)
  (case n_texts_Machine=>k_is)
  (case n_heads_Machine=>k_is)
  (case n_nodes_Machine=>k_is)
end
