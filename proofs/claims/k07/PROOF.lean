import PyProof.Rows.All
import Wide.All
import OpenK.AllK
import Wide.FinOn
import Lean
import PyProof.EqAt
import PyProof.EqKinds
import PyProof.TupleCall
import PyProof.Rows.SortShellK
import PyProof.Rows.SortStr
import PyProof.Rows.SortWalk
import PyProof.StrBlockH
import PyProof.StrLawsIn
import PyProof.Rows.SetFrom
import PyProof.CollectWalk
import KE.KDictSum
import PyProof.ListStr
import PyProof.SeqI3
import PyProof.Rows.CallKwBuiltin
import PyProof.ListRange
import PyProof.AttrMissSeq
import PyProof.DictUpdate
import PyProof.DictList
import PyProof.ListNew
import PyProof.FactsAll.dict_1
import PyProof.SliceList
import PyProof.WalkInts
import PyProof.StationsW
import OpenK.KOwn
import KE.KTryMore
import PyProof.NsDelKeeps
import PyProof.ExcArgsOwn
import PyProof.ExcAttrAll.Exception
import OpenK.KDescr
import KE.KIsAll
import PyProof.ExcBaseAll.ValueError
import PyProof.StrBlock
import PyProof.StrCalls
import PyProof.StrLawsOccR
import KE.KDictOf
import PyProof.Rows.Range3
import PySem.Challenge.RW_allparts_k07_grown_in_any_weaving
theorem PySem.W.Fast.tw999056698589717620:True:=trivial
theorem PySem.W.Fast.tw5973632682223470257:True:=trivial
theorem PySem.W.Fast.tw17117682211714985180:True:=trivial
theorem PySem.W.Fast.tw11238456429213387032:True:=trivial
theorem PySem.W.Fast.tw240851918070346990:True:=trivial
theorem PySem.W.Fast.tw4950188085225178662:True:=trivial
theorem PySem.W.Fast.tw6378899430337894998:True:=trivial
theorem PySem.W.Fast.tw6366352798153026031:True:=trivial
set_option linter.all false
set_option maxRecDepth 100000
set_option Elab.async false
set_option maxHeartbeats 4000000
abbrev Z2:=PySem.Value->PySem.Shared->Prop
abbrev Xm:=List (PySem.Addr×PySem.Obj)
abbrev Xd:=List (List PySem.Addr)
abbrev X4:=PySem.W.Frag
abbrev Wz:=PySem.Str->Option PySem.Value
abbrev Wy:=List PySem.Addr
abbrev Wx:=List PySem.Value
abbrev Ww:=Option PySem.Value
abbrev Wv:=List Nat
abbrev Wu:=List Int
abbrev Wt:=List (List (List Nat))
abbrev Zr:=@if_pos
abbrev Zp:=@if_neg
abbrev ZR:=@beq_eq_false_iff_ne
open Option renaming bind_eq_some_iff->Zz,map_eq_some_iff->Zy,bind_some->Zw,isSome_map->Yj,isSome_iff_exists->Yb,getD_some->YY,getD_none->X5
open List renaming mem_cons_of_mem->Zx,length_map->Zv,getD_eq_getElem?_getD->Zu,mem_cons_self->Zt,length_append->Zs,getElem?_eq_getElem->Zo,map_cons->Zm,getElem?_eq_some_iff->Zj,mem_cons->Zi,mem_append->Zg,nodup_cons->Ze,zip_cons_cons->Zd,mem_singleton->Zb,length_cons->Za,size_toArray->ZZ,nodup_append->ZY,mem_append_right->ZW,getElem?_map->ZP,length_singleton->ZO,append_nil->ZM,flatten_cons->ZL,length_set->ZJ,getElem?_append_left->ZI,length_range->ZE,getElem?_eq_none->ZC,map_append->ZA,getElem?_append_right->Z0,sublist_cons_self->Z1,find?_cons->Z3,suffix_refl->Z4,lookup_cons->Z5,getElem_mem->Z6,map_map->Z7,append_assoc->Z8,mem_append_left->Z9,getElem?_set_ne->Yz,length_zip->Yw,all_eq_true->Yv,getElem?_eq_none_iff->Yu,flatten_append->Yt,mem_map->Yr,nodup_nil->Yo,getElem?_replicate->Yi,any_cons->Yg,sublist_append_right->Yf,getElem?_zip_eq_some->Ye,mem_of_getElem?->Yc,getD_cons_succ->Ya,mem_range->YX,length_take->YW,drop_of_length_le->YT,suffix_nil->YR,length_replicate->YQ,length_drop->YK,mem_or_eq_of_mem_set->YJ,map_congr_left->YH,take_of_length_le->YD,getElem?_set_self->YC,cons_lt_cons_iff->Y3,any_eq_true->Y7,mem_iff_getElem->Y8,prefix_append_right_inj->Xy,nil_suffix->Xw,mem_filter->Xv,length_nil->Xu,length_range'->Xn,all_cons->Xi,length_eq_zero_iff->Xf,cons_append->Xe,map_set->Xb,nil_append->XY,idxOf_cons->XX,set_getElem_self->XT,cons_prefix_cons->XS,map_id->XR,filterMap_cons->XO,sum_cons->XI,prefix_append->XF,pairwise_cons->XE,findIdx?_cons->XD,pairwise_map->X0,getElem?_set->X1,prefix_of_prefix_length_le->X3,map_fst_zip->X8
open PySem renaming wpAny_bind->Zq,wpAny_pure->Zc,wpAny_truthy_bool->Yh,wpAny_mono->YV,wpAny_passesOwn->YO,mem_of_lookup->YI,wpAny_Call_Name_kw->Y0,tupleKind_room_in1->Y1,sizeLine_eq->Y2,wpAny_call_entry->Xs,wpAny_holding->Xq,wpAny_typeNameOfWhole_keyiter->Xp,wpAny_newObj_type->Xa,wpAny_execs_nil->XJ
open Option.some renaming inj->Zn
open PySem.Heap renaming get?_push_of_some->Zl,get?_push_size->ZV,lt_size->ZU,get?_update_other->XM,size_push->X2
open Nat renaming le_refl->Zk,lt_of_lt_of_le->ZX,ne_of_lt->ZS,le_of_not_lt->ZK,le_trans->ZG,lt_irrefl->Yp,zero_le->Yn,lt_succ_self->Yl,pos_of_ne_zero->YU,succ_le_succ->Y4,le_of_not_le->Y5,le_add_right->Y6,min_eq_left->Xz,add_sub_cancel->Xo,le_of_eq->Xc,not_lt_zero->XZ,zero_add->XC,lt_succ_of_lt->XB,le_of_lt->XA,min_eq_right->X6,lt_of_not_le->X7
open Bool renaming false_ne_true->Zh,and_eq_true->Zf,false_eq_true->YF,and_eq_true_iff->Y9,eq_iff_iff->XW
open PySem.W renaming mg_none_of->ZD,mg_of->Yx,kia_one->Ys,plainGet_of->XQ,callWith_K->XH
open Int renaming emod_lt_of_pos->Yy,emod_nonneg->Yq,toNat_natCast->YA,mul_le_mul_of_nonneg_right->X9
open Array renaming getElem?_toList->Ym,length_toList->YZ
open PySem.PassesOwn renaming never->Yk
open Ne renaming symm->Yd
open PySem.F renaming slot_dict_keyiterator_next->YM,type_list_append->Xk,slot_list_append->Xj,plainAttrs_list->Xg,slot_dict_get->XU
open PySem.Paired renaming length->YE
open List.Sublist renaming refl->YB
open PyProof.Rows renaming callWith_type1->Xr,getD_mem'->Xh
open Prod.mk renaming inj->Xl
open PySem.W.KFB renaming if_not->XG
section
namespace L2
theorem iR {G:Prop} (h:∀ P:Prop,(G->P)->P):G:=h G id
end L2
namespace VS
noncomputable abbrev Tx:=Wv
inductive T where
 | non | bl (b:Bool) | int (i:Int) | str (s:Tx) | scr (ns:Wu)
 | tup (l:List T) | lst (l:List T) | dct (kd:Nat) (l:List (T×T)) | obj (c:Nat) (fs:List (Nat×T))
 deriving Inhabited
abbrev Wp:=List T
noncomputable def fu:Nat:=16777216
mutual
@[simp] noncomputable def imm:T->Bool
 | .lst _=>false
 | .dct _ _=>false
 | .obj _ _=>false
 | .tup l=>fj l
 | _=>true
@[simp] noncomputable def fj:Wp->Bool
 | []=>true
 | t :: r=>imm t && fj r
end
mutual
@[simp] noncomputable def eqT:T->T->Bool
 | .non,.non=>true
 | .bl a,.bl b=>a == b
 | .bl a,.int i=>(if a then 1 else 0) == i
 | .int i,.bl a=>i == (if a then 1 else 0)
 | .int i,.int j=>i == j
 | .str s,.str t=>s == t
 | .tup a,.tup b=>qg a b
 | .lst a,.lst b=>qg a b
 | _,_=>false
@[simp] noncomputable def qg:Wp->Wp->Bool
 | [],[]=>true
 | a :: as,b :: bs=>eqT a b && qg as bs
 | _,_=>false
end
@[simp] noncomputable def eqD:Nat->T->Bool
 | _,.non=>true
 | _,.bl _=>true
 | _,.int _=>true
 | _,.str _=>true
 | n+1,.tup l=>l.all (eqD n)
 | n+1,.lst l=>l.all (eqD n)
 | _,_=>false
inductive Md where | fr | pu | bo
 deriving DecidableEq,Inhabited
@[simp] noncomputable def Md.join:Md->Md->Md
 | .bo,_=>.bo
 | _,.bo=>.bo
 | .pu,_=>.pu
 | _,.pu=>.pu
 | .fr,.fr=>.fr
inductive Cell where | pu (t:T) | ow (t:T)
 deriving Inhabited
abbrev Ws:=Option Cell
noncomputable abbrev Env:=List (Ws)
noncomputable abbrev Val:=Md×T
abbrev Wq:=Option Val
abbrev Wr:=List Val
noncomputable abbrev Ex:=Env->Wq
noncomputable abbrev Exs:=Env->Option (Wr)
@[simp] noncomputable def up (m:Md) (t:T):Val:=(if imm t then .fr else m,t)
@[simp] noncomputable def q9:T->Bool
 | .lst _=>true
 | .dct _ _=>true
 | .obj _ _=>true
 | _=>false
@[simp] noncomputable def cellOf:Val->Ws
 | (.fr,t)=>some (if q9 t then .ow t else .pu t)
 | (.pu,t)=>some (.pu t)
 | (.bo,_)=>none
inductive Out where | nx (η:Env) | rt (v:Val) (η:Env) | bk (η:Env) | ct (η:Env)
noncomputable abbrev Sx:=Env->Option Out
@[simp] noncomputable def eC (t:T) (_:Env):Wq:=some (.fr,t)
@[simp] noncomputable def ae (i:Nat) (η:Env):Wq:=match η[i]? with
 | some (some (.pu t))=>some (up .pu t)
 | some (some (.ow t))=>some (.bo,t)
 | _=>none
@[simp] noncomputable def e1 (f:Val->Wq) (a:Ex) (η:Env):Wq:=(a η).bind f
@[simp] noncomputable def e2 (f:Val->Val->Wq) (a b:Ex) (η:Env):Wq:=(a η).bind fun x=>(b η).bind fun y=>f x y
@[simp] noncomputable def ai (_:Env):Option (Wr):=some []
@[simp] noncomputable def ab (a:Ex) (r:Exs) (η:Env):Option (Wr):=(a η).bind fun x=>(r η).bind fun xs=>some (x :: xs)
@[simp] noncomputable def eN (f:Wr->Wq) (as:Exs) (η:Env):Wq:=(as η).bind f
@[simp] noncomputable def cL:Wr->Md
 | []=>.fr
 | v :: r=>v.1.join (cL r)
@[simp] noncomputable def trees (l:Wr):Wp:=l.map (·.2)
noncomputable def mkL (m:Md) (l:Wp):Wq:=if l.length<=fu then some (if fj l then .fr else m,.lst l) else none
@[simp] noncomputable def dz (as:Exs) (η:Env):Wq:=(as η).bind fun l=>mkL (cL l) (trees l)
noncomputable def rg (l:Wr):Wq:=if l.length<=fu then some (up (cL l) (.tup (trees l))) else none
@[simp] noncomputable def mn (as:Exs) (η:Env):Wq:=(as η).bind rg
noncomputable def dput (l:List (T×T)) (k v:T):List (T×T):=if l.any (fun p=>eqT p.1 k) then l.map (fun p=>if eqT p.1 k then (p.1,v) else p) else l++[(k,v)]
noncomputable def iM:T->Bool
 | .int _=>true
 | .str _=>true
 | _=>false
noncomputable def keyOk:Nat->T->Bool
 | 0,t=>iM t
 | 1,.tup l=>l.all iM
 | _,_=>false
noncomputable def pairs:List (Ex×Ex)->Env->Option (List (Val×Val))
 | [],_=>some []
 | (a,b) :: r,η=>(a η).bind fun x=>(b η).bind fun y=>(pairs r η).map ((x,y) :: ·)
noncomputable def mG (kd:Nat) (ps:List (Ex×Ex)) (η:Env):Wq:=(pairs ps η).bind fun l=>if l.all (fun p=>keyOk kd p.1.2)/\l.length<=15 then
 some (cL (l.map (·.2)),.dct kd (l.foldl (fun d p=>dput d p.1.2 p.2.2) [])) else none
@[simp] noncomputable def tru:T->Option Bool
 | .bl b=>some b
 | .int i=>some (i != 0)
 | .str s=>some (!s.isEmpty)
 | .lst l=>some (!l.isEmpty)
 | .tup l=>some (!l.isEmpty)
 | .dct 0 l=>some (!l.isEmpty)
 | .non=>some false
 | _=>none
@[simp] noncomputable def eZ (a b:Ex) (η:Env):Wq:=(a η).bind fun x=>match x.2 with
 | .bl true=>b η
 | .bl false=>some (.fr,.bl false)
 | _=>none
@[simp] noncomputable def eOr (a b:Ex) (η:Env):Wq:=(a η).bind fun x=>match x.2 with
 | .bl true=>some (.fr,.bl true)
 | .bl false=>b η
 | _=>none
@[simp] noncomputable def iY (a:Ex) (η:Env):Wq:=(a η).bind fun x=>match x.2 with
 | .bl b=>some (.fr,.bl (!b))
 | _=>none
@[simp] noncomputable def eIf (c a b:Ex) (η:Env):Wq:=(c η).bind fun x=>(tru x.2).bind fun t=>if t then a η else b η
@[simp] noncomputable def isN:T->Bool
 | .non=>true
 | _=>false
@[simp] noncomputable def vh (a:Ex) (η:Env):Wq:=(a η).bind fun x=>some (.fr,.bl (isN x.2))
@[simp] noncomputable def fA (a:Ex) (η:Env):Wq:=(a η).bind fun x=>some (.fr,.bl (!isN x.2))
@[simp] noncomputable def jc (f g:Val->Val->Wq) (a b c:Ex) (η:Env):Wq:=(a η).bind fun x=>(b η).bind fun y=>(f x y).bind fun r=>match r.2 with
 | .bl true=>(c η).bind fun z=>g y z
 | .bl false=>some (.fr,.bl false)
 | _=>none
@[simp] noncomputable def int?:T->Option Int
 | .int i=>some i
 | _=>none
noncomputable def cn:Val->Val->Wq
 | (_,.int i),(_,.int j)=>some (.fr,.int (i+j))
 | (_,.str s),(_,.str t)=>if s.length+t.length<=fu then some (.fr,.str (s++t)) else none
 | (m,.lst s),(n,.lst t)=>mkL (m.join n) (s++t)
 | _,_=>none
@[simp] noncomputable def iU:Val->Val->Wq
 | (_,.int i),(_,.int j)=>some (.fr,.int (i - j))
 | _,_=>none
noncomputable def B62:Int:=4611686018427387904
noncomputable def B64:Int:=18446744073709551616
noncomputable def iO:Val->Val->Wq
 | (_,.int i),(_,.int j)=>if (-B64 < i/\i < B64)\/(-B64 < j/\j < B64) then some (.fr,.int (i * j)) else none
 | _,_=>none
noncomputable def bD:Val->Val->Wq
 | (_,.int i),(_,.int j)=>if 0 < j/\j < 1073741824 then some (.fr,.int (i / j)) else none
 | _,_=>none
noncomputable def oMod:Val->Val->Wq
 | (_,.int i),(_,.int j)=>if 0 < j then some (.fr,.int (i % j)) else none
 | _,_=>none
noncomputable def ltx:Tx->Tx->Bool
 | [],[]=>false
 | [],_ :: _=>true
 | _ :: _,[]=>false
 | a :: as,b :: bs=>if a < b then true else if b < a then false else ltx as bs
@[simp] noncomputable def oLt:Val->Val->Wq
 | (_,.int i),(_,.int j)=>some (.fr,.bl (decide (i < j)))
 | (_,.str s),(_,.str t)=>some (.fr,.bl (ltx s t))
 | _,_=>none
@[simp] noncomputable def oLe:Val->Val->Wq
 | (_,.int i),(_,.int j)=>some (.fr,.bl (decide (i<=j)))
 | (_,.str s),(_,.str t)=>some (.fr,.bl (!ltx t s))
 | _,_=>none
@[simp] noncomputable def oGt (a b:Val):Wq:=oLt b a
@[simp] noncomputable def oGe (a b:Val):Wq:=oLe b a
@[simp] noncomputable def oEq (a b:Val):Wq:=if eqD 60 a.2/\eqD 60 b.2 then some (.fr,.bl (eqT a.2 b.2)) else none
@[simp] noncomputable def oNe (a b:Val):Wq:=if eqD 60 a.2/\eqD 60 b.2 then some (.fr,.bl (!eqT a.2 b.2)) else none
noncomputable def eX (l:List (T×T)) (k:T):Option T:=(l.find? fun p=>eqT p.1 k).map (·.2)
noncomputable def ixP (n:Nat) (i:Int):Option Nat:=if 0<=i then (if i < n then some i.toNat else none) else (if 0<=i+n then some (i+n).toNat else none)
@[simp] noncomputable def sub (m:Md) (t:T):Val:=up m t
@[simp] noncomputable def aN:Val->Val->Wq
 | (m,.lst l),(_,.int i)=>(ixP l.length i).bind fun k=>(l[k]?).map (sub m)
 | (m,.tup l),(_,.int i)=>(ixP l.length i).bind fun k=>(l[k]?).map (sub m)
 | (_,.scr l),(_,.int i)=>(ixP l.length i).bind fun k=>(l[k]?).map fun n=>(.fr,.int n)
 | (_,.str l),(_,.int i)=>(ixP l.length i).bind fun k=>(l[k]?).map fun n=>(.fr,.str [n])
 | _,_=>none
noncomputable def clip (n:Nat) (i:Int):Nat:=if i < 0 then (i+n).toNat else min i.toNat n
noncomputable def cut {α:Type} (l:List α) (a b:Option Int):List α :=
 let lo:=match a with | none=>0 | some i=>clip l.length i
 let hi:=match b with | none=>l.length | some i=>clip l.length i
 (l.drop lo).take (hi - lo)
@[simp] noncomputable def oSl (v:Val) (a b:Option Int):Wq:=match v with
 | (_,.str s)=>some (.fr,.str (cut s a b))
 | (m,.lst l)=>mkL m (cut l a b)
 | _=>none
@[simp] noncomputable def lO (c:Option Ex) (η:Env):Option (Option Int):=match c with
 | none=>some none
 | some e=>(e η).bind fun y=>(int? y.2).map some
@[simp] noncomputable def eSl (a:Ex) (lo hi:Option Ex) (η:Env):Wq:=(a η).bind fun x=>(lO lo η).bind fun l=>(lO hi η).bind fun h=>oSl x l h
@[simp] noncomputable def Ec:T->Option Nat
 | .lst l=>some l.length
 | .tup l=>some l.length
 | .str l=>some l.length
 | .scr l=>some l.length
 | .dct 0 l=>some l.length
 | _=>none
@[simp] noncomputable def bI:Wr->Wq
 | [x]=>(Ec x.2).map fun n=>(.fr,.int n)
 | _=>none
@[simp] noncomputable def nk:Wr->Wq
 | [(_,.int i),(_,.int j)]=>some (.fr,.int (if j < i then j else i))
 | _=>none
@[simp] noncomputable def ng:Wr->Wq
 | [(_,.int i),(_,.int j)]=>some (.fr,.int (if j > i then j else i))
 | _=>none
noncomputable def lZ:Wp->Option (Wu)
 | []=>some []
 | .int i :: r=>(lZ r).map (i :: ·)
 | _=>none
noncomputable def strs?:Wp->Option (List Tx)
 | []=>some []
 | .str i :: r=>(strs? r).map (i :: ·)
 | _=>none
noncomputable def vw:Wr->Wq
 | [(_,.lst l)]=>(lZ l).bind fun is=>some (.fr,.int is.sum)
 | _=>none
@[simp] noncomputable def EM:T->Option (Wp)
 | .lst l=>some l
 | .tup l=>some l
 | .scr l=>some (l.map T.int)
 | .str l=>some (l.map fun c=>T.str [c])
 | .dct _ l=>some (l.map (·.1))
 | _=>none
@[simp] noncomputable def zw:Wr->Wq
 | [(m,.lst l)]=>mkL m l
 | [(m,.tup l)]=>mkL m l
 | _=>none
noncomputable def iK:Wr->Wq
 | [(m,.lst l)]=>if l.length<=fu then some (up m (.tup l)) else none
 | _=>none
noncomputable def kY (x:Tx):List Tx->List Tx
 | []=>[x]
 | y :: r=>if ltx y x then y :: kY x r else x :: y :: r
noncomputable def eO (l:List Tx):List Tx:=l.foldr kY []
inductive Ty where | int | str | bool | list | tuple | dict
@[simp] noncomputable def oS:Ty->T->Bool
 | .int,.int _=>true
 | .int,.bl _=>true
 | .bool,.bl _=>true
 | .str,.str _=>true
 | .list,.lst _=>true
 | .tuple,.tup _=>true
 | .dict,.dct _ _=>true
 | _,_=>false
@[simp] noncomputable def rj:T->Bool
 | .obj _ _=>false
 | .scr _=>false
 | .dct 0 _=>true
 | .dct 1 _=>true
 | .dct _ _=>false
 | _=>true
@[simp] noncomputable def eIs (t:Ty) (a:Ex) (η:Env):Wq:=(a η).bind fun x=>if rj x.2 then some (.fr,.bl (oS t x.2)) else none
noncomputable def total:List Tx->Nat
 | []=>0
 | x :: r=>x.length+total r
noncomputable def dy (sep:Tx):List Tx->Tx
 | []=>[]
 | [x]=>x
 | x :: r=>x++sep++dy sep r
noncomputable def hV:Val->Wr->Wq
 | (_,.str sep),[(_,.lst l)]=>(strs? l).bind fun ss=>if total ss+ss.length * sep.length<=fu then some (.fr,.str (dy sep ss)) else none
 | _,_=>none
@[simp] noncomputable def eM (f:Val->Wr->Wq) (o:Ex) (as:Exs) (η:Env):Wq:=(o η).bind fun x=>(as η).bind fun xs=>f x xs
noncomputable abbrev Fn:=Wp->Wq
@[simp] noncomputable def bg (g:Fn) (as:Exs) (η:Env):Wq:=(as η).bind fun xs=>(g (trees xs)).bind fun r=>match r with
 | (.fr,t)=>some (.fr,t)
 | (_,t)=>some ((Md.pu).join (cL xs),t)
noncomputable abbrev Its:=Env->Option (Md×Wp)
@[simp] noncomputable def xk:Val->Option (Md×Wp)
 | (m,.lst l)=>some (m,l)
 | (m,.tup l)=>some (m,l)
 | (_,.str l)=>some (.fr,l.map fun c=>.str [c])
 | _=>none
@[simp] noncomputable def iL (a:Ex) (η:Env):Option (Md×Wp):=(a η).bind xk
noncomputable def rng (lo:Int) (n:Nat):Wp:=(List.range n).map fun (k:Nat)=>T.int (lo+k)
noncomputable def dF (a:Ex) (η:Env):Option (Md×Wp):=(a η).bind fun x=>(int? x.2).bind fun j=>if -B62<=j/\j < B62 then some (.fr,rng 0 j.toNat) else none
noncomputable def zD (k:Nat):Wp->Wp
 | []=>[]
 | t :: r=>.tup [.int k,t] :: zD (k+1) r
@[simp] noncomputable def CA:Val->Option (Md×Wp)
 | (m,.lst l)=>some (m,zD 0 l)
 | _=>none
@[simp] noncomputable def ER (a:Ex) (η:Env):Option (Md×Wp):=(a η).bind CA
noncomputable abbrev Tg:=T->Env->Option Env
@[simp] noncomputable def cY (i:Nat) (t:T) (η:Env):Option Env:=if i < η.length then some (η.set i (some (.pu t))) else none
@[simp] noncomputable def CG:List Tg->Wp->Env->Option Env
 | [],[],η=>some η
 | g :: gs,t :: ts,η=>(g t η).bind fun η'=>CG gs ts η'
 | _,_,_=>none
@[simp] noncomputable def EY (gs:List Tg) (t:T) (η:Env):Option Env:=match t with
 | .tup l=>CG gs l η
 | _=>none
@[simp] noncomputable def okI (m:Md) (l:Wp):Bool:=match m with
 | .bo=>fj l
 | _=>true
noncomputable def lN (tg:Tg) (cond:Option Ex) (elt:Ex) (η:Env):Wp->Option (Wr)
 | []=>some []
 | t :: r=>(tg t η).bind fun η'=>(match cond with | none=>some true | some c=>(c η').bind fun x=>tru x.2).bind fun b =>
  if b then (elt η').bind fun v=>(lN tg cond elt η r).map (v :: ·) else lN tg cond elt η r
noncomputable def dU (k:Nat) (tg:Tg) (it:Its) (cond:Option Ex) (elt:Ex) (η:Env):Wq:=(it η).bind fun (m,l)=>if okI m l then
 (lN tg cond elt (List.replicate k none++η) l).bind fun vs=>mkL (cL vs) (trees vs) else none
@[simp] noncomputable def d2 (η:Env):Option Out:=some (.nx η)
@[simp] noncomputable def ar (a b:Sx) (η:Env):Option Out:=(a η).bind fun o=>match o with
 | .nx η'=>b η'
 | o=>some o
@[simp] noncomputable def gZ (i:Nat) (e:Ex) (η:Env):Option Out:=(e η).bind fun v=>(cellOf v).bind fun c=>if i < η.length then some (.nx (η.set i (some c))) else none
@[simp] noncomputable def aM (i:Nat) (e:Ex) (η:Env):Option Out:=(e η).bind fun v=>match v.1 with
 | .bo=>none
 | _=>if i < η.length then some (.nx (η.set i (some (.pu v.2)))) else none
@[simp] noncomputable def fq (e:Ex) (η:Env):Option Out:=(e η).bind fun v=>some (.rt (match v.1 with | .bo=>.pu | m=>m,v.2) η)
@[simp] noncomputable def g0 (i:Nat) (η:Env):Option Out:=match η[i]? with
 | some (some (.ow t))=>some (.rt (.fr,t) (η.set i none))
 | some (some (.pu t))=>some (.rt (up .pu t) η)
 | _=>none
@[simp] noncomputable def EV (η:Env):Option Out:=some (.rt (.fr,.non) η)
@[simp] noncomputable def EX (η:Env):Option Out:=some (.bk η)
@[simp] noncomputable def EO (η:Env):Option Out:=some (.ct η)
@[simp] noncomputable def sIf (c:Ex) (a b:Sx) (η:Env):Option Out:=(c η).bind fun x=>(tru x.2).bind fun t=>if t then a η else b η
noncomputable def forL (tg:Tg) (body:Sx):Wp->Env->Option Out
 | [],η=>some (.nx η)
 | t :: r,η=>(tg t η).bind fun η1=>(body η1).bind fun o=>match o with
  | .nx η2=>forL tg body r η2
  | .ct η2=>forL tg body r η2
  | .bk η2=>some (.nx η2)
  | .rt v η2=>some (.rt v η2)
@[simp] noncomputable def okF:Md->Bool
 | .bo=>false
 | _=>true
@[simp] noncomputable def j4 (tg:Tg) (it:Its) (body:Sx) (η:Env):Option Out:=(it η).bind fun (m,l)=>if okF m then forL tg body l η else none
noncomputable def eJ (c:Ex) (body:Sx):Nat->Env->Option Out
 | 0,_=>none
 | n+1,η=>(c η).bind fun x=>(tru x.2).bind fun t=>if t then (body η).bind fun o=>match o with
  | .nx η2=>eJ c body n η2
  | .ct η2=>eJ c body n η2
  | .bk η2=>some (.nx η2)
  | .rt v η2=>some (.rt v η2)
  else some (.nx η)
noncomputable def sE:Nat:=1000000
noncomputable def ja (c:Ex) (body:Sx) (η:Env):Option Out:=eJ c body sE η
@[simp] noncomputable def oB (i:Nat) (η:Env):Option Out:=match η[i]? with
 | some (some (.ow t))=>some (.nx (η.set i (some (.pu t))))
 | some (some (.pu _))=>some (.nx η)
 | _=>none
inductive Stp where | fld (k:Nat) | ix (e:Ex) | un
inductive Ky where | fld (k:Nat) | at (t:T) | un
@[simp] noncomputable def keys:List Stp->Env->Option (List Ky)
 | [],_=>some []
 | .fld k :: r,η=>(keys r η).map (.fld k :: ·)
 | .ix e :: r,η=>(e η).bind fun x=>(keys r η).map (.at x.2 :: ·)
 | .un :: r,η=>(keys r η).map (.un :: ·)
noncomputable def Et (fs:List (Nat×T)) (k:Nat):Option T:=fs.lookup k
noncomputable def En (fs:List (Nat×T)) (k:Nat) (v:T):List (Nat×T):=if fs.any (fun p=>p.1 == k) then fs.map (fun p=>if p.1 == k then (p.1,v) else p) else fs++[(k,v)]
@[simp] noncomputable def yc {α:Type} (f:T->Option (T×α)):List Ky->T->Option (T×α)
 | [],t=>f t
 | .fld k :: r,.obj c fs=>(Et fs k).bind fun x=>(yc f r x).map fun (y,a)=>(.obj c (En fs k y),a)
 | .at (.int i) :: r,.lst l=>(ixP l.length i).bind fun j=>(l[j]?).bind fun x=>(yc f r x).map fun (y,a)=>(.lst (l.set j y),a)
 | .at k :: r,.dct d l=>(eX l k).bind fun x=>(yc f r x).map fun (y,a)=>(.dct d (dput l k y),a)
 | _,_=>none
noncomputable abbrev Xx:=Env->Option (Val×Env)
@[simp] noncomputable def xP (e:Ex) (η:Env):Option (Val×Env):=(e η).map fun v=>(v,η)
@[simp] noncomputable def lX (i:Nat) (way:List Stp) (f:T->Wr->Option (T×Val)) (as:Exs) (η:Env):Option (Val×Env):=match η[i]? with
 | some (some (.ow t))=>(keys way η).bind fun ks=>(as η).bind fun xs=>(yc (fun x=>f x xs) ks t).map fun (t',v)=>(v,η.set i (some (.ow t')))
 | _=>none
@[simp] noncomputable def fit (v:Val):Option T:=match v.1 with
 | .fr=>some v.2
 | _=>none
noncomputable def aD:T->Wr->Option (T×Val)
 | .lst l,[v]=>(fit v).bind fun t=>if l.length < fu then some (.lst (l++[t]),(.fr,.non)) else none
 | _,_=>none
@[simp] noncomputable def sX (x:Xx) (η:Env):Option Out:=(x η).map fun r=>.nx r.2
@[simp] noncomputable def ES (i:Nat) (x:Xx) (η:Env):Option Out:=(x η).bind fun (v,η')=>(cellOf v).bind fun c=>if i < η'.length then some (.nx (η'.set i (some c))) else none
@[simp] noncomputable def EU (x:Xx) (η:Env):Option Out:=(x η).bind fun (v,η')=>some (.rt (match v.1 with | .bo=>.pu | m=>m,v.2) η')
@[simp] noncomputable def fn (np nn:Nat) (body:Sx):Fn:=fun ts=>if ts.length=np then
 (body (ts.map (fun t=>some (.pu t))++List.replicate (nn - np) none)).bind fun o=>match o with
  | .rt v _=>some v
  | .nx _=>some (.fr,.non)
  | _=>none else none
@[simp] theorem CQ {m n:Md} {i j:Int}:cn (m,.int i) (n,.int j)=some (.fr,.int (i+j)):=rfl
theorem lI {m n:Md} {s t:Tx} (h:s.length+t.length<=16777216):cn (m,.str s) (n,.str t)=some (.fr,.str (s++t)):=Zr h
theorem ka {m n:Md} {i j:Int} (h:-18446744073709551616 < i/\i < 18446744073709551616):iO (m,.int i) (n,.int j)=some (.fr,.int (i * j)):=Zr (.inl h)
theorem eY {m n:Md} {i j:Int} (h:0 < j/\j < 1073741824):bD (m,.int i) (n,.int j)=some (.fr,.int (i / j)):=Zr h
theorem dm {m n:Md} {i j:Int} (h:0 < j):oMod (m,.int i) (n,.int j)=some (.fr,.int (i % j)):=Zr h
theorem dH {l:Wp} {t:T} (h:l.length < 16777216):aD (.lst l) [(.fr,t)]=some (.lst (l++[t]),(.fr,.non)):=by
 simp only [aD,fit,Zw]
 exact Zr h
theorem iZ {a:Ex} {η:Env} {m:Md} {j:Int} (e:a η=some (m,.int j)) (h:-4611686018427387904<=j/\j < 4611686018427387904):dF a η=some (.fr,rng 0 j.toNat):=by
 simp only [dF,e,Zw,int?]
 exact Zr h
theorem BA {m:Md} {l:Wp} (h:l.length<=16777216):mkL m l=some (if fj l then .fr else m,.lst l):=Zr h
theorem ji {tg:Tg} {body:Sx} {t:T} {r:Wp} {η η1 η2:Env} (h1:tg t η=some η1) (h2:body η1=some (.nx η2)):forL tg body (t :: r) η=forL tg body r η2:=by
 simp [forL,h1,h2]
theorem strs_map {α:Type} (f:α->Tx):∀ l:List α,strs? (l.map fun x=>T.str (f x))=some (l.map f)
 | []=>rfl
 | a :: r=>by simp [strs?,strs_map f r]
theorem ints_map {α:Type} (f:α->Int):∀ l:List α,lZ (l.map fun x=>T.int (f x))=some (l.map f)
 | []=>rfl
 | a :: r=>by simp [lZ,ints_map f r]
theorem lF:∀ ss:List Tx,dy [] ss=ss.flatten
 | []=>rfl
 | [x]=>by simp [dy]
 | x :: y :: r=>by
  have:=lF (y :: r)
  simp [dy] at this ⊢
  exact this
theorem kM:∀ ss:List Tx,total ss=ss.flatten.length
 | []=>rfl
 | x :: r=>by simp [total,kM r]
theorem ny {m n:Md} {l:Wp} {ss:List Tx} (e:strs? l=some ss) (h1:ss.flatten.length<=16777216):hV (m,.str []) [(n,.lst l)]=some (.fr,.str ss.flatten):=by
 simp only [hV,Zw,e,lF]
 refine Zr ?_
 rw [kM]
 show _<=16777216
 simpa using h1
theorem jx {α:Type} (l:List α):(l.map fun x=>[x]).flatten=l:=by
 induction l with
 | nil=>rfl
 | cons a r ih=>rw [Zm,ZL,ih];rfl
theorem lr (n:Nat):rng 0 n=(List.range n).map fun (k:Nat)=>T.int (k:Int):=by
 unfold rng
 simp
theorem oW {α:Type} (f:α->T) (h:∀ x,imm (f x)=true):∀ l:List α,fj (l.map f)=true
 | []=>rfl
 | a :: r=>by simp [h,oW f h r]
theorem mZ {α:Type} {tg:Tg} {elt:Ex} {η:Env} (g:α->T) (f:α->Val):∀ l:List α,(∀ a∈l,∃ η',tg (g a) η=some η'/\elt η'=some (f a))->lN tg none elt η (l.map g)=some (l.map f)
 | [],_=>rfl
 | a :: r,h=>by
  obtain ⟨η',h1,h2⟩:=h a Zt
  simp [lN,h1,h2,mZ g f r fun b hb=>h b (Zx _ hb)]
theorem pI {α:Type} (f:α->T):∀ l:List α,cL (l.map fun a=>(Md.fr,f a))=.fr
 | []=>rfl
 | a :: r=>by simp [pI f r]
theorem su {α:Type} (f:α->Val) (l:List α):trees (l.map f)=l.map fun a=>(f a).2:=by simp
theorem gw {α:Type} {k:Nat} {tg:Tg} {it:Its} {elt:Ex} {η:Env} {m:Md} (g:α->T) (f:α->T) (l:List α) (hi:it η=some (m,l.map g)) (hk:okI m (l.map g)=true) (hl:l.length<=16777216)
  (h:∀ a∈l,∃ η',tg (g a) (List.replicate k none++η)=some η'/\elt η'=some (.fr,f a)):dU k tg it none elt η=some (.fr,.lst (l.map f)):=by
 simp only [dU,hi,Zw]
 rw [Zr hk,mZ g (fun a=>(Md.fr,f a)) l h]
 simp only [Zw,pI,su]
 rw [BA (by rw [Zv];exact hl)]
 simp
theorem vI {α:Type} {m n:Md} (f:α->T) (l:List α) (i:Int) (d:α) (h0:0<=i) (h1:i < l.length) (hi:imm (f (l.getD i.toNat d))=true):aN (m,.lst (l.map f)) (n,.int i)=some (.fr,f (l.getD i.toNat d)):=by
 have b2:i.toNat < l.length:=by lia
 simp only [Zu,Zo b2,YY] at hi ⊢
 simp [ixP,h0,h1,b2,hi]
end VS
end
section
namespace L2
open PySem PySem.Spec PyProof.Rows
noncomputable abbrev Key:=Sum Int Str
noncomputable def kf:Key->Value->Bool
 | .inl k,v=>Value.isInt k v
 | .inr x,v=>Value.isStrOf x v
noncomputable def Em (w:World):Key->Int
 | .inl k=>hashInt k
 | .inr x=>hashStr w x
theorem bT:∀ {k:Key} {v:Value},kf k v=true->(∃ i t,k=Sum.inl i/\v=Value.int i t)\/(∃ x t,k=Sum.inr x/\v=Value.str x t)
 | .inl i,v,h=>by
  obtain ⟨t,e⟩:=Value.isInt_shape (k:=i) (v:=v) h
  exact .inl ⟨i,t,rfl,e⟩
 | .inr x,v,h=>by
  obtain ⟨t,e⟩:=Value.isStrOf_shape (x:=x) (v:=v) h
  exact .inr ⟨x,t,rfl,e⟩
theorem tR (i:Int) (t:Tok):kf (.inl i) (.int i t)=true:=by simp [kf,Value.isInt]
theorem sJ (x:Str) (t:Tok):kf (.inr x) (.str x t)=true:=by simp [kf,Value.isStrOf]
theorem B6 (a b:Int):decide ((Sum.inl a:Key)=Sum.inl b)=(a == b):=by
 by_cases e:a=b
 ·subst e;simp
 ·have h:¬ (Sum.inl a:Key)=Sum.inl b:=fun q=>e (Sum.inl.inj q)
  rw [decide_eq_false h]
  exact (ZR.mpr e).symm
theorem A5 (a b:Str):decide ((Sum.inr a:Key)=Sum.inr b)=decide (a=b):=by
 by_cases e:a=b
 ·subst e;simp
 ·have h:¬ (Sum.inr a:Key)=Sum.inr b:=fun q=>e (Sum.inr.inj q)
  rw [decide_eq_false h,decide_eq_false e]
theorem Bb (a:Int) (b:Str):decide ((Sum.inl a:Key)=Sum.inr b)=false:=decide_eq_false (fun q=>nomatch q)
theorem Ab (a:Str) (b:Int):decide ((Sum.inr a:Key)=Sum.inl b)=false:=decide_eq_false (fun q=>nomatch q)
noncomputable def bK (prog:Program) (w:World):PySem.KeyKind prog w Key where
 is:=kf
 hash:=Em w
 inj:=fun v a b ha hb=>by
  rcases bT ha with ⟨i,t,rfl,rfl⟩ | ⟨x,t,rfl,rfl⟩
  ·rcases bT hb with ⟨j,u,rfl,e⟩ | ⟨y,u,rfl,e⟩
   ·injection e with e1 _;rw [e1]
   ·exact nomatch e
  ·rcases bT hb with ⟨j,u,rfl,e⟩ | ⟨y,u,rfl,e⟩
   ·exact nomatch e
   ·injection e with e1 _;rw [e1]
 byValue:=fun k v h=>by
  rcases bT h with ⟨i,t,rfl,rfl⟩ | ⟨x,t,rfl,rfl⟩ <;> rfl
 pyHash:=fun hv h=>by
  rcases bT hv with ⟨i,t,rfl,rfl⟩ | ⟨x,t,rfl,rfl⟩
  ·exact wpAny_pyHash_int h
  ·exact wpAny_pyHash_str h
 eqBool:=fun hu hv h=>by
  rcases bT hu with ⟨i,t,rfl,rfl⟩ | ⟨x,t,rfl,rfl⟩
  ·rcases bT hv with ⟨j,u,rfl,rfl⟩ | ⟨y,u,rfl,rfl⟩
   ·rw [B6] at h;exact wpAny_eqBool_int h
   ·rw [Bb] at h;exact SeqAt.EqAt.int_str i t y u _ _ _ _ h
  ·rcases bT hv with ⟨j,u,rfl,rfl⟩ | ⟨y,u,rfl,rfl⟩
   ·rw [Ab] at h;exact SeqAt.EqAt.str_int x t j u _ _ _ _ h
   ·rw [A5] at h;exact wpAny_eqBool_str h
 «strs» := fun k x t v h=>by
  rcases bT h with ⟨i,u,rfl,e⟩ | ⟨y,u,rfl,e⟩
  ·exact nomatch e
  ·injection e with e1 _
   subst e1
   cases v <;> rfl
theorem oA (prog:Program) (w:World) (i:Int) (t:Tok):(bK prog w).is (.inl i) (.int i t)=true:=tR i t
theorem pq (prog:Program) (w:World) (x:Str) (t:Tok):(bK prog w).is (.inr x) (.str x t)=true:=sJ x t
inductive V where
 | non | bl (b:Bool) | int (i:Int) | str (x:Str) | byt (b:Array UInt8) | flt (b:UInt64) | ref (a:Addr) | ty (n:String)
 deriving DecidableEq
noncomputable def RelV:V->Value->Prop
 | .non,u=>u=Value.none
 | .bl b,u=>u=Value.bool b
 | .int i,u=>∃ t,u=Value.int i t
 | .str x,u=>∃ t,u=Value.str x t
 | .byt b,u=>∃ t,u=Value.bytes b t
 | .flt b,u=>∃ t,u=Value.float b t
 | .ref a,u=>u=Value.ref a
 | .ty n,u=>u=Value.type n
noncomputable abbrev aV:List V->Wx->Prop:=Paired RelV
theorem aV.length {xs:List V} {us:Wx} (r:aV xs us):xs.length=us.length:=YE r
theorem aV.get:∀ {xs:List V} {us:Wx} {i:Nat} {x:V},aV xs us->xs[i]?=some x->∃ u,us[i]?=some u/\RelV x u
 | _,_,_,_,.nil,e=>by simp at e
 | _,_,0,_,.cons r _,e=>by simp at e;subst e;exact ⟨_,rfl,r⟩
 | _,_,i+1,x,.cons _ t,e=>by
  obtain ⟨u,h1,h2⟩:=aV.get (i:=i) (x:=x) t (by simpa using e)
  exact ⟨u,by simpa using h1,h2⟩
theorem aV.set {x:V} {u:Value} (r:RelV x u):∀ {xs:List V} {us:Wx} (i:Nat),aV xs us->aV (xs.set i x) (us.set i u)
 | _,_,_,.nil=>.nil
 | _,_,0,.cons _ t=>.cons r t
 | _,_,i+1,.cons q t=>.cons q (aV.set r i t)
theorem aV.append:∀ {xs ys:List V} {us ws:Wx},aV xs us->aV ys ws->aV (xs++ys) (us++ws)
 | _,_,_,_,.nil,s=>s
 | _,_,_,_,.cons r t,s=>.cons r (aV.append t s)
theorem aV.take:∀ {xs:List V} {us:Wx} (n:Nat),aV xs us->aV (xs.take n) (us.take n)
 | _,_,0,_=>.nil
 | _,_,_+1,.nil=>.nil
 | _,_,n+1,.cons r t=>.cons r (aV.take n t)
theorem aV.drop:∀ {xs:List V} {us:Wx} (n:Nat),aV xs us->aV (xs.drop n) (us.drop n)
 | _,_,0,r=>r
 | _,_,_+1,.nil=>.nil
 | _,_,n+1,.cons _ t=>aV.drop n t
theorem aV.none_of:∀ {xs:List V} {us:Wx} {i:Nat},aV xs us->xs[i]?=none->us[i]?=none:=fun {xs us i} r e=>by
 have h1:=r.length
 have h2:xs.length<=i:=Yu.mp e
 exact Yu.mpr (by lia)
noncomputable def gY:Option V->Ww->Prop
 | some v,some u=>RelV v u
 | none,none=>True
 | _,_=>False
noncomputable def KV {κ:Type}:List (κ×V)->List (κ×Value)->Prop:=Paired fun (p:κ×V) (q:κ×Value)=>p.1=q.1/\RelV p.2 q.2
noncomputable def kV:Key->V
 | .inl i=>.int i
 | .inr x=>.str x
inductive HO where
 | lst (xs:List V)
 | tup (xs:List V)
 | dK (kvs:List (Key×V)) | dT (kvs:List (List Key×V))
 | set (S:Int->Bool) (n:Nat)
 | ins (C dx:Addr) (fs:List (Str×V))
 | own (x:Addr)
 | xd (fs:List (Str×V))
 | met (f x:Addr)
 | rng (lo hi:Int)
 | frz (o:Obj) (u:HO)
 | tbl (ps:Array Value)
 | ext (φ:Heap->Prop)
noncomputable abbrev Hp:=Addr->Option HO
noncomputable def upd (H:Hp) (a:Addr) (o:HO):Hp:=fun b=>if b=a then some o else H b
theorem aF {H:Hp} {a:Addr} {o:HO}:upd H a o a=some o:=by unfold upd;rw [Zr rfl]
theorem aI {H:Hp} {a b:Addr} {o:HO} (h:b ≠ a):upd H a o b=H b:=by unfold upd;rw [Zp h]
theorem xG {H:Hp} {a:Addr} {o u:HO}:upd (upd H a o) a u=upd H a u:=by
 funext b;unfold upd;split <;> rfl
theorem CF {H:Hp} {a b:Addr} {o u:HO} (h:H a=some o) (h':H b=some u) (d:o ≠ u):a ≠ b:=by
 intro e;subst e;rw [h] at h';exact d (Zn h')
theorem d3 {H:Hp} {a b:Addr} {o:HO} (h:H a=some o) (h':H b=none):a ≠ b:=by
 intro e;subst e;rw [h] at h';cases h'
noncomputable def NoD (h:Heap) (a:Addr):Prop:=∀ o,h.get? a=some o->o.dict=none
theorem NoD.new (h:Heap) (its:Array Value):NoD (h.push { cls:=.type "tuple",data:=.seq its }) h.objs.size:=fun o e=>by
 rw [ZV _ rfl] at e
 cases e
 rfl
theorem NoD.of {h:Heap} {a:Addr} {o:Obj} (e:h.get? a=some o) (d:o.dict=none):NoD h a:=fun o' e'=>by
 rw [e] at e'
 cases e'
 exact d
section
variable (P:Program) (w:World)
noncomputable def cy (H:Hp) (h:Heap) (a:Addr):HO->Prop
 | .lst xs=>xs.length<=sizeLine/\∃ (its:Wx) (n:Nat),aV xs its/\h.get? a=some { cls:=.type "list",data:=.seq its.toArray n }
 | .tup xs=>xs.length<=sizeLine/\∃ its:Wx,aV xs its/\NoD h a/\IsTup h a its.toArray
 | .dK kvs=>kvs.length<=sizeLine/\(a == sysModules)=false/\∃ vs,KV kvs vs/\h.DictOf (bK P w) a vs
 | .dT kvs=>kvs.length<=sizeLine/\(a == sysModules)=false/\∃ xs:List (List Key×Addr×Value),
   Paired (fun (p:List Key×V) (q:List Key×Addr×Value)=>p.1=q.1/\H q.2.1=some (.tup (p.1.map kV))/\RelV p.2 q.2.2) kvs xs ∧
   ∃ o es ep,h.get? a=some o/\o.ExactDict/\o.data=.dict es ep/\es.toList=xs.map (entryOfKey (tupleKind (bK P w)))/\(xs.map (·.1)).Nodup
 | .set S n=>h.SetOf (intKind P w) a S n
 | .ins C dx fs=>H dx=some (.own a)/\fs.length<=1000/\dx ≠ a/\h.get? a=some (PySem.W.instObj C dx) ∧
   ∃ mA,h.Ns1 dx mA/\(∀ f,gY (fs.lookup f) (mA f))/\PySem.Within mA (fs.map (·.1))
 | .own _=>∃ o,h.get? a=some o
 | .xd fs=>∃ mA,h.Ns1 a mA/\∀ f,gY (fs.lookup f) (mA f)
 | .rng lo hi=>∃ t u v,h.get? a=some { cls:=.type "range",data:=.fields #[.int lo t,.int hi u,.int 1 v] }
 | .frz o u=>h.get? a=some o/\cy H h a u
 | .tbl ps=>h.get? a=some { cls:=.none,data:=.fields ps }
 | .met f x=>h.get? a=some (PySem.W.methodObj (.ref f) (.ref x))
 | .ext φ=>φ h/\(∃ o,h.get? a=some o)/\∀ h1 h2:Heap,φ h1->(∀ o,h1.get? a=some o->h2.get? a=some o)->φ h2
noncomputable def HOk (H:Hp) (h:Heap):Prop:=∀ a o,H a=some o->cy P w H h a o
end
section
variable {P:Program} {w:World} {H H':Hp} {h h':Heap} {a:Addr} {o:HO}
theorem cy.lt (x:cy P w H h a o):a < h.objs.size:=by
 cases o with
 | lst xs=>obtain ⟨_,_,_,_,e⟩:=x;exact ZU e
 | tup xs=>obtain ⟨_,_,_,_,p⟩:=x;exact p.lt
 | dK kvs=>obtain ⟨_,_,_,_,o,_,_,e,_⟩:=x;exact ZU e
 | dT kvs=>obtain ⟨_,_,_,_,o,_,_,e,_⟩:=x;exact ZU e
 | set S n=>obtain ⟨o,_,_,_,e,_⟩:=x;exact ZU e
 | ins C dx fs=>obtain ⟨_,_,_,e,_⟩:=x;exact ZU e
 | own y=>obtain ⟨_,e⟩:=x;exact ZU e
 | xd fs=>obtain ⟨_,⟨_,_,_,e,_⟩,_⟩:=x;exact ZU e
 | rng lo hi=>obtain ⟨_,_,_,e⟩:=x;exact ZU e
 | frz ob u=>obtain ⟨e,_⟩:=x;exact ZU e
 | tbl ps=>exact ZU (show h.get? a=some _ from x)
 | met f y=>exact ZU (show h.get? a=some _ from x)
 | ext φ=>obtain ⟨_,⟨_,e⟩,_⟩:=x;exact ZU e
theorem Paired.mapP {α β:Type} {F G:α->β->Prop}:∀ {l₁:List α} {l₂:List β},Paired F l₁ l₂->(∀ a b,F a b->G a b)->Paired G l₁ l₂
 | _,_,.nil,_=>.nil
 | _,_,.cons r t,f=>.cons (f _ _ r) (Paired.mapP t f)
theorem cy.stay (x:cy P w H h a o) (k:∀ b u,(b=a\/H b=some (.own a))->h.get? b=some u->h'.get? b=some u)
  (ho:∀ b,H b=some (.own a)->H' b=some (.own a)) (ht:∀ b xs,H b=some (.tup xs)->H' b=some (.tup xs)):cy P w H' h' a o:=by
 induction o with
 | lst xs=>obtain ⟨z,its,n,r,e⟩:=x;exact ⟨z,its,n,r,k _ _ (.inl rfl) e⟩
 | tup xs=>obtain ⟨z,its,r,nd,ob,e,c⟩:=x;exact ⟨z,its,r,NoD.of (k _ _ (.inl rfl) e) (nd _ e),ob,k _ _ (.inl rfl) e,c⟩
 | dK kvs=>obtain ⟨z,y,vs,r,ob,es,ep,e,c⟩:=x;exact ⟨z,y,vs,r,ob,es,ep,k _ _ (.inl rfl) e,c⟩
 | dT kvs =>
  obtain ⟨z,y,xs,r,ob,es,ep,e,c⟩:=x
  exact ⟨z,y,xs,Paired.mapP r fun p q z=>⟨z.1,ht _ _ z.2.1,z.2.2⟩,ob,es,ep,k _ _ (.inl rfl) e,c⟩
 | set S n=>obtain ⟨ob,es,ep,t,e,c⟩:=x;exact ⟨ob,es,ep,t,k _ _ (.inl rfl) e,c⟩
 | ins C dx fs =>
  obtain ⟨d,z,ne,e,mA,⟨od,es,ep,e2,c⟩,r⟩:=x
  exact ⟨ho _ d,z,ne,k _ _ (.inl rfl) e,mA,⟨od,es,ep,k _ _ (.inr d) e2,c⟩,r⟩
 | own y=>obtain ⟨ob,e⟩:=x;exact ⟨ob,k _ _ (.inl rfl) e⟩
 | xd fs=>obtain ⟨mA,⟨od,es,ep,e,c⟩,r⟩:=x;exact ⟨mA,⟨od,es,ep,k _ _ (.inl rfl) e,c⟩,r⟩
 | rng lo hi=>obtain ⟨t,u,v,e⟩:=x;exact ⟨t,u,v,k _ _ (.inl rfl) e⟩
 | frz ob u ih=>obtain ⟨e,q⟩:=x;exact ⟨k _ _ (.inl rfl) e,ih q⟩
 | tbl ps =>
  have e:h.get? a=some { cls:=.none,data:=.fields ps }:=x
  show h'.get? a=some { cls:=.none,data:=.fields ps }
  exact k a _ (.inl rfl) e
 | met f y =>
  have e:h.get? a=some (PySem.W.methodObj (.ref f) (.ref y)):=x
  show h'.get? a=some (PySem.W.methodObj (.ref f) (.ref y))
  exact k a _ (.inl rfl) e
 | ext φ=>obtain ⟨p,⟨o,e⟩,st⟩:=x;exact ⟨st _ _ p fun o q=>k _ _ (.inl rfl) q,⟨o,k _ _ (.inl rfl) e⟩,st⟩
theorem HOk.lt (x:HOk P w H h) (e:H a=some o):a < h.objs.size:=(x a o e).lt
theorem HOk.fresh (x:HOk P w H h) (e:h.objs.size<=a):H a=none:=by
 cases q:H a with
 | none=>rfl
 | some u=>exact absurd (ZX (x.lt q) e) (Yp _)
theorem HOk.kept (x:HOk P w H h) (k:∀ b u,h.get? b=some u->h'.get? b=some u):HOk P w H h':=fun a o e =>
 (x a o e).stay (fun b u _ q=>k b u q) (fun _ q=>q) fun _ _ q=>q
theorem HOk.laid (x:HOk P w H h) (k:∀ b u,h.get? b=some u->h'.get? b=some u) (hp:h.objs.size<=a) (new:cy P w (upd H a o) h' a o):HOk P w (upd H a o) h':=fun b u e=>by
 have hn:=x.fresh hp
 by_cases hb:b=a
 ·subst hb;rw [aF] at e;cases e;exact new
 ·rw [aI hb] at e
  exact (x b u e).stay (fun c v _ q=>k c v q) (fun c q=>by rw [aI (d3 q hn)];exact q) fun c xs q=>by rw [aI (d3 q hn)];exact q
end
noncomputable def Rd (H:Hp) (a:Addr) (u:HO):Prop:=H a=some u\/∃ o,H a=some (.frz o u)
theorem Rd.ok {P:Program} {w:World} {H:Hp} {h:Heap} {a:Addr} {u:HO} (r:Rd H a u) (x:HOk P w H h):cy P w H h a u:=by
 rcases r with r | ⟨o,r⟩
 ·exact x a u r
 ·obtain ⟨_,q⟩:=x a _ r
  exact q
noncomputable def Mut:Option HO->Prop
 | some (.lst _)=>True
 | some (.dK _)=>True
 | some (.dT _)=>True
 | some (.set _ _)=>True
 | some (.ins _ _ _)=>True
 | some (.ext _)=>True
 | _=>False
section
variable {P:Program} {w:World} {H:Hp} {h h':Heap} {x e:Addr} {o':HO}
theorem HOk.write (ok:HOk P w H h) (mu:Mut (H x)) (he:e=x\/H e=some (.own x)) (k:∀ b u,b ≠ e->h.get? b=some u->h'.get? b=some u) (heo:∃ u,h'.get? e=some u)
  (new:cy P w (upd H x o') h' x o'):HOk P w (upd H x o') h':=fun b u q=>by
 have nown:∀ c y,H c=some (.own y)->c ≠ x:=fun c y r z=>by subst z;rw [r] at mu;exact mu
 have ntup:∀ c xs,H c=some (.tup xs)->c ≠ x:=fun c xs r z=>by subst z;rw [r] at mu;exact mu
 by_cases hb:b=x
 ·subst hb;rw [aF] at q;cases q;exact new
 ·rw [aI hb] at q
  by_cases hbe:b=e
  ·have q':H b=some (.own x):=by
    rcases he with z | z
    ·exact absurd (hbe.trans z) hb
    ·rw [hbe];exact z
   rw [q] at q';cases q'
   obtain ⟨v,hv⟩:=heo
   exact ⟨v,by rw [hbe];exact hv⟩
  ·refine (ok b u q).stay (fun c v hc r=>k c v ?_ r) (fun c r=>by rw [aI (nown c b r)];exact r) fun c xs r=>by rw [aI (ntup c xs r)];exact r
   rcases hc with rfl | hc
   ·exact hbe
   ·rintro rfl
    rcases he with z | z
    ·exact nown c b hc z
    ·rw [hc] at z;cases z;exact hb rfl
end
structure Un (fs ex:Wy) (H H':Hp) (h h':Heap):Prop where
 keep:∀ b o,h.get? b=some o->H b=none->b ∉ fs->b ∉ ex->h'.get? b=some o
 slot:∀ b o,h.get? b=some o->H b=none->b∈fs->b ∉ ex->∃ sl,h'.get? b=some { o with slots:=sl }
 free:∀ b o,h.get? b=some o->H b=none->b ∉ ex->H' b=none
 there:∀ b o,h.get? b=some o->b ∉ ex->∃ o',h'.get? b=some o'
 tups:∀ b xs,H b=some (.tup xs)->H' b=some (.tup xs)
 frzs:∀ b o u,H b=some (.frz o u)->H' b=some (.frz o u)
 tbls:∀ b ps,H b=some (.tbl ps)->∃ more,H' b=some (.tbl (ps++more))
section
variable {fs fs' ex ex':Wy} {H H1 H2:Hp} {h h1 h2 h':Heap} {a x e:Addr} {o:HO}
theorem Un.any (u:Un fs ex H H1 h h1) {b:Addr} {ob:Obj} (q:h.get? b=some ob) (n:H b=none) (hx:b ∉ ex):∃ sl,h1.get? b=some { ob with slots:=sl }:=by
 by_cases hb:b∈fs
 ·exact u.slot b ob q n hb hx
 ·exact ⟨ob.slots,u.keep b ob q n hb hx⟩
theorem Un.kept (k:∀ b u,h.get? b=some u->h'.get? b=some u):Un fs ex H H h h' :=
 ⟨fun b ob q _ _ _=>k b ob q,fun b ob q _ _ _=>⟨ob.slots,k b ob q⟩,fun _ _ _ n _=>n,fun b ob q _=>⟨ob,k b ob q⟩,fun _ _ q=>q,fun _ _ _ q=>q,fun _ ps q=>⟨#[],by rw [q];simp⟩⟩
theorem Un.refl:Un fs ex H H h h:=Un.kept fun _ _ q=>q
theorem Un.laid (k:∀ b u,h.get? b=some u->h'.get? b=some u) (hp:h.objs.size<=a) (hn:H a=none):Un fs ex H (upd H a o) h h' where
 keep:=fun b u q _ _ _=>k b u q
 slot:=fun b u q _ _ _=>⟨u.slots,k b u q⟩
 free:=fun b u q n _=>by rw [aI (ZS (ZX (ZU q) hp))];exact n
 there:=fun b u q _=>⟨u,k b u q⟩
 tups:=fun b xs q=>by rw [aI (d3 q hn)];exact q
 frzs:=fun b u xs q=>by rw [aI (d3 q hn)];exact q
 tbls:=fun b ps q=>⟨#[],by rw [aI (d3 q hn),q];simp⟩
theorem Un.write (mu:Mut (H x)) (he:e=x\/H e=some (.own x)) (k:∀ b u,b ≠ e->h.get? b=some u->h'.get? b=some u) (heo:∃ u,h'.get? e=some u):Un fs ex H (upd H x o) h h':=by
 have hx:∀ b,H b=none->b ≠ x:=fun b n z=>by subst z;rw [n] at mu;exact mu
 have hb:∀ b,H b=none->b ≠ e:=fun b n z=>by
  subst z
  rcases he with r | r
  ·exact hx b n r
  ·rw [n] at r;cases r
 have hm:∀ b u,H b=some u->¬ Mut (some u)->b ≠ x:=fun b u q nm z=>by subst z;rw [q] at mu;exact nm mu
 refine ⟨fun b u q n _ _=>k b u (hb b n) q,fun b u q n _ _=>⟨u.slots,k b u (hb b n) q⟩,fun b u q n _=>by rw [aI (hx b n)];exact n,fun b u q _=>?_,
  fun b xs q=>by rw [aI (hm b _ q fun z=>z)];exact q,fun b u xs q=>by rw [aI (hm b _ q fun z=>z)];exact q,fun b ps q=>⟨#[],by rw [aI (hm b _ q fun z=>z),q];simp⟩⟩
 by_cases hbe:b=e
 ·subst hbe;exact heo
 ·exact ⟨u,k b u hbe q⟩
end
noncomputable def trk (h:Heap) (H:Hp):Wy:=(List.range h.objs.size).filter fun a=>(H a).isSome
noncomputable def oj (h:Heap) (H:Hp):Heap:=PySem.W.hideAll h (trk h H)
theorem sN (h:Heap) (H:Hp):(oj h H).objs.size=h.objs.size:=PySem.W.hideAll_size _ _
theorem we {h:Heap} {H:Hp} {b:Addr} {o:Obj} (e:h.get? b=some o) (n:H b=none):(oj h H).get? b=some o :=
 PySem.W.hideAll_get _ e fun hm=>by
  have q:(H b).isSome=true:=(Xv.mp hm).2
  rw [n] at q;simp at q
theorem xS {h:Heap} {H:Hp} {b:Addr} {o:Obj} (e:(oj h H).get? b=some o):h.get? b=some o/\H b=none:=by
 have e':h.get? b=some o:=PySem.W.of_hideAll (trk h H) e
 refine ⟨e',?_⟩
 cases q:H b with
 | none=>rfl
 | some x =>
  have hm:b∈trk h H:=Xv.mpr ⟨YX.mpr (ZU e'),by simp [q]⟩
  have z:(oj h H).get? b=none:=PySem.W.hideAll_none (trk h H) hm
  rw [z] at e;cases e
noncomputable def yG (g h:Heap) (L:Addr):Xm:=(List.range h.objs.size).filterMap fun a=>if a=L\/(g.get? a).isSome=true then none else (h.get? a).map fun o=>(a,o)
noncomputable def rest (g h:Heap) (L d:Addr):Xm:=(yG g h L).filter fun p=>decide (p.1 ≠ d)
structure Mod (K:X4) (mg:Wz) (base:Heap):Prop where
 kin:K.In base
 glob:base.Ns mainGlobals mg
 blt:∃ mb,base.Ns builtinsNs mb/\∀ x:Str,x ≠ "__name__" → mb x=bootBuiltins x
 nolimit:base.NoLimit
structure Cx where
 prog:Program
 w:World
 K:X4
 mg:Wz
 base:Heap
 A:Around
 N:List Str
 s₀:Shared
 H₀:Hp
 env:Env
 outer:List Env
 stack:List Env
 ex:Wy
 fn:Str->Bool
 calm:Bool
 pn:Xm
 xe:Z2
noncomputable def frs (l:List Env):Wy:=l.filterMap (·.frame)
noncomputable abbrev Cx.fs (X:Cx):Wy:=frs X.outer
noncomputable def Vis (sc:Scope) (x:Str):Prop:=sc.names.lookup x=some .local\/sc.names.lookup x=some .cell\/sc.names.lookup x=some .free
noncomputable def Loc (sc:Scope) (x:Str):Prop:=sc.names.lookup x=some .local\/sc.names.lookup x=some .cell
noncomputable def Look (env:Env) (h:Heap) (m:Wz) (x:Str) (u:Value):Prop :=
 (env.kindOf x=some .local/\m x=some u)\/((env.kindOf x=some .cell\/env.kindOf x=some .free)/\∃ c,env.cells.lookup x=some c/\h.IsCell c (some u))
structure Cx.Ok (X:Cx):Prop where
 mod:Mod X.K X.mg X.base
 kind:X.env.scope.kind=.function
 glob:X.env.globals=mainGlobals
 blt:X.env.builtins=builtinsNs
 above:X.s₀.heap.objs.size<=X.env.locals
 inj:∀ x y c,X.env.cells.lookup x=some c->X.env.cells.lookup y=some c->x=y
 has:∀ x,(X.env.kindOf x=some .cell\/X.env.kindOf x=some .free)->∃ c,X.env.cells.lookup x=some c
 cab:∀ x c,X.fn x=true->X.env.cells.lookup x=some c->X.s₀.heap.objs.size<=c
 hd:X.calm=true->X.A.handled=none
 frames:X.A.frames=some X.stack
 stk:X.stack=X.outer\/(X.stack=X.env :: X.outer/\X.env.frame=some X.env.locals)
 exf:∀ b∈X.ex,b ≠ X.env.locals/\∀ x c,X.env.cells.lookup x=some c->c ≠ b
 bs:∀ b o,X.base.get? b=some o->X.s₀.heap.get? b=some o/\X.H₀ b=none
 bsz:X.base.objs.size<=X.s₀.heap.objs.size
 noex:∀ b o,X.base.get? b=some o->b ∉ X.ex
 exfs:∀ b∈X.ex,b ∉ X.fs
 funs:X.s₀.heap.FunFrames X.base X.outer
 frf:∀ b∈X.fs,X.H₀ b=none
structure Inv (X:Cx) (pins:Xm) (σ:List (Option V)) (H:Hp) (s:Shared):Prop where
 ok:X.Ok
 os:s.os=X.s₀.os
 bare:AllBare s.gens
 base:Un X.fs X.ex X.H₀ H X.s₀.heap s.heap
 loc:∃ m,s.heap.Ns X.env.locals m/\∀ (i:Nat) (x:Str) (v:V),X.N[i]?=some x->σ[i]?=some (some v)->Vis X.env.scope x->∃ u,RelV v u/\Look X.env s.heap m x u
 cell:∀ x c,X.env.cells.lookup x=some c->∃ v,s.heap.IsCell c v
 free:H X.env.locals=none
 freeC:∀ x c,X.env.cells.lookup x=some c->H c=none
 pin:∀ p∈X.pn++pins,s.heap.get? p.1=some p.2/\H p.1=none/\p.1 ≠ X.env.locals/\p.1 ∉ X.fs/\∀ v,p.2.data ≠ .cell v
 hok:HOk X.prog X.w H s.heap
 len:σ.length=X.N.length
section
variable {X:Cx} {pins:Xm} {σ:List (Option V)} {H H':Hp} {s:Shared} {h':Heap}
theorem Cx.Ok.nofr (ok:X.Ok) {b:Addr} {o:Obj} (e:X.base.get? b=some o):b ∉ X.fs:=fun hb=>by
 have:=(ok.funs.mem hb).1
 rw [e] at this;cases this
theorem Inv.bs (I:Inv X pins σ H s):∀ b o,X.base.get? b=some o->s.heap.get? b=some o/\H b=none:=fun b o e =>
 ⟨I.base.keep b o (I.ok.bs b o e).1 (I.ok.bs b o e).2 (I.ok.nofr e) (I.ok.noex b o e),I.base.free b o (I.ok.bs b o e).1 (I.ok.bs b o e).2 (I.ok.noex b o e)⟩
theorem Inv.bk (I:Inv X pins σ H s):∀ b o,X.base.get? b=some o->s.heap.get? b=some o:=fun b o e=>(I.bs b o e).1
theorem Inv.mod (I:Inv X pins σ H s):Mod X.K X.mg X.base:=I.ok.mod
theorem Inv.kIn (I:Inv X pins σ H s):X.K.In s.heap:=I.ok.mod.kin.keeps I.bk
theorem Inv.lt (I:Inv X pins σ H s):X.env.locals < s.heap.objs.size:=let ⟨_,hn,_⟩:=I.loc;hn.lt
theorem Inv.sz (I:Inv X pins σ H s):X.s₀.heap.objs.size<=s.heap.objs.size:=ZG I.ok.above (XA I.lt)
theorem Inv.nofs (I:Inv X pins σ H s) {a:Addr} (h:s.heap.objs.size<=a):a ∉ X.fs:=fun hb=>by
 obtain ⟨_,o,ho,_⟩:=I.ok.funs.mem hb
 exact absurd (ZX (ZU ho) (ZG I.sz h)) (Yp _)
theorem Inv.cne (I:Inv X pins σ H s):∀ x c,X.env.cells.lookup x=some c->c ≠ X.env.locals:=fun x c e z=>by
 obtain ⟨v,o,ho,hd⟩:=I.cell x c e
 obtain ⟨m,⟨o',es,ep,ho',hd',_⟩,_⟩:=I.loc
 rw [z,ho'] at ho;cases ho;rw [hd'] at hd;cases hd
theorem Inv.funs (I:Inv X pins σ H s):s.heap.FunFrames X.base X.outer:=by
 have all:∀ (l:List Env),(∀ b∈frs l,b∈X.fs)->X.s₀.heap.FunFrames X.base l->s.heap.FunFrames X.base l:=by
  intro l
  induction l with
  | nil=>intro _ _;trivial
  | cons env r ih =>
   intro hs hl
   obtain ⟨hk,⟨L,o,hf,hn,ho,hd⟩,hr⟩:=hl
   have hL:L∈X.fs:=hs L (by unfold frs;rw [XO,hf];exact Zt)
   obtain ⟨sl,e⟩:=I.base.slot L o ho (I.ok.frf L hL) hL fun z=>I.ok.exfs L z hL
   exact ⟨hk,⟨L,_,hf,hn,e,hd⟩,ih (fun b hb=>hs b (by unfold frs;rw [XO,hf];exact Zx _ hb)) hr⟩
 exact all X.outer (fun _ hb=>hb) I.ok.funs
theorem Inv.stack (I:Inv X pins σ H s):s.heap.FunFrames X.base X.stack:=by
 rcases I.ok.stk with e | ⟨e,hf⟩
 ·rw [e];exact I.funs
 ·rw [e]
  obtain ⟨m,hn,_⟩:=I.loc
  refine .cons (by rw [I.ok.kind];decide) hf hn ?_ I.funs
  exact Heap.get?_none_of_le (ZG I.ok.bsz I.ok.above)
theorem Inv.stkSub (I:Inv X pins σ H s):∀ b∈frs X.stack,b∈X.env.locals :: X.fs:=fun b hb=>by
 rcases I.ok.stk with e | ⟨e,hf⟩
 ·rw [e] at hb;exact Zx _ hb
 ·rw [e] at hb
  unfold frs at hb
  rw [XO,hf] at hb
  exact hb
theorem Inv.stkFree (I:Inv X pins σ H s):∀ b∈frs X.stack,H b=none:=fun b hb=>by
 rcases Zi.mp (I.stkSub b hb) with e | hb
 ·rw [e];exact I.free
 ·obtain ⟨_,o,ho,_⟩:=I.ok.funs.mem hb
  exact I.base.free b o ho (I.ok.frf b hb) fun z=>I.ok.exfs b z hb
theorem Inv.step {g':Array GenState} {t':Nat} {d':Drawn} {ch:Wy} (I:Inv X pins σ H s)
  (hch:∀ b∈ch,(b∈X.ex\/X.s₀.heap.objs.size<=b)/\b ≠ X.env.locals/\(∀ x c,X.env.cells.lookup x=some c->c ≠ b)/\∀ p∈X.pn++pins,p.1 ≠ b)
  (keep:∀ b o,b ≠ X.env.locals->b ∉ X.fs->b ∉ ch->s.heap.get? b=some o->H b=none->h'.get? b=some o)
  (slot:∀ b o,b ≠ X.env.locals->b∈X.fs->b ∉ ch->s.heap.get? b=some o->H b=none->∃ sl,h'.get? b=some { o with slots:=sl }) (free:∀ b o,b ∉ ch->s.heap.get? b=some o->H b=none->H' b=none)
  (there:∀ b o,b ∉ ch->s.heap.get? b=some o->∃ o',h'.get? b=some o')
  (tups:∀ b xs,H b=some (.tup xs)->H' b=some (.tup xs)) (frzs:∀ b o u,H b=some (.frz o u)->H' b=some (.frz o u)) (tbls:∀ b ps,H b=some (.tbl ps)->∃ more,H' b=some (.tbl (ps++more)))
  (ns:∀ m,s.heap.Ns X.env.locals m->h'.Ns X.env.locals m) (hok:HOk X.prog X.w H' h') (hg:AllBare g') :
  Inv X pins σ H' { s with heap:=h',gens:=g',drawn:=d',toks:=t' }:=by
 have neL:∀ b o,X.s₀.heap.get? b=some o->b ≠ X.env.locals:=fun b o e=>ZS (ZX (ZU e) I.ok.above)
 have neC:∀ b o,X.s₀.heap.get? b=some o->b ∉ X.ex->b ∉ ch:=fun b o e hx hb=>by
  rcases (hch b hb).1 with z | z
  ·exact hx z
  ·exact absurd (ZX (ZU e) z) (Yp _)
 have cellK:∀ x c,X.env.cells.lookup x=some c->∀ v,s.heap.IsCell c v->h'.IsCell c v:=fun x c e v ⟨o,ho,hd⟩=>by
  have nch:c ∉ ch:=fun z=>(hch c z).2.2.1 x c e rfl
  by_cases hc:c∈X.fs
  ·obtain ⟨sl,q⟩:=slot c o (I.cne x c e) hc nch ho (I.freeC x c e)
   exact ⟨_,q,hd⟩
  ·exact ⟨o,keep c o (I.cne x c e) hc nch ho (I.freeC x c e),hd⟩
 refine ⟨I.ok,I.os,hg,⟨fun b o e n hb hx=>?_,fun b o e n hb hx=>?_,fun b o e n hx=>?_,fun b o e hx=>?_,fun b xs e=>tups b xs (I.base.tups b xs e),fun b o xs e=>frzs b o xs (I.base.frzs b o xs e),fun b ps e=>?_⟩,?_,fun x c e=>?_,?_,fun x c e=>?_,fun p hp=>?_,hok,I.len⟩
 ·exact keep b o (neL b o e) hb (neC b o e hx) (I.base.keep b o e n hb hx) (I.base.free b o e n hx)
 ·obtain ⟨sl,e1⟩:=I.base.slot b o e n hb hx
  obtain ⟨sl',e2⟩:=slot b _ (neL b o e) hb (neC b o e hx) e1 (I.base.free b o e n hx)
  exact ⟨sl',e2⟩
 ·obtain ⟨o',e1⟩:=I.base.there b o e hx
  exact free b o' (neC b o e hx) e1 (I.base.free b o e n hx)
 ·obtain ⟨o',e1⟩:=I.base.there b o e hx
  exact there b o' (neC b o e hx) e1
 ·obtain ⟨m1,e1⟩:=I.base.tbls b ps e
  obtain ⟨m2,e2⟩:=tbls b _ e1
  exact ⟨m1++m2,by rw [e2,Array.append_assoc]⟩
 ·obtain ⟨m,hn,hl⟩:=I.loc
  refine ⟨m,ns m hn,fun i x v e1 e2 e3=>?_⟩
  obtain ⟨u,r,l⟩:=hl i x v e1 e2 e3
  refine ⟨u,r,?_⟩
  rcases l with l | ⟨k,c,e,z⟩
  ·exact .inl l
  ·exact .inr ⟨k,c,e,cellK x c e _ z⟩
 ·obtain ⟨v,z⟩:=I.cell x c e
  exact ⟨v,cellK x c e v z⟩
 ·obtain ⟨m,⟨o,_,_,ho,_⟩,_⟩:=I.loc
  exact free _ o (fun z=>(hch _ z).2.1 rfl) ho I.free
 ·obtain ⟨v,o,ho,hd⟩:=I.cell x c e
  exact free c o (fun z=>(hch c z).2.2.1 x c e rfl) ho (I.freeC x c e)
 ·obtain ⟨e,n,ne,nf,d⟩:=I.pin p hp
  have nch:p.1 ∉ ch:=fun z=>(hch p.1 z).2.2.2 p hp rfl
  exact ⟨keep p.1 p.2 ne nf nch e n,free p.1 p.2 nch e n,ne,nf,d⟩
theorem Inv.un {t':Nat} (I:Inv X pins σ H s) (u:Un X.fs [] H H' s.heap h') (hok:HOk X.prog X.w H' h'):Inv X pins σ H' { s with heap:=h',toks:=t' }:=by
 obtain ⟨m,⟨o,es,ep,ho,r⟩,_⟩:=id I.loc
 obtain ⟨sl,hL⟩:=u.any ho I.free (by simp)
 exact I.step (g':=s.gens) (d':=s.drawn) (ch:=[]) (fun _ z=>nomatch z) (fun b o _ hb _ e n=>u.keep b o e n hb (by simp)) (fun b o _ hb _ e n=>u.slot b o e n hb (by simp)) (fun b o _ e n=>u.free b o e n (by simp)) (fun b o _ e=>u.there b o e (by simp)) u.tups u.frzs u.tbls (fun m' hm=>by
  obtain ⟨o',es',ep',ho',r'⟩:=hm
  rw [ho] at ho';cases ho'
  exact ⟨_,es',ep',hL,r'⟩) hok I.bare
theorem Inv.call {g':Array GenState} {t':Nat} {d':Drawn} {ch:Wy} (I:Inv X pins σ H s) (u:Un (frs X.stack) ch H H' s.heap h') (hok:HOk X.prog X.w H' h') (hg:AllBare g')
  (hch:∀ b∈ch,(b∈X.ex\/X.s₀.heap.objs.size<=b)/\b ≠ X.env.locals/\(∀ x c,X.env.cells.lookup x=some c->c ≠ b)/\∀ p∈X.pn++pins,p.1 ≠ b) :
  Inv X pins σ H' { s with heap:=h',gens:=g',drawn:=d',toks:=t' }:=by
 obtain ⟨m,⟨o,es,ep,ho,r⟩,_⟩:=id I.loc
 obtain ⟨sl,hL⟩:=u.any ho I.free fun z=>(hch _ z).2.1 rfl
 exact I.step (ch:=ch) hch (fun b o hL hb hc e n=>u.keep b o e n (fun z=>(Zi.mp (I.stkSub b z)).elim hL hb) hc) (fun b o _ _ hc e n=>u.any e n hc) (fun b o hc e n=>u.free b o e n hc) (fun b o hc e=>u.there b o e hc) u.tups u.frzs u.tbls (fun m' hm=>by
  obtain ⟨o',es',ep',ho',r'⟩:=hm
  rw [ho] at ho';cases ho'
  exact ⟨_,es',ep',hL,r'⟩) hok hg
theorem Inv.turned {t':Nat} {it:Addr} (I:Inv X pins σ H s) (k:∀ b o,b ≠ it->s.heap.get? b=some o->h'.get? b=some o) (hn:H it=none) (hL:it ≠ X.env.locals)
  (h1:it∈X.ex\/X.s₀.heap.objs.size<=it) (h2:∀ x c,X.env.cells.lookup x=some c->c ≠ it) (h3:∀ p∈X.pn++pins,p.1 ≠ it):Inv X pins σ H { s with heap:=h',toks:=t' }:=by
 have nit:∀ b u,H b=some u->b ≠ it:=fun b u e z=>by rw [z,hn] at e;cases e
 refine I.step (g':=s.gens) (d':=s.drawn) (ch:=[it]) (fun b hb=>?_) (fun b o _ _ hc e _=>k b o (fun z=>hc (by simp [z])) e) (fun b o _ _ hc e _=>⟨o.slots,k b o (fun z=>hc (by simp [z])) e⟩) (fun _ _ _ _ n=>n)
  (fun b o hc e=>⟨o,k b o (fun z=>hc (by simp [z])) e⟩) (fun _ _ e=>e) (fun _ _ _ e=>e) (fun b ps e=>⟨#[],by rw [e];simp⟩) (fun m hm=>?_) (fun b u e=>?_) I.bare
 ·have e:b=it:=by simpa using hb
  subst e
  exact ⟨h1,hL,h2,h3⟩
 ·obtain ⟨o,es,ep,ho,r⟩:=hm
  exact ⟨o,es,ep,k _ o (Yd hL) ho,r⟩
 ·refine (I.hok b u e).stay (fun c v hc q=>k c v ?_ q) (fun _ q=>q) fun _ _ q=>q
  rcases hc with z | z
  ·rw [z];exact nit b u e
  ·exact nit c _ z
theorem Inv.tok (I:Inv X pins σ H s) (t:Nat):Inv X pins σ H { s with toks:=t }:=I.un (h':=s.heap) (t':=t) Un.refl I.hok
theorem Inv.kept {t':Nat} (I:Inv X pins σ H s) (k:∀ b u,s.heap.get? b=some u->h'.get? b=some u):Inv X pins σ H { s with heap:=h',toks:=t' }:=I.un (Un.kept k) (I.hok.kept k)
theorem Inv.laid {a:Addr} {o:HO} {t':Nat} (I:Inv X pins σ H s) (k:∀ b u,s.heap.get? b=some u->h'.get? b=some u) (hp:s.heap.objs.size<=a) (new:cy X.prog X.w (upd H a o) h' a o) :
  Inv X pins σ (upd H a o) { s with heap:=h',toks:=t' }:=I.un (Un.laid k hp (I.hok.fresh hp)) (I.hok.laid k hp new)
theorem Inv.write {x e:Addr} {o:HO} {t':Nat} (I:Inv X pins σ H s) (mu:Mut (H x)) (he:e=x\/H e=some (.own x)) (k:∀ b u,b ≠ e->s.heap.get? b=some u->h'.get? b=some u) (heo:∃ u,h'.get? e=some u)
  (new:cy X.prog X.w (upd H x o) h' x o):Inv X pins σ (upd H x o) { s with heap:=h',toks:=t' }:=I.un (Un.write mu he k heo) (I.hok.write mu he k heo new)
theorem Inv.pins_of {pins':Xm} (I:Inv X pins σ H s) (h:∀ p∈pins',s.heap.get? p.1=some p.2/\H p.1=none/\p.1 ≠ X.env.locals/\p.1 ∉ X.fs/\∀ v,p.2.data ≠ .cell v):Inv X pins' σ H s :=
 ⟨I.ok,I.os,I.bare,I.base,I.loc,I.cell,I.free,I.freeC,fun p hp=>(Zg.mp hp).elim (fun z=>I.pin p (Z9 _ z)) (h p),I.hok,I.len⟩
theorem pS {N:List Str} (hN:N.Nodup) {i j:Nat} {x:Str} (a:N[i]?=some x) (b:N[j]?=some x):i=j:=by
 obtain ⟨h1,e1⟩:=Zj.mp a
 obtain ⟨h2,e2⟩:=Zj.mp b
 exact (List.getElem_inj hN).mp (e1.trans e2.symm)
theorem nr {M:Model} {A:Around} {E:Z2} {i:Nat} {x:Str} {v:V} {u:Value} {Q:Unit->Shared->Prop} (I:Inv X pins σ H s) (hN:X.N.Nodup) (hi:X.N[i]?=some x) (hx:Loc X.env.scope x) (r:RelV v u)
  (h:∀ s',Inv X pins (σ.set i (some v)) H s'->(∃ a,Heap.SameBut a s.heap s'.heap/\(a=X.env.locals\/X.env.cells.lookup x=some a))->Q () s') (hf:X.fn x=true\/X.env.scope.names.lookup x=some .local:=by first | exact .inl rfl | exact .inr rfl | assumption):wpAny M A (storeName X.env x u) Q E s:=by
 obtain ⟨m,hn,hl⟩:=id I.loc
 have hcls:(X.env.scope.kind == .class || (X.env.scope.kind == .module && X.env.locals != X.env.globals))=false:=by rw [I.ok.kind];rfl
 have hiσ:i < σ.length:=by rw [I.len];exact (Zj.mp hi).1
 have cne:=I.cne
 have tracked:∀ {a:Addr} {h':Heap},(∃ o,s.heap.get? a=some o/\H a=none)->Heap.SameBut a s.heap h'->HOk X.prog X.w H h':=fun {a h'} ha hs b ob e=>by
  obtain ⟨_,_,hfree⟩:=ha
  refine (I.hok b ob e).stay (fun c w' hc q=>(hs.2 c ?_).trans q) (fun _ q=>q) fun _ _ q=>q
  rintro rfl
  rcases hc with rfl | hc
  ·rw [hfree] at e;cases e
  ·rw [hfree] at hc;cases hc
 rcases hx with hk | hk
 ·refine wpAny_storeName_local hk hn (fun h' hn' hs=>?_) hcls
  obtain ⟨oL,_,_,hoL,_⟩:=id hn
  refine h _ ⟨I.ok,I.os,I.bare,⟨fun b o e n hb hx=>?_,fun b o e n hb hx=>?_,I.base.free,fun b o e hx=>?_,I.base.tups,I.base.frzs,I.base.tbls⟩,⟨_,hn',fun j y v' e1 e2 e3=>?_⟩,fun y c e=>?_,I.free,I.freeC,fun p hp=>?_,tracked ⟨oL,hoL,I.free⟩ hs,by simpa using I.len⟩ ⟨_,hs,.inl rfl⟩
  ·exact (hs.2 b (ZS (ZX (ZU e) I.ok.above))).trans (I.base.keep b o e n hb hx)
  ·obtain ⟨sl,e1⟩:=I.base.slot b o e n hb hx
   exact ⟨sl,(hs.2 b (ZS (ZX (ZU e) I.ok.above))).trans e1⟩
  ·obtain ⟨o',e1⟩:=I.base.there b o e hx
   exact ⟨o',(hs.2 b (ZS (ZX (ZU e) I.ok.above))).trans e1⟩
  ·by_cases hj:j=i
   ·subst hj
    rw [hi] at e1;cases e1
    rw [YC hiσ] at e2
    cases e2
    exact ⟨u,r,.inl ⟨hk,by simp⟩⟩
   ·rw [Yz (Yd hj)] at e2
    obtain ⟨u',r',q⟩:=hl j y v' e1 e2 e3
    refine ⟨u',r',?_⟩
    rcases q with ⟨k,e⟩ | ⟨k,c,e,z⟩
    ·refine .inl ⟨k,?_⟩
     have:y ≠ x:=fun e=>hj (pS hN e1 (e ▸ hi))
     simp [this,e]
    ·exact .inr ⟨k,c,e,z.sameBut hs (cne y c e)⟩
  ·obtain ⟨w',z⟩:=I.cell y c e
   exact ⟨w',z.sameBut hs (cne y c e)⟩
  ·obtain ⟨e,n,ne,nf,d⟩:=I.pin p hp
   exact ⟨(hs.2 p.1 ne).trans e,n,ne,nf,d⟩
 ·have hfn:X.fn x=true:=by
   rcases hf with z | z
   ·exact z
   ·rw [z] at hk;cases hk
  obtain ⟨c,hc⟩:=I.ok.has x (.inl hk)
  obtain ⟨w',z⟩:=I.cell x c hc
  refine wpAny_storeName_cell I.ok.kind hk hc z (fun h' hc' hs=>?_)
  obtain ⟨oc,hoc,hocd⟩:=id z
  refine h { s with heap:=h' } ⟨I.ok,I.os,I.bare,⟨fun b o e n hb hx=>?_,fun b o e n hb hx=>?_,I.base.free,fun b o e hx=>?_,I.base.tups,I.base.frzs,I.base.tbls⟩,⟨m,hn.sameBut hs (Yd (cne x c hc)),fun j y v' e1 e2 e3=>?_⟩,fun y c' e=>?_,I.free,I.freeC,fun p hp=>?_,tracked ⟨oc,hoc,I.freeC x c hc⟩ hs,by simpa using I.len⟩ ⟨c,hs,.inr hc⟩
  ·exact (hs.2 b (ZS (ZX (ZU e) (I.ok.cab x c hfn hc)))).trans (I.base.keep b o e n hb hx)
  ·obtain ⟨sl,e1⟩:=I.base.slot b o e n hb hx
   exact ⟨sl,(hs.2 b (ZS (ZX (ZU e) (I.ok.cab x c hfn hc)))).trans e1⟩
  ·obtain ⟨o',e1⟩:=I.base.there b o e hx
   exact ⟨o',(hs.2 b (ZS (ZX (ZU e) (I.ok.cab x c hfn hc)))).trans e1⟩
  ·by_cases hj:j=i
   ·subst hj
    rw [hi] at e1;cases e1
    rw [YC hiσ] at e2
    cases e2
    exact ⟨u,r,.inr ⟨.inl hk,c,hc,hc'⟩⟩
   ·rw [Yz (Yd hj)] at e2
    obtain ⟨u',r',q⟩:=hl j y v' e1 e2 e3
    refine ⟨u',r',?_⟩
    rcases q with q | ⟨k,c',e,z'⟩
    ·exact .inl q
    ·refine .inr ⟨k,c',e,z'.sameBut hs ?_⟩
     rintro rfl
     exact hj (pS hN e1 (I.ok.inj _ _ _ e hc ▸ hi))
  ·by_cases hcc:c'=c
   ·subst hcc;exact ⟨_,hc'⟩
   ·obtain ⟨w2,z2⟩:=I.cell y c' e
    exact ⟨w2,z2.sameBut hs hcc⟩
  ·obtain ⟨e,n,ne,nf,d⟩:=I.pin p hp
   refine ⟨(hs.2 p.1 ?_).trans e,n,ne,nf,d⟩
   intro q
   rw [q,hoc] at e
   have q':oc=p.2:=Zn e
   exact d w' (by rw [← q'];exact hocd)
theorem oP {M:Model} {A:Around} {E:Z2} {i:Nat} {x:Str} {v:V} {u:Value} {Q:Unit->Shared->Prop} (I:Inv X pins σ H s) (hN:X.N.Nodup) (hi:X.N[i]?=some x) (hx:Loc X.env.scope x) (r:RelV v u)
  (h:∀ s',Inv X pins (σ.set i (some v)) H s'->Q () s') (hf:X.fn x=true\/X.env.scope.names.lookup x=some .local:=by first | exact .inl rfl | exact .inr rfl | assumption):wpAny M A (storeName X.env x u) Q E s :=
 nr I hN hi hx r (fun s' I' _=>h s' I') hf
theorem Inv.call' {s':Shared} {ch:Wy} (I:Inv X pins σ H s) (ho:s'.os=s.os) (u:Un (frs X.stack) ch H H' s.heap s'.heap) (hok:HOk X.prog X.w H' s'.heap) (hg:AllBare s'.gens)
  (hch:∀ b∈ch,(b∈X.ex\/X.s₀.heap.objs.size<=b)/\b ≠ X.env.locals/\(∀ x c,X.env.cells.lookup x=some c->c ≠ b)/\∀ p∈X.pn++pins,p.1 ≠ b):Inv X pins σ H' s':=by
 obtain ⟨h',g',d',t',o'⟩:=s'
 have e:o'=s.os:=ho
 subst e
 exact I.call (g':=g') (t':=t') (d':=d') u hok hg hch
end
noncomputable abbrev XK:=Value->Option Addr->Hp->Prop
noncomputable abbrev St:=List (Option V)
noncomputable abbrev VK:=V->Hp->Prop
noncomputable abbrev TE:=St->Hp->VK->Prop
noncomputable abbrev TT:=St->Hp->(Bool->Hp->Prop)->Prop
noncomputable abbrev TA:=St->Hp->(List V->Hp->Prop)->Prop
structure Ends where
 nx:St->Hp->Prop
 rt:VK
 bk:St->Hp->Prop:=fun _ _=>False
 ct:St->Hp->Prop:=fun _ _=>False
noncomputable abbrev TS:=Ends->St->Hp->Prop
noncomputable def EP (X:Cx) (pins:Xm) (σ:St) (Q:VK) (u:Value) (s':Shared):Prop:=∃ v H',Inv X pins σ H' s'/\RelV v u/\Q v H'
noncomputable def TP (X:Cx) (pins:Xm) (σ:St) (Q:Bool->Hp->Prop) (b:Bool) (s':Shared):Prop:=∃ H',Inv X pins σ H' s'/\Q b H'
noncomputable def AP (X:Cx) (pins:Xm) (σ:St) (Q:List V->Hp->Prop) (us:Wx) (s':Shared):Prop:=∃ vs H',Inv X pins σ H' s'/\aV vs us/\Q vs H'
noncomputable def SP (X:Cx) (pins:Xm) (D:Ends) (f:Flow) (s':Shared):Prop :=
 match f with
 | .next=>∃ σ' H',Inv X pins σ' H' s'/\D.nx σ' H'
 | .brk=>∃ σ' H',Inv X pins σ' H' s'/\D.bk σ' H'
 | .cont=>∃ σ' H',Inv X pins σ' H' s'/\D.ct σ' H'
 | .ret u=>∃ v σ' H',Inv X pins σ' H' s'/\RelV v u/\D.rt v H'
noncomputable def PE (X:Cx) (e:Expr) (t:TE):Prop :=
 ∀ (pins:Xm) (s:Shared) (σ:St) (H:Hp) (Q:VK),Inv X pins σ H s->t σ H Q->wpAny (model X.prog X.w) X.A (eval e X.env) (EP X pins σ Q) X.xe s
noncomputable def PT (X:Cx) (e:Expr) (t:TT):Prop :=
 ∀ (pins:Xm) (s:Shared) (σ:St) (H:Hp) (Q:Bool->Hp->Prop),Inv X pins σ H s->t σ H Q->wpAny (model X.prog X.w) X.A (isTrue e X.env (eval e X.env)) (TP X pins σ Q) X.xe s
noncomputable def PW (X:Cx) (e:Expr) (t:TT):Prop :=
 ∀ (whole:Sem Value) (pins:Xm) (s:Shared) (σ:St) (H:Hp) (Q:Bool->Hp->Prop),Inv X pins σ H s->t σ H Q->wpAny (model X.prog X.w) X.A (isTrue e X.env whole) (TP X pins σ Q) X.xe s
theorem PW.pt {X:Cx} {e:Expr} {t:TT} (h:PW X e t):PT X e t:=h _
noncomputable def PA (X:Cx) (es:List Expr) (t:TA):Prop :=
 ∀ (pos:Pos) (pins:Xm) (s:Shared) (σ:St) (H:Hp) (Q:List V->Hp->Prop),Inv X pins σ H s->t σ H Q->wpAny (model X.prog X.w) X.A (spliced (backTo pos (starEach es X.env))) (AP X pins σ Q) X.xe s
noncomputable def PS (X:Cx) (st:Stmt) (t:TS):Prop :=
 ∀ (pins:Xm) (s:Shared) (σ:St) (H:Hp) (D:Ends),Inv X pins σ H s->t D σ H->wpAny (model X.prog X.w) X.A (exec st X.env) (SP X pins D) X.xe s
noncomputable def PSs (X:Cx) (st:List Stmt) (t:TS):Prop :=
 ∀ (pins:Xm) (s:Shared) (σ:St) (H:Hp) (D:Ends),Inv X pins σ H s->t D σ H->wpAny (model X.prog X.w) X.A (execs st X.env) (SP X pins D) X.xe s
theorem thn {α:Type} {t:Sem α} {Q Q':α->Shared->Prop} {M:Model} {A:Around} {E:Z2} {s:Shared} (h:wpAny M A t Q E s) (hQ:∀ a s,Q a s->Q' a s):wpAny M A t Q' E s:=YV h hQ fun _ _ x=>x
section
variable {X:Cx}
noncomputable def DG (i:Nat):TE:=fun σ H Q=>∃ v,σ[i]?=some (some v)/\Q v H
noncomputable def tC (v:V):TE:=fun _ H Q=>Q v H
theorem fZ {i:Nat} {x:Str} {pos:Pos} (hN:X.N[i]?=some x) (hv:Vis X.env.scope x) (hd:(x == ("__debug__" : Str))=false:=by decide) (hcd:(x == ("__classdict__" : Str))=false:=by decide):PE X (.Name x pos) (DG i):=by
 intro pins s σ H Q I h
 obtain ⟨v,e,h⟩:=h
 obtain ⟨m,hn,hl⟩:=I.loc
 obtain ⟨u,r,l⟩:=hl i x v hN e hv
 have fin:EP X pins σ Q u s:=⟨v,H,I,r,h⟩
 rcases l with ⟨hk,hm⟩ | ⟨hk,c,hc,hcell⟩
 ·exact wpAny_Name (wpAny_loadName_local I.ok.kind hk hn hm fin) hd
 ·rcases hk with hk | hk
  ·exact wpAny_Name (wpAny_loadName_cell I.ok.kind hk hc hcell fin) hd
  ·exact wpAny_Name (wpAny_loadName_free I.ok.kind hk hc hcell fin hcd) hd
theorem n8 {i j pos}:PE X (.Constant (.int i) j pos) (tC (.int i)):=fun _ _ _ H _ I h=>wpAny_Constant_int ⟨.int i,H,I.tok _,⟨_,rfl⟩,h⟩
theorem Ds {b j pos}:PE X (.Constant (.bool b) j pos) (tC (.bl b)):=fun _ _ _ H _ I h=>Constant_bool ⟨.bl b,H,I,rfl,h⟩
theorem Ai {j pos}:PE X (.Constant .none j pos) (tC .non):=fun _ _ _ H _ I h=>Constant_none ⟨.non,H,I,rfl,h⟩
theorem BZ {x j pos}:PE X (.Constant (.str x) j pos) (tC (.str x)):=fun _ _ _ H _ I h=>Calls.Constant_str ⟨.str x,H,I.tok _,⟨_,rfl⟩,h⟩
noncomputable def Gl (X:Cx) (x:Str):Prop:=X.env.kindOf x=some .globalImplicit
theorem kE {E:Z2} {pins:Xm} {s:Shared} {σ:St} {H:Hp} {x:Str} {u:Value} {pos:Pos} {Q:Z2} (I:Inv X pins σ H s) (hg:Gl X x) (hm:X.mg x=some u) (h:Q u s)
  (hd:(x == ("__debug__" : Str))=false:=by decide):wpAny (model X.prog X.w) X.A (eval (.Name x pos) X.env) Q E s :=
 Calls.Name_function_global I.ok.kind hg (Calls.loadGlobal_global (by rw [I.ok.glob];exact I.mod.glob.keeps I.bk) hm h) hd
theorem lL {E:Z2} {pins:Xm} {s:Shared} {σ:St} {H:Hp} {x:Str} {u:Value} {pos:Pos} {Q:Z2} (I:Inv X pins σ H s) (hg:Gl X x) (hm:X.mg x=none) (hv:bootBuiltins x=some u) (h:Q u s)
  (hn:x ≠ "__name__" := by decide) (hd:(x == ("__debug__" : Str))=false:=by decide):wpAny (model X.prog X.w) X.A (eval (.Name x pos) X.env) Q E s:=by
 obtain ⟨mb,h1,h2⟩:=I.mod.blt
 exact Calls.Name_function_global I.ok.kind hg (Calls.loadGlobal_builtin (by rw [I.ok.glob];exact I.mod.glob.keeps I.bk) hm (by rw [I.ok.blt];exact h1.keeps I.bk) ((h2 x hn).trans hv) h) hd
theorem yj {x:Str} {v:V} {u:Value} {pos:Pos} (hg:Gl X x) (hm:X.mg x=some u) (r:RelV v u) (hd:(x == ("__debug__" : Str))=false:=by decide):PE X (.Name x pos) (tC v) :=
 fun _ _ _ H _ I h=>kE I hg hm ⟨v,H,I,r,h⟩ hd
theorem xE {x:Str} {v:V} {u:Value} {pos:Pos} (hg:Gl X x) (hm:X.mg x=none) (hv:bootBuiltins x=some u) (r:RelV v u) (hn:x ≠ "__name__" := by decide) (hd:(x == ("__debug__" : Str))=false:=by decide):PE X (.Name x pos) (tC v) :=
 fun _ _ _ H _ I h=>lL I hg hm hv ⟨v,H,I,r,h⟩ hn hd
variable {a b:Expr} {ta tb:TE} {pos:Pos}
noncomputable def PC (X:Cx) (op:CmpOp) (a b:Expr) (t:TE):Prop :=
 ∀ (pins:Xm) (s:Shared) (σ:St) (H:Hp) (Q:VK),Inv X pins σ H s->t σ H Q →
  wpAny (model X.prog X.w) X.A (eval a X.env) (fun v s₁=>wpAny (model X.prog X.w) X.A (eval b X.env) (fun u s₂=>wpAny (model X.prog X.w) X.A (compareOp op v u) (EP X pins σ Q) X.xe s₂) X.xe s₁) X.xe s
theorem oR (b:Expr) {op:CmpOp} (h:op ≠ .In) (h2:op ≠ .NotIn):behindInMarks op b=false:=by
 have e1:(op == CmpOp.In)=false:=by cases op <;> first | rfl | exact absurd rfl h
 have e2:(op == CmpOp.NotIn)=false:=by cases op <;> first | rfl | exact absurd rfl h2
 cases b <;> simp [behindInMarks,e1,e2]
noncomputable def EC (ta:TE):TE:=fun σ H Q=>ta σ H fun x H1=>Q (.bl (decide (x=.non))) H1
noncomputable def CP (ta:TE):TE:=fun σ H Q=>ta σ H fun x H1=>Q (.bl (!decide (x=.non))) H1
theorem RelV.none_iff {x:V} {v:Value} (r:RelV x v):(v == Value.none)=decide (x=.non):=by
 cases x with
 | non=>cases r;rfl
 | bl _=>cases r;rfl
 | int _=>obtain ⟨t,rfl⟩:=r;rfl
 | str _=>obtain ⟨t,rfl⟩:=r;rfl
 | byt _=>obtain ⟨t,rfl⟩:=r;rfl
 | flt _=>obtain ⟨t,rfl⟩:=r;rfl
 | ref _=>cases r;rfl
 | ty _=>cases r;rfl
theorem vW {j pos'} (ha:PE X a ta):PC X .Is a (.Constant .none j pos') (EC ta):=by
 intro pins s σ H Q I h
 refine thn (ha pins s σ H _ I h) fun v s1 ⟨x,H1,I1,r1,q1⟩=>?_
 exact Constant_none (is_none_gen ⟨.bl _,H1,I1,by rw [r1.none_iff];rfl,q1⟩)
theorem yJ {j pos'} (ha:PE X a ta):PC X .IsNot a (.Constant .none j pos') (CP ta):=by
 intro pins s σ H Q I h
 refine thn (ha pins s σ H _ I h) fun v s1 ⟨x,H1,I1,r1,q1⟩=>?_
 exact Constant_none (isnot_none_gen ⟨.bl _,H1,I1,by rw [r1.none_iff];rfl,q1⟩)
noncomputable def tB (t:TE):TT:=fun σ H Q=>t σ H fun x H1=>∃ c,x=.bl c/\Q c H1
theorem BG {op:CmpOp} {t:TE} (h:PC X op a b t) (h1:behindInMarks op b=false:=by first | exact oR _ (by decide) (by decide) | rfl):PE X (.Compare a [op] [b] pos) t:=fun pins s σ H Q I hw=>wpAny_Compare1 (h pins s σ H Q I hw) h1
theorem vP {op:CmpOp} {t:TE} (h:PC X op a b t) (h1:behindInMarks op b=false:=by first | exact oR _ (by decide) (by decide) | rfl):PT X (.Compare a [op] [b] pos) (tB t):=by
 intro pins s σ H Q I hw
 refine wpAny_isTrue_Compare1 (thn (h pins s σ H _ I hw) fun v s1 h1=>thn h1 fun u s2 h2=>thn h2 fun c s3 ⟨x,H1,I1,r1,q1⟩=>?_) h1
 obtain ⟨d,rfl,q⟩:=q1
 cases r1
 exact Yh ⟨H1,I1,q⟩
theorem Bp {e:Expr} {t:TE} (h:PE X e t) (he:∀ whole,isTrue e X.env whole=(do let v ← whole;standAt e.pos;holding [v] (truthy v)):=by intro _;rfl):PT X e (tB t):=by
 intro pins s σ H Q I hw
 refine isTrue_plain (thn (h pins s σ H _ I hw) fun v s1 ⟨x,H1,I1,r1,q1⟩=>?_) (he _)
 obtain ⟨d,rfl,q⟩:=q1
 cases r1
 exact Yh ⟨H1,I1,q⟩
variable {tA tB':TT} {rest:List Expr}
noncomputable def Eh (t u:TT):TT:=fun σ H Q=>t σ H fun c H1=>if c=true then u σ H1 Q else Q false H1
noncomputable def tOr (t u:TT):TT:=fun σ H Q=>t σ H fun c H1=>if c=true then Q true H1 else u σ H1 Q
noncomputable def EK (t:TT):TT:=fun σ H Q=>t σ H fun c H1=>Q (!c) H1
theorem xD (ha:PT X a tA):PW X (.BoolOp .And [a] pos) tA:=by
 intro wh pins s σ H Q I h
 refine isTrue_and (thn (ha pins s σ H Q I h) fun c s1 e=>?_)
 cases c with
 | true=>exact isTrue_and_nil e
 | false=>exact e
theorem zW (ha:PT X a tA):PW X (.BoolOp .Or [a] pos) tA:=by
 intro wh pins s σ H Q I h
 refine isTrue_or (thn (ha pins s σ H Q I h) fun c s1 e=>?_)
 cases c with
 | false=>exact isTrue_or_nil e
 | true=>exact e
theorem BU (ha:PT X a tA) (hb:PW X (.BoolOp .And (b :: rest) pos) tB'):PW X (.BoolOp .And (a :: b :: rest) pos) (Eh tA tB'):=by
 intro wh pins s σ H Q I h
 refine isTrue_and (thn (ha pins s σ H _ I h) fun c s1 ⟨H1,I1,q1⟩=>?_)
 cases c with
 | true=>exact hb wh pins s1 σ H1 Q I1 q1
 | false=>exact ⟨H1,I1,q1⟩
theorem zJ (ha:PT X a tA) (hb:PW X (.BoolOp .Or (b :: rest) pos) tB'):PW X (.BoolOp .Or (a :: b :: rest) pos) (tOr tA tB'):=by
 intro wh pins s σ H Q I h
 refine isTrue_or (thn (ha pins s σ H _ I h) fun c s1 ⟨H1,I1,q1⟩=>?_)
 cases c with
 | true=>exact ⟨H1,I1,q1⟩
 | false=>exact hb wh pins s1 σ H1 Q I1 q1
theorem vS (ha:PT X a tA):PT X (.UnaryOp .Not a pos) (EK tA):=by
 intro pins s σ H Q I h
 exact isTrue_not (ha pins s σ H (fun c H1=>Q (!c) H1) I h)
noncomputable def CK (ta tb:TE):TE:=fun σ H Q=>ta σ H fun x H1=>∃ c,x=.bl c/\if c=true then tb σ H1 Q else Q (.bl false) H1
noncomputable def DW (ta:TE):TE:=fun σ H Q=>ta σ H fun x H1=>∃ c,x=.bl c/\Q (.bl (!c)) H1
theorem AS {op} {t:TE} (h:PE X a t):PE X (.BoolOp op [a] pos) t:=fun pins s σ H Q I hw=>BoolOp_one (h pins s σ H Q I hw)
theorem Bo (ha:PE X a ta) (hb:PE X (.BoolOp .And (b :: rest) pos) tb):PE X (.BoolOp .And (a :: b :: rest) pos) (CK ta tb):=by
 intro pins s σ H Q I h
 refine BoolOp_and (thn (ha pins s σ H _ I h) fun v s1 ⟨x,H1,I1,r1,q1⟩=>?_)
 obtain ⟨c,rfl,q1⟩:=q1
 cases r1
 refine Yh ?_
 cases c with
 | true=>exact hb pins s1 σ H1 Q I1 q1
 | false=>exact ⟨.bl false,H1,I1,rfl,q1⟩
theorem zV (ha:PE X a ta):PE X (.UnaryOp .Not a pos) (DW ta):=by
 intro pins s σ H Q I h
 refine UnaryOp_ (thn (ha pins s σ H _ I h) fun v s1 ⟨x,H1,I1,r1,q1⟩=>?_)
 obtain ⟨c,rfl,q1⟩:=q1
 cases r1
 exact not_of (Yh ⟨.bl (!c),H1,I1,rfl,q1⟩)
end
noncomputable def SqL (K:X4) (H:Hp) (a:Addr) (xs:List V):Prop :=
 Rd H a (.lst xs) ∨
  ∃ (o:Obj) (its:Array Value) (n:Nat),K.lookup a=some o/\o.cls=.type "list" ∧ o.dict=none/\o.data=.seq its n/\its.size<=sizeLine/\aV xs its.toList
noncomputable def SqT (K:X4) (H:Hp) (a:Addr) (xs:List V):Prop :=
 Rd H a (.tup xs) ∨
  ∃ (o:Obj) (its:Array Value) (n:Nat),K.lookup a=some o/\o.cls=.type "tuple" ∧ o.data=.seq its n/\its.size<=sizeLine/\aV xs its.toList
noncomputable def Ez:Value->Option V
 | .none=>some .non
 | .bool b=>some (.bl b)
 | .int i _=>some (.int i)
 | .str x _=>some (.str x)
 | .bytes b _=>some (.byt b)
 | .float b _=>some (.flt b)
 | .ref a=>some (.ref a)
 | .type n=>some (.ty n)
 | _=>none
theorem RelV.abs {x:V} {u:Value} (r:RelV x u):Ez u=some x:=by
 cases x with
 | non=>cases r;rfl
 | bl _=>cases r;rfl
 | int _=>obtain ⟨t,rfl⟩:=r;rfl
 | str _=>obtain ⟨t,rfl⟩:=r;rfl
 | byt _=>obtain ⟨t,rfl⟩:=r;rfl
 | flt _=>obtain ⟨t,rfl⟩:=r;rfl
 | ref _=>cases r;rfl
 | ty _=>cases r;rfl
theorem RelV.inj {x y:V} {u:Value} (r:RelV x u) (q:RelV y u):x=y:=Zn (r.abs.symm.trans q.abs)
theorem aV.inj:∀ {xs ys:List V} {us:Wx},aV xs us->aV ys us->xs=ys
 | _,_,_,.nil,.nil=>rfl
 | _,_,_,.cons r t,.cons r' t'=>by rw [r.inj r',aV.inj t t']
section
variable {X:Cx} {pins:Xm} {σ:St} {H:Hp} {s:Shared} {a:Addr} {xs ys:List V}
theorem SqL.of {K:X4} (h:H a=some (.lst xs)):SqL K H a xs:=.inl (.inl h)
theorem SqT.of {K:X4} (h:H a=some (.tup xs)):SqT K H a xs:=.inl (.inl h)
theorem Inv.list (I:Inv X pins σ H s) (h:SqL X.K H a xs):∃ its:Wx,aV xs its/\PlainL s.heap a its.toArray/\xs.length<=sizeLine:=by
 rcases h with h | ⟨o,its,n,hk,hc,hd,hs,hz,r⟩
 ·obtain ⟨z,its,n,r,e⟩:=h.ok I.hok
  exact ⟨its,r,⟨_,n,e,rfl,rfl,rfl⟩,z⟩
 ·refine ⟨its.toList,r,⟨o,n,I.kIn a o hk,hc,hd,by simpa using hs⟩,?_⟩
  have e:=r.length
  simp only [YZ] at e
  lia
theorem Inv.tuple (I:Inv X pins σ H s) (h:SqT X.K H a xs):∃ its:Wx,aV xs its/\IsTup s.heap a its.toArray/\xs.length<=sizeLine:=by
 rcases h with h | ⟨o,its,n,hk,hc,hs,hz,r⟩
 ·obtain ⟨z,its,r,_,p⟩:=h.ok I.hok
  exact ⟨its,r,p,z⟩
 ·refine ⟨its.toList,r,⟨o,I.kIn a o hk,hc,n,by simpa using hs⟩,?_⟩
  have e:=r.length
  simp only [YZ] at e
  lia
theorem Inv.list_inj (I:Inv X pins σ H s) (h:SqL X.K H a xs) (h':SqL X.K H a ys):xs=ys:=by
 obtain ⟨its,r,⟨o,n,e,_,_,d⟩,_⟩:=I.list h
 obtain ⟨its',r',⟨o',n',e',_,_,d'⟩,_⟩:=I.list h'
 rw [e] at e';cases e'
 rw [d] at d'
 injection d' with d1 _
 have:its=its':=by simpa using congrArg Array.toList d1
 subst this
 exact r.inj r'
theorem Inv.tuple_inj (I:Inv X pins σ H s) (h:SqT X.K H a xs) (h':SqT X.K H a ys):xs=ys:=by
 obtain ⟨its,r,⟨o,e,_,n,d⟩,_⟩:=I.tuple h
 obtain ⟨its',r',⟨o',e',_,n',d'⟩,_⟩:=I.tuple h'
 rw [e] at e';cases e'
 rw [d] at d'
 injection d' with d1 _
 have:its=its':=by simpa using congrArg Array.toList d1
 subst this
 exact r.inj r'
end
noncomputable abbrev Cx.wish (X:Cx) (E:Z2):Cx:={ X with xe:=E }
noncomputable abbrev Cx.nox (X:Cx):Cx:=X.wish fun _ _=>False
theorem Cx.Ok.wish {X:Cx} (ok:X.Ok) (E:Z2):(X.wish E).Ok :=
 ⟨ok.mod,ok.kind,ok.glob,ok.blt,ok.above,ok.inj,ok.has,ok.cab,ok.hd,ok.frames,ok.stk,ok.exf,ok.bs,ok.bsz,ok.noex,ok.exfs,ok.funs,ok.frf⟩
theorem Cx.Ok.unwish {X:Cx} {E:Z2} (ok:(X.wish E).Ok):X.Ok :=
 ⟨ok.mod,ok.kind,ok.glob,ok.blt,ok.above,ok.inj,ok.has,ok.cab,ok.hd,ok.frames,ok.stk,ok.exf,ok.bs,ok.bsz,ok.noex,ok.exfs,ok.funs,ok.frf⟩
section
variable {X:Cx} {pins:Xm} {σ:St} {H:Hp} {s:Shared} {E:Z2}
theorem Inv.wish (I:Inv X pins σ H s) (E:Z2):Inv (X.wish E) pins σ H s:=⟨I.ok.wish E,I.os,I.bare,I.base,I.loc,I.cell,I.free,I.freeC,I.pin,I.hok,I.len⟩
theorem Inv.unwish (I:Inv (X.wish E) pins σ H s):Inv X pins σ H s:=⟨I.ok.unwish,I.os,I.bare,I.base,I.loc,I.cell,I.free,I.freeC,I.pin,I.hok,I.len⟩
theorem SP.unwish {D:Ends} {f:Flow} {s':Shared} (h:SP (X.wish E) pins D f s'):SP X pins D f s':=by
 cases f with
 | next=>obtain ⟨σ',H',I,q⟩:=h;exact ⟨σ',H',I.unwish,q⟩
 | brk=>obtain ⟨σ',H',I,q⟩:=h;exact ⟨σ',H',I.unwish,q⟩
 | cont=>obtain ⟨σ',H',I,q⟩:=h;exact ⟨σ',H',I.unwish,q⟩
 | ret u=>obtain ⟨v,σ',H',I,r,q⟩:=h;exact ⟨v,σ',H',I.unwish,r,q⟩
theorem PSs.nox {st:List Stmt} {t:TS} (h:PSs X.nox st t):PSs X st t:=fun pins s σ H D I hw =>
 YV (h pins s σ H D (I.wish _) hw) (fun _ _ q=>q.unwish) fun _ _ z=>False.elim z
end
section
variable {X:Cx} {st:Stmt} {rest:List Stmt} {t u:TS} {e:Expr} {te:TE} {pos:Pos}
noncomputable def Dn:TS:=fun D σ H=>D.nx σ H
noncomputable def Ep (t u:TS):TS:=fun D σ H=>t { D with nx:=u D } σ H
theorem xu:PSs X [] Dn:=fun _ _ σ H _ I h=>XJ ⟨σ,H,I,h⟩
theorem uP (h1:PS X st t) (h2:PSs X rest u):PSs X (st :: rest) (Ep t u):=by
 intro pins s σ H D I h
 refine wpAny_execs_cons (thn (h1 pins s σ H { D with nx:=u D } I h) fun f s1 q=>?_)
 cases f with
 | next =>
  obtain ⟨σ',H',I',q⟩:=q
  exact h2 pins s1 σ' H' D I' q
 | ret v=>exact q
 | brk=>exact q
 | cont=>exact q
theorem xf (h1:PS X st t):PSs X [st] t:=by
 intro pins s σ H D I h
 refine wpAny_execs_cons (thn (h1 pins s σ H D I h) fun f s1 q=>?_)
 cases f with
 | next=>exact XJ q
 | ret v=>exact q
 | brk=>exact q
 | cont=>exact q
theorem Inv.quiet {pins:Xm} {σ:St} {H:Hp} {s:Shared} (I:Inv X pins σ H s):interactive X.env=false:=by simp [interactive,I.ok.kind]
noncomputable def D6 (te:TE):TS:=fun D σ H=>te σ H fun _ H1=>D.nx σ H1
theorem jE (he:PE X e te) (hs:swapsWith e none pos.line X.env=pure false:=by rfl):PS X (.Expr e pos) (D6 te):=by
 intro pins s σ H D I h
 exact wpAny_Expr_any (thn (he pins s σ H _ I h) fun v s1 ⟨x,H1,I1,r1,q1⟩=>⟨σ,H1,I1,q1⟩) I.quiet hs
noncomputable def Eo (te:TE):TS:=fun D σ H=>te σ H D.rt
theorem nZ (he:PE X e te):PS X (.Return (some e) pos) (Eo te):=by
 intro pins s σ H D I h
 exact wpAny_Return_some (thn (he pins s σ H _ I h) fun v s1 ⟨x,H1,I1,r1,q1⟩=>⟨x,σ,H1,I1,r1,q1⟩)
noncomputable def Ed (c:TT) (t u:TS):TS:=fun D σ H=>c σ H fun b H1=>if b=true then t D σ H1 else u D σ H1
theorem zk {c:Expr} {a b:List Stmt} {tc:TT} (hc:PT X c tc) (ha:PSs X a t) (hb:PSs X b u):PS X (.If c a b pos) (Ed tc t u):=by
 intro pins s σ H D I h
 refine wpAny_If (thn (hc pins s σ H _ I h) fun d s1 ⟨H1,I1,q1⟩=>?_)
 cases d with
 | true=>exact ha pins s1 σ H1 D I1 q1
 | false=>exact hb pins s1 σ H1 D I1 q1
end
noncomputable abbrev TG:=V->St->Hp->(St->Hp->Prop)->Prop
noncomputable def PG (X:Cx) (target:Expr) (t:TG):Prop :=
 ∀ (pins:Xm) (s:Shared) (σ:St) (H:Hp) (v:V) (u:Value) (Q:St->Hp->Prop),Inv X pins σ H s->RelV v u->t v σ H Q →
  wpAny (model X.prog X.w) X.A (assign target X.env u) (fun _ s'=>∃ σ' H',Inv X pins σ' H' s'/\Q σ' H') X.xe s
noncomputable abbrev xh:=V->V->V->Hp->(Hp->Prop)->Prop
noncomputable def AL (X:Cx) (t:xh):Prop :=
 ∀ (pins:Xm) (s:Shared) (σ:St) (H:Hp) (o i v:V) (ov iv u:Value) (Q:Hp->Prop),Inv X pins σ H s->RelV o ov->RelV i iv->RelV v u->t o i v H Q →
  wpAny (model X.prog X.w) X.A (setItem ov iv u) (fun _ s'=>∃ H',Inv X pins σ H' s'/\Q H') X.xe s
section
variable {X:Cx} {pos:Pos}
noncomputable def zy (i:Nat):TG:=fun v σ H Q=>Q (σ.set i (some v)) H
theorem xC {i:Nat} {x:Str} (hN:X.N.Nodup) (hi:X.N[i]?=some x) (hx:Loc X.env.scope x) (hf:X.fn x=true\/X.env.scope.names.lookup x=some .local:=by first | exact .inl rfl | exact .inr rfl | assumption):PG X (.Name x pos) (zy i):=by
 intro pins s σ H v u Q I r h
 exact wpAny_assign_Name (oP I hN hi hx r (fun s' I'=>⟨_,H,I',h⟩) hf)
noncomputable def Cz (to ti:TE) (t:xh):TG:=fun v σ H Q=>to σ H fun o H1=>ti σ H1 fun i H2=>t o i v H2 fun H3=>Q σ H3
theorem qG {o i:Expr} {to ti:TE} {t:xh} (ho:PE X o to) (hi:PE X i ti) (hs:AL X t)
  (ha:∀ v,assign (.Subscript o i pos) X.env v=(do
   let ov ← holding [v] (eval o X.env)
   let iv ← holding [v,ov] (eval i X.env)
   standAt pos
   holding [v,ov,iv] (setItem ov iv v)
   release [v,ov,iv] []):=by intro _;rfl):PG X (.Subscript o i pos) (Cz to ti t):=by
 intro pins s σ H v u Q I r h
 rw [ha]
 refine Zq (Xq (thn (ho pins s σ H _ I h) fun ov s1 ⟨x,H1,I1,r1,q1⟩=>?_))
 refine Zq (Xq (thn (hi pins s1 σ H1 _ I1 q1) fun iv s2 ⟨y,H2,I2,r2,q2⟩=>?_))
 refine Zq (wpAny_standAt (Zq (Xq (thn (hs pins s2 σ H2 x y v ov iv u _ I2 r1 r2 r q2) fun _ s3 ⟨H3,I3,q3⟩=>?_))))
 exact wpAny_release ⟨σ,H3,I3,q3⟩
noncomputable def Dt (te:TE) (g:TG):TS:=fun D σ H=>te σ H fun x H1=>g x σ H1 D.nx
theorem qJ {tg e:Expr} {te:TE} {g:TG} (he:PE X e te) (hg:PG X tg g) (hs:swapsWithSole [tg] e pos.line X.env=pure false:=by rfl) (hw:swappedStores [tg] e X.env=pure none:=by rfl)
  (h1:(assignEach [tg] X.env).map (·.2)=[assign tg X.env]:=by rfl):PS X (.Assign [tg] e pos) (Dt te g):=by
 intro pins s σ H D I h
 refine wpAny_Assign_stores (thn (he pins s σ H _ I h) fun v s1 ⟨x,H1,I1,r1,q1⟩=>?_) hs hw
 rw [h1]
 exact thn (hg pins s1 σ H1 x v _ I1 r1 q1) fun _ s2 q=>q
theorem qq {i:Nat} {x:Str} {e:Expr} {te:TE} {pos':Pos} (hN:X.N.Nodup) (hi:X.N[i]?=some x) (hx:Loc X.env.scope x) (he:PE X e te) (hs:swapsWith e (some (.Name x pos')) pos.line X.env=pure false:=by rfl) (hf:X.fn x=true\/X.env.scope.names.lookup x=some .local:=by first | exact .inl rfl | exact .inr rfl | assumption) :
  PS X (.Assign [.Name x pos'] e pos) (Dt te (zy i)):=by
 intro pins s σ H D I h
 refine wpAny_Assign_Name (thn (he pins s σ H _ I h) fun v s1 ⟨y,H1,I1,r1,q1⟩=>?_) hs
 exact oP I1 hN hi hx r1 (fun s2 I2=>⟨_,H1,I2,q1⟩) hf
end
section
variable {X:Cx} {pos:Pos}
noncomputable def zS (c:TT) (tb:TS):TS:=fun D σ H=>∃ W:Nat->St->Hp->Prop,(∃ m,W m σ H)/\∀ m σ H,W m σ H →
 c σ H fun b H1=>if b=true then ∃ N:St->Hp->Prop,(∀ σ' H',N σ' H'->∃ m',m' < m/\W m' σ' H')/\tb { D with nx:=N,ct:=N,bk:=D.nx } σ H1 else D.nx σ H1
theorem uX {c:Expr} {body:List Stmt} {tc:TT} {tb:TS} (hp:PassesOwn (model X.prog X.w) X.A X.env X.xe) (hc:PT X c tc) (hb:PSs X body tb):PS X (.While c body [] pos) (zS tc tb):=by
 intro pins s σ H D I h
 obtain ⟨W,⟨m0,w0⟩,turn⟩:=h
 refine wpAny_While (codeAny_whileLoop (fun n s'=>∃ σ' H',Inv X pins σ' H' s'/\W n σ' H') ?_ m0 ⟨σ,H,I,w0⟩)
 rintro n s1 ⟨σ1,H1,I1,w1⟩
 refine YO hp (thn (hc pins s1 σ1 H1 _ I1 (turn n σ1 H1 w1)) fun b s2 ⟨H2,I2,q2⟩=>?_)
 cases b with
 | true =>
  obtain ⟨N,hN,q2⟩:=q2
  rw [Zr rfl]
  refine YO hp (thn (hb pins s2 σ1 H2 _ I2 q2) fun f s3 q3=>?_)
  cases f with
  | next =>
   obtain ⟨σ3,H3,I3,n3⟩:=q3
   obtain ⟨m',hm,w3⟩:=hN σ3 H3 n3
   exact ⟨m',hm,σ3,H3,I3,w3⟩
  | cont =>
   obtain ⟨σ3,H3,I3,n3⟩:=q3
   obtain ⟨m',hm,w3⟩:=hN σ3 H3 n3
   exact ⟨m',hm,σ3,H3,I3,w3⟩
  | brk=>exact q3
  | ret v=>exact q3
 | false =>
  rw [Zp Zh]
  exact XJ ⟨σ1,H2,I2,q2⟩
end
structure It where
 go:Nat->Hp->Prop
 yld:Nat->Hp->V->Hp->Prop
 stop:Nat->Hp->Prop
noncomputable def mB (X:Cx) (pins:Xm) (H:Hp) (b:Addr):Prop :=
 H b=none/\b ≠ X.env.locals/\b ∉ X.fs/\(b∈X.ex\/X.s₀.heap.objs.size<=b)/\(∀ x c,X.env.cells.lookup x=some c->c ≠ b)/\∀ p∈X.pn++pins,p.1 ≠ b
theorem Inv.fpOk {X:Cx} {pins:Xm} {σ:St} {H H':Hp} {s:Shared} {b:Addr} (I:Inv X pins σ H s) (hb:s.heap.objs.size<=b) (hn:H' b=none):mB X pins H' b:=by
 refine ⟨hn,Nat.ne_of_gt (ZX I.lt hb),I.nofs hb,.inr (ZG I.sz hb),fun x c e z=>?_,fun p hp z=>?_⟩
 ·obtain ⟨v,q⟩:=I.cell x c e
  exact absurd (ZX q.lt (by rw [z];exact hb)) (Yp _)
 ·exact absurd (ZX (ZU (I.pin p hp).1) (by rw [z];exact hb)) (Yp _)
structure Turn (P:Program) (w:World) (K:X4) (tg:Expr) (J:It) (fp:Wy) (it:Addr) (tn:Nat->Heap->Prop):Prop where
 mem:it∈fp
 obj:∀ i h,tn i h->∀ b∈fp,∃ o,h.get? b=some o/\∀ v,o.data ≠ .cell v
 keep:∀ i h h',tn i h->(∀ b∈fp,∀ o,h.get? b=some o->h'.get? b=some o)->tn i h'
 item:∀ (X:Cx),X.prog=P->X.w=w->X.K=K->X.calm=true->∀ (i:Nat) (pins:Xm) (s:Shared) (σ:St) (H:Hp) (E:Z2),Inv X pins σ H s->(∀ b∈fp,mB X pins H b)->tn i s.heap->J.go i H →
  wpAny (model P w) X.A (pyNext (.ref it)) (fun r s1=>∃ u,r=some u ∧
   wpAny (model P w) X.A (letOwnedTupleGo tg (.ref it) u) (fun _ s2=>∃ x H',Inv X pins σ H' s2/\RelV x u/\J.yld i H x H'/\tn (i+1) s2.heap/\∀ b∈fp,H' b=none) E s1) E s
 done:∀ (X:Cx),X.prog=P->X.w=w->X.K=K->X.calm=true->∀ (i:Nat) (pins:Xm) (s:Shared) (σ:St) (H:Hp) (E:Z2),Inv X pins σ H s->(∀ b∈fp,mB X pins H b)->tn i s.heap->J.stop i H →
  wpAny (model P w) X.A (pyNext (.ref it)) (fun r s1=>r=none/\Inv X pins σ H s1) E s
 self:∀ (A:Around) (i:Nat) (s:Shared) (Q:Z2) (E:Z2),tn i s.heap->Q (.ref it) s->wpAny (model P w) A (pyIter (.ref it)) Q E s
noncomputable abbrev TI:=St->Hp->(It->Hp->Prop)->Prop
noncomputable def PIE (X:Cx) (pins:Xm) (σ:St) (tg:Expr) (R:It->Hp->Prop) (itv:Value) (s2:Shared):Prop :=
 ∃ (it:Addr) (fp:Wy) (tn:Nat->Heap->Prop) (J:It) (H':Hp),itv=.ref it/\Inv X pins σ H' s2/\Turn X.prog X.w X.K tg J fp it tn/\tn 0 s2.heap/\(∀ b∈fp,mB X pins H' b)/\R J H'
noncomputable def PI (X:Cx) (tg iter:Expr) (wi:TI):Prop :=
 ∀ (pins:Xm) (s:Shared) (σ:St) (H:Hp) (R:It->Hp->Prop),Inv X pins σ H s->wi σ H R →
  wpAny (model X.prog X.w) X.A (eval iter X.env) (fun v s1=>wpAny (model X.prog X.w) X.A (pyIter v) (PIE X pins σ tg R) X.xe s1) X.xe s
theorem mJ {M:Model} {A:Around} {E:Z2} {s:Shared} {tg:Expr} {it:Addr} {u:Value} {o:Obj} {n:String} {vs:Array Value} {Q:Unit->Shared->Prop} (ho:s.heap.get? it=some o) (hc:o.cls=.type n) (hd:o.data=.fields vs)
  (hn:["enumerate", "zip", "dict_itemiterator", "dict_reverseitemiterator", "odict_iterator", "itertools.zip_longest", "itertools.pairwise"].contains n=false) (hQ:Q () s):wpAny M A (letOwnedTupleGo tg (.ref it) u) Q E s:=by
 unfold letOwnedTupleGo
 cases tg <;> first
  | exact Zc hQ
  | (cases u <;> first
    | exact Zc hQ
    | (refine Zq (wpAny_load ho ?_)
       rw [hc,hd]
       show wpAny M A (if (["enumerate", "zip", "dict_itemiterator", "dict_reverseitemiterator", "odict_iterator", "itertools.zip_longest", "itertools.pairwise"].contains n && vs[0]? == some (rawInt _))=true then _ else _) Q E s
       rw [Zp (by intro h;rw [hn,Bool.false_and] at h;cases h)]
       exact Zc hQ))
noncomputable def Itl (K:X4) (a:Addr):It :=
 ⟨fun i H=>∃ xs x,SqL K H a xs/\xs[i]?=some x,fun i H x H'=>H'=H/\∀ xs,SqL K H a xs->xs[i]?=some x,fun i H=>∃ xs,SqL K H a xs/\xs.length<=i⟩
noncomputable def Itt (K:X4) (a:Addr):It :=
 ⟨fun i H=>∃ xs x,SqT K H a xs/\xs[i]?=some x,fun i H x H'=>H'=H/\∀ xs,SqT K H a xs->xs[i]?=some x,fun i H=>∃ xs,SqT K H a xs/\xs.length<=i⟩
noncomputable def Itr (lo:Int) (n:Nat):It:=⟨fun i _=>i < n,fun i H x H'=>H'=H/\x=.int (lo+i),fun i _=>n<=i⟩
theorem sg {P:Program} {w:World} {K:X4} {tg:Expr} (a it:Addr):Turn P w K tg (Itl K a) [it] it (fun i h=>h.IsListIter it a i) where
 mem:=by simp
 obj:=fun i h st b hb=>by
  have e:b=it:=by simpa using hb
  subst e
  obtain ⟨o,e,c,d⟩:=st
  exact ⟨o,e,fun v z=>by rw [d] at z;cases z⟩
 keep:=fun i h h' st k=>st.at fun o e=>k it (by simp) o e
 item:=by
  intro X hP hw hK hc i pins s σ H E I hf st hg
  subst hP hw hK
  obtain ⟨xs,x,hq,hx⟩:=hg
  obtain ⟨its,rv,p,hz⟩:=I.list hq
  obtain ⟨u,hu,ru⟩:=rv.get hx
  obtain ⟨f0,f1,f2,f3,f4,f5⟩:=hf it (by simp)
  refine wpAny_pyNext_list_item st p.isList (x:=u) (by simpa using hu) fun h' st' sb=>?_
  have I1:Inv X pins σ H { s with heap:=h' }:=I.turned (t':=s.toks) (fun b o hb e=>(sb.2 b hb).trans e) f0 f1 f3 f4 f5
  obtain ⟨o,e,c,d⟩:=id st'
  exact ⟨u,rfl,mJ (s:={ s with heap:=h' }) e c d (by decide) ⟨x,H,I1,ru,⟨rfl,fun ys hy=>by rw [I.list_inj hy hq];exact hx⟩,st',fun b hb=>(hf b hb).1⟩⟩
 done:=by
  intro X hP hw hK hc i pins s σ H E I hf st hg
  subst hP hw hK
  obtain ⟨xs,hq,hx⟩:=hg
  obtain ⟨its,rv,p,hz⟩:=I.list hq
  obtain ⟨f0,f1,f2,f3,f4,f5⟩:=hf it (by simp)
  have hl:=rv.length
  exact wpAny_pyNext_list_end (I.ok.hd hc) st p.isList (by simp;lia) fun h' eb=>⟨rfl,I.turned (t':=s.toks) (fun b o hb e=>eb b o hb e) f0 f1 f3 f4 f5⟩
 self:=fun _ _ _ _ _ st h=>wpAny_pyIter_listiter st h
theorem pX {P:Program} {w:World} {K:X4} {tg:Expr} (a it:Addr):Turn P w K tg (Itt K a) [it] it (fun i h=>h.IsTupleIter it a i) where
 mem:=by simp
 obj:=fun i h st b hb=>by
  have e:b=it:=by simpa using hb
  subst e
  obtain ⟨o,e,c,d⟩:=st
  exact ⟨o,e,fun v z=>by rw [d] at z;cases z⟩
 keep:=fun i h h' st k=>st.at fun o e=>k it (by simp) o e
 item:=by
  intro X hP hw hK hc i pins s σ H E I hf st hg
  subst hP hw hK
  obtain ⟨xs,x,hq,hx⟩:=hg
  obtain ⟨its,rv,p,hz⟩:=I.tuple hq
  obtain ⟨u,hu,ru⟩:=rv.get hx
  obtain ⟨f0,f1,f2,f3,f4,f5⟩:=hf it (by simp)
  refine wpAny_pyNext_tuple_item st (show s.heap.IsTuple a its.toArray from p) (x:=u) (by simpa using hu) fun h' st' sb=>?_
  have I1:Inv X pins σ H { s with heap:=h' }:=I.turned (t':=s.toks) (fun b o hb e=>(sb.2 b hb).trans e) f0 f1 f3 f4 f5
  obtain ⟨o,e,c,d⟩:=id st'
  exact ⟨u,rfl,mJ (s:={ s with heap:=h' }) e c d (by decide) ⟨x,H,I1,ru,⟨rfl,fun ys hy=>by rw [I.tuple_inj hy hq];exact hx⟩,st',fun b hb=>(hf b hb).1⟩⟩
 done:=by
  intro X hP hw hK hc i pins s σ H E I hf st hg
  subst hP hw hK
  obtain ⟨xs,hq,hx⟩:=hg
  obtain ⟨its,rv,p,hz⟩:=I.tuple hq
  obtain ⟨f0,f1,f2,f3,f4,f5⟩:=hf it (by simp)
  have hl:=rv.length
  exact wpAny_pyNext_tuple_end (I.ok.hd hc) st (show s.heap.IsTuple a its.toArray from p) (by simp;lia) fun h' eb=>⟨rfl,I.turned (t':=s.toks) (fun b o hb e=>eb b o hb e) f0 f1 f3 f4 f5⟩
 self:=fun _ _ _ _ _ st h=>wpAny_pyIter_tupleiter st h
theorem qu {P:Program} {w:World} {K:X4} {tg:Expr} (it:Addr) (lo:Int) (n:Nat):Turn P w K tg (Itr lo n) [it] it (fun i h=>IsRangeIter h it (lo+(i:Nat) * 1) ((n:Int) - (i:Nat)) 1) where
 mem:=by simp
 obj:=fun i h st b hb=>by
  have e:b=it:=by simpa using hb
  subst e
  exact ⟨_,st,fun v z=>by
   have z':Data.fields _=Data.cell v:=z
   cases z'⟩
 keep:=fun i h h' st k=>k it (by simp) _ st
 item:=by
  intro X hP hw hK hc i pins s σ H E I hf st hg
  subst hP hw hK
  obtain ⟨f0,f1,f2,f3,f4,f5⟩:=hf it (by simp)
  have W:=Walks.range (prog:=X.prog) (w:=X.w) (I.ok.hd hc) it lo 1 n
  refine W.item i s _ _ hg st fun v h' tk hv st' kk=>?_
  obtain ⟨t,rfl⟩:=hv
  have I1:Inv X pins σ H { s with heap:=h',toks:=tk }:=I.turned (fun b o hb e=>kk b o (by simpa using hb) e) f0 f1 f3 f4 f5
  refine ⟨_,rfl,mJ (s:={ s with heap:=h',toks:=tk }) (n := "range_iterator") st' rfl rfl (by decide) ⟨.int (lo+i),H,I1,⟨t,?_⟩,⟨rfl,rfl⟩,st',fun b hb=>(hf b hb).1⟩⟩
  rw [Int.mul_one]
 done:=by
  intro X hP hw hK hc i pins s σ H E I hf st hg
  subst hP hw hK
  obtain ⟨f0,f1,f2,f3,f4,f5⟩:=hf it (by simp)
  exact wpAny_pyNext_range_end (I.ok.hd hc) st (by have:n<=i:=hg;lia) fun h' eb=>⟨rfl,I.turned (t':=s.toks) (fun b o hb e=>eb b o hb e) f0 f1 f3 f4 f5⟩
 self:=fun _ _ _ _ _ st h=>wpAny_pyIter_rangeiter st h
section
variable {X:Cx} {tg:Expr}
theorem ue {pins:Xm} {σ:St} {H:Hp} {s:Shared} {R:It->Hp->Prop} {E:Z2} {lo hi:Int} {t u v:Tok} {tk:Nat} (I:Inv X pins σ H s) (h1:-(2 ^ 62)<=lo) (h2:lo < 2 ^ 62) (h3:-(2 ^ 62)<=hi) (h4:hi < 2 ^ 62)
  (q:R (Itr lo (hi - lo).toNat) H):wpAny (model X.prog X.w) X.A (pyIter (.ref s.heap.objs.size)) (PIE X pins σ tg R) E { s with heap:=s.heap.push { cls:=.type "range",data:=.fields #[.int lo t,.int hi u,.int 1 v] },toks:=tk }:=by
 refine wpAny_pyIter_range (IsRange.new ..) (small_one h1 h2 h3 h4) ?_
 have I1:Inv X pins σ H { s with heap:=s.heap.push { cls:=.type "range",data:=.fields #[.int lo t,.int hi u,.int 1 v] },toks:=tk }:=I.kept fun b o e=>Zl _ e
 refine ⟨(s.heap.push { cls:=.type "range",data:=.fields #[.int lo t,.int hi u,.int 1 v] }).objs.size,[(s.heap.push { cls:=.type "range",data:=.fields #[.int lo t,.int hi u,.int 1 v] }).objs.size],_,_,H,rfl,
  I1.kept (t':=tk) fun b o e=>Zl _ e,qu _ lo (hi - lo).toNat,?_,fun b hb=>?_,q⟩
 ·have e1:lo+((0:Nat):Int) * 1=lo:=by simp
  have e2:(((hi - lo).toNat:Nat):Int) - ((0:Nat):Int)=Builtin.Range.rangeSize lo hi 1:=by rw [rangeSize_one];split <;> lia
  show IsRangeIter _ _ (lo+((0:Nat):Int) * 1) ((((hi - lo).toNat:Nat):Int) - ((0:Nat):Int)) 1
  rw [e1,e2]
  exact ZV _ rfl
 ·have e:b=(s.heap.push { cls:=.type "range",data:=.fields #[.int lo t,.int hi u,.int 1 v] }).objs.size:=by simpa using hb
  subst e
  exact I1.fpOk (Zk _) (I1.hok.fresh (Zk _))
noncomputable def D0 (ta:TA):TI:=fun σ H R=>ta σ H fun vs H1=>∃ j:Int,vs=[.int j]/\-(2 ^ 62)<=j/\j < 2 ^ 62/\R (Itr 0 j.toNat) H1
theorem tQ {a:Expr} {ta:TA} {p pos:Pos} (hg:Gl X "range") (hm:X.mg "range" = none) (ha:PA X [a] ta) (hs:starEach [a] X.env=[(false,eval a X.env)]:=by rfl):PI X tg (.Call (.Name "range" p) [a] [] pos) (D0 ta):=by
 intro pins s σ H R I h
 refine Call_ (lL I hg hm boot_range (Xr (thn (ha pos pins s σ H _ I h) fun us s1 ⟨vs,H1,I1,r1,q1⟩=>?_) hs rfl))
 obtain ⟨j,e,q1,q2,q⟩:=q1
 subst e
 cases r1 with
 | cons r rr =>
  cases rr
  obtain ⟨t,rfl⟩:=r
  exact call_range_1 (ue I1 (by lia) (by lia) q1 q2 (by simpa using q))
noncomputable def Ei (wi:TI) (g:TG) (tb:TS):TS:=fun D σ H=>wi σ H fun J H1=>∃ W:Nat->Nat->St->Hp->Prop,(∃ m,W 0 m σ H1)/\∀ i m σ H,W i m σ H →
 (J.stop i H/\D.nx σ H)\/(J.go i H/\∃ N:St->Hp->Prop,(∀ σ' H',N σ' H'->∃ m',m' < m/\W (i+1) m' σ' H')/\∀ x H',J.yld i H x H'->g x σ H' fun σ2 H2=>tb { D with nx:=N,ct:=N,bk:=D.nx } σ2 H2)
noncomputable def lK (fp:Wy) (h:Heap):Xm:=fp.filterMap fun b=>(h.get? b).map fun o=>(b,o)
theorem gH {fp:Wy} {h:Heap} {b:Addr} {o:Obj} (hb:b∈fp) (e:h.get? b=some o):(b,o)∈lK fp h:=List.mem_filterMap.mpr ⟨b,hb,by rw [e];rfl⟩
theorem sR {fp:Wy} {h:Heap} {p:Addr×Obj} (hp:p∈lK fp h):p.1∈fp/\h.get? p.1=some p.2:=by
 obtain ⟨b,hb,e⟩:=List.mem_filterMap.mp hp
 cases q:h.get? b with
 | none=>rw [q] at e;cases e
 | some o =>
  rw [q] at e
  have e':(b,o)=p:=Zn e
  subst e'
  exact ⟨hb,q⟩
theorem Inv.pinned {pins:Xm} {σ:St} {H:Hp} {s:Shared} {fp:Wy} (I:Inv X pins σ H s) (hf:∀ b∈fp,mB X pins H b) (ho:∀ b∈fp,∃ o,s.heap.get? b=some o/\∀ v,o.data ≠ .cell v):Inv X (pins++lK fp s.heap) σ H s :=
 I.pins_of fun p hp=>(Zg.mp hp).elim (fun z=>I.pin p (ZW _ z)) fun z=>by
  obtain ⟨hb,e⟩:=sR z
  obtain ⟨f0,f1,f2,_⟩:=hf p.1 hb
  obtain ⟨o,e',d⟩:=ho p.1 hb
  rw [e] at e';cases e'
  exact ⟨e,f0,f1,f2,d⟩
theorem Inv.unpinned {pins pl:Xm} {σ:St} {H:Hp} {s:Shared} (I:Inv X (pins++pl) σ H s):Inv X pins σ H s:=I.pins_of fun p hp=>I.pin p (ZW _ (Z9 _ hp))
theorem BO {iter:Expr} {body:List Stmt} {wi:TI} {g:TG} {tb:TS} {pos:Pos} (hp:PassesOwn (model X.prog X.w) X.A X.env X.xe) (hc:X.calm=true) (hi:PI X tg iter wi) (hg:PG X tg g) (hb:PSs X body tb)
  (hs:∀ x,foldedSetIterable iter X.env x=pure x:=by intro _;rfl):PS X (.For tg iter body [] pos) (Ei wi g tb):=by
 intro pins s σ H D I h
 refine wpAny_For (thn (hi pins s σ H _ I h) fun v s1 h1=>thn h1 fun itv s2 h2=>?_) hs
 obtain ⟨it,fp,tn,J,H2,e,I2,T,st2,f2,W,⟨m0,w0⟩,turn⟩:=h2
 subst e
 have stat:∀ {H':Hp},(∀ b∈fp,H' b=none)->∀ b∈fp,mB X pins H' b:=fun hn b hb=>⟨hn b hb,(f2 b hb).2⟩
 refine codeAny_forLoop_any (fun n s'=>∃ i σ' H',Inv X pins σ' H' s'/\tn i s'.heap/\(∀ b∈fp,H' b=none)/\W i n σ' H') ?_ m0 ⟨0,σ,H2,I2,st2,fun b hb=>(f2 b hb).1,w0⟩
 rintro n s3 ⟨i,σ3,H3,I3,st3,fr3,w3⟩
 rcases turn i n σ3 H3 w3 with ⟨stop,qn⟩ | ⟨go,N,hN,step⟩
 ·refine YO hp (thn (T.done X rfl rfl rfl hc i pins s3 σ3 H3 X.xe I3 (stat fr3) st3 stop) fun r s4 ⟨hr,I4⟩=>?_)
  subst hr
  exact XJ ⟨σ3,H3,I4,qn⟩
 ·refine YO hp (thn (T.item X rfl rfl rfl hc i pins s3 σ3 H3 X.xe I3 (stat fr3) st3 go) fun r s4 ⟨u,hr,h4⟩=>?_)
  subst hr
  refine YO hp (thn h4 fun _ s5 ⟨x,H5,I5,r5,y5,st5,fr5⟩=>?_)
  have I5':=I5.pinned (stat fr5) (T.obj _ _ st5)
  refine YO hp (thn (hg _ s5 σ3 H5 x u _ I5' r5 (step x H5 y5)) fun _ s6 ⟨σ6,H6,I6,q6⟩=>?_)
  refine YO hp (thn (hb _ s6 σ6 H6 _ I6 q6) fun f s7 q7=>?_)
  have again:∀ {σ7:St} {H7:Hp},Inv X (pins++lK fp s5.heap) σ7 H7 s7->N σ7 H7->∃ m,m < n/\∃ i σ' H',Inv X pins σ' H' s7/\tn i s7.heap/\(∀ b∈fp,H' b=none)/\W i m σ' H':=fun {σ7 H7} I7 n7=>by
   obtain ⟨m',hm,w7⟩:=hN σ7 H7 n7
   refine ⟨m',hm,i+1,σ7,H7,I7.unpinned,T.keep _ _ _ st5 fun b hb o e=>(I7.pin (b,o) (ZW _ (ZW _ (gH hb e)))).1,fun b hb=>?_,w7⟩
   obtain ⟨o,e,d⟩:=T.obj _ _ st5 b hb
   exact (I7.pin (b,o) (ZW _ (ZW _ (gH hb e)))).2.1
  cases f with
  | next=>obtain ⟨σ7,H7,I7,n7⟩:=q7;exact again I7 n7
  | cont=>obtain ⟨σ7,H7,I7,n7⟩:=q7;exact again I7 n7
  | brk=>obtain ⟨σ7,H7,I7,q7⟩:=q7;exact ⟨σ7,H7,I7.unpinned,q7⟩
  | ret v=>obtain ⟨x7,σ7,H7,I7,r7,q7⟩:=q7;exact ⟨x7,σ7,H7,I7.unpinned,r7,q7⟩
end
noncomputable abbrev R2:=V->V->Hp->VK->Prop
noncomputable def OpR (X:Cx) (f:Value->Value->Sem Value) (r:R2):Prop :=
 ∀ (pins:Xm) (s:Shared) (σ:St) (H:Hp) (x y:V) (v u:Value) (Q:VK),Inv X pins σ H s->RelV x v->RelV y u->r x y H Q →
  wpAny (model X.prog X.w) X.A (f v u) (EP X pins σ Q) X.xe s
noncomputable def UnR (X:Cx) (f:Value->Sem Value) (r:V->Hp->VK->Prop):Prop :=
 ∀ (pins:Xm) (s:Shared) (σ:St) (H:Hp) (x:V) (v:Value) (Q:VK),Inv X pins σ H s->RelV x v->r x H Q →
  wpAny (model X.prog X.w) X.A (f v) (EP X pins σ Q) X.xe s
noncomputable def dJ (X:Cx) (f:Value) (r:List V->Hp->VK->Prop):Prop :=
 ∀ (pins:Xm) (s:Shared) (σ:St) (H:Hp) (xs:List V) (us:Wx) (Q:VK),Inv X pins σ H s->aV xs us->r xs H Q →
  wpAny (model X.prog X.w) X.A (call f us) (EP X pins σ Q) X.xe s
noncomputable def EF (X:Cx) (r:V->Hp->(Bool->Hp->Prop)->Prop):Prop :=
 ∀ (pins:Xm) (s:Shared) (σ:St) (H:Hp) (x:V) (v:Value) (Q:Bool->Hp->Prop),Inv X pins σ H s->RelV x v->r x H Q →
  wpAny (model X.prog X.w) X.A (truthy v) (TP X pins σ Q) X.xe s
noncomputable def tOp (r:R2) (ta tb:TE):TE:=fun σ H Q=>ta σ H fun x H1=>tb σ H1 fun y H2=>r x y H2 Q
noncomputable def tUn (r:V->Hp->VK->Prop) (ta:TE):TE:=fun σ H Q=>ta σ H fun x H1=>r x H1 Q
noncomputable def rI (C:Int->Int->Prop) (g:Int->Int->V):R2:=fun x y H Q=>∃ i j,x=.int i/\y=.int j/\C i j/\Q (g i j) H
noncomputable def rI0 (g:Int->Int->V):R2:=fun x y H Q=>∃ i j,x=.int i/\y=.int j/\Q (g i j) H
noncomputable def rU (g:Int->V):V->Hp->VK->Prop:=fun x H Q=>∃ i,x=.int i/\Q (g i) H
section
variable {X:Cx} {a b c:Expr} {ta tb tc:TE} {pos:Pos}
theorem Ce (ha:PE X a ta) (hb:PE X b tb) {pins:Xm} {s:Shared} {σ:St} {H:Hp} {R:V->V->Hp->Prop} (I:Inv X pins σ H s)
  (h:ta σ H fun x H1=>tb σ H1 fun y H2=>R x y H2) {Q:Z2} {f:Value->Value->Sem Value}
  (hf:∀ v u s2 x y H2,Inv X pins σ H2 s2->RelV x v->RelV y u->R x y H2->wpAny (model X.prog X.w) X.A (f v u) Q X.xe s2) :
  wpAny (model X.prog X.w) X.A (eval a X.env) (fun v s₁=>wpAny (model X.prog X.w) X.A (eval b X.env) (fun u s₂=>wpAny (model X.prog X.w) X.A (f v u) Q X.xe s₂) X.xe s₁) X.xe s:=by
 refine thn (ha pins s σ H _ I h) fun v s1 ⟨x,H1,I1,r1,q1⟩=>?_
 refine thn (hb pins s1 σ H1 _ I1 q1) fun u s2 ⟨y,H2,I2,r2,q2⟩=>?_
 exact hf v u s2 x y H2 I2 r1 r2 q2
theorem Da {op:Operator} {r:R2} (ho:OpR X (binaryOp op) r) (ha:PE X a ta) (hb:PE X b tb):PE X (.BinOp a op b pos) (tOp r ta tb):=by
 intro pins s σ H Q I h
 exact wpAny_BinOp (Ce ha hb I h fun v u s2 x y H2 I2 rx ry q=>ho pins s2 σ H2 x y v u Q I2 rx ry q)
theorem CH {op:UnaryOp} {r:V->Hp->VK->Prop} (ho:UnR X (unaryOp op) r) (ha:PE X a ta):PE X (.UnaryOp op a pos) (tUn r ta):=by
 intro pins s σ H Q I h
 exact UnaryOp_ (thn (ha pins s σ H _ I h) fun v s1 ⟨x,H1,I1,r1,q1⟩=>ho pins s1 σ H1 x v Q I1 r1 q1)
theorem opI {f:Value->Value->Sem Value} {C:Int->Int->Prop} {g:Int->Int->Int}
  (rule:∀ (i j:Int) (t u:Tok) (s:Shared) (Q:Z2) (E:Z2),C i j->Q (.int (g i j) s.toks) { s with toks:=s.toks+1 }->wpAny (model X.prog X.w) X.A (f (.int i t) (.int j u)) Q E s) :
  OpR X f (rI C fun i j=>.int (g i j)):=by
 intro pins s σ H x y v u Q I rx ry h
 obtain ⟨i,j,rfl,rfl,hc,q⟩:=h
 obtain ⟨t,rfl⟩:=rx
 obtain ⟨t',rfl⟩:=ry
 exact rule i j t t' s _ _ hc ⟨.int (g i j),H,I.tok _,⟨_,rfl⟩,q⟩
theorem Cv {f:Value->Value->Sem Value} {g:Int->Int->Int}
  (rule:∀ (i j:Int) (t u:Tok) (s:Shared) (Q:Z2) (E:Z2),Q (.int (g i j) s.toks) { s with toks:=s.toks+1 }->wpAny (model X.prog X.w) X.A (f (.int i t) (.int j u)) Q E s) :
  OpR X f (rI0 fun i j=>.int (g i j)):=by
 intro pins s σ H x y v u Q I rx ry h
 obtain ⟨i,j,rfl,rfl,q⟩:=h
 obtain ⟨t,rfl⟩:=rx
 obtain ⟨t',rfl⟩:=ry
 exact rule i j t t' s _ _ ⟨.int (g i j),H,I.tok _,⟨_,rfl⟩,q⟩
theorem zg {f:Value->Value->Sem Value} {g:Int->Int->Bool}
  (rule:∀ (i j:Int) (t u:Tok) (s:Shared) (Q:Z2) (E:Z2),Q (.bool (g i j)) s->wpAny (model X.prog X.w) X.A (f (.int i t) (.int j u)) Q E s) :
  OpR X f (rI0 fun i j=>.bl (g i j)):=by
 intro pins s σ H x y v u Q I rx ry h
 obtain ⟨i,j,rfl,rfl,q⟩:=h
 obtain ⟨t,rfl⟩:=rx
 obtain ⟨t',rfl⟩:=ry
 exact rule i j t t' s _ _ ⟨.bl (g i j),H,I,rfl,q⟩
noncomputable def DX (i j:Int):Prop:=0 < j/\j < 1073741824
noncomputable def yQ (i j:Int):Prop:=(-(2 ^ 64) < i/\i < 2 ^ 64)\/(-(2 ^ 64) < j/\j < 2 ^ 64)
theorem yQ.ok {i j:Int} (h:yQ i j):IntMulOk i j:=by
 rcases h with ⟨h1,h2⟩ | ⟨h1,h2⟩
 ·exact .of_left (intBits_le_64 h1 h2)
 ·exact .of_right (intBits_le_64 h1 h2)
theorem Cm:OpR X (binaryOp .Add) (rI0 fun i j=>.int (i+j)):=Cv fun _ _ _ _ _ _ _ q=>add_int q
theorem An:OpR X (binaryOp .Sub) (rI0 fun i j=>.int (i - j)):=Cv fun _ _ _ _ _ _ _ q=>sub_int q
theorem BV:OpR X (binaryOp .Mult) (rI yQ fun i j=>.int (i * j)):=opI fun _ _ _ _ _ _ _ hc q=>mul_int q hc.ok
theorem yr:OpR X (binaryOp .FloorDiv) (rI DX fun i j=>.int (i / j)):=opI fun i j _ _ _ _ _ hc q=>by
 have h1:(0:Int) < j:=hc.1
 have h2:j < 1073741824:=hc.2
 exact floordiv_int (by lia) (by rw [Int.fdiv_eq_ediv_of_nonneg i (by lia)];exact q) (.inl (PyProof.noPylong_small (by omega)))
theorem AZ:OpR X (binaryOp .Mod) (rI (fun _ j=>0 < j) fun i j=>.int (i % j)):=opI fun i j _ _ _ _ _ hc q=>by
 have h1:(0:Int) < j:=hc
 exact mod_int' (by lia) (by rw [Int.fmod_eq_emod_of_nonneg i (by lia)];exact q)
theorem unI {f:Value->Sem Value} {g:Int->Int}
  (rule:∀ (i:Int) (t:Tok) (s:Shared) (Q:Z2) (E:Z2),Q (.int (g i) s.toks) { s with toks:=s.toks+1 }->wpAny (model X.prog X.w) X.A (f (.int i t)) Q E s) :
  UnR X f (rU fun i=>.int (g i)):=by
 intro pins s σ H x v Q I rx h
 obtain ⟨i,rfl,q⟩:=h
 obtain ⟨t,rfl⟩:=rx
 exact rule i t s _ _ ⟨.int (g i),H,I.tok _,⟨_,rfl⟩,q⟩
theorem BQ:UnR X (unaryOp .USub) (rU fun i=>.int (-i)):=unI fun _ _ _ _ _ q=>neg_int q
end
section
variable {X:Cx} {a b c:Expr} {ta tb tc:TE} {pos:Pos}
theorem AG {pins:Xm} {σ:St} {H:Hp} {s:Shared} {Q:VK} {k k':Bool} (I:Inv X pins σ H s) (q:Q (.bl k) H) (e:k=k'):EP X pins σ Q (.bool k') s:=by
 subst e
 exact ⟨.bl k,H,I,rfl,q⟩
theorem Dd:OpR X (compareOp .Lt) (rI0 fun i j=>.bl (decide (i < j))):=zg fun _ _ _ _ _ _ _ q=>lt_int q
theorem C3:OpR X (compareOp .LtE) (rI0 fun i j=>.bl (decide (i<=j))):=zg fun _ _ _ _ _ _ _ q=>le_int q
theorem Dg:OpR X (compareOp .Gt) (rI0 fun i j=>.bl (decide (j < i))):=zg fun _ _ _ _ _ _ _ q=>gt_int q
theorem CM:OpR X (compareOp .GtE) (rI0 fun i j=>.bl (decide (j<=i))):=zg fun _ _ _ _ _ _ _ q=>ge_int q
theorem sj:OpR X (compareOp .Lt) (fun x y H Q=>∃ i j,x=.str i/\y=.str j/\Q (.bl (decide (i.cps.toList < j.cps.toList))) H):=by
 intro pins s σ H x y v u Q I rx ry h
 obtain ⟨i,j,rfl,rfl,q⟩:=h
 obtain ⟨t,rfl⟩:=rx
 obtain ⟨t',rfl⟩:=ry
 exact lt_str (AG I q rfl)
theorem OpR.or {f:Value->Value->Sem Value} {r r':R2} (h:OpR X f r) (h':OpR X f r'):OpR X f (fun x y H Q=>r x y H Q\/r' x y H Q):=by
 intro pins s σ H x y v u Q I rx ry q
 rcases q with q | q
 ·exact h pins s σ H x y v u Q I rx ry q
 ·exact h' pins s σ H x y v u Q I rx ry q
theorem j9 (b:Expr) {op:CmpOp} (h:op ≠ .In:=by decide) (h2:op ≠ .NotIn:=by decide):behindInMarks op b=false:=by
 have e1:(op == CmpOp.In)=false:=by cases op <;> first | rfl | exact absurd rfl h
 have e2:(op == CmpOp.NotIn)=false:=by cases op <;> first | rfl | exact absurd rfl h2
 cases b <;> simp [behindInMarks,e1,e2]
theorem ym {op:CmpOp} {r:R2} (ho:OpR X (compareOp op) r) (ha:PE X a ta) (hb:PE X b tb) (hm:behindInMarks op b=false):PE X (.Compare a [op] [b] pos) (tOp r ta tb):=by
 intro pins s σ H Q I h
 exact wpAny_Compare1 (Ce ha hb I h fun v u s2 x y H2 I2 rx ry q=>ho pins s2 σ H2 x y v u Q I2 rx ry q) hm
noncomputable def uv (t:TE):TT:=fun σ H Q=>t σ H fun x H'=>∃ k,x=.bl k/\Q k H'
theorem y9 {op:CmpOp} {r:R2} (ho:OpR X (compareOp op) r) (ha:PE X a ta) (hb:PE X b tb) (hm:behindInMarks op b=false):PT X (.Compare a [op] [b] pos) (uv (tOp r ta tb)):=by
 intro pins s σ H Q I h
 refine wpAny_isTrue_Compare1 (thn (ha pins s σ H _ I h) fun v s1 ⟨x,H1,I1,r1,q1⟩=>thn (hb pins s1 σ H1 _ I1 q1) fun u s2 ⟨y,H2,I2,r2,q2⟩ =>
  thn (ho pins s2 σ H2 x y v u _ I2 r1 r2 q2) fun c s3 ⟨z,H3,I3,r3,k,e,q3⟩=>?_) hm
 subst e
 cases r3
 exact Yh ⟨H3,I3,q3⟩
noncomputable def wj (r r':R2) (ta tb tc:TE):TE:=fun σ H Q=>ta σ H fun x H1=>tb σ H1 fun y H2=>r x y H2 fun z H3=>∃ k,z=.bl k ∧
 (if k=true then tc σ H3 fun w' H4=>r' y w' H4 Q else Q (.bl false) H3)
theorem vt {op op':CmpOp} {r r':R2} (ho:OpR X (compareOp op) r) (ho':OpR X (compareOp op') r') (ha:PE X a ta) (hb:PE X b tb) (hc:PE X c tc)
  (hm:lastMarks [op,op'] [b,c]=false:=by with_unfolding_all rfl):PT X (.Compare a [op,op'] [b,c] pos) (uv (wj r r' ta tb tc)):=by
 intro pins s σ H Q I h
 refine isTrue_chain (thn (ha pins s σ H _ I h) fun v s1 ⟨x,H1,I1,r1,q1⟩=>test_link (thn (hb pins s1 σ H1 _ I1 q1) fun u s2 ⟨y,H2,I2,r2,q2⟩ =>
  thn (ho pins s2 σ H2 x y v u _ I2 r1 r2 q2) fun d s3 ⟨z,H3,I3,r3,k,e,q3⟩=>?_)) hm
 subst e
 cases r3
 refine Yh ?_
 cases k with
 | false =>
  obtain ⟨k',e',q'⟩:=q3
  cases e'
  exact ite_ff ⟨H3,I3,q'⟩
 | true =>
  refine ite_tt (test_last (thn (hc pins s3 σ H3 _ I3 q3) fun w' s4 ⟨z',H4,I4,r4,q4⟩=>thn (ho' pins s4 σ H4 y z' u w' _ I4 r2 r4 q4) fun d' s5 ⟨z2,H5,I5,r5,k2,e2,q5⟩=>?_))
  subst e2
  cases r5
  exact Yh ⟨H5,I5,q5⟩
noncomputable def Cf (K:X4) (x:V) (H:Hp) (k:Bool):Prop :=
 match x with
 | .non=>k=false
 | .bl b=>k=b
 | .int i=>k=(i != 0)
 | .str y=>y.length<=sizeLine/\k=((y.length:Int) != 0)
 | .byt y=>y.size<=sizeLine/\k=((y.size:Int) != 0)
 | .ref p=>(∃ xs,SqL K H p xs/\k=!xs.isEmpty)\/(∃ xs,SqT K H p xs/\k=!xs.isEmpty)\/∃ kvs,H p=some (.dK kvs)/\k=!kvs.isEmpty
 | _=>False
theorem qE {κ:Type} {kvs:List (κ×V)} {vs:List (κ×Value)} (r:KV kvs vs):(!vs.isEmpty)=!kvs.isEmpty:=by
 cases r <;> rfl
theorem mh {xs:List V} {its:Wx} (r:aV xs its):(!its.toArray.isEmpty)=!xs.isEmpty:=by
 cases r <;> simp
theorem jN:(sizeLine:Nat) < 2 ^ 63:=by rw [Y2];decide
theorem AD:EF X (fun x H Q=>∃ k,Cf X.K x H k/\Q k H):=by
 intro pins s σ H x v Q I rx h
 obtain ⟨k,e,q⟩:=h
 have hl:=jN
 have hs:sizeLine=16777216:=Y2
 cases x with
 | non =>
  cases rx
  have e':k=false:=e
  subst e'
  exact truthy_none ⟨H,I,q⟩
 | bl b =>
  cases rx
  have e':k=b:=e
  subst e'
  exact Yh ⟨H,I,q⟩
 | int i =>
  obtain ⟨t,rfl⟩:=rx
  have e':k=(i != 0):=e
  subst e'
  exact PySem.P.truthy_int ⟨H,I,q⟩
 | str y =>
  obtain ⟨t,rfl⟩:=rx
  obtain ⟨hy,e'⟩:y.length<=sizeLine/\k=((y.length:Int) != 0):=e
  subst e'
  exact PySem.P.truthy_str (by lia) ⟨H,I.tok _,q⟩
 | byt y =>
  obtain ⟨t,rfl⟩:=rx
  obtain ⟨hy,e'⟩:y.size<=sizeLine/\k=((y.size:Int) != 0):=e
  subst e'
  exact PySem.W.truthy_bytes (by lia) ⟨H,I.tok _,q⟩
 | ref p =>
  cases rx
  have e':(∃ xs,SqL X.K H p xs/\k=!xs.isEmpty)\/(∃ xs,SqT X.K H p xs/\k=!xs.isEmpty)\/∃ kvs,H p=some (.dK kvs)/\k=!kvs.isEmpty:=e
  rcases e' with ⟨xs,hx,e'⟩ | ⟨xs,hx,e'⟩ | ⟨kvs,hx,e'⟩
  ·subst e'
   obtain ⟨its,r,pl,hz⟩:=I.list hx
   have hlen:=r.length
   exact wpAny_truthy_list pl.isList (by simp only [ZZ];lia) ⟨H,I.tok _,by rw [mh r];exact q⟩
  ·subst e'
   obtain ⟨its,r,pl,hz⟩:=I.tuple hx
   have hlen:=r.length
   exact truthy_tuple pl (by simp only [ZZ];lia) ⟨H,I.tok _,by rw [mh r];exact q⟩
  ·subst e'
   obtain ⟨hz,hS,vs,r,m⟩:kvs.length<=sizeLine/\(p == sysModules)=false/\∃ vs,KV kvs vs/\s.heap.DictOf (bK X.prog X.w) p vs:=I.hok p _ hx
   have hlen:kvs.length=vs.length:=YE r
   exact wpAny_truthy_dict hS m (by lia) ⟨H,I.tok _,by rw [qE r];exact q⟩
 | _=>exact (show False from e).elim
theorem u9 (ha:PE X a ta) (he:∀ whole,isTrue a X.env whole=(do let v ← whole;standAt a.pos;holding [v] (truthy v))) :
  PT X a (fun σ H Q=>ta σ H fun x H'=>∃ k,Cf X.K x H' k/\Q k H'):=by
 intro pins s σ H Q I h
 exact isTrue_plain (thn (ha pins s σ H _ I h) fun v s1 ⟨x,H1,I1,r1,q1⟩=>AD pins s1 σ H1 x v Q I1 r1 q1) (he _)
theorem qi:OpR X (binaryOp .Add) (fun x y H Q=>∃ i j,x=.str i/\y=.str j/\i.length+j.length<=sizeLine/\Q (.str (i++j)) H):=by
 intro pins s σ H x y v u Q I rx ry h
 obtain ⟨i,j,rfl,rfl,hz,q⟩:=h
 obtain ⟨t,rfl⟩:=rx
 obtain ⟨t',rfl⟩:=ry
 exact add_str (fun t' tk=>⟨.str (i++j),H,I.tok _,⟨_,rfl⟩,q⟩) hz
theorem vals1 {x:V} {us:Wx} (r:aV [x] us):∃ u,us=[u]/\RelV x u:=by
 cases r with
 | cons r1 r2=>cases r2;exact ⟨_,rfl,r1⟩
theorem vals2 {x y:V} {us:Wx} (r:aV [x,y] us):∃ u w',us=[u,w']/\RelV x u/\RelV y w':=by
 cases r with
 | cons r1 r2 =>
  cases r2 with
  | cons r3 r4=>cases r4;exact ⟨_,_,rfl,r1,r3⟩
theorem sG (hc:X.calm=true):dJ X (.builtin "max") (fun xs H Q=>∃ i j,xs=[.int i,.int j]/\Q (.int (if j > i then j else i)) H):=by
 intro pins s σ H xs us Q I r h
 obtain ⟨i,j,rfl,q⟩:=h
 obtain ⟨u,w',rfl,⟨t,rfl⟩,⟨t',rfl⟩⟩:=vals2 r
 refine max_two_ints (I.ok.hd hc) fun h' tk k=>⟨_,H,I.kept k,?_,q⟩
 by_cases hj:j > i
 ·rw [Zr hj,Zr hj];exact ⟨_,rfl⟩
 ·rw [Zp hj,Zp hj];exact ⟨_,rfl⟩
theorem tJ (hc:X.calm=true):dJ X (.builtin "min") (fun xs H Q=>∃ i j,xs=[.int i,.int j]/\Q (.int (if j < i then j else i)) H):=by
 intro pins s σ H xs us Q I r h
 obtain ⟨i,j,rfl,q⟩:=h
 obtain ⟨u,w',rfl,⟨t,rfl⟩,⟨t',rfl⟩⟩:=vals2 r
 refine min_two_ints (I.ok.hd hc) fun h' tk k=>⟨_,H,I.kept k,?_,q⟩
 by_cases hj:j < i
 ·rw [Zr hj,Zr hj];exact ⟨_,rfl⟩
 ·rw [Zp hj,Zp hj];exact ⟨_,rfl⟩
noncomputable def DV (K:X4) (x:V) (H:Hp) (n:Nat):Prop :=
 match x with
 | .str y=>y.length<=sizeLine/\n=y.length
 | .byt y=>y.size<=sizeLine/\n=y.size
 | .ref p=>(∃ xs,SqL K H p xs/\n=xs.length)\/∃ xs,SqT K H p xs/\n=xs.length
 | _=>False
theorem vE:dJ X (.builtin "len") (fun xs H Q=>∃ x n,xs=[x]/\DV X.K x H n/\Q (.int n) H):=by
 intro pins s σ H xs us Q I r h
 obtain ⟨x,n,rfl,e,q⟩:=h
 obtain ⟨u,rfl,rx⟩:=vals1 r
 have hl:=jN
 have hs:sizeLine=16777216:=Y2
 cases x with
 | str y =>
  obtain ⟨t,rfl⟩:=rx
  obtain ⟨hy,e'⟩:y.length<=sizeLine/\n=y.length:=e
  subst e'
  exact len_str (by lia) ⟨.int _,H,I.tok _,⟨_,rfl⟩,q⟩
 | byt y =>
  obtain ⟨t,rfl⟩:=rx
  obtain ⟨hy,e'⟩:y.size<=sizeLine/\n=y.size:=e
  subst e'
  exact PySem.W.len_bytes (by lia) ⟨.int _,H,I.tok _,⟨_,rfl⟩,q⟩
 | ref p =>
  cases rx
  have e':(∃ xs,SqL X.K H p xs/\n=xs.length)\/∃ xs,SqT X.K H p xs/\n=xs.length:=e
  rcases e' with ⟨xs,hx,e'⟩ | ⟨xs,hx,e'⟩
  ·subst e'
   obtain ⟨its,r',pl,hz⟩:=I.list hx
   have hlen:=r'.length
   exact Calls.call_len_list pl.isList (by simp only [ZZ];lia) ⟨.int xs.length,H,I.tok _,⟨_,by simp only [ZZ];rw [hlen]⟩,q⟩
  ·subst e'
   obtain ⟨its,r',pl,hz⟩:=I.tuple hx
   have hlen:=r'.length
   exact len_tuple pl (by simp only [ZZ];lia) ⟨.int xs.length,H,I.tok _,⟨_,by simp only [ZZ];rw [hlen]⟩,q⟩
 | _=>exact (show False from e).elim
end
structure ObjM (h:Heap) (x dx C:Addr) (mA:Wz):Prop where
 obj:h.get? x=some (PySem.W.instObj C dx)
 ns:h.Ns1 dx mA
 ne:dx ≠ x
theorem tu {h:Heap} {dx:Addr} {mA:Wz} (n:h.Ns1 dx mA):∃ od,h.get? dx=some od/\∀ name,PySem.W.lookIn name od=some (mA name):=by
 obtain ⟨o,es,ep,ho,hd,hk,_,hm⟩:=n
 refine ⟨o,ho,fun name=>?_⟩
 have e:=hm name
 unfold nsFind findBy at e
 rw [← Array.find?_toList] at e
 unfold PySem.W.lookIn
 rw [hd]
 dsimp only
 split
 ·rename_i y q
  rw [q] at e
  exact congrArg some e
 ·rename_i q
  rw [q] at e
  have a:es.toList.any (·.refKey)=false:=by
   rw [List.any_eq_false]
   intro y hy
   obtain ⟨z,t,hkey⟩:=hk y (Array.mem_toList_iff.mp hy)
   simp [DictEntry.refKey,hkey]
  have a':¬ es.toList.any (·.refKey)=true:=by rw [a];exact Zh
  rw [Zp a']
  exact congrArg some e
theorem ObjM.look {h:Heap} {x dx C:Addr} {mA:Wz} (I:ObjM h x dx C mA):∃ od,PySem.W.InstAt h x (PySem.W.instObj C dx) C (some od)/\∀ name,PySem.W.lookIn name od=some (mA name) :=
 let ⟨od,ho,hl⟩:=tu I.ns
 ⟨od,⟨I.obj,rfl,rfl,ho⟩,hl⟩
section
variable {prog:Program} {w:World} {A:Around} {E:Z2} {s:Shared} {K:X4} {x dx C f:Addr} {mA:Wz} {name:Str} {v:Value}
theorem get_map {expr:Bool} {Q:Z2} (X:K.In s.heap) (I:ObjM s.heap x dx C mA) (hg:PySem.W.plainGet K C name=true) (hh:PySem.W.hasDictIn K C=true)
  (ha:PySem.W.findIn K (.ref C) name=some none) (hv:mA name=some v) (hv':PySem.W.handedIn v=true) (h:Q v { s with toks:=s.toks+1 }) :
  wpAny (model prog w) A (getAttr (.ref x) name expr) Q E s:=by
 obtain ⟨od,J,hl⟩:=I.look
 exact PySem.W.get_value X J (XQ hg).1 (PySem.W.findObj_own hh ha rfl (by rw [hl,hv])) hv' h
theorem vp {pl:Sem Bool} {Q:Value×Wx->Shared->Prop} (X:K.In s.heap) (I:ObjM s.heap x dx C mA) (hg:PySem.W.plainGet K C name=true)
  (hf:PySem.W.findIn K (.ref C) name=some (some (.ref f))) (ht:PySem.W.isFn K (.ref f)=true) (hv:mA name=none) (h:Q (.ref f,[.ref x]) s) :
  wpAny (model prog w) A (getMethod (.ref x) name pl) Q E s:=by
 obtain ⟨od,J,hl⟩:=I.look
 exact PySem.W.method_fn X J (XQ hg).1 (XQ hg).2 hf (beq_iff_eq.mp ht) (by show (PySem.W.lookIn name od).map (·.isSome)=some false;rw [hl,hv];rfl) h
theorem yd {ns:List Str} {Q:Unit->Shared->Prop} (X:K.In s.heap) (I:ObjM s.heap x dx C mA)
  (hs:PySem.W.findIn K (.ref C) "__setattr__" = some (some (.builtin "object.__setattr__"))) (hp:PySem.W.plainOver K C=true) (ht:PySem.W.takerIn K C name=some none) (hh:PySem.W.hasDictIn K C=true)
  (hw:PySem.Within mA ns) (hsz:ns.length<=sizeLine)
  (h:∀ h',ObjM h' x dx C (fun y=>if y=name then some v else mA y)->Heap.SameBut dx s.heap h'->Q () { s with heap:=h',toks:=s.toks+2 }) :
  wpAny (model prog w) A (setAttr (.ref x) name v) Q E s:=by
 obtain ⟨od,J,hl⟩:=I.look
 refine PySem.W.set_plain X J hs (PySem.W.osa_open (s:={ s with toks:=s.toks+1 }) (r:=none) X J hp ht fun b=>?_)
 obtain ⟨cd,hc,hd'⟩:=PySem.W.any_some hh
 have hx:s.heap.get? x=some ⟨.ref C,some dx,.plain,#[]⟩:=I.obj
 refine Zq (Zc (Zq (Zq (wpAny_loadPart hx (Zq (PySem.W.Looks.here (s:={ s with toks:=s.toks+1 }) (PySem.W.looks_clsIn X hc) ?_))))))
 rw [hd']
 refine Zc (a:=some dx) (Zq (Zc (Zq ?_)))
 refine wpAny_nsSet1 (s:={ s with toks:=s.toks+1 }) I.ns fun h' hn2 hs2=>?_
 obtain ⟨oD,esD,epD,hoD,hdD,hcD⟩:=hn2.count (PySem.Within.cons name v hw)
 refine Zq (wpAny_lookBehind hoD (by rw [hdD];exact pastItsLine_dict (ZG hcD (by rw [Za];exact Y4 hsz))) ?_)
 exact Zc (h _ ⟨(hs2.2 _ (Yd I.ne)).trans I.obj,hn2,I.ne⟩ hs2)
theorem um {R:Result->Shared->Prop} {vs:Wx} {kw:List (Str×Value)} (X:K.In s.heap) (hm:PySem.W.makesIn K C=true)
  (hi:PySem.W.findIn K (.ref C) "__init__" = some (some (.ref f))) (hf:PySem.W.typeIn K (.ref f)=some (.type "function"))
  (h:codeAny (model prog w) (A.under (.builtin "type.__call__" ⟨.ref C :: vs,kw⟩)) (.call (.ref f) ⟨.ref (s.heap.objs.size+1) :: vs,kw⟩) (PySem.W.InitBack (s.heap.objs.size+1) R)
   { s with heap:=(s.heap.push PySem.W.emptyDict).push (PySem.W.instObj C s.heap.objs.size) }) :
  codeAny (model prog w) A (.call (.ref C) ⟨vs,kw⟩) R s:=by
 obtain ⟨hh,g,d,t,os⟩:=s
 exact PySem.W.make_core (PySem.W.makes_of X hm) (PySem.W.looks_findIn X hi) (fun self=>PySem.W.bind_fn X self hf) (.inl rfl) h
end
noncomputable def gX (f:Str) (v:V):List (Str×V)->List (Str×V)
 | []=>[(f,v)]
 | (g,x) :: r=>if g=f then (g,v) :: r else (g,x) :: gX f v r
theorem kj (f g:Str) (v:V):∀ fs:List (Str×V),(gX f v fs).lookup g=if g=f then some v else fs.lookup g
 | []=>by
  show List.lookup g [(f,v)]=_
  by_cases h:g=f
  ·have hb:(g == f)=true:=beq_iff_eq.mpr h
   simp only [List.lookup,hb,Zr h]
  ·have hb:(g == f)=false:=ZR.mpr h
   simp only [List.lookup,hb,Zp h]
 | (k,x) :: r=>by
  have ih:=kj f g v r
  rw [show gX f v ((k,x) :: r)=(if k=f then (k,v) :: r else (k,x) :: gX f v r) from rfl]
  by_cases hk:k=f
  ·rw [Zr hk]
   by_cases h:g=k
   ·have hb:(g == k)=true:=beq_iff_eq.mpr h
    simp only [List.lookup,hb,Zr (h.trans hk)]
   ·have hb:(g == k)=false:=ZR.mpr h
    simp only [List.lookup,hb,Zp (fun e:g=f=>h (e.trans hk.symm))]
  ·rw [Zp hk]
   by_cases h:g=k
   ·have hb:(g == k)=true:=beq_iff_eq.mpr h
    simp only [List.lookup,hb,Zp (fun e:g=f=>hk (h.symm.trans e))]
   ·have hb:(g == k)=false:=ZR.mpr h
    simp only [List.lookup,hb]
    exact ih
theorem j7 (f:Str) (v:V):∀ fs:List (Str×V),f∈(gX f v fs).map (·.1)/\∀ g,g∈fs.map (·.1)->g∈(gX f v fs).map (·.1)
 | []=>⟨by simp [gX],fun g h=>by simp at h⟩
 | (k,x) :: r=>by
  obtain ⟨i1,i2⟩:=j7 f v r
  rw [show gX f v ((k,x) :: r)=(if k=f then (k,v) :: r else (k,x) :: gX f v r) from rfl]
  by_cases hk:k=f
  ·rw [Zr hk]
   subst hk
   exact ⟨by simp,fun g h=>by simpa using h⟩
  ·rw [Zp hk]
   refine ⟨?_,fun g h=>?_⟩
   ·rw [Zm]
    exact Zx _ i1
   ·rw [Zm] at h ⊢
    rcases Zi.mp h with e | e
    ·exact Zi.mpr (.inl e)
    ·exact Zx _ (i2 g e)
theorem kg (f:Str) (v:V):∀ fs:List (Str×V),(gX f v fs).length<=fs.length+1
 | []=>by simp [gX]
 | (k,x) :: r=>by
  have ih:=kg f v r
  rw [show gX f v ((k,x) :: r)=(if k=f then (k,v) :: r else (k,x) :: gX f v r) from rfl]
  by_cases hk:k=f
  ·rw [Zr hk,Za,Za];exact Y6 _ _
  ·rw [Zp hk,Za,Za];exact Y4 ih
theorem gY.some_of {v:V} {o:Ww} (r:gY (some v) o):∃ u,o=some u/\RelV v u:=by
 cases o with
 | none=>exact (show False from r).elim
 | some u=>exact ⟨u,rfl,r⟩
theorem gY.none_of {o:Ww} (r:gY none o):o=none:=by
 cases o with
 | none=>rfl
 | some u=>exact (show False from r).elim
theorem tN {v:V} {u:Value} (r:RelV v u):PySem.W.handedIn u=true:=by
 cases v with
 | non=>cases (show u=Value.none from r);rfl
 | bl b=>cases (show u=Value.bool b from r);rfl
 | int i=>obtain ⟨t,e⟩:=(show ∃ t,u=Value.int i t from r);cases e;rfl
 | str x=>obtain ⟨t,e⟩:=(show ∃ t,u=Value.str x t from r);cases e;rfl
 | byt b=>obtain ⟨t,e⟩:=(show ∃ t,u=Value.bytes b t from r);cases e;rfl
 | flt b=>obtain ⟨t,e⟩:=(show ∃ t,u=Value.float b t from r);cases e;rfl
 | ref a=>cases (show u=Value.ref a from r);rfl
 | ty n=>cases (show u=Value.type n from r);rfl
section
variable {P:Program} {w:World} {H H':Hp} {h h':Heap} {a C dx:Addr} {fs fs':List (Str×V)}
theorem kB (hok:HOk P w H h) (e:H a=some (.ins C dx fs)):∃ mA,ObjM h a dx C mA/\(∀ f,gY (fs.lookup f) (mA f))/\PySem.Within mA (fs.map (·.1))/\fs.length<=1000/\H dx=some (.own a):=by
 obtain ⟨d,z,ne,ob,mA,n,r,q⟩:=(show cy P w H h a (.ins C dx fs) from hok a _ e)
 exact ⟨mA,⟨ob,n,ne⟩,r,q,z,d⟩
end
structure Cls (K:X4) (C:Addr):Prop where
 pg:PySem.W.plainGet K C Str.empty=true
 hd:PySem.W.hasDictIn K C=true
 po:PySem.W.plainOver K C=true
 sa:PySem.W.findIn K (.ref C) "__setattr__" = some (some (.builtin "object.__setattr__"))
theorem Cls.get {K:X4} {C:Addr} (c:Cls K C) (f:Str):PySem.W.plainGet K C f=true:=c.pg
noncomputable def cq (K:X4) (C:Addr) (f:Str):Prop:=PySem.W.findIn K (.ref C) f=some none
theorem cq.taker {K:X4} {C:Addr} {f:Str} (n:cq K C f):PySem.W.takerIn K C f=some none:=by
 unfold PySem.W.takerIn
 rw [show PySem.W.findIn K (.ref C) f=some none from n]
 rfl
structure Meth (K:X4) (C:Addr) (m:Str) (f:Addr):Prop where
 at_:PySem.W.findIn K (.ref C) m=some (some (.ref f))
 fn:PySem.W.isFn K (.ref f)=true
 kp:PySem.W.keepIn K (.ref f)=true
section
variable {X:Cx} {pins:Xm} {σ:St} {H:Hp} {s:Shared} {a C dx:Addr} {fs:List (Str×V)} {f:Str} {v:V} {A:Around} {E:Z2}
theorem p8 {b:Bool} {Q:Z2} (I:Inv X pins σ H s) (e:H a=some (.ins C dx fs)) (c:Cls X.K C) (n:cq X.K C f) (l:fs.lookup f=some v)
  (h:∀ u s',Inv X pins σ H s'->RelV v u->Q u s'):wpAny (model X.prog X.w) A (getAttr (.ref a) f b) Q E s:=by
 obtain ⟨mA,O,r,_,_,_⟩:=kB I.hok e
 obtain ⟨u,hu,ru⟩:=gY.some_of (v:=v) (o:=mA f) (by rw [← l];exact r f)
 exact get_map I.kIn O (c.get f) c.hd n hu (tN ru) (h u _ (I.tok _) ru)
theorem kZ {m:Str} {g:Addr} {pl:Sem Bool} {Q:Value×Wx->Shared->Prop} (I:Inv X pins σ H s) (e:H a=some (.ins C dx fs)) (c:Cls X.K C) (k:Meth X.K C m g) (l:fs.lookup m=none)
  (h:Q (.ref g,[.ref a]) s):wpAny (model X.prog X.w) A (getMethod (.ref a) m pl) Q E s:=by
 obtain ⟨mA,O,r,_,_,_⟩:=kB I.hok e
 have hn:mA m=none:=gY.none_of (by rw [← l];exact r m)
 exact vp I.kIn O (c.get m) k.at_ k.fn hn h
theorem qy {y:V} {u:Value} {Q:Unit->Shared->Prop} (I:Inv X pins σ H s) (e:H a=some (.ins C dx fs)) (c:Cls X.K C) (n:cq X.K C f) (hl:fs.length < 1000) (ry:RelV y u)
  (h:∀ s',Inv X pins σ (upd H a (.ins C dx (gX f y fs))) s'->Q () s'):wpAny (model X.prog X.w) A (setAttr (.ref a) f u) Q E s:=by
 obtain ⟨mA,O,r,wi,_,ho⟩:=kB I.hok e
 have hz:(fs.map (·.1)).length<=sizeLine:=by rw [Zv,Y2];lia
 refine yd I.kIn O c.sa c.po n.taker c.hd wi hz fun h' O' sb=>h _ ?_
 have hd:∃ o,h'.get? dx=some o:=let ⟨o,_,_,e',_⟩:=O'.ns;⟨o,e'⟩
 refine I.write (x:=a) (e:=dx) (by rw [e];exact True.intro) (.inr ho) (fun b q hb z=>(sb.2 b hb).trans z) hd ?_
 refine ⟨by rw [aI O.ne];exact ho,?_,O.ne,O'.obj,_,O'.ns,fun g=>?_,fun g hg=>?_⟩
 ·have:=kg f y fs;lia
 ·show gY ((gX f y fs).lookup g) (if g=f then some u else mA g)
  rw [kj]
  by_cases q:g=f
  ·rw [Zr q,Zr q];exact ry
  ·rw [Zp q,Zp q];exact r g
 ·by_cases q:g=f
  ·rw [q];exact (j7 f y fs).1
  ·refine (j7 f y fs).2 g (wi g fun z=>hg ?_)
   show (if g=f then some u else mA g)=none
   rw [Zp q];exact z
theorem Inv.made (I:Inv X pins σ H s):Inv X pins σ (upd (upd H s.heap.objs.size (.own (s.heap.objs.size+1))) (s.heap.objs.size+1) (.ins C s.heap.objs.size []))
  { s with heap:=(s.heap.push PySem.W.emptyDict).push (PySem.W.instObj C s.heap.objs.size) }:=by
 have e1:(s.heap.push PySem.W.emptyDict).get? s.heap.objs.size=some PySem.W.emptyDict:=ZV s.heap rfl
 have e2:((s.heap.push PySem.W.emptyDict).push (PySem.W.instObj C s.heap.objs.size)).get? (s.heap.objs.size+1)=some (PySem.W.instObj C s.heap.objs.size):=by
  have:=ZV (s.heap.push PySem.W.emptyDict) (o:=PySem.W.instObj C s.heap.objs.size) rfl
  rwa [X2] at this
 have e3:(s.heap.push PySem.W.emptyDict).Ns s.heap.objs.size (fun _=>none):=⟨PySem.W.emptyDict,#[],_,e1,rfl,(fun e he=>absurd he (by simp)),fun _=>rfl⟩
 have I1:=I.laid (a:=s.heap.objs.size) (o:=.own (s.heap.objs.size+1)) (h':=s.heap.push PySem.W.emptyDict) (t':=s.toks) (fun b u q=>Zl _ q) (Zk _) ⟨_,e1⟩
 refine I1.laid (a:=s.heap.objs.size+1) (o:=.ins C s.heap.objs.size []) (t':=s.toks) (fun b u q=>Zl _ q) (Xc (X2 _ _)) ?_
 have ne:s.heap.objs.size ≠ s.heap.objs.size+1:=ZS (Yl _)
 refine ⟨by rw [aI ne,aF],Yn _,ne,e2,fun _=>none,(Heap.Ns1.of_empty e3).at fun o q=>Zl _ q,fun _=>True.intro,fun y hy=>absurd rfl hy⟩
theorem xJ {prog:Program} {w:World} {env:Env} {e:Expr} {f:Str} {pos:Pos} {s:Shared} {Q:Z2} (hb:attributeBase e f env (eval e env)=eval e env)
  (h:wpAny (model prog w) A (eval e env) (fun o s₁=>wpAny (model prog w) A (getAttr o f true) Q E s₁) E s):wpAny (model prog w) A (eval (.Attribute e f pos) env) Q E s :=
 Attribute_any_ h (by rw [arm_eval_Attribute,hb])
end
noncomputable def Er (K:X4) (ta:TE) (f:Str):TE:=fun σ H Q=>ta σ H fun x H1=>∃ a C dx fs v,x=.ref a/\H1 a=some (.ins C dx fs)/\Cls K C/\cq K C f/\fs.lookup f=some v/\Q v H1
noncomputable def Ea (K:X4) (ta tv:TE) (f:Str):TS:=fun D σ H=>tv σ H fun y H1=>ta σ H1 fun x H2=>∃ a C dx fs,x=.ref a/\H2 a=some (.ins C dx fs)/\Cls K C/\cq K C f/\fs.length < 1000 ∧
 D.nx σ (upd H2 a (.ins C dx (gX f y fs)))
section
variable {X:Cx} {o e value:Expr} {f:Str} {pos pos' tpos:Pos} {ta tv:TE}
theorem wa (he:PE X e ta) (hb:attributeBase e f X.env (eval e X.env)=eval e X.env):PE X (.Attribute e f pos) (Er X.K ta f):=by
 intro pins s σ H Q I h
 refine xJ hb (thn (he pins s σ H _ I h) fun u s1 ⟨x,H1,I1,rx,a,C,dx,fs,v,ex,ea,c,n,l,q⟩=>?_)
 subst ex
 obtain rfl:u=Value.ref a:=rx
 exact p8 I1 ea c n l fun u' s2 I2 ru=>⟨v,H1,I2,ru,q⟩
theorem Ak (ha:PE X o ta) (hv:PE X value tv) (hs:swapsWith value (some (.Attribute o f pos')) pos.line X.env=pure false):PS X (.Assign [.Attribute o f pos'] value pos) (Ea X.K ta tv f):=by
 intro pins s σ H D I h
 refine plainObj_wpAny_Assign_Attribute (thn (hv pins s σ H _ I h) fun u s1 ⟨y,H1,I1,ry,q⟩=>thn (ha pins s1 σ H1 _ I1 q) fun ov s2 ⟨x,H2,I2,rx,a,C,dx,fs,ex,ea,c,n,l,q2⟩=>?_) hs
 subst ex
 obtain rfl:ov=Value.ref a:=rx
 exact qy I2 ea c n l ry fun s3 I3=>⟨σ,_,I3,q2⟩
end
section
variable {X:Cx} {pins:Xm} {σ:St} {H:Hp} {s:Shared} {A:Around} {E:Z2} {Q:Z2} {c:Value} {b:Bool}
inductive TyOf (K:X4) (H:Hp):V->Value->Prop where
 | non:TyOf K H .non (.type "NoneType")
 | bl (x:Bool):TyOf K H (.bl x) (.type "bool")
 | int (i:Int):TyOf K H (.int i) (.type "int")
 | str (x:Str):TyOf K H (.str x) (.type "str")
 | flt (x:UInt64):TyOf K H (.flt x) (.type "float")
 | lst {a:Addr} {xs:List V} (e:H a=some (.lst xs)):TyOf K H (.ref a) (.type "list")
 | frz {a:Addr} {o:Obj} {xs:List V} (e:H a=some (.frz o (.lst xs))):TyOf K H (.ref a) (.type "list")
 | tup {a:Addr} {xs:List V} (e:H a=some (.tup xs)):TyOf K H (.ref a) (.type "tuple")
 | dK {a:Addr} {kvs:List (Key×V)} (e:H a=some (.dK kvs)):TyOf K H (.ref a) (.type "dict")
 | dT {a:Addr} {kvs:List (List Key×V)} (e:H a=some (.dT kvs)):TyOf K H (.ref a) (.type "dict")
 | ins {a C dx:Addr} {fs:List (Str×V)} (e:H a=some (.ins C dx fs)) (cl:Cls K C) (ha:PySem.W.findIn K (.ref C) "__class__" = some (some (.builtin "object.__class__")))
   (hn:PySem.W.specialIn K (.builtin "object.__class__") "__get__" = some (some (.builtin "getset_descriptor.__get__"))) (htk:PySem.W.takesIn K (.builtin "object.__class__")=some true)
   (hm:PySem.W.mroIn K C (.type "object")=some true):TyOf K H (.ref a) (.ref C)
theorem tW {x:V} {u t:Value} (I:Inv X pins σ H s) (rx:RelV x u) (ty:TyOf X.K H x t) (e:PySem.W.kitOne X.K t c=some b) (h:∀ tk,Q (.bool b) { s with toks:=tk }) :
  wpAny (model X.prog X.w) A (call (.builtin "isinstance") [u,c]) Q E s:=by
 cases ty with
 | non=>cases (show u=Value.none from rx);exact Ys PySem.W.kitx_none I.kIn True.intro e (fun z=>nomatch z) h
 | bl y=>cases (show u=Value.bool y from rx);exact Ys PySem.W.kitx_bool I.kIn True.intro e (fun z=>nomatch z) h
 | int i=>obtain ⟨t,q⟩:=(show ∃ t,u=Value.int i t from rx);cases q;exact Ys PySem.W.kitx_int I.kIn True.intro e (fun z=>nomatch z) h
 | str y=>obtain ⟨t,q⟩:=(show ∃ t,u=Value.str y t from rx);cases q;exact Ys PySem.W.kitx_str I.kIn True.intro e (fun z=>nomatch z) h
 | flt y=>obtain ⟨t,q⟩:=(show ∃ t,u=Value.float y t from rx);cases q;exact Ys PySem.W.kitx_float I.kIn True.intro e (fun z=>nomatch z) h
 | @lst a xs ea =>
  cases (show u=Value.ref a from rx)
  obtain ⟨_,_,n,_,h1⟩:=(show cy X.prog X.w H s.heap a (.lst xs) from I.hok a _ ea)
  exact Ys PySem.W.kitx_list I.kIn ⟨_,h1,rfl⟩ e (fun z=>nomatch z) h
 | @frz a ob xs ea =>
  cases (show u=Value.ref a from rx)
  obtain ⟨_,_,_,n,_,h1⟩:=(show cy X.prog X.w H s.heap a (.frz ob (.lst xs)) from I.hok a _ ea)
  exact Ys PySem.W.kitx_list I.kIn ⟨_,h1,rfl⟩ e (fun z=>nomatch z) h
 | @tup a xs ea =>
  cases (show u=Value.ref a from rx)
  obtain ⟨_,_,_,_,p⟩:=(show cy X.prog X.w H s.heap a (.tup xs) from I.hok a _ ea)
  obtain ⟨o,h1,h2,_⟩:=p
  exact Ys PySem.W.kitx_tuple I.kIn ⟨o,h1,h2⟩ e (fun z=>nomatch z) h
 | @dK a kvs ea =>
  cases (show u=Value.ref a from rx)
  obtain ⟨_,_,vs,_,p⟩:=(show cy X.prog X.w H s.heap a (.dK kvs) from I.hok a _ ea)
  obtain ⟨o,es,ep,h1,h2,_⟩:=p
  exact Ys PySem.W.kitx_dict I.kIn ⟨o,h1,h2.1⟩ e (fun z=>nomatch z) h
 | @dT a kvs ea =>
  cases (show u=Value.ref a from rx)
  obtain ⟨_,_,xs,_,o,es,ep,h1,h2,_⟩:=(show cy X.prog X.w H s.heap a (.dT kvs) from I.hok a _ ea)
  exact Ys PySem.W.kitx_dict I.kIn ⟨o,h1,h2.1⟩ e (fun z=>nomatch z) h
 | @ins a C dx fs ea cl ha hn htk hm =>
  cases (show u=Value.ref a from rx)
  obtain ⟨mA,O,_⟩:=kB I.hok ea
  obtain ⟨od,J,_⟩:=O.look
  exact Ys (PySem.W.kitx_own (cl.get _) cl.hd ha hn htk hm) I.kIn J e (fun z=>nomatch z) h
end
structure Room (k:Nat) (A:Around):Prop where
 hd:A.handled=none
 dp:A.depth+3 * k+5 < recursionLimit
 un:A.units+16 * k+200 < cLine
theorem Room.mono {j k:Nat} {A:Around} (r:Room k A) (h:j<=k):Room j A:=⟨r.hd,by have:=r.dp;lia,by have:=r.un;lia⟩
theorem Room.deeper {k:Nat} {A:Around} (r:Room (k+1) A) (env:Env):Room k (A.deeper env) :=
 ⟨r.hd,by have:=r.dp;show A.depth+1+3 * k+5 < _;lia,by have:=r.un;show A.units+3+16 * k+200 < _;lia⟩
theorem ql {A:Around} {C:Addr} {us:Wx} {kw:List (Str×Value)}:(A.under (.builtin "type.__call__" ⟨.ref C :: us,kw⟩)).depth=A.depth+1:=by
 first | rfl | simp [Around.under,Code.weight,Code.isCreation,Code.isGuard,Code.isCaller,Code.frames,Code.isFrame,guardIds]
theorem qx {A:Around} {C:Addr} {us:Wx} {kw:List (Str×Value)}:(A.under (.builtin "type.__call__" ⟨.ref C :: us,kw⟩)).units=A.units+1:=by
 first | rfl | simp [Around.under,Code.cUnits,Code.frames,Code.isFrame]
theorem Room.make {k:Nat} {A:Around} (r:Room (k+1) A) (C:Addr) (us:Wx) (kw:List (Str×Value)):Room k (A.under (.builtin "type.__call__" ⟨.ref C :: us,kw⟩)) :=
 ⟨r.hd,by have:=r.dp;rw [ql];lia,by have:=r.un;rw [qx];lia⟩
theorem Room.depth {k:Nat} {A:Around} (r:Room k A):A.depth < recursionLimit:=by have:=r.dp;lia
theorem Room.units {k:Nat} {A:Around} (r:Room k A):A.units+64 < cLine:=by have:=r.un;lia
noncomputable def tj:TA:=fun _ H Q=>Q [] H
noncomputable def Dp (ta:TE) (tr:TA):TA:=fun σ H Q=>ta σ H fun x H1=>tr σ H1 fun xs H2=>Q (x :: xs) H2
section
variable {X:Cx} {e:Expr} {es:List Expr} {te:TE} {t:TA} {pos:Pos}
theorem j5:PA X [] tj:=fun _ _ _ _ H Q I h=>Calls.spliced_nil ⟨[],H,I,.nil,h⟩
theorem dR (ha:PE X e te) (hr:PA X es t) (hs:starEach (e :: es) X.env=(false,eval e X.env) :: starEach es X.env:=by rfl):PA X (e :: es) (Dp te t):=by
 intro pos pins s σ H Q I h
 rw [hs]
 show wpAny _ _ (spliced ((false,eval e X.env) :: backTo pos (starEach es X.env))) _ _ s
 refine Calls.spliced_cons (thn (ha pins s σ H _ I h) fun u s1 ⟨x,H1,I1,r1,q1⟩=>?_)
 exact thn (hr pos pins s1 σ H1 _ I1 q1) fun us s2 ⟨xs,H2,I2,r2,q2⟩=>⟨x :: xs,H2,I2,.cons r1 r2,q2⟩
noncomputable def EH (t:TA):TE:=fun σ H Q=>t σ H fun xs H1=>xs.length<=sizeLine/\∀ p,H1 p=none->Q (.ref p) (upd H1 p (.tup xs))
noncomputable def El (t:TA):TE:=fun σ H Q=>t σ H fun xs H1=>xs.length<=sizeLine/\∀ p,H1 p=none->Q (.ref p) (upd H1 p (.lst xs))
theorem Ca {x1} (h:PA X es t):PE X (.Tuple es x1 pos) (EH t):=by
 intro pins s σ H Q I hq
 refine wpAny_Tuple_spliced (thn (h pos pins s σ H _ I hq) fun us s1 ⟨xs,H1,I1,r,z,q⟩=>⟨by rw [← r.length];exact z,?_⟩)
 have hf:H1 s1.heap.objs.size=none:=I1.hok.fresh (Zk _)
 refine ⟨.ref s1.heap.objs.size,upd H1 s1.heap.objs.size (.tup xs),I1.laid (t':=s1.toks) (fun b u e=>Zl _ e) (Zk _) ?_,rfl,q _ hf⟩
 exact ⟨z,us,r,NoD.of (ZV _ rfl) rfl,⟨_,ZV _ rfl,rfl,_,rfl⟩⟩
theorem Al (h:PA X es t):PE X (.List es pos) (El t):=by
 intro pins s σ H Q I hq
 refine wpAny_List_spliced (thn (h pos pins s σ H _ I hq) fun us s1 ⟨xs,H1,I1,r,z,q⟩=>⟨by rw [← r.length];exact z,?_⟩)
 have hf:H1 s1.heap.objs.size=none:=I1.hok.fresh (Zk _)
 refine ⟨.ref s1.heap.objs.size,upd H1 s1.heap.objs.size (.lst xs),I1.laid (t':=s1.toks) (fun b u e=>Zl _ e) (Zk _) ?_,rfl,q _ hf⟩
 exact ⟨z,us,0,r,ZV _ rfl⟩
end
noncomputable abbrev Sp:=List V->Hp->VK->XK->Prop
noncomputable abbrev CXT:=List Env->Hp->Shared->XK->Z2
structure Env0 (P:Program) (w:World) (K:X4) (mg:Wz) (base:Heap) (A:Around) (outer:List Env) (s:Shared) (H:Hp):Prop where
 frames:A.frames=some outer
 mod:Mod K mg base
 bs:∀ b o,base.get? b=some o->s.heap.get? b=some o/\H b=none
 bsz:base.objs.size<=s.heap.objs.size
 funs:s.heap.FunFrames base outer
 frf:∀ b∈frs outer,H b=none
 hok:HOk P w H s.heap
 bare:AllBare s.gens
noncomputable def CE (outer:List Env) (P:Program) (w:World) (H:Hp) (s:Shared) (Q:VK) (u:Value) (s':Shared):Prop :=
 ∃ v H',s'.os=s.os/\AllBare s'.gens/\Un (frs outer) [] H H' s.heap s'.heap/\HOk P w H' s'.heap/\RelV v u/\Q v H'
noncomputable def CR (CX:CXT) (outer:List Env) (P:Program) (w:World) (H:Hp) (s:Shared) (Q:VK) (E:XK) (r:Result) (s':Shared):Prop :=
 match r with
 | .ok (.ret u)=>CE outer P w H s Q u s'
 | .ok _=>False
 | .error e=>CX outer H s E e s'
structure FnOk (P:Program) (w:World) (K:X4) (mg:Wz) (base:Heap) (CX:CXT) (k:Nat) (f:Addr) (fd:FuncData) (ps:List Str) (sp:Sp):Prop where
 len:∀ vs H Q E,sp vs H Q E->vs.length=ps.length
 run:∀ (A:Around) (outer:List Env) (s:Shared) (H:Hp) (args:Args) (us:Wx) (vs:List V) (Q:VK) (E:XK),Room k A->Env0 P w K mg base A outer s H->BindsTo s fd args (ps.zip us)->aV vs us->sp vs H Q E →
  codeAny (model P w) A (.call (.ref f) args) (CR CX outer P w H s Q E) s
theorem FnOk.imp {P:Program} {w:World} {K:X4} {mg:Wz} {base:Heap} {CX:CXT} {k:Nat} {f:Addr} {fd:FuncData} {ps:List Str} {sp sp':Sp} (F:FnOk P w K mg base CX k f fd ps sp)
  (h:∀ vs H Q E,sp' vs H Q E->sp vs H Q E):FnOk P w K mg base CX k f fd ps sp' :=
 ⟨fun vs H Q E q=>F.len vs H Q E (h _ _ _ _ q),fun A outer s H args us vs Q E hr he hb hv hs=>F.run A outer s H args us vs Q E hr he hb hv (h _ _ _ _ hs)⟩
theorem Env0.make {P:Program} {w:World} {K:X4} {mg:Wz} {base:Heap} {A:Around} {outer:List Env} {s:Shared} {H:Hp} (e:Env0 P w K mg base A outer s H) (C:Addr) (us:Wx) (kw:List (Str×Value)) :
  Env0 P w K mg base (A.under (.builtin "type.__call__" ⟨.ref C :: us,kw⟩)) outer s H:=⟨by first | exact e.frames | (simpa [Around.under,Code.envs,Code.isFrame,pushEnvs] using e.frames),e.mod,e.bs,e.bsz,e.funs,e.frf,e.hok,e.bare⟩
section
variable {X:Cx} {pins:Xm} {σ:St} {H:Hp} {s s':Shared}
theorem Inv.env0 (I:Inv X pins σ H s):Env0 X.prog X.w X.K X.mg X.base X.A X.stack s H :=
 ⟨I.ok.frames,I.ok.mod,I.bs,ZG I.ok.bsz I.sz,I.stack,I.stkFree,I.hok,I.bare⟩
theorem Inv.after {Q:VK} {u:Value} (I:Inv X pins σ H s) (h:CE X.stack X.prog X.w H s Q u s'):EP X pins σ Q u s':=by
 obtain ⟨v,H',os,bare,un,hok,r,q⟩:=h
 obtain ⟨hh,g,d,t,os'⟩:=s'
 obtain rfl:os'=s.os:=os
 exact ⟨v,H',I.call (h':=hh) (g':=g) (d':=d) (t':=t) (ch:=[]) un hok bare (fun b z=>absurd z (by simp)),r,q⟩
end
noncomputable def zq (sp:Sp) (dvs:List V) (E:XK) (t:TA):TE:=fun σ H Q=>t σ H fun vs H1=>sp (vs++dvs) H1 Q E
noncomputable def qP (C:Addr) (m:Str) (sp:Sp) (dvs:List V) (E:XK) (ta:TE) (t:TA):TE:=fun σ H Q=>ta σ H fun x H1=>∃ a dx fs,x=.ref a/\H1 a=some (.ins C dx fs)/\fs.lookup m=none ∧
 t σ H1 fun vs H2=>sp (x :: (vs++dvs)) H2 Q E
noncomputable def vG (C:Addr) (sp:Sp) (dvs:List V) (E:XK) (t:TA):TE:=fun σ H Q=>t σ H fun vs H1=>∀ x dx,H1 x=none->H1 dx=none->dx ≠ x →
 sp (.ref x :: (vs++dvs)) (upd (upd H1 dx (.own x)) x (.ins C dx [])) (fun v H2=>v=.non/\Q (.ref x) H2) E
noncomputable def Binds (K:X4) (fd:FuncData) (ps:List Str) (ds:Wx):Prop :=
 ∀ (s:Shared) (us:Wx),K.In s.heap->(us++ds).length=ps.length->BindsTo s fd ⟨us,[]⟩ (ps.zip (us++ds))
theorem Binds.all {K:X4} {fd:FuncData} {ps:List Str} (h:∀ us:Wx,us.length=ps.length->bindArgs fd ⟨us,[]⟩=pure (ps.zip us)):Binds K fd ps []:=fun s us _ hl=>by
 rw [ZM] at hl ⊢
 exact .of_eq (h us hl)
noncomputable def g7 (CX:CXT) (X:Cx) (E:XK):Prop:=∀ (pins:Xm) (σ:St) (H:Hp) (s:Shared) (e:Value) (s':Shared),Inv X pins σ H s->CX X.stack H s E e s'->X.xe e s'
section
variable {X:Cx} {CX:CXT} {k:Nat} {f C:Addr} {fd:FuncData} {ps:List Str} {sp:Sp} {dvs:List V} {ds:Wx} {E:XK} {x m:Str} {p pos apos:Pos} {e o:Expr} {es:List Expr} {ta:TE} {t:TA}
theorem qK {pins:Xm} {σ:St} {H:Hp} {s:Shared} {Q:VK} {us:Wx} {vs:List V} (F:FnOk X.prog X.w X.K X.mg X.base CX k f fd ps sp) (hr:Room k X.A) (hb:Binds X.K fd ps ds) (hd:aV dvs ds) (hx:g7 CX X E)
  (I:Inv X pins σ H s) (r:aV vs us) (h:sp (vs++dvs) H Q E):wpAny (model X.prog X.w) X.A (call (.ref f) us) (EP X pins σ Q) X.xe s:=by
 have r2:aV (vs++dvs) (us++ds):=r.append hd
 have hl:(us++ds).length=ps.length:=by rw [← r2.length];exact F.len _ _ _ _ h
 refine wpAny_call (codeAny_mono (F.run X.A X.stack s H ⟨us,[]⟩ (us++ds) (vs++dvs) Q E hr I.env0 (hb s us I.kIn hl) r2 h) fun r s' hq=>?_)
 cases r with
 | error e=>exact hx pins σ H s e s' I hq
 | ok fl =>
  cases fl with
  | ret u=>exact I.after hq
  | next=>exact False.elim hq
  | brk=>exact False.elim hq
  | cont=>exact False.elim hq
theorem rL (F:FnOk X.prog X.w X.K X.mg X.base CX k f fd ps sp) (hr:Room k X.A) (hg:Gl X x) (hm:X.mg x=some (.ref f)) (hk:PySem.W.keepIn X.K (.ref f)=true) (hb:Binds X.K fd ps ds) (hd:aV dvs ds) (hx:g7 CX X E)
  (ha:PA X (e :: es) t) (hdb:(x == ("__debug__" : Str))=false:=by decide) (he:starEach (e :: es) X.env=(false,eval e X.env) :: starEach es X.env:=by rfl) (hpl:(backTo pos (starEach es X.env)).any (·.1)=false:=by rfl) :
  PE X (.Call (.Name x p) (e :: es) [] pos) (zq sp dvs E t):=by
 intro pins s σ H Q I h
 refine Y0 (kE I hg hm ?_ hdb)
 refine XH (h₀:=X.base) I.ok.mod.kin hk (thn (ha pos pins s σ H _ I h) fun us s1 ⟨vs,H1,I1,r,q⟩=>⟨I1.kIn,?_⟩) he hpl
 exact qK F hr hb hd hx I1 r q
theorem n6 {pl:Sem Bool} (he:PE X o ta) (c:Cls X.K C) (hm:Meth X.K C m f) (F:FnOk X.prog X.w X.K X.mg X.base CX k f fd ps sp) (hr:Room k X.A) (hb:Binds X.K fd ps ds) (hd:aV dvs ds) (hx:g7 CX X E) (ha:PA X (e :: es) t)
  (hst:starEach (e :: es) X.env=(false,eval e X.env) :: starEach es X.env:=by rfl) (hpl:(backTo pos (starEach es X.env)).any (·.1)=false:=by rfl)
  (ht:eval (.Call (.Attribute o m apos) (e :: es) [] pos) X.env=(do
   let ov ← eval o X.env
   standAt apos.atName
   let (f,first) ← holding [ov] (getMethod ov m pl)
   callWith pos f first (backTo pos (starEach (e :: es) X.env)) (backToKw pos (keywordEach [] X.env))):=by rfl) :
  PE X (.Call (.Attribute o m apos) (e :: es) [] pos) (qP C m sp dvs E ta t):=by
 intro pins s σ H Q I h
 refine PySem.W.methodCall_KW (pl:=pl) (thn (he pins s σ H _ I h) fun u s1 ⟨x,H1,I1,rx,a,dx,fs,ex,ea,l,q⟩=>?_) ht
 subst ex
 obtain rfl:u=Value.ref a:=rx
 refine kZ I1 ea c hm l ?_
 refine XH (first:=[.ref a]) (h₀:=X.base) I.ok.mod.kin hm.kp (thn (ha pos pins s1 σ H1 _ I1 q) fun us s2 ⟨vs,H2,I2,r,q2⟩=>⟨I2.kIn,?_⟩) hst hpl
 exact qK (us:=.ref a :: us) (vs:=.ref a :: vs) F hr hb hd hx I2 (.cons rfl r) q2
theorem oK {pl:Sem Bool} (he:PE X o ta) (c:Cls X.K C) (hm:Meth X.K C m f) (F:FnOk X.prog X.w X.K X.mg X.base CX k f fd ps sp) (hr:Room k X.A) (hb:Binds X.K fd ps ds) (hd:aV dvs ds) (hx:g7 CX X E)
  (ht:eval (.Call (.Attribute o m apos) [] [] pos) X.env=(do
   let ov ← eval o X.env
   standAt apos.atName
   let (f,first) ← holding [ov] (getMethod ov m pl)
   callWith pos f first (backTo pos (starEach [] X.env)) (backToKw pos (keywordEach [] X.env))):=by rfl) :
  PE X (.Call (.Attribute o m apos) [] [] pos) (qP C m sp dvs E ta tj):=by
 intro pins s σ H Q I h
 refine PySem.W.methodCall_KW (pl:=pl) (thn (he pins s σ H _ I h) fun u s1 ⟨x,H1,I1,rx,a,dx,fs,ex,ea,l,q⟩=>?_) ht
 subst ex
 obtain rfl:u=Value.ref a:=rx
 refine kZ I1 ea c hm l ?_
 exact PySem.W.callWith_K0 (first:=[.ref a]) I1.kIn hm.kp (qK (us:=[.ref a]) (vs:=[.ref a]) F hr hb hd hx I1 (.cons rfl .nil) q)
structure Mk (K:X4) (C f:Addr):Prop where
 makes:PySem.W.makesIn K C=true
 init:PySem.W.findIn K (.ref C) "__init__" = some (some (.ref f))
 fn:PySem.W.isFn K (.ref f)=true
 kp:PySem.W.keepIn K (.ref C)=true
theorem oE {pins:Xm} {σ:St} {H:Hp} {s:Shared} {Q:VK} {us:Wx} {vs:List V} (M:Mk X.K C f) (F:FnOk X.prog X.w X.K X.mg X.base CX k f fd ps sp) (hr:Room (k+1) X.A) (hb:Binds X.K fd ps ds) (hd:aV dvs ds)
  (hx:g7 CX X E) (I:Inv X pins σ H s) (r:aV vs us)
  (h:∀ x dx,H x=none->H dx=none->dx ≠ x->sp (.ref x :: (vs++dvs)) (upd (upd H dx (.own x)) x (.ins C dx [])) (fun v H2=>v=.non/\Q (.ref x) H2) E) :
  wpAny (model X.prog X.w) X.A (call (.ref C) us) (EP X pins σ Q) X.xe s:=by
 have hq:=h (s.heap.objs.size+1) s.heap.objs.size (I.hok.fresh (Nat.le_succ _)) (I.hok.fresh (Zk _)) (ZS (Yl _))
 have I2:=Inv.made (C:=C) I
 have r2:aV (V.ref (s.heap.objs.size+1) :: (vs++dvs)) (Value.ref (s.heap.objs.size+1) :: (us++ds)):=.cons rfl (r.append hd)
 have hl:(Value.ref (s.heap.objs.size+1) :: us++ds).length=ps.length:=by
  have e:=r2.length
  rw [F.len _ _ _ _ hq] at e
  exact e.symm
 refine wpAny_call (um (f:=f) I.kIn M.makes M.init (beq_iff_eq.mp M.fn) (codeAny_mono (F.run _ X.stack _ _ ⟨Value.ref (s.heap.objs.size+1) :: us,[]⟩ (Value.ref (s.heap.objs.size+1) :: (us++ds)) _ _ E (hr.make C us [])
  (I2.env0.make C us []) (hb _ (Value.ref (s.heap.objs.size+1) :: us) I2.kIn hl) r2 hq) fun r s' hq'=>?_))
 cases r with
 | error e=>exact hx pins σ _ _ e s' I2 hq'
 | ok fl =>
  cases fl with
  | ret u =>
   obtain ⟨v,H',I3,rv,ev,q3⟩:=I2.after hq'
   subst ev
   exact ⟨rv,⟨V.ref (s.heap.objs.size+1),H',I3,rfl,q3⟩⟩
  | next=>exact False.elim hq'
  | brk=>exact False.elim hq'
  | cont=>exact False.elim hq'
theorem yX (M:Mk X.K C f) (F:FnOk X.prog X.w X.K X.mg X.base CX k f fd ps sp) (hr:Room (k+1) X.A) (hg:Gl X x) (hm:X.mg x=some (.ref C)) (hb:Binds X.K fd ps ds) (hd:aV dvs ds) (hx:g7 CX X E)
  (ha:PA X (e :: es) t) (hdb:(x == ("__debug__" : Str))=false:=by decide) (he:starEach (e :: es) X.env=(false,eval e X.env) :: starEach es X.env:=by rfl) (hpl:(backTo pos (starEach es X.env)).any (·.1)=false:=by rfl) :
  PE X (.Call (.Name x p) (e :: es) [] pos) (vG C sp dvs E t):=by
 intro pins s σ H Q I h
 refine Y0 (kE I hg hm ?_ hdb)
 refine XH (h₀:=X.base) I.ok.mod.kin M.kp (thn (ha pos pins s σ H _ I h) fun us s1 ⟨vs,H1,I1,r,q⟩=>⟨I1.kIn,?_⟩) he hpl
 exact oE M F hr hb hd hx I1 r q
theorem px (M:Mk X.K C f) (F:FnOk X.prog X.w X.K X.mg X.base CX k f fd ps sp) (hr:Room (k+1) X.A) (hg:Gl X x) (hm:X.mg x=some (.ref C)) (hb:Binds X.K fd ps ds) (hd:aV dvs ds) (hx:g7 CX X E)
  (hdb:(x == ("__debug__" : Str))=false:=by decide):PE X (.Call (.Name x p) [] [] pos) (vG C sp dvs E tj):=by
 intro pins s σ H Q I h
 refine Y0 (kE I hg hm ?_ hdb)
 exact PySem.W.callWith_K0 I.kIn M.kp (oE (us:=[]) M F hr hb hd hx I .nil h)
end
structure FnScope (N P:List Str) (sc:Scope):Prop where
 kind:sc.kind=.function
 co:sc.isCoroutine=false
 gen:sc.isGenerator=false
 nd:N.Nodup
 pre:N.take P.length=P
 par:∀ x∈P,sc.names.lookup x=some .local\/sc.names.lookup x=some .cell
 nofree:∀ y∈sc.names,y.2 ≠ .free
theorem nc {kindOf:Str->Option NameKind} {x:Str}:∀ {binds:List (Str×Value)} {m:Wz},(∀ v,(x,v) ∉ binds)->bindL kindOf binds m x=m x
 | [],_,_=>rfl
 | (n,v) :: r,m,h=>by
  unfold bindL
  rw [nc fun w hw=>h w (Zx _ hw)]
  split
  ·have:x ≠ n:=by rintro rfl;exact h v Zt
   simp [this]
  ·rfl
theorem mL {kindOf:Str->Option NameKind} {x:Str}:∀ {binds:List (Str×Value)} {m:Wz},(∀ v,(x,v) ∉ binds)->bindC kindOf binds m x=m x
 | [],_,_=>rfl
 | (n,v) :: r,m,h=>by
  unfold bindC
  rw [mL fun w hw=>h w (Zx _ hw)]
  split
  ·rfl
  ·have:x ≠ n:=by rintro rfl;exact h v Zt
   simp [this]
theorem nz {kindOf:Str->Option NameKind} {x:Str} {v:Value}:∀ {P:List Str} {vs:Wx} {i:Nat} {m:Wz},P.Nodup->P[i]?=some x->vs[i]?=some v->kindOf x=some .local →
  bindL kindOf (P.zip vs) m x=some v
 | [],_,_,_,_,h,_,_=>by simp at h
 | _ :: _,[],_,_,_,_,h,_=>by simp at h
 | p :: P,w :: vs,0,m,nd,h1,h2,hk=>by
  simp at h1 h2;subst h1;subst h2
  show bindL kindOf ((p,w) :: P.zip vs) m p=_
  unfold bindL
  rw [nc fun v hv=>(Ze.mp nd).1 (List.of_mem_zip hv).1,Zr hk]
  simp
 | p :: P,w :: vs,i+1,m,nd,h1,h2,hk=>by
  show bindL kindOf ((p,w) :: P.zip vs) m x=_
  unfold bindL
  exact nz (i:=i) (Ze.mp nd).2 (by simpa using h1) (by simpa using h2) hk
theorem mN {kindOf:Str->Option NameKind} {x:Str} {v:Value}:∀ {P:List Str} {vs:Wx} {i:Nat} {m:Wz},P.Nodup->P[i]?=some x->vs[i]?=some v->kindOf x ≠ some .local →
  bindC kindOf (P.zip vs) m x=some v
 | [],_,_,_,_,h,_,_=>by simp at h
 | _ :: _,[],_,_,_,_,h,_=>by simp at h
 | p :: P,w :: vs,0,m,nd,h1,h2,hk=>by
  simp at h1 h2;subst h1;subst h2
  show bindC kindOf ((p,w) :: P.zip vs) m p=_
  unfold bindC
  rw [mL fun v hv=>(Ze.mp nd).1 (List.of_mem_zip hv).1,Zp hk]
  simp
 | p :: P,w :: vs,i+1,m,nd,h1,h2,hk=>by
  show bindC kindOf ((p,w) :: P.zip vs) m x=_
  unfold bindC
  exact mN (i:=i) (Ze.mp nd).2 (by simpa using h1) (by simpa using h2) hk
noncomputable def start (N:List Str) (vs:List V):St:=vs.map some++List.replicate (N.length - vs.length) none
noncomputable def fo (CX:CXT) (P:Program) (w:World) (K:X4) (mg:Wz) (base:Heap) (N:List Str) (qual:Str) (scope:Scope) (f:Addr) (cd:Value) (A:Around) (outer:List Env) (s:Shared) (H:Hp) (E:XK):Cx where
 prog:=P
 w:=w
 K:=K
 mg:=mg
 base:=base
 A:=A.deeper (envOfC qual scope s.heap.objs.size f cd)
 N:=N
 s₀:=s
 H₀:=H
 env:=envOfC qual scope s.heap.objs.size f cd
 outer:=outer
 stack:=envOfC qual scope s.heap.objs.size f cd :: outer
 ex:=[]
 calm:=true
 fn:=fun _=>true
 pn:=[]
 xe:=fun e s'=>wpAny (model P w) (A.deeper (envOfC qual scope s.heap.objs.size f cd)) (leaving (envOfC qual scope s.heap.objs.size f cd) e) (fun _ s''=>CX outer H s E e s'') (fun e' s''=>CX outer H s E e' s'') s'
theorem pT {sc:Scope} {n:Nat} {x:Str} (h:sc.names.lookup x=some .cell):∃ c,(cellsFrom n sc.names []).lookup x=some c:=by
 have q:=PySem.W.cellsFrom_some sc.names n [] (.inl h)
 exact Yb.mp q
theorem sH {CX:CXT} {P:Program} {w:World} {K:X4} {mg:Wz} {base:Heap} {N ps:List Str} {qual:Str} {scope:Scope} {f:Addr} {cd:Value} {A:Around} {outer:List Env} {s s1:Shared} {H:Hp} {E:XK} {us:Wx} {vs:List V}
  (S:FnScope N ps scope) (hd:A.handled=none) (e0:Env0 P w K mg base A outer s H) (hl:vs.length=ps.length) (r:aV vs us)
  (x:InCallC s s.heap.objs.size (bindL (envOfC qual scope s.heap.objs.size f cd).kindOf (ps.zip us) fun _=>none) (cellsFrom (s.heap.objs.size+1) scope.names []) (bindC (envOfC qual scope s.heap.objs.size f cd).kindOf (ps.zip us) fun _=>none) s1) :
  Inv (fo CX P w K mg base N qual scope f cd A outer s H E) [] (start N vs) H s1:=by
 have hpl:ps.length<=N.length:=by have:=congrArg List.length S.pre;rw [YW] at this;lia
 obtain ⟨h1,tk,rfl,hk⟩:=x.done
 have noA:∀ b:Addr,b ∉ (fo CX P w K mg base N qual scope f cd A outer s H E).ex:=fun b z=>absurd (show b∈([]:Wy) from z) (by simp)
 refine ⟨⟨e0.mod,S.kind,rfl,rfl,Zk _,fun y z c h1 h2=>?_,fun y hy=>?_,fun y c _ h=>?_,fun _=>hd,Around.frames_deeper e0.frames,.inr ⟨rfl,rfl⟩,fun b z=>absurd z (noA b),e0.bs,e0.bsz,fun b _ _=>noA b,fun b z=>absurd z (noA b),e0.funs,e0.frf⟩,
  rfl,e0.bare,Un.kept hk,⟨_,x.toInCall.ns,fun i y v h1 h2 h3=>?_⟩,fun y c h=>⟨_,x.cell y c h⟩,e0.hok.fresh (Zk _),fun y c h=>?_,fun p hp=>absurd (show p∈([]:Xm) from hp) (by simp),e0.hok.kept hk,?_⟩
 ·exact name_of_addr x.apart (YI h1) (YI h2)
 ·have hy:scope.names.lookup y=some .cell\/scope.names.lookup y=some .free:=hy
  rcases hy with hy | hy
  ·exact pT hy
  ·exact absurd rfl (S.nofree _ (YI hy))
 ·exact XA (x.above y c (YI h))
 ·have hi:i < vs.length:=by
   unfold start at h2
   by_cases hi:i < vs.length
   ·exact hi
   ·rw [Z0 (by simpa using hi)] at h2
    rw [Yi] at h2
    split at h2 <;> cases h2
  have ha:vs[i]?=some v:=by
   unfold start at h2
   rw [ZI (by simpa using hi),ZP] at h2
   cases e:vs[i]? with
   | none=>rw [e] at h2;cases h2
   | some a=>rw [e] at h2;cases h2;rfl
  obtain ⟨u,hu,rv⟩:=r.get ha
  have hp:ps[i]?=some y:=by
   rw [← S.pre,List.getElem?_take_of_lt (by lia)];exact h1
  have ndP:ps.Nodup:=by rw [← S.pre];exact S.nd.sublist (List.take_sublist _ _)
  refine ⟨u,rv,?_⟩
  rcases S.par y (Yc hp) with k | k
  ·exact .inl ⟨k,nz ndP hp hu k⟩
  ·obtain ⟨c,e⟩:=pT (n:=s.heap.objs.size+1) k
   refine .inr ⟨.inl k,c,e,?_⟩
   have q:=x.cell y c e
   rw [mN ndP hp hu (by show scope.names.lookup y ≠ _;rw [k];decide)] at q
   exact q
 ·exact e0.hok.fresh (XA (x.above y c (YI h)))
 ·unfold start
  show _=N.length
  rw [Zs,Zv,YQ]
  lia
theorem zv {CX:CXT} {P:Program} {w:World} {K:X4} {mg:Wz} {base:Heap} {k:Nat} {f:Addr} {name qual:Str} {params:Arguments} {body:List Stmt} {scope:Scope} {dV kV doc pm cdv ct oc:Value} {an od:Option Addr}
  {osl:Array (Ww)} {N ps:List Str} {sp:Sp} (lk:K.lookup f=some ⟨oc,od,.func (PySem.W.fnOf name qual params body scope dV kV doc pm an cdv ct),osl⟩) (hcd:PySem.W.codeIn K cdv qual=true) (S:FnScope N ps scope)
  (len:∀ vs H Q E,sp vs H Q E->vs.length=ps.length)
  (hbody:∀ (A:Around) (outer:List Env) (s:Shared) (H:Hp) (vs:List V) (Q:VK) (E:XK),Room k (A.deeper (envOfC qual scope s.heap.objs.size f cdv))->sp vs H Q E →
   ∃ t,PSs (fo CX P w K mg base N qual scope f cdv A outer s H E) body t/\t { nx:=fun _ H'=>Q .non H',rt:=Q } (start N vs) H) :
  FnOk P w K mg base CX (k+1) f (PySem.W.fnOf name qual params body scope dV kV doc pm an cdv ct) ps sp:=by
 refine ⟨len,fun A outer s H args us vs Q E hr e0 hb r hsp=>?_⟩
 have hl:=len _ _ _ _ hsp
 have KX:K.In s.heap:=e0.mod.kin.keeps fun b o e=>(e0.bs b o e).1
 have lim:s.heap.NoLimit:=e0.mod.nolimit.keeps fun b o e=>(e0.bs b o e).1
 have hkind:∀ y∈ps.zip us,scope.names.lookup y.1=some .local\/(scope.names.lookup y.1=some .cell/\((cellsFrom (s.heap.objs.size+1) scope.names []).lookup y.1).isSome=true):=fun ⟨n,v⟩ hy=>by
  rcases S.par n (List.of_mem_zip hy).1 with q | q
  ·exact .inl q
  ·exact .inr ⟨q,PySem.W.cellsFrom_some _ _ _ (.inl q)⟩
 refine codeAny_call_function hr.depth (KX _ _ lk) rfl S.co S.gen rfl (PySem.W.codeRec_of KX hcd) (hb _ _ _ _ ?_)
 refine wpAny_newFunctionEnv_cells S.kind hkind fun env he s1 x=>?_
 subst he
 refine ⟨lim.keeps x.toInCall.keep,codeAny_func ?_⟩
 obtain ⟨t,ht,hq⟩:=hbody A outer s H vs Q E (hr.deeper _) hsp
 have I:Inv (fo CX P w K mg base N qual scope f cdv A outer s H E) [] (start N vs) H s1:=sH S hr.hd e0 hl r x
 refine YV (ht [] s1 (start N vs) H _ I hq) (fun fl s' hs=>?_) fun e s' hs=>hs
 have fin:∀ {σ':St} {H':Hp} {v:V} {u:Value},Inv (fo CX P w K mg base N qual scope f cdv A outer s H E) [] σ' H' s'->RelV v u->Q v H'->CE outer P w H s Q u s' :=
  fun {σ' H' v u} J rv q=>⟨v,H',J.os,J.bare,J.base,J.hok,rv,q⟩
 cases fl with
 | ret u =>
  obtain ⟨v,σ',H',J,rv,q⟩:=hs
  exact fin J rv q
 | next =>
  obtain ⟨σ',H',J,q⟩:=hs
  exact fin (v:=V.non) (u:=Value.none) J rfl q
 | brk =>
  obtain ⟨_,_,_,q⟩:=hs
  exact False.elim q
 | cont =>
  obtain ⟨_,_,_,q⟩:=hs
  exact False.elim q
section
variable {X:Cx} {x:Str} {p pos:Pos} {e:Expr} {es:List Expr} {t:TA} {id T:String} {r:List V->Hp->VK->Prop}
noncomputable def tCB (r:List V->Hp->VK->Prop) (t:TA):TE:=fun σ H Q=>t σ H fun vs H1=>r vs H1 Q
theorem o6 (hc:dJ X (.builtin id) r) (hg:Gl X x) (hm:X.mg x=none) (hv:bootBuiltins x=some (.builtin id)) (ha:PA X (e :: es) t) (hn:x ≠ "__name__" := by decide) (hdb:(x == ("__debug__" : Str))=false:=by decide)
  (he:starEach (e :: es) X.env=(false,eval e X.env) :: starEach es X.env:=by rfl) (hpl:(backTo pos (starEach es X.env)).any (·.1)=false:=by rfl):PE X (.Call (.Name x p) (e :: es) [] pos) (tCB r t):=by
 intro pins s σ H Q I h
 refine Y0 (lL I hg hm hv ?_ hn hdb)
 exact PyProof.Rows.callWith_builtin1 (thn (ha pos pins s σ H _ I h) fun us s1 ⟨vs,H1,I1,r1,q1⟩=>hc pins s1 σ H1 vs us Q I1 r1 q1) he hpl
theorem sI (hc:dJ X (.type T) r) (hg:Gl X x) (hm:X.mg x=none) (hv:bootBuiltins x=some (.type T)) (ha:PA X (e :: es) t) (hn:x ≠ "__name__" := by decide) (hdb:(x == ("__debug__" : Str))=false:=by decide)
  (he:starEach (e :: es) X.env=(false,eval e X.env) :: starEach es X.env:=by rfl) (hpl:(backTo pos (starEach es X.env)).any (·.1)=false:=by rfl):PE X (.Call (.Name x p) (e :: es) [] pos) (tCB r t):=by
 intro pins s σ H Q I h
 refine Y0 (lL I hg hm hv ?_ hn hdb)
 exact Xr (thn (ha pos pins s σ H _ I h) fun us s1 ⟨vs,H1,I1,r1,q1⟩=>hc pins s1 σ H1 vs us Q I1 r1 q1) he hpl
end
end L2
namespace HT
open PySem PyProof.Rows
section
variable {prog:Program} {w:World} {A:Around} {E:Z2} {s:Shared}
noncomputable def sIx (n d:Nat):Option Int->Nat
 | none=>d
 | some v=>if v < 0 then (v+(n:Int)).toNat else min v.toNat n
end
end HT
namespace L2
open PySem PySem.Spec PyProof.Rows
noncomputable abbrev TO:=St->Hp->(Option Int->Hp->Prop)->Prop
noncomputable def PO (X:Cx) (e:Option Expr) (t:TO):Prop :=
 ∀ (pins:Xm) (s:Shared) (σ:St) (H:Hp) (Q:Option Int->Hp->Prop),Inv X pins σ H s->t σ H Q →
  wpAny (model X.prog X.w) X.A (evalPart e X.env) (fun u s'=>∃ o H',Inv X pins σ H' s'/\IsPart u o/\Q o H') X.xe s
noncomputable def yC:TO:=fun _ H Q=>Q none H
noncomputable def CL (t:TE):TO:=fun σ H Q=>t σ H fun x H1=>∃ i,x=.int i/\Q (some i) H1
section
variable {X:Cx} {e:Expr} {te:TE} {lo hi:Option Expr} {tl th:TO} {pos p2:Pos}
theorem yw:PO X none yC:=by
 intro pins s σ H Q I h
 rw [evalPart_none]
 exact Zc ⟨none,H,I,.none,h⟩
theorem wX (h:PE X e te):PO X (some e) (CL te):=by
 intro pins s σ H Q I hw
 rw [evalPart_some]
 refine thn (h pins s σ H _ I hw) fun u s1 ⟨x,H1,I1,r1,q1⟩=>?_
 obtain ⟨i,rfl,q⟩:=q1
 obtain ⟨t,rfl⟩:=r1
 exact ⟨some i,H1,I1,.int i t,q⟩
noncomputable def SlR (X:Cx) (r:V->Option Int->Option Int->Hp->VK->Prop):Prop :=
 ∀ (pins:Xm) (s:Shared) (σ:St) (H:Hp) (x:V) (v vl vu:Value) (lo hi:Option Int) (sl:Addr) (Q:VK),Inv X pins σ H s->RelV x v->s.heap.IsSliceOf sl vl vu .none->IsPart vl lo->IsPart vu hi->r x lo hi H Q →
  ∃ T id,typeLookup (.type T) "__getitem__" = pure (some (.builtin id))/\s.TypeIs v T/\wpAny (model X.prog X.w) X.A (getItem v (.ref sl)) (EP X pins σ Q) X.xe s
theorem SlR.or {r r':V->Option Int->Option Int->Hp->VK->Prop} (h:SlR X r) (h':SlR X r'):SlR X (fun x lo hi H Q=>r x lo hi H Q\/r' x lo hi H Q):=by
 intro pins s σ H x v vl vu lo hi sl Q I rx hs pl pu q
 rcases q with q | q
 ·exact h pins s σ H x v vl vu lo hi sl Q I rx hs pl pu q
 ·exact h' pins s σ H x v vl vu lo hi sl Q I rx hs pl pu q
noncomputable def tSl (r:V->Option Int->Option Int->Hp->VK->Prop) (te:TE) (tl th:TO):TE:=fun σ H Q=>te σ H fun x H1=>tl σ H1 fun l H2=>th σ H2 fun u H3=>r x l u H3 Q
theorem uh {r:V->Option Int->Option Int->Hp->VK->Prop} (hr:SlR X r) (he:PE X e te) (hl:PO X lo tl) (hu:PO X hi th):PE X (.Subscript e (.Slice lo hi none p2) pos) (tSl r te tl th):=by
 intro pins s σ H Q I h
 refine Subscript_ (thn (he pins s σ H _ I h) fun v s1 ⟨x,H1,I1,r1,q1⟩=>?_)
 refine wpAny_Slice (thn (hl pins s1 σ H1 _ I1 q1) fun vl s2 ⟨l,H2,I2,pl,q2⟩=>thn (hu pins s2 σ H2 _ I2 q2) fun vu s3 ⟨u,H3,I3,pu,q3⟩=>?_)
 rw [evalPart_none]
 refine Zc ?_
 have I4:Inv X pins σ H3 { s3 with heap:=s3.heap.push { cls:=.type "slice",data:=.fields #[vl,vu,.none] } }:=I3.kept (t':=s3.toks) fun b ob q=>Zl _ q
 obtain ⟨T,id,hT,ht,hg⟩:=hr pins { s3 with heap:=s3.heap.push { cls:=.type "slice",data:=.fields #[vl,vu,.none] } } σ H3 x v vl vu l u s3.heap.objs.size Q I4 r1 (Heap.IsSliceOf.new ..) pl pu q3
 show wpAny (model X.prog X.w) X.A (subscriptTail e (.Slice lo hi none p2) v (.ref s3.heap.objs.size)) (EP X pins σ Q) X.xe { s3 with heap:=s3.heap.push { cls:=.type "slice",data:=.fields #[vl,vu,.none] } }
 exact tail_any (ops:=[.ref s3.heap.objs.size,v]) ht hT hg (by with_unfolding_all rfl)
noncomputable def sQ (xs:List V) (lo hi:Option Int):List V:=(xs.drop (HT.sIx xs.length 0 lo)).take (HT.sIx xs.length xs.length hi - HT.sIx xs.length 0 lo)
theorem pM (xs:List V) (lo hi:Option Int):(sQ xs lo hi).length<=xs.length:=by
 unfold sQ
 rw [YW,YK]
 lia
end
noncomputable def ixN (n:Nat) (i:Int):Option Nat:=if 0<=i then (if i < n then some i.toNat else none) else if -(n:Int)<=i then some (i+n).toNat else none
noncomputable def atI {α:Type} (xs:List α) (i:Int):Option α:=(ixN xs.length i).bind fun j=>xs[j]?
theorem q8 {n:Nat} {i:Int} {j:Nat} (h:ixN n i=some j):seqIndex? i n=some j/\j < n/\-(n:Int)<=i/\i < n:=by
 unfold ixN at h
 by_cases h0:0<=i
 ·rw [Zr h0] at h
  by_cases h1:i < n
  ·rw [Zr h1] at h
   have e:i.toNat=j:=Zn h
   exact ⟨by rw [seqIndex_of h0 h1,e],by lia,by lia,h1⟩
  ·rw [Zp h1] at h;cases h
 ·rw [Zp h0] at h
  by_cases h1:-(n:Int)<=i
  ·rw [Zr h1] at h
   have e:(i+n).toNat=j:=Zn h
   exact ⟨by rw [seqIndex_neg (by lia) h1,e],by lia,h1,by lia⟩
  ·rw [Zp h1] at h;cases h
theorem n4 {α:Type} {xs:List α} {i:Int} {v:α} (h:atI xs i=some v):∃ j,seqIndex? i xs.length=some j/\xs[j]?=some v/\j < xs.length/\-(xs.length:Int)<=i/\i < xs.length:=by
 unfold atI at h
 cases e:ixN xs.length i with
 | none=>rw [e] at h;cases h
 | some j =>
  rw [e] at h
  obtain ⟨h1,h2,h3,h4⟩:=q8 e
  exact ⟨j,h1,h,h2,h3,h4⟩
noncomputable def eP (b:Expr):Prop:=∀ o i,subscripted b false o i=operate [o,i] (getItem o i)
noncomputable def IxR (X:Cx) (r:R2):Prop :=
 ∀ (value slice:Expr) (pins:Xm) (s:Shared) (σ:St) (H:Hp) (x y:V) (v u:Value) (Q:VK),Inv X pins σ H s->RelV x v->RelV y u->r x y H Q →
  subscripted slice false v u=operate [v,u] (getItem v u)->wpAny (model X.prog X.w) X.A (subscriptTail value slice v u) (EP X pins σ Q) X.xe s
noncomputable def MtR (X:Cx) (id:String) (r:V->List V->Hp->VK->Prop):Prop :=
 ∀ (pins:Xm) (s:Shared) (σ:St) (H:Hp) (x:V) (xs:List V) (v:Value) (us:Wx) (Q:VK),Inv X pins σ H s->RelV x v->aV xs us->r x xs H Q →
  wpAny (model X.prog X.w) X.A (call (.builtin id) (v :: us)) (EP X pins σ Q) X.xe s
section
variable {X:Cx} {a b:Expr} {ta tb:TE} {pos:Pos}
theorem IxR.or {r r':R2} (h:IxR X r) (h':IxR X r'):IxR X (fun x y H Q=>r x y H Q\/r' x y H Q):=by
 intro value slice pins s σ H x y v u Q I rx ry q hs
 rcases q with q | q
 ·exact h value slice pins s σ H x y v u Q I rx ry q hs
 ·exact h' value slice pins s σ H x y v u Q I rx ry q hs
theorem rO {r:R2} (hr:IxR X r) (ha:PE X a ta) (hb:PE X b tb) (hs:eP b):PE X (.Subscript a b pos) (tOp r ta tb):=by
 intro pins s σ H Q I h
 exact Subscript_ (Ce ha hb I h fun v u s2 x y H2 I2 rx ry q=>hr a b pins s2 σ H2 x y v u Q I2 rx ry q (hs _ _))
noncomputable def Dj (K:X4):R2:=fun x y H Q=>∃ p xs i v,x=.ref p/\y=.int i/\SqL K H p xs/\atI xs i=some v/\Q v H
noncomputable def Cp (K:X4):R2:=fun x y H Q=>∃ p xs i v,x=.ref p/\y=.int i/\SqT K H p xs/\atI xs i=some v/\Q v H
noncomputable def Ct:R2:=fun x y H Q=>∃ z i c,x=.str z/\y=.int i/\z.length<=sizeLine/\atI z.cps.toList i=some c/\Q (.str ⟨#[c]⟩) H
theorem xw:IxR X (Dj X.K):=by
 intro value slice pins s σ H x y v u Q I rx ry h hs
 obtain ⟨p,xs,i,z,rfl,rfl,hq,he,q⟩:=h
 cases rx
 obtain ⟨t,rfl⟩:=ry
 obtain ⟨its,r,pl,hz⟩:=I.list hq
 obtain ⟨j,h1,h2,h3,h4,h5⟩:=n4 he
 obtain ⟨w,ew,rw'⟩:=r.get h2
 have hl:=r.length
 have hn:=jN
 have fin:EP X pins σ Q w s:=⟨z,H,I,rw',q⟩
 by_cases h0:0<=i
 ·have hj:i.toNat=j:=by
   rw [seqIndex_of h0 h5] at h1
   exact Zn h1
  exact item_listR pl.isList h0 (by lia) (by rw [hj];simpa using ew) fin hs
 ·have hj:(i+(its.toArray.size:Int)).toNat=j:=by
   rw [seqIndex_neg (by lia) h4] at h1
   rw [ZZ,← hl]
   exact Zn h1
  exact subscriptTail_builtinR (x:=w) pl.isList.typeIs slot_list_getitem.lookup
   (wpAny_getItem_list_neg (Q:=fun r s'=>r=w/\EP X pins σ Q r s') pl.isList (by lia) (by rw [ZZ] <;> lia) (by lia) (by rw [hj];simpa using ew) ⟨rfl,fin⟩) hs
theorem Ao:IxR X (Cp X.K):=by
 intro value slice pins s σ H x y v u Q I rx ry h hs
 obtain ⟨p,xs,i,z,rfl,rfl,hq,he,q⟩:=h
 cases rx
 obtain ⟨t,rfl⟩:=ry
 obtain ⟨its,r,pl,hz⟩:=I.tuple hq
 obtain ⟨j,h1,h2,h3,h4,h5⟩:=n4 he
 obtain ⟨w,ew,rw'⟩:=r.get h2
 have hl:=r.length
 have hn:=jN
 have fin:EP X pins σ Q w s:=⟨z,H,I,rw',q⟩
 exact subscriptTail_builtinR (x:=w) pl.typeIs slot_tuple_getitem.lookup
  (getItem_tuple (j:=j) (Q:=fun r s'=>r=w/\EP X pins σ Q r s') pl (by lia) (by lia) (by rw [ZZ,← hl];exact h1) (by simpa using ew) ⟨rfl,fin⟩) hs
theorem AQ:IxR X Ct:=by
 intro value slice pins s σ H x y v u Q I rx ry h hs
 obtain ⟨z,i,c,rfl,rfl,hz,he,q⟩:=h
 obtain ⟨t,rfl⟩:=rx
 obtain ⟨t',rfl⟩:=ry
 obtain ⟨j,h1,h2,h3,h4,h5⟩:=n4 he
 have hl:z.cps.toList.length=z.length:=by simp [Str.length]
 rw [hl] at h1 h4 h5
 have hn:=jN
 exact tail_any (typeIs_str s z t) slot_str_getitem.lookup (getItem_str (c:=c) (by
  have e1:decide (i < -(2 ^ 63:Int))=false:=decide_eq_false (by lia)
  have e2:decide (i ≥ 2 ^ 63)=false:=decide_eq_false (by lia)
  rw [e1,e2,Bool.or_false]) (by rw [h1];simpa using h2) ⟨.str ⟨#[c]⟩,H,I.tok _,⟨_,rfl⟩,q⟩) hs
noncomputable def rIx (K:X4):R2:=fun x y H Q=>Dj K x y H Q\/Cp K x y H Q\/Ct x y H Q
theorem nP:IxR X (rIx X.K):=xw.or (Ao.or AQ)
theorem qr (its:Wx) (n j:Nat) (u:Value):Obj.mapSeq (·.setIfInBounds j u) { cls:=.type "list",data:=.seq its.toArray n }={ cls:=.type "list",data:=.seq (its.set j u).toArray n }:=by
 simp [Obj.mapSeq]
theorem Inv.lst {pins:Xm} {σ:St} {H:Hp} {s:Shared} {p:Addr} {xs:List V} (I:Inv X pins σ H s) (h:H p=some (.lst xs)) :
  ∃ (its:Wx) (n:Nat),aV xs its/\s.heap.get? p=some { cls:=.type "list",data:=.seq its.toArray n }/\xs.length<=sizeLine:=by
 obtain ⟨z,its,n,r,e⟩:=I.hok p _ h
 exact ⟨its,n,r,e,z⟩
theorem Inv.lstUpd {pins:Xm} {σ:St} {H:Hp} {s:Shared} {p:Addr} {xs ys:List V} {its its':Wx} {n n':Nat} {f:Obj->Obj} (I:Inv X pins σ H s) (h:H p=some (.lst xs))
  (ho:s.heap.get? p=some { cls:=.type "list",data:=.seq its.toArray n }) (hf:f { cls:=.type "list",data:=.seq its.toArray n }={ cls:=.type "list",data:=.seq its'.toArray n' }) (r:aV ys its') (hz:ys.length<=sizeLine) (t:Nat) :
  Inv X pins σ (upd H p (.lst ys)) { s with heap:=s.heap.update p f,toks:=t }:=by
 have e:(s.heap.update p f).get? p=some { cls:=.type "list",data:=.seq its'.toArray n' }:=by
  rw [Heap.get?_update_self f ho (by rw [hf] <;> rfl),hf]
 refine I.write (x:=p) (e:=p) (by rw [h];trivial) (.inl rfl) (fun b u hb q=>(XM _ _ (Yd hb)).trans q) ⟨_,e⟩ ?_
 exact ⟨hz,its',n',r,e⟩
noncomputable def zo:V->V->V->Hp->(Hp->Prop)->Prop:=fun o i v H Q=>∃ p xs k j,o=.ref p/\i=.int k/\H p=some (.lst xs)/\ixN xs.length k=some j/\Q (upd H p (.lst (xs.set j v)))
theorem set_list:AL X zo:=by
 intro pins s σ H o i v ov iv u Q I ro ri rv h
 obtain ⟨p,xs,k,j,rfl,rfl,hp,hj,q⟩:=h
 cases ro
 obtain ⟨t,rfl⟩:=ri
 obtain ⟨its,n,r,ho,hz⟩:=I.lst hp
 obtain ⟨h1,h2,h3,h4⟩:=q8 hj
 have hl:=r.length
 have hn:=jN
 have I':Inv X pins σ (upd H p (.lst (xs.set j v))) { s with heap:=s.heap.update p (Obj.mapSeq (·.setIfInBounds j u)) } :=
  I.lstUpd hp ho (qr its n j u) (r.set rv j) (by rw [ZJ];exact hz) s.toks
 by_cases h0:0<=k
 ·have hk:k.toNat=j:=by
   rw [seqIndex_of h0 h4] at h1
   exact Zn h1
  exact PySem.W.ki_setAt ho h0 (by lia) (by rw [ZZ,← hl];exact h4) (by rw [hk];exact ⟨_,I',q⟩)
 ·have hk:(k+(its.toArray.size:Int)).toNat=j:=by
   rw [seqIndex_neg (by lia) h3] at h1
   rw [ZZ,← hl]
   exact Zn h1
  exact PySem.W.ki_setBack ho (by lia) (by rw [ZZ,← hl];exact h3) (by lia) (by rw [hk];exact ⟨_,I',q⟩)
theorem nQ (lo hi:Option Int) (n:Nat):(sliceBounds lo hi none n).1=((HT.sIx n 0 lo:Nat):Int)/\(sliceBounds lo hi none n).2.1=((HT.sIx n n hi:Nat):Int)/\(sliceBounds lo hi none n).2.2=1:=by
 refine ⟨?_,?_,rfl⟩
 ·cases lo with
  | none=>simp [sliceBounds,HT.sIx]
  | some i =>
   simp only [sliceBounds,HT.sIx,X5,show (1:Int) > 0 by decide,if_true]
   by_cases h:i < 0
   ·simp only [h,if_true] <;> lia
   ·simp only [h,if_false] <;> lia
 ·cases hi with
  | none=>simp [sliceBounds,HT.sIx]
  | some i =>
   simp only [sliceBounds,HT.sIx,X5,show (1:Int) > 0 by decide,if_true]
   by_cases h:i < 0
   ·simp only [h,if_true] <;> lia
   ·simp only [h,if_false] <;> lia
theorem mF (its:Wx) (lo hi:Option Int):slicePick its.toArray lo hi none=((its.drop (HT.sIx its.length 0 lo)).take (HT.sIx its.length its.length hi - HT.sIx its.length 0 lo)).toArray:=by
 obtain ⟨h1,h2,h3⟩:=nQ lo hi its.toArray.size
 unfold slicePick
 rw [h1,h2,h3]
 simp only [sliceRange_one,pick_run,ZZ] <;> rfl
noncomputable def Dx (K:X4):V->Option Int->Option Int->Hp->VK->Prop:=fun x lo hi H Q=>∃ a xs,x=.ref a/\SqL K H a xs/\∀ p,H p=none->Q (.ref p) (upd H p (.lst (sQ xs lo hi)))
theorem xR:SlR X (Dx X.K):=by
 intro pins s σ H x v vl vu lo hi sl Q I rx hs pl pu h
 obtain ⟨a,xs,rfl,hx,q⟩:=h
 cases rx
 obtain ⟨its,r,ht,hz⟩:=I.list hx
 have hlen:=r.length
 refine ⟨"list",_,slot_list_getitem.lookup,ht.isList.typeIs,?_⟩
 refine wpAny_getItem_list_slice ht.isList hs pl pu .none (by simp) ?_ (by rw [ZZ] <;> lia)
 rw [mF,← hlen]
 refine ⟨.ref s.heap.objs.size,_,I.laid (t':=s.toks) (o:=.lst (sQ xs lo hi)) (fun b ob q=>Zl _ q) (Zk _) ?_,rfl,q _ (I.hok.fresh (Zk _))⟩
 exact ⟨ZG (pM xs lo hi) hz,_,0,(r.drop (HT.sIx xs.length 0 lo)).take (HT.sIx xs.length xs.length hi - HT.sIx xs.length 0 lo),ZV _ rfl⟩
noncomputable def fB:V->Bool
 | .non=>true
 | .bl _=>true
 | .int _=>true
 | .str _=>true
 | _=>false
noncomputable def eqV:V->V->Bool
 | .non,.non=>true
 | .bl a,.bl b=>a == b
 | .bl a,.int b=>(if a then 1 else 0) == b
 | .int a,.bl b=>a == (if b then 1 else 0)
 | .int a,.int b=>a == b
 | .str a,.str b=>a == b
 | _,_=>false
theorem B3 {A:Around} {s:Shared} {y x:V} {u v:Value} (ry:RelV y u) (rx:RelV x v) (fy:fB y=true) (fx:fB x=true):SeqAt.EqAt A s u v (eqV y x):=by
 cases y with
 | non =>
  cases ry
  cases x with
  | non=>cases rx;exact SeqAt.EqAt.same _
  | bl b=>cases rx;exact SeqAt.EqAt.none_bool b
  | int b=>obtain ⟨t,rfl⟩:=rx;exact SeqAt.EqAt.none_int b t
  | str b=>obtain ⟨t,rfl⟩:=rx;exact SeqAt.EqAt.none_str b t
  | _=>exact absurd (show false=true from fx) Zh
 | bl a =>
  cases ry
  cases x with
  | non=>cases rx;exact SeqAt.EqAt.bool_none a
  | bl b=>cases rx;exact SeqAt.EqAt.bool_bool a b
  | int b=>obtain ⟨t,rfl⟩:=rx;exact SeqAt.EqAt.bool_int a b t
  | str b=>obtain ⟨t,rfl⟩:=rx;exact SeqAt.EqAt.bool_str a b t
  | _=>exact absurd (show false=true from fx) Zh
 | int a =>
  obtain ⟨t',rfl⟩:=ry
  cases x with
  | non=>cases rx;exact SeqAt.EqAt.int_none a t'
  | bl b=>cases rx;exact SeqAt.EqAt.int_bool a t' b
  | int b=>obtain ⟨t,rfl⟩:=rx;exact SeqAt.EqAt.int_int a t' b t
  | str b=>obtain ⟨t,rfl⟩:=rx;exact SeqAt.EqAt.int_str a t' b t
  | _=>exact absurd (show false=true from fx) Zh
 | str a =>
  obtain ⟨t',rfl⟩:=ry
  cases x with
  | non=>cases rx;exact SeqAt.EqAt.str_none a t'
  | bl b=>cases rx;exact SeqAt.EqAt.str_bool a t' b
  | int b=>obtain ⟨t,rfl⟩:=rx;exact SeqAt.EqAt.str_int a t' b t
  | str b=>obtain ⟨t,rfl⟩:=rx;exact SeqAt.EqAt.str_str a t' b t
  | _=>exact absurd (show false=true from fx) Zh
 | _=>exact absurd (show false=true from fy) Zh
noncomputable def eqU (x:V) (u:Value):Bool:=match u with
 | .none=>eqV .non x
 | .bool b=>eqV (.bl b) x
 | .int i _=>eqV (.int i) x
 | .str z _=>eqV (.str z) x
 | _=>false
theorem vU {x y:V} {u:Value} (r:RelV y u) (f:fB y=true):eqU x u=eqV y x:=by
 cases y with
 | non=>cases r;rfl
 | bl b=>cases r;rfl
 | int i=>obtain ⟨t,rfl⟩:=r;rfl
 | str z=>obtain ⟨t,rfl⟩:=r;rfl
 | _=>exact absurd (show false=true from f) Zh
theorem jo {x:V}:∀ {xs:List V} {us:Wx},aV xs us->xs.all fB=true->us.any (eqU x)=xs.any fun y=>eqV y x
 | _,_,.nil,_=>rfl
 | y :: xs,u :: us,.cons r t,f=>by
  rw [Xi,Zf] at f
  rw [Yg,Yg,vU r f.1,jo t f.2]
theorem ir {A:Around} {s:Shared} {x:V} {v:Value} (rx:RelV x v) (fx:fB x=true):∀ {xs:List V} {us:Wx},aV xs us->xs.all fB=true->∀ u∈us,SeqAt.EqAt A s u v (eqU x u)
 | _,_,.nil,_=>fun u hu=>by cases hu
 | y :: xs,u :: us,.cons r t,f=>fun u' hu=>by
  rw [Xi,Zf] at f
  rcases Zi.mp hu with rfl | hu
  ·rw [vU r f.1];exact B3 r rx f.1 fx
  ·exact ir rx fx t f.2 u' hu
noncomputable def inV (x:V) (xs:List V):Bool:=xs.any fun y=>eqV y x
noncomputable def rIn (K:X4) (neg:Bool):R2:=fun x y H Q=>∃ p xs,y=.ref p/\(SqL K H p xs\/SqT K H p xs)/\fB x=true/\xs.all fB=true/\Q (.bl (if neg then !inV x xs else inV x xs)) H
theorem tf:OpR X (compareOp .In) (rIn X.K false):=by
 intro pins s σ H x y v u Q I rx ry h
 obtain ⟨p,xs,rfl,hq,fx,fs,q⟩:=h
 cases ry
 rcases hq with hq | hq
 ·obtain ⟨its,r,pl,hz⟩:=I.list hq
  refine SeqAt.in_listAt (eqU x) pl.isList (fun w hw=>ir rx fx r fs w (by simpa using hw)) ⟨.bl _,H,I,rfl,?_⟩
  rw [show its.toArray.any (eqU x)=its.any (eqU x) by simp,jo r fs]
  exact q
 ·obtain ⟨its,r,pl,hz⟩:=I.tuple hq
  refine SeqAt.in_tupleAt (eqU x) pl (fun w hw=>ir rx fx r fs w (by simpa using hw)) ⟨.bl _,H,I,rfl,?_⟩
  rw [show its.toArray.any (eqU x)=its.any (eqU x) by simp,jo r fs]
  exact q
theorem nY:OpR X (compareOp .NotIn) (rIn X.K true):=by
 intro pins s σ H x y v u Q I rx ry h
 obtain ⟨p,xs,rfl,hq,fx,fs,q⟩:=h
 cases ry
 rcases hq with hq | hq
 ·obtain ⟨its,r,pl,hz⟩:=I.list hq
  refine SeqAt.notIn_listAt (eqU x) pl.isList (fun w hw=>ir rx fx r fs w (by simpa using hw)) ⟨.bl _,H,I,rfl,?_⟩
  rw [show its.toArray.any (eqU x)=its.any (eqU x) by simp,jo r fs]
  exact q
 ·obtain ⟨its,r,pl,hz⟩:=I.tuple hq
  refine SeqAt.notIn_tupleAt (eqU x) pl (fun w hw=>ir rx fx r fs w (by simpa using hw)) ⟨.bl _,H,I,rfl,?_⟩
  rw [show its.toArray.any (eqU x)=its.any (eqU x) by simp,jo r fs]
  exact q
theorem dJ.or {f:Value} {r r':List V->Hp->VK->Prop} (h:dJ X f r) (h':dJ X f r'):dJ X f (fun xs H Q=>r xs H Q\/r' xs H Q):=by
 intro pins s σ H xs us Q I rs q
 rcases q with q | q
 ·exact h pins s σ H xs us Q I rs q
 ·exact h' pins s σ H xs us Q I rs q
theorem nR:dJ X (.type "list") (fun xs H Q=>∃ p ys,xs=[.ref p]/\(SqL X.K H p ys\/SqT X.K H p ys)/\∀ l,H l=none->Q (.ref l) (upd H l (.lst ys))):=by
 intro pins s σ H xs us Q I r h
 obtain ⟨p,ys,rfl,hq,q⟩:=h
 obtain ⟨u,rfl,rx⟩:=vals1 r
 cases rx
 have fin:∀ (its:Wx),aV ys its->ys.length<=sizeLine->∀ (h':Heap) (c':Nat),(∀ b o',s.heap.get? b=some o'->h'.get? b=some o') →
   h'.get? s.heap.objs.size=some { cls:=.type "list",dict:=none,data:=.seq its.toArray c',slots:=#[] }->EP X pins σ Q (.ref s.heap.objs.size) { s with heap:=h' }:=fun its r' hz h' c' kp e =>
  ⟨.ref s.heap.objs.size,_,I.laid (t':=s.toks) kp (Zk _) (show cy X.prog X.w _ h' _ (.lst ys) from ⟨hz,its,c',r',e⟩),rfl,q _ (I.hok.fresh (Zk _))⟩
 rcases hq with hq | hq
 ·obtain ⟨its,r',pl,hz⟩:=I.list hq
  have hlen:=r'.length
  obtain ⟨o,ho,hc,n,hd⟩:=pl.isList
  exact call_list_seq p (.inl rfl) ho hc hd (fun h' c' kp e=>fin its r' hz h' c' kp e) (by simp only [ZZ] <;> lia)
 ·obtain ⟨its,r',pl,hz⟩:=I.tuple hq
  have hlen:=r'.length
  obtain ⟨o,ho,hc,n,hd⟩:=pl
  exact call_list_seq p (.inr rfl) ho hc hd (fun h' c' kp e=>fin its r' hz h' c' kp e) (by simp only [ZZ] <;> lia)
theorem mr:dJ X (.type "tuple") (fun xs H Q=>∃ p ys,xs=[.ref p]/\((SqL X.K H p ys/\∀ l,H l=none->Q (.ref l) (upd H l (.tup ys)))\/(SqT X.K H p ys/\Q (.ref p) H))):=by
 intro pins s σ H xs us Q I r h
 obtain ⟨p,ys,rfl,h⟩:=h
 obtain ⟨u,rfl,rx⟩:=vals1 r
 cases rx
 rcases h with ⟨hq,q⟩ | ⟨hq,q⟩
 ·obtain ⟨its,r',pl,hz⟩:=I.list hq
  have hlen:=r'.length
  refine call_tuple_list pl.isList (fun h' kp=>?_) (by simp only [ZZ] <;> lia)
  have I1:Inv X pins σ H { s with heap:=h' }:=I.kept (t':=s.toks) kp
  have I2:Inv X pins σ (upd H h'.objs.size (.tup ys)) { s with heap:=h'.push { cls:=.type "tuple",data:=.seq its.toArray } } :=
   I1.laid (t':=s.toks) (fun b o e=>Zl _ e) (Zk _) (show cy X.prog X.w _ _ _ (.tup ys) from ⟨hz,its,r',NoD.new _ _,IsTup.new _ _⟩)
  exact ⟨.ref h'.objs.size,_,I2,rfl,q _ (I1.hok.fresh (Zk _))⟩
 ·obtain ⟨its,r',pl,hz⟩:=I.tuple hq
  exact call_tuple_same pl ⟨.ref p,H,I,rfl,q⟩
noncomputable def tyV (K:X4) (T:String) (x:V) (H:Hp):Prop:=match x with
 | .str _=>T = "str"
 | .int _=>T = "int"
 | .ref p=>(T = "list" ∧ ∃ xs,SqL K H p xs)\/(T = "tuple" ∧ ∃ o,K.lookup p=some o/\o.cls=.type "tuple" ∧ o.dict=none) ∨
   (T = "dict" ∧ ((∃ kvs,H p=some (.dK kvs))\/∃ kvs,H p=some (.dT kvs)))\/(T = "set" ∧ ∃ S n,H p=some (.set S n))
 | _=>False
theorem zZ {pins:Xm} {σ:St} {H:Hp} {s:Shared} {T:String} {x:V} {v:Value} (I:Inv X pins σ H s) (r:RelV x v) (ty:tyV X.K T x H) :
  s.TypeIs v T/\∀ a,v=.ref a->∃ ob,s.heap.get? a=some ob/\ob.dict=none:=by
 cases x with
 | str z =>
  obtain ⟨t,rfl⟩:=r
  cases (show T = "str" from ty)
  exact ⟨typeIs_str s z t,fun _ e=>nomatch e⟩
 | int i =>
  obtain ⟨t,rfl⟩:=r
  cases (show T = "int" from ty)
  exact ⟨typeIs_int s i t,fun _ e=>nomatch e⟩
 | ref p =>
  cases r
  rcases ty with ⟨rfl,xs,hq⟩ | ⟨rfl,o,hk,hc,hd⟩ | ⟨rfl,hk⟩ | ⟨rfl,S,n,hk⟩
  ·obtain ⟨its,_,pl,_⟩:=I.list hq
   refine ⟨pl.isList.typeIs,fun a e=>?_⟩
   cases e
   obtain ⟨o,n,e,c,hd,_⟩:=pl
   exact ⟨o,e,hd⟩
  ·refine ⟨⟨o,I.kIn p o hk,hc⟩,fun a e=>?_⟩
   cases e
   exact ⟨o,I.kIn _ o hk,hd⟩
  ·have z:∃ o,s.heap.get? p=some o/\o.ExactDict:=by
    rcases hk with ⟨kvs,hk⟩ | ⟨kvs,hk⟩
    ·obtain ⟨_,_,_,_,o,_,_,e,ex,_⟩:=I.hok p _ hk
     exact ⟨o,e,ex⟩
    ·obtain ⟨_,_,_,_,o,_,_,e,ex,_⟩:=I.hok p _ hk
     exact ⟨o,e,ex⟩
   obtain ⟨o,e,ex⟩:=z
   refine ⟨⟨o,e,ex.1⟩,fun a e2=>?_⟩
   cases e2
   exact ⟨o,e,ex.2.1⟩
  ·obtain ⟨o,_,_,_,e,ex,_⟩:=I.hok p _ hk
   refine ⟨⟨o,e,ex.1⟩,fun a e2=>?_⟩
   cases e2
   exact ⟨o,e,ex.2.1⟩
 | _=>exact False.elim ty
noncomputable def tBM (K:X4) (T:String) (r:V->List V->Hp->VK->Prop) (to:TE) (t:TA):TE:=fun σ H Q=>to σ H fun x H1=>tyV K T x H1/\t σ H1 fun xs H2=>r x xs H2 Q
variable {o e:Expr} {es:List Expr} {to:TE} {t:TA} {name:Str} {apos cpos:Pos} {T id:String} {r:V->List V->Hp->VK->Prop}
theorem rW (pa:PlainAttrs T) (slot:Slot T name id) (hty:typeOf (.builtin id)=pure (.type "method_descriptor")) (hm:MtR X id r) (ho:PE X o to) (ha:PA X (e :: es) t)
  (hbase:attributeBase o name X.env (eval o X.env)=eval o X.env:=by rfl)
  (hfew:((backTo cpos (starEach (e :: es) X.env)).all (fun x=>!x.1) && (backToKw cpos (keywordEach [] X.env)).all (fun x=>x.1.isSome)
   && decide ((e :: es).length+([]:List Keyword).length+(if ([]:List Keyword).isEmpty then 0 else 1) < 30))=true:=by rfl)
  (hline:(apos.endLine == cpos.line)=true:=by rfl) (hs:starEach (e :: es) X.env=(false,eval e X.env) :: starEach es X.env:=by rfl) (hplain:(backTo cpos (starEach es X.env)).any (·.1)=false:=by rfl) :
  PE X (.Call (.Attribute o name apos) (e :: es) [] cpos) (tBM X.K T r to t):=by
 intro pins s σ H Q I h
 refine wpAny_Call_method_late hbase hfew hline rfl (thn (ho pins s σ H _ I h) fun v s1 ⟨x,H1,I1,r1,ty,q1⟩=>?_)
 obtain ⟨h1,h2⟩:=zZ I1 r1 ty
 refine ⟨T,id,pa,slot,hty,h1,h2,?_⟩
 have hA:=ha cpos pins s1 σ H1 _ I1 q1
 rw [hs] at hA ⊢
 refine Calls.callWith_builtin (by show (false || (backTo cpos (starEach es X.env)).any (·.1))=false;rw [hplain] <;> rfl) (Calls.evalArgs_plain ?_)
 exact thn hA fun us s2 ⟨vs,H2,I2,r2,q2⟩=>hm pins s2 σ H2 x vs v us Q I2 r1 r2 q2
end
noncomputable def MtM (X:Cx) (id:String) (r:V->List V->Hp->VK->Prop):Prop :=
 ∀ (pins:Xm) (s:Shared) (σ:St) (H:Hp) (x:V) (xs:List V) (v:Value) (us:Wx) (Q:VK),Inv X pins σ H s->RelV x v->aV xs us->r x xs H Q →
  wpAny (model X.prog X.w) X.A (call (.builtin id) (v :: us)) (EP X pins σ Q) X.xe s
theorem aV.nil_inv {us:Wx} (h:aV [] us):us=[]:=by
 cases h
 rfl
theorem aV.cons_inv {x:V} {xs:List V} {us:Wx} (h:aV (x :: xs) us):∃ u vs,us=u :: vs/\RelV x u/\aV xs vs:=by
 cases h with
 | cons r t=>exact ⟨_,_,rfl,r,t⟩
theorem aV.one {x:V} {us:Wx} (h:aV [x] us):∃ u,us=[u]/\RelV x u:=by
 obtain ⟨u,vs,rfl,r,t⟩:=h.cons_inv
 rw [t.nil_inv]
 exact ⟨_,rfl,r⟩
section
variable {X:Cx} {pins:Xm} {σ:St} {H:Hp} {s:Shared} {l b:Addr} {xs ys zs:List V}
theorem Inv.lset {its its':Wx} {n:Nat} {f:Array Value->Array Value} {t':Nat} (I:Inv X pins σ H s) (hH:H l=some (.lst xs))
  (e:s.heap.get? l=some { cls:=.type "list",data:=.seq its.toArray n }) (hf:f its.toArray=its'.toArray) (hv:aV ys its') (hz:ys.length<=sizeLine) :
  Inv X pins σ (upd H l (.lst ys)) { s with heap:=s.heap.update l (Obj.mapSeq f),toks:=t' }:=by
 have q:=PySem.IsL.update e f
 rw [hf] at q
 refine I.write (x:=l) (e:=l) (by rw [hH];exact trivial) (.inl rfl) (fun b' u hb hu=>(XM s.heap (Obj.mapSeq f) (Yd hb)).trans hu) ⟨_,q⟩ ?_
 exact ⟨hz,its',_,hv,q⟩
theorem Inv.lnew {its:Wx} {t':Nat} (I:Inv X pins σ H s) (hv:aV ys its) (hz:ys.length<=sizeLine) :
  Inv X pins σ (upd H s.heap.objs.size (.lst ys)) { s with heap:=s.heap.push { cls:=.type "list",data:=.seq its.toArray },toks:=t' } :=
 I.laid (fun _ _ q=>Zl _ q) (Zk _) ⟨hz,its,0,hv,ZV _ rfl⟩
theorem Inv.fresh (I:Inv X pins σ H s):H s.heap.objs.size=none:=I.hok.fresh (Zk _)
theorem Inv.lstM (I:Inv X pins σ H s) (hH:H l=some (.lst xs)):xs.length<=sizeLine/\∃ (its:Wx) (n:Nat),aV xs its/\xs.length=its.length/\s.heap.get? l=some { cls:=.type "list",data:=.seq its.toArray n }:=by
 obtain ⟨z,its,n,r,e⟩:=I.hok l _ hH
 exact ⟨z,its,n,r,r.length,e⟩
theorem oU {n:Nat} (h:n<=sizeLine):Builtin.List.listTooLong n=false:=by
 unfold Builtin.List.listTooLong
 exact decide_eq_false (by exact Nat.not_lt_of_le h)
end
section
variable {X:Cx}
noncomputable def rA:V->List V->Hp->VK->Prop:=fun x vs H Q=>∃ l xs y,x=.ref l/\vs=[y]/\H l=some (.lst xs)/\xs.length < sizeLine/\Q .non (upd H l (.lst (xs++[y])))
theorem iB:MtM X "list.append" rA:=by
 intro pins s σ H x vs v us Q I rx rv h
 obtain ⟨l,xs,y,rfl,rfl,hH,hz,q⟩:=h
 cases rx
 obtain ⟨u,rfl,ru⟩:=rv.one
 obtain ⟨z,its,n,r,hl,e⟩:=I.lstM hH
 refine call_meets F.slot_list_append ⟨_,e,rfl⟩ F.entry_list_append (F.args_list_append_2 _ _) (PySem.list_append l its.toArray n u (by rw [ZZ];lia)) ⟨e,?_⟩
 refine ⟨.non,_,I.lset (its':=its++[u]) hH e (by simp) (r.append (.cons ru .nil)) ?_,rfl,q⟩
 rw [Zs,ZO]
 exact Nat.succ_le_of_lt hz
noncomputable def DO:R2:=fun x y H Q=>∃ l b xs zs,x=.ref l/\y=.ref b/\H l=some (.lst xs)/\H b=some (.lst zs)/\xs.length+zs.length<=sizeLine/\∀ p,H p=none->Q (.ref p) (upd H p (.lst (xs++zs)))
theorem A0:OpR X (binaryOp .Add) DO:=by
 intro pins s σ H x y v u Q I rx ry h
 obtain ⟨l,b,xs,zs,rfl,rfl,hH,hB,hz,q⟩:=h
 cases rx
 cases ry
 obtain ⟨z,its,n,r,hl,e⟩:=I.lstM hH
 obtain ⟨z2,its2,n2,r2,hl2,e2⟩:=I.lstM hB
 refine PySem.P.add_list e e2 ?_ (by rw [ZZ,ZZ];lia)
 have ea:its.toArray++its2.toArray=(its++its2).toArray:=by simp
 rw [ea]
 exact ⟨.ref _,_,I.lnew (t':=s.toks) (r.append r2) (by rw [Zs];omega),rfl,q _ I.fresh⟩
end
section
variable {prog:Program} {w:World} {A:Around} {E:Z2} {s:Shared}
theorem qz {a c n:Nat} (hac:a<=c) (hc:c<=n):sliceBounds (some (a:Int)) (some (c:Int)) none n=((a:Int),(c:Int),1):=by
 simp only [sliceBounds,X5]
 have h1:¬ ((a:Int) < 0):=by lia
 have h2:¬ ((c:Int) < 0):=by lia
 simp only [h1,h2,if_false,show (1:Int) > 0 by decide,if_true]
 congr 1
 ·lia
 ·congr 1;lia
set_option maxRecDepth 100000 in
theorem wH {l b sl:Addr} {items new:Array Value} {n n2:Nat} {vl vu:Value} {a c:Nat} {Q:Unit->Shared->Prop}
  (e:s.heap.get? l=some { cls:=.type "list",data:=.seq items n }) (e2:s.heap.get? b=some { cls:=.type "list",data:=.seq new n2 }) (hne:l ≠ b)
  (hs:s.heap.IsSliceOf sl vl vu .none) (pl:IsPart vl (some (a:Int))) (pu:IsPart vu (some (c:Int))) (hac:a<=c) (hc:c<=items.size)
  (hsz:items.size+new.size<=sizeLine) (h:Q () { s with heap:=s.heap.update l (Obj.mapSeq fun xs=>xs.extract 0 a++new++xs.extract c xs.size) }) :
  wpAny (model prog w) A (setItem (.ref l) (.ref sl) (.ref b)) Q E s:=by
 have hl:s.heap.IsList l items:=PySem.IsL.isList e
 have hb:s.heap.IsList b new:=PySem.IsL.isList e2
 obtain ⟨os,hos,hcs,hds⟩:=id hs
 have hTs:s.TypeIs (.ref sl) "slice" := ⟨os,hos,hcs⟩
 have hstep:¬ ((rawPart none == rawInt 0)=true):=Zh
 have hsame:Builtin.List.listSameRef (.ref l) (.ref b)=false:=by
  unfold Builtin.List.listSameRef
  exact ZR.mpr hne
 have hmax:(max (a:Int) (c:Int)).toNat=c:=by lia
 have hz':((fun xs:Array Value=>xs.extract 0 a++new++xs.extract c xs.size) items).size<=sizeLine+1:=by
  simp only [Array.size_append,Array.size_extract]
  lia
 unfold setItem
 try with_reducible refine Xq ?_
 first | refine Zq (Zc ?_) | skip
 refine Zq (wpAny_sequenceKey hl.typeIs (by decide) ?_)
 refine Zq (wpAny_callSpecial?_slot (name:=Str.ofString "__setitem__") hl.typeIs slot_list_setitem
  (Xs slot_list_setitem hl.typeIs entry_list_setitem ?_ (args_list_setitem _ _ _)))
 show wpAny _ _ (Builtin.List.listSubscript? (.ref sl) >>= _) _ _ s
 refine Zq ?_
 unfold Builtin.List.listSubscript?
 refine Zq (wpAny_specialOf hTs slice_no_index ?_)
 simp only [Option.isNone_none,if_true]
 refine Zc ?_
 show wpAny _ _ (typeOf (.ref sl) >>= _) _ _ s
 refine Zq (wpAny_typeOf hTs ?_)
 first
  | rw [Zp (by decide)]
  | refine XG (by decide) ?_
 rw [listSliceParts_eq]
 refine Zq (Zq (wpAny_field hos hds (x:=.none) rfl (Zq (wpAny_listPart .none ?_))))
 rw [Zp hstep]
 refine Zq (wpAny_field hos hds (x:=vl) rfl (Zq (wpAny_listPart pl ?_)))
 refine Zq (wpAny_field hos hds (x:=vu) rfl (Zq (wpAny_listPart pu (Zc ?_))))
 first
  | simp only [hsame,YF,if_false]
  | refine XG hsame ?_
  | (dsimp only
     rw [Zp (by rw [hsame];exact Zh)])
 refine Zq (m:=Builtin.List.listAllItems (.ref b) "must assign iterable to extended slice") ?_
 unfold Builtin.List.listAllItems
 refine Zq (wpAny_typeOf hb.typeIs ?_)
 first
  | refine PySem.W.KFB.if_so (by decide) ?_
  | rw [Zr (by decide)]
  | simp only [beq_self_eq_true,Bool.true_or,if_true]
 unfold Builtin.List.listItems
 refine Zq (wpAny_seqItems e2 rfl (Zc ?_))
 refine Zq (Zq (wpAny_seqItems e rfl (Zc ?_)))
 refine Zq (wpAny_of_eq ((sliceIndices_raw (some (a:Int)) (some (c:Int)) none items.size (by simp)).trans (congrArg (pure:Int×Int×Int->Sem (Int×Int×Int)) (qz hac hc))) ?_)
 show wpAny _ _ (if ((1:Int) == 1)=true then _ else _) _ _ s
 rw [Zr (by decide)]
 refine Zq (wpAny_rule ?_)
 first
  | simp only [oU hsz,YF,if_false]
  | refine XG (oU hsz) ?_
 first | refine Zq (Zc ?_) | skip
 show wpAny _ _ (updateSeq l (fun xs=>xs.extract 0 ((a:Int)).toNat++new++xs.extract (max (a:Int) (c:Int)).toNat xs.size) >>= _) _ _ s
 rw [hmax,YA]
 refine Zq (wpAny_updateSeq (hz:=ZG (Y6 _ _) hsz) (_hz':=hz') e rfl ?_)
 refine Zq (wpAny_letGo ?_)
 first
  | exact Zq (Zc (Zc ⟨.none,rfl,Zc h⟩))
  | exact Zc ⟨.none,rfl,Zc h⟩
end
section
variable {κ:Type} [DecidableEq κ]
noncomputable def gn (kvs:List (κ×V)) (k:κ):Option V:=(kvs.find? fun kv=>decide (kv.1=k)).map (·.2)
noncomputable def putK (kvs:List (κ×V)) (k:κ) (v:V):List (κ×V) :=
 if (kvs.any fun kv=>decide (kv.1=k))=true then kvs.map (fun kv=>if kv.1=k then (kv.1,v) else kv) else kvs++[(k,v)]
theorem ib {p:κ×V} {r:List (κ×V)} {k:κ} (e:p.1=k):gn (p :: r) k=some p.2:=by simp [gn,Z3,e]
theorem lD {p:κ×V} {r:List (κ×V)} {k:κ} (e:¬ p.1=k):gn (p :: r) k=gn r k:=by simp [gn,Z3,e]
theorem pO (k:κ):∀ kvs:List (κ×V),(kvs.any fun kv=>decide (kv.1=k))=(gn kvs k).isSome
 | []=>rfl
 | p :: r=>by
  rw [Yg]
  by_cases e:p.1=k
  ·simp only [ib e,decide_eq_true e,Bool.true_or,Option.isSome_some]
  ·rw [lD e,decide_eq_false e,Bool.false_or];exact pO k r
theorem hZ (kvs:List (κ×V)) (k:κ) (v:V):(putK kvs k v).length<=kvs.length+1:=by
 unfold putK
 split
 ·rw [Zv];exact Y6 _ _
 ·rw [Zs,Za,Xu];exact Zk _
theorem gY.isSome_eq {o:Option V} {u:Ww} (r:gY o u):o.isSome=u.isSome:=by
 cases o with
 | none=>cases u with
  | none=>rfl
  | some _=>exact (show False from r).elim
 | some _=>cases u with
  | none=>exact (show False from r).elim
  | some _=>rfl
theorem gY.getD {o:Option V} {u:Ww} {d:V} {d':Value} (r:gY o u) (rd:RelV d d'):RelV (o.getD d) (u.getD d'):=by
 cases o with
 | none=>cases u with
  | none=>exact rd
  | some _=>exact (show False from r).elim
 | some _=>cases u with
  | none=>exact (show False from r).elim
  | some _=>exact r
theorem KV.val {kvs:List (κ×V)} {vs:List (κ×Value)} (r:KV kvs vs) (k:κ):gY (gn kvs k) (valueAt vs k):=by
 unfold KV at r
 induction r with
 | nil=>exact True.intro
 | @cons p q ps qs h t ih =>
  obtain ⟨h1,h2⟩:=h
  by_cases e:p.1=k
  ·have e':q.1=k:=h1.symm.trans e
   have b:valueAt (q :: qs) k=some q.2:=by simp [valueAt,Z3,e']
   rw [ib e,b];exact h2
  ·have e':¬ q.1=k:=fun z=>e (h1.trans z)
   have b:valueAt (q :: qs) k=valueAt qs k:=by simp [valueAt,Z3,e']
   rw [lD e,b];exact ih
theorem KV.any {kvs:List (κ×V)} {vs:List (κ×Value)} (r:KV kvs vs) (k:κ):(kvs.any fun kv=>decide (kv.1=k))=vs.any fun kv=>decide (kv.1=k):=by
 unfold KV at r
 induction r with
 | nil=>rfl
 | cons h t ih=>rw [Yg,Yg,ih,h.1]
theorem KV.repl {kvs:List (κ×V)} {vs:List (κ×Value)} (r:KV kvs vs) (k:κ) {y:V} {u:Value} (ry:RelV y u) :
  KV (kvs.map fun kv=>if kv.1=k then (kv.1,y) else kv) (vs.map fun kv=>if kv.1=k then (kv.1,u) else kv):=by
 unfold KV at r ⊢
 induction r with
 | nil=>exact .nil
 | @cons p q ps qs h t ih =>
  rw [Zm,Zm]
  refine .cons ?_ ih
  obtain ⟨h1,h2⟩:=h
  by_cases e:p.1=k
  ·rw [Zr e,Zr (h1.symm.trans e)];exact ⟨h1,ry⟩
  ·rw [Zp e,Zp (fun z=>e (h1.trans z))];exact ⟨h1,h2⟩
theorem KV.put {kvs:List (κ×V)} {vs:List (κ×Value)} (r:KV kvs vs) (k:κ) {y:V} {u:Value} (ry:RelV y u):KV (putK kvs k y) (stored vs k u):=by
 unfold putK stored
 rw [r.any k]
 by_cases e:(vs.any fun kv=>decide (kv.1=k))=true
 ·rw [Zr e,Zr e];exact r.repl k ry
 ·rw [Zp e,Zp e];exact Paired.snoc r ⟨rfl,ry⟩
theorem KV.keys {kvs:List (κ×V)} {vs:List (κ×Value)} (r:KV kvs vs):kvs.map (·.1)=vs.map (·.1):=by
 unfold KV at r
 induction r with
 | nil=>rfl
 | cons h t ih=>rw [Zm,Zm,ih,h.1]
theorem KV.length {kvs:List (κ×V)} {vs:List (κ×Value)} (r:KV kvs vs):kvs.length=vs.length:=YE r
end
theorem md {P:Program} {w:World} {k:Key} {u:Value} (r:RelV (kV k) u):(bK P w).is k u=true:=by
 cases k with
 | inl i=>obtain ⟨t,e⟩:=(show ∃ t,u=Value.int i t from r);subst e;exact oA P w i t
 | inr x=>obtain ⟨t,e⟩:=(show ∃ t,u=Value.str x t from r);subst e;exact pq P w x t
theorem mM {P:Program} {w:World}:∀ {ks:List Key} {us:Wx},aV (ks.map kV) us->ItemsAre (bK P w) ks us
 | [],_,r=>by rw [List.map_nil] at r;cases r;exact .nil
 | k :: ks,_,r=>by
  rw [Zm] at r
  cases r with
  | cons h t=>exact .cons (md h) (mM t)
noncomputable abbrev KT (H:Hp):List (List Key×V)->List (List Key×Addr×Value)->Prop:=Paired fun p q=>p.1=q.1/\H q.2.1=some (.tup (p.1.map kV))/\RelV p.2 q.2.2
theorem KT.val {H:Hp} {kvs:List (List Key×V)} {xs:List (List Key×Addr×Value)} (r:KT H kvs xs) (k:List Key):gY (gn kvs k) ((atKey xs k).map (·.2)):=by
 induction r with
 | nil=>exact True.intro
 | @cons p q ps qs h t ih =>
  obtain ⟨h1,_,h2⟩:=h
  by_cases e:p.1=k
  ·have e':q.1=k:=h1.symm.trans e
   have b:atKey (q :: qs) k=some q.2:=by simp [atKey,Z3,e']
   rw [ib e,b];exact h2
  ·have e':¬ q.1=k:=fun z=>e (h1.trans z)
   have b:atKey (q :: qs) k=atKey qs k:=by simp [atKey,Z3,e']
   rw [lD e,b];exact ih
theorem KT.repl {H:Hp} {kvs:List (List Key×V)} {xs:List (List Key×Addr×Value)} (r:KT H kvs xs) (k:List Key) {y:V} {u:Value} (ry:RelV y u) :
  KT H (kvs.map fun kv=>if kv.1=k then (kv.1,y) else kv) (xs.map (putAt k u)):=by
 induction r with
 | nil=>exact .nil
 | @cons p q ps qs h t ih =>
  rw [Zm,Zm]
  refine .cons ?_ ih
  obtain ⟨h1,h2,h3⟩:=h
  unfold putAt
  by_cases e:p.1=k
  ·rw [Zr e,Zr (h1.symm.trans e)];exact ⟨h1,h2,ry⟩
  ·rw [Zp e,Zp (fun z=>e (h1.trans z))];exact ⟨h1,h2,h3⟩
theorem KT.put {H:Hp} {kvs:List (List Key×V)} {xs:List (List Key×Addr×Value)} (r:KT H kvs xs) (k:List Key) {b:Addr} {y:V} {u:Value} (hb:H b=some (.tup (k.map kV))) (ry:RelV y u) :
  KT H (putK kvs k y) (storedH xs k b u):=by
 have e:(kvs.any fun kv=>decide (kv.1=k))=(atKey xs k).isSome:=by
  rw [pO,(r.val k).isSome_eq,Yj]
 unfold putK storedH
 rw [e]
 by_cases q:(atKey xs k).isSome=true
 ·rw [Zr q,Zr q];exact r.repl k ry
 ·rw [Zp q,Zp q];exact Paired.snoc r ⟨rfl,hb,ry⟩
theorem KT.keeps {H H':Hp} {kvs:List (List Key×V)} {xs:List (List Key×Addr×Value)} (r:KT H kvs xs) (ht:∀ b ys,H b=some (.tup ys)->H' b=some (.tup ys)):KT H' kvs xs :=
 Paired.mapP r fun _ _ z=>⟨z.1,ht _ _ z.2.1,z.2.2⟩
section
variable {P:Program} {w:World} {H:Hp} {h:Heap} {a:Addr}
theorem zu {u:HO} (ok:HOk P w H h) (e:Rd H a u):cy P w H h a u:=e.ok ok
theorem kc {kvs:List (Key×V)} (ok:HOk P w H h) (e:Rd H a (.dK kvs)):kvs.length<=sizeLine/\(a == sysModules)=false/\∃ vs,KV kvs vs/\h.DictOf (bK P w) a vs :=
 show cy P w H h a (.dK kvs) from zu ok e
theorem pN {kvs:List (Key×V)} (ok:HOk P w H h) (e:H a=some (.dK kvs)):kvs.length<=sizeLine/\(a == sysModules)=false/\∃ vs,KV kvs vs/\h.DictOf (bK P w) a vs:=kc ok (.inl e)
theorem dN {ks:List Key} (ok:HOk P w H h) (e:H a=some (.tup (ks.map kV))):(tupleKind (bK P w)).is h ks a:=by
 obtain ⟨_,its,r,_,o,h1,h2,n,h3⟩:=(show cy P w H h a (.tup (ks.map kV)) from ok a _ e)
 exact ⟨o,its.toArray,n,h1,h2,h3,by simpa using mM r⟩
theorem lU {kvs:List (List Key×V)} (ok:HOk P w H h) (e:Rd H a (.dT kvs)):kvs.length<=sizeLine/\(a == sysModules)=false ∧
  ∃ xs,KT H kvs xs/\h.DictOfH (tupleKind (bK P w)) a xs:=by
 obtain ⟨z,y,xs,r,o,es,ep,h1,h2,h3,h4,h5⟩:=(show cy P w H h a (.dT kvs) from zu ok e)
 refine ⟨z,y,xs,r,o,es,ep,h1,h2,h3,h4,fun x hx=>?_,h5⟩
 have all:∀ {l:List (List Key×V)} {m:List (List Key×Addr×Value)},KT H l m->∀ x∈m,(tupleKind (bK P w)).is h x.1 x.2.1:=by
  intro l m q
  induction q with
  | nil=>intro x hx;exact nomatch hx
  | @cons p q ps qs hq t ih =>
   intro x hx
   rcases Zi.mp hx with e | hx
   ·subst e
    exact dN ok (by rw [← hq.1];exact hq.2.1)
   ·exact ih x hx
 exact all r x hx
theorem C6 {kvs:List (List Key×V)} (ok:HOk P w H h) (e:H a=some (.dT kvs)):kvs.length<=sizeLine/\(a == sysModules)=false ∧
  ∃ xs,KT H kvs xs/\h.DictOfH (tupleKind (bK P w)) a xs:=lU ok (.inl e)
end
noncomputable def gy (H:Hp) (a:Addr) (y:V) (r:Option V):Prop :=
 (∃ kvs k,Rd H a (.dK kvs)/\y=kV k/\r=gn kvs k)\/∃ kvs k b,Rd H a (.dT kvs)/\y=.ref b/\H b=some (.tup (k.map kV))/\r=gn kvs k
noncomputable def qb (H:Hp) (a:Addr) (y v:V) (H':Hp):Prop :=
 (∃ kvs k,H a=some (.dK kvs)/\y=kV k/\kvs.length < sizeLine/\H'=upd H a (.dK (putK kvs k v))) ∨
 ∃ kvs k b,H a=some (.dT kvs)/\y=.ref b/\H b=some (.tup (k.map kV))/\kvs.length < sizeLine/\H'=upd H a (.dT (putK kvs k v))
theorem gy.k {H:Hp} {a:Addr} {kvs:List (Key×V)} {k:Key} (e:H a=some (.dK kvs)):gy H a (kV k) (gn kvs k):=.inl ⟨kvs,k,.inl e,rfl,rfl⟩
theorem qb.k {H:Hp} {a:Addr} {kvs:List (Key×V)} {k:Key} {v:V} (e:H a=some (.dK kvs)) (hl:kvs.length < sizeLine):qb H a (kV k) v (upd H a (.dK (putK kvs k v))):=.inl ⟨kvs,k,e,rfl,hl,rfl⟩
section
variable {X:Cx} {pins:Xm} {σ:St} {H:Hp} {s:Shared} {a:Addr} {y v:V} {u r:Value} {o:Option V} {A:Around} {E:Z2}
theorem Inv.big (I:Inv X pins σ H s):sysModules < s.heap.objs.size:=by
 have h:mainGlobals < s.heap.objs.size:=(I.mod.glob.keeps I.bk).lt
 exact Nat.lt_trans (by decide) h
theorem tF {Q:Z2} (hu:A.units+1 < cLine) (I:Inv X pins σ H s) (g:gy H a y (some v)) (ry:RelV y u) (h:∀ w' s',Inv X pins σ H s'->RelV v w'->Q w' s') :
  wpAny (model X.prog X.w) A (getItem (.ref a) u) Q E s:=by
 rcases g with ⟨kvs,k,e,ey,l⟩ | ⟨kvs,k,b,e,ey,eb,l⟩
 ·subst ey
  obtain ⟨z,hd,vs,rel,dd⟩:=kc I.hok e
  obtain ⟨w',hw,rw'⟩:=gY.some_of (v:=v) (o:=valueAt vs k) (by rw [l];exact rel.val k)
  exact wpAny_getItem_of (md ry) dd.mapOf hw (h w' _ (I.tok _) rw')
 ·subst ey
  cases (show u=Value.ref b from ry)
  obtain ⟨z,hd,xs,rel,dd⟩:=lU I.hok e
  obtain ⟨w',hw,rw'⟩:=gY.some_of (v:=v) (o:=(atKey xs k).map (·.2)) (by rw [l];exact rel.val k)
  obtain ⟨p,hp,hp2⟩:=Zy.mp hw
  refine wpAny_getItem_heap (Y1 hu) (dN I.hok eb) dd hp ?_
  rw [hp2]
  exact h w' _ (I.tok _) rw'
theorem Eu {Q:Z2} (hu:A.units+1 < cLine) (I:Inv X pins σ H s) (g:gy H a y o) (ry:RelV y u) (h:∀ s',Inv X pins σ H s'->Q (.bool o.isSome) s') :
  wpAny (model X.prog X.w) A (compareOp .In u (.ref a)) Q E s:=by
 rcases g with ⟨kvs,k,e,ey,l⟩ | ⟨kvs,k,b,e,ey,eb,l⟩
 ·subst ey
  obtain ⟨z,hd,vs,rel,dd⟩:=kc I.hok e
  refine wpAny_in_of (md ry) hd dd.mapOf ?_
  rw [← (rel.val k).isSome_eq,← l]
  exact h _ (I.tok _)
 ·subst ey
  cases (show u=Value.ref b from ry)
  obtain ⟨z,hd,xs,rel,dd⟩:=lU I.hok e
  refine wpAny_in_heap (Y1 hu) (dN I.hok eb) hd dd ?_
  have q:=(rel.val k).isSome_eq
  rw [Yj] at q
  rw [← q,← l]
  exact h _ (I.tok _)
theorem xF {Q:Z2} (hu:A.units+1 < cLine) (I:Inv X pins σ H s) (g:gy H a y o) (ry:RelV y u) (h:∀ s',Inv X pins σ H s'->Q (.bool (!o.isSome)) s') :
  wpAny (model X.prog X.w) A (compareOp .NotIn u (.ref a)) Q E s:=by
 rcases g with ⟨kvs,k,e,ey,l⟩ | ⟨kvs,k,b,e,ey,eb,l⟩
 ·subst ey
  obtain ⟨z,hd,vs,rel,dd⟩:=kc I.hok e
  refine wpAny_notIn_of (md ry) hd dd.mapOf ?_
  rw [← (rel.val k).isSome_eq,← l]
  exact h _ (I.tok _)
 ·subst ey
  cases (show u=Value.ref b from ry)
  obtain ⟨z,hd,xs,rel,dd⟩:=lU I.hok e
  refine wpAny_notIn_heap (Y1 hu) (dN I.hok eb) hd dd ?_
  have q:=(rel.val k).isSome_eq
  rw [Yj] at q
  rw [← q,← l]
  exact h _ (I.tok _)
theorem kI {h':Heap} {t':Nat} {ob:HO} (I:Inv X pins σ H s) (mu:Mut (H a)) (hs:Heap.SameBut a s.heap h') (he:∃ q,h'.get? a=some q) (new:cy X.prog X.w (upd H a ob) h' a ob) :
  Inv X pins σ (upd H a ob) { s with heap:=h',toks:=t' } :=
 I.write (x:=a) (e:=a) mu (.inl rfl) (fun b q hb z=>(hs.2 b hb).trans z) he new
theorem qf {P:Program} {w:World} {H':Hp} {h':Heap} {kvs:List (Key×V)} {vs:List (Key×Value)} (z:kvs.length<=sizeLine) (hd:(a == sysModules)=false) (rel:KV kvs vs) (dd:h'.DictOf (bK P w) a vs) :
  cy P w H' h' a (.dK kvs):=⟨z,hd,vs,rel,dd⟩
theorem tM {H':Hp} {Q:Unit->Shared->Prop} (hu:A.units+1 < cLine) (I:Inv X pins σ H s) (g:qb H a y v H') (ry:RelV y u) (rv:RelV v r) (h:∀ s',Inv X pins σ H' s'->Q () s') :
  wpAny (model X.prog X.w) A (setItem (.ref a) u r) Q E s:=by
 rcases g with ⟨kvs,k,e,ey,l,eH⟩ | ⟨kvs,k,b,e,ey,eb,l,eH⟩
 ·subst ey eH
  obtain ⟨z,hd,vs,rel,dd⟩:=pN I.hok e
  have hz:vs.length<=sizeLine:=by rw [← rel.length];exact z
  have hl:(putK kvs k v).length<=sizeLine:=by have:=hZ kvs k v;lia
  refine wpAny_setItem_pairs (hsz:=hz) (md ry) dd fun h' dd' hs=>h _ ?_
  have he:∃ q,h'.get? a=some q:=let ⟨q,_,_,hq,_⟩:=dd';⟨q,hq⟩
  exact kI I (by rw [e];exact True.intro) hs he (qf hl hd (rel.put k rv) dd')
 ·subst ey eH
  cases (show u=Value.ref b from ry)
  obtain ⟨z,hd,xs,rel,dd⟩:=C6 I.hok e
  have hz:xs.length<=sizeLine:=by rw [← YE rel];exact z
  have hl:(putK kvs k v).length<=sizeLine:=by have:=hZ kvs k v;lia
  refine wpAny_setItem_heap (hsz:=hz) (Y1 hu) (dN I.hok eb) dd fun h' dd' hs=>h _ ?_
  obtain ⟨q,es,ep,hq,h2,h3,h4,_,h5⟩:=dd'
  refine kI I (by rw [e];exact True.intro) hs ⟨q,hq⟩ ⟨hl,hd,_,(rel.put k eb rv).keeps fun c ys ec=>?_,q,es,ep,hq,h2,h3,h4,h5⟩
  rw [aI (CF ec e (fun z=>nomatch z))]
  exact ec
end
section
variable {X:Cx} {pins:Xm} {σ:St} {H:Hp} {s:Shared} {a:Addr} {kvs:List (Key×V)} {k:Key} {u:Value} {A:Around} {E:Z2}
theorem C7 {Q:Z2} (I:Inv X pins σ H s) (e:Rd H a (.dK kvs)) (h:∀ t s',Inv X pins σ H s'->Q (.int kvs.length t) s'):wpAny (model X.prog X.w) A (call (.builtin "len") [.ref a]) Q E s:=by
 obtain ⟨z,hd,vs,rel,dd⟩:=kc I.hok e
 refine call_len_dict hd dd (by rw [← rel.length];rw [Y2] at z;lia) ?_
 rw [← rel.length]
 exact h _ _ (I.tok _)
end
theorem pk {X:Cx} {pins:Xm} {σ:St} {H:Hp} {s:Shared} {a:Addr} {y:V} {o:Option V} (I:Inv X pins σ H s) (g:gy H a y o):s.TypeIs (.ref a) "dict" := by
 rcases g with ⟨kvs,k,e,_,_⟩ | ⟨kvs,k,b,e,_,_,_⟩
 ·obtain ⟨_,_,vs,_,dd⟩:=kc I.hok e
  exact dd.typeIs
 ·obtain ⟨_,_,xs,_,dd⟩:=lU I.hok e
  exact dd.typeIs
theorem pj {P:Program} {w:World} {H:Hp} (h:Heap) (hb:sysModules < h.objs.size):cy P w H (h.push { cls:=.type "dict",data:=.dict #[] }) h.objs.size (.dK []) :=
 ⟨Yn _,ZR.mpr (Yd (ZS hb)),[],.nil,Heap.DictOf.new h⟩
noncomputable def Ah:TE:=fun _ H Q=>∀ p,H p=none->Q (.ref p) (upd H p (.dK []))
section
variable {X:Cx} {pos:Pos}
theorem vC:PE X (.Dict [] [] pos) Ah:=fun pins s σ H Q I h =>
 wpAny_Dict_empty ⟨.ref s.heap.objs.size,_,I.laid (a:=s.heap.objs.size) (o:=.dK []) (t':=s.toks) (fun _ _ q=>Zl _ q) (Zk _) (pj s.heap I.big),rfl,h _ (I.hok.fresh (Zk _))⟩
end
noncomputable def pY:List (TE×TE)->St->Hp->(List (V×V)->Hp->Prop)->Prop
 | [],_,H,Q=>Q [] H
 | (tk,tv) :: r,σ,H,Q=>tk σ H fun x H1=>tv σ H1 fun y H2=>pY r σ H2 fun ps H3=>Q ((x,y) :: ps) H3
noncomputable abbrev VV:List (V×V)->List (Value×Value)->Prop:=Paired fun p q=>RelV p.1 q.1/\RelV p.2 q.2
noncomputable def PPs (X:Cx) (pos:Pos) (keys:List (Option Expr)) (values:List Expr) (trs:List (TE×TE)):Prop :=
 ∀ (pins:Xm) (s:Shared) (σ:St) (H:Hp) (Q:List (V×V)->Hp->Prop),Inv X pins σ H s->pY trs σ H Q →
  wpAny (model X.prog X.w) X.A (evalPairs (pairTrees keys values X.env pos)) (fun vs s'=>∃ ps H',Inv X pins σ H' s'/\VV ps vs/\Q ps H') X.xe s
theorem xx {X:Cx} {pos:Pos}:PPs X pos [] [] []:=fun pins s σ H Q I h=>pairTrees_nil_walk ⟨[],H,I,.nil,h⟩
theorem wB {X:Cx} {pos:Pos} {k v:Expr} {ks:List (Option Expr)} {vs:List Expr} {tk tv:TE} {trs:List (TE×TE)} (hk:PE X k tk) (hv:PE X v tv) (hr:PPs X pos ks vs trs) :
  PPs X pos (some k :: ks) (v :: vs) ((tk,tv) :: trs):=fun pins s σ H Q I h =>
 pairTrees_cons_walk (thn (hk pins s σ H _ I h) fun u s1 ⟨x,H1,I1,rx,q1⟩=>thn (hv pins s1 σ H1 _ I1 q1) fun w2 s2 ⟨y,H2,I2,ry,q2⟩ =>
  thn (hr pins s2 σ H2 _ I2 q2) fun ws s3 ⟨ps,H3,I3,rel,q3⟩=>⟨(x,y) :: ps,H3,I3,.cons ⟨rx,ry⟩ rel,q3⟩)
noncomputable def kL (kvs more:List (Key×V)):List (Key×V):=more.foldl (fun acc kv=>putK acc kv.1 kv.2) kvs
theorem KV.merge:∀ {more:List (Key×V)} {rs:List (Key×Value)} {kvs:List (Key×V)} {vs:List (Key×Value)},KV more rs->KV kvs vs->KV (kL kvs more) (merged vs rs):=by
 intro more rs kvs vs r
 unfold KV at r
 induction r generalizing kvs vs with
 | nil=>intro q;exact q
 | @cons p q ps qs h t ih =>
  intro r0
  have e:KV (putK kvs p.1 p.2) (stored vs q.1 q.2):=by
   have:=r0.put p.1 h.2
   rw [← h.1];exact this
  exact ih e
theorem iQ:∀ (more kvs:List (Key×V)),(kL kvs more).length<=kvs.length+more.length
 | [],kvs=>by show kvs.length<=kvs.length+0;exact Y6 _ _
 | p :: r,kvs=>by
  have h1:=iQ r (putK kvs p.1 p.2)
  have h2:=hZ kvs p.1 p.2
  show (kL (putK kvs p.1 p.2) r).length<=_
  rw [Za];lia
theorem lA {P:Program} {w:World}:∀ {kvs:List (Key×V)} {ws:List (Value×Value)},VV (kvs.map fun kv=>(kV kv.1,kv.2)) ws->∃ rs,Carries (bK P w) ws rs/\KV kvs rs
 | [],_,r=>by rw [List.map_nil] at r;cases r;exact ⟨[],True.intro,.nil⟩
 | p :: kvs,_,r=>by
  rw [Zm] at r
  cases r with
  | @cons a b as bs h t =>
   obtain ⟨rs,c,q⟩:=lA (P:=P) (w:=w) t
   obtain ⟨b1,b2⟩:=b
   exact ⟨(p.1,b2) :: rs,⟨md h.1,rfl,c⟩,.cons ⟨rfl,h.2⟩ q⟩
noncomputable def D1 (trs:List (TE×TE)):TE:=fun σ H Q=>∀ p,H p=none->pY trs σ (upd H p (.dK [])) fun ps H2=>H2 p=some (.dK [])/\∃ kvs:List (Key×V),ps=kvs.map (fun kv=>(kV kv.1,kv.2))/\kvs.length<=15/\Q (.ref p) (upd H2 p (.dK (kL [] kvs)))
theorem xT {X:Cx} {pos:Pos} {keys:List (Option Expr)} {values:List Expr} {trs:List (TE×TE)} (h:PPs X pos keys values trs) (hall:keys.all (·.isSome)=true) (hl:keys.length=values.length) (h0:keys ≠ [])
  (h15:keys.length<=15):PE X (.Dict keys values pos) (D1 trs):=by
 intro pins s σ H Q I q
 have hn:=I.hok.fresh (Zk s.heap.objs.size)
 have I1:=I.laid (a:=s.heap.objs.size) (o:=.dK []) (h':=s.heap.push { cls:=.type "dict",data:=.dict #[] }) (t':=s.toks) (fun _ _ q=>Zl _ q) (Zk _) (pj s.heap I.big)
 refine wpAny_Dict_walk (knd:=bK X.prog X.w) hall hl h0 h15 (thn (h pins _ σ _ _ I1 (q _ hn)) fun ws s2 ⟨ps,H2,I2,rel,e,kvs,ep,lk,q2⟩=>?_)
 subst ep
 obtain ⟨rs,c,rk⟩:=lA (P:=X.prog) (w:=X.w) rel
 obtain ⟨z,hd,vs0,r0,dd⟩:=pN I2.hok e
 cases r0
 refine ⟨rs,c,dd,fun h' dd' hs=>⟨.ref s.heap.objs.size,_,?_,rfl,q2⟩⟩
 have hz:(kL [] kvs).length<=sizeLine:=by
  have h1:=iQ kvs []
  rw [Xu] at h1
  rw [Y2];lia
 have he:∃ q,h'.get? s.heap.objs.size=some q:=let ⟨q,_,_,hq,_⟩:=dd';⟨q,hq⟩
 exact kI I2 (by rw [e];exact True.intro) hs he (qf hz hd (rk.merge .nil) dd')
structure M1 (X:Cx) (o:Expr) (m:Str) (apos:Pos) (e:Expr) (cpos:Pos):Prop where
 base:attributeBase o m X.env (eval o X.env)=eval o X.env
 few:((backTo cpos (starEach [e] X.env)).all (fun x=>!x.1) && (backToKw cpos (keywordEach [] X.env)).all (fun x=>x.1.isSome)
  && decide (([e]:List Expr).length+([]:List Keyword).length+(if ([]:List Keyword).isEmpty then 0 else 1) < 30))=true
 line:(apos.endLine == cpos.line)=true
 trees:backTo cpos (starEach [e] X.env)=[(false,eval e X.env)]
noncomputable def IsD (H:Hp) (a:Addr):Prop:=(∃ kvs,Rd H a (.dK kvs))\/∃ kvs,Rd H a (.dT kvs)
theorem Bq {X:Cx} {pins:Xm} {σ:St} {H:Hp} {s:Shared} {a:Addr} (I:Inv X pins σ H s) (d:IsD H a) :
  s.TypeIs (.ref a) "dict" ∧ (∀ b,Value.ref a=.ref b->∃ ob,s.heap.get? b=some ob/\ob.dict=none)/\(a == sysModules)=false:=by
 rcases d with ⟨kvs,e⟩ | ⟨kvs,e⟩
 ·obtain ⟨_,hd,vs,_,dd⟩:=kc I.hok e
  refine ⟨dd.typeIs,fun b q=>?_,hd⟩
  cases q
  obtain ⟨ob,_,_,h1,h2,_⟩:=dd
  exact ⟨ob,h1,h2.2.1⟩
 ·obtain ⟨_,hd,xs,_,dd⟩:=lU I.hok e
  refine ⟨dd.typeIs,fun b q=>?_,hd⟩
  cases q
  obtain ⟨ob,_,_,h1,h2,_⟩:=dd
  exact ⟨ob,h1,h2.2.1⟩
section
variable {X:Cx} {pins:Xm} {σ:St} {H:Hp} {s:Shared} {a:Addr} {y d:V} {u r:Value} {o:Option V} {A:Around} {E:Z2}
theorem Cg {Q:Z2} (hu:A.units+1 < cLine) (I:Inv X pins σ H s) (g:gy H a y o) (ry:RelV y u) (h:∀ w' s',Inv X pins σ H s'->RelV (o.getD .non) w'->Q w' s') :
  wpAny (model X.prog X.w) A (call (.builtin "dict.get") [.ref a,u]) Q E s:=by
 rcases g with ⟨kvs,k,e,ey,l⟩ | ⟨kvs,k,b,e,ey,eb,l⟩
 ·subst ey
  obtain ⟨z,hd,vs,rel,dd⟩:=kc I.hok e
  refine call_meetsIn XU dd.typeIs PySem.F.entry_dict_get (PySem.F.args_dict_get_2 _ _) (meets_dict_get (bK X.prog X.w) a (md ry) hd) ⟨_,dd.mapOf,h _ _ (I.tok _) ?_⟩
  rw [l]
  exact (rel.val k).getD rfl
 ·subst ey
  cases (show u=Value.ref b from ry)
  obtain ⟨z,hd,xs,rel,dd⟩:=lU I.hok e
  refine call_meetsIn XU dd.typeIs PySem.F.entry_dict_get (PySem.F.args_dict_get_2 _ _) (meetsH_dict_get (tupleKind (bK X.prog X.w)) a b hd) ⟨Y1 hu,k,xs,dN I.hok eb,dd,h _ _ (I.tok _) ?_⟩
  rw [l]
  exact (rel.val k).getD rfl
end
noncomputable def Ac (td ty:TE):TE:=fun σ H Q=>td σ H fun x H1=>∃ a,x=.ref a/\IsD H1 a/\ty σ H1 fun y H2=>∃ o,gy H2 a y o/\Q (o.getD .non) H2
section
variable {X:Cx} {o e f:Expr} {apos cpos:Pos} {td ty tx:TE}
theorem wg (hu:X.A.units+1 < cLine) (ho:PE X o td) (he:PE X e ty) (m:M1 X o "get" apos e cpos):PE X (.Call (.Attribute o "get" apos) [e] [] cpos) (Ac td ty):=by
 intro pins s σ H Q I h
 refine wpAny_Call_method m.base m.few m.line PySem.F.plainAttrs_dict XU PySem.F.type_dict_get (thn (ho pins s σ H _ I h) fun u s1 ⟨x,H1,I1,rx,a,ex,d,q1⟩=>?_)
 subst ex
 obtain rfl:u=Value.ref a:=rx
 obtain ⟨t1,t2,_⟩:=Bq I1 d
 refine ⟨t1,t2,?_⟩
 rw [m.trees]
 refine Calls.callWith_builtin rfl (Calls.evalArgs_plain (Calls.spliced_cons (thn (he pins s1 σ H1 _ I1 q1) fun iv s2 ⟨y,H2,I2,ry,ov,g,q2⟩=>Calls.spliced_nil ?_)))
 exact Cg hu I2 g ry fun w' s3 I3 rw'=>⟨_,H2,I3,rw',q2⟩
end
end L2
namespace Att
open PySem PySem.W PySem.Calls PyProof.Rows
theorem kA {P:Params} {h:Heap}:∀ (ns:Wu) (vs:Wx),WellAll P h vs (ns.map WData.int)->IntsAre vs ns:=by
 intro ns
 induction ns with
 | nil =>
  intro vs w
  rw [List.map_nil] at w
  cases w
  exact .nil
 | cons n ns ih =>
  intro vs w
  rw [Zm] at w
  cases w with
  | cons a b =>
   cases a
   exact .cons _ _ (ih _ b)
theorem sA {l:OpenLaw} {n:Nat} (hn:l.most=some n) {P:Params} {h:Heap} {args:List WData} {vals:Wx}
  (hpre:l.row.toRowW.claim.pre args=true) (hwl:WellAll P h vals args) :
  ∃ a vs ns,vals=[Value.ref a]/\args=[WData.list (ns.map WData.int)]/\h.get? a=some { cls:=.type "list",data:=.seq vs.toArray }/\IntsAre vs ns/\ns.length<=n:=by
 have hsh:WShape.hasAll [] args [.list .int]=true:=(pre_splitW hpre).1
 have hc:l.pre.holds [] { args:=args }=true:=(pre_splitW hpre).2
 obtain ⟨d,r,rfl,h1,h2⟩:=hasAllW_cons hsh
 obtain rfl:=hasAllW_nil h2
 obtain ⟨xs,rfl,h3⟩:=hasW_list h1
 obtain ⟨ns,rfl⟩:=items_int h3
 have hlen:ns.length<=n:=by
  unfold OpenLaw.pre at hc
  have h4:(WTm.not (.lt (.lit (.int (n:Int))) (.len (.arg 0)))).holds [] { args:=[.list (ns.map .int)] }=true:=by
   have h4:=(holds_andW hc).1
   rw [hn] at h4
   exact h4
  have h5:=condW_of h4 (w_not (w_lt w_lit (w_len_list (w_arg rfl))))
  rw [Zv] at h5
  refine ZK fun q=>?_
  have q':(n:Int) < ((ns.length:Nat):Int):=by omega
  first
   | (rw [decide_eq_true q'] at h5;exact absurd h5 (by decide))
   | (simp at h5;omega)
 cases hwl with
 | cons w1 w2 =>
  cases w2
  cases w1 with
  | list ho hall=>exact ⟨_,_,ns,rfl,rfl,ho,kA ns _ hall,hlen⟩
theorem tm (l:OpenLaw) (args:List WData):l.row.toRowW.claim.post args (.bool true) args=true :=
 postW_of (r:=l.row.toRowW) (X:=(true == true))
  (show WShape.has [] (.bool true) .bool=true by first | rfl | decide | simp [WShape.has,WShape.arms,WShape.armsAll])
  (show (WTm.eq .res (.lit (.bool true))).value [] { args:=args,res:=some (.bool true),after:=args }=some (.bool (true == true)) from w_eq_bool (w_res rfl) w_lit) rfl
theorem oY {l:OpenLaw} {n:Nat} {q:Program} {loose:List Str} {XP:(Wz)->Heap->Prop} {YP:World->Heap->Prop} {d:DefRec}
  (hn:l.most=some n) (hdf:d.params.defaults=[])
  (call:∀ (w:World) (s₀ s₁:Shared) (mg mb:Wz) (fa:Addr) (o:Obj) (pm cd doc:Value) (a:Addr) (vs:Wx) (ns:Wu),
   Ground q loose [] XP w s₀ mg mb s₁.heap->YP w s₁.heap →
   s₁.heap.get? fa=some o->o.data=.func (docDef d.name d.params d.body d.scope pm cd doc)->s₁.heap.CodeRec cd d.name->mg d.name=some (.ref fa) →
   s₁.heap.get? a=some { cls:=.type "list",data:=.seq vs.toArray }->IntsAre vs ns->ns.length<=n->s₁.gens=#[] →
   codeAny (model l.prog w) callerA (.call (.ref fa) ⟨[.ref a],[]⟩) (fun r s'=>r=.ok (.ret (.bool true))/\OldK s₁.heap s'.heap/\s'.os=s₁.os/\AllBare s'.gens) s₁) :
  WalkO q loose XP YP l.row.toRowW d [] (fun f vs=>PySem.call f vs):=by
 intro w s₀ s₁ mg mb G Y fa o pm cd doc dV kV ho hd hcd hD hmg hg args vals as hpre hlay hrd hwl hlo
 obtain rfl:dV=.none:=Dflts.none hD hdf
 obtain rfl:kV=.none:=Dflts.noKw hD
 obtain ⟨a,vs,ns,rfl,rfl,hobj,hints,hlen⟩:=sA hn hpre hwl
 refine enter_call (codeAny_mono (call w s₀ s₁ mg mb fa o pm cd doc a vs ns G Y ho (fd_plain hd) hcd hmg hobj hints hlen hg) fun r s' hq=>?_)
 obtain ⟨rfl,h2,h3,h4⟩:=hq
 exact ⟨.inl ⟨.bool true,.bool true,[],rfl,fun _=>rfl,.bool true,tm l _,fun _=>⟨List.Pairwise.nil,fun _ hm=>(nomatch hm)⟩⟩,h2,h3,h4⟩
end Att
namespace L2
open PySem PySem.Spec PyProof.Rows
theorem nA:∀ {vs:Wx} {ns:Wu},IntsAre vs ns->aV (ns.map V.int) vs
 | _,_,.nil=>.nil
 | _,_,.cons n t h=>.cons ⟨t,rfl⟩ (nA h)
noncomputable def vO (H:Hp):Prop:=∀ b,H b=none\/∃ o xs,H b=some (.frz o (.lst xs))
theorem wu {P:Program} {w:World} {K:X4} {mg mb:Wz} {CX:CXT} {k:Nat} {fa a:Addr} {fd:FuncData} {x:Str} {sp:Sp} {s₁:Shared} {vs:Wx} {ns:Wu}
  (KX:K.In s₁.heap) (hns:s₁.heap.Ns mainGlobals mg) (hb:s₁.heap.Ns builtinsNs mb) (hbb:∀ x:Str,x ≠ "__name__" → mb x=bootBuiltins x) (hlim:s₁.heap.NoLimit) (hg:s₁.gens=#[])
  (ha:s₁.heap.get? a=some { cls:=.type "list",data:=.seq vs.toArray }) (hi:IntsAre vs ns) (hl:ns.length<=sizeLine) (hr:Room k callerA)
  (F:∀ base:Heap,K.In base->base.Ns mainGlobals mg->FnOk P w K mg base CX k fa fd [x] sp) (hbind:∀ (s:Shared) (u:Value),BindsTo s fd ⟨[u],[]⟩ [(x,u)])
  (hsp:∀ H:Hp,vO H->SqL K H a (ns.map V.int)->sp [.ref a] H (fun v _=>v=.bl true) fun _ _ _=>False)
  (hCX:∀ H e s',CX [] H s₁ (fun _ _ _=>False) e s'->False) :
  codeAny (model P w) callerA (.call (.ref fa) ⟨[.ref a],[]⟩) (fun r s'=>r=.ok (.ret (.bool true))/\OldK s₁.heap s'.heap/\s'.os=s₁.os/\AllBare s'.gens) s₁:=by
 have rv:=nA hi
 have lenV:=hi.length
 have core:∀ H:Hp,vO H->SqL K H a (ns.map V.int)->HOk P w H s₁.heap->(∀ b,H b ≠ none->b=a)->(H a ≠ none->K.lookup a=none) →
   codeAny (model P w) callerA (.call (.ref fa) ⟨[.ref a],[]⟩) (fun r s'=>r=.ok (.ret (.bool true))/\OldK s₁.heap s'.heap/\s'.os=s₁.os/\AllBare s'.gens) s₁:=by
  intro H hO hS hok hA hK
  have base_of:∀ {b:Addr} {o:Obj},s₁.heap.get? b=some o->H b=none->(oj s₁.heap H).get? b=some o:=fun e n=>we e n
  have noA:∀ {b:Addr} {o:Obj} {es:Array DictEntry} {ep:Nat},s₁.heap.get? b=some o->o.data=.dict es ep->H b=none:=fun {b o es ep} e d=>by
   cases q:H b with
   | none=>rfl
   | some u =>
    have e':b=a:=hA b (by rw [q];simp)
    subst e'
    rw [ha] at e;cases e
    have d':Data.seq vs.toArray _=Data.dict es ep:=d
    cases d'
  have nsK:∀ {b:Addr} {m:Wz},s₁.heap.Ns b m->(oj s₁.heap H).Ns b m:=fun {b m} ⟨o,es,ep,e,d,r⟩=>⟨o,es,ep,base_of e (noA e d),d,r⟩
  have hKb:K.In (oj s₁.heap H):=fun b o e=>base_of (KX b o e) (by
   cases q:H b with
   | none=>rfl
   | some u =>
    have e':b=a:=hA b (by rw [q];simp)
    subst e'
    rw [hK (by rw [q];simp)] at e;cases e)
  have hM:Mod K mg (oj s₁.heap H):=⟨hKb,nsK hns,⟨mb,nsK hb,hbb⟩,let ⟨mc,h1,h2⟩:=hlim;⟨mc,nsK h1,h2⟩⟩
  have e0:Env0 P w K mg (oj s₁.heap H) callerA [] s₁ H:=⟨rfl,hM,fun b o e=>xS e,Xc (sN _ _),trivial,fun b hb=>absurd (show b∈([]:Wy) from hb) (by simp),hok,.of_eq hg⟩
  refine codeAny_mono ((F _ hKb (nsK hns)).run callerA [] s₁ H ⟨[.ref a],[]⟩ [.ref a] [.ref a] _ _ hr e0 (hbind s₁ (.ref a)) (.cons rfl .nil) (hsp H hO hS)) fun r s' h=>?_
  cases r with
  | error e=>exact (hCX H e s' h).elim
  | ok fl =>
   cases fl with
   | next=>exact False.elim h
   | brk=>exact False.elim h
   | cont=>exact False.elim h
   | ret u =>
    obtain ⟨v,H',os,bare,un,hok',r',q⟩:=h
    have q':v=.bl true:=q
    subst q'
    obtain rfl:u=Value.bool true:=r'
    refine ⟨rfl,OldK.of_keep fun b o e=>?_,os,bare⟩
    cases q:H b with
    | none=>exact un.keep b o e q (by intro z;exact absurd (show b∈([]:Wy) from z) (by simp)) (by simp)
    | some u =>
     rcases hO b with z | ⟨ob,xs,z⟩
     ·rw [q] at z;cases z
     ·have z2:=un.frzs b ob _ z
      obtain ⟨e1,_⟩:=hok b _ z
      obtain ⟨e2,_⟩:=hok' b _ z2
      rw [e] at e1;cases e1
      exact e2
 cases hk:K.lookup a with
 | some o =>
  have e:=KX a o hk
  rw [ha] at e
  cases e
  refine core (fun _=>none) (fun _=>.inl rfl) (.inr ⟨_,vs.toArray,_,hk,rfl,rfl,rfl,by rw [ZZ,lenV];exact hl,by simpa using rv⟩) (fun b u z=>by have z':(none:Option HO)=some u:=z;cases z') (fun b z=>absurd rfl z) fun z=>absurd rfl z
 | none =>
  refine core (fun b=>if b=a then some (.frz { cls:=.type "list",data:=.seq vs.toArray } (.lst (ns.map V.int))) else none) (fun b=>?_) (.inl (.inr ⟨{ cls:=.type "list",data:=.seq vs.toArray },Zr rfl⟩)) (fun b u z=>?_) (fun b z=>?_) fun _=>hk
  ·by_cases hb:b=a
   ·exact .inr ⟨_,_,Zr hb⟩
   ·exact .inl (Zp hb)
  ·by_cases hb:b=a
   ·have z':=(Zr hb).symm.trans z
    cases z'
    subst hb
    exact ⟨ha,by rw [Zv];exact hl,vs,_,rv,ha⟩
   ·have z':=(Zp hb).symm.trans z
    cases z'
  ·by_cases hb:b=a
   ·exact hb
   ·exact absurd (Zp hb) z
theorem x5 {l:PySem.W.OpenLaw} {n k:Nat} {q:Program} {loose:List Str} {XP:(Wz)->Heap->Prop} {YP:World->Heap->Prop} {d:DefRec} {K:Params->X4} {CX:World->CXT} {sp:World->Sp} {x:Str}
  (hn:l.most=some n) (hn2:n<=sizeLine) (hdf:d.params.defaults=[]) (hr:Room k callerA)
  (hY:∀ (w:World) (h:Heap),YP w h->(K w.params).In h)
  (F:∀ (w:World) (mg:Wz) (fa:Addr) (h:Heap),(K w.params).In h->h.Ns mainGlobals mg->mg d.name=some (.ref fa) →
   ∃ fd:FuncData,(∀ (s:Shared) (u:Value),BindsTo s fd ⟨[u],[]⟩ [(x,u)]) ∧
    ∀ base:Heap,(K w.params).In base->base.Ns mainGlobals mg->FnOk l.prog w (K w.params) mg base (CX w) k fa fd [x] (sp w))
  (hsp:∀ (w:World) (H:Hp) (a:Addr) (ns:Wu),ns.length<=n->vO H->SqL (K w.params) H a (ns.map V.int)->sp w [.ref a] H (fun v _=>v=.bl true) fun _ _ _=>False)
  (hCX:∀ (w:World) (H:Hp) (s:Shared) (e:Value) (s':Shared),CX w [] H s (fun _ _ _=>False) e s'->False) :
  PySem.W.WalkO q loose XP YP l.row.toRowW d [] (fun f vs=>PySem.call f vs):=by
 refine Att.oY hn hdf fun w s₀ s₁ mg mb fa o pm cd doc a vs ns G Y ho hd hcd hmg hobj hints hlen hg=>?_
 have KX:=hY w _ Y
 obtain ⟨fd,hb,hF⟩:=F w mg fa _ KX G.T.g hmg
 exact wu KX G.T.g G.T.b G.T.builtins G.T.nolimit hg hobj hints (ZG hlen hn2) hr hF hb (fun H hO hS=>hsp w H a ns hlen hO hS) fun H e s'=>hCX w H s₁ e s'
noncomputable def inClass (s:Stmt) (j:Nat):Stmt:=match s with
 | .ClassDef _ _ _ body _ _ _ _ _ _ _=>body.getD j (.Pass ⟨0,0,0,0⟩)
 | _=>.Pass ⟨0,0,0,0⟩
noncomputable def aB (s:Stmt):Arguments:=match s with
 | .FunctionDef _ a _ _ _ _ _ _ _ _=>a
 | _=>{ posonlyargs:=[],args:=[],vararg:=none,kwonlyargs:=[],kw_defaults:=[],kwarg:=none,defaults:=[] }
noncomputable def au (s:Stmt):List Stmt:=match s with
 | .FunctionDef _ _ b _ _ _ _ _ _ _=>b
 | _=>[]
noncomputable def af (s:Stmt):Scope:=match s with
 | .FunctionDef _ _ _ _ _ _ sc _ _ _=>sc
 | _=>{ kind:=.function,names:=[],isGenerator:=false,isCoroutine:=false }
noncomputable abbrev CX0:CXT:=fun _ _ _ _ _ _=>False
noncomputable abbrev E0:XK:=fun _ _ _=>False
theorem iP {X:Cx}:g7 CX0 X E0:=fun _ _ _ _ _ _ _ h=>h.elim
structure Fun (K:X4) (x qual:Str) (st:Stmt) (f:Addr) (fd:FuncData):Prop where
 ex:∃ (oc:Value) (od:Option Addr) (kV doc pm:Value) (an:Option Addr) (cdv ct:Value) (osl:Array (Ww)),
  fd=PySem.W.fnOf x qual (aB st) (au st) (af st) .none kV doc pm an cdv ct/\K.lookup f=some ⟨oc,od,.func fd,osl⟩/\PySem.W.codeIn K cdv qual=true
 kp:PySem.W.keepIn K (.ref f)=true
section
variable {P:Program} {w:World} {K:X4} {mg:Wz} {base:Heap}
theorem Fun.ok {x qual:Str} {st:Stmt} {f:Addr} {fd:FuncData} {N ps:List Str} {k:Nat} {sp:Sp} (F:Fun K x qual st f fd) (S:FnScope N ps (af st)) (len:∀ vs H Q E,sp vs H Q E->vs.length=ps.length)
  (hbody:∀ (cdv:Value) (A:Around) (outer:List Env) (s:Shared) (H:Hp) (vs:List V) (Q:VK) (E:XK),Room k (A.deeper (envOfC qual (af st) s.heap.objs.size f cdv))->sp vs H Q E →
   ∃ t,PSs (fo CX0 P w K mg base N qual (af st) f cdv A outer s H E).nox (au st) t/\t { nx:=fun _ H'=>Q .non H',rt:=Q } (start N vs) H):FnOk P w K mg base CX0 (k+1) f fd ps sp:=by
 obtain ⟨oc,od,kV,doc,pm,an,cdv,ct,osl,rfl,lk,hcd⟩:=F.ex
 refine zv lk hcd S len fun A outer s H vs Q E hr hsp=>?_
 obtain ⟨t,h,q⟩:=hbody cdv A outer s H vs Q E hr hsp
 exact ⟨t,h.nox,q⟩
theorem Fun.binds {x qual:Str} {st:Stmt} {f:Addr} {fd:FuncData} {ps:List Str} (F:Fun K x qual st f fd)
  (h:∀ (kV doc pm:Value) (an:Option Addr) (cdv ct:Value) (us:Wx),us.length=ps.length->bindArgs (PySem.W.fnOf x qual (aB st) (au st) (af st) .none kV doc pm an cdv ct) ⟨us,[]⟩=pure (ps.zip us)):Binds K fd ps []:=by
 obtain ⟨oc,od,kV,doc,pm,an,cdv,ct,osl,rfl,lk,hcd⟩:=F.ex
 exact .all (h kV doc pm an cdv ct)
theorem cp {x qual:Str} {st:Stmt} {f:Addr} {oc:Value} {od an:Option Addr} {osl:Array (Ww)} {kV doc pm cdv ct:Value} (l:K.lookup f=some ⟨oc,od,.func (PySem.W.fnOf x qual (aB st) (au st) (af st) .none kV doc pm an cdv ct),osl⟩)
  (c:PySem.W.codeIn K cdv qual=true) (k:PySem.W.keepIn K (.ref f)=true):Fun K x qual st f (PySem.W.fnOf x qual (aB st) (au st) (af st) .none kV doc pm an cdv ct):=⟨⟨oc,od,kV,doc,pm,an,cdv,ct,osl,rfl,l,c⟩,k⟩
end
theorem jJ {A:Around} {k:Nat} (hr:Room k A):A.units+1 < cLine:=Nat.lt_of_le_of_lt (Nat.add_le_add_left (by decide:1<=64) _) hr.units
section
variable {X:Cx}
theorem pv (i:Nat) {x:Str} {pos:Pos} (hN:X.N[i]?=some x:=by rfl) (hv:Vis X.env.scope x:=by first | exact Or.inl rfl | exact Or.inr (Or.inl rfl) | exact Or.inr (Or.inr rfl)) (hd:(x == ("__debug__" : Str))=false:=by decide)
  (hcd:(x == ("__classdict__" : Str))=false:=by decide):PE X (.Name x pos) (DG i):=fZ hN hv hd hcd
end
theorem sS {A B:Prop} (h:B):if false=true then A else B:=by
 rw [Zp Zh]
 exact h
theorem sD {A B:Prop} (h:A):if true=true then A else B:=by
 rw [Zr rfl]
 exact h
noncomputable def aJ (H H':Hp):Prop:=∀ b o,H b=some o->H' b=some o
theorem aJ.refl (H:Hp):aJ H H:=fun _ _ h=>h
theorem aJ.trans {H H1 H2:Hp} (a:aJ H H1) (b:aJ H1 H2):aJ H H2:=fun c o h=>b c o (a c o h)
theorem aJ.free {H H':Hp} (e:aJ H H') {l:Addr} (h:H' l=Option.none):H l=Option.none:=by
 cases q:H l with
 | none=>rfl
 | some o =>
  rw [e l o q] at h
  cases h
end L2
end
section
namespace NK
open PySem PySem.Spec PyProof.Rows
variable {prog:Program} {w:World} {K:Type} [DecidableEq K] {knd:KeyKind prog w K} {A:Around} {E:Z2} {s:Shared}
end NK
end
section
namespace L2
open PySem PySem.Spec PyProof.Rows
noncomputable abbrev mH:=List (Wu)
noncomputable def hN (k:mH):Int:=reduceHash (Builtin.Tuple.tupleHashOf (k.map fun x=>reduceHash (Builtin.Tuple.tupleHashOf (x.map hashInt))))
noncomputable def D9 (x:mH×Addr×Value):DictEntry:=⟨hN x.1,.ref x.2.1,x.2.2⟩
noncomputable abbrev KN:List (mH×Addr×V)->List (mH×Addr×Value)->Prop:=Paired fun p q=>p.1=q.1/\p.2.1=q.2.1/\RelV p.2.2 q.2.2
noncomputable def DN (a:Addr) (kvs:List (mH×Addr×V)):HO:=.ext fun h=>kvs.length<=sizeLine/\(a == sysModules)=false/\∃ xs:List (mH×Addr×Value),KN kvs xs ∧
 ∃ o es ep,h.get? a=some o/\o.ExactDict/\o.data=.dict es ep/\es.toList=xs.map D9/\(xs.map (·.1)).Nodup
noncomputable def NAt (H:Hp) (k:mH) (b:Addr):Prop:=∃ cs:Wy,H b=some (.tup (cs.map V.ref))/\Paired (fun (x:Wu) (c:Addr)=>H c=some (.tup (x.map V.int))) k cs
theorem NAt.mono {H H':Hp} {k:mH} {b:Addr} (x:NAt H k b) (t:∀ a xs,H a=some (.tup xs)->H' a=some (.tup xs)):NAt H' k b:=by
 obtain ⟨cs,h,r⟩:=x
 exact ⟨cs,t _ _ h,Paired.mapP r fun _ _ z=>t _ _ z⟩
end L2
end
section
namespace VS
open PySem PySem.Spec PyProof.Rows L2
noncomputable def sx (s:Tx):Str:=⟨s.toArray⟩
noncomputable def mw (s:Tx):Prop:=s.length<=fu/\∀ c∈s,c < 1114112
noncomputable abbrev Me:=Nat->Option V
structure Gx where
 K:X4
 ct:Nat->Addr×(Nat->Str)
 me:Me:=fun _=>none
noncomputable def Gx.at (G:Gx) (m:Me):Gx:=⟨G.K,G.ct,m⟩
noncomputable def ba:Key->T
 | .inl i=>.int i
 | .inr x=>.str x.cps.toList
noncomputable def nkT (k:mH):T:=.tup (k.map fun x=>T.tup (x.map T.int))
noncomputable def km (K:X4) (H:Hp) (a:Addr) (ns:Wu):Prop :=
 (∃ o,H a=some (.frz o (.lst (ns.map V.int)))) ∨
  ∃ (o:Obj) (its:Array Value) (n:Nat),K.lookup a=some o/\o.cls=.type "list" ∧ o.dict=none/\o.data=.seq its n/\its.size<=sizeLine/\aV (ns.map V.int) its.toList
mutual
inductive Rp (G:Gx) (H:Hp):V->T->Wy->Prop
 | non:Rp G H .non .non []
 | bl (b:Bool):Rp G H (.bl b) (.bl b) []
 | int (i:Int):Rp G H (.int i) (.int i) []
 | str (s:Tx):mw s->Rp G H (.str (sx s)) (.str s) []
 | scr {a:Addr} {ns:Wu}:km G.K H a ns->Rp G H (.ref a) (.scr ns) []
 | tup {a:Addr} {vs:List V} {ts:Wp} {Fs:Xd}:H a=some (.tup vs)->RpL G H vs ts Fs->Rp G H (.ref a) (.tup ts) Fs.flatten
 | lst {a:Addr} {vs:List V} {ts:Wp} {Fs:Xd}:H a=some (.lst vs)->RpL G H vs ts Fs->Rp G H (.ref a) (.lst ts) (a :: Fs.flatten)
 | dct {a:Addr} {ks:List Key} {vs:List V} {ts:Wp} {Fs:Xd}:H a=some (.dK (ks.zip vs))->ks.length=vs.length->RpL G H vs ts Fs->Rp G H (.ref a) (.dct 0 ((ks.map ba).zip ts)) (a :: Fs.flatten)
 | dctT {a:Addr} {ks:List (List Key)} {vs:List V} {ts:Wp} {Fs:Xd}:H a=some (.dT (ks.zip vs))->ks.length=vs.length->RpL G H vs ts Fs->Rp G H (.ref a) (.dct 1 ((ks.map fun k=>T.tup (k.map ba)).zip ts)) (a :: Fs.flatten)
 | dctN {a:Addr} {ks:List (mH×Addr)} {vs:List V} {ts:Wp} {Fs:Xd}:H a=some (DN a ((ks.zip vs).map fun p=>(p.1.1,p.1.2,p.2)))->ks.length=vs.length->(∀ p∈ks,NAt H p.1 p.2)->RpL G H vs ts Fs->Rp G H (.ref a) (.dct 2 ((ks.map fun p=>nkT p.1).zip ts)) (a :: Fs.flatten)
 | dctZ {a:Addr} {o:Obj} {ks:List Key} {vs:List V} {ts:Wp} {Fs:Xd}:H a=some (.frz o (.dK (ks.zip vs)))->ks.length=vs.length->RpL G H vs ts Fs->Rp G H (.ref a) (.dct 3 ((ks.map ba).zip ts)) Fs.flatten
 | exc {c:Nat} {a:Addr} {o:Obj}:H a=some (.frz o (.own a))->(o.cls=.ref (G.ct c).1/\o.dict=none/\∃ vs,o.data=.fields vs)->Rp G H (.ref a) (.obj c []) []
 | ins {c:Nat} {a dx:Addr} {b:Bool} {ks:Wv} {vs:List V} {ts:Wp} {Fs:Xd}:H a=some (.ins (G.ct (c+1)).1 dx ((ks.map (G.ct (c+1)).2).zip vs))->ks.length=vs.length->(b=true->G.me 0=some (.ref a))->RpL G H vs ts Fs->Rp G H (.ref a) (.obj (c+1) ((0,.bl b) :: ks.zip ts)) (a :: Fs.flatten)
 | mk {m:Nat} {a:Addr} {t:T} {F:Wy}:G.me m=some (.ref a)->Rp G H (.ref a) t F->Rp G H (.ref a) (.obj 0 [(0,.bl true),(m,t)]) F
inductive RpL (G:Gx) (H:Hp):List V->Wp->Xd->Prop
 | nil:RpL G H [] [] []
 | cons {v:V} {t:T} {F:Wy} {vs:List V} {ts:Wp} {Fs:Xd}:Rp G H v t F->RpL G H vs ts Fs->RpL G H (v :: vs) (t :: ts) (F :: Fs)
end
structure Kept (H H':Hp):Prop where
 tup:∀ a xs,H a=some (.tup xs)->H' a=some (.tup xs)
 frz:∀ a o u,H a=some (.frz o u)->H' a=some (.frz o u)
theorem Kept.refl (H:Hp):Kept H H:=⟨fun _ _ h=>h,fun _ _ _ h=>h⟩
theorem Kept.trans {H H1 H2:Hp} (a:Kept H H1) (b:Kept H1 H2):Kept H H2:=⟨fun c x h=>b.tup c x (a.tup c x h),fun c o u h=>b.frz c o u (a.frz c o u h)⟩
theorem Kept.of {H H':Hp} (e:aJ H H'):Kept H H':=⟨fun a _ h=>e a _ h,fun a _ _ h=>e a _ h⟩
theorem Kept.upd {H:Hp} {a:Addr} {o:HO} (mu:Mut (H a)\/H a=none):Kept H (upd H a o):=by
 have ne:∀ b u,H b=some u->¬ Mut (some u)->b ≠ a:=fun b u h nm e=>by
  subst e
  rcases mu with m | m
  ·rw [h] at m;exact nm m
  ·rw [h] at m;cases m
 exact ⟨fun b xs h=>by rw [aI (ne b _ h fun z=>z)];exact h,fun b o u h=>by rw [aI (ne b _ h fun z=>z)];exact h⟩
theorem km.kept {K:X4} {H H':Hp} {a:Addr} {ns:Wu} (h:km K H a ns) (k:Kept H H'):km K H' a ns:=by
 rcases h with ⟨o,e⟩ | h
 ·exact .inl ⟨o,k.frz _ _ _ e⟩
 ·exact .inr h
theorem km.seq {K:X4} {H:Hp} {a:Addr} {ns:Wu} (h:km K H a ns):SqL K H a (ns.map V.int):=by
 rcases h with ⟨o,e⟩ | h
 ·exact .inl (.inr ⟨o,e⟩)
 ·exact .inr h
theorem oX {H H':Hp} {a:Addr} {F:Wy} (f:∀ b∈a :: F,∀ o,H b=some o->H' b=some o):∀ b∈F,∀ o,H b=some o->H' b=some o:=fun b m=>f b (Zx _ m)
theorem rS {H H':Hp} {F:Wy} {Fs:Xd} (f:∀ b∈(F :: Fs).flatten,∀ o,H b=some o->H' b=some o):(∀ b∈F,∀ o,H b=some o->H' b=some o)/\∀ b∈Fs.flatten,∀ o,H b=some o->H' b=some o:=by
 rw [ZL] at f
 exact ⟨fun b m=>f b (Z9 _ m),fun b m=>f b (ZW _ m)⟩
theorem Rp.keep {G:Gx} {H H':Hp} (k:Kept H H') {v:V} {t:T} {F:Wy} (r:Rp G H v t F):(∀ a∈F,∀ o,H a=some o->H' a=some o)->Rp G H' v t F :=
 Rp.rec (motive_1:=fun v t F _=>(∀ a∈F,∀ o,H a=some o->H' a=some o)->Rp G H' v t F) (motive_2:=fun vs ts Fs _=>(∀ a∈Fs.flatten,∀ o,H a=some o->H' a=some o)->RpL G H' vs ts Fs)
  (fun _=>.non) (fun b _=>.bl b) (fun i _=>.int i) (fun s h _=>.str s h) (fun h _=>.scr (h.kept k)) (fun h _ ih f=>.tup (k.tup _ _ h) (ih f)) (fun h _ ih f=>.lst (f _ Zt _ h) (ih (oX f))) (fun h l _ ih f=>.dct (f _ Zt _ h) l (ih (oX f))) (fun h l _ ih f=>.dctT (f _ Zt _ h) l (ih (oX f)))
  (fun h l n _ ih f=>.dctN (f _ Zt _ h) l (fun p m=>(n p m).mono k.tup) (ih (oX f))) (fun h l _ ih f=>.dctZ (k.frz _ _ _ h) l (ih f)) (fun h hc _=>.exc (k.frz _ _ _ h) hc) (fun h l m _ ih f=>.ins (f _ Zt _ h) l m (ih (oX f))) (fun h _ ih f=>.mk h (ih f)) (fun _=>.nil) (fun _ _ i1 i2 f=>.cons (i1 (rS f).1) (i2 (rS f).2)) r
theorem RpL.keep {G:Gx} {H H':Hp} (k:Kept H H'):∀ {vs:List V} {ts:Wp} {Fs:Xd},RpL G H vs ts Fs->(∀ a∈Fs.flatten,∀ o,H a=some o->H' a=some o)->RpL G H' vs ts Fs
 | _,_,_,.nil,_=>.nil
 | _,_,_,.cons r q,f=>.cons (r.keep k (rS f).1) (RpL.keep k q (rS f).2)
theorem Rp.same {G:Gx} {H H':Hp} (e:aJ H H') {v:V} {t:T} {F:Wy} (r:Rp G H v t F):Rp G H' v t F:=r.keep (Kept.of e) fun a _ o h=>e a o h
theorem RpL.same {G:Gx} {H H':Hp} (e:aJ H H') {v:List V} {t:Wp} {F:Xd} (r:RpL G H v t F):RpL G H' v t F:=r.keep (Kept.of e) fun a _ o h=>e a o h
theorem uF {H:Hp} {a:Addr} {F:Wy} (h:Mut (H a)) (ih:∀ b∈F,Mut (H b)):∀ b∈a :: F,Mut (H b):=fun b m=>(Zi.mp m).elim (fun e=>e ▸ h) (ih b)
theorem ve {H:Hp} {a:Addr} {o:HO} (h:H a=some o) (m:Mut (some o)):Mut (H a):=by rw [h];exact m
theorem Dw {H:Hp} {F:Wy} {Fs:Xd} (h1:∀ b∈F,Mut (H b)) (h2:∀ b∈Fs.flatten,Mut (H b)):∀ b∈(F :: Fs).flatten,Mut (H b):=fun b m=>by
 rw [ZL] at m
 exact (Zg.mp m).elim (h1 b) (h2 b)
theorem Rp.dom {G:Gx} {H:Hp} {v:V} {t:T} {F:Wy} (r:Rp G H v t F):∀ a∈F,Mut (H a) :=
 Rp.rec (motive_1:=fun v t F _=>∀ a∈F,Mut (H a)) (motive_2:=fun vs ts Fs _=>∀ a∈Fs.flatten,Mut (H a))
  (fun _ m=>nomatch m) (fun _ _ m=>nomatch m) (fun _ _ m=>nomatch m) (fun _ _ _ m=>nomatch m) (fun _ _ m=>nomatch m) (fun _ _ ih=>ih) (fun h _ ih=>uF (ve h True.intro) ih) (fun h _ _ ih=>uF (ve h True.intro) ih) (fun h _ _ ih=>uF (ve h True.intro) ih)
  (fun h _ _ _ ih=>uF (ve h True.intro) ih) (fun _ _ _ ih=>ih) (fun _ _ _ m=>nomatch m) (fun h _ _ _ ih=>uF (ve h True.intro) ih) (fun _ _ ih=>ih) (fun _ m=>nomatch m) (fun _ _ i1 i2=>Dw i1 i2) r
theorem RpL.dom {G:Gx} {H:Hp}:∀ {vs:List V} {ts:Wp} {Fs:Xd},RpL G H vs ts Fs->∀ a∈Fs.flatten,Mut (H a)
 | _,_,_,.nil=>fun _ m=>nomatch m
 | _,_,_,.cons r q=>Dw r.dom (RpL.dom q)
theorem Mut.ne_none {o:Option HO} (m:Mut o):o ≠ none:=fun e=>by subst e;exact m
theorem D3 {F:Wy} {Fs:Xd} {t:T} {ts:Wp} (h1:VS.imm t=true->F=[]) (h2:VS.fj ts=true->Fs.flatten=[]) (i:VS.fj (t :: ts)=true):(F :: Fs).flatten=[]:=by
 simp only [VS.fj,Zf] at i
 rw [ZL,h1 i.1,h2 i.2]
 rfl
theorem Rp.imm {G:Gx} {H:Hp} {v:V} {t:T} {F:Wy} (r:Rp G H v t F):VS.imm t=true->F=[] :=
 Rp.rec (motive_1:=fun v t F _=>VS.imm t=true->F=[]) (motive_2:=fun vs ts Fs _=>VS.fj ts=true->Fs.flatten=[])
  (fun _=>rfl) (fun _ _=>rfl) (fun _ _=>rfl) (fun _ _ _=>rfl) (fun _ _=>rfl) (fun _ _ ih i=>ih (by simpa [VS.imm] using i)) (fun _ _ _ i=>absurd (show false=true from i) Zh) (fun _ _ _ _ i=>absurd (show false=true from i) Zh) (fun _ _ _ _ i=>absurd (show false=true from i) Zh)
  (fun _ _ _ _ _ i=>absurd (show false=true from i) Zh) (fun _ _ _ _ i=>absurd (show false=true from i) Zh) (fun _ _ _=>rfl) (fun _ _ _ _ _ i=>absurd (show false=true from i) Zh) (fun _ _ _ i=>absurd (show false=true from i) Zh) (fun _=>rfl) (fun _ _ i1 i2 i=>D3 i1 i2 i) r
theorem RpL.imm {G:Gx} {H:Hp}:∀ {vs:List V} {ts:Wp} {Fs:Xd},RpL G H vs ts Fs->VS.fj ts=true->Fs.flatten=[]
 | _,_,_,.nil,_=>rfl
 | _,_,_,.cons r q,i=>D3 r.imm (RpL.imm q) i
theorem RpL.len {G:Gx} {H:Hp}:∀ {vs:List V} {ts:Wp} {Fs:Xd},RpL G H vs ts Fs->vs.length=ts.length/\Fs.length=ts.length
 | _,_,_,.nil=>⟨rfl,rfl⟩
 | _,_,_,.cons _ q=>by
  have:=RpL.len q
  simp only [Za]
  lia
theorem RpL.get {G:Gx} {H:Hp}:∀ {vs:List V} {ts:Wp} {Fs:Xd} (i:Nat) {t:T},RpL G H vs ts Fs->ts[i]?=some t->∃ v F,vs[i]?=some v/\Fs[i]?=some F/\Rp G H v t F
 | _,_,_,_,_,.nil,e=>by simp at e
 | _,_,_,0,_,.cons r _,e=>by
  simp at e
  subst e
  exact ⟨_,_,rfl,rfl,r⟩
 | _,_,_,i+1,_,.cons _ q,e=>by
  obtain ⟨v,F,h1,h2,h3⟩:=RpL.get i q (by simpa using e)
  exact ⟨v,F,by simpa using h1,by simpa using h2,h3⟩
theorem RpL.append {G:Gx} {H:Hp}:∀ {vs:List V} {ts:Wp} {Fs:Xd} {us:List V} {rs:Wp} {Gs:Xd},RpL G H vs ts Fs->RpL G H us rs Gs->RpL G H (vs++us) (ts++rs) (Fs++Gs)
 | _,_,_,_,_,_,.nil,s=>s
 | _,_,_,_,_,_,.cons r q,s=>.cons r (RpL.append q s)
theorem RpL.take {G:Gx} {H:Hp}:∀ {vs:List V} {ts:Wp} {Fs:Xd} (n:Nat),RpL G H vs ts Fs->RpL G H (vs.take n) (ts.take n) (Fs.take n)
 | _,_,_,0,_=>by simpa using RpL.nil
 | _,_,_,n+1,.nil=>.nil
 | _,_,_,n+1,.cons r q=>.cons r (RpL.take n q)
theorem RpL.drop {G:Gx} {H:Hp}:∀ {vs:List V} {ts:Wp} {Fs:Xd} (n:Nat),RpL G H vs ts Fs->RpL G H (vs.drop n) (ts.drop n) (Fs.drop n)
 | _,_,_,0,q=>q
 | _,_,_,n+1,.nil=>.nil
 | _,_,_,n+1,.cons r q=>RpL.drop n q
noncomputable def jq:Cell->T
 | .pu t=>t
 | .ow t=>t
noncomputable abbrev Fps:=Nat->Wy
structure SR (G:Gx) (Φ:Fps) (η:VS.Env) (σ:L2.St) (H:Hp):Prop where
 len:η.length=σ.length
 rp:∀ i c,η[i]?=some (some c)->∃ v,σ[i]?=some (some v)/\Rp G H v (jq c) (Φ i)
 nd:∀ i t,η[i]?=some (some (.ow t))->(Φ i).Nodup
 sep:∀ i j t c,η[i]?=some (some (.ow t))->η[j]?=some (some c)->i ≠ j->∀ a∈Φ i,a ∉ Φ j
noncomputable def dI (Φ:Fps) (η:VS.Env) (a:Addr):Prop:=∃ j t,η[j]?=some (some (.pu t))/\a∈Φ j
noncomputable def cK (Φ:Fps) (η:VS.Env) (a:Addr):Prop:=∃ j t,η[j]?=some (some (.ow t))/\a∈Φ j
noncomputable def Fp (Φ:Fps) (η:VS.Env) (H:Hp):Md->Wy->Prop
 | .fr,F=>F.Nodup/\∀ a∈F,H a=none
 | .pu,F=>∀ a∈F,H a=none\/dI Φ η a
 | .bo,F=>∀ a∈F,H a=none\/dI Φ η a\/cK Φ η a
theorem SR.same {G:Gx} {Φ:Fps} {η:VS.Env} {σ:L2.St} {H H':Hp} (s:SR G Φ η σ H) (e:aJ H H'):SR G Φ η σ H' :=
 ⟨s.len,fun i c h=>let ⟨v,h1,h2⟩:=s.rp i c h;⟨v,h1,h2.same e⟩,s.nd,s.sep⟩
theorem SR.pu_dom {G:Gx} {Φ:Fps} {η:VS.Env} {σ:L2.St} {H:Hp} {a:Addr} (s:SR G Φ η σ H) (h:dI Φ η a):Mut (H a):=by
 obtain ⟨j,t,h1,h2⟩:=h
 obtain ⟨v,_,r⟩:=s.rp j _ h1
 exact r.dom a h2
theorem SR.ow_dom {G:Gx} {Φ:Fps} {η:VS.Env} {σ:L2.St} {H:Hp} {a:Addr} (s:SR G Φ η σ H) (h:cK Φ η a):Mut (H a):=by
 obtain ⟨j,t,h1,h2⟩:=h
 obtain ⟨v,_,r⟩:=s.rp j _ h1
 exact r.dom a h2
theorem Fp.nil {Φ:Fps} {η:VS.Env} {H:Hp} {m:Md}:Fp Φ η H m []:=by
 cases m
 ·exact ⟨Yo,fun a h=>by simp at h⟩
 ·exact fun a h=>by simp at h
 ·exact fun a h=>by simp at h
theorem Fp.bo {Φ:Fps} {η:VS.Env} {H:Hp} {F:Wy}:∀ {m:Md},Fp Φ η H m F->Fp Φ η H .bo F
 | .fr,h=>fun a m=>.inl (h.2 a m)
 | .pu,h=>fun a m=>(h a m).elim .inl fun z=>.inr (.inl z)
 | .bo,h=>h
theorem Fp.pu {Φ:Fps} {η:VS.Env} {H:Hp} {F:Wy}:∀ {m:Md},m ≠ .bo->Fp Φ η H m F->Fp Φ η H .pu F
 | .fr,_,h=>fun a m=>.inl (h.2 a m)
 | .pu,_,h=>h
 | .bo,n,_=>absurd rfl n
theorem Fp.back {Φ:Fps} {η:VS.Env} {H H':Hp} (e:aJ H H') {F:Wy}:∀ {m:Md},Fp Φ η H' m F->Fp Φ η H m F
 | .fr,h=>⟨h.1,fun a m=>e.free (h.2 a m)⟩
 | .pu,h=>fun a m=>(h a m).imp e.free id
 | .bo,h=>fun a m=>(h a m).imp e.free id
theorem Fp.up {G:Gx} {Φ:Fps} {η:VS.Env} {H H':Hp} {m:Md} {v:V} {t:T} {F:Wy} (f:Fp Φ η H m F) (r:Rp G H' v t F):Fp Φ η H (VS.up m t).1 F:=by
 unfold VS.up
 by_cases h:VS.imm t=true
 ·rw [r.imm h]
  exact Fp.nil
 ·simp only [h,if_false,YF]
  exact f
noncomputable def tE (G:Gx) (c:Ex):TE:=fun σ H Q=>∃ Φ η m r,SR G Φ η σ H/\c η=some (m,r)/\∀ v H' F,aJ H H'->Rp G H' v r F->Fp Φ η H m F->Q v H'
noncomputable def PV (G:Gx) (X:Cx) (e:Expr) (c:Ex):Prop:=PE X e (tE G c)
theorem PE.weak {X:Cx} {e:Expr} {t t':TE} (h:PE X e t) (w:∀ σ H Q,t' σ H Q->t σ H Q):PE X e t':=fun pins s σ H Q I q=>h pins s σ H Q I (w σ H Q q)
theorem PT.weak {X:Cx} {e:Expr} {t t':TT} (h:PT X e t) (w:∀ σ H Q,t' σ H Q->t σ H Q):PT X e t':=fun pins s σ H Q I q=>h pins s σ H Q I (w σ H Q q)
theorem PA.weak {X:Cx} {e:List Expr} {t t':TA} (h:PA X e t) (w:∀ σ H Q,t' σ H Q->t σ H Q):PA X e t':=fun pos pins s σ H Q I q=>h pos pins s σ H Q I (w σ H Q q)
noncomputable def tT (G:Gx) (c:Ex):TT:=fun σ H Q=>∃ Φ η m r b,SR G Φ η σ H/\c η=some (m,r)/\tru r=some b/\∀ H',aJ H H'->Q b H'
noncomputable def PVT (G:Gx) (X:Cx) (e:Expr) (c:Ex):Prop:=PT X e (tT G c)
noncomputable def frs (l:Wr) (Fs:Xd):Wy:=match l,Fs with
 | v :: l,F :: Fs=>match v.1 with
  | .fr=>F++frs l Fs
  | _=>frs l Fs
 | _,_=>[]
structure FpL (Φ:Fps) (η:VS.Env) (H:Hp) (l:Wr) (Fs:Xd):Prop where
 each:∀ (i:Nat) v F,l[i]?=some v->Fs[i]?=some F->Fp Φ η H v.1 F
 nd:(frs l Fs).Nodup
noncomputable def tEs (G:Gx) (c:Exs):TA:=fun σ H Q=>∃ Φ η l,SR G Φ η σ H/\c η=some l/\∀ vs H' Fs,aJ H H'->RpL G H' vs (trees l) Fs->FpL Φ η H l Fs->Q vs H'
noncomputable def PVs (G:Gx) (X:Cx) (es:List Expr) (c:Exs):Prop:=PA X es (tEs G c)
section
variable {G:Gx} {X:Cx} {a b c:Expr} {ca cb cc:Ex} {pos:Pos}
theorem A1 {i j pos}:PV G X (.Constant (.int i) j pos) (eC (.int i)):=PE.weak n8 fun σ H Q hq=>by
 obtain ⟨Φ,η,m,r,s,e,k⟩:=hq
 cases (show some (Md.fr,T.int i)=some (m,r) from e)
 exact k _ _ _ (aJ.refl _) (.int i) Fp.nil
theorem Cr {i j pos}:PV G X (.Constant (.bool i) j pos) (eC (.bl i)):=PE.weak Ds fun σ H Q hq=>by
 obtain ⟨Φ,η,m,r,s,e,k⟩:=hq
 cases (show some (Md.fr,T.bl i)=some (m,r) from e)
 exact k _ _ _ (aJ.refl _) (.bl i) Fp.nil
theorem zX {j pos}:PV G X (.Constant .none j pos) (eC .non):=PE.weak Ai fun σ H Q hq=>by
 obtain ⟨Φ,η,m,r,s,e,k⟩:=hq
 cases (show some (Md.fr,T.non)=some (m,r) from e)
 exact k _ _ _ (aJ.refl _) .non Fp.nil
theorem BP {x:Str} {t:Tx} {j pos} (h:x=sx t:=by decide +kernel) (hl:mw t:=by decide):PV G X (.Constant (.str x) j pos) (eC (.str t)):=PE.weak BZ fun σ H Q hq=>by
 obtain ⟨Φ,η,m,r,s,e,k⟩:=hq
 cases (show some (Md.fr,T.str t)=some (m,r) from e)
 subst h
 exact k _ _ _ (aJ.refl _) (.str t hl) Fp.nil
theorem Bk (i:Nat) {x:Str} {pos:Pos} (hN:X.N[i]?=some x:=by rfl) (hv:Vis X.env.scope x:=by first | exact Or.inl rfl | exact Or.inr (Or.inl rfl) | exact Or.inr (Or.inr rfl)) (hd:(x == ("__debug__" : Str))=false:=by decide)
  (hcd:(x == ("__classdict__" : Str))=false:=by decide):PV G X (.Name x pos) (ae i):=PE.weak (fZ hN hv hd hcd) fun σ H Q hq=>by
 obtain ⟨Φ,η,m,r,s,e,k⟩:=hq
 unfold ae at e
 split at e
 ·rename_i t h
  obtain ⟨v,h1,h2⟩:=s.rp _ _ h
  have e':VS.up .pu t=(m,r):=Zn e
  have er:t=r:=congrArg Prod.snd e'
  have em:(VS.up .pu t).1=m:=congrArg Prod.fst e'
  rw [← er,← em] at k
  refine ⟨v,h1,k v H (Φ i) (aJ.refl _) h2 ?_⟩
  have f:Fp Φ η H .pu (Φ i):=fun a ha=>.inr ⟨i,_,h,ha⟩
  exact f.up h2
 ·rename_i t h
  obtain ⟨v,h1,h2⟩:=s.rp _ _ h
  cases e
  exact ⟨v,h1,k v H (Φ i) (aJ.refl _) h2 fun a ha=>.inr (.inr ⟨i,_,h,ha⟩)⟩
 ·cases e
theorem zh {x:Str} {u:Value} {v:V} {t:T} {pos:Pos} (hg:Gl X x) (hm:X.mg x=some u) (r:RelV v u) (hr:∀ H,Rp G H v t []) (hd:(x == ("__debug__" : Str))=false:=by decide):PV G X (.Name x pos) (eC t) :=
 PE.weak (yj hg hm r hd) fun σ H Q hq=>by
  obtain ⟨Φ,η,m,t',s,e,k⟩:=hq
  cases (show some (Md.fr,t)=some (m,t') from e)
  exact k _ _ _ (aJ.refl _) (hr H) Fp.nil
structure Two (G:Gx) (Φ:Fps) (η:VS.Env) (H0 H:Hp) (x y:Val) (u w:V) (F1 F2:Wy):Prop where
 same:aJ H0 H
 r1:Rp G H u x.2 F1
 r2:Rp G H w y.2 F2
 f1:Fp Φ η H0 x.1 F1
 f2:Fp Φ η H0 y.1 F2
 nd:x.1=.fr->y.1=.fr->(F1++F2).Nodup
noncomputable def gm (G:Gx) (r:R2) (f:Val->Val->Wq):Prop:=∀ (Φ:Fps) (η:VS.Env) (H0 H:Hp) (x y:Val) (u w:V) (F1 F2:Wy) (m:Md) (t:T) (Q:VK),Two G Φ η H0 H x y u w F1 F2->f x y=some (m,t) →
 (∀ v H' F,aJ H H'->Rp G H' v t F->Fp Φ η H0 m F->Q v H')->r u w H Q
theorem uL {σ:L2.St} {H:Hp} {Q:V->V->Hp->Prop} {Φ:Fps} {η:VS.Env} {x y:Val} (s:SR G Φ η σ H) (ea:ca η=some x) (eb:cb η=some y)
  (k:∀ u w H2 F1 F2,Two G Φ η H H2 x y u w F1 F2->Q u w H2):tE G ca σ H fun u H1=>tE G cb σ H1 fun w H2=>Q u w H2:=by
 refine ⟨Φ,η,x.1,x.2,s,ea,fun u H1 F1 e1 r1 f1=>⟨Φ,η,y.1,y.2,s.same e1,eb,fun w H2 F2 e2 r2 f2=>k u w H2 F1 F2 ⟨e1.trans e2,r1.same e2,r2,f1,f2.back e1,fun hx hy=>?_⟩⟩⟩
 rw [hx] at f1
 rw [hy] at f2
 refine ZY.mpr ⟨f1.1,f2.1,fun a ha b hb z=>?_⟩
 subst z
 exact Mut.ne_none (r1.dom a ha) (f2.2 a hb)
theorem jT {r:R2} {f:Val->Val->Wq} (ok:gm G r f) {σ:L2.St} {H:Hp} {Q:VK} (h:tE G (e2 f ca cb) σ H Q):tOp r (tE G ca) (tE G cb) σ H Q:=by
 obtain ⟨Φ,η,m,t,s,e,k⟩:=h
 unfold e2 at e
 obtain ⟨x,ea,e⟩:=Zz.mp e
 obtain ⟨y,eb,e⟩:=Zz.mp e
 exact uL s ea eb fun u w H2 F1 F2 tw=>ok Φ η H H2 x y u w F1 F2 m t Q tw e fun v H' F e1 r1 f1=>k v H' F (tw.same.trans e1) r1 f1
theorem oZ {op:Operator} {r:R2} {f:Val->Val->Wq} (ho:OpR X (binaryOp op) r) (ok:gm G r f) (ha:PV G X a ca) (hb:PV G X b cb):PV G X (.BinOp a op b pos) (e2 f ca cb) :=
 PE.weak (Da ho ha hb) fun σ H Q h=>jT ok h
theorem AM {op:CmpOp} {r:R2} {f:Val->Val->Wq} (ho:OpR X (compareOp op) r) (ok:gm G r f) (ha:PV G X a ca) (hb:PV G X b cb) (hm:behindInMarks op b=false):PV G X (.Compare a [op] [b] pos) (e2 f ca cb) :=
 PE.weak (ym ho ha hb hm) fun σ H Q h=>jT ok h
noncomputable def Tells (f:Val->Val->Wq):Prop:=∀ x y m t,f x y=some (m,t)->∃ b,t=.bl b
theorem Rp.bl_inv {H:Hp} {v:V} {b:Bool} {F:Wy} (r:Rp G H v (.bl b) F):v=.bl b:=by cases r;rfl
theorem Rp.int_inv {H:Hp} {v:V} {b:Int} {F:Wy} (r:Rp G H v (.int b) F):v=.int b:=by cases r;rfl
theorem Rp.str_inv {H:Hp} {v:V} {b:Tx} {F:Wy} (r:Rp G H v (.str b) F):v=.str (sx b)/\mw b:=by cases r with | str _ h=>exact ⟨rfl,h⟩
theorem pR {c:Ex} {t:TE} {σ:L2.St} {H:Hp} {Q:Bool->Hp->Prop} (h:tT G c σ H Q) (ht:∀ η m r,c η=some (m,r)->∃ b,r=.bl b) (w:∀ Q,tE G c σ H Q->t σ H Q):uv t σ H Q:=by
 obtain ⟨Φ,η,m,r,b,s,e,eb,k⟩:=h
 refine w _ ⟨Φ,η,m,r,s,e,fun v H' F e1 r1 f1=>?_⟩
 obtain ⟨b',er⟩:=ht η m r e
 rw [er] at eb r1
 cases (show some b'=some b from eb)
 exact ⟨_,r1.bl_inv,k H' e1⟩
theorem gQ {op:CmpOp} {r:R2} {f:Val->Val->Wq} (ho:OpR X (compareOp op) r) (ok:gm G r f) (ht:Tells f) (ha:PV G X a ca) (hb:PV G X b cb) (hm:behindInMarks op b=false):PVT G X (.Compare a [op] [b] pos) (e2 f ca cb) :=
 PT.weak (y9 ho ha hb hm) fun σ H Q h=>pR h (fun η m r e=>by
  unfold e2 at e
  obtain ⟨x,_,e⟩:=Zz.mp e
  obtain ⟨y,_,e⟩:=Zz.mp e
  exact ht x y m r e) fun Q h=>jT ok h
theorem bF {Φ:Fps} {η:VS.Env} {H0 H:Hp} {m:Md} {t:T} {v:V} {Q:VK} (k:∀ v H' F,aJ H H'->Rp G H' v t F->Fp Φ η H0 m F->Q v H') (r:Rp G H v t []):Q v H:=k v H [] (aJ.refl _) r Fp.nil
theorem dS {H:Hp} {p:Addr} {o:HO} (h:H p=none):aJ H (upd H p o):=fun b o' e=>by rw [aI (d3 e h)];exact e
theorem Fp.new {Φ:Fps} {η:VS.Env} {H0:Hp} {p:Addr} {F:Wy} (h0:H0 p=none) (hp:p ∉ F):∀ {m:Md},Fp Φ η H0 m F->Fp Φ η H0 m (p :: F)
 | .fr,f=>⟨Ze.mpr ⟨hp,f.1⟩,fun a m=>(Zi.mp m).elim (fun e=>by rw [e];exact h0) (f.2 a)⟩
 | .pu,f=>fun a m=>(Zi.mp m).elim (fun e=>by rw [e];exact .inl h0) (f a)
 | .bo,f=>fun a m=>(Zi.mp m).elim (fun e=>by rw [e];exact .inl h0) (f a)
theorem ou {mj m:Md} {l:Wp} {t:T} (e:mkL mj l=some (m,t)):t=.lst l/\l.length<=fu/\m=(if fj l then .fr else mj):=by
 unfold mkL at e
 split at e
 ·rename_i h
  cases e
  exact ⟨rfl,h,rfl⟩
 ·cases e
theorem iF {Φ:Fps} {η:VS.Env} {H0 H:Hp} {mj m:Md} {l:Wp} {t:T} {vs:List V} {Fs:Xd} {Q:VK} (same:aJ H0 H) (e:mkL mj l=some (m,t)) (r:RpL G H vs l Fs) (f:Fp Φ η H0 mj Fs.flatten)
  (k:∀ v H' F,aJ H H'->Rp G H' v t F->Fp Φ η H0 m F->Q v H'):∀ p,H p=none->Q (.ref p) (upd H p (.lst vs)):=by
 intro p hp
 obtain ⟨rfl,hl,rfl⟩:=ou e
 refine k _ _ _ (dS hp) (.lst aF (r.same (dS hp))) ?_
 have np:p ∉ Fs.flatten:=fun m=>Mut.ne_none (r.dom p m) hp
 by_cases hi:fj l=true
 ·rw [hi,Zr rfl]
  rw [r.imm hi] at np ⊢
  exact Fp.nil.new (same.free hp) np
 ·rw [Zp hi]
  exact f.new (same.free hp) np
theorem Two.join {Φ:Fps} {η:VS.Env} {H0 H:Hp} {x y:Val} {u w:V} {F1 F2:Wy} (tw:Two G Φ η H0 H x y u w F1 F2) {F:Wy} (hF:F.Sublist (F1++F2)):Fp Φ η H0 (x.1.join y.1) F:=by
 obtain ⟨same,r1,r2,f1,f2,nd⟩:=tw
 have split:∀ a∈F,a∈F1\/a∈F2:=fun a ha=>Zg.mp (hF.subset ha)
 obtain ⟨m1,x⟩:=x
 obtain ⟨m2,y⟩:=y
 have both:∀ {P:Addr->Prop},(∀ a∈F1,P a)->(∀ a∈F2,P a)->∀ a∈F,P a:=fun h1 h2 a ha=>(split a ha).elim (h1 a) (h2 a)
 cases m1 <;> cases m2
 ·exact ⟨(nd rfl rfl).sublist hF,both f1.2 f2.2⟩
 ·exact both (fun a ha=>.inl (f1.2 a ha)) f2
 ·exact both (fun a ha=>.inl (f1.2 a ha)) f2
 ·exact both f1 (fun a ha=>.inl (f2.2 a ha))
 ·exact both f1 f2
 ·exact both (f1.bo) f2
 ·exact both f1 (fun a ha=>.inl (f2.2 a ha))
 ·exact both f1 (f2.bo)
 ·exact both f1 f2
theorem gr:fu=sizeLine:=rfl
theorem dW (s:Tx):(sx s).length=s.length:=rfl
theorem BW (s t:Tx):sx s++sx t=sx (s++t):=by
 show Str.append (sx s) (sx t)=_
 simp [sx,Str.append]
theorem Rp.lst_inv {H:Hp} {v:V} {l:Wp} {F:Wy} (r:Rp G H v (.lst l) F):∃ a vs Fs,v=.ref a/\F=a :: Fs.flatten/\H a=some (.lst vs)/\RpL G H vs l Fs:=by
 cases r with
 | lst h q=>exact ⟨_,_,_,rfl,rfl,h,q⟩
theorem Rp.tup_inv {H:Hp} {v:V} {l:Wp} {F:Wy} (r:Rp G H v (.tup l) F):∃ a vs Fs,v=.ref a/\F=Fs.flatten/\H a=some (.tup vs)/\RpL G H vs l Fs:=by
 cases r with
 | tup h q=>exact ⟨_,_,_,rfl,rfl,h,q⟩
theorem Rp.scr_inv {H:Hp} {v:V} {l:Wu} {F:Wy} (r:Rp G H v (.scr l) F):∃ a,v=.ref a/\F=[]/\km G.K H a l:=by
 cases r with
 | scr h=>exact ⟨_,rfl,rfl,h⟩
end
section
variable {G:Gx} {X:Cx}
noncomputable def DI:R2:=fun x y H Q=>rI0 (fun i j=>.int (i+j)) x y H Q\/(∃ i j,x=.str i/\y=.str j/\i.length+j.length<=sizeLine/\Q (.str (i++j)) H)\/DO x y H Q
theorem xi:OpR X (binaryOp .Add) DI:=Cm.or (qi.or A0)
theorem B7:gm G DI cn:=by
 intro Φ η H0 H x y u w F1 F2 m t Q tw e k
 have jn:=fun {F:Wy} (h:List.Sublist F (F1++F2))=>tw.join h
 obtain ⟨m1,x⟩:=x
 obtain ⟨m2,y⟩:=y
 obtain ⟨same,r1,r2,f1,f2,nd⟩:=tw
 unfold cn at e
 split at e
 ·rename_i i _ j e1 e2
  cases e1
  cases e2
  cases e
  exact .inl ⟨_,_,r1.int_inv,r2.int_inv,bF k (.int _)⟩
 ·rename_i s _ s' e1 e2
  cases e1
  cases e2
  split at e
  ·rename_i hl
   cases e
   refine .inr (.inl ⟨_,_,r1.str_inv.1,r2.str_inv.1,by rw [dW,dW,← gr];exact hl,?_⟩)
   rw [BW]
   exact bF k (.str _ ⟨by rw [Zs];exact hl,fun c hc=>(Zg.mp hc).elim (r1.str_inv.2.2 c) (r2.str_inv.2.2 c)⟩)
  ·cases e
 ·rename_i s _ s' e1 e2
  cases e1
  cases e2
  obtain ⟨a,vs,Fs,rfl,rfl,ha,ra⟩:=r1.lst_inv
  obtain ⟨b,us,Gs,rfl,rfl,hb,rb⟩:=r2.lst_inv
  obtain ⟨_,hl,_⟩:=ou e
  refine .inr (.inr ⟨a,b,vs,us,rfl,rfl,ha,hb,?_,iF same e (ra.append rb) (jn ?_) k⟩)
  ·rw [Zs] at hl
   rw [ra.len.1,rb.len.1,← gr]
   exact hl
  ·rw [Yt]
   exact (Z1 _ _).append (Z1 _ _)
 ·cases e
theorem AK:gm G (rI0 fun i j=>.int (i - j)) iU:=by
 intro Φ η H0 H x y u w F1 F2 m t Q tw e k
 obtain ⟨m1,x⟩:=x
 obtain ⟨m2,y⟩:=y
 obtain ⟨same,r1,r2,f1,f2,nd⟩:=tw
 unfold iU at e
 split at e
 ·rename_i e1 e2
  cases e1
  cases e2
  cases e
  exact ⟨_,_,r1.int_inv,r2.int_inv,bF k (.int _)⟩
 ·cases e
theorem ye:gm G (rI DX fun i j=>.int (i / j)) bD:=by
 intro Φ η H0 H x y u w F1 F2 m t Q tw e k
 obtain ⟨m1,x⟩:=x
 obtain ⟨m2,y⟩:=y
 obtain ⟨same,r1,r2,f1,f2,nd⟩:=tw
 unfold bD at e
 split at e
 ·rename_i e1 e2
  cases e1
  cases e2
  split at e
  ·rename_i h
   cases e
   exact ⟨_,_,r1.int_inv,r2.int_inv,h,bF k (.int _)⟩
  ·cases e
 ·cases e
theorem Cn:gm G (rI (fun _ j=>0 < j) fun i j=>.int (i % j)) oMod:=by
 intro Φ η H0 H x y u w F1 F2 m t Q tw e k
 obtain ⟨m1,x⟩:=x
 obtain ⟨m2,y⟩:=y
 obtain ⟨same,r1,r2,f1,f2,nd⟩:=tw
 unfold oMod at e
 split at e
 ·rename_i e1 e2
  cases e1
  cases e2
  split at e
  ·rename_i h
   cases e
   exact ⟨_,_,r1.int_inv,r2.int_inv,h,bF k (.int _)⟩
  ·cases e
 ·cases e
theorem lu:∀ (s t:Tx),ltx s t=decide (s < t)
 | [],[]=>by simp [ltx]
 | [],_ :: _=>by simp [ltx]
 | _ :: _,[]=>by simp [ltx]
 | a :: s,b :: t=>by
  unfold ltx
  rw [lu s t]
  by_cases h1:a < b
  ·simp [h1,Y3]
  ·by_cases h2:b < a
   ·have:¬ a=b:=by exact Nat.ne_of_gt h2
    simp [h1,h2,Y3,this]
   ·have:a=b:=by lia
    subst this
    simp [Y3]
noncomputable def rLt:R2:=fun x y H Q=>rI0 (fun i j=>.bl (decide (i < j))) x y H Q\/(∃ i j,x=.str i/\y=.str j/\Q (.bl (decide (i.cps.toList < j.cps.toList))) H)
theorem uE:OpR X (compareOp .Lt) rLt:=Dd.or sj
theorem zF:gm G rLt oLt:=by
 intro Φ η H0 H x y u w F1 F2 m t Q tw e k
 obtain ⟨m1,x⟩:=x
 obtain ⟨m2,y⟩:=y
 obtain ⟨same,r1,r2,f1,f2,nd⟩:=tw
 unfold oLt at e
 split at e
 ·rename_i e1 e2
  cases e1
  cases e2
  cases e
  exact .inl ⟨_,_,r1.int_inv,r2.int_inv,bF k (.bl _)⟩
 ·rename_i s _ s' e1 e2
  cases e1
  cases e2
  cases e
  refine .inr ⟨_,_,r1.str_inv.1,r2.str_inv.1,?_⟩
  have:decide ((sx s).cps.toList < (sx s').cps.toList)=ltx s s':=by rw [lu];exact decide_eq_decide.mpr (by simp [sx])
  rw [this]
  exact bF k (.bl _)
 ·cases e
theorem kS:Tells oLt:=by
 intro x y m t e
 unfold oLt at e
 split at e <;> first | (cases e;exact ⟨_,rfl⟩) | cases e
theorem A3:B64=2 ^ 64:=rfl
theorem Aw:gm G (rI yQ fun i j=>.int (i * j)) iO:=by
 intro Φ η H0 H x y u w F1 F2 m t Q tw e k
 obtain ⟨m1,x⟩:=x
 obtain ⟨m2,y⟩:=y
 obtain ⟨same,r1,r2,f1,f2,nd⟩:=tw
 unfold iO at e
 split at e
 ·rename_i e1 e2
  cases e1
  cases e2
  split at e
  ·rename_i h
   cases e
   refine ⟨_,_,r1.int_inv,r2.int_inv,?_,bF k (.int _)⟩
   rw [A3] at h
   exact h
  ·cases e
 ·cases e
theorem r9:OpR X (compareOp .LtE) (fun x y H Q=>∃ i j,x=.str i/\y=.str j/\Q (.bl (!decide (j.cps.toList < i.cps.toList))) H):=by
 intro pins s σ H x y v u Q I rx ry h
 obtain ⟨i,j,rfl,rfl,q⟩:=h
 obtain ⟨t,rfl⟩:=rx
 obtain ⟨t',rfl⟩:=ry
 exact PySem.P.le_str ⟨.bl _,H,I,rfl,q⟩
noncomputable def rLe:R2:=fun x y H Q=>rI0 (fun i j=>.bl (decide (i<=j))) x y H Q\/(∃ i j,x=.str i/\y=.str j/\Q (.bl (!decide (j.cps.toList < i.cps.toList))) H)
theorem B0:OpR X (compareOp .LtE) rLe:=C3.or r9
theorem DU:gm G rLe oLe:=by
 intro Φ η H0 H x y u w F1 F2 m t Q tw e k
 obtain ⟨m1,x⟩:=x
 obtain ⟨m2,y⟩:=y
 obtain ⟨same,r1,r2,f1,f2,nd⟩:=tw
 unfold oLe at e
 split at e
 ·rename_i e1 e2
  cases e1
  cases e2
  cases e
  exact .inl ⟨_,_,r1.int_inv,r2.int_inv,bF k (.bl _)⟩
 ·rename_i s _ s' e1 e2
  cases e1
  cases e2
  cases e
  refine .inr ⟨_,_,r1.str_inv.1,r2.str_inv.1,?_⟩
  have:decide ((sx s').cps.toList < (sx s).cps.toList)=ltx s' s:=by rw [lu];exact decide_eq_decide.mpr (by simp [sx])
  rw [this]
  exact bF k (.bl _)
 ·cases e
theorem u0:Tells oLe:=by
 intro x y m t e
 unfold oLe at e
 split at e <;> first | (cases e;exact ⟨_,rfl⟩) | cases e
theorem qd {n:Nat} {i:Int}:ixP n i=ixN n i:=by
 unfold ixP ixN
 by_cases h:0<=i
 ·rw [Zr h,Zr h]
 ·rw [Zp h,Zp h]
  by_cases h2:0<=i+n
  ·rw [Zr h2,Zr (by lia)]
  ·rw [Zp h2,Zp (by lia)]
theorem kR {α:Type} {l:List α} {i:Int} {k:Nat} {x:α} (h1:ixP l.length i=some k) (h2:l[k]?=some x):atI l i=some x:=by
 unfold atI
 rw [← qd,h1]
 exact h2
theorem cR {Fs:Xd} {F:Wy} {i:Nat} (h:Fs[i]?=some F):F.Sublist Fs.flatten:=by
 obtain ⟨hi,rfl⟩:=Zj.mp h
 exact List.sublist_flatten_of_mem (Z6 hi)
theorem Fp.sub {Φ:Fps} {η:VS.Env} {H:Hp} {F F':Wy} (h:F.Sublist F'):∀ {m:Md},Fp Φ η H m F'->Fp Φ η H m F
 | .fr,f=>⟨f.1.sublist h,fun a ha=>f.2 a (h.subset ha)⟩
 | .pu,f=>fun a ha=>f a (h.subset ha)
 | .bo,f=>fun a ha=>f a (h.subset ha)
theorem uy:gm G (rIx G.K) aN:=by
 intro Φ η H0 H x y u w F1 F2 m t Q tw e k
 obtain ⟨m1,x⟩:=x
 obtain ⟨m2,y⟩:=y
 obtain ⟨same,r1,r2,f1,f2,nd⟩:=tw
 unfold aN at e
 split at e
 ·rename_i m3 l m4 i e1 e2
  cases e1
  cases e2
  obtain ⟨j,h1,e⟩:=Zz.mp e
  obtain ⟨x,h2,e⟩:=Zy.mp e
  obtain ⟨a,vs,Fs,rfl,rfl,ha,ra⟩:=r1.lst_inv
  obtain ⟨v,F,g1,g2,g3⟩:=ra.get j h2
  refine .inl ⟨a,vs,i,v,rfl,r2.int_inv,SqL.of ha,kR (by rw [ra.len.1];exact h1) g1,?_⟩
  have f:=((f1.sub (Z1 _ _)).sub (cR g2)).up g3
  unfold VS.sub at e
  rw [e] at f
  have et:x=t:=congrArg Prod.snd e
  rw [et] at g3
  exact k v H F (aJ.refl _) g3 f
 ·rename_i m3 l m4 i e1 e2
  cases e1
  cases e2
  obtain ⟨j,h1,e⟩:=Zz.mp e
  obtain ⟨x,h2,e⟩:=Zy.mp e
  obtain ⟨a,vs,Fs,rfl,rfl,ha,ra⟩:=r1.tup_inv
  obtain ⟨v,F,g1,g2,g3⟩:=ra.get j h2
  refine .inr (.inl ⟨a,vs,i,v,rfl,r2.int_inv,SqT.of ha,kR (by rw [ra.len.1];exact h1) g1,?_⟩)
  have f:=(f1.sub (cR g2)).up g3
  unfold VS.sub at e
  rw [e] at f
  have et:x=t:=congrArg Prod.snd e
  rw [et] at g3
  exact k v H F (aJ.refl _) g3 f
 ·rename_i m3 l m4 i e1 e2
  cases e1
  cases e2
  obtain ⟨j,h1,e⟩:=Zz.mp e
  obtain ⟨x,h2,e⟩:=Zy.mp e
  cases e
  obtain ⟨a,rfl,rfl,sa⟩:=r1.scr_inv
  refine .inl ⟨a,l.map V.int,i,.int x,rfl,r2.int_inv,sa.seq,kR (by rw [Zv];exact h1) (by rw [ZP,h2];rfl),bF k (.int _)⟩
 ·rename_i m3 l m4 i e1 e2
  cases e1
  cases e2
  obtain ⟨j,h1,e⟩:=Zz.mp e
  obtain ⟨x,h2,e⟩:=Zy.mp e
  cases e
  obtain ⟨rfl,hl⟩:=r1.str_inv
  refine .inr (.inr ⟨sx l,i,x,rfl,r2.int_inv,by rw [dW,← gr];exact hl.1,kR (k:=j) (by simpa [sx] using h1) (by simpa [sx] using h2),?_⟩)
  exact bF k (.str [x] ⟨by show 1<=fu;decide,fun c hc=>by rw [Zb.mp hc];exact hl.2 x (Yc h2)⟩)
 ·cases e
end
section
variable {G:Gx} {X:Cx} {a b c e:Expr} {es:List Expr} {ca cb cc:Ex} {cs:Exs} {pos p:Pos}
theorem rV {x:Addr}:∀ {l:Wr} {Fs:Xd},x∈frs l Fs->∃ (i:Nat) (v:Val) (F:Wy),l[i]?=some v/\v.1=.fr/\Fs[i]?=some F/\x∈F
 | [],_,h=>by simp [frs] at h
 | _ :: _,[],h=>by simp [frs] at h
 | v :: l,F :: Fs,h=>by
  have go:x∈frs l Fs->∃ (i:Nat) (u:Val) (F':Wy),(v :: l)[i]?=some u/\u.1=.fr/\(F :: Fs)[i]?=some F'/\x∈F':=fun m=>by
   obtain ⟨i,u,F',h1,h2,h3,h4⟩:=rV m
   exact ⟨i+1,u,F',by simpa using h1,h2,by simpa using h3,h4⟩
  unfold frs at h
  split at h
  ·rename_i hv
   rcases Zg.mp h with h | h
   ·exact ⟨0,v,F,rfl,hv,rfl,h⟩
   ·exact go h
  ·exact go h
theorem yg:PVs G X [] ai:=PA.weak j5 fun σ H Q hq=>by
 obtain ⟨Φ,η,l,s,e,k⟩:=hq
 cases (show some ([]:Wr)=some l from e)
 exact k [] H [] (aJ.refl _) .nil ⟨fun i v F h=>by simp at h,by simp [frs]⟩
theorem uM (ha:PV G X e ca) (hr:PVs G X es cs) (hs:starEach (e :: es) X.env=(false,eval e X.env) :: starEach es X.env:=by rfl):PVs G X (e :: es) (ab ca cs):=PA.weak (dR ha hr hs) fun σ H Q hq=>by
 obtain ⟨Φ,η,l,s,e,k⟩:=hq
 unfold ab at e
 obtain ⟨x,ea,e⟩:=Zz.mp e
 obtain ⟨xs,er,e⟩:=Zz.mp e
 cases e
 refine ⟨Φ,η,x.1,x.2,s,ea,fun v H1 F e1 r1 f1=>⟨Φ,η,xs,s.same e1,er,fun vs H2 Fs e2 r2 f2=>k (v :: vs) H2 (F :: Fs) (e1.trans e2) (.cons (r1.same e2) r2) ⟨fun i u F' h1 h2=>?_,?_⟩⟩⟩
 ·cases i with
  | zero =>
   cases (show some x=some u from h1)
   cases (show some F=some F' from h2)
   exact f1
  | succ i=>exact (f2.each i u F' (by simpa using h1) (by simpa using h2)).back e1
 ·unfold frs
  split
  ·rename_i hx
   rw [hx] at f1
   refine ZY.mpr ⟨f1.1,f2.nd,fun y hy z hz q=>?_⟩
   subst q
   obtain ⟨i,u,F',h1,h2,h3,h4⟩:=rV hz
   have f:=f2.each i u F' h1 h3
   rw [h2] at f
   exact Mut.ne_none (r1.dom y hy) (f.2 y h4)
  ·exact f2.nd
theorem jG:∀ {l:Wr},cL l=.fr->∀ v∈l,v.1=.fr
 | [],_,v,h=>by simp at h
 | (m,t) :: r,e,v,h=>by
  have e':m.join (cL r)=.fr:=e
  have h1:m=.fr:=by
   revert e'
   cases m <;> cases cL r <;> simp [Md.join]
  have h2:cL r=.fr:=by
   revert e'
   cases m <;> cases cL r <;> simp [Md.join]
  rcases Zi.mp h with rfl | h
  ·exact h1
  ·exact jG h2 v h
theorem jD:∀ {l:Wr},cL l ≠ .bo->∀ v∈l,v.1 ≠ .bo
 | [],_,v,h=>by simp at h
 | (m,t) :: r,e,v,h=>by
  have e':m.join (cL r) ≠ .bo:=e
  have h1:m ≠ .bo:=by
   revert e'
   cases m <;> cases cL r <;> simp [Md.join]
  have h2:cL r ≠ .bo:=by
   revert e'
   cases m <;> cases cL r <;> simp [Md.join]
  rcases Zi.mp h with rfl | h
  ·exact h1
  ·exact jD h2 v h
theorem rK:∀ {l:Wr} {Fs:Xd},l.length=Fs.length->(∀ v∈l,v.1=.fr)->frs l Fs=Fs.flatten
 | [],[],_,_=>rfl
 | [],_ :: _,h,_=>by simp at h
 | _ :: _,[],h,_=>by simp at h
 | v :: l,F :: Fs,h,q=>by
  unfold frs
  rw [q v Zt,rK (by simpa using h) fun u hu=>q u (Zx _ hu)]
  rfl
theorem fP {x:Addr} {Fs:Xd} (h:x∈Fs.flatten):∃ (i:Nat) (F:Wy),Fs[i]?=some F/\x∈F:=by
 obtain ⟨F,hF,hx⟩:=List.mem_flatten.mp h
 obtain ⟨i,hi⟩:=List.mem_iff_getElem?.mp hF
 exact ⟨i,F,hi,hx⟩
theorem FpL.join {Φ:Fps} {η:VS.Env} {H:Hp} {l:Wr} {Fs:Xd} (f:FpL Φ η H l Fs) (hl:l.length=Fs.length):Fp Φ η H (cL l) Fs.flatten:=by
 have at':∀ x∈Fs.flatten,∃ v F,v∈l/\x∈F/\Fp Φ η H v.1 F:=fun x hx=>by
  obtain ⟨i,F,hi,hxF⟩:=fP hx
  have:i < l.length:=by
   have:=(Zj.mp hi).1
   lia
  exact ⟨l[i],F,Z6 this,hxF,f.each i _ F (Zo this) hi⟩
 cases e:cL l with
 | fr =>
  have al:=jG e
  refine ⟨by rw [← rK hl al];exact f.nd,fun x hx=>?_⟩
  obtain ⟨v,F,hv,hxF,q⟩:=at' x hx
  rw [al v hv] at q
  exact q.2 x hxF
 | pu =>
  have al:=jD (l:=l) (by rw [e];decide)
  intro x hx
  obtain ⟨v,F,hv,hxF,q⟩:=at' x hx
  exact Fp.pu (al v hv) q x hxF
 | bo =>
  intro x hx
  obtain ⟨v,F,hv,hxF,q⟩:=at' x hx
  exact q.bo x hxF
structure Args (G:Gx) (Φ:Fps) (η:VS.Env) (H0 H:Hp) (l:Wr) (vs:List V) (Fs:Xd):Prop where
 same:aJ H0 H
 rp:RpL G H vs (trees l) Fs
 fp:FpL Φ η H0 l Fs
theorem Args.len {Φ:Fps} {η:VS.Env} {H0 H:Hp} {l:Wr} {vs:List V} {Fs:Xd} (A:Args G Φ η H0 H l vs Fs):l.length=Fs.length:=by
 have:=A.rp.len.2
 simp [trees] at this
 exact Eq.symm this
noncomputable def fi (G:Gx) (r:List V->Hp->VK->Prop) (f:Wr->Wq):Prop:=∀ (Φ:Fps) (η:VS.Env) (H0 H:Hp) (l:Wr) (vs:List V) (Fs:Xd) (m:Md) (t:T) (Q:VK),Args G Φ η H0 H l vs Fs->f l=some (m,t) →
 (∀ v H' F,aJ H H'->Rp G H' v t F->Fp Φ η H0 m F->Q v H')->r vs H Q
theorem zm {r:List V->Hp->VK->Prop} {f:Wr->Wq} (ok:fi G r f) {σ:L2.St} {H:Hp} {Q:VK} {η:VS.Env} {Φ:Fps} {l:Wr} {m:Md} {t:T} (s:SR G Φ η σ H) (el:cs η=some l) (e:f l=some (m,t))
  (k:∀ v H' F,aJ H H'->Rp G H' v t F->Fp Φ η H m F->Q v H'):tEs G cs σ H fun vs H1=>r vs H1 Q :=
 ⟨Φ,η,l,s,el,fun vs H' Fs e1 r1 f1=>ok Φ η H H' l vs Fs m t Q ⟨e1,r1,f1⟩ e fun v H2 F e2 r2 f2=>k v H2 F (e1.trans e2) r2 f2⟩
theorem ik {r:List V->Hp->VK->Prop} {f:Wr->Wq} {id:String} {x:Str} (hc:dJ X (.builtin id) r) (ok:fi G r f) (hg:Gl X x) (hm:X.mg x=none) (hv:bootBuiltins x=some (.builtin id)) (ha:PVs G X (e :: es) cs)
  (hn:x ≠ "__name__" := by decide) (hdb:(x == ("__debug__" : Str))=false:=by decide)
  (he:starEach (e :: es) X.env=(false,eval e X.env) :: starEach es X.env:=by rfl) (hpl:(backTo pos (starEach es X.env)).any (·.1)=false:=by rfl):PV G X (.Call (.Name x p) (e :: es) [] pos) (eN f cs) :=
 PE.weak (o6 hc hg hm hv ha hn hdb he hpl) fun σ H Q hq=>by
  obtain ⟨Φ,η,m,t,s,e,k⟩:=hq
  unfold eN at e
  obtain ⟨l,el,e⟩:=Zz.mp e
  exact zm ok s el e k
theorem jO {r:List V->Hp->VK->Prop} {f:Wr->Wq} {Ty:String} {x:Str} (hc:dJ X (.type Ty) r) (ok:fi G r f) (hg:Gl X x) (hm:X.mg x=none) (hv:bootBuiltins x=some (.type Ty)) (ha:PVs G X (e :: es) cs)
  (hn:x ≠ "__name__" := by decide) (hdb:(x == ("__debug__" : Str))=false:=by decide)
  (he:starEach (e :: es) X.env=(false,eval e X.env) :: starEach es X.env:=by rfl) (hpl:(backTo pos (starEach es X.env)).any (·.1)=false:=by rfl):PV G X (.Call (.Name x p) (e :: es) [] pos) (eN f cs) :=
 PE.weak (sI hc hg hm hv ha hn hdb he hpl) fun σ H Q hq=>by
  obtain ⟨Φ,η,m,t,s,e,k⟩:=hq
  unfold eN at e
  obtain ⟨l,el,e⟩:=Zz.mp e
  exact zm ok s el e k
theorem Az (h:PVs G X es cs):PV G X (.List es pos) (dz cs):=PE.weak (Al h) fun σ H Q hq=>by
 obtain ⟨Φ,η,m,t,s,e,k⟩:=hq
 unfold dz at e
 obtain ⟨l,el,e⟩:=Zz.mp e
 refine ⟨Φ,η,l,s,el,fun vs H' Fs e1 r1 f1=>?_⟩
 have A:Args G Φ η H H' l vs Fs:=⟨e1,r1,f1⟩
 obtain ⟨_,hl,_⟩:=ou e
 refine ⟨by rw [r1.len.1,← gr];exact hl,iF e1 e r1 (f1.join A.len) fun v H2 F e2 r2 f2=>k v H2 F (e1.trans e2) r2 f2⟩
theorem Ad {x1} (h:PVs G X es cs):PV G X (.Tuple es x1 pos) (mn cs):=PE.weak (Ca h) fun σ H Q hq=>by
 obtain ⟨Φ,η,m,t,s,e,k⟩:=hq
 unfold mn at e
 obtain ⟨l,el,e⟩:=Zz.mp e
 refine ⟨Φ,η,l,s,el,fun vs H' Fs e1 r1 f1=>?_⟩
 have A:Args G Φ η H H' l vs Fs:=⟨e1,r1,f1⟩
 unfold rg at e
 split at e
 ·rename_i hl
  cases e
  refine ⟨by rw [r1.len.1,← gr,trees,Zv];exact hl,fun q hq=>?_⟩
  have r2:Rp G (upd H' q (.tup vs)) (.ref q) (.tup (trees l)) Fs.flatten:=.tup aF (r1.same (dS hq))
  exact k _ _ _ (e1.trans (dS hq)) r2 (Fp.up (f1.join A.len) r2)
 ·cases e
theorem yF {H:Hp} {v:V} {t:T} {F:Wy} {k:Bool} (r:Rp G H v t F) (h:tru t=some k):Cf G.K v H k:=by
 cases r with
 | non=>cases h;rfl
 | bl b=>cases h;rfl
 | int i=>cases h;rfl
 | str s hl =>
  cases h
  refine ⟨by rw [dW,← gr];exact hl.1,?_⟩
  rw [dW]
  cases s with
  | nil=>rfl
  | cons a r =>
   have:((List.length (a :: r):Int) != 0)=true:=by simp;lia
   rw [this]
   rfl
 | scr h'=>cases h
 | tup h' q =>
  cases h
  refine .inr (.inl ⟨_,SqT.of h',?_⟩)
  have:=q.len.1
  rename_i vs ts _
  cases vs <;> cases ts <;> simp_all
 | lst h' q =>
  cases h
  refine .inl ⟨_,SqL.of h',?_⟩
  have:=q.len.1
  rename_i vs ts _
  cases vs <;> cases ts <;> simp_all
 | dct h' hl q =>
  cases h
  refine .inr (.inr ⟨_,h',?_⟩)
  have:=q.len.1
  rename_i ks vs ts _
  cases ks <;> cases vs <;> cases ts <;> simp_all
 | dctT h' hl q=>cases h
 | dctN h' hl n q=>cases h
 | dctZ _ _ _=>cases h
 | exc _ _=>cases h
 | ins _ _ _ _=>cases h
 | mk _ _=>cases h
theorem xW (h:PV G X a ca) (hK:X.K=G.K:=by rfl) (he:∀ whole,isTrue a X.env whole=(do let v ← whole;standAt a.pos;holding [v] (truthy v)):=by intro _;rfl):PVT G X a ca :=
 PT.weak (u9 h he) fun σ H Q ⟨Φ,η,m,r,b,s,e,eb,k⟩=>⟨Φ,η,m,r,s,e,fun v H' F e1 r1 f1=>⟨b,by rw [hK];exact yF r1 eb,k H' e1⟩⟩
noncomputable def PVW (G:Gx) (X:Cx) (e:Expr) (c:Ex):Prop:=PW X e (tT G c)
theorem PW.weak {X:Cx} {e:Expr} {t t':TT} (h:PW X e t) (w:∀ σ H Q,t' σ H Q->t σ H Q):PW X e t':=fun wh pins s σ H Q I q=>h wh pins s σ H Q I (w σ H Q q)
theorem PVW.pvt (h:PVW G X e ca):PVT G X e ca:=PW.pt h
variable {rest:List Expr}
theorem vB (ha:PVT G X a ca):PVW G X (.BoolOp .And [a] pos) ca:=xD ha
theorem yT (ha:PVT G X a ca):PVW G X (.BoolOp .Or [a] pos) ca:=zW ha
theorem pK {η:VS.Env} {m:Md} {r:T} (e:eZ ca cb η=some (m,r)):(∃ n,ca η=some (n,.bl true)/\cb η=some (m,r))\/(∃ n,ca η=some (n,.bl false)/\m=.fr/\r=.bl false):=by
 unfold eZ at e
 obtain ⟨⟨n,x⟩,ea,e⟩:=Zz.mp e
 split at e
 ·rename_i h
  cases (show x=.bl true from h)
  exact .inl ⟨n,ea,e⟩
 ·rename_i h
  cases (show x=.bl false from h)
  cases e
  exact .inr ⟨n,ea,rfl,rfl⟩
 ·cases e
theorem yK {η:VS.Env} {m:Md} {r:T} (e:eOr ca cb η=some (m,r)):(∃ n,ca η=some (n,.bl false)/\cb η=some (m,r))\/(∃ n,ca η=some (n,.bl true)/\m=.fr/\r=.bl true):=by
 unfold eOr at e
 obtain ⟨⟨n,x⟩,ea,e⟩:=Zz.mp e
 split at e
 ·rename_i h
  cases (show x=.bl true from h)
  cases e
  exact .inr ⟨n,ea,rfl,rfl⟩
 ·rename_i h
  cases (show x=.bl false from h)
  exact .inl ⟨n,ea,e⟩
 ·cases e
theorem yS (ha:PVT G X a ca) (hb:PVW G X (.BoolOp .And (b :: rest) pos) cb):PVW G X (.BoolOp .And (a :: b :: rest) pos) (eZ ca cb) :=
 PW.weak (BU ha hb) fun σ H Q hq=>by
  obtain ⟨Φ,η,m,r,k,s,e,eb,q⟩:=hq
  rcases pK e with ⟨n,ea,e2⟩ | ⟨n,ea,rfl,rfl⟩
  ·refine ⟨Φ,η,n,_,true,s,ea,rfl,fun H' e1=>?_⟩
   refine sD ?_
   exact ⟨Φ,η,m,r,k,s.same e1,e2,eb,fun H2 e2=>q H2 (e1.trans e2)⟩
  ·refine ⟨Φ,η,n,_,false,s,ea,rfl,fun H' e1=>?_⟩
   refine sS ?_
   cases eb
   exact q H' e1
theorem A6 (ha:PVT G X a ca) (hb:PVW G X (.BoolOp .Or (b :: rest) pos) cb):PVW G X (.BoolOp .Or (a :: b :: rest) pos) (eOr ca cb) :=
 PW.weak (zJ ha hb) fun σ H Q hq=>by
  obtain ⟨Φ,η,m,r,k,s,e,eb,q⟩:=hq
  rcases yK e with ⟨n,ea,e2⟩ | ⟨n,ea,rfl,rfl⟩
  ·refine ⟨Φ,η,n,_,false,s,ea,rfl,fun H' e1=>?_⟩
   refine sS ?_
   exact ⟨Φ,η,m,r,k,s.same e1,e2,eb,fun H2 e2=>q H2 (e1.trans e2)⟩
  ·refine ⟨Φ,η,n,_,true,s,ea,rfl,fun H' e1=>?_⟩
   refine sD ?_
   cases eb
   exact q H' e1
theorem pw {η:VS.Env} {m:Md} {r:T} (e:iY ca η=some (m,r)):∃ n b,ca η=some (n,.bl b)/\m=.fr/\r=.bl (!b):=by
 unfold iY at e
 obtain ⟨⟨n,x⟩,ea,e⟩:=Zz.mp e
 split at e
 ·rename_i b h
  cases (show x=.bl b from h)
  cases e
  exact ⟨n,b,ea,rfl,rfl⟩
 ·cases e
theorem xU (ha:PVT G X a ca):PVT G X (.UnaryOp .Not a pos) (iY ca):=PT.weak (vS ha) fun σ H Q hq=>by
 obtain ⟨Φ,η,m,r,k,s,e,eb,q⟩:=hq
 obtain ⟨n,b,ea,rfl,rfl⟩:=pw e
 cases eb
 exact ⟨Φ,η,n,_,b,s,ea,rfl,fun H' e1=>q H' e1⟩
theorem BD (ha:PV G X a ca):PV G X (.UnaryOp .Not a pos) (iY ca):=PE.weak (zV ha) fun σ H Q hq=>by
 obtain ⟨Φ,η,m,r,s,e,q⟩:=hq
 obtain ⟨n,b,ea,rfl,rfl⟩:=pw e
 exact ⟨Φ,η,n,_,s,ea,fun v H' F e1 r1 f1=>⟨b,r1.bl_inv,q _ H' _ e1 (.bl _) Fp.nil⟩⟩
theorem Ba {op} (h:PV G X a ca):PV G X (.BoolOp op [a] pos) ca:=AS h
theorem Ci (ha:PV G X a ca) (hb:PV G X (.BoolOp .And (b :: rest) pos) cb):PV G X (.BoolOp .And (a :: b :: rest) pos) (eZ ca cb) :=
 PE.weak (Bo ha hb) fun σ H Q hq=>by
  obtain ⟨Φ,η,m,r,s,e,q⟩:=hq
  rcases pK e with ⟨n,ea,e2⟩ | ⟨n,ea,rfl,rfl⟩
  ·refine ⟨Φ,η,n,_,s,ea,fun v H' F e1 r1 f1=>⟨true,r1.bl_inv,?_⟩⟩
   refine sD ?_
   exact ⟨Φ,η,m,r,s.same e1,e2,fun v H2 F e2 r2 f2=>q v H2 F (e1.trans e2) r2 (f2.back e1)⟩
  ·refine ⟨Φ,η,n,_,s,ea,fun v H' F e1 r1 f1=>⟨false,r1.bl_inv,?_⟩⟩
   refine sS ?_
   exact q _ H' _ e1 (.bl _) Fp.nil
theorem oo {H:Hp} {v:V} {t:T} {F:Wy} (r:Rp G H v t F):decide (v=.non)=isN t:=by
 cases r <;> simp [isN]
theorem zr {t:TE} {c:Ex} {σ:L2.St} {H:Hp} {Q:Bool->Hp->Prop} (h:tT G c σ H Q) (ht:∀ η m r,c η=some (m,r)->∃ b,r=.bl b) (w:∀ Q,tE G c σ H Q->t σ H Q):tB t σ H Q:=by
 obtain ⟨Φ,η,m,r,b,s,e,eb,k⟩:=h
 refine w _ ⟨Φ,η,m,r,s,e,fun v H' F e1 r1 f1=>?_⟩
 obtain ⟨b',er⟩:=ht η m r e
 rw [er] at eb r1
 cases (show some b'=some b from eb)
 exact ⟨_,r1.bl_inv,k H' e1⟩
end
section
variable {G:Gx} {X:Cx} {a b c e:Expr} {es:List Expr} {ca cb cc:Ex} {cs:Exs} {pos p:Pos}
theorem RpL.one {H:Hp} {vs:List V} {t:T} {Fs:Xd} (r:RpL G H vs [t] Fs):∃ v F,vs=[v]/\Fs=[F]/\Rp G H v t F:=by
 cases r with
 | cons r q=>cases q;exact ⟨_,_,rfl,rfl,r⟩
theorem RpL.two {H:Hp} {vs:List V} {t t':T} {Fs:Xd} (r:RpL G H vs [t,t'] Fs):∃ v v' F F',vs=[v,v']/\Fs=[F,F']/\Rp G H v t F/\Rp G H v' t' F':=by
 cases r with
 | cons r q =>
  obtain ⟨v',F',rfl,rfl,r'⟩:=q.one
  exact ⟨_,_,_,_,rfl,rfl,r,r'⟩
noncomputable def Dq (K:X4):List V->Hp->VK->Prop:=fun xs H Q=>(∃ x n,xs=[x]/\DV K x H n/\Q (.int n) H)\/(∃ a kvs,xs=[V.ref a]/\H a=some (.dK kvs)/\Q (.int kvs.length) H)
theorem pZ:dJ X (.builtin "len") (fun xs H Q=>∃ a kvs,xs=[V.ref a]/\H a=some (.dK kvs)/\Q (.int kvs.length) H):=by
 intro pins s σ H xs us Q I r h
 obtain ⟨a,kvs,rfl,ha,q⟩:=h
 obtain ⟨u,rfl,ru⟩:=vals1 r
 cases ru
 exact C7 I (.inl ha) fun t s' I'=>⟨.int kvs.length,H,I',⟨t,rfl⟩,q⟩
theorem sF:dJ X (.builtin "len") (Dq X.K):=vE.or pZ
theorem BB:fi G (Dq G.K) bI:=by
 intro Φ η H0 H l vs Fs m t Q A e k
 refine L2.iR fun P_ k_=>?_
 unfold bI at e
 split at e
 ·rename_i x
  obtain ⟨mx,x⟩:=x
  obtain ⟨n,en,e⟩:=Zy.mp e
  cases e
  obtain ⟨v,F,rfl,rfl,r⟩:=(show RpL G H vs [x] Fs from A.rp).one
  have fin:Q (.int (n:Int)) H:=bF k (.int _)
  cases r with
  | non=>cases en
  | bl b=>cases en
  | int i=>cases en
  | str s hl =>
   cases en
   refine k_ ?_
   exact .inl ⟨_,_,rfl,⟨by rw [dW,← gr];exact hl.1,rfl⟩,by rw [dW];exact fin⟩
  | scr h =>
   cases en
   refine k_ ?_
   refine .inl ⟨_,_,rfl,.inl ⟨_,h.seq,rfl⟩,?_⟩
   rw [Zv]
   exact fin
  | tup h q =>
   cases en
   refine k_ ?_
   refine .inl ⟨_,_,rfl,.inr ⟨_,SqT.of h,rfl⟩,?_⟩
   rw [q.len.1]
   exact fin
  | lst h q =>
   cases en
   refine k_ ?_
   refine .inl ⟨_,_,rfl,.inl ⟨_,SqL.of h,rfl⟩,?_⟩
   rw [q.len.1]
   exact fin
  | dct h hl q =>
   cases en
   refine k_ ?_
   refine .inr ⟨_,_,rfl,h,?_⟩
   rename_i ks ws ts _
   have e1:=q.len.1
   rw [Yw,Zv] at fin
   rw [Yw,e1]
   exact fin
  | dctT h hl q=>cases en
  | dctN h hl n q=>cases en
  | dctZ _ _ _=>cases en
  | exc _ _=>cases en
  | ins _ _ _ _=>cases en
  | mk _ _=>cases en
 ·cases e
theorem xl:fi G (fun xs H Q=>∃ i j,xs=[.int i,.int j]/\Q (.int (if j > i then j else i)) H) ng:=by
 intro Φ η H0 H l vs Fs m t Q A e k
 unfold ng at e
 split at e
 ·rename_i _ i _ j
  cases e
  obtain ⟨v,v',F,F',rfl,rfl,r,r'⟩:=(show RpL G H vs [.int i,.int j] Fs from A.rp).two
  exact ⟨i,j,by rw [r.int_inv,r'.int_inv],bF k (.int _)⟩
 ·cases e
theorem xX:fi G (fun xs H Q=>∃ i j,xs=[.int i,.int j]/\Q (.int (if j < i then j else i)) H) nk:=by
 intro Φ η H0 H l vs Fs m t Q A e k
 unfold nk at e
 split at e
 ·rename_i _ i _ j
  cases e
  obtain ⟨v,v',F,F',rfl,rfl,r,r'⟩:=(show RpL G H vs [.int i,.int j] Fs from A.rp).two
  exact ⟨i,j,by rw [r.int_inv,r'.int_inv],bF k (.int _)⟩
 ·cases e
noncomputable def zx (K:X4):List V->Hp->VK->Prop:=fun xs H Q=>∃ p ys,xs=[.ref p]/\(SqL K H p ys\/SqT K H p ys)/\∀ l,H l=none->Q (.ref l) (upd H l (.lst ys))
theorem rz:fi G (zx G.K) zw:=by
 intro Φ η H0 H l vs Fs m t Q A e k
 unfold zw at e
 split at e
 ·rename_i mx x
  obtain ⟨v,F,rfl,rfl,rx⟩:=(show RpL G H vs [.lst x] Fs from A.rp).one
  obtain ⟨a,ys,Gs,rfl,rfl,ha,ra⟩:=rx.lst_inv
  have f:=A.fp.each 0 _ _ rfl rfl
  exact ⟨a,ys,rfl,.inl (SqL.of ha),iF A.same e ra (f.sub (Z1 _ _)) k⟩
 ·rename_i mx x
  obtain ⟨v,F,rfl,rfl,rx⟩:=(show RpL G H vs [.tup x] Fs from A.rp).one
  obtain ⟨a,ys,Gs,rfl,rfl,ha,ra⟩:=rx.tup_inv
  have f:=A.fp.each 0 _ _ rfl rfl
  exact ⟨a,ys,rfl,.inr (SqT.of ha),iF A.same e ra f k⟩
 ·cases e
noncomputable def tO (G:Gx) (c:Option Ex):TO:=fun σ H Q=>∃ Φ η o,SR G Φ η σ H/\lO c η=some o/\∀ H',aJ H H'->Q o H'
noncomputable def PVO (G:Gx) (X:Cx) (e:Option Expr) (c:Option Ex):Prop:=PO X e (tO G c)
theorem PO.weak {X:Cx} {e:Option Expr} {t t':TO} (h:PO X e t) (w:∀ σ H Q,t' σ H Q->t σ H Q):PO X e t':=fun pins s σ H Q I q=>h pins s σ H Q I (w σ H Q q)
theorem vf:PVO G X none none:=PO.weak yw fun σ H Q hq=>by
 obtain ⟨Φ,η,o,s,e,k⟩:=hq
 cases (show some (none:Option Int)=some o from e)
 exact k H (aJ.refl _)
theorem wb (h:PV G X a ca):PVO G X (some a) (some ca):=PO.weak (wX h) fun σ H Q hq=>by
 obtain ⟨Φ,η,o,s,e,k⟩:=hq
 obtain ⟨⟨m,y⟩,ea,e⟩:=Zz.mp (show (ca η).bind (fun y=>(int? y.2).map some)=some o from e)
 obtain ⟨i,ei,e⟩:=Zy.mp e
 cases e
 refine ⟨Φ,η,m,y,s,ea,fun v H' F e1 r1 f1=>?_⟩
 cases y with
 | int j =>
  cases ei
  exact ⟨_,r1.int_inv,k H' e1⟩
 | _=>cases ei
theorem kb {α:Type} (l:List α) (lo hi:Option Int):cut l lo hi=(l.drop (HT.sIx l.length 0 lo)).take (HT.sIx l.length l.length hi - HT.sIx l.length 0 lo):=by
 unfold cut
 cases lo <;> cases hi <;> rfl
theorem uA (lo hi:Option Int) (n:Nat):Builtin.Str.strSliceIndices lo hi 1 n=Builtin.Str.strSliceIndices (some ((min (HT.sIx n 0 lo) n:Nat):Int)) (some ((min (HT.sIx n n hi) n:Nat):Int)) 1 n:=by
 have e1:∀ k:Nat,¬ ((k:Int) < 0):=fun k=>by lia
 unfold Builtin.Str.strSliceIndices
 simp only [show (1:Int) > 0 by decide,if_true,e1,if_false]
 congr 1
 ·cases lo with
  | none=>simp only [HT.sIx];lia
  | some i =>
   simp only [HT.sIx]
   by_cases h:i < 0
   ·simp only [h,if_true];lia
   ·simp only [h,if_false];lia
 ·cases hi with
  | none=>simp only [HT.sIx];lia
  | some i =>
   simp only [HT.sIx]
   by_cases h:i < 0
   ·simp only [h,if_true];lia
   ·simp only [h,if_false];lia
theorem mD (s:Tx) (lo hi:Option Int):PySem.StrLaws.sliceText (sx s) lo hi=sx (cut s lo hi):=by
 have key:PySem.StrLaws.sliceText (sx s) lo hi=PySem.StrLaws.sliceText (sx s) (some ((min (HT.sIx s.length 0 lo) s.length:Nat):Int)) (some ((min (HT.sIx s.length s.length hi) s.length:Nat):Int)):=by
  unfold PySem.StrLaws.sliceText
  rw [dW,uA]
 rw [key]
 have hd:∀ a:Nat,s.drop (min a s.length)=s.drop a:=fun a=>by
  by_cases h:a<=s.length
  ·rw [Xz h]
  ·rw [X6 (by exact Y5 h),YT (Zk _),YT (by exact Y5 h)]
 by_cases h:min (HT.sIx s.length 0 lo) s.length<=min (HT.sIx s.length s.length hi) s.length
 ·rw [PySem.StrLaws.sliceText_nat (sx s) h (by rw [dW];exact Nat.min_le_right _ _),kb]
  show (⟨_⟩:Str)=⟨_⟩
  congr 2
  show ((sx s).cps.toList.drop _).take _=_
  have:(sx s).cps.toList=s:=rfl
  rw [this,hd]
  by_cases h2:HT.sIx s.length 0 lo<=s.length
  ·rw [Xz h2]
   by_cases h3:HT.sIx s.length s.length hi<=s.length
   ·rw [Xz h3]
   ·rw [X6 (by exact Y5 h3),YD (by rw [YK];exact Zk _),YD (by rw [YK];lia)]
  ·rw [YT (by exact Y5 h2)]
   simp
 ·have e0:cut s lo hi=[]:=by
   rw [kb]
   have:HT.sIx s.length s.length hi - HT.sIx s.length 0 lo=0:=by omega
   rw [this,List.take_zero]
  rw [e0]
  unfold PySem.StrLaws.sliceText
  have e2:Builtin.Str.strSliceIndices (some ((min (HT.sIx s.length 0 lo) s.length:Nat):Int)) (some ((min (HT.sIx s.length s.length hi) s.length:Nat):Int)) 1 (sx s).length=[]:=by
   have e1:∀ k:Nat,¬ ((k:Int) < 0):=fun k=>by lia
   unfold Builtin.Str.strSliceIndices sliceRange
   simp only [show (1:Int) > 0 by decide,if_true,e1,if_false,dW]
   rw [Zp (by omega)]
   rfl
  rw [e2]
  have:¬ ((1:Int) == 1 && ([]:Wv).length == (sx s).length)=true:=by
   rw [dW]
   simp
   lia
  rw [Zp this]
  rfl
noncomputable def CB:V->Option Int->Option Int->Hp->VK->Prop:=fun x lo hi H Q=>∃ z,x=.str z/\z.length<=sizeLine/\Q (.str (PySem.StrLaws.sliceText z lo hi)) H
theorem part_of {v:Value} {o:Option Int} (h:IsPart v o):∃ q:Option (Int×Tok),v=partValue q/\o=q.map (·.1):=by
 cases h with
 | none=>exact ⟨none,rfl,rfl⟩
 | int i t=>exact ⟨some (i,t),rfl,rfl⟩
theorem oq {α β:Type} (f:α->Option β) (l:List α):(l.filterMap f).length<=l.length:=List.length_filterMap_le f l
theorem yq (lo hi:Option Int) (n:Nat):(Builtin.Str.strSliceIndices lo hi 1 n).length<=n:=by
 rw [uA]
 by_cases h:min (HT.sIx n 0 lo) n<=min (HT.sIx n n hi) n
 ·rw [PySem.StrLaws.strSliceIndices_plain h (by exact Nat.min_le_right _ _),Zv,ZE]
  lia
 ·have e1:∀ k:Nat,¬ ((k:Int) < 0):=fun k=>by lia
  unfold Builtin.Str.strSliceIndices sliceRange
  simp only [show (1:Int) > 0 by decide,if_true,e1,if_false]
  rw [Zp (by omega)]
  simp
theorem AR:SlR X CB:=by
 intro pins s σ H x v vl vu lo hi sl Q I rx hs pl pu h
 obtain ⟨z,rfl,hz,q⟩:=h
 obtain ⟨t,rfl⟩:=rx
 obtain ⟨l,rfl,rfl⟩:=part_of pl
 obtain ⟨u,rfl,rfl⟩:=part_of pu
 refine ⟨"str",_,F.slot_str_getitem.lookup,typeIs_str s z t,wpAny_getItem_str_slice (l:=l) (u:=u) (st:=none) hs rfl ?_⟩
 unfold sliceMade
 split
 ·rename_i hc
  refine ⟨.str z,H,I,⟨t,rfl⟩,?_⟩
  have e:PySem.StrLaws.sliceText z (l.map (·.1)) (u.map (·.1))=z:=by
   unfold PySem.StrLaws.sliceText
   exact Zr hc
  rw [e] at q
  exact q
 ·rename_i hc
  refine ⟨ZG ?_ hz,.str _,H,I.tok _,⟨_,rfl⟩,?_⟩
  ·show (List.filterMap _ _).toArray.size<=_
   rw [ZZ]
   exact ZG (oq _ _) (yq _ _ _)
  ·have e:PySem.StrLaws.sliceText z (l.map (·.1)) (u.map (·.1))=⟨((slicePicked z l u none).filterMap (z.cps[·]?)).toArray⟩:=by
    unfold PySem.StrLaws.sliceText
    exact Zp hc
   rw [e] at q
   exact q
noncomputable def rSl (K:X4):V->Option Int->Option Int->Hp->VK->Prop:=fun x lo hi H Q=>CB x lo hi H Q\/Dx K x lo hi H Q
theorem Ew:SlR X (rSl X.K):=AR.or xR
theorem wZ {α:Type} (l:List α) (lo hi:Option Int):(cut l lo hi).length<=l.length:=by
 rw [kb,YW,YK]
 lia
theorem RpL.cut {H:Hp} {vs:List V} {ts:Wp} {Fs:Xd} (r:RpL G H vs ts Fs) (lo hi:Option Int):RpL G H (sQ vs lo hi) (VS.cut ts lo hi) (VS.cut Fs lo hi):=by
 have h:=r.len
 rw [kb,kb,h.2]
 unfold sQ
 rw [h.1]
 exact (r.drop _).take _
theorem rq {α:Type} (l:List α) (lo hi:Option Int):(VS.cut l lo hi).Sublist l:=by
 rw [kb]
 exact (List.take_sublist _ _).trans (List.drop_sublist _ _)
theorem u7 {F G:Xd} (h:F.Sublist G):F.flatten.Sublist G.flatten:=by
 induction h with
 | slnil=>exact YB _
 | cons a _ ih=>rw [ZL];exact ih.trans (Yf _ _)
 | cons_cons a _ ih=>rw [ZL,ZL];exact (YB _).append ih
theorem t9 {lo hi:Option Expr} {cl ch:Option Ex} {p2:Pos} (ha:PV G X a ca) (hl:PVO G X lo cl) (hh:PVO G X hi ch) (hK:X.K=G.K:=by rfl):PV G X (.Subscript a (.Slice lo hi none p2) pos) (eSl ca cl ch) :=
 PE.weak (uh Ew ha hl hh) fun σ H Q hq=>by
  obtain ⟨Φ,η,m,t,s,e,k⟩:=hq
  unfold eSl at e
  obtain ⟨⟨mx,x⟩,ea,e'⟩:=Zz.mp e
  obtain ⟨l,el,e''⟩:=Zz.mp e'
  obtain ⟨h,eh,e4⟩:=Zz.mp e''
  clear e e' e''
  refine ⟨Φ,η,mx,x,s,ea,fun v H1 F e1 r1 f1=>⟨Φ,η,l,s.same e1,el,fun H2 e2=>⟨Φ,η,h,(s.same e1).same e2,eh,fun H3 e3=>?_⟩⟩⟩
  have e03:aJ H H3:=(e1.trans e2).trans e3
  have r3:=(r1.same e2).same e3
  unfold oSl at e4
  split at e4
  ·rename_i m' z q
   cases q
   cases e4
   obtain ⟨rfl,hl⟩:=r3.str_inv
   refine .inl ⟨_,rfl,by rw [dW,← gr];exact hl.1,?_⟩
   rw [mD]
   exact k _ H3 _ e03 (.str _ ⟨ZG (wZ _ _ _) hl.1,fun c hc=>hl.2 c ((rq _ _ _).subset hc)⟩) Fp.nil
  ·rename_i m' z q
   cases q
   obtain ⟨a',vs,Fs,rfl,rfl,ha',ra⟩:=r3.lst_inv
   refine .inr ⟨a',vs,rfl,by rw [hK];exact SqL.of ha',iF e03 e4 (ra.cut l h) ((f1.sub (Z1 _ _)).sub (u7 (rq _ _ _))) fun v H4 F e5 r4 f4=>k v H4 F (e03.trans e5) r4 f4⟩
  ·cases e4
noncomputable def tyS:Ty->String
 | .int => "int"
 | .str => "str"
 | .bool => "bool"
 | .list => "list"
 | .tuple => "tuple"
 | .dict => "dict"
noncomputable def rIs (K:X4):List V->Hp->VK->Prop:=fun vs H Q=>∃ x c t b,vs=[x,.ty c]/\TyOf K H x t/\PySem.W.kitOne K t (.type c)=some b/\Q (.bl b) H
theorem yU:dJ X (.builtin "isinstance") (rIs X.K):=by
 intro pins s σ H xs us Q I r h
 obtain ⟨x,c,t,b,rfl,ty,e,q⟩:=h
 obtain ⟨u,w',rfl,r1,r2⟩:=vals2 r
 cases r2
 exact tW I r1 ty e fun tk=>⟨.bl b,H,I.tok _,rfl,q⟩
theorem wO (K:X4) (ty:Ty):(PySem.W.kitOne K (.type "NoneType") (.type (tyS ty))=some false)/\(PySem.W.kitOne K (.type "bool") (.type (tyS ty))=some (oS ty (.bl true)))/\(PySem.W.kitOne K (.type "int") (.type (tyS ty))=some (oS ty (.int 0))) ∧
  (PySem.W.kitOne K (.type "str") (.type (tyS ty))=some (oS ty (.str [])))/\(PySem.W.kitOne K (.type "list") (.type (tyS ty))=some (oS ty (.lst [])))/\(PySem.W.kitOne K (.type "tuple") (.type (tyS ty))=some (oS ty (.tup [])))/\(PySem.W.kitOne K (.type "dict") (.type (tyS ty))=some (oS ty (.dct 0 []))):=by
 cases ty <;> refine ⟨?_,?_,?_,?_,?_,?_,?_⟩ <;> kernel_rfl
theorem DS {H:Hp} {v:V} {t:T} {F:Wy} (ty:Ty) (r:Rp G H v t F) (h:rj t=true):∃ t',TyOf G.K H v t'/\PySem.W.kitOne G.K t' (.type (tyS ty))=some (oS ty t):=by
 obtain ⟨k1,k2,k3,k4,k5,k6,k7⟩:=wO G.K ty
 cases r with
 | non=>exact ⟨_,.non,by rw [k1];cases ty <;> rfl⟩
 | bl b=>exact ⟨_,.bl b,by rw [k2];cases ty <;> rfl⟩
 | int i=>exact ⟨_,.int i,by rw [k3];cases ty <;> rfl⟩
 | str s _=>exact ⟨_,.str _,by rw [k4];cases ty <;> rfl⟩
 | scr _=>cases h
 | tup h' q=>exact ⟨_,.tup h',by rw [k6];cases ty <;> rfl⟩
 | lst h' q=>exact ⟨_,.lst h',by rw [k5];cases ty <;> rfl⟩
 | dct h' l q=>exact ⟨_,.dK h',by rw [k7];cases ty <;> rfl⟩
 | dctT h' l q=>exact ⟨_,.dT h',by rw [k7];cases ty <;> rfl⟩
 | dctN h' l n q=>simp at h
 | dctZ _ _ _=>cases h
 | exc _ _=>cases h
 | ins _ _ _ _=>cases h
 | mk _ _=>cases h
theorem DY (ty:Ty) {x:Str} {p1 p2:Pos} (ha:PV G X a ca) (hg:Gl X "isinstance") (hm:X.mg "isinstance" = none) (hg2:Gl X x) (hm2:X.mg x=none) (hv:bootBuiltins x=some (.type (tyS ty))) (hK:X.K=G.K:=by rfl)
  (hn:x ≠ "__name__" := by decide) (hdb:(x == ("__debug__" : Str))=false:=by decide) (hs:starEach [a,.Name x p2] X.env=(false,eval a X.env) :: starEach [.Name x p2] X.env:=by rfl)
  (hs2:starEach [.Name x p2] X.env=(false,eval (.Name x p2) X.env) :: starEach [] X.env:=by rfl) (hpl:(backTo pos (starEach [Expr.Name x p2] X.env)).any (·.1)=false:=by rfl) :
  PV G X (.Call (.Name "isinstance" p1) [a,.Name x p2] [] pos) (eIs ty ca) :=
 PE.weak (o6 yU hg hm boot_isinstance (dR ha (dR (xE (v:=.ty (tyS ty)) hg2 hm2 hv rfl hn hdb) j5 hs2) hs) (by decide) rfl hs hpl) fun σ H Q hq=>by
  obtain ⟨Φ,η,m,t,s,e,k⟩:=hq
  unfold eIs at e
  obtain ⟨⟨mx,y⟩,ea,e'⟩:=Zz.mp e
  split at e'
  ·rename_i hk
   cases e'
   refine ⟨Φ,η,mx,y,s,ea,fun v H' F e1 r1 f1=>?_⟩
   obtain ⟨t',h1,h2⟩:=DS ty r1 hk
   exact ⟨v,tyS ty,t',_,rfl,by rw [hK];exact h1,by rw [hK];exact h2,k _ H' _ e1 (.bl _) Fp.nil⟩
  ·cases e'
end
section
variable {G:Gx} {X:Cx} {a b c e:Expr} {es:List Expr} {ca cb cc:Ex} {cs:Exs} {pos p:Pos}
noncomputable def DK (G:Gx) (r:V->List V->Hp->VK->Prop) (f:Val->Wr->Wq):Prop:=∀ (Φ:Fps) (η:VS.Env) (H0 H1 H:Hp) (x:Val) (v:V) (F:Wy) (l:Wr) (vs:List V) (Fs:Xd) (m:Md) (t:T) (Q:VK),
 aJ H0 H1->Rp G H v x.2 F->Fp Φ η H0 x.1 F->Args G Φ η H1 H l vs Fs->f x l=some (m,t)->(∀ v H' F,aJ H H'->Rp G H' v t F->Fp Φ η H0 m F->Q v H')->r v vs H Q
theorem Dl {T' id:String} {name:Str} {r:V->List V->Hp->VK->Prop} {f:Val->Wr->Wq} {apos cpos:Pos} (pa:PlainAttrs T') (slot:Slot T' name id) (hty:typeOf (.builtin id)=pure (.type "method_descriptor")) (hm:MtR X id r) (ok:DK G r f)
  (hT:∀ H v (x:Val) F l z,Rp G H v x.2 F->f x l=some z->tyV G.K T' v H) (ho:PV G X a ca) (ha:PVs G X (e :: es) cs) (hK:X.K=G.K:=by rfl)
  (hbase:attributeBase a name X.env (eval a X.env)=eval a X.env:=by rfl)
  (hfew:((backTo cpos (starEach (e :: es) X.env)).all (fun x=>!x.1) && (backToKw cpos (keywordEach [] X.env)).all (fun x=>x.1.isSome)
   && decide ((e :: es).length+([]:List Keyword).length+(if ([]:List Keyword).isEmpty then 0 else 1) < 30))=true:=by rfl)
  (hline:(apos.endLine == cpos.line)=true:=by rfl) (hs:starEach (e :: es) X.env=(false,eval e X.env) :: starEach es X.env:=by rfl) (hplain:(backTo cpos (starEach es X.env)).any (·.1)=false:=by rfl) :
  PV G X (.Call (.Attribute a name apos) (e :: es) [] cpos) (eM f ca cs) :=
 PE.weak (rW pa slot hty hm ho ha hbase hfew hline hs hplain) fun σ H Q hq=>by
  obtain ⟨Φ,η,m,t,s,e,k⟩:=hq
  unfold eM at e
  obtain ⟨x,ea,e'⟩:=Zz.mp e
  obtain ⟨l,el,e''⟩:=Zz.mp e'
  refine ⟨Φ,η,x.1,x.2,s,ea,fun v H1 F e1 r1 f1=>⟨by rw [hK];exact hT H1 v x F l _ r1 e'',Φ,η,l,s.same e1,el,fun vs H2 Fs e2 r2 f2=>?_⟩⟩
  exact ok Φ η H H1 H2 x v F l vs Fs m t Q e1 (r1.same e2) f1 ⟨e2,r2,f2⟩ e'' fun v' H3 F' e3 r3 f3=>k v' H3 F' ((e1.trans e2).trans e3) r3 f3
theorem za:∀ (sep:Tx) (ss:List Tx),Txt.join (sx sep) (ss.map sx)=sx (dy sep ss):=by
 intro sep ss
 have fold:∀ (l:List Tx) (acc:Tx),(l.map sx).foldl (fun acc p=>acc++(sx sep).cps++p.cps) acc.toArray=(l.foldl (fun acc p=>acc++sep++p) acc).toArray:=by
  intro l
  induction l with
  | nil=>intro acc;rfl
  | cons x r ih =>
   intro acc
   rw [Zm,List.foldl_cons,List.foldl_cons,← ih]
   congr 1
   simp [sx]
 have jf:∀ (r:List Tx) (acc:Tx),r.foldl (fun acc p=>acc++sep++p) acc=dy sep (acc :: r):=by
  intro r
  induction r with
  | nil=>intro acc;rfl
  | cons x r ih =>
   intro acc
   rw [List.foldl_cons,ih]
   cases r with
   | nil=>rfl
   | cons y r=>simp [dy]
 cases ss with
 | nil=>rfl
 | cons x r =>
  show (⟨_⟩:Str)=⟨_⟩
  congr 1
  show ((r.map sx).foldl _ x.toArray)=_
  rw [fold,jf]
theorem rG {H:Hp}:∀ {vs:List V} {l:Wp} {Fs:Xd} {ss:List Tx},RpL G H vs l Fs->strs? l=some ss->vs=ss.map fun s=>V.str (sx s)
 | _,_,_,_,.nil,e=>by cases e;rfl
 | _,_,_,_,.cons (t:=t) r q,e=>by
  cases t with
  | str s =>
   simp only [strs?] at e
   obtain ⟨ss',e1,e2⟩:=Zy.mp e
   subst e2
   rw [rG q e1,r.str_inv.1]
   rfl
  | _=>cases e
theorem lC:∀ {ss:List Tx} {us:Wx},aV (ss.map fun s=>V.str (sx s)) us->StrsAre us (ss.map sx)
 | [],_,h=>by cases h;exact .nil
 | s :: ss,_,h=>by
  cases h with
  | cons r q =>
   obtain ⟨t,rfl⟩:=r
   exact .cons _ _ (lC q)
noncomputable def rJoin (K:X4):V->List V->Hp->VK->Prop:=fun x vs H Q=>∃ sep p ss,x=.str (sx sep)/\vs=[.ref p]/\SqL K H p (ss.map fun s=>V.str (sx s))/\total ss+ss.length * sep.length<=16777216/\Q (.str (sx (dy sep ss))) H
theorem qU:∀ ss:List Tx,((ss.map sx).map (·.length)).sum=total ss
 | []=>rfl
 | s :: r=>by
  rw [Zm,Zm,XI,qU r,dW]
  rfl
theorem yM:MtR X "str.join" (rJoin X.K):=by
 intro pins s σ H x xs v us Q I rx rxs h
 obtain ⟨sep,p,ss,rfl,rfl,hq,hl,q⟩:=h
 obtain ⟨t,rfl⟩:=rx
 obtain ⟨u,rfl,ru⟩:=vals1 rxs
 cases ru
 obtain ⟨its,r,pl,hz⟩:=I.list hq
 refine join_list pl.isList (ys:=ss.map sx) (by simpa using lC r) ?_ fun t' k=>⟨.str _,H,I.tok _,⟨_,by rw [za]⟩,q⟩
 rw [qU,Zv,dW]
 exact hl
theorem kW (sep:Tx):∀ ss:List Tx,(dy sep ss).length<=total ss+ss.length * sep.length
 | []=>by simp [dy,total]
 | [x]=>by simp [dy,total]
 | x :: y :: r=>by
  have:=kW sep (y :: r)
  simp only [dy,total,Zs,Za] at this ⊢
  have e:(r.length+1+1) * sep.length=(r.length+1) * sep.length+sep.length:=Nat.succ_mul _ _
  lia
theorem lS (sep:Tx):∀ (ss:List Tx) (c:Nat),c∈dy sep ss->c∈sep\/∃ s∈ss,c∈s
 | [],c,h=>by simp [dy] at h
 | [x],c,h=>.inr ⟨x,Zt,h⟩
 | x :: y :: r,c,h=>by
  simp only [dy,Zg] at h
  rcases h with (h | h) | h
  ·exact .inr ⟨x,Zt,h⟩
  ·exact .inl h
  ·exact (lS sep (y :: r) c h).imp id fun ⟨s,hs,hc⟩=>⟨s,Zx _ hs,hc⟩
theorem kP {H:Hp}:∀ {vs:List V} {l:Wp} {Fs:Xd} {ss:List Tx},RpL G H vs l Fs->strs? l=some ss->∀ s∈ss,∀ c∈s,c < 1114112
 | _,_,_,_,.nil,e,s,hs=>by cases e;simp at hs
 | _,_,_,_,.cons (t:=t) r q,e,s,hs=>by
  cases t with
  | str x =>
   simp only [strs?] at e
   obtain ⟨ss',e1,e2⟩:=Zy.mp e
   subst e2
   rcases Zi.mp hs with rfl | hs
   ·exact r.str_inv.2.2
   ·exact kP q e1 s hs
  | _=>cases e
theorem yn:DK G (rJoin G.K) hV:=by
 intro Φ η H0 H1 H x v F l vs Fs m t Q s01 r f A e k
 unfold hV at e
 split at e
 ·rename_i mx sep ml l'
  obtain ⟨ss,es',e'⟩:=Zz.mp e
  split at e'
  ·rename_i hl
   cases e'
   obtain ⟨w',F',rfl,rfl,rl⟩:=(show RpL G H vs [.lst l'] Fs from A.rp).one
   obtain ⟨a',ws,Gs,rfl,rfl,ha,ra⟩:=rl.lst_inv
   rw [rG ra es'] at ha
   refine ⟨sep,a',ss,r.str_inv.1,rfl,SqL.of ha,hl,bF k (.str _ ⟨ZG (kW sep ss) hl,fun c hc=>(lS sep ss c hc).elim (r.str_inv.2.2 c) fun ⟨s',hs',hc'⟩=>kP ra es' s' hs' c hc'⟩)⟩
  ·cases e'
 ·cases e
theorem wD {H:Hp} {v:V} {t:T} {F:Wy} (r:Rp G H v t F) (h:∃ s,t=.str s):tyV G.K "str" v H:=by
 obtain ⟨s,rfl⟩:=h
 rw [r.str_inv.1]
 rfl
theorem wW {apos cpos:Pos} (ho:PV G X a ca) (ha:PVs G X [e] cs) (hK:X.K=G.K:=by rfl)
  (hbase:attributeBase a "join" X.env (eval a X.env)=eval a X.env:=by rfl)
  (hfew:((backTo cpos (starEach [e] X.env)).all (fun x=>!x.1) && (backToKw cpos (keywordEach [] X.env)).all (fun x=>x.1.isSome)
   && decide ([e].length+([]:List Keyword).length+(if ([]:List Keyword).isEmpty then 0 else 1) < 30))=true:=by rfl)
  (hline:(apos.endLine == cpos.line)=true:=by rfl) (hs:starEach [e] X.env=(false,eval e X.env) :: starEach [] X.env:=by rfl) (hplain:(backTo cpos (starEach [] X.env)).any (·.1)=false:=by rfl) :
  PV G X (.Call (.Attribute a "join" apos) [e] [] cpos) (eM hV ca cs) :=
 Dl PySem.F.plainAttrs_str PySem.F.slot_str_join PySem.F.type_str_join (hK ▸ yM) yn (fun H v x F l z r e=>wD r (by
  unfold hV at e
  split at e
  ·exact ⟨_,rfl⟩
  ·cases e)) ho ha hK hbase hfew hline hs hplain
end
end VS
end
section
namespace VS
@[simp] noncomputable def oIx (x y:Val):Wq:=match x.2 with
 | .dct 0 l=>if iM y.2 then (eX l y.2).map (sub x.1) else none
 | _=>aN x y
@[simp] noncomputable def flat:T->Bool
 | .non=>true
 | .bl _=>true
 | .int _=>true
 | .str _=>true
 | _=>false
@[simp] noncomputable def kx (x y:Val):Wq:=match y.2 with
 | .dct 0 l=>if iM x.2 then some (.fr,.bl (eX l x.2).isSome) else none
 | .lst l=>if flat x.2 && l.all flat then some (.fr,.bl (l.any fun y=>eqT y x.2)) else none
 | .tup l=>if flat x.2 && l.all flat then some (.fr,.bl (l.any fun y=>eqT y x.2)) else none
 | _=>none
@[simp] noncomputable def dn (x y:Val):Wq:=match kx x y with
 | some (_,.bl b)=>some (.fr,.bl (!b))
 | _=>none
noncomputable def pm {α:Type} (f:T->Option (T×α)):List Ky->T->Option (T×α)
 | [],t=>f t
 | .fld k :: r,.obj (c+1) (q :: fs)=>(fs.findIdx? fun p=>p.1 == k).bind fun i=>(fs[i]?).bind fun p=>(pm f r p.2).map fun z=>(.obj (c+1) (q :: fs.set i (p.1,z.1)),z.2)
 | .un :: r,.obj 0 [(0,.bl true),(m,x)]=>(pm f r x).map fun z=>(.obj 0 [(0,.bl true),(m,z.1)],z.2)
 | .at (.int i) :: r,.lst l=>(ixP l.length i).bind fun j=>(l[j]?).bind fun x=>(pm f r x).map fun z=>(.lst (l.set j z.1),z.2)
 | .at k :: r,.dct 0 l=>if iM k then (l.findIdx? fun p=>eqT p.1 k).bind fun i=>(l[i]?).bind fun p=>(pm f r p.2).map fun z=>(.dct 0 (l.set i (p.1,z.1)),z.2) else none
 | _,_=>none
end VS
end
section
namespace VS
open PySem PySem.Spec PyProof.Rows L2
section
variable {G:Gx} {X:Cx} {a b c e:Expr} {es:List Expr} {ca cb cc:Ex} {cs:Exs} {pos p:Pos}
mutual
noncomputable def toP:T->PyData
 | .non=>.none
 | .bl b=>.bool b
 | .int i=>.int i
 | .str s=>.str (sx s)
 | .tup l=>.tuple (kN l)
 | .lst l=>.list (kN l)
 | _=>.none
noncomputable def kN:Wp->List PyData
 | []=>[]
 | t :: r=>toP t :: kN r
end
theorem DM {s:Tx} (h:mw s):PyData.strOk (sx s)=true:=by
 unfold PyData.strOk sx
 simp only [Array.all_eq_true,decide_eq_true_eq]
 intro i hi
 have:s.toArray[i]∈s:=by simp
 have:=h.2 _ this
 simpa using this
theorem wF {s t:Tx}:(sx s == sx t)=(s == t):=by
 rw [XW,beq_iff_eq,beq_iff_eq]
 constructor
 ·intro h
  have:(sx s).cps=(sx t).cps:=by rw [h]
  simpa [sx] using this
 ·intro h
  rw [h]
mutual
theorem nS:∀ (n k:Nat) (t u:T),eqD n t=true->eqD k u=true->PyData.eqv (toP t) (toP u)=eqT t u
 | n,k,t,u,h1,h2=>by
  cases t with
  | scr _=>cases n <;> simp at h1
  | dct _ _=>cases n <;> simp at h1
  | obj _ _=>cases n <;> simp at h1
  | tup l =>
   cases n with
   | zero=>simp at h1
   | succ n =>
    cases u with
    | tup r =>
     cases k with
     | zero=>simp at h2
     | succ k =>
      simp only [toP,PyData.eqv,eqT]
      exact lT n k l r (by simpa using h1) (by simpa using h2)
    | scr _=>cases k <;> simp at h2
    | dct _ _=>cases k <;> simp at h2
    | obj _ _=>cases k <;> simp at h2
    | _=>simp [toP,PyData.eqv,eqT]
  | lst l =>
   cases n with
   | zero=>simp at h1
   | succ n =>
    cases u with
    | lst r =>
     cases k with
     | zero=>simp at h2
     | succ k =>
      simp only [toP,PyData.eqv,eqT]
      exact lT n k l r (by simpa using h1) (by simpa using h2)
    | scr _=>cases k <;> simp at h2
    | dct _ _=>cases k <;> simp at h2
    | obj _ _=>cases k <;> simp at h2
    | _=>simp [toP,PyData.eqv,eqT]
  | str s =>
   cases u with
   | str r=>simp only [toP,PyData.eqv,eqT];exact wF
   | scr _=>cases k <;> simp at h2
   | dct _ _=>cases k <;> simp at h2
   | obj _ _=>cases k <;> simp at h2
   | _=>simp [toP,PyData.eqv,eqT]
  | _ =>
   cases u with
   | scr _=>cases k <;> simp at h2
   | dct _ _=>cases k <;> simp at h2
   | obj _ _=>cases k <;> simp at h2
   | _=>simp [toP,PyData.eqv,eqT]
theorem lT:∀ (n k:Nat) (l r:Wp),(∀ t∈l,eqD n t=true)->(∀ t∈r,eqD k t=true)->PyData.eqvAll (kN l) (kN r)=qg l r
 | _,_,[],[],_,_=>rfl
 | _,_,[],_ :: _,_,_=>rfl
 | _,_,_ :: _,[],_,_=>rfl
 | n,k,t :: l,u :: r,h1,h2=>by
  simp only [kN,PyData.eqvAll,qg]
  rw [nS n k t u (h1 t Zt) (h2 u Zt),lT n k l r (fun x hx=>h1 x (Zx _ hx)) fun x hx=>h2 x (Zx _ hx)]
end
theorem Rp.tup_inv5 {H:Hp} {v:V} {ts:Wp} {F:Wy} (r:Rp G H v (.tup ts) F):∃ b vs Fs,v=.ref b/\H b=some (.tup vs)/\RpL G H vs ts Fs:=by
 cases r with
 | tup h q=>exact ⟨_,_,_,rfl,h,q⟩
theorem Rp.lst_inv5 {H:Hp} {v:V} {ts:Wp} {F:Wy} (r:Rp G H v (.lst ts) F):∃ b vs Fs,v=.ref b/\H b=some (.lst vs)/\RpL G H vs ts Fs:=by
 cases r with
 | lst h q=>exact ⟨_,_,_,rfl,h,q⟩
theorem j6 {H:Hp} {s:Shared} {n:Nat} (rd:∀ {v:V} {t:T} {F:Wy} {u:Value},Rp G H v t F->RelV v u->eqD n t=true->∃ as,Reads s.heap u (toP t) as/\(toP t).canLay0=true/\(toP t).depth<=n):∀ {vs:List V} {ts:Wp} {Fs:Xd} {us:Wx},RpL G H vs ts Fs->aV vs us->(∀ t∈ts,eqD n t=true) →
  ∃ as,ReadsAll s.heap us (kN ts) as/\PyData.canLayAll0 (kN ts)=true/\PyData.depthAll (kN ts)<=n
 | _,_,_,_,.nil,r,_=>by cases r;exact ⟨_,.nil,rfl,Yn _⟩
 | _,_,_,_,.cons p q,r,h=>by
  cases r with
  | cons r1 r2 =>
   obtain ⟨as,h1,h2,h3⟩:=rd p r1 (h _ Zt)
   obtain ⟨bs,g1,g2,g3⟩:=j6 rd q r2 fun t ht=>h t (Zx _ ht)
   exact ⟨_,.cons h1 g1,by simp only [kN,PyData.canLayAll0,h2,g2,Bool.and_self],by simp only [kN,PyData.depthAll];lia⟩
theorem mf {h:Heap} {H:Hp} {v:V} {t:T} {F:Wy} {u:Value} {n:Nat} (r:Rp G H v t F) (ru:RelV v u) (hf:flat t=true):∃ as,Reads h u (toP t) as/\(toP t).canLay0=true/\(toP t).depth<=n:=by
 cases r with
 | non=>cases ru;exact ⟨_,.none,rfl,Yn _⟩
 | bl b=>cases ru;exact ⟨_,.bool b,rfl,Yn _⟩
 | int i=>obtain ⟨t,rfl⟩:=ru;exact ⟨_,.int i t,rfl,Yn _⟩
 | str s h=>obtain ⟨t,rfl⟩:=ru;exact ⟨_,.str _ t,DM h,Yn _⟩
 | _=>cases hf
theorem jM {H:Hp} {pins:Xm} {σ:L2.St} {s:Shared} (I:Inv X pins σ H s) (n:Nat):∀ {v:V} {t:T} {F:Wy} {u:Value},Rp G H v t F->RelV v u->eqD n t=true->∃ as,Reads s.heap u (toP t) as/\(toP t).canLay0=true/\(toP t).depth<=n:=by
 induction n with
 | zero =>
  intro v t F u r ru h
  refine mf r ru ?_
  cases t <;> first | rfl | exact h
 | succ n ih =>
  intro v t F u r ru h
  cases t with
  | tup l =>
   obtain ⟨b,vs,Fs,rfl,e,q⟩:=Rp.tup_inv5 r
   cases ru
   obtain ⟨its,rv,tp,hz⟩:=I.tuple (SqT.of e)
   obtain ⟨as,h1,h2,h3⟩:=j6 ih q rv (by simpa using h)
   obtain ⟨o,ho,hc,n',hd⟩:=tp
   exact ⟨_,.tuple ho hc hd (by simpa using h1),h2,by simp only [toP,PyData.depth];exact Y4 h3⟩
  | lst l =>
   obtain ⟨b,vs,Fs,rfl,e,q⟩:=Rp.lst_inv5 r
   cases ru
   obtain ⟨its,rv,pl,hz⟩:=I.list (SqL.of e)
   obtain ⟨as,h1,h2,h3⟩:=j6 ih q rv (by simpa using h)
   obtain ⟨o,ho,hc,n',hd⟩:=pl.isList
   exact ⟨_,.list ho hc hd (by simpa using h1),h2,by simp only [toP,PyData.depth];exact Y4 h3⟩
  | scr _=>simp at h
  | dct _ _=>simp at h
  | obj _ _=>simp at h
  | _=>exact mf r ru rfl
noncomputable def xg (G:Gx) (neg:Bool):R2:=fun x y H Q=>∃ t u F F',Rp G H x t F/\Rp G H y u F'/\eqD 60 t=true/\eqD 60 u=true/\Q (.bl (if neg then !eqT t u else eqT t u)) H
theorem iE {d:PyData} (h:d.canLay0=true) (h2:d.depth<=60):SeqAt.shaped d=true:=by
 unfold SeqAt.shaped
 rw [h,Bool.true_and]
 exact decide_eq_true (by lia)
theorem t6 (hu:X.A.units+64 < cLine):OpR X (compareOp .Eq) (xg G false):=by
 intro pins s σ H x y v u Q I rx ry h
 obtain ⟨t,w,F,F',r1,r2,h1,h2,q⟩:=h
 obtain ⟨as,a1,a2,a3⟩:=jM I 60 r1 rx h1
 obtain ⟨bs,b1,b2,b3⟩:=jM I 60 r2 ry h2
 refine eq_dataH a1 b1 (iE a2 a3) (iE b2 b3) hu ⟨.bl _,H,I,rfl,?_⟩
 rw [nS 60 60 t w h1 h2]
 exact q
theorem A9 (hu:X.A.units+64 < cLine):OpR X (compareOp .NotEq) (xg G true):=by
 intro pins s σ H x y v u Q I rx ry h
 obtain ⟨t,w,F,F',r1,r2,h1,h2,q⟩:=h
 obtain ⟨as,a1,a2,a3⟩:=jM I 60 r1 rx h1
 obtain ⟨bs,b1,b2,b3⟩:=jM I 60 r2 ry h2
 refine ne_dataH a1 b1 (iE a2 a3) (iE b2 b3) hu ⟨.bl _,H,I,rfl,?_⟩
 rw [nS 60 60 t w h1 h2]
 exact q
theorem zz:gm G (xg G false) oEq:=by
 intro Φ η H0 H x y u w F1 F2 m t Q tw e k
 unfold oEq at e
 split at e
 ·rename_i h
  cases e
  exact ⟨_,_,_,_,tw.r1,tw.r2,h.1,h.2,bF k (.bl _)⟩
 ·cases e
theorem C9:gm G (xg G true) oNe:=by
 intro Φ η H0 H x y u w F1 F2 m t Q tw e k
 unfold oNe at e
 split at e
 ·rename_i h
  cases e
  exact ⟨_,_,_,_,tw.r1,tw.r2,h.1,h.2,bF k (.bl _)⟩
 ·cases e
theorem tells_eq:Tells oEq:=by
 intro x y m t e
 unfold oEq at e
 split at e <;> first | (cases e;exact ⟨_,rfl⟩) | cases e
theorem uf:Tells oNe:=by
 intro x y m t e
 unfold oNe at e
 split at e <;> first | (cases e;exact ⟨_,rfl⟩) | cases e
end
structure Frm (Φ:Fps) (η:VS.Env) (H:Hp) (Φ':Fps) (η':VS.Env) (H':Hp):Prop where
 keep:∀ a o,H a=some o->¬ cK Φ η a->H' a=some o/\¬ cK Φ' η' a
 dom:∀ a,H a ≠ none->H' a ≠ none
 ow:∀ a,cK Φ' η' a->cK Φ η a\/H a=none
 pu:∀ a,dI Φ' η' a->dI Φ η a\/cK Φ η a\/H a=none
 kept:Kept H H'
theorem Frm.refl (Φ:Fps) (η:VS.Env) (H:Hp):Frm Φ η H Φ η H:=⟨fun a o h n=>⟨h,n⟩,fun _ h=>h,fun _ h=>.inl h,fun _ h=>.inl h,Kept.refl H⟩
theorem Frm.none {Φ Φ':Fps} {η η':VS.Env} {H H':Hp} (f:Frm Φ η H Φ' η' H') {a:Addr} (h:H' a=none):H a=none:=by
 cases e:H a with
 | none=>rfl
 | some o=>exact absurd h (f.dom a (by rw [e];exact fun z=>nomatch z))
theorem Frm.trans {Φ Φ1 Φ2:Fps} {η η1 η2:VS.Env} {H H1 H2:Hp} (f:Frm Φ η H Φ1 η1 H1) (g:Frm Φ1 η1 H1 Φ2 η2 H2):Frm Φ η H Φ2 η2 H2 where
 keep:=fun a o h n=>let ⟨h1,n1⟩:=f.keep a o h n;g.keep a o h1 n1
 dom:=fun a h=>g.dom a (f.dom a h)
 ow:=fun a h=>by
  rcases g.ow a h with h | h
  ·exact f.ow a h
  ·exact .inr (f.none h)
 pu:=fun a h=>by
  rcases g.pu a h with h | h | h
  ·exact f.pu a h
  ·rcases f.ow a h with h | h
   ·exact .inr (.inl h)
   ·exact .inr (.inr h)
  ·exact .inr (.inr (f.none h))
 kept:=f.kept.trans g.kept
theorem Frm.same {Φ:Fps} {η:VS.Env} {H H':Hp} (e:aJ H H'):Frm Φ η H Φ η H' :=
 ⟨fun a o h n=>⟨e a o h,n⟩,fun a h z=>h (e.free z),fun _ h=>.inl h,fun _ h=>.inl h,Kept.of e⟩
noncomputable def oT (Φ:Fps) (η:VS.Env) (H:Hp):Md->Wy->Prop
 | .fr,F=>F.Nodup/\∀ a∈F,H a=none\/cK Φ η a
 | _,F=>∀ a∈F,H a=none\/dI Φ η a\/cK Φ η a
theorem oT.back {Φ Φ1:Fps} {η η1:VS.Env} {H H1:Hp} (f:Frm Φ η H Φ1 η1 H1) {F:Wy}:∀ {m:Md},oT Φ1 η1 H1 m F->oT Φ η H m F
 | .fr,h=>⟨h.1,fun a ha=>(h.2 a ha).elim (fun z=>.inl (f.none z)) fun z=>(f.ow a z).elim .inr .inl⟩
 | .pu,h=>fun a ha=>by
  rcases h a ha with z | z | z
  ·exact .inl (f.none z)
  ·rcases f.pu a z with z | z | z
   ·exact .inr (.inl z)
   ·exact .inr (.inr z)
   ·exact .inl z
  ·exact (f.ow a z).elim (fun z=>.inr (.inr z)) .inl
 | .bo,h=>fun a ha=>by
  rcases h a ha with z | z | z
  ·exact .inl (f.none z)
  ·rcases f.pu a z with z | z | z
   ·exact .inr (.inl z)
   ·exact .inr (.inr z)
   ·exact .inl z
  ·exact (f.ow a z).elim (fun z=>.inr (.inr z)) .inl
noncomputable def Nx (G:Gx) (Φ:Fps) (η:VS.Env) (H:Hp) (η':VS.Env) (k:L2.St->Hp->Prop):Prop:=∀ Φ' σ' H',SR G Φ' η' σ' H'->Frm Φ η H Φ' η' H'->k σ' H'
noncomputable def rB (G:Gx) (Φ:Fps) (η:VS.Env) (H:Hp) (D:Ends):Out->Prop
 | .nx η'=>Nx G Φ η H η' D.nx
 | .bk η'=>Nx G Φ η H η' D.bk
 | .ct η'=>Nx G Φ η H η' D.ct
 | .rt v η'=>∀ u H' F Φ' σ',SR G Φ' η' σ' H'->Frm Φ η H Φ' η' H'->Rp G H' u v.2 F->oT Φ η H v.1 F->D.rt u H'
noncomputable def tS (G:Gx) (c:Sx):TS:=fun D σ H=>∃ Φ η o,SR G Φ η σ H/\c η=some o/\rB G Φ η H D o
noncomputable def PSV (G:Gx) (X:Cx) (st:Stmt) (c:Sx):Prop:=PS X st (tS G c)
noncomputable def cB (G:Gx) (X:Cx) (st:List Stmt) (c:Sx):Prop:=PSs X st (tS G c)
theorem PS.weak {X:Cx} {e:Stmt} {t t':TS} (h:PS X e t) (w:∀ D σ H,t' D σ H->t D σ H):PS X e t':=fun pins s σ H D I q=>h pins s σ H D I (w D σ H q)
theorem PSs.weak {X:Cx} {e:List Stmt} {t t':TS} (h:PSs X e t) (w:∀ D σ H,t' D σ H->t D σ H):PSs X e t':=fun pins s σ H D I q=>h pins s σ H D I (w D σ H q)
theorem rB.back {G:Gx} {Φ Φ1:Fps} {η η1:VS.Env} {H H1:Hp} {D:Ends} (f:Frm Φ η H Φ1 η1 H1):∀ {o:Out},rB G Φ η H D o->rB G Φ1 η1 H1 D o
 | .nx η',h=>fun Φ' σ' H' s g=>h Φ' σ' H' s (f.trans g)
 | .bk η',h=>fun Φ' σ' H' s g=>h Φ' σ' H' s (f.trans g)
 | .ct η',h=>fun Φ' σ' H' s g=>h Φ' σ' H' s (f.trans g)
 | .rt v η',h=>fun u H' F Φ' σ' s g r q=>h u H' F Φ' σ' s (f.trans g) r (q.back f)
section
variable {G:Gx} {X:Cx} {st:Stmt} {sts:List Stmt} {c c1 c2:Sx} {pos:Pos} {e:Expr} {ce:Ex}
theorem yt:cB G X [] d2:=PSs.weak xu fun D σ H hq=>by
 obtain ⟨Φ,η,o,s,e,k⟩:=hq
 cases (show some (Out.nx η)=some o from e)
 exact k Φ σ H s (Frm.refl _ _ _)
theorem uJ (h1:PSV G X st c1) (h2:cB G X sts c2):cB G X (st :: sts) (ar c1 c2):=PSs.weak (uP h1 h2) fun D σ H hq=>by
 obtain ⟨Φ,η,o,s,e,k⟩:=hq
 unfold ar at e
 obtain ⟨o1,e1,e2⟩:=Zz.mp e
 refine ⟨Φ,η,o1,s,e1,?_⟩
 cases o1 with
 | nx η1=>exact fun Φ' σ' H' s' f=>⟨Φ',η1,o,s',e2,k.back f⟩
 | rt v η1=>cases e2;exact k
 | bk η1=>cases e2;exact k
 | ct η1=>cases e2;exact k
theorem ya (h1:PSV G X st c1):cB G X [st] c1:=xf h1
theorem Bz {t:Expr} {ct:Ex} {a b:List Stmt} (hc:PVT G X t ct) (ha:cB G X a c1) (hb:cB G X b c2):PSV G X (.If t a b pos) (sIf ct c1 c2):=PS.weak (zk hc ha hb) fun D σ H hq=>by
 obtain ⟨Φ,η,o,s,e,k⟩:=hq
 unfold sIf at e
 obtain ⟨⟨m,x⟩,ec,e1⟩:=Zz.mp e
 obtain ⟨b',eb,e2⟩:=Zz.mp e1
 refine ⟨Φ,η,m,x,b',s,ec,eb,fun H' e3=>?_⟩
 cases b' with
 | true =>
  rw [Zr rfl] at e2
  exact sD ⟨Φ,η,o,s.same e3,e2,k.back (Frm.same e3)⟩
 | false =>
  rw [Zp Zh] at e2
  exact sS ⟨Φ,η,o,s.same e3,e2,k.back (Frm.same e3)⟩
theorem Fp.ret {Φ:Fps} {η:VS.Env} {H:Hp} {F:Wy}:∀ {m:Md},Fp Φ η H m F->oT Φ η H (match m with | .bo=>.pu | m=>m) F
 | .fr,f=>⟨f.1,fun a ha=>.inl (f.2 a ha)⟩
 | .pu,f=>fun a ha=>(f a ha).elim .inl fun z=>.inr (.inl z)
 | .bo,f=>f
theorem y8 (he:PV G X e ce):PSV G X (.Return (some e) pos) (fq ce):=PS.weak (nZ he) fun D σ H hq=>by
 obtain ⟨Φ,η,o,s,e,k⟩:=hq
 unfold fq at e
 obtain ⟨⟨m,x⟩,ec,e1⟩:=Zz.mp e
 cases e1
 exact ⟨Φ,η,m,x,s,ec,fun v H' F e1 r1 f1=>k v H' F Φ σ (s.same e1) (Frm.same e1) r1 f1.ret⟩
theorem cP {η:VS.Env} {i j:Nat} {c:Cell} (h:(η.set i none)[j]?=some (some c)):j ≠ i/\η[j]?=some (some c):=by
 rw [X1] at h
 split at h
 ·split at h <;> cases h
 ·rename_i n
  exact ⟨fun z=>n z.symm,h⟩
theorem SR.drop {Φ:Fps} {η:VS.Env} {σ:L2.St} {H:Hp} (s:SR G Φ η σ H) (i:Nat):SR G Φ (η.set i none) σ H :=
 ⟨by rw [ZJ];exact s.len,fun j c h=>s.rp j c (cP h).2,fun j t h=>s.nd j t (cP h).2,fun j k t c h1 h2 n=>s.sep j k t c (cP h1).2 (cP h2).2 n⟩
theorem Frm.drop {Φ:Fps} {η:VS.Env} {H:Hp} (i:Nat):Frm Φ η H Φ (η.set i Option.none) H :=
 ⟨fun a o h n=>⟨h,fun ⟨j,t,h1,h2⟩=>n ⟨j,t,(cP h1).2,h2⟩⟩,fun _ h=>h,fun a ⟨j,t,h1,h2⟩=>.inl ⟨j,t,(cP h1).2,h2⟩,fun a ⟨j,t,h1,h2⟩=>.inl ⟨j,t,(cP h1).2,h2⟩,Kept.refl H⟩
theorem ug (i:Nat) {x:Str} {p:Pos} (hN:X.N[i]?=some x:=by rfl) (hv:Vis X.env.scope x:=by first | exact Or.inl rfl | exact Or.inr (Or.inl rfl) | exact Or.inr (Or.inr rfl)) (hd:(x == ("__debug__" : Str))=false:=by decide)
  (hcd:(x == ("__classdict__" : Str))=false:=by decide):PSV G X (.Return (some (.Name x p)) pos) (g0 i):=PS.weak (nZ (fZ hN hv hd hcd)) fun D σ H hq=>by
 obtain ⟨Φ,η,o,s,e,k⟩:=hq
 unfold g0 at e
 split at e
 ·rename_i t h
  obtain ⟨v,h1,h2⟩:=s.rp _ _ h
  cases e
  exact ⟨v,h1,k v H (Φ i) Φ σ (s.drop i) (Frm.drop i) h2 ⟨s.nd i t h,fun a ha=>.inr ⟨i,t,h,ha⟩⟩⟩
 ·rename_i t h
  obtain ⟨v,h1,h2⟩:=s.rp _ _ h
  cases e
  refine ⟨v,h1,k v H (Φ i) Φ σ s (Frm.refl _ _ _) h2 ?_⟩
  have f:Fp Φ η H .pu (Φ i):=fun a ha=>.inr ⟨i,t,h,ha⟩
  have f2:=(f.up h2).ret
  have:(match (VS.up .pu (jq (.pu t))).1 with | .bo=>Md.pu | m=>m)=(VS.up .pu t).1:=by
   show (match (VS.up .pu t).1 with | .bo=>Md.pu | m=>m)=_
   unfold VS.up
   split <;> (rename_i q;revert q;split <;> simp)
  rw [this] at f2
  exact f2
 ·cases e
noncomputable def ku (Φ:Fps) (i:Nat) (F:Wy):Fps:=fun j=>if j=i then F else Φ j
theorem iz {Φ:Fps} {i:Nat} {F:Wy}:ku Φ i F i=F:=Zr rfl
theorem eQ {Φ:Fps} {i j:Nat} {F:Wy} (h:j ≠ i):ku Φ i F j=Φ j:=Zp h
theorem gN {η:VS.Env} {i j:Nat} {c c':Cell} (h:(η.set i (some c))[j]?=some (some c')):(j=i/\c'=c)\/(j ≠ i/\η[j]?=some (some c')):=by
 rw [X1] at h
 split at h
 ·rename_i e
  split at h
  ·exact .inl ⟨e.symm,(Zn (Zn h)).symm⟩
  ·cases h
 ·rename_i n
  exact .inr ⟨fun z=>n z.symm,h⟩
theorem SR.put {Φ:Fps} {η:VS.Env} {σ:L2.St} {H H':Hp} {i:Nat} {v:V} {c:Cell} {F:Wy} (s:SR G Φ η σ H) (hi:i < η.length) (r:Rp G H' v (jq c) F)
  (hk:∀ j c',j ≠ i->η[j]?=some (some c')->∀ w,Rp G H w (jq c') (Φ j)->Rp G H' w (jq c') (Φ j))
  (hnd:∀ t,c=.ow t->F.Nodup) (hown:∀ t,c=.ow t->∀ j c',j ≠ i->η[j]?=some (some c')->∀ a∈F,a ∉ Φ j) (hpu:∀ j t,j ≠ i->η[j]?=some (some (.ow t))->∀ a∈Φ j,a ∉ F) :
  SR G (ku Φ i F) (η.set i (some c)) (σ.set i (some v)) H' where
 len:=by rw [ZJ,ZJ];exact s.len
 rp:=fun j c' h=>by
  rcases gN h with ⟨rfl,rfl⟩ | ⟨n,h⟩
  ·exact ⟨v,by rw [YC (by rw [← s.len];exact hi)],by rw [iz];exact r⟩
  ·obtain ⟨w,h1,h2⟩:=s.rp j c' h
   exact ⟨w,by rw [Yz (Yd n)];exact h1,by rw [eQ n];exact hk j c' n h w h2⟩
 nd:=fun j t h=>by
  rcases gN h with ⟨rfl,e⟩ | ⟨n,h⟩
  ·rw [iz];exact hnd t e.symm
  ·rw [eQ n];exact s.nd j t h
 sep:=fun j k t c' h1 h2 n=>by
  rcases gN h1 with ⟨rfl,e⟩ | ⟨n1,g1⟩
  ·rcases gN h2 with ⟨rfl,e2⟩ | ⟨n2,g2⟩
   ·exact absurd rfl n
   ·rw [iz,eQ n2]
    exact hown t e.symm k c' n2 g2
  ·rcases gN h2 with ⟨rfl,e2⟩ | ⟨n2,g2⟩
   ·rw [iz,eQ n1]
    exact hpu j t n1 g1
   ·rw [eQ n1,eQ n2]
    exact s.sep j k t c' g1 g2 n
theorem lY {Φ:Fps} {η:VS.Env} {i:Nat} {c:Cell} {F:Wy} {a:Addr} (h:cK (ku Φ i F) (η.set i (some c)) a):(∃ t,c=.ow t/\a∈F)\/cK Φ η a:=by
 obtain ⟨j,t,h1,h2⟩:=h
 rcases gN h1 with ⟨rfl,e⟩ | ⟨n,h1⟩
 ·rw [iz] at h2;exact .inl ⟨t,e.symm,h2⟩
 ·rw [eQ n] at h2;exact .inr ⟨j,t,h1,h2⟩
theorem p7 {Φ:Fps} {η:VS.Env} {i:Nat} {c:Cell} {F:Wy} {a:Addr} (h:dI (ku Φ i F) (η.set i (some c)) a):(∃ t,c=.pu t/\a∈F)\/dI Φ η a:=by
 obtain ⟨j,t,h1,h2⟩:=h
 rcases gN h1 with ⟨rfl,e⟩ | ⟨n,h1⟩
 ·rw [iz] at h2;exact .inl ⟨t,e.symm,h2⟩
 ·rw [eQ n] at h2;exact .inr ⟨j,t,h1,h2⟩
theorem SR.ow_pu {Φ:Fps} {η:VS.Env} {σ:L2.St} {H:Hp} (s:SR G Φ η σ H) {a:Addr} (h:cK Φ η a) (h':dI Φ η a):False:=by
 obtain ⟨j,t,h1,h2⟩:=h
 obtain ⟨k,u,g1,g2⟩:=h'
 have n:j ≠ k:=fun e=>by subst e;rw [h1] at g1;cases g1
 exact s.sep j k t _ h1 g1 n a h2 g2
theorem SR.val {Φ:Fps} {η:VS.Env} {σ:L2.St} {H H':Hp} {i:Nat} {v:V} {t:T} {m:Md} {F:Wy} {c:Cell} (s:SR G Φ η σ H) (hi:i < η.length) (e:aJ H H') (r:Rp G H' v t F) (f:Fp Φ η H m F)
  (hc:(c=.pu t/\m ≠ .bo)\/(c=.ow t/\m=.fr)):SR G (ku Φ i F) (η.set i (some c)) (σ.set i (some v)) H'/\Frm Φ η H (ku Φ i F) (η.set i (some c)) H':=by
 have dom:∀ {a},H a=none->∀ j c',η[j]?=some (some c')->a ∉ Φ j:=fun {a} h j c' hj ha=>by
  obtain ⟨w,_,q⟩:=s.rp j c' hj
  exact Mut.ne_none (q.dom a ha) h
 have ct:jq c=t:=by rcases hc with ⟨rfl,_⟩ | ⟨rfl,_⟩ <;> rfl
 have fpu:∀ a∈F,H a=none\/dI Φ η a:=fun a ha=>by
  rcases hc with ⟨_,n⟩ | ⟨_,n⟩
  ·exact f.pu n a ha
  ·rw [n] at f;exact .inl (f.2 a ha)
 constructor
 ·refine s.put hi (by rw [ct];exact r) (fun j c' n hj w q=>q.same e) (fun u hu=>?_) (fun u hu j c' n hj a ha=>?_) fun j u n hj a ha hF=>?_
  ·rcases hc with ⟨h,_⟩ | ⟨_,h⟩
   ·rw [h] at hu;cases hu
   ·rw [h] at f;exact f.1
  ·rcases hc with ⟨h,_⟩ | ⟨_,h⟩
   ·rw [h] at hu;cases hu
   ·rw [h] at f;exact dom (f.2 a ha) j c' hj
  ·rcases fpu a hF with z | z
   ·exact dom z j _ hj ha
   ·exact s.ow_pu ⟨j,u,hj,ha⟩ z
 ·refine ⟨fun a o h n=>⟨e a o h,fun z=>?_⟩,fun a h z=>h (e.free z),fun a h=>?_,fun a h=>?_,Kept.of e⟩
  ·rcases lY z with ⟨u,hu,ha⟩ | z
   ·rcases hc with ⟨h',_⟩ | ⟨_,h'⟩
    ·rw [h'] at hu;cases hu
    ·rw [h'] at f
     rw [f.2 a ha] at h;cases h
   ·exact n z
  ·rcases lY h with ⟨u,hu,ha⟩ | z
   ·rcases hc with ⟨h',_⟩ | ⟨_,h'⟩
    ·rw [h'] at hu;cases hu
    ·rw [h'] at f
     exact .inr (f.2 a ha)
   ·exact .inl z
  ·rcases p7 h with ⟨u,hu,ha⟩ | z
   ·exact (fpu a ha).elim (fun z=>.inr (.inr z)) .inl
   ·exact .inl z
theorem yR {i:Nat} {x:Str} {pos':Pos} (he:PV G X e ce) (hN:X.N.Nodup) (hi:X.N[i]?=some x:=by rfl) (hx:Loc X.env.scope x:=by first | exact Or.inl rfl | exact Or.inr rfl)
  (hs:swapsWith e (some (.Name x pos')) pos.line X.env=pure false:=by rfl) (hf:X.fn x=true\/X.env.scope.names.lookup x=some .local:=by first | exact .inl rfl | exact .inr rfl) :
  PSV G X (.Assign [.Name x pos'] e pos) (gZ i ce):=PS.weak (qq hN hi hx he hs hf) fun D σ H hq=>by
 obtain ⟨Φ,η,o,s,e,k⟩:=hq
 unfold gZ at e
 obtain ⟨⟨m,t⟩,ec,e1⟩:=Zz.mp e
 obtain ⟨c,eC,e2⟩:=Zz.mp e1
 split at e2
 ·rename_i hl
  cases e2
  refine ⟨Φ,η,m,t,s,ec,fun v H' F e3 r3 f3=>?_⟩
  obtain ⟨q1,q2⟩:=s.val (c:=c) hl e3 r3 f3 (by
   unfold cellOf at eC
   cases m with
   | fr =>
    simp only [Option.some.injEq] at eC
    split at eC
    ·exact .inr ⟨eC.symm,rfl⟩
    ·exact .inl ⟨eC.symm,by decide⟩
   | pu=>cases eC;exact .inl ⟨rfl,by decide⟩
   | bo=>cases eC)
  exact k _ _ H' q1 q2
 ·cases e2
theorem u4 {i:Nat} {x:Str} {pos':Pos} (he:PV G X e ce) (hN:X.N.Nodup) (hi:X.N[i]?=some x:=by rfl) (hx:Loc X.env.scope x:=by first | exact Or.inl rfl | exact Or.inr rfl)
  (hs:swapsWith e (some (.Name x pos')) pos.line X.env=pure false:=by rfl) (hf:X.fn x=true\/X.env.scope.names.lookup x=some .local:=by first | exact .inl rfl | exact .inr rfl) :
  PSV G X (.Assign [.Name x pos'] e pos) (aM i ce):=PS.weak (qq hN hi hx he hs hf) fun D σ H hq=>by
 obtain ⟨Φ,η,o,s,e,k⟩:=hq
 unfold aM at e
 obtain ⟨⟨m,t⟩,ec,e1⟩:=Zz.mp e
 split at e1
 ·cases e1
 ·rename_i hm
  split at e1
  ·rename_i hl
   cases e1
   refine ⟨Φ,η,m,t,s,ec,fun v H' F e3 r3 f3=>?_⟩
   obtain ⟨q1,q2⟩:=s.val (c:=.pu t) hl e3 r3 f3 (.inl ⟨rfl,hm⟩)
   exact k _ _ H' q1 q2
  ·cases e1
theorem SR.frz {Φ:Fps} {η:VS.Env} {σ:L2.St} {H:Hp} {i:Nat} {t:T} (s:SR G Φ η σ H) (h:η[i]?=some (some (.ow t))):SR G Φ (η.set i (some (.pu t))) σ H/\Frm Φ η H Φ (η.set i (some (.pu t))) H:=by
 have back:∀ {j c},(η.set i (some (.pu t)))[j]?=some (some c)->∃ c',η[j]?=some (some c')/\jq c'=jq c/\∀ u,c=.ow u->c'=.ow u:=fun {j c} hj=>by
  rcases gN hj with ⟨rfl,rfl⟩ | ⟨n,hj⟩
  ·exact ⟨.ow t,h,rfl,fun u hu=>nomatch hu⟩
  ·exact ⟨c,hj,rfl,fun u hu=>hu⟩
 refine ⟨⟨by rw [ZJ];exact s.len,fun j c hj=>?_,fun j u hj=>?_,fun j k u c h1 h2 n=>?_⟩,⟨fun a o ha n=>⟨ha,fun ⟨j,u,h1,h2⟩=>?_⟩,fun _ h=>h,fun a ⟨j,u,h1,h2⟩=>?_,fun a ⟨j,u,h1,h2⟩=>?_,Kept.refl H⟩⟩
 ·obtain ⟨c',h1,h2,_⟩:=back hj
  obtain ⟨v,g1,g2⟩:=s.rp j c' h1
  exact ⟨v,g1,by rw [← h2];exact g2⟩
 ·obtain ⟨c',h1,_,h3⟩:=back hj
  rw [h3 u rfl] at h1
  exact s.nd j u h1
 ·obtain ⟨c1,g1,_,g3⟩:=back h1
  obtain ⟨c2,k1,_,_⟩:=back h2
  rw [g3 u rfl] at g1
  exact s.sep j k u c2 g1 k1 n
 ·obtain ⟨c1,g1,_,g3⟩:=back h1
  rw [g3 u rfl] at g1
  exact n ⟨j,u,g1,h2⟩
 ·obtain ⟨c1,g1,_,g3⟩:=back h1
  rw [g3 u rfl] at g1
  exact .inl ⟨j,u,g1,h2⟩
 ·rcases gN h1 with ⟨rfl,_⟩ | ⟨n,h1⟩
  ·exact .inr (.inl ⟨j,t,h,h2⟩)
  ·exact .inl ⟨j,u,h1,h2⟩
theorem xq (i:Nat) (h:cB G X sts c):cB G X sts (ar (oB i) c):=PSs.weak h fun D σ H hq=>by
 obtain ⟨Φ,η,o,s,e,k⟩:=hq
 unfold ar at e
 obtain ⟨o1,e1,e2⟩:=Zz.mp e
 unfold oB at e1
 split at e1
 ·rename_i t ht
  cases e1
  obtain ⟨q1,q2⟩:=s.frz ht
  exact ⟨Φ,_,o,q1,e2,k.back q2⟩
 ·cases e1
  exact ⟨Φ,η,o,s,e2,k⟩
 ·cases e1
end
section
variable {G:Gx} {X:Cx} {st:Stmt} {sts:List Stmt} {c c1 c2:Sx} {pos:Pos} {e:Expr} {es:List Expr} {ce:Ex} {cs:Exs}
structure Chg (G:Gx) (H:Hp) (v:V) (F:Wy) (t':T) (H2:Hp) (F':Wy):Prop where
 kept:Kept H H2
 keep:∀ b o,b ∉ F->H b=some o->H2 b=some o
 dom:∀ b,H b ≠ none->H2 b ≠ none
 rp:Rp G H2 v t' F'
 nd:F'.Nodup
 sub:∀ a∈F',a∈F\/H a=none
theorem SR.mut {Φ:Fps} {η:VS.Env} {σ:L2.St} {H H2:Hp} {i:Nat} {v:V} {t t':T} {F':Wy} (s:SR G Φ η σ H) (hi:η[i]?=some (some (.ow t))) (hv:σ[i]?=some (some v)) (g:Chg G H v (Φ i) t' H2 F') :
  SR G (ku Φ i F') (η.set i (some (.ow t'))) σ H2/\Frm Φ η H (ku Φ i F') (η.set i (some (.ow t'))) H2:=by
 have hl:i < η.length:=(Zj.mp hi).1
 have off:∀ j c',j ≠ i->η[j]?=some (some c')->∀ a∈Φ j,a ∉ Φ i:=fun j c' n hj a ha ha'=>s.sep i j t c' hi hj (Yd n) a ha' ha
 have es:σ.set i (some v)=σ:=by
  obtain ⟨h,e⟩:=Zj.mp hv
  rw [← e]
  exact XT h
 have new:∀ a∈F',∀ j c',j ≠ i->η[j]?=some (some c')->a ∉ Φ j:=fun a ha j c' n hj ha'=>by
  rcases g.sub a ha with z | z
  ·exact off j c' n hj a ha' z
  ·obtain ⟨w,_,q⟩:=s.rp j c' hj
   exact Mut.ne_none (q.dom a ha') z
 constructor
 ·have:=s.put (c:=.ow t') (F:=F') (H':=H2) (v:=v) hl g.rp (fun j c' n hj w q=>q.keep g.kept fun a ha o ho=>g.keep a o (off j c' n hj a ha) ho) (fun _ _=>g.nd) (fun u hu j c' n hj a ha=>new a ha j c' n hj) fun j u n hj a ha ha'=>new a ha' j _ n hj ha
  rw [es] at this
  exact this
 ·refine ⟨fun a o h n=>⟨g.keep a o (fun z=>n ⟨i,t,hi,z⟩) h,fun z=>?_⟩,g.dom,fun a h=>?_,fun a h=>?_,g.kept⟩
  ·rcases lY z with ⟨u,_,ha⟩ | z
   ·rcases g.sub a ha with z | z
    ·exact n ⟨i,t,hi,z⟩
    ·rw [z] at h;cases h
   ·exact n z
  ·rcases lY h with ⟨u,_,ha⟩ | z
   ·rcases g.sub a ha with z | z
    ·exact .inl ⟨i,t,hi,z⟩
    ·exact .inr z
   ·exact .inl z
  ·rcases p7 h with ⟨u,hu,ha⟩ | z
   ·cases hu
   ·exact .inl z
noncomputable def v8 (G:Gx) (r:V->List V->Hp->VK->Prop) (f:T->Wr->Option (T×Val)):Prop:=∀ (Φ:Fps) (η:VS.Env) (H H1:Hp) (v:V) (t t':T) (F:Wy) (l:Wr) (vs:List V) (Fs:Xd) (x:Val) (Q:VK),
 Rp G H v t F->F.Nodup->Args G Φ η H H1 l vs Fs->f t l=some (t',x)->(∀ u H2 F',Chg G H v F t' H2 F'->Q u H2)->r v vs H1 Q
theorem tZ {T' id:String} {name x:Str} {r:V->List V->Hp->VK->Prop} {f:T->Wr->Option (T×Val)} {apos cpos p1:Pos} (i:Nat) (pa:PlainAttrs T') (slot:Slot T' name id) (hty:typeOf (.builtin id)=pure (.type "method_descriptor")) (hm:MtR X id r) (ok:v8 G r f)
  (hT:∀ H v t F l z,Rp G H v t F->f t l=some z->tyV G.K T' v H) (ha:PVs G X (e :: es) cs) (hK:X.K=G.K:=by rfl)
  (hN:X.N[i]?=some x:=by rfl) (hv:Vis X.env.scope x:=by first | exact Or.inl rfl | exact Or.inr (Or.inl rfl) | exact Or.inr (Or.inr rfl)) (hd:(x == ("__debug__" : Str))=false:=by decide)
  (hcd:(x == ("__classdict__" : Str))=false:=by decide)
  (hbase:attributeBase (.Name x p1) name X.env (eval (.Name x p1) X.env)=eval (.Name x p1) X.env:=by rfl)
  (hfew:((backTo cpos (starEach (e :: es) X.env)).all (fun x=>!x.1) && (backToKw cpos (keywordEach [] X.env)).all (fun x=>x.1.isSome)
   && decide ((e :: es).length+([]:List Keyword).length+(if ([]:List Keyword).isEmpty then 0 else 1) < 30))=true:=by rfl)
  (hline:(apos.endLine == cpos.line)=true:=by rfl) (hs:starEach (e :: es) X.env=(false,eval e X.env) :: starEach es X.env:=by rfl) (hplain:(backTo cpos (starEach es X.env)).any (·.1)=false:=by rfl)
  (hsw:swapsWith (.Call (.Attribute (.Name x p1) name apos) (e :: es) [] cpos) none pos.line X.env=pure false:=by rfl) :
  PSV G X (.Expr (.Call (.Attribute (.Name x p1) name apos) (e :: es) [] cpos) pos) (sX (lX i [] f cs)) :=
 PS.weak (jE (rW pa slot hty hm (fZ hN hv hd hcd) ha hbase hfew hline hs hplain) hsw) fun D σ H hq=>by
  obtain ⟨Φ,η,o,s,e,k⟩:=hq
  unfold sX lX at e
  obtain ⟨⟨x',η'⟩,e1,e2⟩:=Zy.mp e
  split at e1
  ·rename_i t ht
   obtain ⟨ks,ek,e3⟩:=Zz.mp e1
   cases (show some ([]:List Ky)=some ks from ek)
   obtain ⟨l,el,e4⟩:=Zz.mp e3
   obtain ⟨⟨t',x2⟩,e5,e6⟩:=Zy.mp e4
   cases e6
   cases e2
   obtain ⟨v,h1,h2⟩:=s.rp _ _ ht
   have e7:f t l=some (t',x'):=e5
   refine ⟨v,h1,by rw [hK];exact hT H v t _ l _ h2 e7,Φ,η,l,s,el,fun vs H' Fs q1 q2 q3=>?_⟩
   refine ok Φ η H H' v t t' (Φ i) l vs Fs x' _ h2 (s.nd i t ht) ⟨q1,q2,q3⟩ e7 fun u H2 F' g=>?_
   obtain ⟨w1,w2⟩:=s.mut ht h1 g
   exact k _ σ H2 w1 w2
  ·cases e1
theorem Chg.upd {H H1:Hp} {v:V} {F:Wy} {a:Addr} {o:HO} {t':T} {F':Wy} (e:aJ H H1) (ha:a∈F) (hm:Mut (H1 a)) (r:Rp G (upd H1 a o) v t' F') (nd:F'.Nodup) (sub:∀ a∈F',a∈F\/H a=none):Chg G H v F t' (upd H1 a o) F' :=
 ⟨(Kept.of e).trans (Kept.upd (.inl hm)),fun b o' hb h=>by rw [aI (fun z=>hb (by rw [z];exact ha))];exact e b o' h,
  fun b h z=>by
   by_cases q:b=a
   ·subst q;rw [aF] at z;cases z
   ·rw [aI q] at z;exact h (e.free z),r,nd,sub⟩
theorem RpL.off {H:Hp} {vs:List V} {ts:Wp} {Fs:Xd} {a:Addr} {o:HO} (r:RpL G H vs ts Fs) (hm:Mut (H a)) (h:a ∉ Fs.flatten):RpL G (upd H a o) vs ts Fs :=
 r.keep (Kept.upd (.inl hm)) fun b hb o' ho=>by rw [aI (fun z=>h (by rw [← z];exact hb))];exact ho
theorem kD {v:Val} {t:T} (h:fit v=some t):v=(.fr,t):=by
 obtain ⟨m,x⟩:=v
 unfold fit at h
 cases m <;> first | (cases h;rfl) | cases h
theorem mW:v8 G rA aD:=by
 intro Φ η H H1 v t t' F l vs Fs x Q r nd A e k
 unfold aD at e
 split at e
 ·rename_i ts y
  obtain ⟨z,ez,e1⟩:=Zz.mp e
  have ey:=kD ez
  subst ey
  split at e1
  ·rename_i hl
   cases e1
   obtain ⟨a,us,Gs,rfl,rfl,ha,ra⟩:=r.lst_inv
   obtain ⟨w,Fw,rfl,rfl,rw'⟩:=(show RpL G H1 vs [z] Fs from A.rp).one
   have fw:Fp Φ η H .fr Fw:=A.fp.each 0 _ _ rfl rfl
   have ha1:H1 a=some (.lst us):=A.same a _ ha
   have m1:Mut (H1 a):=by rw [ha1];exact True.intro
   have na:a ∉ Gs.flatten:=(Ze.mp nd).1
   have nw:a ∉ Fw:=fun z=>by rw [fw.2 a z] at ha;cases ha
   refine ⟨a,us,w,rfl,rfl,ha1,by rw [ra.len.1];exact hl,k _ _ (a :: (Gs++[Fw]).flatten) ?_⟩
   have off:∀ b∈Gs.flatten,b ∉ Fw:=fun b hb hw=>Mut.ne_none (ra.dom b hb) (fw.2 b hw)
   refine Chg.upd A.same Zt m1 (.lst aF (((ra.same A.same).off m1 na).append (.cons (rw'.keep (Kept.upd (.inl m1)) fun b hb o ho=>by rw [aI (fun z=>nw (by rw [← z];exact hb))];exact ho) .nil))) ?_ ?_
   ·rw [Yt]
    refine Ze.mpr ⟨fun m=>?_,ZY.mpr ⟨(Ze.mp nd).2,by simpa using fw.1,fun b hb c hc z=>?_⟩⟩
    ·rcases Zg.mp m with m | m
     ·exact na m
     ·exact nw (by simpa using m)
    ·subst z;exact off b hb (by simpa using hc)
   ·intro b hb
    rcases Zi.mp hb with rfl | hb
    ·exact .inl Zt
    ·rw [Yt] at hb
     rcases Zg.mp hb with hb | hb
     ·exact .inl (Zx _ hb)
     ·exact .inr (fw.2 b (by simpa using hb))
  ·cases e1
 ·cases e
theorem vm {H:Hp} {v:V} {ts:Wp} {F:Wy} (r:Rp G H v (.lst ts) F):tyV G.K "list" v H:=by
 obtain ⟨a,us,Gs,rfl,rfl,ha,ra⟩:=r.lst_inv
 exact .inl ⟨rfl,_,SqL.of ha⟩
theorem kh {H:Hp} {v:V} {t:T} {F:Wy} {l:Wr} {z:T×Val} (r:Rp G H v t F) (h:aD t l=some z):tyV G.K "list" v H:=by
 unfold aD at h
 split at h
 ·exact vm r
 ·cases h
end
structure ItOk (G:Gx) (J:It) (l:Wp) (C:Wy) (H:Hp):Prop where
 run:∀ H2,Kept H H2->(∀ a∈C,∀ o,H a=some o->H2 a=some o) →
  (∀ (i:Nat) (t:T),l[i]?=some t->J.go i H2/\∀ x H3,J.yld i H2 x H3->aJ H2 H3/\∃ F,Rp G H3 x t F/\∀ a∈F,a∈C\/H2 a=none)/\∀ (i:Nat),l.length<=i->J.stop i H2
 dom:∀ a∈C,H a ≠ none
noncomputable def FpC (Φ:Fps) (η:VS.Env) (H:Hp) (m:Md) (C:Wy):Prop:=∀ a∈C,H a=none\/dI Φ η a\/(m=.bo/\cK Φ η a)
theorem Fp.c {Φ:Fps} {η:VS.Env} {H:Hp} {F:Wy}:∀ {m:Md},Fp Φ η H m F->FpC Φ η H m F
 | .fr,f=>fun a ha=>.inl (f.2 a ha)
 | .pu,f=>fun a ha=>(f a ha).imp id .inl
 | .bo,f=>fun a ha=>(f a ha).imp id fun z=>z.imp id fun z=>⟨rfl,z⟩
noncomputable def tI (G:Gx) (c:Its):TI:=fun σ H R=>∃ Φ η m l,SR G Φ η σ H/\c η=some (m,l)/\∀ J H' C,aJ H H'->ItOk G J l C H'->FpC Φ η H m C->R J H'
noncomputable def PVI (G:Gx) (X:Cx) (tg iter:Expr) (c:Its):Prop:=PI X tg iter (tI G c)
theorem PI.weak {X:Cx} {tg e:Expr} {t t':TI} (h:PI X tg e t) (w:∀ σ H Q,t' σ H Q->t σ H Q):PI X tg e t':=fun pins s σ H Q I q=>h pins s σ H Q I (w σ H Q q)
section
variable {G:Gx} {X:Cx} {tg e a b:Expr} {es:List Expr} {ca cb:Ex} {cs:Exs} {pos p:Pos}
theorem wt (H:Hp) (lo:Int) (n:Nat):ItOk G (Itr lo n) (rng lo n) [] H:=by
 refine ⟨fun H2 _ _=>⟨fun i t h=>?_,fun i h=>(by simpa [rng] using h:n<=i)⟩,fun a h=>by simp at h⟩
 unfold rng at h
 rw [ZP] at h
 obtain ⟨k,hk,e⟩:=Zy.mp h
 obtain ⟨hlt,e2⟩:=Zj.mp hk
 rw [ZE] at hlt
 have ek:i=k:=by simpa using e2
 subst ek
 refine ⟨hlt,fun x H3 ⟨e3,e4⟩=>?_⟩
 subst e3
 subst e4
 rw [← e]
 exact ⟨aJ.refl _,[],.int _,fun a h=>by simp at h⟩
theorem p6 (ha:PV G X a ca) (hg:Gl X "range") (hm:X.mg "range" = none) (hs:starEach [a] X.env=(false,eval a X.env) :: starEach [] X.env:=by rfl) (hs':starEach [a] X.env=[(false,eval a X.env)]:=by rfl):PVI G X tg (.Call (.Name "range" p) [a] [] pos) (dF ca) :=
 PI.weak (tQ hg hm (dR ha j5 hs) hs') fun σ H R hq=>by
  obtain ⟨Φ,η,m,l,s,e,k⟩:=hq
  unfold dF at e
  obtain ⟨⟨mx,x⟩,ea,e1⟩:=Zz.mp e
  obtain ⟨j,ej,e2⟩:=Zz.mp e1
  split at e2
  ·rename_i hj
   cases e2
   refine ⟨Φ,η,mx,x,s,ea,fun v H' F e3 r3 f3=>?_⟩
   cases x with
   | int j' =>
    cases ej
    refine ⟨j,by rw [r3.int_inv],?_,?_,k _ H' [] e3 (wt H' 0 j.toNat) fun a h=>by simp at h⟩
    ·have:=hj.1;unfold B62 at this;lia
    ·have:=hj.2;unfold B62 at this;lia
   | _=>cases ej
  ·cases e2
theorem dw {Fs:Xd} {i:Nat} {F:Wy} (h:Fs[i]?=some F) {a:Addr} (ha:a∈F):a∈Fs.flatten:=(cR h).subset ha
theorem wV {H:Hp} {a:Addr} {vs:List V} {ts:Wp} {Fs:Xd} (K:X4) (ha:H a=some (.lst vs)) (r:RpL G H vs ts Fs):ItOk G (Itl K a) ts (a :: Fs.flatten) H:=by
 refine ⟨fun H2 k c=>?_,fun b hb=>?_⟩
 ·have ha2:H2 a=some (.lst vs):=c a Zt _ ha
  have r2:RpL G H2 vs ts Fs:=r.keep k fun b hb o ho=>c b (Zx _ hb) o ho
  refine ⟨fun i t h=>?_,fun i h=>⟨vs,SqL.of ha2,by rw [r.len.1];exact h⟩⟩
  obtain ⟨v,F,h1,h2,h3⟩:=r2.get i h
  refine ⟨⟨vs,v,SqL.of ha2,h1⟩,fun x H3 ⟨e1,e2⟩=>?_⟩
  subst e1
  have ex:=e2 vs (SqL.of ha2)
  rw [h1] at ex
  cases ex
  exact ⟨aJ.refl _,F,h3,fun b hb=>.inl (Zx _ (dw h2 hb))⟩
 ·rcases Zi.mp hb with rfl | hb
  ·rw [ha];exact fun z=>nomatch z
  ·exact Mut.ne_none (r.dom b hb)
theorem As {H:Hp} {a:Addr} {vs:List V} {ts:Wp} {Fs:Xd} (K:X4) (ha:H a=some (.tup vs)) (r:RpL G H vs ts Fs):ItOk G (Itt K a) ts Fs.flatten H:=by
 refine ⟨fun H2 k c=>?_,fun b hb=>Mut.ne_none (r.dom b hb)⟩
 have ha2:H2 a=some (.tup vs):=k.tup a _ ha
 have r2:RpL G H2 vs ts Fs:=r.keep k fun b hb o ho=>c b hb o ho
 refine ⟨fun i t h=>?_,fun i h=>⟨vs,SqT.of ha2,by rw [r.len.1];exact h⟩⟩
 obtain ⟨v,F,h1,h2,h3⟩:=r2.get i h
 refine ⟨⟨vs,v,SqT.of ha2,h1⟩,fun x H3 ⟨e1,e2⟩=>?_⟩
 subst e1
 have ex:=e2 vs (SqT.of ha2)
 rw [h1] at ex
 cases ex
 exact ⟨aJ.refl _,F,h3,fun b hb=>.inl (dw h2 hb)⟩
noncomputable def tG (G:Gx) (g:Tg):TG:=fun v σ H Q=>∃ Φ η t F η',SR G Φ η σ H/\Rp G H v t F/\(∀ a∈F,¬ cK Φ η a)/\g t η=some η' ∧
 ∀ Φ' σ',SR G Φ' η' σ' H->(∀ a,cK Φ' η' a->cK Φ η a)->(∀ a,dI Φ' η' a->dI Φ η a\/a∈F)->Q σ' H
noncomputable def PVG (G:Gx) (X:Cx) (e:Expr) (g:Tg):Prop:=PG X e (tG G g)
theorem PG.weak {X:Cx} {e:Expr} {t t':TG} (h:PG X e t) (w:∀ v σ H Q,t' v σ H Q->t v σ H Q):PG X e t':=fun pins s σ H v u Q I r q=>h pins s σ H v u Q I r (w v σ H Q q)
theorem t4 (i:Nat) {x:Str} (hN:X.N.Nodup) (hi:X.N[i]?=some x:=by rfl) (hx:Loc X.env.scope x:=by first | exact Or.inl rfl | exact Or.inr rfl)
  (hf:X.fn x=true\/X.env.scope.names.lookup x=some .local:=by first | exact .inl rfl | exact .inr rfl):PVG G X (.Name x pos) (cY i):=PG.weak (xC hN hi hx hf) fun v σ H Q hq=>by
 obtain ⟨Φ,η,t,F,η',s,r,no,e,k⟩:=hq
 unfold cY at e
 split at e
 ·rename_i hl
  cases e
  refine k (ku Φ i F) (σ.set i (some v)) (s.put (c:=.pu t) hl r (fun j c' n hj w q=>q) (fun u hu=>nomatch hu) (fun u hu=>nomatch hu) fun j u n hj a ha ha'=>no a ha' ⟨j,u,hj,ha⟩) (fun a h=>?_) fun a h=>?_
  ·rcases lY h with ⟨u,hu,_⟩ | z
   ·cases hu
   ·exact z
  ·rcases p7 h with ⟨u,hu,ha⟩ | z
   ·exact .inr ha
   ·exact .inl z
 ·cases e
theorem nu {tgt:Tg} {body:Sx} {l:Wp} {η:VS.Env} {i:Nat} {t:T} (h:l[i]?=some t):l.drop i=t :: l.drop (i+1):=by
 obtain ⟨hi,e⟩:=Zj.mp h
 rw [← e]
 exact List.drop_eq_getElem_cons hi
theorem yO {iter:Expr} {body:List Stmt} {ci:Its} {g:Tg} {cb:Sx} (hp:PassesOwn (model X.prog X.w) X.A X.env X.xe) (hc:X.calm=true) (hi:PVI G X tg iter ci) (hg:PVG G X tg g) (hb:cB G X body cb)
  (hs:∀ x,foldedSetIterable iter X.env x=pure x:=by intro _;rfl):PSV G X (.For tg iter body [] pos) (j4 g ci cb):=PS.weak (BO hp hc hi hg hb hs) fun D σ H hq=>by
 obtain ⟨Φ,η,o,s,e,k⟩:=hq
 unfold j4 at e
 obtain ⟨⟨m,l⟩,el,e1⟩:=Zz.mp e
 dsimp only at e1
 split at e1
 ·rename_i hm
  have hm':m ≠ .bo:=fun z=>by rw [z] at hm;cases hm
  refine ⟨Φ,η,m,l,s,el,fun J H' C e2 ok fc=>?_⟩
  have cno:∀ a∈C,¬ cK Φ η a:=fun a ha z=>by
   rcases fc a ha with q | q | q
   ·exact Mut.ne_none (s.ow_dom z) q
   ·exact s.ow_pu z q
   ·exact hm' q.1
  refine ⟨fun i n σ2 H2=>n=l.length - i/\∃ Φ2 η2,SR G Φ2 η2 σ2 H2/\Frm Φ η H Φ2 η2 H2/\Kept H' H2/\(∀ a∈C,∀ o,H' a=some o->H2 a=some o/\¬ cK Φ2 η2 a)/\forL g cb (l.drop i) η2=some o,
   ⟨l.length - 0,rfl,Φ,η,s.same e2,Frm.same e2,Kept.refl _,fun a ha o' ho=>⟨ho,cno a ha⟩,by rw [List.drop_zero];exact e1⟩,?_⟩
  rintro i n σ2 H2 ⟨rfl,Φ2,η2,s2,f2,kp,con,e3⟩
  obtain ⟨go,stop⟩:=ok.run H2 kp fun a ha o' ho=>(con a ha o' ho).1
  cases hit:l[i]? with
  | none =>
   have hl:l.length<=i:=Yu.mp hit
   left
   rw [YT hl] at e3
   cases (show some (Out.nx η2)=some o from e3)
   exact ⟨stop i hl,k Φ2 σ2 H2 s2 f2⟩
  | some t =>
   have hl:i < l.length:=(Zj.mp hit).1
   right
   obtain ⟨g1,y1⟩:=go i t hit
   rw [nu (tgt:=g) (body:=cb) (η:=η2) hit] at e3
   obtain ⟨η3,e4,e5⟩:=Zz.mp (show (g t η2).bind (fun η1=>(cb η1).bind fun o=>match o with
    | .nx η2=>forL g cb (l.drop (i+1)) η2
    | .ct η2=>forL g cb (l.drop (i+1)) η2
    | .bk η2=>some (.nx η2)
    | .rt v η2=>some (.rt v η2))=some o from e3)
   obtain ⟨o',e6,e7⟩:=Zz.mp e5
   refine ⟨g1,fun σ4 H4=>∃ Φ4 η4,SR G Φ4 η4 σ4 H4/\Frm Φ η H Φ4 η4 H4/\Kept H' H4/\(∀ a∈C,∀ o,H' a=some o->H4 a=some o/\¬ cK Φ4 η4 a)/\forL g cb (l.drop (i+1)) η4=some o,fun σ4 H4 ⟨Φ4,η4,q⟩=>⟨l.length - (i+1),by omega,rfl,Φ4,η4,q⟩,fun x H3 yl=>?_⟩
   obtain ⟨e8,F,rF,hF⟩:=y1 x H3 yl
   have s3:=s2.same e8
   have noF:∀ a∈F,¬ cK Φ2 η2 a:=fun a ha z=>by
    rcases hF a ha with q | q
    ·have hne:=ok.dom a q
     cases ho:H' a with
     | none=>exact hne ho
     | some o''=>exact (con a q o'' ho).2 z
    ·exact Mut.ne_none (s2.ow_dom z) q
   refine ⟨Φ2,η2,t,F,η3,s3,rF,noF,e4,fun Φ3 σ3 s4 o3 p3=>?_⟩
   have f3:Frm Φ η H Φ3 η3 H3:=⟨fun a o' h n=>let ⟨h1,n1⟩:=f2.keep a o' h n;⟨e8 a o' h1,fun z=>n1 (o3 a z)⟩,fun a h z=>f2.dom a h (e8.free z),fun a h=>f2.ow a (o3 a h),fun a h=>by
    rcases p3 a h with h | h
    ·exact f2.pu a h
    ·rcases hF a h with q | q
     ·rcases fc a q with q | q | q
      ·exact .inr (.inr q)
      ·exact .inl q
      ·exact .inr (.inl q.2)
     ·exact .inr (.inr (f2.none q)),f2.kept.trans (Kept.of e8)⟩
   have next:∀ {Φ4 η4 H4},Frm Φ3 η3 H3 Φ4 η4 H4->Kept H' H4/\∀ a∈C,∀ o,H' a=some o->H4 a=some o/\¬ cK Φ4 η4 a:=fun fb =>
    ⟨(kp.trans (Kept.of e8)).trans fb.kept,fun a ha o' ho=>by
     obtain ⟨h1,n1⟩:=con a ha o' ho
     exact fb.keep a o' (e8 a o' h1) fun z=>n1 (o3 a z)⟩
   refine ⟨Φ3,η3,o',s4,e6,?_⟩
   cases o' with
   | nx η4=>exact fun Φ4 σ4 H4 s5 fb=>⟨Φ4,η4,s5,f3.trans fb,(next fb).1,(next fb).2,e7⟩
   | ct η4=>exact fun Φ4 σ4 H4 s5 fb=>⟨Φ4,η4,s5,f3.trans fb,(next fb).1,(next fb).2,e7⟩
   | bk η4 =>
    cases (show some (Out.nx η4)=some o from e7)
    exact fun Φ4 σ4 H4 s5 fb=>k Φ4 σ4 H4 s5 (f3.trans fb)
   | rt v η4 =>
    cases (show some (Out.rt v η4)=some o from e7)
    exact fun u H4 F4 Φ4 σ4 s5 fb r5 q5=>k u H4 F4 Φ4 σ4 s5 (f3.trans fb) r5 (q5.back f3)
 ·cases e1
end
noncomputable def Eb (H:Hp) (Fs:Xd):Md->Wy->Prop
 | .fr,F=>F.Nodup/\∀ a∈F,H a=none
 | _,F=>∀ a∈F,H a=none\/a∈Fs.flatten
noncomputable def spF (G:Gx) (g:Fn):Sp:=fun vs H Q _=>∃ ts Fs m r,RpL G H vs ts Fs/\g ts=some (m,r)/\∀ v H' F,aJ H H'->Rp G H' v r F->Eb H Fs m F->Q v H'
section
variable {G:Gx} {X:Cx} {k:Nat} {f:Addr} {fd:FuncData} {ps:List Str} {x:Str} {p pos:Pos} {e:Expr} {es:List Expr} {cs:Exs} {g:Fn}
theorem call_of {σ:L2.St} {H:Hp} {Q:VK} {E:XK} (h:tE G (bg g cs) σ H Q):zq (spF G g) [] E (tEs G cs) σ H Q:=by
 obtain ⟨Φ,η,m,t,s,e,kk⟩:=h
 unfold bg at e
 obtain ⟨l,el,e1⟩:=Zz.mp e
 obtain ⟨⟨n,r⟩,er,e2⟩:=Zz.mp e1
 refine ⟨Φ,η,l,s,el,fun vs H1 Fs q1 q2 q3=>?_⟩
 have A:Args G Φ η H H1 l vs Fs:=⟨q1,q2,q3⟩
 have jn:=q3.join A.len
 show spF G g (vs++[]) H1 Q E
 rw [ZM]
 refine ⟨trees l,Fs,n,r,q2,er,fun v H' F q4 q5 q6=>?_⟩
 have wide:(∀ a∈F,H1 a=none\/a∈Fs.flatten)->Fp Φ η H ((Md.pu).join (cL l)) F:=fun h=>by
  cases ej:cL l with
  | fr =>
   rw [ej] at jn
   exact fun a ha=>.inl ((h a ha).elim q1.free (jn.2 a))
  | pu =>
   rw [ej] at jn
   exact fun a ha=>(h a ha).elim (fun z=>.inl (q1.free z)) (jn a)
  | bo =>
   rw [ej] at jn
   exact fun a ha=>(h a ha).elim (fun z=>.inl (q1.free z)) (jn a)
 cases n with
 | fr =>
  cases e2
  exact kk v H' F (q1.trans q4) q5 ⟨q6.1,fun a ha=>q1.free (q6.2 a ha)⟩
 | pu =>
  cases e2
  exact kk v H' F (q1.trans q4) q5 (wide q6)
 | bo =>
  cases e2
  exact kk v H' F (q1.trans q4) q5 (wide q6)
theorem wU (F:FnOk X.prog X.w X.K X.mg X.base CX0 k f fd ps (spF G g)) (hr:Room k X.A) (hg:Gl X x) (hm:X.mg x=some (.ref f)) (hk:PySem.W.keepIn X.K (.ref f)=true) (hb:Binds X.K fd ps [])
  (ha:PVs G X (e :: es) cs) (hdb:(x == ("__debug__" : Str))=false:=by decide) (he:starEach (e :: es) X.env=(false,eval e X.env) :: starEach es X.env:=by rfl) (hpl:(backTo pos (starEach es X.env)).any (·.1)=false:=by rfl) :
  PV G X (.Call (.Name x p) (e :: es) [] pos) (bg g cs) :=
 PE.weak (rL F hr hg hm hk hb .nil iP ha hdb he hpl) fun σ H Q h=>call_of h
theorem vL {H:Hp} {vs:List V} {ts:Wp} {Fs:Xd} (r:RpL G H vs ts Fs) (n nv:Nat) (hv:nv=vs.length):SR G (fun i=>Fs.getD i []) (ts.map (fun t=>some (.pu t))++List.replicate (n - ts.length) none) (vs.map some++List.replicate (n - nv) none) H:=by
 subst hv
 have hl:=r.len
 have back:∀ {i:Nat} {c:Cell},(ts.map (fun t=>some (Cell.pu t))++List.replicate (n - ts.length) none)[i]?=some (some c)->∃ t,ts[i]?=some t/\c=.pu t:=fun {i c} h=>by
  by_cases hi:i < ts.length
  ·rw [ZI (by rw [Zv];exact hi),ZP] at h
   obtain ⟨t,h1,h2⟩:=Zy.mp h
   exact ⟨t,h1,(Zn h2).symm⟩
  ·rw [Z0 (by rw [Zv];exact ZK hi),Yi] at h
   split at h <;> cases h
 refine ⟨by simp;lia,fun i c h=>?_,fun i t h=>?_,fun i j t c h=>?_⟩
 ·obtain ⟨t,h1,rfl⟩:=back h
  obtain ⟨v,F,g1,g2,g3⟩:=r.get i h1
  refine ⟨v,?_,?_⟩
  ·have:i < vs.length:=(Zj.mp g1).1
   rw [ZI (by rw [Zv];exact this),ZP,g1]
   rfl
  ·show Rp G H v t (Fs.getD i [])
   rw [Zu,g2]
   exact g3
 ·obtain ⟨t',_,h2⟩:=back h
  cases h2
 ·obtain ⟨t',_,h2⟩:=back h
  cases h2
theorem iu {ts:Wp} {n:Nat} {Φ:Fps} {a:Addr}:¬ cK Φ (ts.map (fun t=>some (Cell.pu t))++List.replicate n none) a:=by
 rintro ⟨i,t,h,_⟩
 by_cases hi:i < ts.length
 ·rw [ZI (by rw [Zv];exact hi),ZP] at h
  obtain ⟨t',_,h2⟩:=Zy.mp h
  cases h2
 ·rw [Z0 (by rw [Zv];exact ZK hi),Yi] at h
  split at h <;> cases h
theorem o5 {H:Hp} {vs:List V} {ts:Wp} {Fs:Xd} {n:Nat} {a:Addr} (h:dI (fun i=>Fs.getD i []) (ts.map (fun t=>some (Cell.pu t))++List.replicate n none) a):a∈Fs.flatten:=by
 obtain ⟨i,t,_,h2⟩:=h
 simp only [Zu] at h2
 cases e:Fs[i]? with
 | none=>rw [e] at h2;simp at h2
 | some F=>rw [e] at h2;exact dw e h2
end
section
variable {G:Gx} {P:Program} {w:World} {K:X4} {mg:Wz} {base:Heap}
theorem fnV {x qual:Str} {st:Stmt} {f:Addr} {fd:FuncData} {N ps:List Str} {k np nn:Nat} {c:Sx} (F:Fun K x qual st f fd) (S:FnScope N ps (af st)) (hp:ps.length=np) (hn:N.length=nn)
  (hb:∀ (cdv:Value) (A:Around) (outer:List PySem.Env) (s:Shared) (H:Hp) (E:XK),Room k (A.deeper (envOfC qual (af st) s.heap.objs.size f cdv))->cB G (fo CX0 P w K mg base N qual (af st) f cdv A outer s H E).nox (au st) c) :
  FnOk P w K mg base CX0 (k+1) f fd ps (spF G (fn np nn c)):=by
 refine F.ok S (fun vs H Q E h=>?_) fun cdv A outer s H vs Q E hr h=>⟨_,hb cdv A outer s H E hr,?_⟩
 ·obtain ⟨ts,Fs,m,r,h1,h2,_⟩:=h
  unfold fn at h2
  split at h2
  ·rename_i hl
   rw [h1.len.1,hl,hp]
  ·cases h2
 ·obtain ⟨ts,Fs,m,r,h1,h2,q⟩:=h
  unfold fn at h2
  split at h2
  ·rename_i hl
   obtain ⟨o,e1,e2⟩:=Zz.mp h2
   have s0:=vL h1 nn vs.length rfl
   rw [hl] at s0
   have e3:L2.start N vs=vs.map some++List.replicate (nn - vs.length) none:=by
    unfold L2.start
    rw [hn]
   rw [e3]
   refine ⟨_,_,o,s0,e1,?_⟩
   cases o with
   | nx η' =>
    cases e2
    intro Φ' σ' H' s' fr
    exact q .non H' [] (fun a o h=>(fr.keep a o h iu).1) .non ⟨Yo,fun a h=>by simp at h⟩
   | rt v η' =>
    cases e2
    intro u H' F' Φ' σ' s' fr r' rf
    refine q u H' F' (fun a o h=>(fr.keep a o h iu).1) r' ?_
    cases m with
    | fr=>exact ⟨rf.1,fun a ha=>(rf.2 a ha).elim id fun z=>absurd z iu⟩
    | pu=>exact fun a ha=>(rf a ha).elim .inl fun z=>z.elim (fun z=>.inr (o5 (H:=H) (vs:=vs) z)) fun z=>absurd z iu
    | bo=>exact fun a ha=>(rf a ha).elim .inl fun z=>z.elim (fun z=>.inr (o5 (H:=H) (vs:=vs) z)) fun z=>absurd z iu
   | bk η'=>cases e2
   | ct η'=>cases e2
  ·cases h2
end
end VS
end
section
namespace L2
open PySem PySem.Spec PyProof.Rows
theorem jW (env:Env):∀ (l:List (Str×NameKind)) (acc:List (Str×Addr)),(∀ y∈l,y.2=.free->∃ c,env.cells.lookup y.1=some c)->(∀ x c,acc.lookup x=some c->env.cells.lookup x=some c) →
  ∃ cl,(forIn l acc (fun x r=>if (x.snd == NameKind.free)=true then (do let a ← cellOf env x.fst;pure (ForInStep.yield ((x.fst,a) :: r))) else pure (ForInStep.yield r)):Sem (List (Str×Addr)))=pure cl ∧
   (∀ x c,cl.lookup x=some c->env.cells.lookup x=some c)/\(∀ x c,acc.lookup x=some c->∃ c',cl.lookup x=some c')/\∀ y∈l,y.2=.free->∃ c,cl.lookup y.1=some c
 | [],acc,_,ha=>⟨acc,rfl,ha,fun x c h=>⟨c,h⟩,fun y hy=>nomatch hy⟩
 | (n,k) :: l,acc,hf,ha=>by
  by_cases hk:k=.free
  ·subst hk
   obtain ⟨c,hc⟩:=hf (n,.free) Zt rfl
   have ec:cellOf env n=pure c:=by unfold cellOf;dsimp only at hc;rw [hc]
   have ha':∀ x c',((n,c) :: acc).lookup x=some c'->env.cells.lookup x=some c':=fun x c' h=>by
    rw [Z5] at h
    split at h
    ·rename_i hx
     have:x=n:=by simpa using hx
     rw [this,← h];exact hc
    ·exact ha x c' h
   obtain ⟨cl,h1,h2,h3,h4⟩:=jW env l ((n,c) :: acc) (fun y hy=>hf y (Zx _ hy)) ha'
   refine ⟨cl,?_,h2,fun x c' h=>?_,fun y hy hyf=>?_⟩
   ·rw [List.forIn_cons]
    dsimp only
    rw [Zr (show (NameKind.free == NameKind.free)=true from rfl),ec,pure_bind,pure_bind]
    exact h1
   ·by_cases hx:x=n
    ·exact h3 x c (by rw [Z5,hx];simp)
    ·refine h3 x c' ?_
     rw [Z5]
     have:(x == n)=false:=by simpa using hx
     rw [this];exact h
   ·rcases Zi.mp hy with rfl | hy
    ·exact h3 n c (by rw [Z5];simp)
    ·exact h4 y hy hyf
  ·obtain ⟨cl,h1,h2,h3,h4⟩:=jW env l acc (fun y hy=>hf y (Zx _ hy)) ha
   refine ⟨cl,?_,h2,h3,fun y hy hyf=>?_⟩
   ·rw [List.forIn_cons]
    dsimp only
    rw [Zp (by simpa using hk),pure_bind]
    exact h1
   ·rcases Zi.mp hy with rfl | hy
    ·exact absurd hyf hk
    ·exact h4 y hy hyf
theorem xo {sc:Scope} {env:Env} (hf:∀ y∈sc.names,y.2=.free->∃ c,env.cells.lookup y.1=some c) :
  ∃ cl,closureFor sc env=pure cl/\(∀ x c,cl.lookup x=some c->env.cells.lookup x=some c)/\∀ y∈sc.names,y.2=.free->∃ c,cl.lookup y.1=some c:=by
 obtain ⟨cl,h1,h2,_,h4⟩:=jW env sc.names [] hf (fun x c h=>nomatch h)
 refine ⟨cl,?_,h2,h4⟩
 simp only [closureFor]
 rw [h1]
 rfl
theorem gq {l:List (Str×NameKind)} {x:Str} {k:NameKind} (h:l.lookup x=some k):(x,k)∈l:=by
 induction l with
 | nil=>cases h
 | cons p l ih =>
  rw [Z5] at h
  split at h
  ·rename_i hx
   have e:x=p.1:=by simpa using hx
   cases h
   rw [e];exact Zt
  ·exact Zx _ (ih h)
theorem dq {env:Env} {x:Str} {k:NameKind}:∀ {l:List (Str×NameKind)},(l.map fun (n,k)=>if (k == NameKind.free && env.scope.kind == .function && env.kindOf n == some .cell) then (n,NameKind.cell) else (n,k)).lookup x=some k →
  ∃ k0,l.lookup x=some k0/\(k=k0\/(k0=.free/\k=.cell))
 | [],h=>nomatch h
 | (n,k1) :: l,h=>by
  rw [Zm,Z5] at h
  by_cases hc:(k1 == NameKind.free && env.scope.kind == .function && env.kindOf n == some .cell)=true
  ·simp only [hc,if_true] at h
   rw [Z5]
   cases hx:x == n with
   | true =>
    rw [hx] at h
    have:k1=.free:=by
     have:=(Y9.mp (Y9.mp hc).1).1
     simpa using this
    exact ⟨k1,rfl,.inr ⟨this,(Zn h).symm⟩⟩
   | false=>rw [hx] at h;exact dq h
  ·simp only [hc,if_false,YF] at h
   rw [Z5]
   cases hx:x == n with
   | true=>rw [hx] at h;exact ⟨k1,rfl,.inl (Zn h).symm⟩
   | false=>rw [hx] at h;exact dq h
noncomputable def bY (X:Cx) (N:List Str) (sc:Scope) (cl:List (Str×Addr)) (C:Addr) (s:Shared) (H:Hp) (fp:Wy):Cx :=
 { X with N:=N,s₀:=s,H₀:=H,env:=compEnvC sc cl C X.env,outer:=X.stack,ex:=fp,fn:=fun _=>false,pn:=[],xe:=fun _ _=>False }
noncomputable def ko (env:Env) (sc:Scope):Bool:=sc.kind == .function && sc.names.all fun y=>match y.2 with
 | .cell=>false
 | .local=>sc.names.lookup y.1 == some .local
 | .free=>env.kindOf y.1 == some .cell || env.kindOf y.1 == some .free
 | _=>true
noncomputable def jd (sc:Scope):List Str->List Str->Bool
 | [],[]=>true
 | a :: as,b :: bs=>((a == b && sc.names.lookup a == some .free) || sc.names.lookup a == none || sc.names.lookup a == some .globalImplicit) && jd sc as bs
 | _,_=>false
theorem qY {sc:Scope}:∀ {as bs:List Str},jd sc as bs=true->as.length=bs.length/\∀ (i:Nat) (x:Str),as[i]?=some x->(bs[i]?=some x/\sc.names.lookup x=some .free)\/sc.names.lookup x=none\/sc.names.lookup x=some .globalImplicit
 | [],[],_=>⟨rfl,fun i x h=>by simp at h⟩
 | a :: as,b :: bs,h=>by
  simp only [jd,Zf] at h
  obtain ⟨h1,h2⟩:=h
  obtain ⟨l,r⟩:=qY h2
  refine ⟨by simp [l],fun i x e=>?_⟩
  cases i with
  | zero =>
   have:a=x:=by simpa using e
   subst this
   simp only [Bool.or_eq_true,Zf] at h1
   rcases h1 with (⟨z1,z2⟩ | z) | z
   ·exact .inl ⟨by simpa using (by simpa using z1:a=b).symm,by simpa using z2⟩
   ·exact .inr (.inl (by simpa using z))
   ·exact .inr (.inr (by simpa using z))
  | succ i=>simpa using r i x (by simpa using e)
 | [],_ :: _,h=>by simp [jd] at h
 | _ :: _,[],h=>by simp [jd] at h
section
variable {X:Cx} {pins:Xm} {σ:St} {H:Hp} {s:Shared}
theorem Inv.block {N:List Str} {sc:Scope} {cl:List (Str×Addr)} {C D:Addr} {fp:Wy} {k:Nat} {h1:Heap} {t:Nat} {m:Wz} (I:Inv X pins σ H s) (hsc:ko X.env sc=true) (hnm:jd sc (N.drop k) X.N=true) (hNl:k<=N.length)
  (hc1:∀ x c,cl.lookup x=some c->X.env.cells.lookup x=some c) (hc2:∀ y∈sc.names,y.2=.free->∃ c,cl.lookup y.1=some c) (hfp:∀ b∈fp,mB X pins H b) (hD:s.heap.objs.size<=D) (hC:s.heap.objs.size<=C) (hDC:D ≠ C) (hfC:C ∉ fp)
  (keep:∀ b u,s.heap.get? b=some u->h1.get? b=some u) (hns:h1.Ns C m) (hDo:h1.get? D=some { cls:=.type "list",data:=.seq ([]:Wx).toArray 0 }) :
  Inv (bY X N sc cl C s H fp) [] (List.replicate k none++σ) (upd H D (.lst [])) { s with heap:=h1,toks:=t }:=by
 unfold ko at hsc
 rw [Zf,Yv] at hsc
 obtain ⟨hk,hall⟩:=hsc
 have hkind:sc.kind=.function:=by simpa using hk
 obtain ⟨hlen,hat⟩:=qY hnm
 have hcell:∀ y∈sc.names,y.2 ≠ .cell:=fun y hy e=>by have:=hall y hy;rw [e] at this;cases this
 have frees:∀ x k',(relabel sc X.env).names.lookup x=some k'->k'=.cell\/k'=.free->sc.names.lookup x=some .free:=fun x k' h hk'=>by
  obtain ⟨k0,h0,hk0⟩:=dq h
  rcases hk0 with e | ⟨e,_⟩
  ·subst e
   rcases hk' with e | e
   ·subst e;exact absurd rfl (hcell _ (gq h0))
   ·subst e;exact h0
  ·subst e;exact h0
 have hHD:H D=none:=I.hok.fresh hD
 have hHC:H C=none:=I.hok.fresh hC
 refine ⟨⟨I.mod,hkind,I.ok.glob,I.ok.blt,hC,fun x y c e1 e2=>I.ok.inj x y c (hc1 x c e1) (hc1 y c e2),fun x hx=>?_,fun x c e=>(nomatch e),I.ok.hd,I.ok.frames,.inl rfl,fun b hb=>⟨fun (e:b=C)=>hfC (e ▸ hb),fun x c e=>(hfp b hb).2.2.2.2.1 x c (hc1 x c e)⟩,
  I.bs,ZG I.ok.bsz I.sz,fun b o e hb=>?_,fun b hb hb'=>?_,I.stack,I.stkFree⟩,rfl,I.bare,Un.laid keep hD hHD,⟨m,hns,fun i x v e1 e2 e3=>?_⟩,fun x c e=>?_,?_,fun x c e=>?_,fun p hp=>(nomatch hp),I.hok.laid keep hD ?_,?_⟩
 ·have h:∃ k',(relabel sc X.env).names.lookup x=some k'/\(k'=.cell\/k'=.free):=by
   rcases hx with e | e
   ·exact ⟨_,e,.inl rfl⟩
   ·exact ⟨_,e,.inr rfl⟩
  obtain ⟨k',h1',h2'⟩:=h
  exact hc2 _ (gq (frees x k' h1' h2')) rfl
 ·have hb':b∈fp:=hb
  rcases (hfp b hb').2.2.2.1 with z | z
  ·exact I.ok.noex b o e z
  ·exact absurd (ZX (ZU e) (ZG I.ok.bsz z)) (Yp _)
 ·have hb0:b∈frs X.stack:=hb'
  rcases Zi.mp (I.stkSub b hb0) with z | z
  ·exact (hfp b hb).2.1 z
  ·exact (hfp b hb).2.2.1 z
 ·
  have hik:k<=i:=by
   rcases Nat.lt_or_ge i k with z | z
   ·rw [ZI (by simpa using z),Yi] at e2
    split at e2 <;> cases e2
   ·exact z
  rw [Z0 (by simpa using hik),YQ] at e2
  have e1':(N.drop k)[i - k]?=some x:=by
   rw [List.getElem?_drop,show k+(i - k)=i by exact Nat.add_sub_of_le hik];exact e1
  have vis:sc.names.lookup x=some .free->∃ k',(relabel sc X.env).names.lookup x=some k'/\(k'=.cell\/k'=.free):=fun h0=>by
   have e3':Vis (relabel sc X.env) x:=e3
   rcases e3' with z | z | z
   ·obtain ⟨k0,h1',h2'⟩:=dq z
    rw [h0] at h1';cases h1'
    rcases h2' with q | ⟨_,q⟩ <;> cases q
   ·exact ⟨_,z,.inl rfl⟩
   ·exact ⟨_,z,.inr rfl⟩
  have no:∀ k0,sc.names.lookup x=some k0->∃ k',(relabel sc X.env).names.lookup x=some k'->True:=fun _ _=>⟨.local,fun _=>trivial⟩
  rcases hat _ x e1' with ⟨hX,h0⟩ | h0 | h0
  ·obtain ⟨k',hk1,hk2⟩:=vis h0
   have hf:=hall _ (gq h0)
   have hf':X.env.kindOf x=some .cell\/X.env.kindOf x=some .free:=by
    simpa using hf
   obtain ⟨mX,hnX,hlX⟩:=I.loc
   have visX:Vis X.env.scope x:=hf'.elim (fun z=>.inr (.inl z)) fun z=>.inr (.inr z)
   obtain ⟨u,r,l⟩:=hlX _ x v hX e2 visX
   refine ⟨u,r,.inr ⟨?_,?_⟩⟩
   ·rcases hk2 with z | z
    ·subst z;exact .inl hk1
    ·subst z;exact .inr hk1
   ·obtain ⟨c,hc⟩:=hc2 _ (gq h0) rfl
    refine ⟨c,hc,?_⟩
    rcases l with ⟨z,_⟩ | ⟨_,c',hc',hcell'⟩
    ·rcases hf' with q | q <;> (rw [z] at q;cases q)
    ·have:=hc1 x c hc
     rw [hc'] at this;cases this
     exact hcell'.keeps keep
  ·have e3':Vis (relabel sc X.env) x:=e3
   rcases e3' with z | z | z <;> (obtain ⟨k0,z1,_⟩:=dq z;rw [h0] at z1;cases z1)
  ·have e3':Vis (relabel sc X.env) x:=e3
   rcases e3' with z | z | z <;> (obtain ⟨k0,z1,z2⟩:=dq z;rw [h0] at z1;cases z1;rcases z2 with q | ⟨q,_⟩ <;> cases q)
 ·obtain ⟨v,z⟩:=I.cell x c (hc1 x c e)
  exact ⟨v,z.keeps keep⟩
 ·show upd H D (.lst []) C=none
  rw [aI (Yd hDC)];exact hHC
 ·obtain ⟨v,z⟩:=I.cell x c (hc1 x c e)
  rw [aI (ZS (ZX z.lt hD))]
  exact I.freeC x c (hc1 x c e)
 ·exact ⟨Yn _,[],0,.nil,hDo⟩
 ·show (List.replicate k none++σ).length=N.length
  rw [Zs,YQ,I.len,← hlen,YK]
  exact Nat.add_sub_of_le hNl
noncomputable def wK (X:Cx) (ifs:List Expr) (t:TT):Prop :=
 ∀ (pins:Xm) (s:Shared) (σ:St) (H:Hp) (Q:Bool->Hp->Prop),Inv X pins σ H s->t σ H Q →
  wpAny (model X.prog X.w) X.A (forIn ifs true fun c r=>if r=true then (do let ok ← isTrue c X.env (eval c X.env);pure (ForInStep.yield ok)) else pure (ForInStep.yield r)) (TP X pins σ Q) X.xe s
theorem kT:wK X [] (fun σ H Q=>Q true H):=fun pins s σ H Q I q=>Zc ⟨H,I,q⟩
section
variable {prog:Program} {w:World} {A:Around} {R:Result->Shared->Prop}
theorem pC {elt target iter:Expr} {ifs:List Expr} {scope:Scope} {pos:Pos} {it acc:Value} {env:Env} {s:Shared} (I:Nat->Shared->Prop)
  (turn:∀ n s,I n s->wpAny (model prog w) A (pyNext it) (fun r s₁=>match r with
   | none=>R (.ok .next) s₁
   | some v=>wpAny (model prog w) A (letOwnedTupleGo target it v) (fun _ s₀=>wpAny (model prog w) A (assign target env v) (fun _ s₂ =>
     wpAny (model prog w) A (forIn ifs true fun c r=>if r=true then (do let ok ← isTrue c env (eval c env);pure (ForInStep.yield ok)) else pure (ForInStep.yield r)) (fun ok s₃ =>
      if ok=true then wpAny (model prog w) A (eval elt env) (fun x s₄ =>
       wpAny (model prog w) A (call (.builtin "list.append") [acc,x]) (fun _ s₅=>∃ m,m < n/\I m s₅) (fun _ _=>False) s₄) (fun _ _=>False) s₃
      else ∃ m,m < n/\I m s₃) (fun _ _=>False) s₂) (fun _ _=>False) s₀) (fun _ _=>False) s₁) (fun _ _=>False) s)
  (n:Nat) (h:I n s) :
  codeAny (model prog w) A (.compLoop (.ListComp elt [⟨target,iter,ifs,0⟩] scope pos) 0 it acc env) R s:=by
 refine codeAny_loop rfl I (fun n s hI=>?_) n h
 show wpAny _ A ((compTurn (.ListComp elt [⟨target,iter,ifs,0⟩] scope pos) 0 it acc env).onRaise (fun x=>do noteFrame x env;theTreesLotGoes x)) _ _ s
 refine wpAny_noted ?_
 rw [compTurn_list]
 refine Zq (wpAny_standAt (Zq (YV (turn n s hI) (fun r s₁ h₁=>?_) fun _ _ h'=>h'.elim)))
 cases r with
 | none=>exact Zc h₁
 | some v =>
  refine Zq (YV h₁ (fun _ s₀ h₀=>?_) fun _ _ h'=>h'.elim)
  refine Zq (YV h₀ (fun _ s₂ h₂=>Zq (YV h₂ (fun ok s₃ h₃=>?_) fun _ _ h'=>h'.elim)) fun _ _ h'=>h'.elim)
  cases ok with
  | false=>exact Zc ⟨rfl,h₃⟩
  | true =>
   rw [Zr rfl] at h₃
   exact Zq (Zq (YV h₃ (fun x s₄ h₄=>Zq (YV h₄ (fun _ s₅ h₅=>Zc (Zc ⟨rfl,h₅⟩)) fun _ _ h'=>h'.elim)) fun _ _ h'=>h'.elim))
end
noncomputable def qT (k:Nat) (wi:TI) (g:TG) (tc:TT) (te:TE) (σ:St) (H:Hp) (Q:VK):Prop:=wi σ H fun J H1=>∀ D,H1 D=none->∃ W:Nat->Nat->St->Hp->Prop,
 (∃ m,W 0 m (List.replicate k none++σ) (upd H1 D (.lst [])))/\∀ i m σ' H',W i m σ' H'->(J.stop i H'/\Q (.ref D) H')\/(J.go i H'/\∀ x H2,J.yld i H' x H2->g x σ' H2 fun σ3 H3=>tc σ3 H3 fun b H4 =>
  if b=true then te σ3 H4 fun y H5=>∃ ys,H5 D=some (.lst ys)/\ys.length < sizeLine/\∃ m',m' < m/\W (i+1) m' σ3 (upd H5 D (.lst (ys++[y]))) else ∃ m',m' < m/\W (i+1) m' σ3 H4)
theorem nq {elt tg iter:Expr} {ifs:List Expr} {sc:Scope} {pos pos':Pos} {N:List Str} {k:Nat} {wi:TI} {g:TG} {tc:TT} {te:TE} {use:Option (Value->Sem Unit)} {QQ:Z2} {Q:VK} (hcalm:X.calm=true) (hi:PI X tg iter wi) (hsc:ko X.env sc=true)
  (hnm:jd sc (N.drop k) X.N=true) (hNl:k<=N.length) (hin:∀ cl C s H fp,PG (bY X N sc cl C s H fp) tg g/\wK (bY X N sc cl C s H fp) ifs tc/\PE (bY X N sc cl C s H fp) elt te)
  (hs:∀ x,foldedSetIterable iter X.env x=pure x) (I:Inv X pins σ H s) (h:qT k wi g tc te σ H Q)
  (hq:∀ s' H' D C m,Inv X pins σ H' s'->Q (.ref D) H'->s'.heap.Ns C m->mB X pins H' C->compPost (model X.prog X.w) X.A X.xe use QQ (.ref D) C (.ok .next) s') :
  wpAny (model X.prog X.w) X.A (comprehension (.ListComp elt [⟨tg,iter,ifs,0⟩] sc pos) sc X.env pos' (newList []) false (eval iter X.env) use) QQ X.xe s:=by
 have hsc':=hsc
 unfold ko at hsc'
 rw [Zf,Yv] at hsc'
 obtain ⟨hk,hall⟩:=hsc'
 have hkind:sc.kind=.function:=by simpa using hk
 have hcell:∀ y∈sc.names,y.2 ≠ .cell:=fun y hy e=>by have:=hall y hy;rw [e] at this;cases this
 have hnames:∀ y∈sc.names,y.2=.local->sc.names.lookup y.1=some .local:=fun y hy e=>by
  have:=hall y hy
  rw [e] at this
  simpa using this
 obtain ⟨cl,hcl,hc1,hc2⟩:=xo (sc:=sc) (env:=X.env) fun y hy e=>I.ok.has y.1 (by
  have:=hall y hy
  rw [e] at this
  simpa using this)
 refine wpAny_comprehension_free (use:=use) rfl hs hcl hkind hnames (thn (hi pins s σ H _ I h) fun v s1 h1=>thn h1 fun itv s2 h2=>?_)
 obtain ⟨it,fp,tn,J,H2,e,I2,T,st2,f2,hW⟩:=h2
 subst e
 refine Xa (wpAny_newFunctionEnv hcell (by intro y hy;simp at hy) (fun h₁ hns₁ hsb₁=>?_) hkind)
 dsimp only at hns₁ hsb₁ ⊢
 generalize hP:s2.heap.push { cls:=.type "list",dict:=none,data:=.seq ([]:Wx).toArray }=P at hns₁ hsb₁ ⊢
 have hCs:P.objs.size=s2.heap.objs.size+1:=by rw [← hP,X2]
 have old:∀ b o,s2.heap.get? b=some o->h₁.get? b=some o:=fun b o e =>
  hsb₁.extBut b o (by rw [hCs];exact ZS (XB (ZU e))) (Zl _ (hP ▸ Zl _ e))
 have hDC:s2.heap.objs.size ≠ P.objs.size:=by rw [hCs];exact ZS (Yl _)
 have hDo:h₁.get? s2.heap.objs.size=some { cls:=.type "list",data:=.seq ([]:Wx).toArray 0 }:=hsb₁.extBut _ _ hDC (Zl _ (hP ▸ ZV _ rfl))
 have hCle:s2.heap.objs.size<=P.objs.size:=by rw [hCs];exact Nat.le_succ _
 have lt_fp:∀ b∈fp,b < s2.heap.objs.size:=fun b hb=>let ⟨o,ho,_⟩:=T.obj 0 _ st2 b hb;ZU ho
 have hfC:P.objs.size ∉ fp:=fun hb=>absurd (ZX (lt_fp _ hb) hCle) (Yp _)
 have IY:=I2.block (N:=N) (sc:=sc) (cl:=cl) (C:=P.objs.size) (D:=s2.heap.objs.size) (fp:=fp) (k:=k) (t:=s2.toks+([]:List (Str×Value)).length) hsc hnm hNl hc1 hc2 f2 (Zk _) hCle hDC hfC old hns₁ hDo
 obtain ⟨hG,hT,hE⟩:=hin cl P.objs.size s2 H2 fp
 generalize hY:bY X N sc cl P.objs.size s2 H2 fp=Y at IY hG hT hE
 have hYm:Y.prog=X.prog/\Y.w=X.w/\Y.K=X.K/\Y.A=X.A/\Y.env=compEnvC sc cl P.objs.size X.env/\Y.calm=X.calm/\(Y.xe=fun _ _=>False):=by rw [← hY];exact ⟨rfl,rfl,rfl,rfl,rfl,rfl,rfl⟩
 obtain ⟨y1,y2,y3,y4,y5,y6,y7⟩:=hYm
 have stat:∀ {H':Hp},(∀ b∈fp,H' b=none)->∀ b∈fp,mB Y [] H' b:=fun {H'} hn b hb=>by
  rw [← hY]
  refine ⟨hn b hb,fun (e:b=P.objs.size)=>hfC (e ▸ hb),fun hb'=>?_,.inl hb,fun x c e=>(f2 b hb).2.2.2.2.1 x c (hc1 x c e),fun p hp=>(nomatch hp)⟩
  rcases Zi.mp (I2.stkSub b hb') with z | z
  ·exact (f2 b hb).2.1 z
  ·exact (f2 b hb).2.2.1 z
 obtain ⟨W,⟨m0,w0⟩,turn⟩:=hW s2.heap.objs.size (I2.hok.fresh (Zk _))
 have hfp0:∀ b∈fp,upd H2 s2.heap.objs.size (.lst []) b=none:=fun b hb=>by rw [aI (ZS (lt_fp b hb))];exact (f2 b hb).1
 have st3:tn 0 h₁:=T.keep _ _ _ st2 fun b _ o e=>old b o e
 have loop:codeAny (model X.prog X.w) X.A (.compLoop (.ListComp elt [⟨tg,iter,ifs,0⟩] sc pos) 0 (.ref it) (.ref s2.heap.objs.size) (compEnvC sc cl P.objs.size X.env)) (compPost (model X.prog X.w) X.A X.xe use QQ (.ref s2.heap.objs.size) P.objs.size)
   { s2 with heap:=h₁,toks:=s2.toks+([]:List (Str×Value)).length }:=by
  refine pC (fun n s'=>∃ i σ' H',Inv Y [] σ' H' s'/\tn i s'.heap/\(∀ b∈fp,H' b=none)/\W i n σ' H') ?_ m0 ⟨0,_,_,IY,st3,hfp0,w0⟩
  rintro n s3 ⟨i,σ3,H3,I3,st3,fr3,w3⟩
  rcases turn i n σ3 H3 w3 with ⟨stop,qn⟩ | ⟨go,step⟩
  ·have q:=T.done Y y1 y2 y3 (y6.trans hcalm) i [] s3 σ3 H3 (fun _ _=>False) I3 (stat fr3) st3 stop
   rw [y4] at q
   refine thn q fun r s4 ⟨hr,I4⟩=>?_
   subst hr
   have IX:Inv X pins σ H3 s4:=by
    have b4:=I4.base
    have o4:=I4.os
    have k4:=I4.hok
    rw [← hY] at b4 o4 k4
    refine I2.call' (ch:=fp) o4 b4 k4 I4.bare fun b hb=>?_
    exact ⟨(f2 b hb).2.2.2.1,(f2 b hb).2.1,(f2 b hb).2.2.2.2.1,(f2 b hb).2.2.2.2.2⟩
   obtain ⟨mC,hmC,_⟩:=I4.loc
   have f4:=I4.free
   rw [y5] at hmC f4
   exact hq s4 H3 _ P.objs.size mC IX qn hmC (I2.fpOk hCle f4)
  ·have q:=T.item Y y1 y2 y3 (y6.trans hcalm) i [] s3 σ3 H3 (fun _ _=>False) I3 (stat fr3) st3 go
   rw [y4] at q
   refine thn q fun r s4 ⟨u,hr,h4⟩=>?_
   subst hr
   refine thn h4 fun _ s5 ⟨x,H5,I5,r5,yl5,st5,fr5⟩=>?_
   have I5':=I5.pinned (stat fr5) (T.obj _ _ st5)
   have again:∀ {σ7:St} {H7:Hp} {s7:Shared} {m:Nat},Inv Y ([]++lK fp s5.heap) σ7 H7 s7->W (i+1) m σ7 H7->∃ i σ' H',Inv Y [] σ' H' s7/\tn i s7.heap/\(∀ b∈fp,H' b=none)/\W i m σ' H':=fun {σ7 H7 s7 m} I7 w7=>by
    refine ⟨i+1,σ7,H7,I7.unpinned,T.keep _ _ _ st5 fun b hb o e=>(I7.pin (b,o) (ZW _ (ZW _ (gH hb e)))).1,fun b hb=>?_,w7⟩
    obtain ⟨o,e,d⟩:=T.obj _ _ st5 b hb
    exact (I7.pin (b,o) (ZW _ (ZW _ (gH hb e)))).2.1
   have qa:=hG _ s5 σ3 H5 x u _ I5' r5 (step x H5 yl5)
   rw [y1,y2,y4,y5,y7] at qa
   refine thn qa fun _ s6 ⟨σ6,H6,I6,q6⟩=>?_
   have qt:=hT _ s6 σ6 H6 _ I6 q6
   rw [y1,y2,y4,y5,y7] at qt
   refine thn qt fun b s7 ⟨H7,I7,q7⟩=>?_
   cases b with
   | false =>
    rw [Zp Zh] at q7 ⊢
    obtain ⟨m',hm,w7⟩:=q7
    exact ⟨m',hm,again I7 w7⟩
   | true =>
    rw [Zr rfl] at q7 ⊢
    have qe:=hE _ s7 σ6 H7 _ I7 q7
    rw [y1,y2,y4,y5,y7] at qe
    refine thn qe fun yv s8 ⟨y,H8,I8,r8,ys,hD8,hl8,m',hm,w8⟩=>?_
    have qp:=iB (X:=Y) _ s8 σ6 H8 (.ref s2.heap.objs.size) [y] (.ref s2.heap.objs.size) [yv] (fun _ H9=>W (i+1) m' σ6 H9) I8 rfl (.cons r8 .nil) ⟨_,ys,y,rfl,rfl,hD8,hl8,w8⟩
    rw [y1,y2,y4,y7] at qp
    refine thn qp fun _ s9 ⟨_,H9,I9,_,w9⟩=>?_
    exact ⟨m',hm,again I9 w9⟩
 exact codeAny_compStart_list loop (T.self _ 0 _ _ _ st3 loop)
theorem rE {elt tg iter:Expr} {ifs:List Expr} {sc:Scope} {pos:Pos} {N:List Str} {k:Nat} {wi:TI} {g:TG} {tc:TT} {te:TE} (hcalm:X.calm=true) (hi:PI X tg iter wi) (hsc:ko X.env sc=true)
  (hnm:jd sc (N.drop k) X.N=true) (hNl:k<=N.length) (hin:∀ cl C s H fp,PG (bY X N sc cl C s H fp) tg g/\wK (bY X N sc cl C s H fp) ifs tc/\PE (bY X N sc cl C s H fp) elt te)
  (hs:∀ x,foldedSetIterable iter X.env x=pure x:=by intro _;rfl):PE X (.ListComp elt [⟨tg,iter,ifs,0⟩] sc pos) (qT k wi g tc te):=by
 intro pins s σ H Q I h
 rw [eval_ListComp]
 refine nq (use:=none) hcalm hi hsc hnm hNl hin hs I h fun s' H' D C m I' q hn f=>⟨m,hn,fun h' hs'=>?_⟩
 exact ⟨.ref D,H',I'.turned (it:=C) (t':=s'.toks) (fun b o hb e=>hs'.extBut b o hb e) f.1 f.2.1 f.2.2.2.1 f.2.2.2.2.1 f.2.2.2.2.2,rfl,q⟩
theorem qA {elt tg iter:Expr} {ifs:List Expr} {sc:Scope} {pos pos' spos:Pos} {N:List Str} {k i:Nat} {x:Str} {wi:TI} {g:TG} {tc:TT} {te:TE} (hN:X.N.Nodup) (hiN:X.N[i]?=some x) (hx:Loc X.env.scope x) (hcalm:X.calm=true) (hi:PI X tg iter wi) (hsc:ko X.env sc=true)
  (hnm:jd sc (N.drop k) X.N=true) (hNl:k<=N.length) (hin:∀ cl C s H fp,PG (bY X N sc cl C s H fp) tg g/\wK (bY X N sc cl C s H fp) ifs tc/\PE (bY X N sc cl C s H fp) elt te)
  (hsw:swapsWith (.ListComp elt [⟨tg,iter,ifs,0⟩] sc pos) (some (.Name x pos')) spos.line X.env=pure true)
  (hf:X.fn x=true\/X.env.scope.names.lookup x=some .local) (hs:∀ x,foldedSetIterable iter X.env x=pure x:=by intro _;rfl) :
  PS X (.Assign [.Name x pos'] (.ListComp elt [⟨tg,iter,ifs,0⟩] sc pos) spos) (fun D σ H=>qT k wi g tc te σ H fun v H1=>D.nx (σ.set i (some v)) H1):=by
 intro pins s σ H D I h
 rw [exec_Assign_Name_used _ _ _ _ hsw]
 refine Zq (wpAny_standAt (Zq ?_))
 show wpAny _ X.A (do let _ ← comprehension (.ListComp elt [⟨tg,iter,ifs,0⟩] sc pos) sc X.env _ (newList []) false (eval iter X.env) (some (assign (.Name x pos') X.env))) _ _ s
 refine Zq (YV (nq (use:=some (assign (.Name x pos') X.env)) (QQ:=fun _ s'=>SP X pins D .next s') hcalm hi hsc hnm hNl hin hs I h fun s' H' D' C m I' q hn f=>?_) (fun _ s' hq=>Zc (Zc hq)) fun _ _ e=>e)
 show wpAny _ X.A (assign (.Name x pos') X.env (.ref D')) _ _ _
 refine wpAny_assign_Name (nr I' hN hiN hx (v:=.ref D') rfl (fun s2 I2 ⟨a,hsb,ha⟩=>?_) hf)
 have hCa:C ≠ a:=fun e=>by
  rcases ha with z | z
  ·exact f.2.1 (e.trans z)
  ·exact f.2.2.2.2.1 x a z e.symm
 refine ⟨m,hn.sameBut hsb hCa,fun h' hs'=>⟨_,H',?_,q⟩⟩
 exact I2.turned (it:=C) (t':=s2.toks) (fun b o hb e=>hs'.extBut b o hb e) f.1 f.2.1 f.2.2.2.1 f.2.2.2.2.1 f.2.2.2.2.2
end
end L2
end
section
namespace VS
open PySem PySem.Spec PyProof.Rows L2
noncomputable def o8 (k:Nat) (g:Tg):Prop:=∀ t η η',g t η=some η'->η'.length=η.length/\∀ i,k<=i->η'[i]?=η[i]?
theorem jz {k i:Nat} (h:i < k):o8 k (cY i):=fun t η η' e=>by
 unfold cY at e
 split at e
 ·cases e
  exact ⟨by simp,fun j hj=>by rw [Yz (by lia)]⟩
 ·cases e
theorem rQ:∀ (l:Wp) {i:Nat} {t:T},fj l=true->l[i]?=some t->imm t=true
 | [],_,_,_,h=>by simp at h
 | x :: l,0,t,h,e=>by
  simp only [fj,Zf] at h
  simp at e;rw [← e];exact h.1
 | x :: l,i+1,t,h,e=>by
  simp only [fj,Zf] at h
  exact rQ l h.2 (by simpa using e)
noncomputable def tC (G:Gx):Option Ex->TT
 | none=>fun σ H Q=>Q true H
 | some c=>tT G c
section
variable {G:Gx} {Φ:Fps} {η:VS.Env} {σ:L2.St} {H:Hp} {k:Nat}
theorem jh {i:Nat} {c:Cell}:(List.replicate k none++η)[i]?=some (some c) ↔ k<=i/\η[i - k]?=some (some c):=by
 rcases Nat.lt_or_ge i k with h | h
 ·rw [ZI (by simpa using h),Yi]
  constructor
  ·intro e;split at e <;> cases e
  ·intro ⟨e,_⟩;lia
 ·rw [Z0 (by simpa using h),YQ]
  exact ⟨fun e=>⟨h,e⟩,fun e=>e.2⟩
theorem uD {a:Addr}:cK (fun i=>Φ (i - k)) (List.replicate k none++η) a ↔ cK Φ η a:=by
 constructor
 ·rintro ⟨j,t,h1,h2⟩
  exact ⟨j - k,t,(jh.mp h1).2,h2⟩
 ·rintro ⟨j,t,h1,h2⟩
  refine ⟨j+k,t,jh.mpr ⟨Nat.le_add_left _ _,by rw [Xo];exact h1⟩,?_⟩
  show a∈Φ (j+k - k)
  rw [Xo];exact h2
theorem wo {a:Addr}:dI (fun i=>Φ (i - k)) (List.replicate k none++η) a ↔ dI Φ η a:=by
 constructor
 ·rintro ⟨j,t,h1,h2⟩
  exact ⟨j - k,t,(jh.mp h1).2,h2⟩
 ·rintro ⟨j,t,h1,h2⟩
  refine ⟨j+k,t,jh.mpr ⟨Nat.le_add_left _ _,by rw [Xo];exact h1⟩,?_⟩
  show a∈Φ (j+k - k)
  rw [Xo];exact h2
theorem SR.sh (s:SR G Φ η σ H):SR G (fun i=>Φ (i - k)) (List.replicate k none++η) (List.replicate k none++σ) H:=by
 refine ⟨by simp [s.len],fun i c h=>?_,fun i t h=>?_,fun i j t c h1 h2 n=>?_⟩
 ·obtain ⟨h1,h2⟩:=jh.mp h
  obtain ⟨v,g1,g2⟩:=s.rp _ c h2
  refine ⟨v,?_,g2⟩
  rw [Z0 (by simpa using h1),YQ]
  exact g1
 ·exact s.nd _ t (jh.mp h).2
 ·obtain ⟨a1,a2⟩:=jh.mp h1
  obtain ⟨b1,b2⟩:=jh.mp h2
  exact s.sep _ _ t c a2 b2 (by lia)
theorem SR.less {η':VS.Env} (s:SR G Φ η' σ H) (hl:η.length=η'.length) (h:∀ (i:Nat) c,η[i]?=some (some c)->η'[i]?=some (some c)):SR G Φ η σ H :=
 ⟨hl.trans s.len,fun i c e=>s.rp i c (h i c e),fun i t e=>s.nd i t (h i _ e),fun i j t c e1 e2 n=>s.sep i j t c (h i _ e1) (h j _ e2) n⟩
theorem SR.off {D:Addr} {o:HO} (s:SR G Φ η σ H) (m:Mut (H D)\/H D=none) (n1:¬ dI Φ η D) (n2:¬ cK Φ η D):SR G Φ η σ (upd H D o):=by
 refine ⟨s.len,fun i c e=>?_,s.nd,s.sep⟩
 obtain ⟨v,g1,g2⟩:=s.rp i c e
 refine ⟨v,g1,g2.keep (Kept.upd m) fun b hb o' ho=>?_⟩
 rw [aI fun z=>?_]
 ·exact ho
 ·subst z
  cases c with
  | pu t=>exact n1 ⟨i,t,e,hb⟩
  | ow t=>exact n2 ⟨i,t,e,hb⟩
theorem ma:∀ (l:Wr) (v:Val),cL (l++[v])=(cL l).join v.1
 | [],(m,t)=>by cases m <;> rfl
 | (m,t) :: l,v=>by
  show m.join (cL (l++[v]))=(m.join (cL l)).join v.1
  rw [ma l v]
  generalize cL l=q
  generalize v.1=r
  cases m <;> cases q <;> cases r <;> rfl
theorem Fp.join2 {m n:Md} {F F':Wy} (f:Fp Φ η H m F) (g:Fp Φ η H n F') (d:n=.fr->∀ a∈F,a ∉ F'):Fp Φ η H (m.join n) (F++F'):=by
 have both:∀ {P:Addr->Prop},(∀ a∈F,P a)->(∀ a∈F',P a)->∀ a∈F++F',P a:=fun p q a h=>(Zg.mp h).elim (p a) (q a)
 cases m <;> cases n
 ·exact ⟨ZY.mpr ⟨f.1,g.1,fun a ha b hb e=>d rfl a ha (e ▸ hb)⟩,both f.2 g.2⟩
 ·exact both (fun a ha=>.inl (f.2 a ha)) g
 ·exact both (fun a ha=>.inl (f.2 a ha)) g
 ·exact both f fun a ha=>.inl (g.2 a ha)
 ·exact both f g
 ·exact both (fun a ha=>(f a ha).imp id .inl) g
 ·exact both f fun a ha=>.inl (g.2 a ha)
 ·exact both f fun a ha=>(g a ha).imp id .inl
 ·exact both f g
theorem Fp.cons1 {m:Md} {F:Wy} {D:Addr} (f:Fp Φ η H m F) (h:H D=none) (d:D ∉ F):Fp Φ η H m (D :: F):=by
 have all:∀ {P:Addr->Prop},P D->(∀ a∈F,P a)->∀ a∈D :: F,P a:=fun p q a ha=>(Zi.mp ha).elim (fun e=>e ▸ p) (q a)
 cases m
 ·exact ⟨Ze.mpr ⟨d,f.1⟩,all h f.2⟩
 ·exact all (.inl h) f
 ·exact all (.inl h) f
end
section
variable {G:Gx} {k:Nat} {tg:Tg} {ci:Its} {cond:Option Ex} {ce:Ex}
noncomputable def CI (G:Gx) (Φ:Fps) (η η0:VS.Env) (H H1:Hp) (D:Addr) (l:Wp) (all:Wr) (tg:Tg) (cond:Option Ex) (ce:Ex) (i n:Nat) (σ':L2.St) (H':Hp):Prop:=n=l.length - i/\∃ Φ1 vs Fs xs rest,SR G Φ1 η0 σ' H'/\(∀ a,cK Φ1 η0 a->cK Φ η a)/\(∀ a,dI Φ1 η0 a->H a=none\/dI Φ η a)/\¬ dI Φ1 η0 D/\¬ cK Φ1 η0 D/\Kept H1 H' ∧
     (∀ a o,a ≠ D->H1 a=some o->H' a=some o)/\H' D=some (.lst xs)/\RpL G H' xs (trees vs) Fs/\D ∉ Fs.flatten/\Fp Φ η H (cL vs) Fs.flatten/\lN tg cond ce η0 (l.drop i)=some rest/\vs++rest=all
theorem nK {σ:L2.St} {H:Hp} {Q:VK} (hin:o8 k tg) (h:tE G (dU k tg ci cond ce) σ H Q):qT k (tI G ci) (tG G tg) (tC G cond) (tE G ce) σ H Q:=by
 refine L2.iR fun P_ k_=>?_
 obtain ⟨Φ,η,m,r,s,e,kq⟩:=h
 unfold dU at e
 obtain ⟨⟨mi,l⟩,el,e1⟩:=Zz.mp e
 dsimp only at e1
 split at e1
 ·rename_i hok
  obtain ⟨all,ea,e2⟩:=Zz.mp e1
  unfold mkL at e2
  split at e2
  ·rename_i hlen
   cases e2
   refine k_ ?_
   refine ⟨Φ,η,mi,l,s,el,fun J H1 C e3 ok fc D hD=>?_⟩
   have hHD:H D=none:=e3.free hD
   let η0:VS.Env:=List.replicate k none++η
   have good:∀ {t:T} {i:Nat} {H' H2:Hp} {v:V} {F:Wy},l[i]?=some t->Rp G H2 v t F->(∀ a,H1 a ≠ none->H' a ≠ none)->(∀ a∈F,a∈C\/H' a=none)->∀ a∈F,(H a=none\/dI Φ η a)/\¬ cK Φ η a:=fun {t i H' H2 v F} hi rF keep hF a ha=>by
    have dom:∀ {b},H b ≠ none->H' b ≠ none:=fun {b} hb=>keep b fun z=>hb (e3.free z)
    rcases hF a ha with z | z
    ·rcases fc a z with q | q | ⟨q,w⟩
     ·exact ⟨.inl q,fun w=>Mut.ne_none (s.ow_dom w) q⟩
     ·exact ⟨.inr q,fun w=>s.ow_pu w q⟩
     ·subst q
      have:imm t=true:=by
       exact rQ l hok hi
      rw [rF.imm this] at ha
      simp at ha
    ·have hz:H a=none:=Classical.byContradiction fun q=>dom q z
     exact ⟨.inl hz,fun w=>Mut.ne_none (s.ow_dom w) hz⟩
   refine ⟨CI G Φ η η0 H H1 D l all tg cond ce,?_,?_⟩
   ·refine ⟨l.length - 0,rfl,fun i=>Φ (i - k),[],[],[],all,?_,fun a h=>uD.mp h,fun a h=>.inr (wo.mp h),fun h=>?_,fun h=>?_,Kept.upd (.inr hD),fun a o n h=>by rw [aI n];exact h,aF,.nil,by simp,Fp.nil,by rw [List.drop_zero];exact ea,rfl⟩
    ·exact ((s.same e3).sh).off (.inr hD) (fun h=>Mut.ne_none (s.pu_dom (wo.mp h)) hHD) fun h=>Mut.ne_none (s.ow_dom (uD.mp h)) hHD
    ·exact Mut.ne_none (s.pu_dom (wo.mp h)) hHD
    ·exact Mut.ne_none (s.ow_dom (uD.mp h)) hHD
   ·intro i n σ' H' hh_
    refine L2.iR fun P_ k_=>?_
    obtain ⟨rfl,Φ1,vs,Fs,xs,rest,s1,ow1,pu1,np1,no1,kp,old,hD',rp,nD,fp,er,ev⟩:=hh_
    refine k_ ?_
    have keepdom:∀ a,H1 a ≠ none->H' a ≠ none:=fun a ha z=>by
     by_cases q:a=D
     ·subst q;rw [hD'] at z;cases z
     ·cases e:H1 a with
      | none=>exact ha e
      | some o=>rw [old a o q e] at z;cases z
    refine L2.iR fun P_ k_=>?_
    obtain ⟨go,stop⟩:=ok.run H' kp fun a ha o ho=>old a o (fun z=>ok.dom a ha (z ▸ hD)) ho
    cases hit:l[i]? with
    | none =>
     have hl:l.length<=i:=Yu.mp hit
     refine k_ ?_
     left
     refine ⟨stop i hl,?_⟩
     rw [YT hl] at er
     cases (show some ([]:Wr)=some rest from er)
     rw [ZM] at ev
     subst ev
     refine kq (.ref D) H' (D :: Fs.flatten) (fun a o h=>old a o (fun z=>by rw [z,hHD] at h;cases h) (e3 a o h)) (.lst hD' rp) ?_
     by_cases hi:fj (trees vs)=true
     ·rw [Zr hi,rp.imm hi]
      exact ⟨by simp,fun a ha=>by rw [Zb.mp ha];exact hHD⟩
     ·rw [Zp hi]
      exact fp.cons1 hHD nD
    | some t =>
     have hl:i < l.length:=(Zj.mp hit).1
     obtain ⟨g1,y1⟩:=go i t hit
     refine k_ ?_
     right
     refine ⟨g1,fun x H2 yl=>?_⟩
     refine L2.iR fun P_ k_=>?_
     obtain ⟨e8,F,rF,hF⟩:=y1 x H2 yl
     rw [nu (tgt:=tg) (body:=d2) (η:=η) hit] at er
     rw [lN] at er
     obtain ⟨η3,e4,e5⟩:=Zz.mp er
     obtain ⟨b,eb,e6⟩:=Zz.mp e5
     have gd:=good hit rF keepdom hF
     have s2:=s1.same e8
     have DF:D ∉ F:=fun h=>by
      rcases hF D h with z | z
      ·exact ok.dom D z hD
      ·rw [hD'] at z;cases z
     refine k_ ?_
     refine ⟨Φ1,η0,t,F,η3,s2,rF,fun a ha z=>(gd a ha).2 (ow1 a z),e4,fun Φ3 σ3 s3 o3 p3=>?_⟩
     obtain ⟨tl,tsame⟩:=hin t η0 η3 e4
     have low:∀ j c,η0[j]?=some (some c)->η3[j]?=some (some c):=fun j c h=>by rw [tsame j (jh.mp h).1];exact h
     have pu3:∀ a,dI Φ3 η3 a->H a=none\/dI Φ η a:=fun a h=>(p3 a h).elim (pu1 a) fun h=>(gd a h).1
     have ow3:∀ a,cK Φ3 η3 a->cK Φ η a:=fun a h=>ow1 a (o3 a h)
     have np3:¬ dI Φ3 η3 D:=fun h=>(p3 D h).elim np1 DF
     have no3:¬ cK Φ3 η3 D:=fun h=>no1 (o3 D h)
     have pul:∀ a,dI Φ3 η0 a->dI Φ3 η3 a:=fun a ⟨j,u,h1,h2⟩=>⟨j,u,low j _ h1,h2⟩
     have owl:∀ a,cK Φ3 η0 a->cK Φ3 η3 a:=fun a ⟨j,u,h1,h2⟩=>⟨j,u,low j _ h1,h2⟩
     have rest':∀ H4,aJ H2 H4->(if b=true then tE G ce σ3 H4 fun y H5=>∃ ys,H5 D=some (.lst ys)/\ys.length < sizeLine/\∃ m',m' < l.length - i/\CI G Φ η η0 H H1 D l all tg cond ce (i+1) m' σ3 (upd H5 D (.lst (ys++[y]))) else ∃ m',m' < l.length - i/\CI G Φ η η0 H H1 D l all tg cond ce (i+1) m' σ3 H4):=fun H4 e9=>by
      have eo:∀ {H5},aJ H4 H5->∀ a o,H' a=some o->H5 a=some o:=fun {H5} e10 a o h=>e10 a o (e9 a o (e8 a o h))
      cases b with
      | false =>
       rw [Zp Zh] at e6 ⊢
       have same:=eo (aJ.refl H4)
       exact ⟨_,by lia,rfl,Φ3,vs,Fs,xs,rest,(s3.same e9).less (by rw [tl]) low,fun a h=>ow3 a (owl a h),fun a h=>pu3 a (pul a h),fun h=>np3 (pul D h),fun h=>no3 (owl D h),kp.trans ((Kept.of e8).trans (Kept.of e9)),fun a o n h=>same a o (old a o n h),same D _ hD',rp.same (aJ.trans e8 e9),nD,fp,e6,ev⟩
      | true =>
       rw [Zr rfl] at e6 ⊢
       obtain ⟨⟨mv,tv⟩,ece,e7⟩:=Zz.mp e6
       obtain ⟨rest1,er1,e7'⟩:=Zy.mp e7
       refine ⟨Φ3,η3,mv,tv,s3.same e9,ece,fun y H5 Fy e10 ry fy=>?_⟩
       have same:=eo e10
       have hD5:=same D _ hD'
       have mD5:Mut (H5 D):=by rw [hD5];exact True.intro
       have hD4:H4 D=some (.lst xs):=e9 D _ (e8 D _ hD')
       have none4:∀ a,H4 a=none->H a=none:=fun a h=>Classical.byContradiction fun q=>keepdom a (fun z=>q (e3.free z)) (e8.free (e9.free h))
       have fyo:Fp Φ η H mv Fy:=by
        cases mv with
        | fr=>exact ⟨fy.1,fun a ha=>none4 a (fy.2 a ha)⟩
        | pu=>exact fun a ha=>(fy a ha).elim (fun z=>.inl (none4 a z)) (pu3 a)
        | bo=>exact fun a ha=>(fy a ha).elim (fun z=>.inl (none4 a z)) fun z=>z.elim (fun z=>(pu3 a z).imp id .inl) fun z=>.inr (.inr (ow3 a z))
       have DFy:D ∉ Fy:=fun h=>by
        cases mv with
        | fr=>have:=fy.2 D h;rw [hD4] at this;cases this
        | pu=>exact (fy D h).elim (fun z=>by rw [hD4] at z;cases z) np3
        | bo=>exact (fy D h).elim (fun z=>by rw [hD4] at z;cases z) fun z=>z.elim np3 no3
       have rp5:RpL G H5 xs (trees vs) Fs:=rp.same ((e8.trans e9).trans e10)
       have lenx:xs.length=vs.length:=by rw [rp.len.1];simp
       have lenv:vs.length < all.length:=by rw [← ev,← e7'];simp
       refine ⟨xs,hD5,?_,_,by lia,rfl,Φ3,vs++[(mv,tv)],Fs++[Fy],xs++[y],rest1,(((s3.same e9).same e10).off (.inl mD5) np3 no3).less (by rw [tl]) low,fun a h=>ow3 a (owl a h),fun a h=>pu3 a (pul a h),fun h=>np3 (pul D h),fun h=>no3 (owl D h),?_,fun a o n h=>?_,aF,?_,?_,?_,er1,?_⟩
       ·have hlen':all.length<=fu:=by simpa using hlen
        have:sizeLine=fu:=rfl
        lia
       ·exact (kp.trans ((Kept.of e8).trans ((Kept.of e9).trans (Kept.of e10)))).trans (Kept.upd (.inl mD5))
       ·rw [aI n];exact same a o (old a o n h)
       ·have:trees (vs++[(mv,tv)])=trees vs++[tv]:=by simp
        rw [this]
        exact (rp5.off mD5 nD).append (.cons (ry.keep (Kept.upd (.inl mD5)) fun b hb o ho=>by rw [aI (fun z=>DFy (by rw [← z];exact hb))];exact ho) .nil)
       ·rw [Yt]
        intro h
        rcases Zg.mp h with z | z
        ·exact nD z
        ·exact DFy (by simpa using z)
       ·rw [Yt,ma]
        have:([Fy]:Xd).flatten=Fy:=by simp
        rw [this]
        refine fp.join2 fyo fun hm a ha hb=>?_
        subst hm
        have h4:=fy.2 a hb
        have:Mut (H4 a):=(rp.same (e8.trans e9)).dom a ha
        rw [h4] at this;exact this
       ·rw [Z8,← ev,← e7'];rfl
     cases cond with
     | none =>
      cases (show some true=some b from eb)
      exact rest' H2 (aJ.refl H2)
     | some c =>
      obtain ⟨⟨mc,xc⟩,ec1,ec2⟩:=Zz.mp eb
      exact ⟨Φ3,η3,mc,xc,b,s3,ec1,ec2,fun H4 e9=>rest' H4 e9⟩
  ·cases e2
 ·cases e1
end
section
variable {G:Gx} {X:Cx} {elt tg iter c:Expr} {sc:Scope} {pos pos' spos:Pos} {N:List Str} {k i:Nat} {x:Str} {ci:Its} {g:Tg} {cc ce:Ex}
theorem yp (k:Nat) (N:List Str) (hcalm:X.calm=true) (hi:PVI G X tg iter ci) (hin:o8 k g) (hg:∀ cl C s H fp,PVG G (bY X N sc cl C s H fp) tg g) (he:∀ cl C s H fp,PV G (bY X N sc cl C s H fp) elt ce)
  (hsc:ko X.env sc=true:=by rfl) (hnm:jd sc (N.drop k) X.N=true:=by rfl) (hNl:k<=N.length:=by decide) (hs:∀ x,foldedSetIterable iter X.env x=pure x:=by intro _;rfl) :
  PV G X (.ListComp elt [⟨tg,iter,[],0⟩] sc pos) (dU k g ci none ce) :=
 PE.weak (rE hcalm hi hsc hnm hNl (fun cl C s H fp=>⟨hg cl C s H fp,kT,he cl C s H fp⟩) hs) fun σ H Q h=>nK (cond:=none) hin h
theorem AB {D:Ends} {σ:L2.St} {H:Hp} {ce:Ex} (h:tS G (gZ i ce) D σ H):tE G ce σ H fun v H1=>D.nx (σ.set i (some v)) H1:=by
 refine L2.iR fun P_ k_=>?_
 obtain ⟨Φ,η,o,s,e,k⟩:=h
 unfold gZ at e
 obtain ⟨⟨m,t⟩,ec,e1⟩:=Zz.mp e
 obtain ⟨c,eC,e2⟩:=Zz.mp e1
 refine k_ ?_
 split at e2
 ·rename_i hl
  cases e2
  refine ⟨Φ,η,m,t,s,ec,fun v H' F e3 r3 f3=>?_⟩
  obtain ⟨q1,q2⟩:=s.val (c:=c) hl e3 r3 f3 (by
   unfold cellOf at eC
   cases m with
   | fr =>
    simp only [Option.some.injEq] at eC
    split at eC
    ·exact .inr ⟨eC.symm,rfl⟩
    ·exact .inl ⟨eC.symm,by decide⟩
   | pu=>cases eC;exact .inl ⟨rfl,by decide⟩
   | bo=>cases eC)
  exact k _ _ H' q1 q2
 ·cases e2
theorem uk (k:Nat) (N:List Str) {cS:Sx} (hS:∀ D σ H,tS G cS D σ H->tE G (dU k g ci none ce) σ H fun v H1=>D.nx (σ.set i (some v)) H1) (hcalm:X.calm=true) (hi:PVI G X tg iter ci) (hin:o8 k g) (hg:∀ cl C s H fp,PVG G (bY X N sc cl C s H fp) tg g)
  (he:∀ cl C s H fp,PV G (bY X N sc cl C s H fp) elt ce) (hN:X.N.Nodup) (hiN:X.N[i]?=some x:=by rfl) (hx:Loc X.env.scope x:=by first | exact Or.inl rfl | exact Or.inr rfl)
  (hsc:ko X.env sc=true:=by rfl) (hnm:jd sc (N.drop k) X.N=true:=by rfl) (hNl:k<=N.length:=by decide) (hsw:swapsWith (.ListComp elt [⟨tg,iter,[],0⟩] sc pos) (some (.Name x pos')) spos.line X.env=pure true:=by rfl)
  (hf:X.fn x=true\/X.env.scope.names.lookup x=some .local:=by first | exact .inl rfl | exact .inr rfl) (hs:∀ x,foldedSetIterable iter X.env x=pure x:=by intro _;rfl) :
  PSV G X (.Assign [.Name x pos'] (.ListComp elt [⟨tg,iter,[],0⟩] sc pos) spos) cS :=
 PS.weak (qA hN hiN hx hcalm hi hsc hnm hNl (fun cl C s H fp=>⟨hg cl C s H fp,kT,he cl C s H fp⟩) hsw hf hs) fun D σ H h=>nK (cond:=none) hin (hS D σ H h)
end
end VS
end
section
namespace L2
open PySem PySem.Spec PyProof.Rows
end L2
namespace VS
open PySem PySem.Spec PyProof.Rows L2
noncomputable instance {s:Tx}:Decidable (mw s):=inferInstanceAs (Decidable (_/\_))
section
variable {G:Gx} {X:Cx} {a b c e:Expr} {es:List Expr} {ca cb cc:Ex} {cs:Exs} {pos p p1 p2 apos cpos:Pos} {k k':Nat}
theorem w_add (ha:PV G X a ca) (hb:PV G X b cb):PV G X (.BinOp a .Add b pos) (e2 cn ca cb):=oZ xi B7 ha hb
theorem w_sub (ha:PV G X a ca) (hb:PV G X b cb):PV G X (.BinOp a .Sub b pos) (e2 iU ca cb):=oZ An AK ha hb
theorem w_mul (ha:PV G X a ca) (hb:PV G X b cb):PV G X (.BinOp a .Mult b pos) (e2 iO ca cb):=oZ BV Aw ha hb
theorem BF (ha:PV G X a ca) (hb:PV G X b cb):PV G X (.BinOp a .FloorDiv b pos) (e2 bD ca cb):=oZ yr ye ha hb
theorem w_mod (ha:PV G X a ca) (hb:PV G X b cb):PV G X (.BinOp a .Mod b pos) (e2 oMod ca cb):=oZ AZ Cn ha hb
theorem D2 (ha:PV G X a ca) (hb:PV G X b cb):PVT G X (.Compare a [.Lt] [b] pos) (e2 oLt ca cb):=gQ uE zF kS ha hb (j9 _)
theorem w_eq (hr:Room k X.A) (ha:PV G X a ca) (hb:PV G X b cb):PV G X (.Compare a [.Eq] [b] pos) (e2 oEq ca cb):=AM (t6 hr.units) zz ha hb (j9 _)
theorem C8 (hr:Room k X.A) (ha:PV G X a ca) (hb:PV G X b cb):PVT G X (.Compare a [.Eq] [b] pos) (e2 oEq ca cb):=gQ (t6 hr.units) zz tells_eq ha hb (j9 _)
theorem DQ (hr:Room k X.A) (ha:PV G X a ca) (hb:PV G X b cb):PVT G X (.Compare a [.NotEq] [b] pos) (e2 oNe ca cb):=gQ (A9 hr.units) C9 uf ha hb (j9 _)
theorem D5 (ha:PV G X a ca) (hb:PV G X b cb) (hs:eP b:=by intro _ _;rfl) (hK:X.K=G.K:=by rfl):PV G X (.Subscript a b pos) (e2 aN ca cb) :=
 PE.weak (rO nP ha hb hs) fun σ H Q h=>by rw [hK];exact jT uy h
theorem D7 (hm:X.mg "len" = none) (ha:PVs G X [e] cs) (hg:Gl X "len" := by rfl) (hK:X.K=G.K:=by rfl) (he:starEach [e] X.env=(false,eval e X.env) :: starEach [] X.env:=by rfl):PV G X (.Call (.Name "len" p) [e] [] pos) (eN bI cs) :=
 ik (hK ▸ sF) BB hg hm PySem.boot_len ha (he:=he) (hpl:=rfl)
theorem zO:bootBuiltins ("max" : Str)=some (.builtin "max"):=by decide +kernel
theorem AA:bootBuiltins ("min" : Str)=some (.builtin "min"):=by decide +kernel
theorem yz:bootBuiltins ("list" : Str)=some (.type "list"):=by decide +kernel
theorem Aq (hm:X.mg "max" = none) (ha:PVs G X [a,b] cs) (hc:X.calm=true:=by rfl) (hg:Gl X "max" := by rfl) (he:starEach [a,b] X.env=(false,eval a X.env) :: starEach [b] X.env:=by rfl) (hpl:(backTo pos (starEach [b] X.env)).any (·.1)=false:=by rfl):PV G X (.Call (.Name "max" p) [a,b] [] pos) (eN ng cs) :=
 ik (sG hc) xl hg hm zO ha (he:=he) (hpl:=hpl)
theorem AW (hm:X.mg "min" = none) (ha:PVs G X [a,b] cs) (hc:X.calm=true:=by rfl) (hg:Gl X "min" := by rfl) (he:starEach [a,b] X.env=(false,eval a X.env) :: starEach [b] X.env:=by rfl) (hpl:(backTo pos (starEach [b] X.env)).any (·.1)=false:=by rfl):PV G X (.Call (.Name "min" p) [a,b] [] pos) (eN nk cs) :=
 ik (tJ hc) xX hg hm AA ha (he:=he) (hpl:=hpl)
noncomputable def tyN:Ty->Str
 | .int => "int" | .str => "str" | .bool => "bool" | .list => "list" | .tuple => "tuple" | .dict => "dict"
theorem DR (t:Ty):bootBuiltins (tyN t)=some (.type (tyS t)):=by cases t <;> decide +kernel
theorem w_is (t:Ty) (hm:X.mg "isinstance" = none) (hm2:X.mg (tyN t)=none) (ha:PV G X a ca) (hg:Gl X "isinstance" := by rfl) (hg2:Gl X (tyN t):=by rfl) (hK:X.K=G.K:=by rfl)
  (hs:starEach [a,.Name (tyN t) p2] X.env=(false,eval a X.env) :: starEach [.Name (tyN t) p2] X.env:=by rfl):PV G X (.Call (.Name "isinstance" p1) [a,.Name (tyN t) p2] [] pos) (eIs t ca) :=
 DY t ha hg hm hg2 hm2 (DR t) hK (by cases t <;> decide) (by cases t <;> decide) hs rfl rfl
theorem uT (i:Nat) {x:Str} (ha:PVs G X [e] cs) (hK:X.K=G.K:=by rfl)
  (hN:X.N[i]?=some x:=by rfl) (hv:Vis X.env.scope x:=by first | exact Or.inl rfl | exact Or.inr (Or.inl rfl) | exact Or.inr (Or.inr rfl)) (hd:(x == ("__debug__" : Str))=false:=by decide)
  (hcd:(x == ("__classdict__" : Str))=false:=by decide) (hfew:((backTo cpos (starEach [e] X.env)).all (fun x=>!x.1) && (backToKw cpos (keywordEach [] X.env)).all (fun x=>x.1.isSome)
   && decide ([e].length+([]:List Keyword).length+(if ([]:List Keyword).isEmpty then 0 else 1) < 30))=true:=by rfl)
  (hline:(apos.endLine == cpos.line)=true:=by rfl) (hs:starEach [e] X.env=(false,eval e X.env) :: starEach [] X.env:=by rfl) :
  PSV G X (.Expr (.Call (.Attribute (.Name x p1) "append" apos) [e] [] cpos) pos) (sX (lX i [] aD cs)) :=
 tZ i Xg Xj Xk iB mW (fun H v t F l z r h=>kh r h) ha hK hN hv hd hcd rfl hfew hline hs rfl rfl
end
structure FnAt (P:Program) (w:World) (K:X4) (mg:Wz) (base:Heap) (k:Nat) (x:Str) (ps:List Str) (G:Gx) (g:Fn):Prop where
 ex:∃ f fd,FnOk P w K mg base CX0 k f fd ps (spF G g)/\mg x=some (.ref f)/\PySem.W.keepIn K (.ref f)=true/\Binds K fd ps []
section
variable {G:Gx} {X:Cx} {e:Expr} {es:List Expr} {cs:Exs} {pos p:Pos} {k k':Nat} {x:Str} {ps:List Str} {g:Fn}
theorem BJ (F:FnAt X.prog X.w X.K X.mg X.base k x ps G g) (hr:Room k' X.A) (ha:PVs G X (e :: es) cs) (hk:k<=k':=by decide) (hg:Gl X x:=by rfl) (hdb:(x == ("__debug__" : Str))=false:=by decide)
  (he:starEach (e :: es) X.env=(false,eval e X.env) :: starEach es X.env:=by rfl) (hpl:(backTo pos (starEach es X.env)).any (·.1)=false:=by rfl) :
  PV G X (.Call (.Name x p) (e :: es) [] pos) (bg g cs):=by
 obtain ⟨f,fd,h1,h2,h3,h4⟩:=F.ex
 exact wU h1 (hr.mono hk) hg h2 h3 h4 ha hdb he hpl
end
section
variable {G:Gx} {P:Program} {w:World} {K:X4} {mg:Wz} {base:Heap}
theorem Co {x:Str} {st:Stmt} {f:Addr} {fd:FuncData} {N ps:List Str} {k np nn:Nat} {c:Sx} (F:Fun K x x st f fd) (hm:mg x=some (.ref f)) (S:FnScope N ps (af st)) (hp:ps.length=np) (hn:N.length=nn)
  (hbd:∀ (kV doc pm:Value) (an:Option Addr) (cdv ct:Value) (us:Wx),us.length=ps.length->bindArgs (PySem.W.fnOf x x (aB st) (au st) (af st) .none kV doc pm an cdv ct) ⟨us,[]⟩=pure (ps.zip us))
  (hb:∀ (cdv:Value) (A:Around) (outer:List PySem.Env) (s:Shared) (H:Hp) (E:XK),Room k (A.deeper (envOfC x (af st) s.heap.objs.size f cdv))->cB G (fo CX0 P w K mg base N x (af st) f cdv A outer s H E).nox (au st) c) :
  FnAt P w K mg base (k+1) x ps G (fn np nn c) :=
 ⟨f,fd,fnV F S hp hn hb,hm,F.kp,F.binds hbd⟩
end
end VS
end
section
namespace L2
open PySem PySem.Spec PyProof.Rows
noncomputable def Its (x:Str):It:=⟨fun i _=>i < x.cps.size,fun i H v H'=>H'=H/\∃ c,x.cps[i]?=some c/\v=.str ⟨#[c]⟩,fun i _=>x.cps.size<=i⟩
theorem mI {P:Program} {w:World} {K:X4} {tg:Expr} (x:Str) (t:Tok) (it:Addr) (ty:String) (hn:["enumerate", "zip", "dict_itemiterator", "dict_reverseitemiterator", "odict_iterator", "itertools.zip_longest", "itertools.pairwise"].contains ty=false)
  (W:∀ A:Around,A.handled=none->Walks P w A it [it] [it] x.cps.size (fun i v=>∃ c u,x.cps[i]?=some c/\v=.str ⟨#[c]⟩ u) (fun i h=>h.IsStrIter it ty x t i)) (hend:∀ (A:Around),A.handled=none->∀ (i:Nat) (s:Shared) (Q:Ww->Shared->Prop) (E:Z2),s.heap.IsStrIter it ty x t i->x.cps[i]?=none->(∀ h',Heap.ExtBut it s.heap h'->Q none { s with heap:=h' })->wpAny (model P w) A (pyNext (.ref it)) Q E s)
  (hself:∀ (A:Around) (i:Nat) (s:Shared) (Q:Z2) (E:Z2),s.heap.IsStrIter it ty x t i->Q (.ref it) s->wpAny (model P w) A (pyIter (.ref it)) Q E s) :
  Turn P w K tg (Its x) [it] it (fun i h=>h.IsStrIter it ty x t i) where
 mem:=by simp
 obj:=fun i h st b hb=>by
  rw [Zb.mp hb]
  obtain ⟨o,e,c,d⟩:=st
  exact ⟨o,e,fun v z=>by rw [d] at z;cases z⟩
 keep:=fun i h h' st k=>let ⟨o,e,r⟩:=st;⟨o,k it (by simp) o e,r⟩
 item:=by
  intro X hP hw hK hc i pins s σ H E I hf st hg
  subst hP hw hK
  obtain ⟨f0,f1,f2,f3,f4,f5⟩:=hf it (by simp)
  refine (W X.A (I.ok.hd hc)).item i s _ _ hg st fun v h' tk hv st' kk=>?_
  obtain ⟨c,u,hc',rfl⟩:=hv
  have I1:Inv X pins σ H { s with heap:=h',toks:=tk }:=I.turned (fun b o hb e=>kk b o (by simpa using hb) e) f0 f1 f3 f4 f5
  obtain ⟨o,e,c1,d⟩:=id st'
  exact ⟨_,rfl,mJ (s:={ s with heap:=h',toks:=tk }) e c1 d hn ⟨.str ⟨#[c]⟩,H,I1,⟨u,rfl⟩,⟨rfl,c,hc',rfl⟩,st',fun b hb=>(hf b hb).1⟩⟩
 done:=by
  intro X hP hw hK hc i pins s σ H E I hf st hg
  subst hP hw hK
  obtain ⟨f0,f1,f2,f3,f4,f5⟩:=hf it (by simp)
  have hx:x.cps.size<=i:=hg
  exact hend X.A (I.ok.hd hc) i s _ _ st (by simp [hx]) fun h' eb=>⟨rfl,I.turned (t':=s.toks) (fun b o hb e=>eb b o hb e) f0 f1 f3 f4 f5⟩
 self:=fun A i s Q E st h=>hself A i s Q E st h
theorem uO {P:Program} {w:World} {K:X4} {tg:Expr} (x:Str) (t:Tok) (it:Addr):Turn P w K tg (Its x) [it] it (fun i h=>h.IsStrIter it (strIterType x) x t i):=by
 cases ha:x.cps.all (· < 128)
 ·have e:strIterType x = "str_iterator" := by simp [strIterType,ha]
  rw [e]
  exact mI x t it "str_iterator" rfl (fun A hA=>Walks.strWide hA it x t) (fun A hA i s Q E st hx q=>wpAny_pyNext_wide_end hA st hx q) fun A i s Q E st q=>wpAny_pyIter_striter_wide st q
 ·have e:strIterType x = "str_ascii_iterator" := by simp [strIterType,ha]
  rw [e]
  exact mI x t it "str_ascii_iterator" rfl (fun A hA=>Walks.strAscii hA it x t) (fun A hA i s Q E st hx q=>wpAny_pyNext_ascii_end hA st hx q) fun A i s Q E st q=>wpAny_pyIter_striter_ascii st q
section
variable {X:Cx} {tg l a b c:Expr} {tl ta tb tc:TE} {pos:Pos}
noncomputable def CJ (K:X4) (tl:TE):TI:=fun σ H R=>tl σ H fun x H1=>(∃ a,x=.ref a/\(∃ xs,SqL K H1 a xs)/\R (Itl K a) H1)\/(∃ a,x=.ref a/\(∃ xs,SqT K H1 a xs)/\R (Itt K a) H1)\/∃ z,x=.str z/\R (Its z) H1
theorem yb (hl:PE X l tl):PI X tg l (CJ X.K tl):=by
 intro pins s σ H R I h
 refine thn (hl pins s σ H _ I h) fun v s1 ⟨x,H1,I1,r1,q1⟩=>?_
 have fp1:∀ b∈[s1.heap.objs.size],mB X pins H1 b:=fun b hb=>by
  rw [Zb.mp hb]
  exact I1.fpOk (Zk _) (I1.hok.fresh (Zk _))
 rcases q1 with ⟨a,e,⟨xs,hq⟩,q⟩ | ⟨a,e,⟨xs,hq⟩,q⟩ | ⟨z,e,q⟩
 ·subst e
  cases r1
  obtain ⟨its,rv,p,hz⟩:=I1.list hq
  exact wpAny_pyIter_list p.isList ⟨s1.heap.objs.size,[s1.heap.objs.size],_,_,H1,rfl,I1.kept (t':=s1.toks) fun b o e=>Zl _ e,sg a _,⟨_,ZV _ rfl,rfl,rfl⟩,fp1,q⟩
 ·subst e
  cases r1
  obtain ⟨its,rv,p,hz⟩:=I1.tuple hq
  exact wpAny_pyIter_tuple (show s1.heap.IsTuple a its.toArray from p) ⟨s1.heap.objs.size,[s1.heap.objs.size],_,_,H1,rfl,I1.kept (t':=s1.toks) fun b o e=>Zl _ e,pX a _,⟨_,ZV _ rfl,rfl,rfl⟩,fp1,q⟩
 ·subst e
  obtain ⟨t,rfl⟩:=r1
  exact wpAny_pyIter_strU ⟨s1.heap.objs.size,[s1.heap.objs.size],_,_,H1,rfl,I1.kept (t':=s1.toks) fun b o e=>Zl _ e,uO z t _,⟨_,ZV _ rfl,rfl,rfl⟩,fp1,q⟩
theorem w6 {s:Shared} {h':Heap} {o:Obj} (hk:∀ b x,b ∉ [s.heap.objs.size]->(s.heap.push o).get? b=some x->h'.get? b=some x) (b:Addr) (x:Obj) (e:s.heap.get? b=some x):h'.get? b=some x :=
 hk b x (fun hm=>Yp _ (by have:=ZU e;rw [Zb.mp hm] at this;exact this)) (Zl _ e)
theorem uw (hc:X.calm=true):dJ X (.builtin "sum") (fun xs H Q=>∃ p,∃ ns:Wu,xs=[.ref p]/\SqL X.K H p (ns.map V.int)/\Q (.int ns.sum) H):=by
 intro pins s σ H xs us Q I rx h
 obtain ⟨p,ns,rfl,hq,q⟩:=h
 obtain ⟨u,rfl,ru⟩:=rx.one
 cases ru
 obtain ⟨its,rv,pl,hz⟩:=I.list hq
 have hl:p < s.heap.objs.size:=by obtain ⟨_,e,_⟩:=pl.isList;exact ZU e
 refine call_sum_walkG (wpAny_pyIter_list pl.isList ⟨s.heap.objs.size,[s.heap.objs.size,p],[s.heap.objs.size],its.toArray.size,_,_,fun i=>(ns[i]?).getD 0,rfl,Walks.list (A:=X.A.in1) (I.ok.hd hc) _ p (ZS hl) its.toArray,
  ⟨⟨_,ZV _ rfl,rfl,rfl⟩,pl.isList.push _⟩,fun b hb=>?_,fun i v hP=>?_,fun h' tk t' hk=>⟨.int ns.sum,H,I.kept (w6 hk),⟨t',?_⟩,q⟩⟩)
 ·rw [X2]
  rcases Zi.mp hb with rfl | hb
  ·exact Yl _
  ·rw [Zb.mp hb];exact XB hl
 ·have hv:its[i]?=some v:=by simpa using hP
  cases e:ns[i]? with
  | none =>
   have:=rv.none_of (i:=i) (by rw [ZP,e];rfl)
   rw [this] at hv;cases hv
  | some n =>
   obtain ⟨u,hu,ru⟩:=rv.get (i:=i) (x:=.int n) (by rw [ZP,e];rfl)
   rw [hu] at hv;cases hv
   obtain ⟨t,rfl⟩:=ru
   exact ⟨t,by simp [e]⟩
 ·have hlen:its.toArray.size=ns.length:=by have:=rv.length;simp at this ⊢;exact Eq.symm this
  have:∀ k,k<=ns.length->preSum (fun i=>(ns[i]?).getD 0) k=(ns.take k).sum:=fun k=>by
   induction k with
   | zero=>intro _;simp [preSum]
   | succ k ih =>
    intro hk
    rw [List.take_succ,List.sum_append,preSum,ih (by exact Nat.le_of_succ_le hk)]
    cases e:ns[k]? <;> simp
  rw [hlen,this _ (Zk _),List.take_length]
theorem tP:OpR X (compareOp .Gt) (fun x y H Q=>∃ i j,x=.str i/\y=.str j/\Q (.bl (decide (j.cps.toList < i.cps.toList))) H):=by
 intro pins s σ H x y v u Q I rx ry h
 obtain ⟨i,j,rfl,rfl,q⟩:=h
 obtain ⟨t,rfl⟩:=rx
 obtain ⟨t',rfl⟩:=ry
 exact PySem.P.gt_str ⟨.bl _,H,I,rfl,q⟩
theorem sZ:OpR X (compareOp .GtE) (fun x y H Q=>∃ i j,x=.str i/\y=.str j/\Q (.bl (!decide (i.cps.toList < j.cps.toList))) H):=by
 intro pins s σ H x y v u Q I rx ry h
 obtain ⟨i,j,rfl,rfl,q⟩:=h
 obtain ⟨t,rfl⟩:=rx
 obtain ⟨t',rfl⟩:=ry
 exact PySem.P.ge_str ⟨.bl _,H,I,rfl,q⟩
end
end L2
end
section
namespace VS
open PySem PySem.Spec PyProof.Rows L2
section
variable {G:Gx} {X:Cx} {a b c e tg:Expr} {es:List Expr} {ca cb cc:Ex} {cs:Exs} {pos p p1 p2 apos cpos:Pos} {k k':Nat}
theorem zM (H:Hp) (s:Tx) (ok:mw s):ItOk G (L2.Its (sx s)) (s.map fun c=>T.str [c]) [] H:=by
 have sz:(sx s).cps.size=s.length:=rfl
 refine ⟨fun H2 _ _=>⟨fun i t h=>?_,fun i h=>(by rw [Zv] at h;show (sx s).cps.size<=i;lia)⟩,fun a h=>by simp at h⟩
 rw [ZP] at h
 obtain ⟨c,hc,rfl⟩:=Zy.mp h
 refine ⟨(by show i < (sx s).cps.size;have:=(Zj.mp hc).1;lia),fun x H3 ⟨e1,c',hc',e2⟩=>?_⟩
 subst e1
 have:c'=c:=by
  have h1:(sx s).cps[i]?=some c:=by simp [sx,hc]
  rw [h1] at hc';exact (Zn hc').symm
 subst this
 rw [e2]
 exact ⟨aJ.refl _,[],.str [c'] ⟨(by show 1<=fu;decide),fun d hd=>by rw [Zb.mp hd];exact ok.2 c' (Yc hc)⟩,fun a h=>by simp at h⟩
theorem xV (ha:PV G X a ca) (hK:X.K=G.K:=by rfl):PVI G X tg a (iL ca) :=
 PI.weak (yb ha) fun σ H R hq=>by
  obtain ⟨Φ,η,m,l,s,e,k⟩:=hq
  unfold iL at e
  obtain ⟨⟨mx,x⟩,ea,e1⟩:=Zz.mp e
  refine ⟨Φ,η,mx,x,s,ea,fun v H' F e3 r3 f3=>?_⟩
  cases x with
  | lst ts =>
   cases e1
   obtain ⟨a',vs,Fs,rfl,rfl,ha',ra⟩:=r3.lst_inv
   exact .inl ⟨a',rfl,⟨vs,SqL.of ha'⟩,k _ H' _ e3 (wV X.K ha' ra) f3.c⟩
  | tup ts =>
   cases e1
   obtain ⟨a',vs,Fs,rfl,rfl,ha',ra⟩:=r3.tup_inv
   exact .inr (.inl ⟨a',rfl,⟨vs,SqT.of ha'⟩,k _ H' _ e3 (As X.K ha' ra) f3.c⟩)
  | str z =>
   cases e1
   obtain ⟨rfl,ok⟩:=r3.str_inv
   exact .inr (.inr ⟨_,rfl,k _ H' [] e3 (zM H' z ok) fun a h=>by simp at h⟩)
  | _=>cases e1
theorem qR {H:Hp}:∀ {vs:List V} {l:Wp} {Fs:Xd} {ss:Wu},RpL G H vs l Fs->lZ l=some ss->vs=ss.map V.int
 | _,_,_,_,.nil,e=>by cases e;rfl
 | _,_,_,_,.cons (t:=t) r q,e=>by
  cases t with
  | int s =>
   simp only [lZ] at e
   obtain ⟨ss',e1,e2⟩:=Zy.mp e
   subst e2
   rw [qR q e1,r.int_inv]
   rfl
  | _=>cases e
theorem zU:fi G (fun xs H Q=>∃ p,∃ ns:Wu,xs=[.ref p]/\SqL G.K H p (ns.map V.int)/\Q (.int ns.sum) H) vw:=by
 intro Φ η H0 H l vs Fs m t Q A e k
 unfold vw at e
 split at e
 ·rename_i mx x
  obtain ⟨is,e1,e2⟩:=Zz.mp e
  cases e2
  obtain ⟨v,F,rfl,rfl,rx⟩:=(show RpL G H vs [.lst x] Fs from A.rp).one
  obtain ⟨a,ys,Gs,rfl,rfl,ha,ra⟩:=rx.lst_inv
  exact ⟨a,is,rfl,by rw [← qR ra e1];exact SqL.of ha,bF k (.int _)⟩
 ·cases e
theorem BS:bootBuiltins ("sum" : Str)=some (.builtin "sum"):=by decide +kernel
theorem ux:bootBuiltins ("tuple" : Str)=some (.type "tuple"):=by decide +kernel
theorem w_sum (hm:X.mg "sum" = none) (ha:PVs G X [e] cs) (hg:Gl X "sum" := by rfl) (hK:X.K=G.K:=by rfl) (hc:X.calm=true:=by rfl) (he:starEach [e] X.env=(false,eval e X.env) :: starEach [] X.env:=by rfl):PV G X (.Call (.Name "sum" p) [e] [] pos) (eN vw cs) :=
 ik (uw hc) (hK ▸ zU) hg hm BS ha (he:=he) (hpl:=rfl)
theorem ui:fi G (fun xs H Q=>∃ p ys,xs=[.ref p]/\((SqL G.K H p ys/\∀ l,H l=none->Q (.ref l) (upd H l (.tup ys)))\/(SqT G.K H p ys/\Q (.ref p) H))) iK:=by
 intro Φ η H0 H l vs Fs m t Q A e k
 unfold iK at e
 split at e
 ·rename_i mx x
  split at e
  ·rename_i hl
   cases e
   obtain ⟨v,F,rfl,rfl,rx⟩:=(show RpL G H vs [.lst x] Fs from A.rp).one
   obtain ⟨a,ys,Gs,rfl,rfl,ha,ra⟩:=rx.lst_inv
   have f:=(A.fp.each 0 _ _ rfl rfl).sub (Z1 _ _)
   refine ⟨a,ys,rfl,.inl ⟨SqL.of ha,fun q hq=>?_⟩⟩
   have sm:aJ H (upd H q (.tup ys)):=dS hq
   have r:Rp G (upd H q (.tup ys)) (.ref q) (.tup x) Gs.flatten:=.tup aF (ra.same sm)
   exact k _ _ _ sm r (f.up r)
  ·cases e
 ·cases e
theorem wN (hm:X.mg "tuple" = none) (ha:PVs G X [e] cs) (hg:Gl X "tuple" := by rfl) (hK:X.K=G.K:=by rfl) (he:starEach [e] X.env=(false,eval e X.env) :: starEach [] X.env:=by rfl):PV G X (.Call (.Name "tuple" p) [e] [] pos) (eN iK cs) :=
 jO mr (hK ▸ ui) hg hm ux ha (he:=he) (hpl:=rfl)
noncomputable def rGt:R2:=fun x y H Q=>rI0 (fun i j=>.bl (decide (j < i))) x y H Q\/(∃ i j,x=.str i/\y=.str j/\Q (.bl (decide (j.cps.toList < i.cps.toList))) H)
noncomputable def rGe:R2:=fun x y H Q=>rI0 (fun i j=>.bl (decide (j<=i))) x y H Q\/(∃ i j,x=.str i/\y=.str j/\Q (.bl (!decide (i.cps.toList < j.cps.toList))) H)
theorem v9 (s t:Tx):decide ((sx s).cps.toList < (sx t).cps.toList)=ltx s t:=by rw [lu];exact decide_eq_decide.mpr (by simp [sx])
theorem CS:gm G rGt oGt:=by
 intro Φ η H0 H x y u w F1 F2 m t Q tw e k
 obtain ⟨m1,x⟩:=x
 obtain ⟨m2,y⟩:=y
 obtain ⟨same,r1,r2,f1,f2,nd⟩:=tw
 unfold oGt oLt at e
 split at e
 ·rename_i e1 e2
  cases e1
  cases e2
  cases e
  exact .inl ⟨_,_,r1.int_inv,r2.int_inv,bF k (.bl _)⟩
 ·rename_i s _ s' e1 e2
  cases e1
  cases e2
  cases e
  refine .inr ⟨_,_,r1.str_inv.1,r2.str_inv.1,?_⟩
  rw [v9]
  exact bF k (.bl _)
 ·cases e
theorem CT:gm G rGe oGe:=by
 intro Φ η H0 H x y u w F1 F2 m t Q tw e k
 obtain ⟨m1,x⟩:=x
 obtain ⟨m2,y⟩:=y
 obtain ⟨same,r1,r2,f1,f2,nd⟩:=tw
 unfold oGe oLe at e
 split at e
 ·rename_i e1 e2
  cases e1
  cases e2
  cases e
  exact .inl ⟨_,_,r1.int_inv,r2.int_inv,bF k (.bl _)⟩
 ·rename_i s _ s' e1 e2
  cases e1
  cases e2
  cases e
  refine .inr ⟨_,_,r1.str_inv.1,r2.str_inv.1,?_⟩
  rw [v9]
  exact bF k (.bl _)
 ·cases e
theorem uU:Tells oGt:=fun x y m t e=>kS y x m t e
theorem uq:Tells oGe:=fun x y m t e=>u0 y x m t e
theorem DJ (ha:PV G X a ca) (hb:PV G X b cb):PVT G X (.Compare a [.Gt] [b] pos) (e2 oGt ca cb):=gQ (r:=rGt) (Dg.or tP) CS uU ha hb (j9 _)
theorem Dy (ha:PV G X a ca) (hb:PV G X b cb):PVT G X (.Compare a [.GtE] [b] pos) (e2 oGe ca cb):=gQ (r:=rGe) (CM.or sZ) CT uq ha hb (j9 _)
theorem u5 {r r':R2} {f g:Val->Val->Wq} (ok:gm G r f) (ok':gm G r' g) {σ:L2.St} {H:Hp} {Q:VK} (h:tE G (jc f g ca cb cc) σ H Q):wj r r' (tE G ca) (tE G cb) (tE G cc) σ H Q:=by
 obtain ⟨Φ,η,m,t,s,e,k⟩:=h
 unfold jc at e
 obtain ⟨x,ea,e⟩:=Zz.mp e
 obtain ⟨y,eb,e⟩:=Zz.mp e
 obtain ⟨⟨mz,z⟩,ez,e⟩:=Zz.mp e
 refine uL s ea eb fun u w H2 F1 F2 tw=>ok Φ η H H2 x y u w F1 F2 mz z _ tw ez fun v H3 F e1 r1 f1=>?_
 cases z with
 | bl q =>
  refine ⟨q,r1.bl_inv,?_⟩
  cases q with
  | false =>
   cases e
   rw [Zp Zh]
   exact k _ H3 [] (tw.same.trans e1) (.bl false) Fp.nil
  | true =>
   rw [Zr rfl]
   obtain ⟨z2,ec,e⟩:=Zz.mp (show (cc η).bind (fun z=>g y z)=some (m,t) from e)
   have sm:=tw.same.trans e1
   refine ⟨Φ,η,z2.1,z2.2,s.same sm,ec,fun w2 H4 F4 e4 r4 f4=>?_⟩
   refine ok' Φ η H H4 y z2 w w2 F2 F4 m t Q ⟨sm.trans e4,(tw.r2.same e1).same e4,r4,tw.f2,f4.back sm,fun hx hy=>?_⟩ e fun v' H5 F5 e5 r5 f5=>k v' H5 F5 ((sm.trans e4).trans e5) r5 f5
   have f2:=tw.f2
   rw [hx] at f2
   rw [hy] at f4
   refine ZY.mpr ⟨f2.1,f4.1,fun a ha b hb z=>?_⟩
   subst z
   exact Mut.ne_none ((tw.r2.same e1).dom a ha) (f4.2 a hb)
 | _=>cases e
theorem yH {x:Str} {i:Int} (h:∃ t,X.mg x=some (.int i t)) (hg:Gl X x:=by rfl) (hd:(x == ("__debug__" : Str))=false:=by decide):PV G X (.Name x pos) (eC (.int i)):=by
 obtain ⟨t,ht⟩:=h
 exact zh (v:=.int i) hg ht ⟨t,rfl⟩ (fun H=>.int i) hd
end
end VS
end
section
namespace L2
open PySem PySem.Spec PyProof.Rows
end L2
namespace VS
open PySem PySem.Spec PyProof.Rows L2
section
variable {G:Gx} {X:Cx} {a b c e tg:Expr} {es:List Expr} {ca cb cc:Ex} {cs:Exs} {pos p p1 p2 apos cpos:Pos} {k k':Nat}
theorem Ay:PV G X (.Dict [] [] pos) (mG 0 []):=PE.weak vC fun σ H Q hq=>by
 obtain ⟨Φ,η,m,t,s,e,k⟩:=hq
 cases (show some (Md.fr,T.dct 0 [])=some (m,t) from e)
 intro q hq
 have:Rp G (upd H q (.dK [])) (.ref q) (.dct 0 ((([]:List Key).map ba).zip [])) (q :: ([]:Xd).flatten):=.dct aF rfl .nil
 exact k _ _ [q] (dS hq) this ⟨by simp,fun b hb=>by rw [Zb.mp hb];exact hq⟩
end
section
variable {G:Gx} {X:Cx} {a b c e tg:Expr} {es:List Expr} {ca cb cc ce:Ex} {cs:Exs} {pos p p1 p2 apos cpos pos':Pos} {k k':Nat}
theorem sy {body:List Stmt} {cb:Sx} (hp:PassesOwn (model X.prog X.w) X.A X.env X.xe) (hc:PVT G X c cc) (hb:cB G X body cb):PSV G X (.While c body [] pos) (ja cc cb) :=
 PS.weak (uX hp hc hb) fun D σ H hq=>by
  obtain ⟨Φ,η,o,s,e,k⟩:=hq
  refine ⟨fun n σ2 H2=>∃ Φ2 η2,SR G Φ2 η2 σ2 H2/\Frm Φ η H Φ2 η2 H2/\eJ cc cb n η2=some o,⟨sE,Φ,η,s,Frm.refl Φ η H,e⟩,?_⟩
  rintro n σ2 H2 ⟨Φ2,η2,s2,f2,e2⟩
  cases n with
  | zero=>cases (show (none:Option Out)=some o from e2)
  | succ n =>
   rw [eJ] at e2
   obtain ⟨⟨mx,x⟩,ex,e3⟩:=Zz.mp e2
   obtain ⟨t,et,e4⟩:=Zz.mp e3
   refine ⟨Φ2,η2,mx,x,t,s2,ex,et,fun H3 sm=>?_⟩
   have s3:=s2.same sm
   have f3:Frm Φ η H Φ2 η2 H3:=f2.trans (Frm.same sm)
   cases t with
   | false =>
    rw [Zp Zh] at e4
    cases e4
    show if false=true then _ else _
    rw [Zp Zh]
    exact k Φ2 σ2 H3 s3 f3
   | true =>
    rw [Zr rfl] at e4
    show if true=true then _ else _
    rw [Zr rfl]
    obtain ⟨o',e5,e6⟩:=Zz.mp e4
    refine ⟨fun σ4 H4=>∃ Φ4 η4,SR G Φ4 η4 σ4 H4/\Frm Φ η H Φ4 η4 H4/\eJ cc cb n η4=some o,fun σ4 H4 q=>⟨n,Yl n,q⟩,Φ2,η2,o',s3,e5,?_⟩
    cases o' with
    | nx η4=>exact fun Φ4 σ4 H4 s5 fb=>⟨Φ4,η4,s5,f3.trans fb,e6⟩
    | ct η4=>exact fun Φ4 σ4 H4 s5 fb=>⟨Φ4,η4,s5,f3.trans fb,e6⟩
    | bk η4 =>
     cases (show some (Out.nx η4)=some o from e6)
     exact fun Φ4 σ4 H4 s5 fb=>k Φ4 σ4 H4 s5 (f3.trans fb)
    | rt v η4 =>
     cases (show some (Out.rt v η4)=some o from e6)
     exact fun u H4 F4 Φ4 σ4 s5 fb r5 q5=>k u H4 F4 Φ4 σ4 s5 (f3.trans fb) r5 (q5.back f3)
noncomputable def sNo:Sx:=fun _=>none
theorem B1 {st:Stmt}:PSV G X st sNo:=fun pins s σ H D I ⟨_,_,_,_,e,_⟩=>nomatch (show (none:Option Out)=some _ from e)
theorem eT {H:Hp} {v:V} {l:List (T×T)} {F:Wy} (r:Rp G H v (.dct 0 l) F):∃ (a:Addr) (ks:List Key) (vs:List V) (ts:Wp) (Fs:Xd),v=.ref a/\F=a :: Fs.flatten/\H a=some (.dK (ks.zip vs))/\ks.length=vs.length/\l=(ks.map ba).zip ts/\RpL G H vs ts Fs:=by
 cases r with
 | dct h hl q=>exact ⟨_,_,_,_,_,rfl,rfl,h,hl,rfl,q⟩
theorem dN {H:Hp} {v:V} {t:T} {F:Wy} (r:Rp G H v t F) (h:iM t=true):∃ k:Key,v=kV k/\t=ba k:=by
 cases t with
 | int i=>exact ⟨.inl i,r.int_inv,rfl⟩
 | str s=>exact ⟨.inr (sx s),r.str_inv.1,by simp [ba,sx]⟩
 | _=>cases h
theorem jI {H:Hp} {k:Key}:∀ {ks:List Key} {vs:List V} {ts:Wp} {Fs:Xd},ks.length=vs.length->RpL G H vs ts Fs →
  (eX ((ks.map ba).zip ts) (ba k)=none/\gn (ks.zip vs) k=none)\/∃ (i:Nat) (v:V) (t:T) (F:Wy),eX ((ks.map ba).zip ts) (ba k)=some t/\gn (ks.zip vs) k=some v/\vs[i]?=some v/\Fs[i]?=some F/\Rp G H v t F
 | [],[],_,_,_,.nil=>.inl ⟨rfl,rfl⟩
 | k' :: ks,v :: vs,_,_,hl,.cons (t:=t) (F:=F) (ts:=ts) (Fs:=Fs) r q=>by
  have e:eqT (ba k') (ba k)=decide (k'=k):=by
   rw [XW,decide_eq_true_eq]
   cases k with
   | inl i=>cases k' <;> simp [ba]
   | inr x =>
    obtain ⟨⟨x⟩⟩:=x
    cases k' with
    | inl j=>simp [ba]
    | inr y=>obtain ⟨⟨y⟩⟩:=y;simp [ba]
  by_cases hk:k'=k
  ·refine .inr ⟨0,v,t,F,?_,ib hk,rfl,rfl,r⟩
   have e':eqT (ba k') (ba k)=true:=by rw [e];exact decide_eq_true hk
   simp only [eX,Zm,Zd,Z3,e']
   rfl
  ·have h1:eX (((k' :: ks).map ba).zip (t :: ts)) (ba k)=eX ((ks.map ba).zip ts) (ba k):=by
    have e':eqT (ba k') (ba k)=false:=by rw [e];exact decide_eq_false hk
    simp only [eX,Zm,Zd,Z3,e']
   have h2:gn ((k' :: ks).zip (v :: vs)) k=gn (ks.zip vs) k:=by simp [gn,hk]
   rw [h1,h2]
   rcases jI (k:=k) (by simpa using hl) q with h | ⟨i,v',t',F',a1,a2,a3,a4,a5⟩
   ·exact .inl h
   ·exact .inr ⟨i+1,v',t',F',a1,a2,by simpa using a3,by simpa using a4,a5⟩
theorem nN (hu:X.A.units+1 < cLine):IxR X (fun x y H Q=>∃ a v,x=.ref a/\gy H a y (some v)/\Q v H):=by
 intro value slice pins s σ H x y v u Q I rx ry h hs
 obtain ⟨a,w,rfl,g,q⟩:=h
 cases rx
 have hT:=pk I g
 unfold subscriptTail
 refine Zq ?_
 rw [getitemInPython_of_ne hT.not_modules]
 refine Zq (wpAny_specialOf hT PySem.F.slot_dict_getitem.lookup ?_)
 have fin:wpAny (model X.prog X.w) X.A (subscripted slice false (.ref a) u) (fun r s₃=>wpAny (model X.prog X.w) X.A (letTemporaryGo value (.ref a) r >>= fun _=>pure r) (EP X pins σ Q) X.xe s₃) X.xe s:=by
  rw [hs]
  exact wpAny_operating (tF hu I g ry fun w' s3 I3 rw'=>Zq (wpAny_letTemporaryGo (Zc ⟨w,H,I3,rw',q⟩)))
 first
  | exact Zc (Zq fin)
  | exact Zq (Zc (Zq fin))
  | exact Zq fin
noncomputable def Dh (K:X4):R2:=fun x y H Q=>rIx K x y H Q\/∃ a v,x=.ref a/\gy H a y (some v)/\Q v H
theorem Do:gm G (Dh G.K) oIx:=by
 intro Φ η H0 H x y u w F1 F2 m t Q tw e k
 obtain ⟨m1,x⟩:=x
 by_cases hd:∃ l,x=.dct 0 l
 ·obtain ⟨l,rfl⟩:=hd
  simp only [oIx] at e
  split at e
  ·rename_i hk
   obtain ⟨t',e1,e2⟩:=Zy.mp e
   obtain ⟨a,ks,vs,ts,Fs,rfl,rfl,ha,hl,rfl,q⟩:=eT tw.r1
   obtain ⟨kk,rfl,ek⟩:=dN tw.r2 hk
   rw [ek] at e1
   rcases jI (k:=kk) hl q with ⟨h1,_⟩ | ⟨i,v,t2,F,a1,a2,a3,a4,a5⟩
   ·rw [h1] at e1;cases e1
   ·rw [a1] at e1
    cases e1
    cases e2
    refine .inr ⟨a,v,rfl,by rw [← a2];exact gy.k ha,?_⟩
    have f:=((tw.f1.sub (Z1 _ _)).sub (cR a4)).up a5
    exact k v H F (aJ.refl _) a5 f
  ·cases e
 ·have e':aN (m1,x) y=some (m,t):=by
   simp only [oIx] at e
   split at e
   ·rename_i l hx
    exact absurd ⟨_,rfl⟩ hd
   ·exact e
  exact .inl (uy Φ η H0 H (m1,x) y u w F1 F2 m t Q tw e' k)
theorem Eg (hr:Room k X.A) (ha:PV G X a ca) (hb:PV G X b cb) (hs:eP b:=by intro _ _;rfl) (hK:X.K=G.K:=by rfl):PV G X (.Subscript a b pos) (e2 oIx ca cb) :=
 PE.weak (rO (IxR.or nP (nN (jJ hr))) ha hb hs) fun σ H Q h=>by rw [hK];exact jT Do h
noncomputable def fV:T->V
 | .bl b=>.bl b
 | .int i=>.int i
 | .str s=>.str (sx s)
 | _=>.non
theorem zG {H:Hp} {v:V} {t:T} {F:Wy} (r:Rp G H v t F) (h:flat t=true):v=fV t/\fB v=true:=by
 cases r with
 | non=>exact ⟨rfl,rfl⟩
 | bl b=>exact ⟨rfl,rfl⟩
 | int i=>exact ⟨rfl,rfl⟩
 | str s hl=>exact ⟨rfl,rfl⟩
 | _=>cases h
theorem Dz:∀ {t u:T},flat t=true->flat u=true->eqV (fV t) (fV u)=eqT t u
 | .non,.non,_,_=>rfl
 | .non,.bl _,_,_=>rfl
 | .non,.int _,_,_=>rfl
 | .non,.str _,_,_=>rfl
 | .bl _,.non,_,_=>rfl
 | .bl _,.bl _,_,_=>rfl
 | .bl _,.int _,_,_=>rfl
 | .bl _,.str _,_,_=>rfl
 | .int _,.non,_,_=>rfl
 | .int _,.bl _,_,_=>rfl
 | .int _,.int _,_,_=>rfl
 | .int _,.str _,_,_=>rfl
 | .str _,.non,_,_=>rfl
 | .str _,.bl _,_,_=>rfl
 | .str _,.int _,_,_=>rfl
 | .str _,.str _,_,_=>wF
theorem uY {H:Hp} {v w:V} {t u:T} {F F':Wy} (r:Rp G H v t F) (r':Rp G H w u F') (h1:flat t=true) (h2:flat u=true):eqV v w=eqT t u/\fB v=true/\fB w=true:=by
 obtain ⟨e1,f1⟩:=zG r h1
 obtain ⟨e2,f2⟩:=zG r' h2
 refine ⟨?_,f1,f2⟩
 rw [e1,e2]
 exact Dz h1 h2
theorem om {H:Hp} {x:V} {t:T} {F:Wy} (r:Rp G H x t F) (hx:flat t=true):∀ {vs:List V} {ts:Wp} {Fs:Xd},RpL G H vs ts Fs->ts.all flat=true->vs.all fB=true/\inV x vs=ts.any fun y=>eqT y t
 | _,_,_,.nil,_=>⟨rfl,rfl⟩
 | _,_,_,.cons r' q,h=>by
  rw [Xi,Zf] at h
  obtain ⟨h1,h2⟩:=om r hx q h.2
  obtain ⟨e1,e2,e3⟩:=uY r' r h.1 hx
  refine ⟨by rw [Xi,e2,h1];rfl,?_⟩
  unfold inV at h2 ⊢
  rw [Yg,Yg,h2,e1]
noncomputable def CC (K:X4):R2:=fun x y H Q=>rIn K false x y H Q\/∃ a o,y=.ref a/\gy H a x o/\Q (.bl o.isSome) H
noncomputable def rX (K:X4):R2:=fun x y H Q=>rIn K true x y H Q\/∃ a o,y=.ref a/\gy H a x o/\Q (.bl (!o.isSome)) H
theorem xN (hu:X.A.units+1 < cLine):OpR X (compareOp .In) (fun x y H Q=>∃ a o,y=.ref a/\gy H a x o/\Q (.bl o.isSome) H):=by
 intro pins s σ H x y v u Q I rx ry h
 obtain ⟨a,o,rfl,g,q⟩:=h
 cases ry
 exact Eu hu I g rx fun s3 I3=>⟨.bl o.isSome,H,I3,rfl,q⟩
theorem uN (hu:X.A.units+1 < cLine):OpR X (compareOp .NotIn) (fun x y H Q=>∃ a o,y=.ref a/\gy H a x o/\Q (.bl (!o.isSome)) H):=by
 intro pins s σ H x y v u Q I rx ry h
 obtain ⟨a,o,rfl,g,q⟩:=h
 cases ry
 exact xF hu I g rx fun s3 I3=>⟨.bl (!o.isSome),H,I3,rfl,q⟩
theorem pG {Φ:Fps} {η:VS.Env} {H0 H:Hp} {x y:Val} {u w:V} {F1 F2:Wy} {m:Md} {t:T} (tw:Two G Φ η H0 H x y u w F1 F2) (e:kx x y=some (m,t)) :
  ∃ b,m=.fr/\t=.bl b/\((∃ p xs,w=.ref p/\(SqL G.K H p xs\/SqT G.K H p xs)/\fB u=true/\xs.all fB=true/\inV u xs=b)\/∃ a o,w=.ref a/\gy H a u o/\o.isSome=b):=by
 obtain ⟨m2,y⟩:=y
 simp only [kx] at e
 split at e
 ·split at e
  ·rename_i hk
   cases e
   obtain ⟨a,ks,vs,ts,Fs,rfl,rfl,ha,hl,rfl,q⟩:=eT tw.r2
   obtain ⟨kk,rfl,ek⟩:=dN tw.r1 hk
   refine ⟨_,rfl,rfl,.inr ⟨a,gn (ks.zip vs) kk,rfl,gy.k ha,?_⟩⟩
   rw [ek]
   rcases jI (k:=kk) hl q with ⟨h1,h2⟩ | ⟨i,v,t2,F,a1,a2,_⟩
   ·rw [h1,h2];rfl
   ·rw [a1,a2];rfl
  ·cases e
 ·split at e
  ·rename_i hk
   cases e
   rw [Zf] at hk
   obtain ⟨a,vs,Fs,rfl,rfl,ha,ra⟩:=tw.r2.lst_inv
   obtain ⟨h1,h2⟩:=om tw.r1 hk.1 ra hk.2
   have hf:fB u=true:=(uY tw.r1 tw.r1 hk.1 hk.1).2.1
   exact ⟨_,rfl,rfl,.inl ⟨a,vs,rfl,.inl (SqL.of ha),hf,h1,h2⟩⟩
  ·cases e
 ·split at e
  ·rename_i hk
   cases e
   rw [Zf] at hk
   obtain ⟨a,vs,Fs,rfl,rfl,ha,ra⟩:=tw.r2.tup_inv
   obtain ⟨h1,h2⟩:=om tw.r1 hk.1 ra hk.2
   have hf:fB u=true:=(uY tw.r1 tw.r1 hk.1 hk.1).2.1
   exact ⟨_,rfl,rfl,.inl ⟨a,vs,rfl,.inr (SqT.of ha),hf,h1,h2⟩⟩
  ·cases e
 ·cases e
theorem CV:gm G (CC G.K) kx:=by
 intro Φ η H0 H x y u w F1 F2 m t Q tw e k
 obtain ⟨b,rfl,rfl,h⟩:=pG tw e
 rcases h with ⟨p,xs,rfl,hq,f1,f2,hb⟩ | ⟨a,o,rfl,g,hb⟩
 ·refine .inl ⟨p,xs,rfl,hq,f1,f2,?_⟩
  rw [hb]
  exact bF k (.bl b)
 ·refine .inr ⟨a,o,rfl,g,?_⟩
  rw [hb]
  exact bF k (.bl b)
theorem Bf:gm G (rX G.K) dn:=by
 intro Φ η H0 H x y u w F1 F2 m t Q tw e k
 unfold dn at e
 split at e
 ·rename_i m' b' e'
  cases e
  obtain ⟨b,rfl,hb',h⟩:=pG tw e'
  cases hb'
  rcases h with ⟨p,xs,rfl,hq,f1,f2,hb⟩ | ⟨a,o,rfl,g,hb⟩
  ·refine .inl ⟨p,xs,rfl,hq,f1,f2,?_⟩
   rw [hb]
   exact bF k (.bl (!b'))
  ·refine .inr ⟨a,o,rfl,g,?_⟩
   rw [hb]
   exact bF k (.bl (!b'))
 ·cases e
theorem t7:Tells kx:=by
 intro x y m t e
 simp only [kx] at e
 split at e
 all_goals first | (split at e <;> first | (cases e;exact ⟨_,rfl⟩) | cases e) | cases e
theorem tK:Tells dn:=by
 intro x y m t e
 unfold dn at e
 split at e
 ·cases e;exact ⟨_,rfl⟩
 ·cases e
theorem Di (hr:Room k X.A) (ha:PV G X a ca) (hb:PV G X b cb) (hm:behindInMarks .In b=false:=by with_unfolding_all rfl) (hK:X.K=G.K:=by rfl):PVT G X (.Compare a [.In] [b] pos) (e2 kx ca cb):=gQ (r:=CC X.K) (tf.or (xN (jJ hr))) (hK ▸ CV) t7 ha hb hm
theorem Aj (hr:Room k X.A) (ha:PV G X a ca) (hb:PV G X b cb) (hm:behindInMarks .NotIn b=false:=by with_unfolding_all rfl) (hK:X.K=G.K:=by rfl):PVT G X (.Compare a [.NotIn] [b] pos) (e2 dn ca cb):=gQ (r:=rX X.K) (nY.or (uN (jJ hr))) (hK ▸ Bf) tK ha hb hm
end
end VS
end
section
open PySem PyProof.Rows
namespace TS
variable {prog:Program} {w:World} {A:Around} {E:Z2} {s:Shared}
variable {κ:SortKind} {G:Keyed->Prop} {r:Keyed->Keyed->Bool}
end TS
end
section
open PySem PyProof.Rows
namespace TS
variable {prog:Program} {w:World} {A:Around} {E:Z2} {s:Shared} {κ:SortKind} {G:Keyed->Prop} {r:Keyed->Keyed->Bool}
end TS
end
section
open PySem PyProof.Rows
namespace TS
variable {prog:Program} {w:World} {A:Around} {E:Z2} {s:Shared} {κ:SortKind} {G:Keyed->Prop} {r:Keyed->Keyed->Bool}
end TS
end
section
open PySem PyProof.Rows
namespace TS
variable {prog:Program} {w:World} {A:Around} {E:Z2} {s:Shared} {κ:SortKind} {G:Keyed->Prop} {r:Keyed->Keyed->Bool}
end TS
end
section
open PySem PyProof.Rows
namespace TS
variable {prog:Program} {w:World} {A:Around} {E:Z2} {s:Shared} {κ:SortKind} {G:Keyed->Prop} {r:Keyed->Keyed->Bool}
end TS
end
section
open PySem PyProof.Rows
namespace TS
variable {prog:Program} {w:World} {A:Around} {E:Z2} {s:Shared} {κ:SortKind} {G:Keyed->Prop} {r:Keyed->Keyed->Bool}
end TS
end
section
open PySem PyProof.Rows
namespace TS
variable {prog:Program} {w:World} {A:Around} {E:Z2} {s:Shared} {κ:SortKind} {G:Keyed->Prop} {r:Keyed->Keyed->Bool}
end TS
end
section
open PySem PyProof.Rows
namespace TS
variable {prog:Program} {w:World} {A:Around} {E:Z2} {s:Shared} {κ:SortKind} {G:Keyed->Prop} {r:Keyed->Keyed->Bool}
end TS
end
section
open PySem PyProof.Rows
namespace TS
variable {prog:Program} {w:World} {A:Around} {E:Z2} {s:Shared} {κ:SortKind} {G:Keyed->Prop} {r:Keyed->Keyed->Bool}
end TS
end
section
open PySem PyProof.Rows
namespace TS
variable {prog:Program} {w:World} {A:Around} {E:Z2} {s:Shared} {G:Keyed->Prop} {r:Keyed->Keyed->Bool}
theorem nh {vs:Wx} {xs:Array Keyed} (hp:xs.Perm (pairsOf vs)):(xs.map (·.2)).toList.Perm vs/\(xs.map (·.2)).toList.map (fun v=>(v,v))=xs.toList:=by
 have hp':=Array.perm_iff_toList_perm.mp hp
 rw [pairsOf_toList] at hp'
 constructor
 ·rw [Array.toList_map]
  refine (hp'.map _).trans ?_
  rw [show (fun x:Keyed=>x.2)=Prod.snd from rfl,List.map_snd_zip (Zk _)]
 ·rw [Array.toList_map,Z7]
  conv=>rhs;rw [← XR xs.toList]
  apply YH
  intro p hpm
  have:=mem_zip_self (hp'.mem_iff.mp hpm)
  exact Prod.ext this.1.symm rfl
end TS
end
section
namespace L2
open PySem PySem.Spec PyProof.Rows TS
section
variable {X:Cx}
theorem oQ:∀ {us:Wx},(∀ v∈us,∃ x t,v=Value.str x t)->aV ((us.map strOf).map V.str) us
 | [],_=>.nil
 | u :: us,h=>by
  obtain ⟨x,t,rfl⟩:=h u (Zt ..)
  exact .cons ⟨t,rfl⟩ (oQ fun v hv=>h v (Zx _ hv))
end
end L2
end
section
namespace VS
mutual
theorem lV:∀ (n:Nat) (t:T),eqD n t=true->eqT t t=true
 | n,.non,_=>by simp
 | n,.bl _,_=>by simp
 | n,.int _,_=>by simp
 | n,.str _,_=>by simp
 | n+1,.tup l,h=>by
  simp only [eqD,Yv] at h
  simp only [eqT]
  exact jR n l h
 | n+1,.lst l,h=>by
  simp only [eqD,Yv] at h
  simp only [eqT]
  exact jR n l h
 | 0,.tup _,h=>by simp at h
 | 0,.lst _,h=>by simp at h
 | _,.scr _,h=>by simp at h
 | _,.dct _ _,h=>by simp at h
 | _,.obj _ _,h=>by simp at h
theorem jR:∀ (n:Nat) (l:Wp),(∀ t∈l,eqD n t=true)->qg l l=true
 | _,[],_=>rfl
 | n,t :: r,h=>by
  simp only [qg,Zf]
  exact ⟨lV n t (h t Zt),jR n r fun u hu=>h u (Zx _ hu)⟩
end
theorem nV {α:Type} (l:List α) (k:Nat):cut l none (some (k:Int))=l.take k:=by
 have h:¬ ((k:Int) < 0):=by lia
 by_cases h2:k<=l.length
 ·simp [cut,clip,h,Xz h2]
 ·rw [YD (by lia)]
  simp [cut,clip,h,X6 (Y5 h2)]
theorem iI {tg:Tg} {it:Its} {body:Sx} {η:Env} {m:Md} {l:Wp} (e:it η=some (m,l)) (h:okF m=true):j4 tg it body η=forL tg body l η:=by
 unfold j4
 rw [e]
 exact Zr h
theorem de {g:Fn} {as:Exs} {η:Env} {xs:Wr} {t:T} (h:as η=some xs) (h2:g (trees xs)=some (.fr,t)):bg g as η=some (.fr,t):=by
 simp only [bg,h,Zw,h2]
theorem aQ {i:Nat} {e:Ex} {η:Env} {m:Md} {t:T} (h:e η=some (m,t)) (hm:m ≠ .bo) (hi:i < η.length):aM i e η=some (.nx (η.set i (some (.pu t)))):=by
 simp only [aM,h,Zw]
 cases m with
 | bo=>exact absurd rfl hm
 | _=>simp [hi]
theorem kK {i:Nat} {e:Ex} {η:Env} {t:T} (h:e η=some (.fr,t)) (hm:q9 t=true) (hi:i < η.length):gZ i e η=some (.nx (η.set i (some (.ow t)))):=by
 simp only [gZ,h,Zw,cellOf,hm,if_true,Zr hi]
end VS
end
section
namespace VS
open PySem PySem.Spec PyProof.Rows L2
theorem CW {a b c:Tx} (h:a < b) (h':¬ c < b):a < c:=by
 by_cases e:a < c
 ·exact e
 ·exact absurd (List.lt_of_le_of_lt (List.not_lt.mp e) h) h'
theorem je (x:Tx):∀ l:List Tx,(kY x l).Perm (x :: l)
 | []=>List.Perm.refl _
 | y :: r=>by
  unfold kY
  split
  ·exact ((je x r).cons y).trans (List.Perm.swap _ _ _)
  ·exact List.Perm.refl _
theorem hJ:∀ l:List Tx,(eO l).Perm l
 | []=>List.Perm.refl _
 | x :: l=>(je x _).trans ((hJ l).cons x)
theorem pQ (x:Tx):∀ {l:List Tx},l.Pairwise (fun a b=>¬ b < a)->(kY x l).Pairwise (fun a b=>¬ b < a)
 | [],_=>by simp [kY]
 | y :: r,h=>by
  unfold kY
  rw [lu]
  obtain ⟨h1,h2⟩:=XE.mp h
  split
  ·rename_i c
   have c':y < x:=by simpa using c
   refine XE.mpr ⟨fun z hz=>?_,pQ x h2⟩
   rcases Zi.mp ((je x r).mem_iff.mp hz) with rfl | hz
   ·exact fun z=>List.lt_irrefl _ (List.lt_trans c' z)
   ·exact h1 z hz
  ·rename_i c
   have c':¬ y < x:=by simpa using c
   refine XE.mpr ⟨fun z hz=>?_,h⟩
   rcases Zi.mp hz with rfl | hz
   ·exact c'
   ·exact fun w=>h1 z hz (CW w c')
theorem nF:∀ l:List Tx,(eO l).Pairwise (fun a b=>¬ b < a)
 | []=>List.Pairwise.nil
 | x :: l=>pQ x (nF l)
theorem mS {l l':List Tx} (h:l'.Perm l) (hp:l'.Pairwise (fun a b=>¬ b < a)):l'=eO l :=
 List.Perm.eq_of_pairwise (le:=fun a b=>¬ b < a) (fun a b _ _ h1 h2=>List.le_antisymm (List.not_lt.mp h1) (List.not_lt.mp h2)) hp (nF l) (h.trans (hJ l).symm)
theorem uC (s:Tx):(sx s).cps.toList=s:=rfl
theorem uR {ss:List Tx} {ss':List Str} (h:ss'.Perm (ss.map sx)) (hp:ss'.Pairwise (fun a b=>¬ b.cps.toList < a.cps.toList)):ss'=(eO ss).map sx:=by
 have e:ss'=(ss'.map fun x=>x.cps.toList).map sx:=by
  rw [Z7]
  conv=>lhs;rw [← XR ss']
  apply YH
  intro x hx
  obtain ⟨s,_,rfl⟩:=Yr.mp (h.mem_iff.mp hx)
  show sx s=sx (sx s).cps.toList
  rw [uC]
 have e2:(ss'.map fun x=>x.cps.toList)=eO ss:=by
  refine mS ?_ ?_
  ·have:=h.map fun x:Str=>x.cps.toList
   rw [Z7] at this
   have e3:((fun x:Str=>x.cps.toList) ∘ sx)=id:=by
    funext s
    exact uC s
   rw [e3,XR] at this
   exact this
  ·rw [X0];exact hp
 rw [e,e2]
noncomputable def txB (s:Tx):Bool:=decide (s.length<=fu) && s.all (fun c=>decide (c < 1114112))
theorem BI {s:Tx} (h:txB s=true):mw s:=by
 unfold txB at h
 simp at h
 exact h
section
variable {G:Gx} {X:Cx} {e:Expr} {cs:Exs} {p pos:Pos}
theorem qo {H:Hp}:∀ {ss:List Tx},(∀ s∈ss,mw s)->RpL G H (ss.map fun s=>V.str (sx s)) (ss.map T.str) (ss.map fun _=>[])
 | [],_=>.nil
 | s :: ss,h=>.cons (.str s (h s (Zt ..))) (qo fun x hx=>h x (Zx _ hx))
theorem oC {α β:Type}:∀ (l:List α),(l.map fun _=>([]:List β)).flatten=[]
 | []=>rfl
 | _ :: l=>by simp
theorem vY {Φ:Fps} {η:VS.Env} {H0 H:Hp} {ss:List Tx} {Q:VK} (k:∀ v H' F,aJ H H'->Rp G H' v (.lst ((eO ss).map T.str)) F->Fp Φ η H0 .fr F->Q v H') (s0:aJ H0 H) (tk:∀ s∈ss,mw s) :
  ∀ (l:Addr) (ss':List Str),H l=none->ss'.Perm (ss.map sx)->ss'.Pairwise (fun a b=>¬ b.cps.toList < a.cps.toList)->Q (.ref l) (upd H l (.lst (ss'.map V.str))):=fun q ss' hq hp hw=>by
 rw [uR hp hw]
 have sm:aJ H (upd H q (.lst (((eO ss).map sx).map V.str))):=dS hq
 have r0:=qo (G:=G) (H:=upd H q (.lst (((eO ss).map sx).map V.str))) fun s hs=>tk s ((hJ ss).mem_iff.mp hs)
 have r:Rp G (upd H q (.lst (((eO ss).map sx).map V.str))) (.ref q) (.lst ((eO ss).map T.str)) (q :: ((eO ss).map fun _=>[]).flatten):=.lst (by rw [aF,Z7];rfl) r0
 rw [oC] at r
 exact k _ _ _ sm r (Fp.new (s0.free hq) (by simp) Fp.nil)
theorem keys_str:∀ {ks:List Key} {ss:List Tx},strs? (ks.map ba)=some ss->ks=(ss.map sx).map Sum.inr
 | [],_,e=>by cases e;rfl
 | .inl i :: ks,_,e=>by cases e
 | .inr x :: ks,ss,e=>by
  simp only [Zm,ba,strs?] at e
  obtain ⟨ss',e1,e2⟩:=Zy.mp e
  subst e2
  rw [keys_str e1]
  simp [sx]
theorem sV:bootBuiltins ("sorted" : Str)=some (.builtin "sorted"):=by decide +kernel
end
end VS
end
section
namespace VS
open PySem PySem.Builtin.Str PySem.StrLaws
end VS
end
section
namespace VS
open PySem PySem.Spec PyProof.Rows L2
end VS
end
section
namespace ST
open PySem PySem.Spec PyProof.Rows
variable {prog:Program} {w:World} {A:Around} {E:Z2} {s:Shared}
end ST
end
section
namespace ST
open PySem PySem.Spec PyProof.Rows
variable {prog:Program} {w:World} {A:Around} {E:Z2} {s:Shared}
theorem DL {Q:PySem.Fin->Shared->Prop} {E':Z2} (hh:A.handled=none) (h:∀ (h':Heap) (x:Addr),(∀ b o,s.heap.get? b=some o->h'.get? b=some o)->(∃ o,h'.get? x=some o/\o.cls=.type "StopIteration")->E' (.ref x) { s with heap:=h' }) :
  wpAny (model prog w) A (newExc (.type "StopIteration") [] >>= fun e=>raiseNew e) Q E' s:=by
 simp only [newExc,newTuple]
 refine Zq (Zq (Xa (Zq (m:=firstArgMember _ _) (wpAny_of_eq (a:=Value.none) (by first | rfl | (simp only [firstArgMember];rfl)) (Xa ?_ (by size_fits)))) (by size_fits)))
 simp only [raiseNew]
 refine Zq (wpAny_handled ?_)
 rw [hh]
 exact Zq (Zc (wpAny_throw (h _ _ (fun b o e=>Zl _ (Zl _ e)) ⟨_,ZV _ rfl,rfl⟩)))
end ST
end
section
namespace ST
open PySem PySem.Spec PyProof.Rows
variable {prog:Program} {w:World} {A:Around} {E:Z2} {s:Shared}
end ST
end
section
namespace L2
open PySem PySem.Spec PyProof.Rows TS
end L2
namespace VS
open PySem PySem.Spec PyProof.Rows L2
inductive Pth (G:Gx) (H:Hp):List Ky->V->V->Prop
 | nil (v:V):Pth G H [] v v
 | fld {c k:Nat} {a dx:Addr} {fs:List (Str×V)} {u w:V} {ks:List Ky}:H a=some (.ins (G.ct (c+1)).1 dx fs)->fs.lookup ((G.ct (c+1)).2 k)=some u->Pth G H ks u w->Pth G H (.fld k :: ks) (.ref a) w
 | ix {a:Addr} {vs:List V} {i:Int} {j:Nat} {u w:V} {ks:List Ky}:H a=some (.lst vs)->ixP vs.length i=some j->vs[j]?=some u->Pth G H ks u w->Pth G H (.at (.int i) :: ks) (.ref a) w
 | key {a:Addr} {kvs:List (Key×V)} {k:Key} {u w:V} {ks:List Ky}:H a=some (.dK kvs)->gn kvs k=some u->Pth G H ks u w->Pth G H (.at (ba k) :: ks) (.ref a) w
 | un {v w:V} {ks:List Ky}:Pth G H ks v w->Pth G H (.un :: ks) v w
section
variable {G:Gx}
theorem oa {Fs:Xd} {i j:Nat} {F F':Wy} (nd:Fs.flatten.Nodup) (hi:Fs[i]?=some F) (hj:Fs[j]?=some F') (n:i ≠ j) {a:Addr} (ha:a∈F):a ∉ F':=by
 intro hb
 induction Fs generalizing i j with
 | nil=>simp at hi
 | cons G Gs ih =>
  rw [ZL,ZY] at nd
  cases i with
  | zero =>
   simp at hi;subst hi
   cases j with
   | zero=>exact n rfl
   | succ j=>exact nd.2.2 a ha a (dw (by simpa using hj) hb) rfl
  | succ i =>
   cases j with
   | zero =>
    simp at hj;subst hj
    exact nd.2.2 a hb a (dw (by simpa using hi) ha) rfl
   | succ j=>exact ih nd.2.1 (by simpa using hi) (by simpa using hj) (by lia)
theorem cM {Fs:Xd} {j:Nat} {F':Wy} {a:Addr} (h:a∈(Fs.set j F').flatten):a∈F'\/∃ i F,i ≠ j/\Fs[i]?=some F/\a∈F:=by
 obtain ⟨i,F,h1,h2⟩:=fP h
 by_cases e:i=j
 ·subst e
  rw [List.getElem?_set_self' ] at h1
  cases q:Fs[i]? with
  | none=>rw [q] at h1;cases h1
  | some _=>rw [q] at h1;cases h1;exact .inl h2
 ·rw [Yz (Yd e)] at h1
  exact .inr ⟨i,F,e,h1,h2⟩
theorem dP:∀ {Fs:Xd} {j:Nat} {F':Wy},Fs.flatten.Nodup->F'.Nodup->(∀ i F,i ≠ j->Fs[i]?=some F->∀ a∈F,a ∉ F')->(Fs.set j F').flatten.Nodup
 | [],_,_,h,_,_=>by simpa using h
 | G :: Gs,0,F',h,h',d=>by
  rw [ZL,ZY] at h
  rw [List.set_cons_zero,ZL,ZY]
  refine ⟨h',h.2.1,fun a ha b hb e=>?_⟩
  subst e
  obtain ⟨i,F,h1,h2⟩:=fP hb
  exact d (i+1) F (by lia) (by simpa using h1) a h2 ha
 | G :: Gs,j+1,F',h,h',d=>by
  rw [ZL,ZY] at h
  rw [List.set_cons_succ,ZL,ZY]
  refine ⟨h.1,dP h.2.1 h' fun i F n hi=>d (i+1) F (by lia) (by simpa using hi),fun a ha b hb e=>?_⟩
  subst e
  rcases cM hb with z | ⟨i,F,n,h1,h2⟩
  ·exact d 0 G (by lia) rfl a ha z
  ·exact h.2.2 a ha a (dw h1 h2) rfl
theorem RpL.each {H H2:Hp}:∀ {vs:List V} {ts:Wp} {Fs:Xd},RpL G H vs ts Fs->(∀ (i:Nat) v t F,vs[i]?=some v->ts[i]?=some t->Fs[i]?=some F->Rp G H v t F->Rp G H2 v t F)->RpL G H2 vs ts Fs
 | _,_,_,.nil,_=>.nil
 | _,_,_,.cons r q,k=>.cons (k 0 _ _ _ rfl rfl rfl r) (RpL.each q fun i v t F a b c d=>k (i+1) v t F (by simpa using a) (by simpa using b) (by simpa using c) d)
theorem RpL.setAt {H H2:Hp}:∀ {vs:List V} {ts:Wp} {Fs:Xd} {j:Nat} {u:V} {x':T} {F':Wy},RpL G H vs ts Fs->vs[j]?=some u->Rp G H2 u x' F'->(∀ (i:Nat) v t F,i ≠ j->vs[i]?=some v->ts[i]?=some t->Fs[i]?=some F->Rp G H v t F->Rp G H2 v t F)->RpL G H2 vs (ts.set j x') (Fs.set j F')
 | _,_,_,_,_,_,_,.nil,h,_,_=>by simp at h
 | _,_,_,0,_,_,_,.cons r q,h,r',k=>by
  simp at h;subst h
  exact .cons r' (RpL.each q fun i v t F a b c d=>k (i+1) v t F (by lia) (by simpa using a) (by simpa using b) (by simpa using c) d)
 | _,_,_,j+1,_,_,_,.cons r q,h,r',k=>.cons (k 0 _ _ _ (by lia) rfl rfl rfl r) (RpL.setAt q (by simpa using h) r' fun i v t F n a b c d=>k (i+1) v t F (by lia) (by simpa using a) (by simpa using b) (by simpa using c) d)
theorem nX {H H2:Hp} {a:Addr} {o:HO} {vs:List V} {ts:Wp} {Fs:Xd} {j:Nat} {u:V} {x':T} {Fj Fj':Wy} (ha:H a=some o) (ra:RpL G H vs ts Fs) (nd:(a :: Fs.flatten).Nodup) (hu:vs[j]?=some u) (hF:Fs[j]?=some Fj)
  (g:Chg G H u Fj x' H2 Fj'):H2 a=some o/\RpL G H2 vs (ts.set j x') (Fs.set j Fj')/\(a :: (Fs.set j Fj').flatten).Nodup/\(∀ b∈a :: (Fs.set j Fj').flatten,b∈a :: Fs.flatten\/H b=none)/\∀ b o,b ∉ a :: Fs.flatten->H b=some o->H2 b=some o:=by
 rw [Ze] at nd
 have subF:∀ b∈Fj,b∈Fs.flatten:=fun b hb=>dw hF hb
 have dis:∀ i F,i ≠ j->Fs[i]?=some F->∀ b∈F,b ∉ Fj':=fun i F n hi b hb hb'=>by
  rcases g.sub b hb' with z | z
  ·exact oa nd.2 hi hF n hb z
  ·exact Mut.ne_none (ra.dom b (dw hi hb)) z
 refine ⟨g.keep a o (fun z=>nd.1 (subF a z)) ha,ra.setAt hu g.rp (fun i v t F n h1 h2 h3 r=>r.keep g.kept fun b hb o' ho=>g.keep b o' (oa nd.2 h3 hF n hb) ho),?_,fun b hb=>?_,fun b o' hb ho=>g.keep b o' (fun z=>hb (Zx _ (subF b z))) ho⟩
 ·rw [Ze]
  refine ⟨fun h=>?_,dP nd.2 g.nd dis⟩
  rcases cM h with z | ⟨i,F,n,h1,h2⟩
  ·rcases g.sub a z with z | z
   ·exact nd.1 (subF a z)
   ·rw [ha] at z;cases z
  ·exact nd.1 (dw h1 h2)
 ·rcases Zi.mp hb with rfl | hb
  ·exact .inl Zt
  ·rcases cM hb with z | ⟨i,F,n,h1,h2⟩
   ·rcases g.sub b z with z | z
    ·exact .inl (Zx _ (subF b z))
    ·exact .inr z
   ·exact .inl (Zx _ (dw h1 h2))
theorem nM {α β:Type}:∀ (as:List α) (bs:List β) (i:Nat) (a:α) (y:β),as[i]?=some a->(as.zip bs).set i (a,y)=as.zip (bs.set i y)
 | [],_,_,_,_,h=>by simp at h
 | a :: as,[],i,_,_,_=>by cases i <;> simp
 | a :: as,b :: bs,0,_,y,h=>by simp at h;subst h;rfl
 | a :: as,b :: bs,i+1,_,y,h=>by
  have:=nM as bs i _ y (by simpa using h)
  simp [this]
theorem jA {α β:Type} (p:α->Bool):∀ {as:List α} {bs:List β} {i:Nat},as.length=bs.length->(as.zip bs).findIdx? (fun q=>p q.1)=some i->∃ a b,as[i]?=some a/\bs[i]?=some b/\p a=true/\(as.zip bs).find? (fun q=>p q.1)=some (a,b)
 | [],[],_,_,h=>by simp at h
 | a :: as,b :: bs,i,hl,h=>by
  rw [Zd,XD] at h
  by_cases hp:p a=true
  ·rw [Zr hp] at h
   cases h
   exact ⟨a,b,rfl,rfl,hp,by simp [hp]⟩
  ·rw [Zp hp] at h
   obtain ⟨j,hj,rfl⟩:=Zy.mp h
   obtain ⟨a',b',h1,h2,h3,h4⟩:=jA p (by simpa using hl) hj
   exact ⟨a',b',by simpa using h1,by simpa using h2,h3,by simp [hp,h4]⟩
theorem jy (k k':Key):eqT (ba k') (ba k)=true ↔ k'=k:=by
 cases k with
 | inl i=>cases k' <;> simp [ba]
 | inr x =>
  obtain ⟨⟨x⟩⟩:=x
  cases k' with
  | inl j=>simp [ba]
  | inr y=>obtain ⟨⟨y⟩⟩:=y;simp [ba]
theorem rT {k:Key} {u:V}:∀ {ns:List Key} {ts:Wp} {vs:List V} {i:Nat},ns.length=ts.length->ns.length=vs.length->((ns.map ba).zip ts).findIdx? (fun q=>eqT q.1 (ba k))=some i->vs[i]?=some u->gn (ns.zip vs) k=some u
 | [],_,_,_,_,_,h,_=>by simp at h
 | n :: ns,t :: ts,v :: vs,i,h1,h2,h,hu=>by
  rw [Zm,Zd,XD] at h
  by_cases hp:eqT (ba n) (ba k)=true
  ·rw [Zr hp] at h
   cases h
   simp at hu;subst hu
   exact ib ((jy k n).mp hp)
  ·rw [Zp hp] at h
   obtain ⟨j,hj,rfl⟩:=Zy.mp h
   have hn:n ≠ k:=fun z=>hp ((jy k n).mpr z)
   have:gn ((n :: ns).zip (v :: vs)) k=gn (ns.zip vs) k:=by simp [gn,hn]
   rw [this]
   exact rT (by simpa using h1) (by simpa using h2) hj (by simpa using hu)
 | _ :: _,[],_,_,h,_,_,_=>by simp at h
 | _ :: _,_ :: _,[],_,_,h,_,_=>by simp at h
theorem dQ {H:Hp} {v:V} {c:Nat} {q0:Nat×T} {fs:List (Nat×T)} {F:Wy} (r:Rp G H v (.obj (c+1) (q0 :: fs)) F):∃ (c':Nat) (a dx:Addr) (b:Bool) (ks:Wv) (vs:List V) (ts:Wp) (Fs:Xd),c+1=c'+1/\v=.ref a/\q0=(0,.bl b)/\fs=ks.zip ts/\F=a :: Fs.flatten ∧
  H a=some (.ins (G.ct (c'+1)).1 dx ((ks.map (G.ct (c'+1)).2).zip vs))/\ks.length=vs.length/\(b=true->G.me 0=some (.ref a))/\RpL G H vs ts Fs:=by
 generalize hz:T.obj (c+1) (q0 :: fs)=z at r
 cases r with
 | ins h l m q =>
  cases hz
  exact ⟨_,_,_,_,_,_,_,_,rfl,rfl,rfl,rfl,rfl,h,l,m,q⟩
 | _=>cases hz
theorem la {H:Hp} {v:V} {m:Nat} {t:T} {F:Wy} (r:Rp G H v (.obj 0 [(0,.bl true),(m,t)]) F):∃ a,v=.ref a/\G.me m=some (.ref a)/\Rp G H (.ref a) t F:=by
 generalize hz:T.obj 0 [(0,.bl true),(m,t)]=z at r
 cases r with
 | mk h q =>
  cases hz
  exact ⟨_,rfl,h,q⟩
 | _=>cases hz
theorem oI {c k0:Nat} (inj:∀ c k k':Nat,(G.ct c).2 k=(G.ct c).2 k'->k=k') {ns:Wv} {vs:List V} {ts:Wp} {u:V} {i:Nat} (hl:ns.length=vs.length) (h1:(ns.zip ts).findIdx? (fun q=>q.1 == k0)=some i) (g1:ns[i]?=some k0) (u1:vs[i]?=some u):((ns.map (G.ct c).2).zip vs).lookup ((G.ct c).2 k0)=some u:=by
 induction ns generalizing vs ts i with
 | nil=>simp at g1
 | cons a0 as ih =>
  cases vs with
  | nil=>simp at hl
  | cons b0 bs =>
   cases ts with
   | nil=>simp at h1
   | cons t0 ts =>
    rw [Zm,Zd,Z5]
    rw [Zd,XD] at h1
    by_cases q:(a0 == k0)=true
    ·rw [Zr q] at h1
     cases h1
     have:a0=k0:=by simpa using q
     subst this
     simp at u1
     simp [u1]
    ·rw [Zp q] at h1
     obtain ⟨j,hj,rfl⟩:=Zy.mp h1
     have:((G.ct c).2 k0 == (G.ct c).2 a0)=false:=by
      rw [ZR]
      intro z
      exact q (by simpa using (inj c _ _ z).symm)
     rw [this]
     exact ih (by simpa using hl) hj (by simpa using g1) (by simpa using u1)
theorem CY {α:Type} {f:T->Option (T×α)} {ks:List Ky} {t t':T} {y:α} (e:pm f (.un :: ks) t=some (t',y)):∃ m x z,t=.obj 0 [(0,.bl true),(m,x)]/\pm f ks x=some (z,y)/\t'=.obj 0 [(0,.bl true),(m,z)]:=by
 unfold pm at e
 split at e
 case h_6=>cases e
 all_goals first | (rename_i h0;cases h0;done) | skip
 all_goals
  rename_i h0
  cases h0
  obtain ⟨⟨z,y'⟩,e1,e2⟩:=Zy.mp e
  cases e2
  exact ⟨_,_,_,rfl,e1,rfl⟩
theorem gI {H:Hp} {α:Type} {f:T->Option (T×α)}:∀ (ks:List Ky) {v:V} {t t':T} {F:Wy} {y:α},(∀ c k k':Nat,(G.ct c).2 k=(G.ct c).2 k'->k=k')->Rp G H v t F->F.Nodup->pm f ks t=some (t',y) →
  ∃ w x F1 x',Pth G H ks v w/\Rp G H w x F1/\F1.Nodup/\f x=some (x',y)/\∀ H2 F1',Chg G H w F1 x' H2 F1'->∃ F',Chg G H v F t' H2 F'
 | [],v,t,t',F,y,_,r,nd,e=>⟨v,t,F,t',.nil v,r,nd,e,fun H2 F1' g=>⟨F1',g⟩⟩
 | .fld k :: ks,v,t,t',F,y,inj,r,nd,e=>by
  cases t with
  | obj c fs0 =>
   cases c with
   | zero=>cases e
   | succ c =>
   cases fs0 with
   | nil=>cases e
   | cons q0 fs =>
   obtain ⟨i,h1,e⟩:=Zz.mp e
   obtain ⟨p,h2,e⟩:=Zz.mp e
   obtain ⟨⟨z,y'⟩,e1,e2⟩:=Zy.mp e
   cases e2
   obtain ⟨c',a,dx,b,ns,vs,ts,Fs,ec,rfl,rfl,rfl,rfl,ha,hl,hb,ra⟩:=dQ r
   cases ec
   have lts:ns.length=ts.length:=hl.trans ra.len.1
   obtain ⟨k0,x0,g1,g2,g3,g4⟩:=jA (fun n=>n == k) lts h1
   have ek:k0=k:=by simpa using g3
   subst ek
   have ep:p=(k0,x0):=by
    have:(ns.zip ts)[i]?=some (k0,x0):=by rw [Ye];exact ⟨g1,g2⟩
    rw [this] at h2;exact (Zn h2).symm
   subst ep
   obtain ⟨u,Fi,u1,u2,u3⟩:=ra.get i g2
   obtain ⟨w,x,F1,x',w1,w2,w3,w4,w5⟩:=gI ks inj u3 (((Ze.mp nd).2).sublist (cR u2)) e1
   refine ⟨w,x,F1,x',.fld (c:=c) ha (oI inj hl h1 g1 u1) w1,w2,w3,w4,fun H2 F1' g=>?_⟩
   obtain ⟨Fi',gi⟩:=w5 H2 F1' g
   obtain ⟨s1,s2,s3,s4,s5⟩:=nX ha ra nd u1 u2 gi
   refine ⟨_,gi.kept,s5,gi.dom,?_,s3,s4⟩
   rw [nM ns ts i k0 z g1]
   exact .ins s1 hl hb s2
  | _=>cases e
 | .un :: ks,v,t,t',F,y,inj,r,nd,e=>by
  obtain ⟨m,x,z,rfl,e1,rfl⟩:=CY e
  obtain ⟨a,rfl,hm,rx⟩:=la r
  obtain ⟨w,x0,F1,x',w1,w2,w3,w4,w5⟩:=gI ks inj rx nd e1
  refine ⟨w,x0,F1,x',.un w1,w2,w3,w4,fun H2 F1' g=>?_⟩
  obtain ⟨F',g'⟩:=w5 H2 F1' g
  exact ⟨F',g'.kept,g'.keep,g'.dom,.mk hm g'.rp,g'.nd,g'.sub⟩
 | .at k :: ks,v,t,t',F,y,inj,r,nd,e=>by
  cases t with
  | lst l =>
   cases k with
   | int i =>
    obtain ⟨j,h1,e⟩:=Zz.mp e
    obtain ⟨x0,h2,e⟩:=Zz.mp e
    obtain ⟨⟨z,y'⟩,e1,e2⟩:=Zy.mp e
    cases e2
    obtain ⟨a,vs,Fs,rfl,rfl,ha,ra⟩:=r.lst_inv
    obtain ⟨u,Fi,u1,u2,u3⟩:=ra.get j h2
    obtain ⟨w,x,F1,x',w1,w2,w3,w4,w5⟩:=gI ks inj u3 (((Ze.mp nd).2).sublist (cR u2)) e1
    refine ⟨w,x,F1,x',.ix ha (by rw [ra.len.1];exact h1) u1 w1,w2,w3,w4,fun H2 F1' g=>?_⟩
    obtain ⟨Fi',gi⟩:=w5 H2 F1' g
    obtain ⟨s1,s2,s3,s4,s5⟩:=nX ha ra nd u1 u2 gi
    exact ⟨_,gi.kept,s5,gi.dom,.lst s1 s2,s3,s4⟩
   | _=>cases e
  | dct kd l =>
   cases kd with
   | zero =>
    have hk:iM k=true/\((l.findIdx? fun p=>eqT p.1 k).bind fun i=>(l[i]?).bind fun p=>(pm f ks p.2).map fun z=>(T.dct 0 (l.set i (p.1,z.1)),z.2))=some (t',y):=by
     cases k with
     | int i=>exact ⟨rfl,e⟩
     | str s=>exact ⟨rfl,e⟩
     | _=>cases e
    obtain ⟨hk,e⟩:=hk
    obtain ⟨i,h1,e⟩:=Zz.mp e
    obtain ⟨p,h2,e⟩:=Zz.mp e
    obtain ⟨⟨z,y'⟩,e1,e2⟩:=Zy.mp e
    cases e2
    obtain ⟨a,ns,vs,ts,Fs,rfl,rfl,ha,hl,rfl,ra⟩:=eT r
    have lts:(ns.map ba).length=ts.length:=by rw [Zv];exact hl.trans ra.len.1
    obtain ⟨k0,x0,g1,g2,g3,g4⟩:=jA (fun n=>eqT n k) lts h1
    have ep:p=(k0,x0):=by
     have:((ns.map ba).zip ts)[i]?=some (k0,x0):=by rw [Ye];exact ⟨g1,g2⟩
     rw [this] at h2;exact (Zn h2).symm
    subst ep
    obtain ⟨kk,ekk⟩:∃ kk:Key,k=ba kk:=by
     cases k with
     | int i=>exact ⟨.inl i,rfl⟩
     | str s=>exact ⟨.inr (sx s),by simp [ba,sx]⟩
     | _=>cases hk
    subst ekk
    obtain ⟨u,Fi,u1,u2,u3⟩:=ra.get i g2
    obtain ⟨w,x,F1,x',w1,w2,w3,w4,w5⟩:=gI ks inj u3 (((Ze.mp nd).2).sublist (cR u2)) e1
    refine ⟨w,x,F1,x',.key ha ?_ w1,w2,w3,w4,fun H2 F1' g=>?_⟩
    ·exact rT (by simpa using lts) hl h1 u1
    ·obtain ⟨Fi',gi⟩:=w5 H2 F1' g
     obtain ⟨s1,s2,s3,s4,s5⟩:=nX ha ra nd u1 u2 gi
     refine ⟨_,gi.kept,s5,gi.dom,?_,s3,s4⟩
     rw [nM (ns.map ba) ts i k0 z g1]
     exact .dct s1 hl s2
   | succ kd=>cases k <;> cases e
  | _=>cases k <;> cases e
end
section
variable {G:Gx}
theorem Pth.same {H H':Hp} (e:aJ H H') {ks:List Ky} {v w:V} (p:Pth G H ks v w):Pth G H' ks v w:=by
 induction p with
 | nil v=>exact .nil v
 | fld h l _ ih=>exact .fld (e _ _ h) l ih
 | ix h l m _ ih=>exact .ix (e _ _ h) l m ih
 | key h l _ ih=>exact .key (e _ _ h) l ih
 | un _ ih=>exact .un ih
theorem Pth.split {H:Hp} {k:Ky} {w:V}:∀ {ks:List Ky} {v:V},Pth G H (ks++[k]) v w->∃ u,Pth G H ks v u/\Pth G H [k] u w
 | [],v,p=>⟨v,.nil v,p⟩
 | _ :: ks,_,.fld h l p=>let ⟨u,a,b⟩:=Pth.split (ks:=ks) p;⟨u,.fld h l a,b⟩
 | _ :: ks,_,.ix h l m p=>let ⟨u,a,b⟩:=Pth.split (ks:=ks) p;⟨u,.ix h l m a,b⟩
 | _ :: ks,_,.key h l p=>let ⟨u,a,b⟩:=Pth.split (ks:=ks) p;⟨u,.key h l a,b⟩
 | _ :: ks,_,.un p=>let ⟨u,a,b⟩:=Pth.split (ks:=ks) p;⟨u,.un a,b⟩
theorem fG {η:VS.Env} {s:Stp}:∀ {way:List Stp} {ks:List Ky},keys (way++[s]) η=some ks->∃ ks0 k,keys way η=some ks0/\keys [s] η=some [k]/\ks=ks0++[k]
 | [],ks,e=>by
  cases s with
  | fld k=>cases e;exact ⟨[],.fld k,rfl,rfl,rfl⟩
  | un=>cases e;exact ⟨[],.un,rfl,rfl,rfl⟩
  | ix c =>
   obtain ⟨x,h1,h2⟩:=Zz.mp (show (c η).bind (fun x=>(keys [] η).map (Ky.at x.2 :: ·))=some ks from e)
   cases h2
   exact ⟨[],.at x.2,rfl,by simp [keys,h1],rfl⟩
 | .fld k :: way,ks,e=>by
  obtain ⟨ks1,h1,h2⟩:=Zy.mp (show (keys (way++[s]) η).map (Ky.fld k :: ·)=some ks from e)
  obtain ⟨ks0,k',a,b,c⟩:=fG h1
  exact ⟨.fld k :: ks0,k',by simp [keys,a],b,by rw [← h2,c];rfl⟩
 | .un :: way,ks,e=>by
  obtain ⟨ks1,h1,h2⟩:=Zy.mp (show (keys (way++[s]) η).map (Ky.un :: ·)=some ks from e)
  obtain ⟨ks0,k',a,b,c⟩:=fG h1
  exact ⟨.un :: ks0,k',by simp [keys,a],b,by rw [← h2,c];rfl⟩
 | .ix c :: way,ks,e=>by
  obtain ⟨x,h0,h⟩:=Zz.mp (show (c η).bind (fun x=>(keys (way++[s]) η).map (Ky.at x.2 :: ·))=some ks from e)
  obtain ⟨ks1,h1,h2⟩:=Zy.mp h
  obtain ⟨ks0,k',a,b,d⟩:=fG h1
  exact ⟨.at x.2 :: ks0,k',by simp [keys,h0,a],b,by rw [← h2,d];rfl⟩
noncomputable def tPl (G:Gx) (i:Nat) (way:List Stp):TE:=fun σ H Q=>∃ Φ η t ks v w,SR G Φ η σ H/\η[i]?=some (some (.ow t))/\σ[i]?=some (some v)/\keys way η=some ks/\Pth G H ks v w/\∀ H',aJ H H'->Q w H'
noncomputable def PPl (G:Gx) (X:Cx) (e:Expr) (i:Nat) (way:List Stp):Prop:=PE X e (tPl G i way)
theorem PE.weakP {X:Cx} {e:Expr} {t:TE} {i:Nat} {way:List Stp} (h:PE X e t) (w:∀ σ H Q,tPl G i way σ H Q->t σ H Q):PPl G X e i way:=fun pins s σ H Q I q=>h pins s σ H Q I (w σ H Q q)
variable {X:Cx} {e:Expr} {es:List Expr} {i:Nat} {way:List Stp} {pos pos' p1 apos cpos:Pos} {c:Ex} {cs:Exs} {b:Expr} {k:Nat}
theorem xY (i:Nat) {x:Str} (hN:X.N[i]?=some x) (hv:Vis X.env.scope x) (hd:(x == ("__debug__" : Str))=false) (hcd:(x == ("__classdict__" : Str))=false):PPl G X (.Name x pos) i [] :=
 PE.weakP (fZ hN hv hd hcd) fun σ H Q hq=>by
  obtain ⟨Φ,η,t,ks,v,w,s,h1,h2,h3,h4,h5⟩:=hq
  cases (show some ([]:List Ky)=some ks from h3)
  cases h4
  exact ⟨v,h2,h5 H (aJ.refl _)⟩
theorem DZ (h:PPl G X e i way):PPl G X e i (way++[.un]) :=
 PE.weakP h fun σ H Q hq=>by
  obtain ⟨Φ,η,t,ks,v,w,s,h1,h2,h3,h4,h5⟩:=hq
  obtain ⟨ks0,k',a,b,rfl⟩:=fG h3
  cases (show some [Ky.un]=some [k'] from b)
  obtain ⟨u,p1,p2⟩:=h4.split
  cases p2 with
  | un q =>
   cases q
   exact ⟨Φ,η,t,ks0,v,w,s,h1,h2,a,p1,h5⟩
structure FldOk (G:Gx) (K:X4) (k:Nat) (f:Str):Prop where
 nm:∀ c,(G.ct (c+1)).2 k=f
 cl:∀ c,Cls K (G.ct (c+1)).1
 no:∀ c,cq K (G.ct (c+1)).1 f
theorem Bj (k:Nat) {f:Str} (F:FldOk G X.K k f) (h:PPl G X e i way) (hb:attributeBase e f X.env (eval e X.env)=eval e X.env):PPl G X (.Attribute e f pos) i (way++[.fld k]) :=
 PE.weakP (wa h hb) fun σ H Q hq=>by
  obtain ⟨Φ,η,t,ks,v,w,s,h1,h2,h3,h4,h5⟩:=hq
  obtain ⟨ks0,k',a,b,rfl⟩:=fG h3
  cases (show some [Ky.fld k]=some [k'] from b)
  obtain ⟨u,p1,p2⟩:=h4.split
  refine ⟨Φ,η,t,ks0,v,u,s,h1,h2,a,p1,fun H' sm=>?_⟩
  cases p2 with
  | @fld c _ a dx fs u' _ _ ha hl q =>
   cases q
   rw [F.nm c] at hl
   exact ⟨a,_,dx,fs,w,rfl,sm a _ ha,F.cl c,F.no c,hl,h5 H' sm⟩
theorem CZ {kr:Nat} (hr:Room kr X.A) (h:PPl G X e i way) (hb:PV G X b c) (hs:eP b) (hK:X.K=G.K):PPl G X (.Subscript e b pos) i (way++[.ix c]) :=
 PE.weakP (rO (IxR.or nP (nN (jJ hr))) h hb hs) fun σ H Q hq=>by
  obtain ⟨Φ,η,t,ks,v,w,s,h1,h2,h3,h4,h5⟩:=hq
  obtain ⟨ks0,k',a,b',rfl⟩:=fG h3
  obtain ⟨⟨mx,x⟩,ec,e2⟩:=Zz.mp (show (c η).bind (fun x=>(keys [] η).map (Ky.at x.2 :: ·))=some [k'] from b')
  cases e2
  obtain ⟨u,p1,p2⟩:=h4.split
  refine ⟨Φ,η,t,ks0,v,u,s,h1,h2,a,p1,fun H1 sm=>⟨Φ,η,mx,x,s.same sm,ec,fun y H2 F2 sm2 r2 f2=>?_⟩⟩
  have p3:=(p2.same sm).same sm2
  have q:=h5 H2 (sm.trans sm2)
  cases p3 with
  | @ix a vs i0 j u' _ _ ha hl hu q' =>
   cases q'
   refine .inl (.inl ⟨a,vs,i0,w,rfl,r2.int_inv,SqL.of ha,kR hl hu,q⟩)
  | @key a kvs kk u' _ _ ha hl q' =>
   cases q'
   refine .inr ⟨a,w,rfl,?_,q⟩
   have hy:y=kV kk:=by
    cases kk with
    | inl n=>exact r2.int_inv
    | inr z =>
     have:=r2.str_inv.1
     rw [this]
     simp [kV,sx]
   rw [hy,← hl]
   exact gy.k ha
@[simp] noncomputable def fY (i:Nat) (way:List Stp) (f:T->Wr->Option (T×Val)) (as:Exs) (η:VS.Env):Option (Val×VS.Env):=match η[i]? with
 | some (some (.ow t))=>(keys way η).bind fun ks=>(as η).bind fun xs=>(pm (fun x=>f x xs) ks t).map fun z=>(z.2,η.set i (some (.ow z.1)))
 | _=>none
noncomputable def ft (G:Gx):Prop:=∀ c k k':Nat,(G.ct c).2 k=(G.ct c).2 k'->k=k'
theorem uK {T' id:String} {name:Str} {o:Expr} {r:V->List V->Hp->VK->Prop} {f:T->Wr->Option (T×Val)} (J:ft G) (pa:PlainAttrs T') (slot:Slot T' name id) (hty:typeOf (.builtin id)=pure (.type "method_descriptor")) (hm:MtR X id r) (ok:v8 G r f)
  (hT:∀ H v t F l z,Rp G H v t F->f t l=some z->tyV G.K T' v H) (ho:PPl G X o i way) (ha:PVs G X (e :: es) cs) (hK:X.K=G.K)
  (hbase:attributeBase o name X.env (eval o X.env)=eval o X.env)
  (hfew:((backTo cpos (starEach (e :: es) X.env)).all (fun x=>!x.1) && (backToKw cpos (keywordEach [] X.env)).all (fun x=>x.1.isSome)
   && decide ((e :: es).length+([]:List Keyword).length+(if ([]:List Keyword).isEmpty then 0 else 1) < 30))=true)
  (hline:(apos.endLine == cpos.line)=true) (hs:starEach (e :: es) X.env=(false,eval e X.env) :: starEach es X.env) (hplain:(backTo cpos (starEach es X.env)).any (·.1)=false)
  (hsw:swapsWith (.Call (.Attribute o name apos) (e :: es) [] cpos) none pos.line X.env=pure false) :
  PSV G X (.Expr (.Call (.Attribute o name apos) (e :: es) [] cpos) pos) (sX (fY i way f cs)) :=
 PS.weak (jE (rW pa slot hty hm ho ha hbase hfew hline hs hplain) hsw) fun D σ H hq=>by
  obtain ⟨Φ,η,out,s,e,k⟩:=hq
  refine L2.iR fun P_ k_=>?_
  unfold sX fY at e
  obtain ⟨⟨x',η'⟩,e1,e2⟩:=Zy.mp e
  split at e1
  ·rename_i t ht
   obtain ⟨ks,ek,e3⟩:=Zz.mp e1
   obtain ⟨l,el,e4⟩:=Zz.mp e3
   obtain ⟨⟨t',x2⟩,e5,e6⟩:=Zy.mp e4
   cases e6
   cases e2
   obtain ⟨v,h1,h2⟩:=s.rp _ _ ht
   obtain ⟨w,x,F1,x3,w1,w2,w3,w4,w5⟩:=gI ks J h2 (s.nd i t ht) e5
   refine k_ ?_
   refine ⟨Φ,η,t,ks,v,w,s,ht,h1,ek,w1,fun H0 sm0=>⟨by rw [hK];exact hT H0 w x _ l _ (w2.same sm0) w4,Φ,η,l,s.same sm0,el,fun vs H' Fs q1 q2 q3=>?_⟩⟩
   refine ok Φ η H H' w x x3 F1 l vs Fs x2 _ w2 w3 ⟨sm0.trans q1,q2,⟨fun n v' F' a1 a2=>(q3.each n v' F' a1 a2).back sm0,q3.nd⟩⟩ w4 fun u H2 F' g=>?_
   obtain ⟨F2,g2⟩:=w5 H2 F' g
   obtain ⟨z1,z2⟩:=s.mut ht h1 g2
   exact k _ σ H2 z1 z2
  ·cases e1
end
section
variable {G:Gx} {X:Cx} {e o:Expr} {es:List Expr} {i:Nat} {way:List Stp} {pos pos' p1 apos cpos:Pos} {c:Ex} {cs:Exs} {b:Expr} {k:Nat} {ce ck:Ex}
noncomputable def hU (k v:Val):T->Option (T×Unit)
 | .lst l=>match k.2 with
  | .int n=>(fit v).bind fun t=>(ixP l.length n).map fun j=>(.lst (l.set j t),())
  | _=>none
 | .dct 0 l=>if iM k.2/\imm v.2/\l.length < fu then some (.dct 0 (dput l k.2 v.2),()) else none
 | _=>none
noncomputable def du (i:Nat) (way:List Stp) (k e:Ex) (η:VS.Env):Option Out:=(e η).bind fun v=>match η[i]? with
 | some (some (.ow t))=>(keys way η).bind fun ks=>(k η).bind fun kv=>(pm (hU kv v) ks t).map fun z=>.nx (η.set i (some (.ow z.1)))
 | _=>none
theorem RpL.putAt {H:Hp}:∀ {vs:List V} {ts:Wp} {Fs:Xd} (j:Nat) {u:V} {x:T} {F:Wy},RpL G H vs ts Fs->Rp G H u x F->RpL G H (vs.set j u) (ts.set j x) (Fs.set j F)
 | _,_,_,_,_,_,_,.nil,_=>.nil
 | _,_,_,0,_,_,_,.cons r q,r'=>.cons r' q
 | _,_,_,j+1,_,_,_,.cons r q,r'=>.cons r (RpL.putAt j q r')
theorem rP {H:Hp} {kk:Key} {xv:V} {t:T} (rv:Rp G H xv t []):∀ {ks:List Key} {vs:List V} {ts:Wp} {Fs:Xd},ks.length=vs.length->RpL G H vs ts Fs →
  ∃ vs' ts' Fs',(ks.zip vs).map (fun kv=>if kv.1=kk then (kv.1,xv) else kv)=ks.zip vs'/\ks.length=vs'.length/\((ks.map ba).zip ts).map (fun p=>if eqT p.1 (ba kk) then (p.1,t) else p)=(ks.map ba).zip ts'/\RpL G H vs' ts' Fs'/\Fs'.flatten.Sublist Fs.flatten
 | [],[],_,_,_,.nil=>⟨[],[],[],rfl,rfl,rfl,.nil,YB _⟩
 | k :: ks,v :: vs,_,_,hl,.cons (t:=t0) (F:=F) (ts:=ts) (Fs:=Fs) r q=>by
  obtain ⟨vs',ts',Fs',h1,h2,h3,h4,h5⟩:=rP rv (by simpa using hl) q
  by_cases hk:k=kk
  ·have e:eqT (ba k) (ba kk)=true:=(jy kk k).mpr hk
   refine ⟨xv :: vs',t :: ts',[] :: Fs',?_,by simp [h2],?_,.cons rv h4,?_⟩
   ·rw [Zd,Zm,h1,Zd];simp [hk]
   ·rw [Zm,Zd,Zm,h3,Zd];simp [e]
   ·rw [ZL,ZL]
    exact h5.trans (Yf _ _)
  ·have e:¬ eqT (ba k) (ba kk)=true:=fun z=>hk ((jy kk k).mp z)
   refine ⟨v :: vs',t0 :: ts',F :: Fs',?_,by simp [h2],?_,.cons r h4,?_⟩
   ·rw [Zd,Zm,h1,Zd];simp [hk]
   ·rw [Zm,Zd,Zm,h3,Zd];simp [e]
   ·rw [ZL,ZL]
    exact List.Sublist.append (YB _) h5
theorem pP {kk:Key}:∀ {ks:List Key} {vs:List V} {ts:Wp},ks.length=vs.length->ks.length=ts.length->((ks.zip vs).any fun kv=>decide (kv.1=kk))=(((ks.map ba).zip ts).any fun p=>eqT p.1 (ba kk))
 | [],_,_,_,_=>by simp
 | k :: ks,v :: vs,t :: ts,h1,h2=>by
  rw [Zm,Zd,Zd,Yg,Yg,pP (by simpa using h1) (by simpa using h2)]
  have:decide (k=kk)=eqT (ba k) (ba kk):=by rw [XW,decide_eq_true_eq];exact (jy kk k).symm
  rw [this]
 | _ :: _,[],_,h,_=>by simp at h
 | _ :: _,_ :: _,[],_,h=>by simp at h
theorem qI {H:Hp} {kk:Key} {xv:V} {t:T} (rv:Rp G H xv t []) {ks:List Key} {vs:List V} {ts:Wp} {Fs:Xd} (hl:ks.length=vs.length) (ra:RpL G H vs ts Fs) :
  ∃ (ks':List Key) (vs':List V) (ts':Wp) (Fs':Xd),putK (ks.zip vs) kk xv=ks'.zip vs'/\ks'.length=vs'.length/\dput ((ks.map ba).zip ts) (ba kk) t=(ks'.map ba).zip ts'/\RpL G H vs' ts' Fs'/\Fs'.flatten.Sublist Fs.flatten:=by
 have an:=pP (kk:=kk) hl (hl.trans ra.len.1)
 unfold putK dput
 rw [an]
 by_cases h:(((ks.map ba).zip ts).any fun p=>eqT p.1 (ba kk))=true
 ·rw [Zr h,Zr h]
  obtain ⟨vs',ts',Fs',h1,h2,h3,h4,h5⟩:=rP (kk:=kk) rv hl ra
  exact ⟨ks,vs',ts',Fs',h1,h2,h3,h4,h5⟩
 ·rw [Zp h,Zp h]
  refine ⟨ks++[kk],vs++[xv],ts++[t],Fs++[[]],?_,by simp [hl],?_,ra.append (.cons rv .nil),by simp⟩
  ·rw [List.zip_append hl];rfl
  ·rw [ZA,List.zip_append (by rw [Zv];exact hl.trans ra.len.1)];rfl
noncomputable def zH:xh:=fun o i v H Q=>zo o i v H Q\/∃ a H4,o=.ref a/\qb H a i v H4/\Q H4
theorem wC (hu:X.A.units+1 < cLine):AL X zH:=by
 intro pins s σ H o i v ov iv u Q I ro ri rv h
 rcases h with h | ⟨a,H4,rfl,g,q⟩
 ·exact set_list pins s σ H o i v ov iv u Q I ro ri rv h
 ·cases ro
  exact tM hu I g ri rv fun s4 I4=>⟨H4,I4,q⟩
theorem vk {kr:Nat} (J:ft G) (hr:Room kr X.A) (ho:PPl G X o i way) (hk:PV G X b ck) (he:PV G X e ce)
  (ha:∀ v,assign (.Subscript o b pos') X.env v=(do
   let ov ← holding [v] (eval o X.env)
   let iv ← holding [v,ov] (eval b X.env)
   standAt pos'
   holding [v,ov,iv] (setItem ov iv v)
   release [v,ov,iv] [])) (hs:swapsWithSole [.Subscript o b pos'] e pos.line X.env=pure false) (hw:swappedStores [.Subscript o b pos'] e X.env=pure none)
  (h1:(assignEach [.Subscript o b pos'] X.env).map (·.2)=[assign (.Subscript o b pos') X.env]):PSV G X (.Assign [.Subscript o b pos'] e pos) (du i way ck ce) :=
 PS.weak (qJ he (qG ho hk (wC (jJ hr)) ha) hs hw h1) fun D σ H hq=>by
  obtain ⟨Φ,η,out,s,e,k⟩:=hq
  refine L2.iR fun P_ k_=>?_
  unfold du at e
  obtain ⟨⟨mv,tv⟩,ev,e⟩:=Zz.mp e
  split at e
  ·rename_i t ht
   obtain ⟨ks,ek,e⟩:=Zz.mp e
   obtain ⟨⟨mk,tk⟩,ekk,e⟩:=Zz.mp e
   obtain ⟨⟨t',y'⟩,e5,e6⟩:=Zy.mp e
   cases e6
   obtain ⟨v,g1,g2⟩:=s.rp _ _ ht
   obtain ⟨w,x,F1,x3,w1,w2,w3,w4,w5⟩:=gI ks J g2 (s.nd i t ht) e5
   refine k_ ?_
   refine ⟨Φ,η,mv,tv,s,ev,fun xv H1 Fv sm1 rv fv=>?_⟩
   refine ⟨Φ,η,t,ks,v,w,s.same sm1,ht,g1,ek,w1.same sm1,fun H2 sm2=>⟨Φ,η,mk,tk,(s.same sm1).same sm2,ekk,fun kv H3 Fk sm3 rk fk=>?_⟩⟩
   have sm:aJ H H3:=(sm1.trans sm2).trans sm3
   have rv3:Rp G H3 xv tv Fv:=(rv.same sm2).same sm3
   have fin:∀ H4 F',Chg G H w F1 x3 H4 F'->D.nx σ H4:=fun H4 F' g=>by
    obtain ⟨F2,g2'⟩:=w5 H4 F' g
    obtain ⟨z1,z2⟩:=s.mut ht g1 g2'
    exact k _ σ H4 z1 z2
   refine L2.iR fun P_ k_=>?_
   cases x with
   | lst l =>
    cases tk with
    | int n =>
     obtain ⟨tt,et,e7⟩:=Zz.mp (show ((fit (mv,tv)).bind fun t=>(ixP l.length n).map fun j=>(T.lst (l.set j t),()))=some (x3,y') from w4)
     obtain ⟨j,ej,e8⟩:=Zy.mp e7
     cases e8
     have em:=kD et
     cases em
     obtain ⟨a,vs,Fs,rfl,rfl,ha',ra⟩:=w2.lst_inv
     have ha3:H3 a=some (.lst vs):=sm a _ ha'
     have nd:=Ze.mp w3
     have na:a ∉ Fv:=fun z=>by rw [fv.2 a z] at ha';cases ha'
     have m3:Mut (H3 a):=by rw [ha3];exact True.intro
     have off:∀ bb∈Fs.flatten,bb ∉ Fv:=fun bb hb hv=>Mut.ne_none (ra.dom bb hb) (fv.2 bb hv)
     refine k_ ?_
     refine .inl ⟨a,vs,n,j,rfl,rk.int_inv,ha3,by rw [← qd,ra.len.1];exact ej,fin _ (a :: (Fs.set j Fv).flatten) ?_⟩
     have keep:∀ {u:V} {x:T} {F:Wy},Rp G H3 u x F->a ∉ F->Rp G (upd H3 a (.lst (vs.set j xv))) u x F:=fun r hn=>r.keep (Kept.upd (.inl m3)) fun bb hb o' ho'=>by rw [aI (fun z=>hn (by rw [← z];exact hb))];exact ho'
     refine Chg.upd sm Zt m3 (.lst aF ((((ra.same sm).off m3 nd.1)).putAt j (keep rv3 na))) ?_ ?_
     ·rw [Ze]
      refine ⟨fun h=>?_,dP nd.2 fv.1 fun i' F' _ hi bb hb=>off bb (dw hi hb)⟩
      rcases cM h with z | ⟨i',F',_,h1,h2⟩
      ·exact na z
      ·exact nd.1 (dw h1 h2)
     ·intro bb hb
      rcases Zi.mp hb with rfl | hb
      ·exact .inl Zt
      ·rcases cM hb with z | ⟨i',F',_,h1,h2⟩
       ·exact .inr (fv.2 bb z)
       ·exact .inl (Zx _ (dw h1 h2))
    | _=>cases w4
   | dct kd l =>
    cases kd with
    | zero =>
     have hc:(iM tk=true/\imm tv=true/\l.length < fu)/\x3=.dct 0 (dput l tk tv):=by
      have w4':(if iM tk/\imm tv/\l.length < fu then some (T.dct 0 (dput l tk tv),()) else none)=some (x3,y'):=w4
      split at w4'
      ·rename_i hc
       cases w4'
       exact ⟨hc,rfl⟩
      ·cases w4'
     obtain ⟨⟨c1,c2,c3⟩,rfl⟩:=hc
     have eF:=rv3.imm c2
     subst eF
     obtain ⟨a,ns,vs,ts,Fs,rfl,rfl,ha',hl,rfl,ra⟩:=eT w2
     obtain ⟨kk,rfl,ekk'⟩:=dN rk c1
     subst ekk'
     have ha3:H3 a=some (.dK (ns.zip vs)):=sm a _ ha'
     have m3:Mut (H3 a):=by rw [ha3];exact True.intro
     have nd:=Ze.mp w3
     obtain ⟨ks',vs',ts',Fs',q1,q2,q3,q4,q5⟩:=qI (kk:=kk) rv3 hl (ra.same sm)
     have ln:(ns.zip vs).length < sizeLine:=by
      have:((ns.map ba).zip ts).length < 16777216:=c3
      rw [Yw,Zv] at this
      rw [Yw]
      have:=ra.len.1
      have:(sizeLine:Nat)=16777216:=rfl
      lia
     refine k_ ?_
     refine .inr ⟨a,_,rfl,qb.k ha3 ln,fin _ (a :: Fs'.flatten) ?_⟩
     rw [q1,q3]
     refine Chg.upd sm Zt m3 (.dct aF q2 (q4.off m3 fun z=>nd.1 (q5.subset z))) ?_ ?_
     ·exact Ze.mpr ⟨fun z=>nd.1 (q5.subset z),nd.2.sublist q5⟩
     ·intro bb hb
      rcases Zi.mp hb with rfl | hb
      ·exact .inl Zt
      ·exact .inl (Zx _ (q5.subset hb))
    | succ n=>cases w4
   | _=>cases w4
  ·cases e
end
theorem Bh {K:X4} {H:Hp} {a:Addr} {ns:Wu} (hO:vO H) (hS:SqL K H a (ns.map V.int)):km K H a ns:=by
 rcases hS with h | h
 ·rcases h with h | h
  ·rcases hO a with z | ⟨o,xs,z⟩
   ·rw [z] at h;cases h
   ·rw [z] at h;cases h
  ·exact .inl h
 ·exact .inr h
theorem A8 {G:Gx} {g:Fn} {H:Hp} {a:Addr} {ns:Wu} {E:XK} (hg:g [.scr ns]=some (.fr,.bl true)) (hO:vO H) (hS:SqL G.K H a (ns.map V.int)):spF G g [.ref a] H (fun v _=>v=.bl true) E :=
 ⟨[.scr ns],[[]],.fr,.bl true,.cons (.scr (Bh hO hS)) .nil,hg,fun v H' F _ r _=>r.bl_inv⟩
noncomputable def gx0 (K:X4):Gx:=⟨K,fun _=>(0,fun k=>⟨#[k]⟩),fun _=>none⟩
theorem ua {l:PySem.W.OpenLaw} {q:Program} {loose:List Str} {XP:(Wz)->Heap->Prop} {d:DefRec} {K:Params->X4} {g:Fn} {x:Str} {k:Nat} (hn:l.most=some 63) (hdf:d.params.defaults=[]) (hr:Room k callerA)
  (hg:∀ ns:Wu,g [.scr ns]=some (.fr,.bl true))
  (F:∀ (w:World) (mg:Wz) (fa:Addr) (h:Heap),(K w.params).In h->h.Ns mainGlobals mg->mg d.name=some (.ref fa) →
   ∃ fd:FuncData,(∀ (s:Shared) (u:Value),BindsTo s fd ⟨[u],[]⟩ [(x,u)])/\∀ base:Heap,(K w.params).In base->base.Ns mainGlobals mg->FnOk l.prog w (K w.params) mg base CX0 k fa fd [x] (spF (gx0 (K w.params)) g)) :
  PySem.W.WalkO q loose XP (fun w h=>(K w.params).In h) l.row.toRowW d [] (fun f vs=>PySem.call f vs) :=
 L2.x5 (n:=63) (k:=k) (x:=x) (CX:=fun _=>CX0) (sp:=fun w=>spF (gx0 (K w.params)) g) hn (by decide) hdf hr (fun _ _ h=>h) F (fun w H a ns _ hO hS=>A8 (G:=gx0 (K w.params)) (hg ns) hO hS) fun _ _ _ _ _ z=>z
end VS
end
section
namespace L2
open PySem PySem.Spec PyProof.Rows
section
variable {X:Cx}
theorem qc (hc:X.calm=true):dJ X (.type "list") (fun xs H Q=>∃ x:Str,xs=[.str x]/\x.cps.size<=sizeLine/\∀ l,H l=none->Q (.ref l) (upd H l (.lst (x.cps.toList.map fun c=>V.str ⟨#[c]⟩)))):=by
 intro pins s σ H xs us Q I rx h
 obtain ⟨x,rfl,hz,q⟩:=h
 obtain ⟨u,rfl,t,rfl⟩:=vals1 rx
 refine call_list_str (I.ok.hd hc) x t (fun h' tk acc c kp g ha=>?_) hz
 have hv:aV (x.cps.toList.map fun c=>V.str ⟨#[c]⟩) acc.toList:=by
  have key:∀ (cs:Wv) (vs:Wx),cs.length=vs.length->(∀ (i:Nat) (v:Value),vs[i]?=some v->∃ c u,cs[i]?=some c/\v=.str ⟨#[c]⟩ u)->aV (cs.map fun c=>V.str ⟨#[c]⟩) vs:=by
   intro cs
   induction cs with
   | nil =>
    intro vs hl _
    cases vs with
    | nil=>exact .nil
    | cons v vs=>simp at hl
   | cons c cs ih =>
    intro vs hl hg
    cases vs with
    | nil=>simp at hl
    | cons v vs =>
     obtain ⟨d,u,e1,e2⟩:=hg 0 v rfl
     cases e1
     exact .cons ⟨u,e2⟩ (ih vs (by simpa using hl) fun i w hw=>by simpa using hg (i+1) w (by simpa using hw))
  refine key _ _ (by rw [YZ,YZ,ha.1]) fun i v hi=>?_
  rw [Ym] at hi
  obtain ⟨d,u,e1,e2⟩:=ha.2 i v hi
  exact ⟨d,u,by rw [Ym];exact e1,e2⟩
 refine ⟨.ref s.heap.objs.size,_,I.laid kp (Zk _) (show cy X.prog X.w _ h' _ (.lst (x.cps.toList.map fun c=>V.str ⟨#[c]⟩)) from ⟨by rw [Zv,YZ];exact hz,acc.toList,c,hv,g⟩),rfl,q _ (I.hok.fresh (Zk _))⟩
end
end L2
namespace VS
open PySem PySem.Spec PyProof.Rows L2
section
variable {G:Gx} {X:Cx} {a b c e tg:Expr} {es:List Expr} {ca cb cc ce ck:Ex} {cs:Exs} {pos p p1 p2 apos cpos pos':Pos} {k k' kr:Nat}
@[simp] noncomputable def gv:Wr->Wq
 | [(m,.lst l)]=>mkL m l
 | [(m,.tup l)]=>mkL m l
 | [(_,.str s)]=>mkL .fr (s.map fun c=>.str [c])
 | _=>none
theorem vN:fi G (fun xs H Q=>zx G.K xs H Q\/∃ x:Str,xs=[.str x]/\x.cps.size<=sizeLine/\∀ l,H l=none->Q (.ref l) (upd H l (.lst (x.cps.toList.map fun c=>V.str ⟨#[c]⟩)))) gv:=by
 intro Φ η H0 H l vs Fs m t Q A e k
 unfold gv at e
 split at e
 ·exact .inl (rz Φ η H0 H _ vs Fs m t Q A e k)
 ·exact .inl (rz Φ η H0 H _ vs Fs m t Q A e k)
 ·rename_i mx x
  obtain ⟨v,F,rfl,rfl,rx⟩:=(show RpL G H vs [.str x] Fs from A.rp).one
  have ts:=rx.str_inv.2
  refine .inr ⟨sx x,by rw [rx.str_inv.1],?_,fun q hq=>?_⟩
  ·have:=ts.1
   simp only [sx,ZZ]
   exact this
  ·have ec:(sx x).cps.toList.map (fun c=>V.str ⟨#[c]⟩)=(x.map fun c=>[c]).map fun s=>V.str (sx s):=by
    simp [sx]
   have et:(x.map fun c=>T.str [c])=(x.map fun c=>[c]).map T.str:=by simp
   rw [ec]
   rw [et] at e
   have r0:=qo (G:=G) (H:=H) (ss:=x.map fun c=>[c]) fun s hs=>by
    obtain ⟨c,hc,rfl⟩:=Yr.mp hs
    exact ⟨by show 1<=fu;decide,fun y hy=>by rw [Zb.mp hy];exact ts.2 c hc⟩
   refine iF A.same e r0 ?_ k q hq
   rw [oC]
   exact Fp.nil
 ·cases e
theorem yI (hm:X.mg "list" = none) (ha:PVs G X [e] cs) (hg:Gl X "list" := by rfl) (hK:X.K=G.K:=by rfl) (hc:X.calm=true:=by rfl) (he:starEach [e] X.env=(false,eval e X.env) :: starEach [] X.env:=by rfl):PV G X (.Call (.Name "list" p) [e] [] pos) (eN gv cs) :=
 jO (nR.or (qc hc)) (hK ▸ vN) hg hm yz ha (he:=he) (hpl:=rfl)
end
end VS
end
section
open PySem PyProof.Rows
namespace TS
variable {prog:Program} {w:World} {A:Around} {E:Z2} {s:Shared}
end TS
end
section
namespace ST
open PySem PySem.Spec PyProof.Rows
variable {prog:Program} {w:World} {A:Around} {E:Z2} {s:Shared}
noncomputable abbrev dO (es:Array DictEntry) (ep:Nat):Obj:={ cls:=.type "dict",data:=.dict es ep }
noncomputable abbrev kO (d:Addr) (i n ep:Nat):Obj:={ cls:=.type "dict_keyiterator",data:=.fields #[.ref d,.int i 0,.int n 0,.int ep 0] }
theorem uu {d:Addr} {es:Array DictEntry} {ep:Nat} {Q:Z2} (hd:(d == sysModules)=false) (hm:s.heap.get? d=some (dO es ep)) (q:Q (.ref s.heap.objs.size) { s with heap:=s.heap.push (kO d 0 es.size ep) }) :
  wpAny (model prog w) A (pyIter (.ref d)) Q E s:=by
 have ty:s.TypeIs (.ref d) "dict" := ⟨_,hm,rfl⟩
 refine wpAny_pyIter_slot ty F.slot_dict_iter (Xs F.slot_dict_iter ty F.entry_dict_iter (show wpAny _ _ (Builtin.«dict.__iter__» _) _ _ _ from ?_) (F.args_dict_iter_1 _))
 unfold Builtin.«dict.__iter__» Builtin.Dict.dictSlotNone Builtin.Dict.showsAll
 refine Zq (Zq (wpAny_notOrdered_dict ty (show wpAny _ _ (pure (Value.ref d)) _ _ s from Zc (Zq (m:=Builtin.Dict.addrOf (.ref d)) (Zc ?_)))))
 rw [Zp (by rw [hd];exact Zh)]
 exact Zq (Zc (Zq (wpAny_dictEntries hm rfl (Zq (wpAny_dictEpoch hm rfl (Zq (Xa (Zc ⟨_,rfl, "dict_keyiterator",_,⟨_,ZV _ rfl,rfl⟩,YM.lookup,q⟩))))))))
theorem pL {I d:Addr} {i ep:Nat} {es:Array DictEntry} {Q:Ww->Shared->Prop} (hh:A.handled=none) (hI:s.heap.get? I=some (kO d i es.size ep)) (hm:s.heap.get? d=some (dO es ep))
  (h1:∀ e,es[i]?=some e->∀ h',Heap.SameBut I s.heap h'->h'.get? I=some (kO d (i+1) es.size ep)->Q (some e.key) { s with heap:=h' })
  (h2:es[i]?=none->∀ h',(∀ b o,b ≠ I->s.heap.get? b=some o->h'.get? b=some o)->Q none { s with heap:=h' }):wpAny (model prog w) A (pyNext (.ref I)) Q E s:=by
 have ty:s.TypeIs (.ref I) "dict_keyiterator" := ⟨_,hI,rfl⟩
 unfold pyNext
 refine Zq (wpAny_attempt (wpAny_callSpecial?_slot (name:=Str.ofString "__next__") ty YM (Xs YM ty F.entry_dict_keyiterator_next (YV
  (Q:=fun f s'=>∃ v,f=.done (.ret v)/\Q (some v) s') (E:=fun e s'=>∃ x,e=.ref x/\(∃ o,s'.heap.get? x=some o/\o.cls=.type "StopIteration")/\Q none s') ?_ (fun f s' ⟨v,e,q⟩=>⟨v,e,Zc q⟩) fun e s' ⟨x,e1,⟨o,g,c⟩,q⟩=>?_) (F.args_dict_keyiterator_next_1 _))))
 ·refine Zq (Zc (Zq (Zq (Zq (Xp ty (Zc (Zq (wpAny_fieldsOf hI rfl ?_))))))))
  have own:Builtin.Dict_items.ownsTuple "dict_keyiterator" = false:=rfl
  simp only [own,YF,↓reduceIte]
  refine (show wpAny _ _ (if (Value.ref d == Value.none)=true then _ else _) _ _ s from ?_)
  rw [Zp (fun e:(Value.ref d == Value.none)=true=>Zh e)]
  refine Zq (Zc (Zq (wpAny_dictEntries hm rfl ?_)))
  rw [Zp (by simp)]
  refine Zq (Zc (Zq (wpAny_dictEpoch hm rfl ?_)))
  rw [Zp (by simp)]
  refine Zc ?_
  simp only [show ¬ ((i:Int) < 0) from by lia,↓reduceIte,YA]
  cases he:es[i]? with
  | some e =>
   dsimp only
   have g1:(s.heap.update I (Obj.mapFields (·.setIfInBounds 1 (rawInt ((i:Int)+1))))).get? I=some (kO d (i+1) es.size ep):=Heap.get?_update_self _ hI rfl
   refine Zq (Zq (Xp ty (Zc (Zq (wpAny_isOneOf_keyiter ty ?_)))))
   refine (show wpAny _ _ (setField (.ref I) 1 (rawInt ((i:Int)+1)) >>= _) _ _ s from Zq (wpAny_setField hI rfl (by show 1 < 4;decide) (Zq (Xq ?_))))
   refine Zq (wpAny_isOneOf_keyiter (s:={ s with heap:=s.heap.update I (Obj.mapFields (·.setIfInBounds 1 (rawInt ((i:Int)+1)))) }) ⟨_,g1,rfl⟩ ?_)
   refine (show wpAny _ _ (pure e.key) _ _ _ from Zc (Zc ⟨_,rfl,h1 e he _ (Heap.SameBut.update ..) g1⟩))
  | none =>
   dsimp only
   refine Zq (Zq (Xp ty (Zc ?_)))
   refine (show wpAny _ _ (setField (.ref I) 0 .none >>= _) _ _ s from Zq (wpAny_setField hI rfl (by show 0 < 4;decide) (DL hh fun h' x kp hx=>⟨x,rfl,hx,h2 he h' fun b o hb e=>kp b o ?_⟩)))
   rw [XM _ _ (Yd hb)]
   exact e
 ·subst e1
  exact Zq (wpAny_isInstance (T := "StopIteration") (b:=true) ⟨o,g,c⟩ isSubtype_stop (Zc q))
end ST
end
section
namespace L2
open PySem PySem.Spec PyProof.Rows TS
end L2
end
section
namespace VS
open PySem PySem.Spec PyProof.Rows L2 TS
section
variable {G:Gx} {X:Cx} {a b c e tg:Expr} {es:List Expr} {ca cb cc ce ck:Ex} {cs:Exs} {pos p p1 p2 apos cpos pos':Pos} {k k' kr:Nat}
noncomputable def BE:T->Bool
 | .tup l=>l.all iM
 | _=>false
@[simp] noncomputable def EG (x y:Val):Wq:=match y.2 with
 | .dct 1 l=>if BE x.2 then some (.fr,.bl (eX l x.2).isSome) else none
 | .lst l=>if BE x.2 && l.all BE then some (.fr,.bl (l.any fun z=>eqT z x.2)) else none
 | _=>none
@[simp] noncomputable def D8 (x y:Val):Wq:=match EG x y with
 | some (_,.bl b)=>some (.fr,.bl (!b))
 | _=>none
end
end VS
namespace VS
open PySem PySem.Spec PyProof.Rows L2
theorem Dr {G:Gx} {X:Cx} {i:Int} {j:Nat} {pos p:Pos}:PV G X (.UnaryOp .USub (.Constant (.int i) j p) pos) (eC (.int (-i))) :=
 PE.weak (CH BQ n8) fun σ H Q hq=>by
  obtain ⟨Φ,η,m,t,s,e,k⟩:=hq
  cases (show some (Md.fr,T.int (-i))=some (m,t) from e)
  exact ⟨i,rfl,k _ H [] (aJ.refl _) (.int _) Fp.nil⟩
end VS
end
section
namespace L2
open PySem PySem.Spec PyProof.Rows
end L2
namespace VS
open PySem PySem.Spec PyProof.Rows L2
end VS
end
section
namespace L2
open PySem PySem.Spec PyProof.Rows
end L2
namespace VS
open PySem PySem.Spec PyProof.Rows L2
end VS
end
section
namespace L2
open PySem PySem.Spec PyProof.Rows
section
variable {X:Cx} {tg:Expr} {pos:Pos}
theorem u6 {o:Obj} {es:Array DictEntry} {ep:Nat} (h:o.ExactDict) (e:o.data=.dict es ep):o=ST.dO es ep:=by
 obtain ⟨c,d,dt,sl⟩:=o
 obtain ⟨h1,h2,h3⟩:=h
 simp only at h1 h2 h3 e
 subst h1 h2 h3 e
 rfl
end
end L2
namespace VS
open PySem PySem.Spec PyProof.Rows L2
end VS
end
section
open PySem PyProof.Rows
namespace TS
variable {prog:Program} {w:World} {A:Around} {E:Z2} {s:Shared} {G:Keyed->Prop} {r:Keyed->Keyed->Bool}
end TS
end
section
open PySem PyProof.Rows
namespace TS
variable {prog:Program} {w:World} {A:Around} {E:Z2} {s:Shared}
end TS
end
section
namespace L2
open PySem PySem.Spec PyProof.Rows TS
end L2
end
section
namespace VS
open PySem PySem.Spec PyProof.Rows L2 TS
end VS
end
section
namespace L2
open PySem PySem.Spec PyProof.Rows
end L2
namespace VS
open PySem PySem.Spec PyProof.Rows L2
section
variable {G:Gx} {X:Cx} {e b:Expr} {cs:Exs} {cb:Ex} {pos p p1 p2 kp apos cpos:Pos} {k k' kr:Nat} {x:Str} {ps:List Str} {g:Fn}
theorem lh {a b c:Expr} {ca cb cc:Ex} (ha:PV G X a ca) (hb:PV G X b cb) (hc:PV G X c cc) (hm:lastMarks [.LtE,.Lt] [b,c]=false):PVT G X (.Compare a [.LtE,.Lt] [b,c] pos) (jc oLe oLt ca cb cc) :=
 PT.weak (vt B0 uE ha hb hc hm) fun σ H Q h=>pR h (fun η m r e=>by
  unfold jc at e
  obtain ⟨x,ea,e⟩:=Zz.mp e
  obtain ⟨y,eb,e⟩:=Zz.mp e
  obtain ⟨⟨mz,z⟩,ez,e⟩:=Zz.mp e
  cases z with
  | bl q =>
   cases q with
   | false=>cases e;exact ⟨_,rfl⟩
   | true =>
    obtain ⟨z2,ec,e⟩:=Zz.mp (show (cc η).bind (fun z=>oLt y z)=some (m,r) from e)
    exact kS y z2 m r e
  | _=>cases e) fun Q h=>u5 DU zF h
theorem BK {ce:Ex} (h:PV G X e ce) (hsw:swapsWith e none pos.line X.env=pure false):PSV G X (.Expr e pos) (sX (xP ce)) :=
 PS.weak (jE h hsw) fun D σ H hq=>by
  obtain ⟨Φ,η,out,s,e,k⟩:=hq
  unfold sX xP at e
  obtain ⟨⟨v,η'⟩,e1,e2⟩:=Zy.mp e
  obtain ⟨⟨m,t⟩,e3,e4⟩:=Zy.mp e1
  cases e4
  cases e2
  exact ⟨Φ,η,m,t,s,e3,fun v H' F e1 r1 f1=>k Φ σ H' (s.same e1) (Frm.same e1)⟩
@[simp] noncomputable def EW (i:Nat) (c:Ex) (as:Exs) (η:VS.Env):Option (Val×VS.Env):=match η[i]? with
 | some (some (.ow (.lst l)))=>(c η).bind fun kv=>(int? kv.2).bind fun n=>(ixP l.length n).bind fun j=>(l[j]?).bind fun x=>(as η).bind fun xs=>(aD x xs).map fun z=>(z.2,η.set i (some (.ow (.lst (l.set j z.1)))))
 | _=>none
end
section
variable {G:Gx} {X:Cx} {a b e:Expr} {ca ck ce:Ex} {pos pos' p1:Pos} {kr:Nat}
theorem Au {j pos'} (ha:PV G X a ca):PVT G X (.Compare a [.Is] [.Constant .none j pos'] pos) (vh ca) :=
 PT.weak (vP (vW ha)) fun σ H Q h=>zr h (fun η m r e=>by
  unfold vh at e
  obtain ⟨x,_,e⟩:=Zz.mp e
  cases e
  exact ⟨_,rfl⟩) fun Q hq=>by
   obtain ⟨Φ,η,m,r,s,e,q⟩:=hq
   unfold vh at e
   obtain ⟨⟨n,x⟩,ea,e⟩:=Zz.mp e
   cases e
   refine ⟨Φ,η,n,x,s,ea,fun v H' F e1 r1 f1=>?_⟩
   show Q (.bl (decide (v=.non))) H'
   rw [oo r1]
   exact q _ H' _ e1 (.bl _) Fp.nil
theorem wY {j pos'} (ha:PV G X a ca):PVT G X (.Compare a [.IsNot] [.Constant .none j pos'] pos) (fA ca) :=
 PT.weak (vP (yJ ha)) fun σ H Q h=>zr h (fun η m r e=>by
  unfold fA at e
  obtain ⟨x,_,e⟩:=Zz.mp e
  cases e
  exact ⟨_,rfl⟩) fun Q hq=>by
   obtain ⟨Φ,η,m,r,s,e,q⟩:=hq
   unfold fA at e
   obtain ⟨⟨n,x⟩,ea,e⟩:=Zz.mp e
   cases e
   refine ⟨Φ,η,n,x,s,ea,fun v H' F e1 r1 f1=>?_⟩
   show Q (.bl (!decide (v=.non))) H'
   rw [oo r1]
   exact q _ H' _ e1 (.bl _) Fp.nil
noncomputable def ni (i:Nat) (k e:Ex) (η:VS.Env):Option Out:=(e η).bind fun v=>match η[i]? with
 | some (some (.ow (.dct 0 l)))=>(k η).bind fun kv=>if iM kv.2/\imm v.2/\l.length < fu then some (.nx (η.set i (some (.ow (.dct 0 (dput l kv.2 v.2)))))) else none
 | _=>none
theorem AJ (i:Nat) {x:Str} (hr:Room kr X.A) (hk:PV G X b ck) (he:PV G X e ce) (hN:X.N[i]?=some x) (hv:Vis X.env.scope x) (hd:(x == ("__debug__" : Str))=false) (hcd:(x == ("__classdict__" : Str))=false)
  (ha:∀ v,assign (.Subscript (.Name x p1) b pos') X.env v=(do
   let ov ← holding [v] (eval (.Name x p1) X.env)
   let iv ← holding [v,ov] (eval b X.env)
   standAt pos'
   holding [v,ov,iv] (setItem ov iv v)
   release [v,ov,iv] [])) (hs:swapsWithSole [.Subscript (.Name x p1) b pos'] e pos.line X.env=pure false) (hw:swappedStores [.Subscript (.Name x p1) b pos'] e X.env=pure none)
  (h1:(assignEach [.Subscript (.Name x p1) b pos'] X.env).map (·.2)=[assign (.Subscript (.Name x p1) b pos') X.env]):PSV G X (.Assign [.Subscript (.Name x p1) b pos'] e pos) (ni i ck ce) :=
 PS.weak (qJ he (qG (fZ hN hv hd hcd) hk (wC (jJ hr)) ha) hs hw h1) fun D σ H hq=>by
  obtain ⟨Φ,η,out,s,e,k⟩:=hq
  unfold ni at e
  obtain ⟨⟨mv,tv⟩,ev,e⟩:=Zz.mp e
  split at e
  ·rename_i l ht
   obtain ⟨⟨mk,tk⟩,ekk,e⟩:=Zz.mp e
   split at e
   ·rename_i hc
    obtain ⟨c1,c2,c3⟩:=hc
    cases e
    obtain ⟨w,g1,w2⟩:=s.rp _ _ ht
    have w3:=s.nd i _ ht
    refine ⟨Φ,η,mv,tv,s,ev,fun xv H1 Fv sm1 rv fv=>⟨w,g1,Φ,η,mk,tk,s.same sm1,ekk,fun kv H3 Fk sm3 rk fk=>?_⟩⟩
    have sm:aJ H H3:=sm1.trans sm3
    have rv3:Rp G H3 xv tv Fv:=rv.same sm3
    have eF:=rv3.imm c2
    subst eF
    obtain ⟨a,ns,vs,ts,Fs,rfl,eF1,ha',hl,rfl,ra⟩:=eT w2
    rw [eF1] at w3
    obtain ⟨kk,rfl,ekk'⟩:=dN rk c1
    subst ekk'
    have ha3:H3 a=some (.dK (ns.zip vs)):=sm a _ ha'
    have m3:Mut (H3 a):=by rw [ha3];exact True.intro
    have nd:=Ze.mp w3
    obtain ⟨ks',vs',ts',Fs',q1,q2,q3,q4,q5⟩:=qI (kk:=kk) rv3 hl (ra.same sm)
    have ln:(ns.zip vs).length < sizeLine:=by
     have:((ns.map ba).zip ts).length < 16777216:=c3
     rw [Yw,Zv] at this
     rw [Yw]
     have:=ra.len.1
     have:(sizeLine:Nat)=16777216:=rfl
     lia
    refine .inr ⟨a,_,rfl,qb.k ha3 ln,?_⟩
    have g:Chg G H (.ref a) (Φ i) (.dct 0 (dput ((ns.map ba).zip ts) (ba kk) tv)) (upd H3 a (.dK (putK (ns.zip vs) kk xv))) (a :: Fs'.flatten):=by
     rw [eF1,q1,q3]
     refine Chg.upd sm Zt m3 (.dct aF q2 (q4.off m3 fun z=>nd.1 (q5.subset z))) ?_ ?_
     ·exact Ze.mpr ⟨fun z=>nd.1 (q5.subset z),nd.2.sublist q5⟩
     ·intro bb hb
      rcases Zi.mp hb with rfl | hb
      ·exact .inl Zt
      ·exact .inl (Zx _ (q5.subset hb))
    obtain ⟨z1,z2⟩:=s.mut ht g1 g
    exact k _ σ _ z1 z2
   ·cases e
  ·cases e
end
end VS
end
section
namespace DP
open PySem PySem.Spec PyProof.Rows
variable {prog:Program} {w:World} {A:Around} {E:Z2}
end DP
end
section
namespace DP
open PySem PySem.Spec PyProof.Rows L2
variable {prog:Program} {w:World} {A:Around} {E:Z2}
end DP
end
section
namespace DP
open PySem PySem.Spec PyProof.Rows L2
variable {prog:Program} {w:World} {A:Around} {E:Z2} {s:Shared}
end DP
end
section
namespace L2
open PySem PySem.Spec PyProof.Rows
end L2
end
section
namespace VS
open PySem PySem.Spec PyProof.Rows L2
section
variable {G:Gx} {X:Cx} {e:Expr} {cs:Exs} {p pos:Pos}
theorem wL:bootBuiltins ("dict" : Str)=some (.type "dict"):=by decide +kernel
@[simp] noncomputable def EN:Wr->Wq
 | [(_,.int i)]=>some (.fr,.int i)
 | [(_,.bl b)]=>some (.fr,.int (if b then 1 else 0))
 | _=>none
end
end VS
end
section
namespace L2
open PySem PySem.Spec PyProof.Rows
section
variable {X:Cx} {pins:Xm} {σ:St} {H:Hp} {s:Shared}
theorem nH {d:Addr} {kvs:List (Key×V)} {o:Obj} (I:Inv X pins σ H s) (e:H d=some (.dK kvs)) (g:s.heap.get? d=some o):Inv X pins σ (upd H d (.frz o (.dK kvs))) s :=
 kI (t':=s.toks) I (by rw [e];exact True.intro) ⟨rfl,fun _ _=>rfl⟩ ⟨o,g⟩ ⟨g,I.hok d _ e⟩
end
noncomputable def Itk (d:Addr) (o:Obj) (kvs:List (Key×V)):It :=
 ⟨fun i H=>H d=some (.frz o (.dK kvs))/\i < kvs.length,fun i H x H'=>H'=H/\∃ p,kvs[i]?=some p/\x=kV p.1,fun i H=>H d=some (.frz o (.dK kvs))/\kvs.length<=i⟩
theorem zb {k:Key} {v:Value} (h:kf k v=true):RelV (kV k) v:=by
 rcases bT h with ⟨i,t,rfl,rfl⟩ | ⟨x,t,rfl,rfl⟩
 ·exact ⟨t,rfl⟩
 ·exact ⟨t,rfl⟩
theorem mR {P:Program} {w:World} {es:List DictEntry} {m:List (Key×Value)} (r:Pairs (bK P w) es m) {i:Nat} {e:DictEntry} (h:es[i]?=some e):∃ q,m[i]?=some q/\kf q.1 e.key=true:=by
 induction r generalizing i with
 | nil=>simp at h
 | @cons e' kv es kvs h1 h2 _ ih =>
  cases i with
  | zero =>
   simp at h
   subst h
   exact ⟨kv,rfl,h1⟩
  | succ i=>simpa using ih (by simpa using h)
theorem Bt {l:List (Key×V)} {m:List (Key×Value)} (r:KV l m) {i:Nat} {q:Key×Value} (h:m[i]?=some q):∃ p,l[i]?=some p/\p.1=q.1:=by
 induction r generalizing i with
 | nil=>simp at h
 | @cons p' q' ps qs hq t ih =>
  cases i with
  | zero=>simp at h;subst h;exact ⟨p',rfl,hq.1⟩
  | succ i=>simpa using ih (by simpa using h)
section
variable {X:Cx} {tg:Expr} {pos:Pos}
theorem AY {P:Program} {w:World} {K:X4} (d it:Addr) {kvs:List (Key×V)} {es:Array DictEntry} {ep:Nat} {xs:List (Key×Value)} (rel:KV kvs xs) (he:Pairs (bK P w) es.toList xs) :
  Turn P w K tg (Itk d (ST.dO es ep) kvs) [it] it (fun i h=>h.get? it=some (ST.kO d i es.size ep)) where
 mem:=by simp
 obj:=fun i h st b hb=>by
  rw [Zb.mp hb]
  exact ⟨_,st,fun v z=>by cases z⟩
 keep:=fun i h h' st k=>k it (by simp) _ st
 item:=by
  intro X hP hw hK hc i pins s σ H E I hf st hg
  subst hP hw hK
  obtain ⟨f0,f1,f2,f3,f4,f5⟩:=hf it (by simp)
  refine ST.pL (I.ok.hd hc) st (show s.heap.get? d=some (ST.dO es ep) from (I.hok d _ hg.1).1) (fun e hi h' sb g=>?_) fun hn=>?_
  ·have I1:Inv X pins σ H { s with heap:=h' }:=I.turned (t':=s.toks) (fun b o hb e=>(sb.2 b hb).trans e) f0 f1 f3 f4 f5
   rw [← Ym] at hi
   obtain ⟨q,hq,hk⟩:=mR he hi
   obtain ⟨p,hp,hb⟩:=Bt rel hq
   exact ⟨_,rfl,mJ (s:={ s with heap:=h' }) g rfl rfl rfl ⟨kV p.1,H,I1,by rw [hb];exact zb hk,⟨rfl,p,hp,rfl⟩,g,fun b hb=>(hf b hb).1⟩⟩
  ·exfalso
   rw [← Ym,Yu,he.length,← YE rel] at hn
   exact absurd hg.2 (by lia)
 done:=by
  intro X hP hw hK hc i pins s σ H E I hf st hg
  subst hP hw hK
  obtain ⟨f0,f1,f2,f3,f4,f5⟩:=hf it (by simp)
  refine ST.pL (I.ok.hd hc) st (show s.heap.get? d=some (ST.dO es ep) from (I.hok d _ hg.1).1) (fun e hi h' sb g=>?_) fun hn h' kp=>⟨rfl,I.turned (t':=s.toks) (fun b o hb e=>kp b o hb e) f0 f1 f3 f4 f5⟩
  exfalso
  rw [← Ym] at hi
  obtain ⟨q,hq,hk⟩:=mR he hi
  have:=(Zj.mp hq).1
  have h2:=hg.2
  rw [YE rel] at h2
  lia
 self:=fun _ _ _ _ _ st hQ=>wpAny_pyIter_slot ⟨_,st,rfl⟩ F.slot_dict_keyiterator_iter (Xs F.slot_dict_keyiterator_iter ⟨_,st,rfl⟩ F.entry_dict_keyiterator_iter (show wpAny _ _ (ret (.ref it)) _ _ _ from Zc ⟨_,rfl, "dict_keyiterator",_,⟨_,st,rfl⟩,YM.lookup,hQ⟩) (F.args_dict_keyiterator_iter_1 _))
noncomputable def iDk (tl:TE):TI:=fun σ H R=>tl σ H fun x H1=>∃ d kvs,x=.ref d/\H1 d=some (.dK kvs)/\∀ o,R (Itk d o kvs) (upd H1 d (.frz o (.dK kvs)))
theorem Cu {l:Expr} {tl:TE} (hl:PE X l tl):PI X tg l (iDk tl):=by
 intro pins s σ H R I h
 refine thn (hl pins s σ H _ I h) fun v s1 ⟨x,H1,I1,r1,q1⟩=>?_
 obtain ⟨d,kvs,ex,e,q⟩:=q1
 subst ex
 cases r1
 obtain ⟨z,y,xs,rel,o,es,ep,g,ex,hd,_,he,hn⟩:=pN I1.hok e
 have eo:=u6 ex hd
 subst eo
 refine ST.uu y g ?_
 refine ⟨s1.heap.objs.size,[s1.heap.objs.size],_,_,_,rfl,(nH I1 e g).kept (t':=s1.toks) fun b o e=>Zl _ e,AY d _ rel he,ZV _ rfl,fun b hb=>?_,q _⟩
 have eb:b=s1.heap.objs.size:=by simpa using hb
 subst eb
 exact (nH I1 e g).fpOk (Zk _) ((nH I1 e g).hok.fresh (Zk _))
end
end L2
namespace VS
open PySem PySem.Spec PyProof.Rows L2
noncomputable def sca:T->Bool
 | .non=>true
 | .bl _=>true
 | .int _=>true
 | .str _=>true
 | _=>false
end VS
end
section
namespace L2
open PySem PySem.Spec PyProof.Rows
noncomputable def pick {α:Type} (l:List α) (is:Wv):List α:=is.filterMap (l[·]?)
noncomputable def Ek {α:Type} (l:List α) (lo hi st:Option Int):List α:=pick l (sliceRange (sliceBounds lo hi st l.length).1 (sliceBounds lo hi st l.length).2.1 (sliceBounds lo hi st l.length).2.2)
end L2
namespace VS
open PySem PySem.Spec PyProof.Rows L2
section
variable {G:Gx} {X:Cx} {a:Expr} {ca:Ex} {pos:Pos}
noncomputable def sl3 (x:Val) (l h c:Option Int):Wq:=match x with
 | (_,.lst ts)=>if ts.all sca/\c ≠ some 0 then some (.fr,.lst (Ek ts l h c)) else none
 | _=>none
end
end VS
end
section
namespace L2
open PySem PySem.Spec PyProof.Rows
end L2
namespace VS
open PySem PySem.Spec PyProof.Rows L2
end VS
end
section
namespace ST
open PySem PySem.Spec PyProof.Rows
variable {prog:Program} {w:World} {A:Around} {E:Z2} {s:Shared}
end ST
namespace L2
open PySem PySem.Spec PyProof.Rows TS
end L2
namespace VS
open PySem PySem.Spec PyProof.Rows L2
end VS
end
section
namespace L2
theorem Ag {α:Type} {n:Nat} {us:List α} (hl:us.length=n+1):∃ a t,us=a :: t/\t.length=n:=by
 obtain ⟨a,t,e⟩:=List.exists_cons_of_length_eq_add_one hl
 subst e
 exact ⟨a,t,rfl,Nat.succ.inj hl⟩
theorem kX {α:Type} {us:List α} (hl:us.length=1):∃ a,us=[a]:=List.length_eq_one_iff.mp hl
theorem fC {α:Type} {us:List α} (hl:us.length=2):∃ a b,us=[a,b]:=by
 obtain ⟨a,t,rfl,ht⟩:=Ag hl
 obtain ⟨b,rfl⟩:=kX ht
 exact ⟨a,b,rfl⟩
theorem sC {α:Type} {us:List α} (hl:us.length=3):∃ a b c,us=[a,b,c]:=by
 obtain ⟨a,t,rfl,ht⟩:=Ag hl
 obtain ⟨b,c,rfl⟩:=fC ht
 exact ⟨a,b,c,rfl⟩
theorem Ck {α:Type} {us:List α} (hl:us.length=4):∃ a b c d,us=[a,b,c,d]:=by
 obtain ⟨a,t,rfl,ht⟩:=Ag hl
 obtain ⟨b,c,d,rfl⟩:=sC ht
 exact ⟨a,b,c,d,rfl⟩
end L2
end
section
namespace ST
open PySem PySem.Spec PyProof.Rows
variable {prog:Program} {w:World} {A:Around} {E:Z2} {s:Shared}
end ST
namespace VS
end VS
namespace VS
open PySem PySem.Spec PyProof.Rows L2
end VS
end
section
namespace XN
open PySem PySem.Spec PyProof.Rows L2
end XN
end
section
namespace VS
open PySem PySem.Spec PyProof.Rows L2 XN
inductive Res where | ok (v:Val) | ex (x:Str)
inductive OutX where | ok (o:Out) | ex (x:Str) (η:VS.Env)
noncomputable abbrev ExX:=VS.Env->Option Res
noncomputable abbrev SxX:=VS.Env->Option OutX
end VS
end
section
namespace XN
open PySem PySem.Spec PyProof.Rows L2
end XN
namespace VS
open PySem PySem.Spec PyProof.Rows L2 XN
end VS
end
section
namespace XN
open PySem PySem.Spec PyProof.Rows L2
end XN
namespace VS
open PySem PySem.Spec PyProof.Rows L2 XN
end VS
end
section
namespace XN
open PySem PySem.Spec PyProof.Rows L2 PySem.W
end XN
namespace VS
open PySem PySem.Spec PyProof.Rows L2 XN
end VS
end
section
namespace VS
open PySem PySem.Spec PyProof.Rows L2 XN PySem.F
section
variable {P:Program} {w:World} {K:X4} {mg:Wz} {base:Heap}
noncomputable def yE:Fn:=fun ts=>match ts with
 | [.scr _]=>some (.fr,.bl true)
 | _=>none
end
end VS
end
section
namespace VS
open PySem PySem.Spec PyProof.Rows L2 XN
end VS
end
section
namespace VS
open PySem PySem.Spec PyProof.Rows L2
end VS
end
section
namespace VS
open PySem PySem.Spec PyProof.Rows L2 PySem.Builtin.Str PySem.StrLaws
end VS
end
section
namespace VS
open PySem PySem.Spec PyProof.Rows L2 XN
end VS
end
section
namespace L2
open PySem PySem.Spec PyProof.Rows
end L2
namespace VS
open PySem PySem.Spec PyProof.Rows L2
end VS
end
section
namespace TS
open PySem PySem.Spec PyProof.Rows
variable {prog:Program} {w:World} {A:Around} {E:Z2} {s:Shared}
theorem sq {us:Wx} (hv:∀ v∈us,∃ x t,v=Value.str x t) {xs:Array Keyed} (hp:xs.Perm (pairsOf us)) (hs:SortedToK strKind xs (pairsOf us).size):((xs.map (·.2)).toList.map strOf).Pairwise (fun a b=>¬ b.cps.toList < a.cps.toList):=by
 obtain ⟨p1,p2⟩:=nh hp
 rw [X0,List.pairwise_iff_getElem]
 intro i j hi hj hij
 have key:∀ i (h:i < (xs.map (·.2)).toList.length),KK strKind xs i=(strOf (xs.map (·.2)).toList[i]).cps.toList:=fun i h=>by
  have e:xs[i]?=some ((xs.map (·.2)).toList[i],(xs.map (·.2)).toList[i]):=by
   rw [← Ym,← p2,ZP,Zo h]
   rfl
  obtain ⟨x,t,ex⟩:=hv _ (p1.mem_iff.mp (Z6 h))
  unfold KK
  rw [e]
  rw [ex]
  rfl
 have q:=hs i j (XA hij) (by rw [← hp.size_eq];simpa using hj)
 rw [key i hi,key j hj] at q
 exact of_decide_eq_false q
theorem n0 {x:Value} {Q:Z2}
  (hcol:∀ (A':Around) (E':Z2),A'.handled=A.handled->wpAny (model prog w) A' (collect x) (fun us s1=>(∀ v∈us,∃ x t,v=Value.str x t)/\us.length < 64/\∀ (out:Wx) (h':Heap) (e:Nat),out.Perm us->(out.map strOf).Pairwise (fun a b=>¬ b.cps.toList < a.cps.toList)->(∀ b o,s1.heap.get? b=some o->h'.get? b=some o)->h'.get? s1.heap.objs.size=some (seqObj "list" out.toArray e)->Q (.ref s1.heap.objs.size) { s1 with heap:=h' }) E' s) :
  wpAny (model prog w) A (call (.builtin "sorted") [x]) Q E s:=by
 refine Calls.call_function_entry kind_sorted plain_sorted entry_sorted (args_sorted1 _) (show wpAny _ _ (Builtin.«sorted» _) _ _ _ from ?_)
 unfold Builtin.«sorted»
 refine Zq (m:=checkCount "sorted" 1 1 _) (Zc (Zq (YV (hcol A.in1 (fun _ _=>False) rfl) ?_ fun _ _ e=>e.elim)))
 rintro vs s1 ⟨hv,h64,h⟩
 refine Zq (wpAny_newList ?_ (by show vs.length<=sizeLine;rw [Y2];omega))
 have hoL:(s1.heap.push (seqObj "list" vs.toArray 0)).get? s1.heap.objs.size=some (seqObj "list" vs.toArray 0):=ZV _ rfl
 show wpAny _ _ _ _ _ { s1 with heap:=s1.heap.push (seqObj "list" vs.toArray 0) }
 refine Zq (Xq (Xs slot_list_sort ⟨_,hoL,rfl⟩ entry_list_sort (list_sort_treeK strKind_oneLt hoL (strsAre_map _ hv).keysOf (fun v₁ v₂ rest e=>keyKind_strs (by rw [← e];exact strsAre_map _ hv)) h64 fun st' a1 a2=>⟨_,rfl,?_⟩) (args_list_sort _)))
 obtain ⟨e,he⟩:=sortedHeap_at (out:=(arrOf st').map (·.2)) hoL
 exact Zc ⟨_,rfl,h ((arrOf st').map (·.2)).toList _ e (nh a1).1 (sq hv a1 a2) (fun b o eb=>by
  have hb:=ZU eb
  show (sortedHeap (s1.heap.push (seqObj "list" vs.toArray 0)) s1.heap.objs.size vs ((arrOf st').map (·.2))).get? b=some o
  rw [sortedHeap_old (ZS hb) (by rw [size_push'];exact XB hb),Heap.get?_push_ne _ _ _ (ZS hb)]
  exact eb) he⟩
end TS
namespace L2
open PySem PySem.Spec PyProof.Rows TS
section
variable {X:Cx}
theorem iX (hc:X.calm=true):dJ X (.builtin "sorted") (fun xs H Q=>∃ p,∃ (ss:List Str) (vs:List V),xs=[.ref p]/\ss.length < 64/\ss.length=vs.length/\H p=some (.dK ((ss.map Sum.inr).zip vs)) ∧
  ∀ (l:Addr) (ss':List Str),H l=none->ss'.Perm ss->ss'.Pairwise (fun a b=>¬ b.cps.toList < a.cps.toList)->Q (.ref l) (upd H l (.lst (ss'.map V.str)))):=by
 intro pins s σ H xs us Q I rx h
 obtain ⟨p,ss,vs,rfl,h64,hl,hq,q⟩:=h
 obtain ⟨u,rfl,ru⟩:=rx.one
 cases ru
 obtain ⟨hz,hS,kvs,rel,dd⟩:=pN I.hok hq
 obtain ⟨ep,dd⟩:=dd.dictAt
 have hkl:kvs.length=ss.length:=by
  have:=rel.length
  rw [Yw,Zv] at this
  lia
 have hky:∀ i:Nat,(kvs[i]?).map (fun x=>x.1)=(ss[i]?).map (Sum.inr:Str->Key):=fun i=>by
  have h1:((kvs.map (·.1)))[i]?=(ss.map (Sum.inr:Str->Key))[i]?:=by
   rw [← rel.keys]
   rw [X8 (by rw [Zv];exact Xc hl)]
  rw [ZP,ZP] at h1
  exact h1
 refine TS.n0 fun A' E' hA=>PySem.W.kdu_collect (PySem.W.kdl_dict hS) (hA.trans (I.ok.hd hc)) dd (by rw [Yw,Zv] at hz;lia) fun h' tk acc kp hacc=>?_
 have I1:Inv X pins σ H { s with heap:=h',toks:=tk }:=I.kept kp
 have hal:acc.toList.length=ss.length:=by rw [YZ,hacc.1,hkl]
 have each:∀ i v,acc.toList[i]?=some v->∃ x t,v=Value.str x t/\ss[i]?=some x:=fun i v hv=>by
  rw [Ym] at hv
  obtain ⟨k,x,e1,e2⟩:=hacc.2 i v hv
  have e3:=hky i
  rw [e1] at e3
  cases e4:ss[i]? with
  | none=>rw [e4] at e3;cases e3
  | some y =>
   rw [e4] at e3
   have e5:k=Sum.inr y:=Zn e3
   subst e5
   obtain ⟨t,rfl⟩:=Value.isStrOf_shape (show Value.isStrOf y v=true from e2)
   exact ⟨y,t,rfl,e4⟩
 have hv:∀ v∈acc.toList,∃ x t,v=Value.str x t:=fun v hm=>by
  obtain ⟨i,hi,e⟩:=List.getElem_of_mem hm
  obtain ⟨x,t,e1,_⟩:=each i v (by rw [Zo hi,e])
  exact ⟨x,t,e1⟩
 have es:acc.toList.map strOf=ss:=by
  apply List.ext_getElem?
  intro i
  rw [ZP]
  cases e:acc.toList[i]? with
  | none =>
   have:acc.toList.length<=i:=Yu.mp e
   rw [Yu.mpr (by lia)]
   rfl
  | some v =>
   obtain ⟨x,t,rfl,e1⟩:=each i v e
   rw [e1]
   rfl
 refine ⟨hv,by omega,fun out h2 e o1 o2 kp2 he=>?_⟩
 have hv':∀ v∈out,∃ x t,v=Value.str x t:=fun v hm=>hv v (o1.mem_iff.mp hm)
 have hz2:((out.map strOf).map V.str).length<=sizeLine:=by rw [Zv,Zv,o1.length_eq,hal,Y2];omega
 exact ⟨.ref h'.objs.size,_,I1.laid (t':=tk) kp2 (Zk _) (show cy X.prog X.w _ h2 _ (.lst ((out.map strOf).map V.str)) from ⟨hz2,out,e,oQ hv',he⟩),rfl,q _ _ (I1.hok.fresh (Zk _)) (by rw [← es];exact o1.map _) o2⟩
end
end L2
namespace VS
open PySem PySem.Spec PyProof.Rows L2
section
variable {G:Gx} {X:Cx} {e:Expr} {cs:Exs} {p pos:Pos}
noncomputable def fL:Wr->Wq
 | [(_,.dct 0 l)]=>(strs? (l.map (·.1))).bind fun ss=>if ss.length < 64/\ss.all txB=true then some (.fr,.lst ((eO ss).map .str)) else none
 | _=>none
theorem vz:fi G (fun xs H Q=>∃ p,∃ (ss:List Str) (vs:List V),xs=[.ref p]/\ss.length < 64/\ss.length=vs.length/\H p=some (.dK ((ss.map Sum.inr).zip vs)) ∧
  ∀ (l:Addr) (ss':List Str),H l=none->ss'.Perm ss->ss'.Pairwise (fun a b=>¬ b.cps.toList < a.cps.toList)->Q (.ref l) (upd H l (.lst (ss'.map V.str)))) fL:=by
 intro Φ η H0 H l vs Fs m t Q A e k
 unfold fL at e
 split at e
 ·rename_i mx x
  obtain ⟨ss,e1,e2⟩:=Zz.mp e
  split at e2
  ·rename_i hb
   cases e2
   obtain ⟨v,F,rfl,rfl,rx⟩:=(show RpL G H vs [.dct 0 x] Fs from A.rp).one
   obtain ⟨a,ks,ys,ts,Gs,rfl,rfl,ha,hl,rfl,ra⟩:=eT rx
   have hl2:ks.length=ts.length:=by rw [hl,ra.len.1]
   have e3:((ks.map ba).zip ts).map (·.1)=ks.map ba:=X8 (by rw [Zv];exact Xc hl2)
   rw [e3] at e1
   have e4:=keys_str e1
   refine ⟨a,ss.map sx,ys,rfl,by rw [Zv];exact hb.1,?_,by rw [← e4];exact ha,vY k A.same fun s hs=>BI (Yv.mp hb.2 s hs)⟩
   rw [← hl,e4,Zv,Zv,Zv]
  ·cases e2
 ·cases e
theorem xH (hm:X.mg "sorted" = none) (ha:PVs G X [e] cs) (hg:Gl X "sorted" := by rfl) (hK:X.K=G.K:=by rfl) (hc:X.calm=true:=by rfl) (he:starEach [e] X.env=(false,eval e X.env) :: starEach [] X.env:=by rfl):PV G X (.Call (.Name "sorted" p) [e] [] pos) (eN fL cs) :=
 ik (iX hc) vz hg hm sV ha (he:=he) (hpl:=rfl)
end
@[simp] noncomputable def isT:T->Bool
 | .bl true=>true
 | _=>false
mutual
@[simp] noncomputable def eE:T->Bool
 | .tup l=>bw l
 | .lst l=>bw l
 | .dct _ l=>m9 l
 | .obj _ l=>cZ l
 | _=>true
@[simp] noncomputable def bw:Wp->Bool
 | []=>true
 | t :: r=>eE t && bw r
@[simp] noncomputable def m9:List (T×T)->Bool
 | []=>true
 | (_,v) :: r=>eE v && m9 r
@[simp] noncomputable def cZ:List (Nat×T)->Bool
 | []=>true
 | (n,v) :: r=>(eE v && !(n == 0 && isT v)) && cZ r
end
theorem gE:∀ {ks:Wp} {ts:Wp},ks.length=ts.length->m9 (ks.zip ts)=true->bw ts=true
 | [],[],_,_=>rfl
 | _ :: _,[],h,_=>by simp at h
 | [],_ :: _,h,_=>by simp at h
 | k :: ks,t :: ts,h,e=>by
  rw [Zd,m9,Zf] at e
  rw [bw,Zf]
  exact ⟨e.1,gE (by simpa using h) e.2⟩
theorem eu:∀ {ks:Wv} {ts:Wp},ks.length=ts.length->cZ (ks.zip ts)=true->bw ts=true
 | [],[],_,_=>rfl
 | _ :: _,[],h,_=>by simp at h
 | [],_ :: _,h,_=>by simp at h
 | k :: ks,t :: ts,h,e=>by
  rw [Zd,cZ,Zf,Zf] at e
  rw [bw,Zf]
  exact ⟨e.1.1,eu (by simpa using h) e.2⟩
section
variable {G:Gx} {H:Hp}
theorem Rp.at {v:V} {t:T} {F:Wy} (m:Me) (r:Rp G H v t F):eE t=true->Rp (G.at m) H v t F :=
 Rp.rec (G:=G) (H:=H) (motive_1:=fun v t F _=>eE t=true->Rp (G.at m) H v t F) (motive_2:=fun vs ts Fs _=>bw ts=true->RpL (G.at m) H vs ts Fs)
  (fun _=>.non) (fun b _=>.bl b) (fun i _=>.int i) (fun s h _=>.str s h) (fun h _=>.scr h) (fun h _ ih f=>.tup h (ih (by simpa using f))) (fun h _ ih f=>.lst h (ih (by simpa using f)))
  (fun h l q ih f=>.dct h l (ih (gE (by rw [Zv,l];exact q.len.1) (by simpa using f)))) (fun h l q ih f=>.dctT h l (ih (gE (by rw [Zv,l];exact q.len.1) (by simpa using f))))
  (fun h l n q ih f=>.dctN h l n (ih (gE (by rw [Zv,l];exact q.len.1) (by simpa using f)))) (fun h l q ih f=>.dctZ h l (ih (gE (by rw [Zv,l];exact q.len.1) (by simpa using f)))) (fun h hc _=>.exc h hc)
  (fun {c a dx b ks vs ts Fs} h l mm q ih f=>by
   rw [eE,cZ,Zf] at f
   have hb:b=false:=by
    cases b with
    | false=>rfl
    | true=>simp at f
   refine .ins h l (fun z=>?_) (ih (eu (by rw [l];exact q.len.1) f.2))
   rw [hb] at z
   cases z)
  (fun _ _ _ f=>by simp [eE,cZ,isT] at f)
  (fun _=>.nil) (fun _ _ i1 i2 f=>by
   rw [bw,Zf] at f
   exact .cons (i1 f.1) (i2 f.2)) r
theorem RpL.at (m:Me):∀ {vs:List V} {ts:Wp} {Fs:Xd},RpL G H vs ts Fs->bw ts=true->RpL (G.at m) H vs ts Fs
 | _,_,_,.nil,_=>.nil
 | _,_,_,.cons r q,f=>by
  rw [bw,Zf] at f
  exact .cons (r.at m f.1) (RpL.at m q f.2)
mutual
theorem jQ:∀ t:T,imm t=true->eE t=true
 | .non,_=>rfl
 | .bl _,_=>rfl
 | .int _,_=>rfl
 | .str _,_=>rfl
 | .scr _,_=>rfl
 | .tup l,h=>by
  rw [eE]
  exact rD l (by simpa using h)
 | .lst _,h=>by simp at h
 | .dct _ _,h=>by simp at h
 | .obj _ _,h=>by simp at h
theorem rD:∀ l:Wp,fj l=true->bw l=true
 | [],_=>rfl
 | t :: l,h=>by
  rw [fj,Zf] at h
  rw [bw,Zf]
  exact ⟨jQ t h.1,rD l h.2⟩
end
end
noncomputable def nI (k:Nat):T->Option T
 | .obj (_+1) (_ :: fs)=>(fs.findIdx? fun p=>p.1 == k).bind fun i=>(fs[i]?).map (·.2)
 | _=>none
noncomputable def bc (k:Nat) (a:Ex):Ex:=fun η=>(a η).bind fun x=>(nI k x.2).map fun t=>sub x.1 t
section
variable {G:Gx} {X:Cx} {a e o:Expr} {ca ce:Ex} {k i:Nat} {f x:Str} {pos pos' p1:Pos}
theorem w_fld (J:ft G) (F:FldOk G X.K k f) (ha:PV G X a ca) (hb:attributeBase a f X.env (eval a X.env)=eval a X.env):PV G X (.Attribute a f pos) (bc k ca) :=
 PE.weak (wa ha hb) fun σ H Q hq=>by
  obtain ⟨Φ,η,m,t,s,e,kq⟩:=hq
  unfold bc at e
  obtain ⟨⟨mx,y⟩,ea,e1⟩:=Zz.mp e
  obtain ⟨z,ez,e2⟩:=Zy.mp e1
  refine ⟨Φ,η,mx,y,s,ea,fun v H' F' sm r1 f1=>?_⟩
  unfold nI at ez
  split at ez
  ·rename_i c q0 fs hy
   dsimp only at hy
   subst hy
   obtain ⟨j,h1,e3⟩:=Zz.mp ez
   obtain ⟨p,h2,e4⟩:=Zy.mp e3
   subst e4
   obtain ⟨c',a,dx,b,ns,vs,ts,Fs,ec,rfl,rfl,rfl,rfl,hA,hl,hb,ra⟩:=dQ r1
   cases ec
   have lts:ns.length=ts.length:=hl.trans ra.len.1
   obtain ⟨k0,x0,g1,g2,g3,g4⟩:=jA (fun n=>n == k) lts h1
   have ek:k0=k:=by simpa using g3
   subst ek
   have ep:p=(k0,x0):=by
    have:(ns.zip ts)[j]?=some (k0,x0):=by rw [Ye];exact ⟨g1,g2⟩
    rw [this] at h2;exact (Zn h2).symm
   subst ep
   obtain ⟨u,Fi,u1,u2,u3⟩:=ra.get j g2
   have hlk:=oI (G:=G) (c:=c+1) J hl h1 g1 u1
   rw [F.nm c] at hlk
   refine ⟨a,_,dx,_,u,rfl,hA,F.cl c,F.no c,hlk,?_⟩
   have fp:=((f1.sub (Z1 _ _)).sub (cR u2)).up u3
   unfold VS.sub at e2
   rw [e2] at fp
   have et:x0=t:=congrArg Prod.snd e2
   rw [et] at u3
   exact kq u H' Fi sm u3 fp
  ·cases ez
noncomputable def gS (i k:Nat) (e:Ex) (η:VS.Env):Option Out:=(e η).bind fun v=>match η[i]? with
 | some (some (.ow (.obj (c+1) (q :: fs))))=>(fit v).bind fun t=>if fs.length < 900/\(fs.all fun p=>!(p.1 == k))=true then some (.nx (η.set i (some (.ow (.obj (c+1) (q :: (fs++[(k,t)]))))))) else none
 | _=>none
theorem o7 {g:Nat->Str} {k:Nat} {v:V} (J:∀ k k':Nat,g k=g k'->k=k'):∀ {ks:Wv} {vs:List V} {ts:Wp},ks.length=vs.length->ks.length=ts.length->((ks.zip ts).all fun p=>!(p.1 == k))=true->gX (g k) v ((ks.map g).zip vs)=((ks++[k]).map g).zip (vs++[v])
 | [],[],_,_,_,_=>rfl
 | [],_ :: _,_,h,_,_=>by simp at h
 | _ :: _,[],_,h,_,_=>by simp at h
 | _ :: _,_ :: _,[],_,h,_=>by simp at h
 | k0 :: ks,v0 :: vs,t0 :: ts,h1,h2,h3=>by
  rw [Zd,Xi,Zf] at h3
  have ne:g k0 ≠ g k:=fun z=>by
   have:=J _ _ z
   subst this
   simp at h3
  rw [Zm,Zd,gX,Zp ne,o7 J (by simpa using h1) (by simpa using h2) h3.2]
  rfl
theorem A4 (i k:Nat) (J:ft G) (F:FldOk G X.K k f) (he:PV G X e ce) (hN:X.N[i]?=some x) (hv:Vis X.env.scope x) (hd:(x == ("__debug__" : Str))=false) (hcd:(x == ("__classdict__" : Str))=false)
  (hs:swapsWith e (some (.Attribute (.Name x p1) f pos')) pos.line X.env=pure false):PSV G X (.Assign [.Attribute (.Name x p1) f pos'] e pos) (gS i k ce) :=
 PS.weak (Ak (fZ hN hv hd hcd) he hs) fun D σ H hq=>by
  obtain ⟨Φ,η,out,s,e,kq⟩:=hq
  unfold gS at e
  obtain ⟨⟨mv,tv⟩,ev,e⟩:=Zz.mp e
  split at e
  ·rename_i c q0 fs ht
   obtain ⟨t,et,e⟩:=Zz.mp e
   have em:=kD et
   cases em
   split at e
   ·rename_i hc
    cases e
    obtain ⟨v,g1,g2⟩:=s.rp _ _ ht
    refine ⟨Φ,η,.fr,tv,s,ev,fun y H1 Fy sm ry fy=>⟨v,g1,?_⟩⟩
    obtain ⟨c',a,dx,b,ns,vs,ts,Fs,ec,rfl,rfl,rfl,eF,hA,hl,hb,ra⟩:=dQ g2
    cases ec
    have nd:=s.nd i _ ht
    rw [eF] at nd
    have nd':=Ze.mp nd
    have hA1:H1 a=some (.ins (G.ct (c+1)).1 dx ((ns.map (G.ct (c+1)).2).zip vs)):=sm a _ hA
    have m1:Mut (H1 a):=by rw [hA1];exact True.intro
    have lts:ns.length=ts.length:=hl.trans ra.len.1
    have na:a ∉ Fy:=fun z=>by rw [fy.2 a z] at hA;cases hA
    have ln:((ns.map (G.ct (c+1)).2).zip vs).length < 1000:=by
     have:=hc.1
     rw [Yw] at this ⊢
     rw [Zv]
     lia
    refine ⟨a,_,dx,_,rfl,hA1,F.cl c,F.no c,ln,?_⟩
    have ep:=o7 (g:=(G.ct (c+1)).2) (k:=k) (v:=y) (J (c+1)) hl lts hc.2
    rw [F.nm c] at ep
    rw [ep]
    have off:∀ bb∈Fs.flatten,bb ∉ Fy:=fun bb hb hw=>Mut.ne_none (ra.dom bb hb) (fy.2 bb hw)
    have g:Chg G H (.ref a) (Φ i) (.obj (c+1) ((0,.bl b) :: (ns.zip ts++[(k,tv)]))) (upd H1 a (.ins (G.ct (c+1)).1 dx (((ns++[k]).map (G.ct (c+1)).2).zip (vs++[y])))) (a :: (Fs++[Fy]).flatten):=by
     rw [eF,show ns.zip ts++[(k,tv)]=(ns++[k]).zip (ts++[tv]) from by rw [List.zip_append lts];rfl]
     refine Chg.upd sm Zt m1 (.ins aF (by simp [hl]) hb (((ra.same sm).off m1 nd'.1).append (.cons (ry.keep (Kept.upd (.inl m1)) fun bb hb o ho=>by rw [aI (fun z=>na (by rw [← z];exact hb))];exact ho) .nil))) ?_ ?_
     ·rw [Yt]
      refine Ze.mpr ⟨fun m=>?_,ZY.mpr ⟨nd'.2,by simpa using fy.1,fun b hb c hc z=>?_⟩⟩
      ·rcases Zg.mp m with m | m
       ·exact nd'.1 m
       ·exact na (by simpa using m)
      ·subst z;exact off b hb (by simpa using hc)
     ·intro bb hb
      rcases Zi.mp hb with rfl | hb
      ·exact .inl Zt
      ·rw [Yt] at hb
       rcases Zg.mp hb with hb | hb
       ·exact .inl (Zx _ hb)
       ·exact .inr (fy.2 bb (by simpa using hb))
    obtain ⟨z1,z2⟩:=s.mut ht g1 g
    exact kq _ σ _ z1 z2
   ·cases e
  ·cases e
end
noncomputable abbrev oV:=List (Nat×T)
noncomputable def meA (a:Addr):Me:=fun k=>if k=0 then some (.ref a) else none
noncomputable abbrev Mt:=oV->Wp->Option (oV×T)
noncomputable def mvF:List Bool->Xd->Wy
 | b :: bs,F :: Fs=>(if b then F else [])++mvF bs Fs
 | _,_=>[]
noncomputable def puF:List Bool->Xd->Wy
 | b :: bs,F :: Fs=>(if b then [] else F)++puF bs Fs
 | _,_=>[]
theorem gu:∀ {mv:List Bool} {Fs:Xd} {j:Nat} {F:Wy},mv[j]?=some true->Fs[j]?=some F->F.Sublist (mvF mv Fs)
 | [],_,_,_,h,_=>by simp at h
 | _ :: _,[],_,_,_,h=>by simp at h
 | b :: bs,F0 :: Fs,0,F,h1,h2=>by
  simp at h1 h2
  subst h1 h2
  rw [mvF,Zr rfl]
  exact List.sublist_append_left _ _
 | b :: bs,F0 :: Fs,j+1,F,h1,h2=>by
  rw [mvF]
  exact (gu (by simpa using h1) (by simpa using h2)).trans (Yf _ _)
theorem nU:∀ {mv:List Bool} {Fs:Xd} {j:Nat} {F:Wy},mv[j]?=some false->Fs[j]?=some F->F.Sublist (puF mv Fs)
 | [],_,_,_,h,_=>by simp at h
 | _ :: _,[],_,_,_,h=>by simp at h
 | b :: bs,F0 :: Fs,0,F,h1,h2=>by
  simp at h1 h2
  subst h1 h2
  rw [puF]
  exact List.sublist_append_left _ _
 | b :: bs,F0 :: Fs,j+1,F,h1,h2=>by
  rw [puF]
  exact (nU (by simpa using h1) (by simpa using h2)).trans (Yf _ _)
theorem qM:∀ {mv:List Bool} {Fs:Xd} {i j:Nat} {F F':Wy},(mvF mv Fs).Nodup->mv[i]?=some true->mv[j]?=some true->Fs[i]?=some F->Fs[j]?=some F'->i ≠ j->∀ a∈F,a ∉ F'
 | [],_,_,_,_,_,_,h,_,_,_,_=>by simp at h
 | _ :: _,[],_,_,_,_,_,_,_,h,_,_=>by simp at h
 | b :: bs,F0 :: Fs,0,0,F,F',_,_,_,_,_,n=>absurd rfl n
 | b :: bs,F0 :: Fs,0,j+1,F,F',nd,h1,h2,h3,h4,n=>fun a ha ha'=>by
  simp at h1 h3
  subst h1 h3
  rw [mvF,Zr rfl,ZY] at nd
  exact nd.2.2 a ha a ((gu (by simpa using h2) (by simpa using h4)).subset ha') rfl
 | b :: bs,F0 :: Fs,i+1,0,F,F',nd,h1,h2,h3,h4,n=>fun a ha ha'=>by
  simp at h2 h4
  subst h2 h4
  rw [mvF,Zr rfl,ZY] at nd
  exact nd.2.2 a ha' a ((gu (by simpa using h1) (by simpa using h3)).subset ha) rfl
 | b :: bs,F0 :: Fs,i+1,j+1,F,F',nd,h1,h2,h3,h4,n=>by
  rw [mvF,ZY] at nd
  exact qM nd.2.1 (by simpa using h1) (by simpa using h2) (by simpa using h3) (by simpa using h4) (by lia)
theorem rR:∀ {mv:List Bool} {Fs:Xd} {a:Addr},a∈mvF mv Fs->∃ (j:Nat) (F:Wy),mv[j]?=some true/\Fs[j]?=some F/\a∈F
 | [],_,_,h=>by simp [mvF] at h
 | _ :: _,[],_,h=>by simp [mvF] at h
 | b :: bs,F0 :: Fs,a,h=>by
  rw [mvF] at h
  rcases Zg.mp h with h | h
  ·cases b with
   | true=>exact ⟨0,F0,rfl,rfl,h⟩
   | false=>simp at h
  ·obtain ⟨j,F,h1,h2,h3⟩:=rR h
   exact ⟨j+1,F,by simpa using h1,by simpa using h2,h3⟩
noncomputable def g8 (b:Bool) (t:T):Ws:=some (if b then .ow t else .pu t)
noncomputable def uB (c:Nat) (η:VS.Env):Option oV:=match (η[(0:Nat)]?:Option (Ws)) with
 | some (some (.ow (.obj c' ((0,.bl true) :: fs))))=>if c'=c+1 then some fs else none
 | _=>none
noncomputable def mfn (c np nn:Nat) (mv:List Bool) (body:Sx):Mt:=fun fs ts=>if ts.length+1=np/\mv.length=ts.length then
 (body ((some (.ow (.obj (c+1) ((0,.bl true) :: fs))) :: List.zipWith g8 mv ts)++List.replicate (nn - np) none)).bind fun o=>match o with
  | .rt v η=>(uB c η).bind fun fs'=>if imm v.2 then some (fs',v.2) else none
  | .nx η=>(uB c η).map fun fs'=>(fs',.non)
  | _=>none else none
noncomputable def spM (G:Gx) (c:Nat) (mv:List Bool) (g:Mt):Sp:=fun vs H Q _=>∃ (a:Addr) (us:List V) (fs:oV) (ts:Wp) (F:Wy) (Fs:Xd) (fs':oV) (x:T),vs=.ref a :: us/\Rp (G.at (meA a)) H (.ref a) (.obj (c+1) ((0,.bl true) :: fs)) F ∧
 RpL (G.at (meA a)) H us ts Fs/\mv.length=ts.length/\(F++mvF mv Fs).Nodup/\(∀ b∈F++mvF mv Fs,b ∉ puF mv Fs)/\g fs ts=some (fs',x) ∧
 ∀ u H' F',Chg (G.at (meA a)) H (.ref a) (F++mvF mv Fs) (.obj (c+1) ((0,.bl true) :: fs')) H' F'->Rp (G.at (meA a)) H' u x []->Q u H'
section
variable {G:Gx} {H:Hp}
theorem pD {v:V} {us:List V} {t:T} {ts:Wp} {F:Wy} {Fs:Xd} {mv:List Bool} (r0:Rp G H v t F) (r:RpL G H us ts Fs) (hm:mv.length=ts.length) (nd:(F++mvF mv Fs).Nodup) (sp:∀ b∈F++mvF mv Fs,b ∉ puF mv Fs) (n nv:Nat) (hn:nv=us.length+1) :
  SR G (fun i=>(F :: Fs).getD i []) ((some (.ow t) :: List.zipWith g8 mv ts)++List.replicate (n - (ts.length+1)) none) ((v :: us).map some++List.replicate (n - nv) none) H ∧
  ∀ a,cK (fun i=>(F :: Fs).getD i []) ((some (.ow t) :: List.zipWith g8 mv ts)++List.replicate (n - (ts.length+1)) none) a->a∈F++mvF mv Fs:=by
 subst hn
 have hl:=r.len
 have zl:(List.zipWith g8 mv ts).length=ts.length:=by rw [List.length_zipWith,hm,Nat.min_self]
 have back:∀ {i:Nat} {c:Cell},((some (Cell.ow t) :: List.zipWith g8 mv ts)++List.replicate (n - (ts.length+1)) none)[i]?=some (some c)->(i=0/\c=.ow t)\/∃ (j:Nat) (b:Bool) (u:T),i=j+1/\mv[j]?=some b/\ts[j]?=some u/\c=(if b then .ow u else .pu u):=fun {i c} h=>by
  cases i with
  | zero=>exact .inl ⟨rfl,(Zn (Zn h)).symm⟩
  | succ j =>
   rw [Xe,List.getElem?_cons_succ] at h
   by_cases hj:j < ts.length
   ·rw [ZI (by rw [zl];exact hj),List.getElem?_zipWith] at h
    have e1:mv[j]?=some mv[j]:=Zo (by rw [hm];exact hj)
    have e2:ts[j]?=some ts[j]:=Zo hj
    rw [e1,e2] at h
    exact .inr ⟨j,_,_,rfl,e1,e2,(Zn (Zn h)).symm⟩
   ·rw [Z0 (by rw [zl];exact ZK hj),Yi] at h
    split at h <;> cases h
 have fp:∀ {j:Nat} {u:T},ts[j]?=some u->∃ w Fj,us[j]?=some w/\Fs[j]?=some Fj/\Rp G H w u Fj:=fun {j u} h=>r.get j h
 have ow:∀ {i:Nat} {u:T},((some (Cell.ow t) :: List.zipWith g8 mv ts)++List.replicate (n - (ts.length+1)) none)[i]?=some (some (.ow u))->i=0\/∃ j:Nat,i=j+1/\mv[j]?=some true/\ts[j]?=some u:=fun {i u} h=>by
  rcases back h with ⟨h1,h2⟩ | ⟨j,b,u',h1,h2,h3,h4⟩
  ·exact .inl h1
  ·cases b with
   | true=>cases h4;exact .inr ⟨j,h1,h2,h3⟩
   | false=>cases h4
 rw [ZY] at nd
 refine ⟨⟨?_,fun i c h=>?_,fun i u h=>?_,fun i j u c h1 h2 n=>?_⟩,fun a ⟨i,u,h1,h2⟩=>?_⟩
 ·simp [zl];lia
 ·rcases back h with ⟨rfl,rfl⟩ | ⟨j,b,u,rfl,h2,h3,h4⟩
  ·exact ⟨v,rfl,r0⟩
  ·obtain ⟨w,Fj,g1,g2,g3⟩:=fp h3
   refine ⟨w,?_,?_⟩
   ·rw [Zm,Xe,List.getElem?_cons_succ,ZI (by rw [Zv];exact (Zj.mp g1).1),ZP,g1]
    rfl
   ·show Rp G H w (jq c) ((F :: Fs).getD (j+1) [])
    rw [Ya,Zu,g2,h4]
    cases b <;> exact g3
 ·rcases ow h with rfl | ⟨j,rfl,h2,h3⟩
  ·exact nd.1
  ·obtain ⟨w,Fj,g1,g2,g3⟩:=fp h3
   show ((F :: Fs).getD (j+1) []).Nodup
   rw [Ya,Zu,g2]
   exact nd.2.1.sublist (gu h2 g2)
 ·rcases ow h1 with rfl | ⟨i',rfl,a2,a3⟩
  ·rcases back h2 with ⟨rfl,_⟩ | ⟨j',b,u',rfl,b2,b3,_⟩
   ·exact absurd rfl n
   ·obtain ⟨w,Fj,g1,g2,g3⟩:=fp b3
    intro a ha
    show a ∉ (F :: Fs).getD (j'+1) []
    rw [Ya,Zu,g2]
    intro ha'
    cases b with
    | true=>exact nd.2.2 a ha a ((gu b2 g2).subset ha') rfl
    | false=>exact sp a (Z9 _ ha) ((nU b2 g2).subset ha')
  ·obtain ⟨w,Fi,g1,g2,g3⟩:=fp a3
   have ei:(F :: Fs).getD (i'+1) []=Fi:=by rw [Ya,Zu,g2];rfl
   show ∀ a∈(F :: Fs).getD (i'+1) [],_
   rw [ei]
   rcases back h2 with ⟨rfl,_⟩ | ⟨j',b,u',rfl,b2,b3,_⟩
   ·exact fun a ha ha'=>nd.2.2 a ha' a ((gu a2 g2).subset ha) rfl
   ·obtain ⟨w',Fj,k1,k2,k3⟩:=fp b3
    intro a ha
    show a ∉ (F :: Fs).getD (j'+1) []
    rw [Ya,Zu,k2]
    intro ha'
    cases b with
    | true=>exact qM nd.2.1 a2 b2 g2 k2 (fun z=>n (by rw [z])) a ha ha'
    | false=>exact sp a (ZW _ ((gu a2 g2).subset ha)) ((nU b2 k2).subset ha')
 ·rcases ow h1 with rfl | ⟨j,rfl,h3,h4⟩
  ·exact Z9 _ h2
  ·obtain ⟨w,Fj,g1,g2,g3⟩:=fp h4
   have h2':a∈(F :: Fs).getD (j+1) []:=h2
   rw [Ya,Zu,g2] at h2'
   exact ZW _ ((gu h3 g2).subset h2')
theorem wx {c:Nat} {η:VS.Env} {fs:oV} (h:uB c η=some fs):η[0]?=some (some (.ow (.obj (c+1) ((0,.bl true) :: fs)))):=by
 unfold uB at h
 split at h
 ·rename_i c' fs' e
  split at h
  ·rename_i hc
   cases h
   rw [e,hc]
  ·cases h
 ·cases h
end
section
variable {G:Gx} {P:Program} {w:World} {K:X4} {mg:Wz} {base:Heap}
theorem DT {qual:Str} {st:Stmt} {f:Addr} {fd:FuncData} {N ps:List Str} {k np nn c:Nat} {mv:List Bool} {body:Sx} (ok:∀ {sp:Sp},(∀ vs H Q E,sp vs H Q E->vs.length=ps.length)->(∀ (cdv:Value) (A:Around) (outer:List PySem.Env) (s:Shared) (H:Hp) (vs:List V) (Q:VK) (E:XK),Room k (A.deeper (envOfC qual (af st) s.heap.objs.size f cdv))->sp vs H Q E →
   ∃ t,PSs (fo CX0 P w K mg base N qual (af st) f cdv A outer s H E).nox (au st) t/\t { nx:=fun _ H'=>Q .non H',rt:=Q } (L2.start N vs) H)->FnOk P w K mg base CX0 (k+1) f fd ps sp) (hp:ps.length=np) (hn:N.length=nn)
  (hb:∀ (a:Addr) (cdv:Value) (A:Around) (outer:List PySem.Env) (s:Shared) (H:Hp) (E:XK),Room k (A.deeper (envOfC qual (af st) s.heap.objs.size f cdv))->cB (G.at (meA a)) (fo CX0 P w K mg base N qual (af st) f cdv A outer s H E).nox (au st) body) :
  FnOk P w K mg base CX0 (k+1) f fd ps (spM G c mv (mfn c np nn mv body)):=by
 refine ok (fun vs H Q E h=>?_) fun cdv A outer s H vs Q E hr h=>?_
 ·obtain ⟨a,us,fs,ts,F,Fs,fs',y,rfl,r0,r,hm,nd,sp,e,q⟩:=h
  unfold mfn at e
  split at e
  ·rename_i hl
   rw [Za,r.len.1,hl.1,hp]
  ·cases e
 ·obtain ⟨a,us,fs,ts,F,Fs,fs',y,rfl,r0,r,hm,nd,sp,e,q⟩:=h
  refine ⟨_,hb a cdv A outer s H E hr,?_⟩
  unfold mfn at e
  split at e
  ·rename_i hl
   obtain ⟨o,e1,e2⟩:=Zz.mp e
   obtain ⟨s0,ow0⟩:=pD r0 r hm nd sp nn (us.length+1) rfl
   rw [hl.1] at s0 ow0
   have e3:L2.start N (V.ref a :: us)=(V.ref a :: us).map some++List.replicate (nn - (us.length+1)) none:=by
    unfold L2.start
    rw [hn]
    rfl
   rw [e3]
   have fin:∀ {η':VS.Env} {Φ':Fps} {σ':L2.St} {H':Hp},uB c η'=some fs'->SR (G.at (meA a)) Φ' η' σ' H'->Frm (fun i=>(F :: Fs).getD i []) ((some (.ow (.obj (c+1) ((0,.bl true) :: fs))) :: List.zipWith g8 mv ts)++List.replicate (nn - np) none) H Φ' η' H' →
     Chg (G.at (meA a)) H (.ref a) (F++mvF mv Fs) (.obj (c+1) ((0,.bl true) :: fs')) H' (Φ' 0):=fun {η' Φ' σ' H'} hme s' fr=>by
    have h0:=wx hme
    obtain ⟨v',g1,g2⟩:=s'.rp 0 _ h0
    have g2':Rp (G.at (meA a)) H' v' (.obj (c+1) ((0,.bl true) :: fs')) (Φ' 0):=g2
    obtain ⟨c',a',dx,b,ns,vs,ts',Fs',ec,rfl,eb,_,eF,hA,hl',hb',ra⟩:=dQ g2'
    have hb1:b=true:=by cases eb;rfl
    have ea:some (V.ref a)=some (V.ref a'):=hb' hb1
    cases ea
    refine ⟨fr.kept,fun b' o' hb' ho=>(fr.keep b' o' ho fun z=>hb' (ow0 b' z)).1,fr.dom,g2',s'.nd 0 _ h0,fun b' hb'=>?_⟩
    rcases fr.ow b' ⟨0,_,h0,hb'⟩ with z | z
    ·exact .inl (ow0 b' z)
    ·exact .inr z
   refine ⟨_,_,o,s0,e1,?_⟩
   cases o with
   | nx η' =>
    obtain ⟨fs2,e4,e5⟩:=Zy.mp e2
    cases e5
    intro Φ' σ' H' s' fr
    exact q .non H' _ (fin e4 s' fr) .non
   | rt v η' =>
    obtain ⟨fs2,e4,e5⟩:=Zz.mp e2
    split at e5
    ·rename_i hi
     cases e5
     intro u H' F' Φ' σ' s' fr r' rf
     have:=r'.imm hi
     subst this
     exact q u H' _ (fin e4 s' fr) r'
    ·cases e5
   | bk η'=>cases e2
   | ct η'=>cases e2
  ·cases e
theorem fnM {x qual:Str} {st:Stmt} {f:Addr} {fd:FuncData} {N ps:List Str} {k np nn c:Nat} {mv:List Bool} {body:Sx} (F:Fun K x qual st f fd) (S:FnScope N ps (af st)) (hp:ps.length=np) (hn:N.length=nn)
  (hb:∀ (a:Addr) (cdv:Value) (A:Around) (outer:List PySem.Env) (s:Shared) (H:Hp) (E:XK),Room k (A.deeper (envOfC qual (af st) s.heap.objs.size f cdv))->cB (G.at (meA a)) (fo CX0 P w K mg base N qual (af st) f cdv A outer s H E).nox (au st) body) :
  FnOk P w K mg base CX0 (k+1) f fd ps (spM G c mv (mfn c np nn mv body)):=DT (fun l b=>F.ok S l b) hp hn hb
structure FunD (K:X4) (x qual:Str) (st:Stmt) (f:Addr) (fd:FuncData):Prop where
 ex:∃ (T:Addr) (oc:Value) (od:Option Addr) (kV doc pm:Value) (an:Option Addr) (cdv ct:Value) (osl:Array (Ww)) (o:Obj) (n:Nat),
  fd=PySem.W.fnOf x qual (aB st) (au st) (af st) (.ref T) kV doc pm an cdv ct/\K.lookup f=some ⟨oc,od,.func fd,osl⟩/\PySem.W.codeIn K cdv qual=true/\K.lookup T=some o/\o.data=.seq #[.none] n
 kp:PySem.W.keepIn K (.ref f)=true
theorem FunD.ok {x qual:Str} {st:Stmt} {f:Addr} {fd:FuncData} {N ps:List Str} {k:Nat} {sp:Sp} (F:FunD K x qual st f fd) (S:FnScope N ps (af st)) (len:∀ vs H Q E,sp vs H Q E->vs.length=ps.length)
  (hbody:∀ (cdv:Value) (A:Around) (outer:List PySem.Env) (s:Shared) (H:Hp) (vs:List V) (Q:VK) (E:XK),Room k (A.deeper (envOfC qual (af st) s.heap.objs.size f cdv))->sp vs H Q E →
   ∃ t,PSs (fo CX0 P w K mg base N qual (af st) f cdv A outer s H E).nox (au st) t/\t { nx:=fun _ H'=>Q .non H',rt:=Q } (L2.start N vs) H):FnOk P w K mg base CX0 (k+1) f fd ps sp:=by
 obtain ⟨T,oc,od,kV,doc,pm,an,cdv,ct,osl,o,n,rfl,lk,hcd,_⟩:=F.ex
 refine zv lk hcd S len fun A outer s H vs Q E hr hsp=>?_
 obtain ⟨t,h,q⟩:=hbody cdv A outer s H vs Q E hr hsp
 exact ⟨t,h.nox,q⟩
theorem FunD.binds {x qual:Str} {st:Stmt} {f:Addr} {fd:FuncData} {ps:List Str} (F:FunD K x qual st f fd)
  (h:∀ (s:Shared) (T:Addr) (kV doc pm:Value) (an:Option Addr) (cdv ct:Value) (o:Obj) (n:Nat) (us:Wx),K.In s.heap->K.lookup T=some o->o.data=.seq #[.none] n->us.length=ps.length->BindsTo s (PySem.W.fnOf x qual (aB st) (au st) (af st) (.ref T) kV doc pm an cdv ct) ⟨us,[]⟩ (ps.zip us)):Binds K fd ps []:=by
 obtain ⟨T,oc,od,kV,doc,pm,an,cdv,ct,osl,o,n,rfl,lk,hcd,l2,l3⟩:=F.ex
 intro s us X hl
 rw [ZM] at hl ⊢
 exact h s T kV doc pm an cdv ct o n us X l2 l3 hl
end
noncomputable def argsOk:List Bool->Wr->Bool
 | [],[]=>true
 | b :: bs,v :: vs=>(if b then v.1 == .fr else imm v.2) && argsOk bs vs
 | _,_=>false
noncomputable def gh (c:Nat) (mv:List Bool) (g:Mt) (xs:Wr):T->Option (T×Val)
 | .obj c' ((0,.bl b) :: fs)=>if c'=c+1/\cZ fs=true/\argsOk mv xs=true/\bw (trees xs)=true then (g fs (trees xs)).bind fun z=>if cZ z.1=true/\imm z.2=true then some (.obj c' ((0,.bl b) :: z.1),(.fr,z.2)) else none else none
 | _=>none
noncomputable def aT (i:Nat) (way:List Stp) (c:Nat) (mv:List Bool) (g:Mt) (as:Exs) (η:VS.Env):Option (Val×VS.Env):=match (η[i]?:Option (Ws)) with
 | some (some (.ow t))=>(keys way η).bind fun ks=>(as η).bind fun xs=>(pm (gh c mv g xs) ks t).map fun z=>(z.2,η.set i (some (.ow z.1)))
 | _=>none
noncomputable def tX (G:Gx) (x:Xx):TE:=fun σ H Q=>∃ Φ η v η',SR G Φ η σ H/\x η=some (v,η')/\imm v.2=true/\∀ u H' Φ',SR G Φ' η' σ H'->Frm Φ η H Φ' η' H'->Rp G H' u v.2 []->Q u H'
noncomputable def PX (G:Gx) (X:Cx) (e:Expr) (x:Xx):Prop:=PE X e (tX G x)
theorem iW:∀ {mv:List Bool} {xs:Wr},argsOk mv xs=true->mv.length=xs.length
 | [],[],_=>rfl
 | [],_ :: _,h=>by simp [argsOk] at h
 | _ :: _,[],h=>by simp [argsOk] at h
 | b :: bs,v :: vs,h=>by
  rw [argsOk,Zf] at h
  rw [Za,Za,iW h.2]
theorem lM:∀ {mv:List Bool} {xs:Wr} {Fs:Xd},argsOk mv xs=true->(mvF mv Fs).Sublist (frs xs Fs)
 | [],[],_,_=>by simp [mvF]
 | [],_ :: _,_,h=>by simp [argsOk] at h
 | _ :: _,[],_,h=>by simp [argsOk] at h
 | b :: bs,v :: vs,[],h=>by simp [mvF]
 | b :: bs,(m,t) :: vs,F :: Fs,h=>by
  rw [argsOk,Zf] at h
  have ih:=lM (Fs:=Fs) h.2
  rw [mvF]
  cases b with
  | true =>
   have:m=.fr:=by simpa using h.1
   subst this
   exact List.Sublist.append (YB _) ih
  | false =>
   rw [Zp Zh,XY]
   cases m with
   | fr=>exact ih.trans (Yf _ _)
   | pu=>exact ih
   | bo=>exact ih
theorem nJ {G:Gx} {H:Hp}:∀ {mv:List Bool} {xs:Wr} {us:List V} {Fs:Xd},argsOk mv xs=true->RpL G H us (trees xs) Fs->puF mv Fs=[]
 | [],[],_,_,_,_=>by simp [puF]
 | [],_ :: _,_,_,h,_=>by simp [argsOk] at h
 | _ :: _,[],_,_,h,_=>by simp [argsOk] at h
 | b :: bs,(m,t) :: vs,_,_,h,r=>by
  rw [argsOk,Zf] at h
  cases r with
  | cons r0 q =>
   rw [puF,nJ h.2 q,ZM]
   cases b with
   | true=>rfl
   | false=>exact r0.imm (by simpa using h.1)
theorem rh {Φ:Fps} {η:VS.Env} {H:Hp} {mv:List Bool} {xs:Wr} {Fs:Xd} (h:argsOk mv xs=true) (f:FpL Φ η H xs Fs):∀ a∈mvF mv Fs,H a=none:=fun a ha=>by
 obtain ⟨j,F,h1,h2,h3⟩:=rR ha
 have key:∀ {mv:List Bool} {xs:Wr} {j:Nat},argsOk mv xs=true->mv[j]?=some true->∃ v,xs[j]?=some v/\v.1=.fr:=by
  intro mv
  induction mv with
  | nil=>intro xs j _ h;simp at h
  | cons b bs ih =>
   intro xs j h h1
   cases xs with
   | nil=>simp [argsOk] at h
   | cons v vs =>
    rw [argsOk,Zf] at h
    cases j with
    | zero =>
     simp at h1
     subst h1
     exact ⟨v,rfl,by simpa using h.1⟩
    | succ j =>
     obtain ⟨w,q1,q2⟩:=ih h.2 (by simpa using h1)
     exact ⟨w,by simpa using q1,q2⟩
 obtain ⟨v,q1,q2⟩:=key h h1
 have:=f.each j v F q1 h2
 rw [q2] at this
 exact this.2 a h3
section
variable {G:Gx} {X:Cx} {CX:CXT} {i c k k':Nat} {way:List Stp} {o e:Expr} {es:List Expr} {cs:Exs} {m:Str} {f:Addr} {fd:FuncData} {ps:List Str} {mv:List Bool} {g:Mt} {apos pos:Pos}
theorem pd {σ:L2.St} {H:Hp} {Q:VK} {E:XK} {t:TA} (J:ft G) (hn:∀ k,(G.ct (c+1)).2 k ≠ m) (ht:∀ Φ η xs σ H (R:List V->Hp->Prop),SR G Φ η σ H->cs η=some xs->(∀ vs H' Fs,aJ H H'->RpL G H' vs (trees xs) Fs->FpL Φ η H xs Fs->R vs H')->t σ H R)
  (h:tX G (aT i way c mv g cs) σ H Q):qP (G.ct (c+1)).1 m (spM G c mv g) [] E (tPl G i way) t σ H Q:=by
 obtain ⟨Φ,η,v,η',s,e,him,kq⟩:=h
 unfold aT at e
 split at e
 ·rename_i t0 h0
  obtain ⟨ks,ek,e3⟩:=Zz.mp e
  obtain ⟨xs,el,e4⟩:=Zz.mp e3
  obtain ⟨⟨t',x2⟩,e5,e6⟩:=Zy.mp e4
  cases e6
  obtain ⟨v0,h1,h2⟩:=s.rp _ _ h0
  obtain ⟨w,x,F1,x3,w1,w2,w3,w4,w5⟩:=gI ks J h2 (s.nd i t0 h0) e5
  unfold gh at w4
  split at w4
  ·rename_i c1 b fs
   split at w4
   ·rename_i hc
    obtain ⟨rfl,hno,hao,han⟩:=hc
    obtain ⟨⟨fs',y⟩,eg,e7⟩:=Zz.mp w4
    split at e7
    ·rename_i hno'
     cases e7
     obtain ⟨c',a,dx,b',ns,vs,ts,Fs,ec,rfl,eb,rfl,eF,hA,hl,hb,ra⟩:=dQ w2
     cases ec
     cases eb
     have lts:ns.length=ts.length:=hl.trans ra.len.1
     refine ⟨Φ,η,t0,ks,v0,.ref a,s,h0,h1,ek,w1,fun H1 sm=>⟨a,dx,_,rfl,sm a _ hA,?_,?_⟩⟩
     ·have key:∀ (ns:Wv) (vs:List V),((ns.map (G.ct (c+1)).2).zip vs).lookup m=none:=by
       intro ns
       induction ns with
       | nil=>intro vs;simp
       | cons n ns ih =>
        intro vs
        cases vs with
        | nil=>simp
        | cons v vs =>
         rw [Zm,Zd,Z5]
         have:(m == (G.ct (c+1)).2 n)=false:=by
          rw [ZR]
          exact fun z=>hn n z.symm
         rw [this]
         exact ih vs
      exact key ns vs
     ·refine ht Φ η xs σ H1 _ (s.same sm) el fun us H2 Gs sm2 rp2 fp2=>?_
      have sm3:aJ H H2:=sm.trans sm2
      have fp0:FpL Φ η H xs Gs:=⟨fun n v' F' a1 a2=>(fp2.each n v' F' a1 a2).back sm,fp2.nd⟩
      have mvn:=rh hao fp0
      have ra2:RpL (G.at (meA a)) H2 vs ts Fs:=(ra.same sm3).at (meA a) (eu lts hno)
      refine ⟨a,us,ns.zip ts,trees xs,F1,Gs,fs',y,by rw [ZM],?_,rp2.at (meA a) han,?_,?_,?_,eg,fun u H' F' gc ru=>?_⟩
      ·rw [eF]
       exact .ins (sm3 a _ hA) hl (fun _=>rfl) ra2
      ·rw [iW hao]
       simp [trees]
      ·refine ZY.mpr ⟨w3,fp2.nd.sublist (lM hao),fun b1 hb1 b2 hb2 z=>?_⟩
       subst z
       exact Mut.ne_none (w2.dom b1 hb1) (mvn b1 hb2)
      ·rw [nJ hao rp2]
       exact fun b1 _ z=>nomatch z
      ·have back:Rp G H' (.ref a) (.obj (c+1) ((0,.bl b) :: fs')) F':=by
        obtain ⟨c2,a2,dx2,b2,ns2,vs2,ts2,Fs2,ec2,ea2,eb2,ef2,eF2,hA2,hl2,hb2,ra3⟩:=dQ gc.rp
        cases ec2
        cases ea2
        subst ef2
        rw [eF2]
        exact .ins hA2 hl2 hb (ra3.at G.me (eu (hl2.trans ra3.len.1) hno'.1))
       have gG:Chg G H (.ref a) F1 (.obj (c+1) ((0,.bl b) :: fs')) H' F':=⟨(Kept.of sm3).trans gc.kept,fun b1 o1 hb1 ho=>gc.keep b1 o1 (fun z=>(Zg.mp z).elim hb1 fun z=>by rw [mvn b1 z] at ho;cases ho) (sm3 b1 o1 ho),fun b1 h=>gc.dom b1 fun z=>h (sm3.free z),back,gc.nd,fun b1 hb1=>by
        rcases gc.sub b1 hb1 with z | z
        ·rcases Zg.mp z with z | z
         ·exact .inl z
         ·exact .inr (mvn b1 z)
        ·exact .inr (sm3.free z)⟩
       obtain ⟨F2,g2⟩:=w5 H' F' gG
       obtain ⟨z1,z2⟩:=s.mut h0 h1 g2
       exact kq u H' _ z1 z2 (ru.at G.me (jQ y hno'.2))
    ·cases e7
   ·cases w4
  ·cases w4
 ·cases e
theorem yy {pl:Sem Bool} (J:ft G) (hn:∀ k,(G.ct (c+1)).2 k ≠ m) (ho:PPl G X o i way) (hc:Cls X.K (G.ct (c+1)).1) (hm:Meth X.K (G.ct (c+1)).1 m f) (F:FnOk X.prog X.w X.K X.mg X.base CX0 k f fd ps (spM G c mv g)) (hr:Room k' X.A) (hk:k<=k') (hb:Binds X.K fd ps []) (ha:PVs G X (e :: es) cs)
  (hst:starEach (e :: es) X.env=(false,eval e X.env) :: starEach es X.env) (hpl:(backTo pos (starEach es X.env)).any (·.1)=false)
  (ht:eval (.Call (.Attribute o m apos) (e :: es) [] pos) X.env=(do
   let ov ← eval o X.env
   standAt apos.atName
   let (f,first) ← holding [ov] (getMethod ov m pl)
   callWith pos f first (backTo pos (starEach (e :: es) X.env)) (backToKw pos (keywordEach [] X.env)))):PX G X (.Call (.Attribute o m apos) (e :: es) [] pos) (aT i way c mv g cs) :=
 PE.weak (n6 (E:=E0) ho hc hm F (hr.mono hk) hb .nil iP ha hst hpl ht) fun σ H Q h=>pd (t:=tEs G cs) J hn (fun Φ η xs σ H R s e k=>⟨Φ,η,xs,s,e,k⟩) h
theorem tY {pl:Sem Bool} (J:ft G) (hn:∀ k,(G.ct (c+1)).2 k ≠ m) (ho:PPl G X o i way) (hc:Cls X.K (G.ct (c+1)).1) (hm:Meth X.K (G.ct (c+1)).1 m f) (F:FnOk X.prog X.w X.K X.mg X.base CX0 k f fd ps (spM G c mv g)) (hr:Room k' X.A) (hk:k<=k') (hb:Binds X.K fd ps [])
  (ht:eval (.Call (.Attribute o m apos) [] [] pos) X.env=(do
   let ov ← eval o X.env
   standAt apos.atName
   let (f,first) ← holding [ov] (getMethod ov m pl)
   callWith pos f first (backTo pos (starEach [] X.env)) (backToKw pos (keywordEach [] X.env)))):PX G X (.Call (.Attribute o m apos) [] [] pos) (aT i way c mv g ai) :=
 PE.weak (oK (E:=E0) ho hc hm F (hr.mono hk) hb .nil iP ht) fun σ H Q h=>pd (t:=tj) J hn (fun Φ η xs σ H R s e k=>by
  cases (show some ([]:Wr)=some xs from e)
  exact k [] H [] (aJ.refl _) .nil ⟨fun i v F h=>by simp at h,by simp [frs]⟩) h
noncomputable def sXM (x:Xx):Sx:=fun η=>(x η).bind fun z=>if imm z.1.2 then some (.nx z.2) else none
noncomputable def gf (j:Nat) (x:Xx):Sx:=fun η=>(x η).bind fun z=>if imm z.1.2=true/\j < z.2.length then some (.nx (z.2.set j (some (.pu z.1.2)))) else none
noncomputable def iS (x:Xx):Sx:=fun η=>(x η).bind fun z=>if imm z.1.2 then some (.rt (.fr,z.1.2) z.2) else none
variable {x:Xx}
theorem ur (h:PX G X e x) (hsw:swapsWith e none pos.line X.env=pure false):PSV G X (.Expr e pos) (sXM x) :=
 PS.weak (jE h hsw) fun D σ H hq=>by
  obtain ⟨Φ,η,out,s,e,k⟩:=hq
  unfold sXM at e
  obtain ⟨⟨v,η'⟩,e1,e2⟩:=Zz.mp e
  split at e2
  ·rename_i hi
   cases e2
   exact ⟨Φ,η,v,η',s,e1,hi,fun u H' Φ' s' f r=>k Φ' σ H' s' f⟩
  ·cases e2
theorem xr (h:PX G X e x):PSV G X (.Return (some e) pos) (iS x) :=
 PS.weak (nZ h) fun D σ H hq=>by
  obtain ⟨Φ,η,out,s,e,k⟩:=hq
  unfold iS at e
  obtain ⟨⟨v,η'⟩,e1,e2⟩:=Zz.mp e
  split at e2
  ·rename_i hi
   cases e2
   exact ⟨Φ,η,v,η',s,e1,hi,fun u H' Φ' s' f r=>k u H' [] Φ' σ s' f r ⟨Yo,fun a h=>nomatch h⟩⟩
  ·cases e2
theorem wR {j:Nat} {nm:Str} {pos':Pos} (h:PX G X e x) (hN:X.N.Nodup) (hi:X.N[j]?=some nm) (hx:Loc X.env.scope nm) (hs:swapsWith e (some (.Name nm pos')) pos.line X.env=pure false) (hf:X.fn nm=true\/X.env.scope.names.lookup nm=some .local) :
  PSV G X (.Assign [.Name nm pos'] e pos) (gf j x) :=
 PS.weak (qq hN hi hx h hs hf) fun D σ H hq=>by
  obtain ⟨Φ,η,out,s,e,k⟩:=hq
  unfold gf at e
  obtain ⟨⟨v,η'⟩,e1,e2⟩:=Zz.mp e
  split at e2
  ·rename_i hi
   cases e2
   refine ⟨Φ,η,v,η',s,e1,hi.1,fun u H' Φ' s' f r=>?_⟩
   obtain ⟨q1,q2⟩:=s'.val (c:=.pu v.2) (m:=.fr) hi.2 (aJ.refl H') r ⟨Yo,fun a h=>nomatch h⟩ (.inl ⟨rfl,by decide⟩)
   exact k _ _ H' q1 (f.trans q2)
  ·cases e2
noncomputable def gR (i:Nat) (way:List Stp) (k:Ex) (x:Xx):Sx:=fun η=>(x η).bind fun z=>if imm z.1.2 then du i way k (fun _=>some (.fr,z.1.2)) z.2 else none
theorem uQ {Φ:Fps} {η:VS.Env} {σ:L2.St} {H H1:Hp} {t t':T} {ks:List Ky} {mk mv:Md} {tk tv:T} {y':Unit} {xv:V} {Fv:Wy} {ck:Ex} {D:L2.St->Hp->Prop} (J:ft G) (s:SR G Φ η σ H) (ht:η[i]?=some (some (.ow t))) (ek:keys way η=some ks) (ekk:ck η=some (mk,tk)) (e5:pm (hU (mk,tk) (mv,tv)) ks t=some (t',y'))
  (sm1:aJ H H1) (rv:Rp G H1 xv tv Fv) (fv:Fp Φ η H mv Fv) (k:∀ Φ' H',SR G Φ' (η.set i (some (.ow t'))) σ H'->Frm Φ η H Φ' (η.set i (some (.ow t'))) H'->D σ H'):Cz (tPl G i way) (tE G ck) zH xv σ H1 D:=by
   obtain ⟨v,g1,g2⟩:=s.rp _ _ ht
   obtain ⟨w,x,F1,x3,w1,w2,w3,w4,w5⟩:=gI ks J g2 (s.nd i t ht) e5
   refine ⟨Φ,η,t,ks,v,w,s.same sm1,ht,g1,ek,w1.same sm1,fun H2 sm2=>⟨Φ,η,mk,tk,(s.same sm1).same sm2,ekk,fun kv H3 Fk sm3 rk fk=>?_⟩⟩
   have sm:aJ H H3:=(sm1.trans sm2).trans sm3
   have rv3:Rp G H3 xv tv Fv:=(rv.same sm2).same sm3
   have fin:∀ H4 F',Chg G H w F1 x3 H4 F'->D σ H4:=fun H4 F' g=>by
    obtain ⟨F2,g2'⟩:=w5 H4 F' g
    obtain ⟨z1,z2⟩:=s.mut ht g1 g2'
    exact k _ H4 z1 z2
   refine L2.iR fun P_ k_=>?_
   cases x with
   | lst l =>
    cases tk with
    | int n =>
     obtain ⟨tt,et,e7⟩:=Zz.mp (show ((fit (mv,tv)).bind fun t=>(ixP l.length n).map fun j=>(T.lst (l.set j t),()))=some (x3,y') from w4)
     obtain ⟨j,ej,e8⟩:=Zy.mp e7
     cases e8
     have em:=kD et
     cases em
     obtain ⟨a,vs,Fs,rfl,rfl,ha',ra⟩:=w2.lst_inv
     have ha3:H3 a=some (.lst vs):=sm a _ ha'
     have nd:=Ze.mp w3
     have na:a ∉ Fv:=fun z=>by rw [fv.2 a z] at ha';cases ha'
     have m3:Mut (H3 a):=by rw [ha3];exact True.intro
     have off:∀ bb∈Fs.flatten,bb ∉ Fv:=fun bb hb hv=>Mut.ne_none (ra.dom bb hb) (fv.2 bb hv)
     refine k_ ?_
     refine .inl ⟨a,vs,n,j,rfl,rk.int_inv,ha3,by rw [← qd,ra.len.1];exact ej,fin _ (a :: (Fs.set j Fv).flatten) ?_⟩
     have keep:∀ {u:V} {x:T} {F:Wy},Rp G H3 u x F->a ∉ F->Rp G (upd H3 a (.lst (vs.set j xv))) u x F:=fun r hn=>r.keep (Kept.upd (.inl m3)) fun bb hb o' ho'=>by rw [aI (fun z=>hn (by rw [← z];exact hb))];exact ho'
     refine Chg.upd sm Zt m3 (.lst aF ((((ra.same sm).off m3 nd.1)).putAt j (keep rv3 na))) ?_ ?_
     ·rw [Ze]
      refine ⟨fun h=>?_,dP nd.2 fv.1 fun i' F' _ hi bb hb=>off bb (dw hi hb)⟩
      rcases cM h with z | ⟨i',F',_,h1,h2⟩
      ·exact na z
      ·exact nd.1 (dw h1 h2)
     ·intro bb hb
      rcases Zi.mp hb with rfl | hb
      ·exact .inl Zt
      ·rcases cM hb with z | ⟨i',F',_,h1,h2⟩
       ·exact .inr (fv.2 bb z)
       ·exact .inl (Zx _ (dw h1 h2))
    | _=>cases w4
   | dct kd l =>
    cases kd with
    | zero =>
     have hc:(iM tk=true/\imm tv=true/\l.length < fu)/\x3=.dct 0 (dput l tk tv):=by
      have w4':(if iM tk/\imm tv/\l.length < fu then some (T.dct 0 (dput l tk tv),()) else none)=some (x3,y'):=w4
      split at w4'
      ·rename_i hc
       cases w4'
       exact ⟨hc,rfl⟩
      ·cases w4'
     obtain ⟨⟨c1,c2,c3⟩,rfl⟩:=hc
     have eF:=rv3.imm c2
     subst eF
     obtain ⟨a,ns,vs,ts,Fs,rfl,rfl,ha',hl,rfl,ra⟩:=eT w2
     obtain ⟨kk,rfl,ekk'⟩:=dN rk c1
     subst ekk'
     have ha3:H3 a=some (.dK (ns.zip vs)):=sm a _ ha'
     have m3:Mut (H3 a):=by rw [ha3];exact True.intro
     have nd:=Ze.mp w3
     obtain ⟨ks',vs',ts',Fs',q1,q2,q3,q4,q5⟩:=qI (kk:=kk) rv3 hl (ra.same sm)
     have ln:(ns.zip vs).length < sizeLine:=by
      have:((ns.map ba).zip ts).length < 16777216:=c3
      rw [Yw,Zv] at this
      rw [Yw]
      have:=ra.len.1
      have:(sizeLine:Nat)=16777216:=rfl
      lia
     refine k_ ?_
     refine .inr ⟨a,_,rfl,qb.k ha3 ln,fin _ (a :: Fs'.flatten) ?_⟩
     rw [q1,q3]
     refine Chg.upd sm Zt m3 (.dct aF q2 (q4.off m3 fun z=>nd.1 (q5.subset z))) ?_ ?_
     ·exact Ze.mpr ⟨fun z=>nd.1 (q5.subset z),nd.2.sublist q5⟩
     ·intro bb hb
      rcases Zi.mp hb with rfl | hb
      ·exact .inl Zt
      ·exact .inl (Zx _ (q5.subset hb))
    | succ n=>cases w4
   | _=>cases w4
theorem zf {kr:Nat} {b:Expr} {ck:Ex} {pos':Pos} (J:ft G) (hr:Room kr X.A) (ho:PPl G X o i way) (hk:PV G X b ck) (he:PX G X e x)
  (ha:∀ v,assign (.Subscript o b pos') X.env v=(do
   let ov ← holding [v] (eval o X.env)
   let iv ← holding [v,ov] (eval b X.env)
   standAt pos'
   holding [v,ov,iv] (setItem ov iv v)
   release [v,ov,iv] [])) (hs:swapsWithSole [.Subscript o b pos'] e pos.line X.env=pure false) (hw:swappedStores [.Subscript o b pos'] e X.env=pure none)
  (h1:(assignEach [.Subscript o b pos'] X.env).map (·.2)=[assign (.Subscript o b pos') X.env]):PSV G X (.Assign [.Subscript o b pos'] e pos) (gR i way ck x) :=
 PS.weak (qJ he (qG ho hk (wC (jJ hr)) ha) hs hw h1) fun D σ H hq=>by
  obtain ⟨Φ,η,out,s,e,k⟩:=hq
  unfold gR at e
  obtain ⟨⟨v,η'⟩,e1,e2⟩:=Zz.mp e
  split at e2
  ·rename_i hi
   refine ⟨Φ,η,v,η',s,e1,hi,fun u H' Φ' s' f r=>?_⟩
   unfold du at e2
   obtain ⟨⟨mv,tv⟩,ev,e2⟩:=Zz.mp e2
   cases ev
   split at e2
   ·rename_i t ht
    obtain ⟨ks,ek,e2⟩:=Zz.mp e2
    obtain ⟨⟨mk,tk⟩,ekk,e2⟩:=Zz.mp e2
    obtain ⟨⟨t',y'⟩,e5,e6⟩:=Zy.mp e2
    cases e6
    exact uQ J s' ht ek ekk e5 (aJ.refl H') r (mv:=.fr) ⟨Yo,fun a h=>nomatch h⟩ fun Φ2 H2 z1 z2=>k _ σ H2 z1 (f.trans z2)
   ·cases e2
  ·cases e2
end
end VS
end
section
namespace L2
open PySem PySem.Spec PyProof.Rows
theorem qh {X:Cx}:dJ X (.type "dict") (fun xs H Q=>∃ (d:Addr) (kvs:List (Key×V)),xs=[.ref d]/\H d=some (.dK kvs)/\∀ l,H l=none->Q (.ref l) (upd H l (.dK kvs))):=by
 intro pins s σ H xs us Q I rx h
 obtain ⟨d,kvs,rfl,hd,q⟩:=h
 obtain ⟨u,rfl,ru⟩:=rx.one
 cases ru
 obtain ⟨hz,hne,vs,rel,dd⟩:=pN I.hok hd
 refine PySem.kt_call_dict hne dd (by rw [← YE rel];exact hz) fun h' dd' sb=>?_
 exact ⟨.ref s.heap.objs.size,_,I.laid (t':=s.toks) (fun b o e=>(sb.2 b (ZS (ZU e))).trans (Zl _ e)) (Zk _) (qf hz (ZR.mpr (Yd (ZS I.big))) rel dd'),rfl,q _ (I.hok.fresh (Zk _))⟩
end L2
namespace VS
open PySem PySem.Spec PyProof.Rows L2
noncomputable def iV:Wr->Wq
 | [(_,.dct 0 l)]=>if fj (l.map (·.2))=true then some (.fr,.dct 0 l) else none
 | _=>none
section
variable {G:Gx} {X:Cx} {a b e o:Expr} {ca cb ce:Ex} {cs:Exs} {p pos cpos apos:Pos} {k kr:Nat}
theorem vn:fi G (fun xs H Q=>∃ (d:Addr) (kvs:List (Key×V)),xs=[.ref d]/\H d=some (.dK kvs)/\∀ l,H l=none->Q (.ref l) (upd H l (.dK kvs))) iV:=by
 intro Φ η H0 H l vs Fs m t Q A e k
 unfold iV at e
 split at e
 ·rename_i mx l0
  split at e
  ·rename_i hi
   cases e
   obtain ⟨v,F,rfl,rfl,r⟩:=(show RpL G H vs [.dct 0 l0] Fs from A.rp).one
   obtain ⟨a,ns,us,ts,Gs,rfl,rfl,ha,hl,rfl,ra⟩:=eT r
   refine ⟨a,_,rfl,ha,fun q hq=>?_⟩
   have sm:aJ H (upd H q (.dK (ns.zip us))):=dS hq
   rw [List.map_snd_zip (by rw [Zv,hl,ra.len.1];exact Zk _)] at hi
   have eF:=ra.imm hi
   refine k _ _ (q :: Gs.flatten) sm (.dct aF hl (ra.same sm)) ?_
   rw [eF]
   exact Fp.new (A.same.free hq) (by simp) Fp.nil
  ·cases e
 ·cases e
theorem xQ (hm:X.mg "dict" = none) (ha:PVs G X [e] cs) (hg:Gl X "dict") (he:starEach [e] X.env=(false,eval e X.env) :: starEach [] X.env):PV G X (.Call (.Name "dict" p) [e] [] pos) (eN iV cs) :=
 jO qh vn hg hm wL ha (he:=he) (hpl:=rfl)
theorem Ae {i i':Int} {j j':Nat} {q q':Pos}:PV G X (.Dict [some (.Constant (.int i) j q)] [.Constant (.int i') j' q'] pos) (mG 0 [(eC (.int i),eC (.int i'))]) :=
 PE.weak (xT (wB n8 n8 xx) rfl rfl (by simp) (by show 1<=15;decide)) fun σ H Q hq=>by
  obtain ⟨Φ,η,m,r,s,e,k⟩:=hq
  cases (show some (Md.fr,T.dct 0 [(.int i,.int i')])=some (m,r) from e)
  intro p hp
  refine ⟨aF,[(Sum.inl i,.int i')],rfl,(by show 1<=15;decide),?_⟩
  rw [xG]
  have:Rp G (upd H p (.dK [(Sum.inl i,V.int i')])) (.ref p) (.dct 0 ((([Sum.inl i]:List Key).map ba).zip [.int i'])) (p :: ([[]]:Xd).flatten) :=
   .dct (ks:=[Sum.inl i]) (vs:=[V.int i']) aF rfl (.cons (.int i') .nil)
  exact k _ _ _ (dS hp) this ⟨by simp,fun b hb=>by simp at hb;rw [hb];exact hp⟩
noncomputable def qD (x y:Val):Wq:=match x.2 with
 | .dct 0 l=>if iM y.2 then some (match eX l y.2 with | some t=>sub x.1 t | none=>(.fr,.non)) else none
 | _=>none
theorem w_get (hr:Room kr X.A) (ho:PV G X o ca) (he:PV G X e cb) (hbase:attributeBase o "get" X.env (eval o X.env)=eval o X.env)
  (hfew:((backTo cpos (starEach [e] X.env)).all (fun x=>!x.1) && (backToKw cpos (keywordEach [] X.env)).all (fun x=>x.1.isSome)
   && decide (([e]:List Expr).length+([]:List Keyword).length+(if ([]:List Keyword).isEmpty then 0 else 1) < 30))=true)
  (hline:(apos.endLine == cpos.line)=true) (htr:backTo cpos (starEach [e] X.env)=[(false,eval e X.env)]):PV G X (.Call (.Attribute o "get" apos) [e] [] cpos) (e2 qD ca cb) :=
 PE.weak (wg (jJ hr) ho he ⟨hbase,hfew,hline,htr⟩) fun σ H Q hq=>by
  obtain ⟨Φ,η,m,r,s,e,kq⟩:=hq
  unfold e2 at e
  obtain ⟨⟨m1,x⟩,ea,e⟩:=Zz.mp e
  obtain ⟨⟨m2,y⟩,eb,e⟩:=Zz.mp e
  unfold qD at e
  split at e
  ·rename_i l hx
   dsimp only at hx
   subst hx
   split at e
   ·rename_i hk
    have e':=Zn e
    refine ⟨Φ,η,m1,_,s,ea,fun v H1 F1 sm1 r1 f1=>?_⟩
    obtain ⟨a,ks,vs,ts,Fs,rfl,rfl,ha,hl,rfl,q⟩:=eT r1
    refine ⟨a,rfl,.inl ⟨_,.inl ha⟩,Φ,η,m2,y,s.same sm1,eb,fun v2 H2 F2 sm2 r2 f2=>?_⟩
    obtain ⟨kk,rfl,ek⟩:=dN r2 hk
    dsimp only at e'
    rw [ek] at e'
    rcases jI (k:=kk) hl (q.same sm2) with ⟨h1,h2⟩ | ⟨i,v,t2,F,a1,a2,a3,a4,a5⟩
    ·rw [h1] at e'
     cases e'
     refine ⟨_,gy.k (sm2 a _ ha),?_⟩
     rw [h2]
     exact kq .non H2 [] (sm1.trans sm2) .non Fp.nil
    ·rw [a1] at e'
     refine ⟨_,gy.k (sm2 a _ ha),?_⟩
     rw [a2]
     have f:=((f1.sub (Z1 _ _)).sub (cR a4)).up a5
     unfold VS.sub at e'
     dsimp only at e'
     rw [e'] at f
     have et:t2=r:=congrArg Prod.snd e'
     rw [et] at a5
     exact kq v H2 F (sm1.trans sm2) a5 f
   ·cases e
  ·cases e
noncomputable def mE (x y:Val):Wq:=match x.2 with
 | .dct 3 l=>if iM y.2 then (eX l y.2).map (sub x.1) else none
 | _=>none
theorem pz {H:Hp} {v:V} {l:List (T×T)} {F:Wy} (r:Rp G H v (.dct 3 l) F):∃ (a:Addr) (o:Obj) (ks:List Key) (vs:List V) (ts:Wp) (Fs:Xd),v=.ref a/\F=Fs.flatten/\H a=some (.frz o (.dK (ks.zip vs)))/\ks.length=vs.length/\l=(ks.map ba).zip ts/\RpL G H vs ts Fs:=by
 generalize hz:T.dct 3 l=z at r
 cases r with
 | dctZ h hl q=>cases hz;exact ⟨_,_,_,_,_,_,rfl,rfl,h,hl,rfl,q⟩
 | _=>cases hz
theorem zL:gm G (Dh G.K) mE:=by
 intro Φ η H0 H x y u w F1 F2 m t Q tw e k
 obtain ⟨m1,x⟩:=x
 unfold mE at e
 split at e
 ·rename_i l hx
  dsimp only at hx
  subst hx
  split at e
  ·rename_i hk
   obtain ⟨t',e1,e2⟩:=Zy.mp e
   obtain ⟨a,o,ks,vs,ts,Fs,rfl,rfl,ha,hl,rfl,q⟩:=pz tw.r1
   obtain ⟨kk,rfl,ek⟩:=dN tw.r2 hk
   rw [ek] at e1
   rcases jI (k:=kk) hl q with ⟨h1,_⟩ | ⟨i,v,t2,F,a1,a2,a3,a4,a5⟩
   ·rw [h1] at e1;cases e1
   ·rw [a1] at e1
    cases e1
    cases e2
    refine .inr ⟨a,v,rfl,.inl ⟨_,kk,.inr ⟨o,ha⟩,rfl,a2.symm⟩,?_⟩
    have f:=(tw.f1.sub (cR a4)).up a5
    exact k v H F (aJ.refl _) a5 f
  ·cases e
 ·cases e
theorem Dc (hr:Room kr X.A) (ha:PV G X a ca) (hb:PV G X b cb) (hs:eP b) (hK:X.K=G.K):PV G X (.Subscript a b pos) (e2 mE ca cb) :=
 PE.weak (rO (IxR.or nP (nN (jJ hr))) ha hb hs) fun σ H Q h=>by rw [hK];exact jT zL h
end
noncomputable def eNew (c:Nat) (g:Mt) (cs:Exs):Ex:=fun η=>(cs η).bind fun xs=>if bw (trees xs)=true then (g [] (trees xs)).bind fun z=>if cZ z.1=true/\isN z.2=true then some (.fr,.obj (c+1) ((0,.bl false) :: z.1)) else none else none
noncomputable def dc (c:Nat) (g:Fn) (ca:Ex) (cs:Exs):Ex:=fun η=>(ca η).bind fun x=>match x.2 with
 | .obj c' (_ :: _)=>if c'=c+1 then (cs η).bind fun xs=>(g (x.2 :: trees xs)).bind fun r=>match r.1 with
  | .fr=>some r
  | _=>none else none
 | _=>none
theorem ub {α:Type}:∀ (l:List α) (Fs:Xd),mvF (l.map fun _=>false) Fs=[]
 | [],_=>by simp [mvF]
 | _ :: _,[]=>by simp [mvF]
 | _ :: l,F :: Fs=>by
  rw [Zm,mvF,Zp Zh,XY]
  exact ub l Fs
theorem vv:∀ (mv:List Bool) (Fs:Xd),∀ a∈puF mv Fs,a∈Fs.flatten
 | [],_,a,h=>by simp [puF] at h
 | _ :: _,[],a,h=>by simp [puF] at h
 | b :: bs,F :: Fs,a,h=>by
  rw [puF] at h
  rw [ZL]
  rcases Zg.mp h with h | h
  ·cases b with
   | true=>simp at h
   | false=>exact Z9 _ (by simpa using h)
  ·exact ZW _ (vv bs Fs a h)
section
variable {G:Gx} {X:Cx} {i c k k':Nat} {o e:Expr} {es:List Expr} {cs:Exs} {ca:Ex} {m x:Str} {f:Addr} {fd:FuncData} {ps:List Str} {g:Mt} {h:Fn} {apos pos p:Pos}
theorem xI {G:Gx} {H:Hp} {u:V} {t:T} {F:Wy} (r:Rp G H u t F) (h:isN t=true):u=.non:=by
 cases r with
 | non=>rfl
 | _=>cases h
theorem qB {σ:L2.St} {H:Hp} {Q:VK} {E:XK} {t:TA} (F:∀ n,FnOk X.prog X.w X.K X.mg X.base CX0 k f fd ps (spM G c (List.replicate n false) g)->True) (ht:∀ Φ η xs σ H (R:List V->Hp->Prop),SR G Φ η σ H->cs η=some xs->(∀ vs H' Fs,aJ H H'->RpL G H' vs (trees xs) Fs->FpL Φ η H xs Fs->R vs H')->t σ H R)
  (n:Nat) (hn:∀ η xs,cs η=some xs->xs.length=n) (hq:tE G (eNew c g cs) σ H Q):vG (G.ct (c+1)).1 (spM G c (List.replicate n false) g) [] E t σ H Q:=by
 obtain ⟨Φ,η,mo,r,s,e,kq⟩:=hq
 unfold eNew at e
 obtain ⟨xs,el,e1⟩:=Zz.mp e
 split at e1
 ·rename_i han
  obtain ⟨⟨fs',y⟩,eg,e2⟩:=Zz.mp e1
  split at e2
  ·rename_i hc
   cases e2
   have lx:=hn η xs el
   refine ht Φ η xs σ H _ s el fun vs H1 Gs sm1 rp1 fp1 a dx ha hdx ne=>?_
   have hHa:H a=none:=sm1.free ha
   have sm2:aJ H1 (upd (upd H1 dx (.own a)) a (.ins (G.ct (c+1)).1 dx [])):=fun b ob q=>by
    rw [aI (fun z=>by rw [z,ha] at q;cases q),aI (fun z=>by rw [z,hdx] at q;cases q)]
    exact q
   have em:List.replicate n false=(List.range n).map fun _=>false:=by rw [List.map_const',ZE]
   have mv0:mvF (List.replicate n false) Gs=[]:=by rw [em];exact ub _ _
   have fresh:∀ b,(upd (upd H1 dx (.own a)) a (.ins (G.ct (c+1)).1 dx [])) b=none->H b=none:=fun b z=>sm1.free (sm2.free z)
   refine ⟨a,vs,[],trees xs,[a],Gs,fs',y,by rw [ZM],.ins (ks:=[]) (vs:=[]) (ts:=[]) (Fs:=[]) aF rfl (fun _=>rfl) .nil,(rp1.same sm2).at (meA a) han,?_,?_,?_,eg,fun u H' F' gc ru=>⟨xI ru hc.2,?_⟩⟩
   ·simp [trees,lx]
   ·rw [mv0];simp
   ·rw [mv0]
    intro b hb hb'
    have:b=a:=by simpa using hb
    subst this
    exact Mut.ne_none (rp1.dom b (vv _ _ b hb')) ha
   ·rw [mv0,ZM] at gc
    have back:Rp G H' (.ref a) (.obj (c+1) ((0,.bl false) :: fs')) F':=by
     obtain ⟨c2,a2,dx2,b2,ns2,vs2,ts2,Fs2,ec2,ea2,eb2,ef2,eF2,hA2,hl2,hb2,ra3⟩:=dQ gc.rp
     cases ec2
     cases ea2
     subst ef2
     rw [eF2]
     exact .ins hA2 hl2 (fun z=>nomatch z) (ra3.at G.me (eu (hl2.trans ra3.len.1) hc.1))
    refine kq (.ref a) H' F' (fun b ob q=>gc.keep b ob (fun z=>?_) (sm2 b ob (sm1 b ob q))) back ⟨gc.nd,fun b hb=>?_⟩
    ·have:b=a:=by simpa using z
     rw [this,hHa] at q
     cases q
    ·rcases gc.sub b hb with z | z
     ·have:b=a:=by simpa using z
      rw [this]
      exact hHa
     ·exact fresh b z
  ·cases e2
 ·cases e1
theorem Dm (n:Nat) (M:Mk X.K (G.ct (c+1)).1 f) (F:FnOk X.prog X.w X.K X.mg X.base CX0 k f fd ps (spM G c (List.replicate n false) g)) (hr:Room k' X.A) (hk:k+1<=k') (hg:Gl X x) (hm:X.mg x=some (.ref (G.ct (c+1)).1)) (hb:Binds X.K fd ps []) (ha:PVs G X (e :: es) cs) (hn:∀ η xs,cs η=some xs->xs.length=n)
  (hdb:(x == ("__debug__" : Str))=false) (he:starEach (e :: es) X.env=(false,eval e X.env) :: starEach es X.env) (hpl:(backTo pos (starEach es X.env)).any (·.1)=false):PV G X (.Call (.Name x p) (e :: es) [] pos) (eNew c g cs) :=
 PE.weak (yX (E:=E0) M F (hr.mono hk) hg hm hb .nil iP ha hdb he hpl) fun σ H Q h=>qB (X:=X) (k:=k) (f:=f) (fd:=fd) (ps:=ps) (t:=tEs G cs) (fun _ _=>True.intro) (fun Φ η xs σ H R s e k=>⟨Φ,η,xs,s,e,k⟩) n hn h
theorem Bu (M:Mk X.K (G.ct (c+1)).1 f) (F:FnOk X.prog X.w X.K X.mg X.base CX0 k f fd ps (spM G c [] g)) (hr:Room k' X.A) (hk:k+1<=k') (hg:Gl X x) (hm:X.mg x=some (.ref (G.ct (c+1)).1)) (hb:Binds X.K fd ps [])
  (hdb:(x == ("__debug__" : Str))=false):PV G X (.Call (.Name x p) [] [] pos) (eNew c g ai) :=
 PE.weak (px (E:=E0) M F (hr.mono hk) hg hm hb .nil iP hdb) fun σ H Q h=>qB (X:=X) (k:=k) (f:=f) (fd:=fd) (ps:=ps) (t:=tj) (fun _ _=>True.intro) (fun Φ η xs σ H R s e k=>by
  cases (show some ([]:Wr)=some xs from e)
  exact k [] H [] (aJ.refl _) .nil ⟨fun i v F h=>by simp at h,by simp [frs]⟩) 0 (fun η xs e=>by
  cases (show some ([]:Wr)=some xs from e)
  rfl) h
theorem rC {g:Nat->Str} (hn:∀ k,g k ≠ m):∀ (ns:Wv) (vs:List V),((ns.map g).zip vs).lookup m=none
 | [],vs=>by simp
 | _ :: _,[]=>by simp
 | n :: ns,v :: vs=>by
  rw [Zm,Zd,Z5]
  have:(m == g n)=false:=by
   rw [ZR]
   exact fun z=>hn n z.symm
  rw [this]
  exact rC hn ns vs
theorem qQ {σ:L2.St} {H:Hp} {Q:VK} {E:XK} {t:TA} (hn:∀ k,(G.ct (c+1)).2 k ≠ m) (ht:∀ Φ η xs σ H (R:List V->Hp->Prop),SR G Φ η σ H->cs η=some xs->(∀ vs H' Fs,aJ H H'->RpL G H' vs (trees xs) Fs->FpL Φ η H xs Fs->R vs H')->t σ H R)
  (hq:tE G (dc c h ca cs) σ H Q):qP (G.ct (c+1)).1 m (spF G h) [] E (tE G ca) t σ H Q:=by
 obtain ⟨Φ,η,mo,r,s,e,kq⟩:=hq
 unfold dc at e
 obtain ⟨⟨mx,y⟩,ea,e1⟩:=Zz.mp e
 split at e1
 ·rename_i c' q0 fs hy
  dsimp only at hy
  subst hy
  split at e1
  ·rename_i hc
   subst hc
   obtain ⟨xs,el,e2⟩:=Zz.mp e1
   obtain ⟨⟨n,r'⟩,eg,e3⟩:=Zz.mp e2
   refine ⟨Φ,η,mx,_,s,ea,fun v H1 F1 sm1 r1 f1=>?_⟩
   obtain ⟨c2,a,dx,b,ns,vs,ts,Fs,ec,rfl,eb,ef,eF,hA,hl,hb,ra⟩:=dQ r1
   cases ec
   refine ⟨a,dx,_,rfl,hA,rC hn _ _,ht Φ η xs σ H1 _ (s.same sm1) el fun us H2 Gs sm2 rp2 fp2=>?_⟩
   rw [ZM]
   refine ⟨_ :: trees xs,F1 :: Gs,n,r',.cons (r1.same sm2) rp2,eg,fun u H' F' sm3 r3 f3=>?_⟩
   cases n with
   | fr =>
    cases e3
    exact kq u H' F' ((sm1.trans sm2).trans sm3) r3 ⟨f3.1,fun b hb=>sm1.free (sm2.free (f3.2 b hb))⟩
   | pu=>cases e3
   | bo=>cases e3
  ·cases e1
 ·cases e1
theorem AH {pl:Sem Bool} (hn:∀ k,(G.ct (c+1)).2 k ≠ m) (ho:PV G X o ca) (hc:Cls X.K (G.ct (c+1)).1) (hm:Meth X.K (G.ct (c+1)).1 m f) (F:FnOk X.prog X.w X.K X.mg X.base CX0 k f fd ps (spF G h)) (hr:Room k' X.A) (hk:k<=k') (hb:Binds X.K fd ps []) (ha:PVs G X (e :: es) cs)
  (hst:starEach (e :: es) X.env=(false,eval e X.env) :: starEach es X.env) (hpl:(backTo pos (starEach es X.env)).any (·.1)=false)
  (ht:eval (.Call (.Attribute o m apos) (e :: es) [] pos) X.env=(do
   let ov ← eval o X.env
   standAt apos.atName
   let (f,first) ← holding [ov] (getMethod ov m pl)
   callWith pos f first (backTo pos (starEach (e :: es) X.env)) (backToKw pos (keywordEach [] X.env)))):PV G X (.Call (.Attribute o m apos) (e :: es) [] pos) (dc c h ca cs) :=
 PE.weak (n6 (E:=E0) ho hc hm F (hr.mono hk) hb .nil iP ha hst hpl ht) fun σ H Q q=>qQ (t:=tEs G cs) hn (fun Φ η xs σ H R s e k=>⟨Φ,η,xs,s,e,k⟩) q
theorem xK {pl:Sem Bool} (hn:∀ k,(G.ct (c+1)).2 k ≠ m) (ho:PV G X o ca) (hc:Cls X.K (G.ct (c+1)).1) (hm:Meth X.K (G.ct (c+1)).1 m f) (F:FnOk X.prog X.w X.K X.mg X.base CX0 k f fd ps (spF G h)) (hr:Room k' X.A) (hk:k<=k') (hb:Binds X.K fd ps [])
  (ht:eval (.Call (.Attribute o m apos) [] [] pos) X.env=(do
   let ov ← eval o X.env
   standAt apos.atName
   let (f,first) ← holding [ov] (getMethod ov m pl)
   callWith pos f first (backTo pos (starEach [] X.env)) (backToKw pos (keywordEach [] X.env)))):PV G X (.Call (.Attribute o m apos) [] [] pos) (dc c h ca ai) :=
 PE.weak (oK (E:=E0) ho hc hm F (hr.mono hk) hb .nil iP ht) fun σ H Q q=>qQ (t:=tj) hn (fun Φ η xs σ H R s e k=>by
  cases (show some ([]:Wr)=some xs from e)
  exact k [] H [] (aJ.refl _) .nil ⟨fun i v F h=>by simp at h,by simp [frs]⟩) q
end
noncomputable def j8 (i:Nat) (way:List Stp) (j:Nat) (η:VS.Env):Option Out:=match (η[i]?:Option (Ws)),(η[j]?:Option (Ws)) with
 | some (some (.ow t)),some (some (.ow u))=>if i ≠ j then (keys way η).bind fun ks=>(pm (fun x=>aD x [(.fr,u)]) ks t).map fun z=>.nx ((η.set j none).set i (some (.ow z.1))) else none
 | _,_=>none
open Classical in
noncomputable def less (H:Hp) (F:Wy):Hp:=fun b=>if b∈F then none else H b
section
variable {G:Gx} {X:Cx} {i j:Nat} {way:List Stp} {o:Expr} {y:Str} {apos cpos pos p1:Pos}
theorem nL {H:Hp} {F:Wy} {b:Addr} (h:b∈F):less H F b=none:=Zr h
theorem gB {H:Hp} {F:Wy} {b:Addr} (h:b ∉ F):less H F b=H b:=Zp h
theorem gx {H:Hp} {F:Wy} {b:Addr} {o:HO} (h:less H F b=some o):H b=some o/\b ∉ F:=by
 by_cases q:b∈F
 ·rw [nL q] at h;cases h
 ·rw [gB q] at h;exact ⟨h,q⟩
theorem sP {H:Hp} {F:Wy} (h:∀ b∈F,Mut (H b)):Kept H (less H F) :=
 ⟨fun b xs e=>by
  rw [gB (fun z=>by have:=h b z;rw [e] at this;exact this)]
  exact e,fun b o u e=>by
  rw [gB (fun z=>by have:=h b z;rw [e] at this;exact this)]
  exact e⟩
theorem wM (J:ft G) (ho:PPl G X o i way) (hK:X.K=G.K) (hN:X.N[j]?=some y) (hv:Vis X.env.scope y) (hd:(y == ("__debug__" : Str))=false) (hcd:(y == ("__classdict__" : Str))=false)
  (hbase:attributeBase o "append" X.env (eval o X.env)=eval o X.env)
  (hfew:((backTo cpos (starEach [.Name y p1] X.env)).all (fun x=>!x.1) && (backToKw cpos (keywordEach [] X.env)).all (fun x=>x.1.isSome)
   && decide ([Expr.Name y p1].length+([]:List Keyword).length+(if ([]:List Keyword).isEmpty then 0 else 1) < 30))=true)
  (hline:(apos.endLine == cpos.line)=true) (hs:starEach [.Name y p1] X.env=(false,eval (.Name y p1) X.env) :: starEach [] X.env) (hplain:(backTo cpos (starEach [] X.env)).any (·.1)=false)
  (hsw:swapsWith (.Call (.Attribute o "append" apos) [.Name y p1] [] cpos) none pos.line X.env=pure false) :
  PSV G X (.Expr (.Call (.Attribute o "append" apos) [.Name y p1] [] cpos) pos) (j8 i way j) :=
 PS.weak (jE (rW Xg Xj Xk iB ho (dR (fZ hN hv hd hcd) j5 hs) hbase hfew hline hs hplain) hsw) fun D σ H hq=>by
  obtain ⟨Φ,η,out,s,e,k⟩:=hq
  unfold j8 at e
  split at e
  ·rename_i t u ht hu
   split at e
   ·rename_i hij
    obtain ⟨ks,ek,e3⟩:=Zz.mp e
    obtain ⟨⟨t',x2⟩,e5,e6⟩:=Zy.mp e3
    cases e6
    obtain ⟨vj,j1,j2⟩:=s.rp _ _ hu
    have j2':Rp G H vj u (Φ j):=j2
    have ndj:=s.nd j u hu
    have mj:∀ b∈Φ j,Mut (H b):=j2'.dom
    have kp:=sP mj
    have sepj:∀ i' c',i' ≠ j->η[i']?=some (some c')->∀ b∈Φ i',b ∉ Φ j:=fun i' c' n h b hb hb'=>s.sep j i' u c' hu h (Yd n) b hb' hb
    have s0:SR G Φ (η.set j none) σ (less H (Φ j)):=⟨(s.drop j).len,fun i' c' h=>by
     obtain ⟨n,h'⟩:=cP h
     obtain ⟨v,h1,h2⟩:=s.rp i' c' h'
     exact ⟨v,h1,h2.keep kp fun b hb ob hob=>by rw [gB (sepj i' c' n h' b hb)];exact hob⟩,(s.drop j).nd,(s.drop j).sep⟩
    have ht0:(η.set j none)[i]?=some (some (.ow t)):=by
     rw [Yz (Yd hij)]
     exact ht
    obtain ⟨v,h1,h2⟩:=s0.rp _ _ ht0
    obtain ⟨w,x,F1,x3,w1,w2,w3,w4,w5⟩:=gI ks J h2 (s0.nd i t ht0) e5
    unfold aD at w4
    split at w4
    ·rename_i l yv heq
     cases heq
     obtain ⟨z,ez,e7⟩:=Zz.mp w4
     cases (show some u=some z from ez)
     split at e7
     ·rename_i hl
      cases e7
      obtain ⟨a,us,Gs,rfl,rfl,ha,ra⟩:=w2.lst_inv
      obtain ⟨haH,haj⟩:=gx ha
      have w1':Pth G H ks v (.ref a):=by
       have:∀ {ks:List Ky} {v w:V},Pth G (less H (Φ j)) ks v w->Pth G H ks v w:=by
        intro ks v w p
        induction p with
        | nil v=>exact .nil v
        | fld h l _ ih=>exact .fld (gx h).1 l ih
        | ix h l m _ ih=>exact .ix (gx h).1 l m ih
        | key h l _ ih=>exact .key (gx h).1 l ih
        | un _ ih=>exact .un ih
       exact this w1
      refine ⟨Φ,η,t,ks,v,.ref a,s,ht,h1,ek,w1',fun H0 sm0=>⟨.inl ⟨rfl,us,by rw [hK];exact SqL.of (sm0 a _ haH)⟩,vj,j1,a,us,vj,rfl,rfl,sm0 a _ haH,by rw [ra.len.1];exact hl,?_⟩⟩
      have m0:Mut (H0 a):=by rw [sm0 a _ haH];exact True.intro
      have nd1:=Ze.mp w3
      have offj:∀ b∈Gs.flatten,b ∉ Φ j:=fun b hb hb'=>by
       have:=ra.dom b hb
       rw [nL hb'] at this
       exact this
      have lsm:∀ b ob,less H (Φ j) b=some ob->H0 b=some ob:=fun b ob h=>sm0 b ob (gx h).1
      have kl:Kept (less H (Φ j)) H0:=⟨fun b xs h=>lsm b _ h,fun b ob u h=>lsm b _ h⟩
      have g:Chg G (less H (Φ j)) (.ref a) (a :: Gs.flatten) (.lst (l++[u])) (upd H0 a (.lst (us++[vj]))) (a :: (Gs++[Φ j]).flatten):=by
       refine ⟨kl.trans (Kept.upd (.inl m0)),fun b ob hb h=>by rw [aI (fun z=>hb (by rw [z];exact Zt))];exact lsm b ob h,fun b h z=>?_,.lst aF ((RpL.off (ra.keep kl fun b hb ob h=>lsm b ob h) m0 nd1.1).append (.cons (((j2'.same sm0)).keep (Kept.upd (.inl m0)) fun b hb ob ho=>by rw [aI (fun z=>haj (by rw [← z];exact hb))];exact ho) .nil)),?_,fun b hb=>?_⟩
       ·by_cases q:b=a
        ·rw [q,aF] at z;cases z
        ·rw [aI q] at z
         cases e:less H (Φ j) b with
         | none=>exact h e
         | some ob=>rw [lsm b ob e] at z;cases z
       ·rw [Yt]
        refine Ze.mpr ⟨fun m=>?_,ZY.mpr ⟨nd1.2,by simpa using ndj,fun b hb c hc z=>?_⟩⟩
        ·rcases Zg.mp m with m | m
         ·exact nd1.1 m
         ·exact haj (by simpa using m)
        ·subst z;exact offj b hb (by simpa using hc)
       ·rcases Zi.mp hb with rfl | hb
        ·exact .inl Zt
        ·rw [Yt] at hb
         rcases Zg.mp hb with hb | hb
         ·exact .inl (Zx _ hb)
         ·exact .inr (nL (by simpa using hb))
      obtain ⟨F2,g2⟩:=w5 _ _ g
      obtain ⟨z1,z2⟩:=s0.mut ht0 h1 g2
      have back:∀ b,less H (Φ j) b=none->cK Φ η b\/H b=none:=fun b h=>by
       by_cases q:b∈Φ j
       ·exact .inl ⟨j,u,hu,q⟩
       ·rw [gB q] at h;exact .inr h
      have ow0:∀ b,cK Φ (η.set j none) b->cK Φ η b:=fun b ⟨j',t',q1,q2⟩=>⟨j',t',(cP q1).2,q2⟩
      have pu0:∀ b,dI Φ (η.set j none) b->dI Φ η b:=fun b ⟨j',t',q1,q2⟩=>⟨j',t',(cP q1).2,q2⟩
      refine k _ σ _ z1 ⟨fun b ob h n=>?_,fun b h z=>?_,fun b h=>?_,fun b h=>?_,(Kept.of sm0).trans (Kept.upd (.inl m0))⟩
      ·have nj:b ∉ Φ j:=fun z=>n ⟨j,u,hu,z⟩
       exact z2.keep b ob (by rw [gB nj];exact h) fun z=>n (ow0 b z)
      ·by_cases q:b=a
       ·rw [q,aF] at z;cases z
       ·rw [aI q] at z;exact h (sm0.free z)
      ·rcases z2.ow b h with h | h
       ·exact .inl (ow0 b h)
       ·exact back b h
      ·rcases z2.pu b h with h | h | h
       ·exact .inl (pu0 b h)
       ·exact .inr (.inl (ow0 b h))
       ·exact (back b h).elim (fun z=>.inr (.inl z)) fun z=>.inr (.inr z)
     ·cases e7
    ·cases w4
   ·cases e
  ·cases e
end
end VS
end
section
namespace VS
open PySem PySem.Spec PyProof.Rows L2
noncomputable def isInt:T->Bool
 | .int _=>true
 | _=>false
noncomputable def oG (i:Nat):Its:=fun η=>match (η[i]?:Option (Ws)) with
 | some (some (.pu (.dct 3 l)))=>if (l.all fun p=>isInt p.1)=true then some (.fr,l.map (·.1)) else none
 | _=>none
noncomputable def qZ (i:Nat) (tg:Tg) (ce:Ex):Sx:=fun η=>match (η[i]?:Option (Ws)) with
 | some (some (.ow (.dct 0 l)))=>(dU 1 tg (oG i) none ce (η.set i (some (.pu (.dct 3 l))))).bind fun v=>match v.1 with
  | .fr=>some (.rt v (η.set i none))
  | _=>none
 | _=>none
theorem zip_inj {α β:Type}:∀ {a c:List α} {b d:List β},a.length=b.length->c.length=d.length->a.zip b=c.zip d->a=c
 | [],[],_,_,_,_,_=>rfl
 | [],_ :: _,_,[],_,h,_=>by simp at h
 | [],_ :: _,[],_ :: _,_,_,h=>by simp at h
 | [],_ :: _,_ :: _,_ :: _,h,_,_=>by simp at h
 | _ :: _,_,[],_,h,_,_=>by simp at h
 | _ :: _,[],_ :: _,[],_,_,h=>by simp at h
 | _ :: _,[],_ :: _,_ :: _,_,h,_=>by simp at h
 | _ :: _,_ :: _,_ :: _,[],_,h,_=>by simp at h
 | x :: a,y :: c,z :: b,w :: d,h1,h2,h=>by
  rw [Zd,Zd] at h
  obtain ⟨e1,e2⟩:=List.cons.inj h
  rw [zip_inj (by simpa using h1) (by simpa using h2) e2,(Xl e1).1]
section
variable {G:Gx} {X:Cx} {i:Nat} {elt tg:Expr} {sc:Scope} {pos pos' p1:Pos} {N:List Str} {x:Str} {g:Tg} {ce:Ex}
theorem Bi (i:Nat) (N:List Str) (hcalm:X.calm=true) (hN:X.N[i]?=some x) (hv:Vis X.env.scope x) (hd:(x == ("__debug__" : Str))=false) (hcd:(x == ("__classdict__" : Str))=false) (hin:o8 1 g)
  (hg:∀ cl C s H fp,PVG G (bY X N sc cl C s H fp) tg g) (he:∀ cl C s H fp,PV G (bY X N sc cl C s H fp) elt ce)
  (hsc:ko X.env sc=true) (hnm:jd sc (N.drop 1) X.N=true) (hNl:1<=N.length) (hs:∀ y,foldedSetIterable (.Name x p1) X.env y=pure y) :
  PSV G X (.Return (some (.ListComp elt [⟨tg,.Name x p1,[],0⟩] sc pos)) pos') (qZ i g ce) :=
 PS.weak (nZ (rE hcalm (Cu (fZ hN hv hd hcd)) hsc hnm hNl (fun cl C s H fp=>⟨hg cl C s H fp,kT,he cl C s H fp⟩) hs)) fun D σ H hq=>by
  obtain ⟨Φ,η,out,s,e,k⟩:=hq
  unfold qZ at e
  split at e
  ·rename_i l hl
   obtain ⟨⟨mv,tv⟩,ev,e1⟩:=Zz.mp e
   have hfr:mv=.fr/\out=.rt (.fr,tv) (η.set i none):=by
    cases mv with
    | fr=>cases e1;exact ⟨rfl,rfl⟩
    | pu=>cases e1
    | bo=>cases e1
   obtain ⟨rfl,rfl⟩:=hfr
   obtain ⟨v,g1,g2⟩:=s.rp _ _ hl
   obtain ⟨a,ns,vs,ts,Fs,rfl,eF,ha,hln,rfl,ra⟩:=eT g2
   have hlt:i < η.length:=(Zj.mp hl).1
   have nd:=s.nd i _ hl
   rw [eF] at nd
   have nd':=Ze.mp nd
   refine ⟨.ref a,g1,a,ns.zip vs,rfl,ha,fun o=>?_⟩
   have mu:Mut (H a):=by rw [ha];exact True.intro
   have kp:Kept H (upd H a (.frz o (.dK (ns.zip vs)))):=Kept.upd (.inl mu)
   have es:σ.set i (some (.ref a))=σ:=by
    obtain ⟨h,e⟩:=Zj.mp g1
    rw [← e]
    exact XT h
   have aΦ:a∈Φ i:=by rw [eF];exact Zt
   have sub:∀ b∈Fs.flatten,b∈Φ i:=fun b hb=>by rw [eF];exact Zx _ hb
   have s1:SR G (ku Φ i Fs.flatten) (η.set i (some (.pu (.dct 3 ((ns.map ba).zip ts))))) σ (upd H a (.frz o (.dK (ns.zip vs)))):=by
    have:=s.put (c:=.pu (.dct 3 ((ns.map ba).zip ts))) (v:=.ref a) (F:=Fs.flatten) (H':=upd H a (.frz o (.dK (ns.zip vs)))) hlt (.dctZ aF hln (ra.off mu nd'.1)) (fun j c' n hj w q=>q.keep kp fun b hb ob ho=>by
     rw [aI (fun z=>s.sep i j _ c' hl hj (Yd n) a aΦ (by rw [← z];exact hb))];exact ho) (fun _ z=>nomatch z) (fun _ z=>nomatch z) fun j u n hj b hb hb'=>s.sep j i u _ hj hl n b hb (sub b hb')
    rw [es] at this
    exact this
   have hT:tE G (dU 1 g (oG i) none ce) σ (upd H a (.frz o (.dK (ns.zip vs)))) D.rt:=by
    refine ⟨_,_,.fr,tv,s1,ev,fun u H' F sm r f=>?_⟩
    have ee:(η.set i (some (.pu (.dct 3 ((ns.map ba).zip ts))))).set i none=η.set i none:=by rw [List.set_set]
    have sd:=(s1.drop i).same sm
    rw [ee] at sd
    have ow0:∀ b,cK (ku Φ i Fs.flatten) (η.set i none) b->cK Φ η b:=fun b ⟨j,t,q1,q2⟩=>by
     obtain ⟨n,q1'⟩:=cP q1
     rw [eQ n] at q2
     exact ⟨j,t,q1',q2⟩
    refine k u H' F _ σ sd ⟨fun b ob h n=>?_,fun b h z=>?_,fun b h=>.inl (ow0 b h),fun b ⟨j,t,q1,q2⟩=>?_,kp.trans (Kept.of sm)⟩ r ⟨f.1,fun b hb=>.inl ?_⟩
    ·have nb:b ≠ a:=fun z=>n ⟨i,_,hl,by rw [z];exact aΦ⟩
     exact ⟨sm b ob (by rw [aI nb];exact h),fun z=>n (ow0 b z)⟩
    ·have z1:=sm.free z
     by_cases q:b=a
     ·rw [q,aF] at z1;cases z1
     ·rw [aI q] at z1;exact h z1
    ·obtain ⟨n,q1'⟩:=cP q1
     rw [eQ n] at q2
     exact .inl ⟨j,t,q1',q2⟩
    ·have:=f.2 b hb
     by_cases q:b=a
     ·rw [q,aF] at this;cases this
     ·rw [aI q] at this;exact this
   obtain ⟨Φ2,η2,m2,l2,s2,e2,k2⟩:=nK (cond:=none) hin hT
   refine k2 (Itk a o (ns.zip vs)) _ [] (aJ.refl _) ?_ (fun b hb=>nomatch hb)
   unfold oG at e2
   split at e2
   ·rename_i l3 h3
    split at e2
    ·rename_i hint
     cases e2
     obtain ⟨v3,q1,q2⟩:=s2.rp _ _ h3
     rw [g1] at q1
     cases q1
     obtain ⟨a3,o3,ks3,vs3,ts3,Fs3,ea3,_,ha3,hl3,rfl,ra3⟩:=pz q2
     cases ea3
     rw [aF] at ha3
     have hz:ns.zip vs=ks3.zip vs3:=HO.dK.inj (HO.frz.inj (Zn ha3)).2
     have ek:=zip_inj hln hl3 hz
     subst ek
     have em:((ns.map ba).zip ts3).map (·.1)=ns.map ba:=X8 (by rw [Zv,hl3,ra3.len.1];exact Zk _)
     have zl:(ns.zip vs).length=ns.length:=by rw [Yw,hln,Nat.min_self]
     refine ⟨fun H2 kp2 _=>⟨fun n t hn=>?_,fun n hn=>?_⟩,fun b hb=>nomatch hb⟩
     ·rw [em,ZP] at hn
      obtain ⟨kk,hk1,hk2⟩:=Zy.mp hn
      have hnl:=(Zj.mp hk1).1
      refine ⟨⟨kp2.frz _ _ _ aF,by rw [zl];exact hnl⟩,fun y H3 hy=>?_⟩
      obtain ⟨rfl,p,hp,rfl⟩:=hy
      refine ⟨aJ.refl _,[],?_,fun b hb=>nomatch hb⟩
      have hp1:p.1=kk:=by
       have hzip:(ns.zip vs)[n]?=some p:=hp
       rw [Ye] at hzip
       rw [hk1] at hzip
       exact (Zn hzip.1).symm
      have hi:isInt t=true:=by
       have:=Yv.mp hint (t,ts3[n]'(by rw [← ra3.len.1,← hl3];exact hnl)) (by
        refine Yc (i:=n) ?_
        rw [Ye]
        exact ⟨by rw [ZP,hk1];exact congrArg some hk2,Zo _⟩)
       exact this
      rw [hp1,← hk2]
      rw [← hk2] at hi
      cases kk with
      | inl n=>exact .int n
      | inr z=>cases hi
     ·refine ⟨kp2.frz _ _ _ aF,?_⟩
      rw [em,Zv] at hn
      rw [zl]
      exact hn
    ·cases e2
   ·cases e2
  ·cases e
end
noncomputable def Bm (c:Nat):Option (Ws)->Bool
 | some (some (.ow (.obj c' (_ :: _))))=>c' == c+1
 | _=>false
noncomputable def lW (i c:Nat) (mv:List Bool) (g:Mt) (x:Xx) (cs:Exs) (η:VS.Env):Option (Val×VS.Env):=if Bm c (η[i]?:Option (Ws))=true then (x η).bind fun z=>if imm z.1.2=true then (match (z.2[i]?:Option (Ws)) with
 | some (some (.ow t))=>(cs z.2).bind fun xs=>(gh c mv g ((.fr,z.1.2) :: xs) t).map fun r=>(r.2,z.2.set i (some (.ow r.1)))
 | _=>none) else none else none
section
variable {G:Gx} {X:Cx} {i c k k':Nat} {e:Expr} {es:List Expr} {cs:Exs} {m y:Str} {f:Addr} {fd:FuncData} {ps:List Str} {mv:List Bool} {g:Mt} {x:Xx} {apos pos p1:Pos}
theorem yu {pl:Sem Bool} (hn:∀ k,(G.ct (c+1)).2 k ≠ m) (hN:X.N[i]?=some y) (hv:Vis X.env.scope y) (hd:(y == ("__debug__" : Str))=false) (hcd:(y == ("__classdict__" : Str))=false) (hc:Cls X.K (G.ct (c+1)).1) (hm:Meth X.K (G.ct (c+1)).1 m f) (F:FnOk X.prog X.w X.K X.mg X.base CX0 k f fd ps (spM G c mv g)) (hr:Room k' X.A) (hk:k<=k') (hb:Binds X.K fd ps []) (h1:PX G X e x) (ha:PVs G X es cs)
  (hst:starEach (e :: es) X.env=(false,eval e X.env) :: starEach es X.env) (hpl:(backTo pos (starEach es X.env)).any (·.1)=false)
  (ht:eval (.Call (.Attribute (.Name y p1) m apos) (e :: es) [] pos) X.env=(do
   let ov ← eval (.Name y p1) X.env
   standAt apos.atName
   let (f,first) ← holding [ov] (getMethod ov m pl)
   callWith pos f first (backTo pos (starEach (e :: es) X.env)) (backToKw pos (keywordEach [] X.env)))):PX G X (.Call (.Attribute (.Name y p1) m apos) (e :: es) [] pos) (lW i c mv g x cs) :=
 PE.weak (n6 (E:=E0) (fZ hN hv hd hcd) hc hm F (hr.mono hk) hb .nil iP (dR h1 ha hst) hst hpl ht) fun σ H Q h=>by
  obtain ⟨Φ,η,v,η',s,e,him,kq⟩:=h
  unfold lW at e
  split at e
  ·rename_i hob
   obtain ⟨⟨v1,η1⟩,e1,e2⟩:=Zz.mp e
   split at e2
   ·rename_i him1
    unfold Bm at hob
    split at hob
    ·rename_i c0 q0 fs0 h0
     have ec0:c0=c+1:=by simpa using hob
     subst ec0
     obtain ⟨v0,g1,g2⟩:=s.rp _ _ h0
     have g2':Rp G H v0 (.obj (c+1) (q0 :: fs0)) (Φ i):=g2
     obtain ⟨c',a,dx,b,ns,vs,ts,Fs,ec,rfl,eb,ef,eF,hA,hl,hbb,ra⟩:=dQ g2'
     cases ec
     have key:∀ (ns:Wv) (vs:List V),((ns.map (G.ct (c+1)).2).zip vs).lookup m=none:=by
      intro ns
      induction ns with
      | nil=>intro vs;simp
      | cons n ns ih =>
       intro vs
       cases vs with
       | nil=>simp
       | cons v vs =>
        rw [Zm,Zd,Z5]
        have:(m == (G.ct (c+1)).2 n)=false:=by
         rw [ZR]
         exact fun z=>hn n z.symm
        rw [this]
        exact ih vs
     refine ⟨.ref a,g1,a,dx,_,rfl,hA,key _ _,Φ,η,v1,η1,s,e1,him1,fun u1 H1 Φ1 s1 f1 r1=>?_⟩
     dsimp only at e2
     split at e2
     ·rename_i t1 ht1
      obtain ⟨xs,el,e3⟩:=Zz.mp e2
      obtain ⟨⟨x3,y3⟩,w4,e4⟩:=Zy.mp e3
      cases e4
      obtain ⟨va,q1,w2⟩:=s1.rp _ _ ht1
      rw [g1] at q1
      cases q1
      have w3:=s1.nd i t1 ht1
      refine ⟨Φ1,η1,xs,s1,el,fun us H2 Gs sm2 rp2 fp2=>?_⟩
      show spM G c mv g (V.ref a :: ((u1 :: us)++[])) H2 Q E0
      rw [ZM]
      unfold gh at w4
      split at w4
      ·rename_i c1 b1 fs
       split at w4
       ·rename_i hcc
        obtain ⟨rfl,hno,hao,han⟩:=hcc
        obtain ⟨⟨fs',z⟩,eg,e7⟩:=Zz.mp w4
        split at e7
        ·rename_i hno'
         cases e7
         have w2':Rp G H1 (.ref a) (.obj (c+1) ((0,.bl b1) :: fs)) (Φ1 i):=w2
         obtain ⟨c2,a2,dx2,b2,ns2,vs2,ts2,Fs2,ec2,ea2,eb2,rfl,eF2,hA2,hl2,hb2,ra2⟩:=dQ w2'
         cases ec2
         cases ea2
         cases eb2
         have lts:ns2.length=ts2.length:=hl2.trans ra2.len.1
         have fpl:FpL Φ1 η1 H1 ((.fr,v1.2) :: xs) ([] :: Gs):=⟨fun n v' F' a1 a2=>by
          cases n with
          | zero=>cases a1;cases a2;exact Fp.nil
          | succ n=>exact fp2.each n v' F' (by simpa using a1) (by simpa using a2),by
          show ([]++frs xs Gs).Nodup
          exact fp2.nd⟩
         have mvn:=rh hao fpl
         have rpA:RpL G H2 (u1 :: us) (trees ((.fr,v1.2) :: xs)) ([] :: Gs):=.cons (r1.same sm2) rp2
         refine ⟨a,u1 :: us,ns2.zip ts2,trees ((.fr,v1.2) :: xs),Φ1 i,[] :: Gs,fs',z,rfl,?_,rpA.at (meA a) han,?_,?_,?_,eg,fun u H' F' gc ru=>?_⟩
         ·rw [eF2]
          exact .ins (sm2 a _ hA2) hl2 (fun _=>rfl) ((ra2.same sm2).at (meA a) (eu lts hno))
         ·rw [iW hao]
          simp [trees]
         ·refine ZY.mpr ⟨w3,fpl.nd.sublist (lM hao),fun b1 hb1 b2 hb2 z=>?_⟩
          subst z
          exact Mut.ne_none (w2.dom b1 hb1) (mvn b1 hb2)
         ·rw [nJ hao rpA]
          exact fun b1 _ z=>nomatch z
         ·have back:Rp G H' (.ref a) (.obj (c+1) ((0,.bl b1) :: fs')) F':=by
           obtain ⟨c3,a3,dx3,b3,ns3,vs3,ts3,Fs3,ec3,ea3,eb3,ef3,eF3,hA3,hl3,hb3,ra3⟩:=dQ gc.rp
           cases ec3
           cases ea3
           subst ef3
           rw [eF3]
           exact .ins hA3 hl3 hb2 (ra3.at G.me (eu (hl3.trans ra3.len.1) hno'.1))
          have gG:Chg G H1 (.ref a) (Φ1 i) (.obj (c+1) ((0,.bl b1) :: fs')) H' F':=⟨(Kept.of sm2).trans gc.kept,fun b1 o1 hb1 ho=>gc.keep b1 o1 (fun z=>(Zg.mp z).elim hb1 fun z=>by rw [mvn b1 z] at ho;cases ho) (sm2 b1 o1 ho),fun b1 h=>gc.dom b1 fun z=>h (sm2.free z),back,gc.nd,fun b1 hb1=>by
           rcases gc.sub b1 hb1 with z | z
           ·rcases Zg.mp z with z | z
            ·exact .inl z
            ·exact .inr (mvn b1 z)
           ·exact .inr (sm2.free z)⟩
          obtain ⟨z1,z2⟩:=s1.mut ht1 g1 gG
          exact kq u H' _ z1 (f1.trans z2) (ru.at G.me (jQ z hno'.2))
        ·cases e7
       ·cases w4
      ·cases w4
     ·cases e2
    ·cases hob
   ·cases e2
  ·cases e
end
noncomputable def fnm (ns:List Str) (k:Nat):Str:=match ns[k]? with
 | some x=>x
 | none=>⟨#[k]⟩
noncomputable def gxO (ns:List Str) (K:X4) (C D:Addr):Gx:=⟨K,fun c=>(if c=2 then D else C,fnm ns),fun _=>none⟩
theorem wQ {ns:List Str} (nd:ns.Nodup) (h:∀ x∈ns,x.cps.size ≠ 1) (k k':Nat) (e:fnm ns k=fnm ns k'):k=k':=by
 unfold fnm at e
 by_cases h1:k < ns.length
 ·by_cases h2:k' < ns.length
  ·rw [Zo h1,Zo h2] at e
   exact (List.getElem_inj nd).mp e
  ·rw [Zo h1,ZC (ZK h2)] at e
   have e':ns[k]=(⟨#[k']⟩:Str):=e
   exact absurd (by rw [e'];rfl) (h _ (Z6 h1))
 ·by_cases h2:k' < ns.length
  ·rw [ZC (ZK h1),Zo h2] at e
   have e':(⟨#[k]⟩:Str)=ns[k']:=e
   exact absurd (by rw [← e'];rfl) (h _ (Z6 h2))
  ·rw [ZC (ZK h1),ZC (ZK h2)] at e
   have e':(⟨#[k]⟩:Str)=⟨#[k']⟩:=e
   cases e'
   rfl
theorem yD {ns:List Str} {K:X4} {C D:Addr} {m:Me} (nd:ns.Nodup) (h:∀ x∈ns,x.cps.size ≠ 1):ft ((gxO ns K C D).at m):=fun _ k k' e=>wQ nd h k k' e
theorem gb {ns:List Str} {x:Str} (h:x ∉ ns) (h1:x.cps.size ≠ 1) (k:Nat):fnm ns k ≠ x:=fun e=>by
 unfold fnm at e
 split at e
 ·rename_i y hy
  exact h (e ▸ Yc hy)
 ·exact h1 (by rw [← e];rfl)
theorem tq {ns:List Str} {K:X4} {C D:Addr} {m:Me} {k:Nat} {f:Str} (hk:ns[k]?=some f) (cC:Cls K C) (cD:Cls K D) (nC:cq K C f) (nD:cq K D f):FldOk ((gxO ns K C D).at m) K k f :=
 ⟨fun c=>by show fnm ns k=f;unfold fnm;rw [hk],fun c=>by show Cls K (if c+1=2 then D else C);split <;> assumption,fun c=>by show cq K (if c+1=2 then D else C) f;split <;> assumption⟩
structure MtAt (P:Program) (w:World) (K:X4) (mg:Wz) (base:Heap) (k:Nat) (G:Gx) (c:Nat) (x:Str) (ps:List Str) (mv:List Bool) (g:Mt):Prop where
 ex:∃ f fd,FnOk P w K mg base CX0 k f fd ps (spM G c mv g)/\Meth K (G.ct (c+1)).1 x f/\Binds K fd ps []
 cl:Cls K (G.ct (c+1)).1
 no:∀ k,(G.ct (c+1)).2 k ≠ x
structure MpAt (P:Program) (w:World) (K:X4) (mg:Wz) (base:Heap) (k:Nat) (G:Gx) (c:Nat) (x:Str) (ps:List Str) (h:Fn):Prop where
 ex:∃ f fd,FnOk P w K mg base CX0 k f fd ps (spF G h)/\Meth K (G.ct (c+1)).1 x f/\Binds K fd ps []
 cl:Cls K (G.ct (c+1)).1
 no:∀ k,(G.ct (c+1)).2 k ≠ x
structure InAt (P:Program) (w:World) (K:X4) (mg:Wz) (base:Heap) (k:Nat) (G:Gx) (c n:Nat) (x:Str) (ps:List Str) (g:Mt):Prop where
 ex:∃ f fd,FnOk P w K mg base CX0 k f fd ps (spM G c (List.replicate n false) g)/\Mk K (G.ct (c+1)).1 f/\Binds K fd ps []
 mg:mg x=some (.ref (G.ct (c+1)).1)
section
variable {P:Program} {w:World} {K:X4} {mg:Wz} {base:Heap} {k c n:Nat} {G:Gx} {x:Str} {ps:List Str} {mv:List Bool} {g:Mt}
theorem MtAt.at {m:Me} (h:MtAt P w K mg base k G c x ps mv g):MtAt P w K mg base k (G.at m) c x ps mv g:=⟨h.ex,h.cl,h.no⟩
theorem InAt.at {m:Me} (h:InAt P w K mg base k G c n x ps g):InAt P w K mg base k (G.at m) c n x ps g:=⟨h.ex,h.mg⟩
theorem Cd {qual:Str} {st:Stmt} {f:Addr} {fd:FuncData} {N:List Str} {np nn:Nat} {body:Sx} (F:Fun K x qual st f fd) (hm:Meth K (G.ct (c+1)).1 x f) (hc:Cls K (G.ct (c+1)).1) (hno:∀ k,(G.ct (c+1)).2 k ≠ x) (S:FnScope N ps (af st)) (hp:ps.length=np) (hn:N.length=nn)
  (hbd:∀ (kV doc pm:Value) (an:Option Addr) (cdv ct:Value) (us:Wx),us.length=ps.length->bindArgs (PySem.W.fnOf x qual (aB st) (au st) (af st) .none kV doc pm an cdv ct) ⟨us,[]⟩=pure (ps.zip us))
  (hb:∀ (a:Addr) (cdv:Value) (A:Around) (outer:List PySem.Env) (s:Shared) (H:Hp) (E:XK),Room k (A.deeper (envOfC qual (af st) s.heap.objs.size f cdv))->cB (G.at (meA a)) (fo CX0 P w K mg base N qual (af st) f cdv A outer s H E).nox (au st) body) :
  MtAt P w K mg base (k+1) G c x ps mv (mfn c np nn mv body):=⟨⟨f,fd,fnM F S hp hn hb,hm,F.binds hbd⟩,hc,hno⟩
theorem BM {y qual:Str} {st:Stmt} {f:Addr} {fd:FuncData} {N:List Str} {np nn:Nat} {body:Sx} (F:Fun K y qual st f fd) (hm:Mk K (G.ct (c+1)).1 f) (hg:mg x=some (.ref (G.ct (c+1)).1)) (S:FnScope N ps (af st)) (hp:ps.length=np) (hn:N.length=nn)
  (hbd:∀ (kV doc pm:Value) (an:Option Addr) (cdv ct:Value) (us:Wx),us.length=ps.length->bindArgs (PySem.W.fnOf y qual (aB st) (au st) (af st) .none kV doc pm an cdv ct) ⟨us,[]⟩=pure (ps.zip us))
  (hb:∀ (a:Addr) (cdv:Value) (A:Around) (outer:List PySem.Env) (s:Shared) (H:Hp) (E:XK),Room k (A.deeper (envOfC qual (af st) s.heap.objs.size f cdv))->cB (G.at (meA a)) (fo CX0 P w K mg base N qual (af st) f cdv A outer s H E).nox (au st) body) :
  InAt P w K mg base (k+1) G c n x ps (mfn c np nn (List.replicate n false) body):=⟨⟨f,fd,fnM F S hp hn hb,hm,F.binds hbd⟩,hg⟩
theorem B9 {qual:Str} {st:Stmt} {f:Addr} {fd:FuncData} {N:List Str} {np nn:Nat} {body:Sx} (F:Fun K x qual st f fd) (hm:Meth K (G.ct (c+1)).1 x f) (hc:Cls K (G.ct (c+1)).1) (hno:∀ k,(G.ct (c+1)).2 k ≠ x) (S:FnScope N ps (af st)) (hp:ps.length=np) (hn:N.length=nn)
  (hbd:∀ (kV doc pm:Value) (an:Option Addr) (cdv ct:Value) (us:Wx),us.length=ps.length->bindArgs (PySem.W.fnOf x qual (aB st) (au st) (af st) .none kV doc pm an cdv ct) ⟨us,[]⟩=pure (ps.zip us))
  (hb:∀ (cdv:Value) (A:Around) (outer:List PySem.Env) (s:Shared) (H:Hp) (E:XK),Room k (A.deeper (envOfC qual (af st) s.heap.objs.size f cdv))->cB G (fo CX0 P w K mg base N qual (af st) f cdv A outer s H E).nox (au st) body) :
  MpAt P w K mg base (k+1) G c x ps (fn np nn body):=⟨⟨f,fd,fnV F S hp hn hb,hm,F.binds hbd⟩,hc,hno⟩
theorem wI {k:Nat} {f:Addr} {fd:FuncData} {y:Str} {g:Fn} (hK:G.K=K) (F:FnOk P w K mg base CX0 k f fd [y] (spF G g)) (hg:∀ ns:Wu,g [.scr ns]=some (.fr,.bl true)) :
  FnOk P w K mg base CX0 k f fd [y] (spF (gx0 K) yE):=F.imp fun vs H Q E h=>by
 obtain ⟨ts,Fs,m,r,h1,h2,q⟩:=h
 unfold yE at h2
 split at h2
 ·rename_i ns
  cases h2
  cases h1 with
  | cons r1 r2 =>
   cases r2
   cases r1 with
   | scr hs=>exact ⟨[.scr ns],[[]],.fr,.bl true,.cons (.scr (by rw [hK];exact hs)) .nil,hg ns,fun v H' F e1 r f1=>q v H' F e1 (by cases r;exact .bl _) f1⟩
 ·cases h2
end
section
variable {G:Gx} {X:Cx} {i j c k k' kr n:Nat} {way:List Stp} {o e b:Expr} {es:List Expr} {cs:Exs} {ca ck ce:Ex} {m x:Str} {ps:List Str} {mv:List Bool} {g:Mt} {h:Fn} {xc:Xx} {f:Str} {apos cpos pos pos' p p1:Pos}
theorem uj (i:Nat) (hN:X.N[i]?=some x) (hv:Vis X.env.scope x) (hd:(x == ("__debug__" : Str))=false) (hcd:(x == ("__classdict__" : Str))=false):PPl G X (.Name x pos) i []:=xY i hN hv hd hcd
theorem xa (k:Nat) (F:FldOk G X.K k f) (h:PPl G X e i way) (hb:attributeBase e f X.env (eval e X.env)=eval e X.env):PPl G X (.Attribute e f pos) i (way++[.fld k]):=Bj k F h hb
theorem AX (hr:Room kr X.A) (h:PPl G X e i way) (hb:PV G X b ck) (hs:eP b) (hK:X.K=G.K):PPl G X (.Subscript e b pos) i (way++[.ix ck]):=CZ hr h hb hs hK
theorem ze {pl:Sem Bool} (J:ft G) (F:MtAt X.prog X.w X.K X.mg X.base k G c m ps mv g) (hr:Room k' X.A) (hk:k<=k') (ho:PPl G X o i way) (ha:PVs G X (e :: es) cs)
  (hst:starEach (e :: es) X.env=(false,eval e X.env) :: starEach es X.env) (hpl:(backTo pos (starEach es X.env)).any (·.1)=false)
  (ht:eval (.Call (.Attribute o m apos) (e :: es) [] pos) X.env=(do
   let ov ← eval o X.env
   standAt apos.atName
   let (f,first) ← holding [ov] (getMethod ov m pl)
   callWith pos f first (backTo pos (starEach (e :: es) X.env)) (backToKw pos (keywordEach [] X.env)))):PX G X (.Call (.Attribute o m apos) (e :: es) [] pos) (aT i way c mv g cs):=by
 obtain ⟨f,fd,h1,h2,h3⟩:=F.ex
 exact yy J F.no ho F.cl h2 h1 hr hk h3 ha hst hpl ht
theorem vJ {pl:Sem Bool} (J:ft G) (F:MtAt X.prog X.w X.K X.mg X.base k G c m ps mv g) (hr:Room k' X.A) (hk:k<=k') (ho:PPl G X o i way)
  (ht:eval (.Call (.Attribute o m apos) [] [] pos) X.env=(do
   let ov ← eval o X.env
   standAt apos.atName
   let (f,first) ← holding [ov] (getMethod ov m pl)
   callWith pos f first (backTo pos (starEach [] X.env)) (backToKw pos (keywordEach [] X.env)))):PX G X (.Call (.Attribute o m apos) [] [] pos) (aT i way c mv g ai):=by
 obtain ⟨f,fd,h1,h2,h3⟩:=F.ex
 exact tY J F.no ho F.cl h2 h1 hr hk h3 ht
theorem zY {pl:Sem Bool} (F:MtAt X.prog X.w X.K X.mg X.base k G c m ps mv g) (hr:Room k' X.A) (hk:k<=k') (hN:X.N[i]?=some x) (hv:Vis X.env.scope x) (hd:(x == ("__debug__" : Str))=false) (hcd:(x == ("__classdict__" : Str))=false) (h1:PX G X e xc) (ha:PVs G X es cs)
  (hst:starEach (e :: es) X.env=(false,eval e X.env) :: starEach es X.env) (hpl:(backTo pos (starEach es X.env)).any (·.1)=false)
  (ht:eval (.Call (.Attribute (.Name x p1) m apos) (e :: es) [] pos) X.env=(do
   let ov ← eval (.Name x p1) X.env
   standAt apos.atName
   let (f,first) ← holding [ov] (getMethod ov m pl)
   callWith pos f first (backTo pos (starEach (e :: es) X.env)) (backToKw pos (keywordEach [] X.env)))):PX G X (.Call (.Attribute (.Name x p1) m apos) (e :: es) [] pos) (lW i c mv g xc cs):=by
 obtain ⟨f,fd,h2,h3,h4⟩:=F.ex
 exact yu F.no hN hv hd hcd F.cl h3 h2 hr hk h4 h1 ha hst hpl ht
theorem zj {pl:Sem Bool} (F:MpAt X.prog X.w X.K X.mg X.base k G c m ps h) (hr:Room k' X.A) (hk:k<=k') (ho:PV G X o ca) (ha:PVs G X (e :: es) cs)
  (hst:starEach (e :: es) X.env=(false,eval e X.env) :: starEach es X.env) (hpl:(backTo pos (starEach es X.env)).any (·.1)=false)
  (ht:eval (.Call (.Attribute o m apos) (e :: es) [] pos) X.env=(do
   let ov ← eval o X.env
   standAt apos.atName
   let (f,first) ← holding [ov] (getMethod ov m pl)
   callWith pos f first (backTo pos (starEach (e :: es) X.env)) (backToKw pos (keywordEach [] X.env)))):PV G X (.Call (.Attribute o m apos) (e :: es) [] pos) (dc c h ca cs):=by
 obtain ⟨f,fd,h1,h2,h3⟩:=F.ex
 exact AH F.no ho F.cl h2 h1 hr hk h3 ha hst hpl ht
theorem uH {pl:Sem Bool} (F:MpAt X.prog X.w X.K X.mg X.base k G c m ps h) (hr:Room k' X.A) (hk:k<=k') (ho:PV G X o ca)
  (ht:eval (.Call (.Attribute o m apos) [] [] pos) X.env=(do
   let ov ← eval o X.env
   standAt apos.atName
   let (f,first) ← holding [ov] (getMethod ov m pl)
   callWith pos f first (backTo pos (starEach [] X.env)) (backToKw pos (keywordEach [] X.env)))):PV G X (.Call (.Attribute o m apos) [] [] pos) (dc c h ca ai):=by
 obtain ⟨f,fd,h1,h2,h3⟩:=F.ex
 exact xK F.no ho F.cl h2 h1 hr hk h3 ht
theorem zp {e:Ex}:∀ (η:VS.Env) (xs:Wr),ab e ai η=some xs->xs.length=1:=fun η xs h=>by
 obtain ⟨a,_,h⟩:=Zz.mp h
 cases h
 rfl
theorem By (F:InAt X.prog X.w X.K X.mg X.base k G c n x ps g) (hr:Room k' X.A) (hk:k+1<=k') (ha:PVs G X (e :: es) cs) (hn:∀ η xs,cs η=some xs->xs.length=n) (hg:Gl X x)
  (hdb:(x == ("__debug__" : Str))=false) (he:starEach (e :: es) X.env=(false,eval e X.env) :: starEach es X.env) (hpl:(backTo pos (starEach es X.env)).any (·.1)=false):PV G X (.Call (.Name x p) (e :: es) [] pos) (eNew c g cs):=by
 obtain ⟨f,fd,h1,h2,h3⟩:=F.ex
 exact Dm n h2 h1 hr hk hg F.mg h3 ha hn hdb he hpl
theorem yN (F:InAt X.prog X.w X.K X.mg X.base k G c 0 x ps g) (hr:Room k' X.A) (hk:k+1<=k') (hg:Gl X x) (hdb:(x == ("__debug__" : Str))=false):PV G X (.Call (.Name x p) [] [] pos) (eNew c g ai):=by
 obtain ⟨f,fd,h1,h2,h3⟩:=F.ex
 exact Bu h2 h1 hr hk hg F.mg h3 hdb
theorem C5 (h:PX G X e xc) (hsw:swapsWith e none pos.line X.env=pure false):PSV G X (.Expr e pos) (sXM xc):=ur h hsw
theorem Aa (h:PX G X e xc):PSV G X (.Return (some e) pos) (iS xc):=xr h
theorem Be (h:PX G X e xc) (hN:X.N.Nodup) (hi:X.N[j]?=some x) (hx:Loc X.env.scope x) (hs:swapsWith e (some (.Name x pos')) pos.line X.env=pure false) (hf:X.fn x=true\/X.env.scope.names.lookup x=some .local):PSV G X (.Assign [.Name x pos'] e pos) (gf j xc):=wR h hN hi hx hs hf
theorem zK (J:ft G) (hr:Room kr X.A) (ho:PPl G X o i way) (hk:PV G X b ck) (he:PX G X e xc)
  (ha:∀ v,assign (.Subscript o b pos') X.env v=(do
   let ov ← holding [v] (eval o X.env)
   let iv ← holding [v,ov] (eval b X.env)
   standAt pos'
   holding [v,ov,iv] (setItem ov iv v)
   release [v,ov,iv] [])) (hs:swapsWithSole [.Subscript o b pos'] e pos.line X.env=pure false) (hw:swappedStores [.Subscript o b pos'] e X.env=pure none)
  (h1:(assignEach [.Subscript o b pos'] X.env).map (·.2)=[assign (.Subscript o b pos') X.env]):PSV G X (.Assign [.Subscript o b pos'] e pos) (gR i way ck xc):=zf J hr ho hk he ha hs hw h1
theorem Bw (J:ft G) (hr:Room kr X.A) (ho:PPl G X o i way) (hk:PV G X b ck) (he:PV G X e ce)
  (ha:∀ v,assign (.Subscript o b pos') X.env v=(do
   let ov ← holding [v] (eval o X.env)
   let iv ← holding [v,ov] (eval b X.env)
   standAt pos'
   holding [v,ov,iv] (setItem ov iv v)
   release [v,ov,iv] [])) (hs:swapsWithSole [.Subscript o b pos'] e pos.line X.env=pure false) (hw:swappedStores [.Subscript o b pos'] e X.env=pure none)
  (h1:(assignEach [.Subscript o b pos'] X.env).map (·.2)=[assign (.Subscript o b pos') X.env]):PSV G X (.Assign [.Subscript o b pos'] e pos) (du i way ck ce):=vk J hr ho hk he ha hs hw h1
theorem zP (J:ft G) (ho:PPl G X o i way) (ha:PVs G X [e] cs) (hK:X.K=G.K)
  (hbase:attributeBase o "append" X.env (eval o X.env)=eval o X.env)
  (hfew:((backTo cpos (starEach [e] X.env)).all (fun x=>!x.1) && (backToKw cpos (keywordEach [] X.env)).all (fun x=>x.1.isSome)
   && decide ([e].length+([]:List Keyword).length+(if ([]:List Keyword).isEmpty then 0 else 1) < 30))=true)
  (hline:(apos.endLine == cpos.line)=true) (hs:starEach [e] X.env=(false,eval e X.env) :: starEach [] X.env) (hplain:(backTo cpos (starEach [] X.env)).any (·.1)=false)
  (hsw:swapsWith (.Call (.Attribute o "append" apos) [e] [] cpos) none pos.line X.env=pure false) :
  PSV G X (.Expr (.Call (.Attribute o "append" apos) [e] [] cpos) pos) (sX (fY i way aD cs)) :=
 uK J Xg Xj Xk iB mW (fun H v t F l z r h=>kh r h) ho ha hK hbase hfew hline hs hplain hsw
end
noncomputable def mkT (m:Nat) (t:T):T:=.obj 0 [(0,.bl true),(m,t)]
noncomputable def unT:T->Option (Nat×T)
 | .obj 0 [(0,.bl true),(m,t)]=>some (m,t)
 | _=>none
theorem kJ {t u:T} {m:Nat} (h:unT t=some (m,u)):t=mkT m u:=by
 unfold unT at h
 split at h
 ·cases h;rfl
 ·cases h
noncomputable def oF (vs:List V):Me:=fun k=>match k with
 | 0=>none
 | k+1=>vs[k]?
noncomputable def markL:Nat->List Bool->Wp->Wp
 | k,b :: bs,t :: ts=>(if b then mkT (k+1) t else t) :: markL (k+1) bs ts
 | _,_,_=>[]
noncomputable def lB (η:VS.Env):Nat->List Bool->Option (Wp)
 | _,[]=>some []
 | k,true :: bs=>match (η[k]?:Option (Ws)) with
  | some (some (.ow t))=>(unT t).bind fun z=>if z.1=k+1 then (lB η (k+1) bs).map (z.2 :: ·) else none
  | _=>none
 | k,false :: bs=>lB η (k+1) bs
noncomputable def dA {α:Type}:List Bool->List α->List α
 | true :: bs,x :: xs=>x :: dA bs xs
 | false :: bs,_ :: xs=>dA bs xs
 | _,_=>[]
noncomputable def ioΦ (Φ:Fps):Nat->List Bool->Xd
 | _,[]=>[]
 | k,true :: bs=>Φ k :: ioΦ Φ (k+1) bs
 | k,false :: bs=>ioΦ Φ (k+1) bs
noncomputable def ifn (np nn:Nat) (mv:List Bool) (body:Sx):Wp->Option (Wp×T)
 | t0 :: ts=>if ts.length+1=np/\mv.length=ts.length then
  (body ((some (.ow (mkT 1 t0)) :: List.zipWith g8 mv (markL 1 mv ts))++List.replicate (nn - np) none)).bind fun o=>match o with
   | .rt v η=>(lB η 0 (true :: mv)).bind fun os=>if imm v.2=true/\bw os=true then some (os,v.2) else none
   | .nx η=>(lB η 0 (true :: mv)).bind fun os=>if bw os=true then some (os,.non) else none
   | _=>none else none
 | []=>none
structure ChI (G:Gx) (H:Hp) (mv:List Bool) (vs:List V) (Fs:Xd) (os:Wp) (H2:Hp) (Gs:Xd):Prop where
 kept:Kept H H2
 keep:∀ b o,b ∉ mvF mv Fs->H b=some o->H2 b=some o
 dom:∀ b,H b ≠ none->H2 b ≠ none
 rp:RpL G H2 (dA mv vs) os Gs
 nd:Gs.flatten.Nodup
 sub:∀ a∈Gs.flatten,a∈mvF mv Fs\/H a=none
noncomputable def spI (G:Gx) (mv:List Bool) (g:Wp->Option (Wp×T)):Sp:=fun vs H Q _=>∃ (a:Addr) (us:List V) (t0:T) (ts:Wp) (F:Wy) (Fs:Xd) (os:Wp) (x:T),vs=.ref a :: us/\Rp G H (.ref a) t0 F/\RpL G H us ts Fs/\(∀ v∈dA mv us,∃ b,v=.ref b)/\eE t0=true/\bw ts=true/\mv.length=ts.length ∧
 (F++mvF mv Fs).Nodup/\(∀ b∈F++mvF mv Fs,b ∉ puF mv Fs)/\g (t0 :: ts)=some (os,x)/\∀ u H' Gs,ChI G H (true :: mv) vs (F :: Fs) os H' Gs->Rp G H' u x []->Q u H'
section
variable {G:Gx} {H:Hp}
theorem qS {m:Me}:∀ {bs:List Bool} {us:List V} {ts:Wp} {Fs:Xd} (k:Nat),RpL (G.at m) H us ts Fs->(∀ v∈dA bs us,∃ b,v=.ref b)->(∀ j,m (k+1+j)=us[j]?)->bs.length=ts.length->RpL (G.at m) H us (markL k bs ts) Fs
 | [],_,_,_,k,.nil,_,_,_=>.nil
 | [],_,_,_,k,.cons _ _,_,_,h=>by simp at h
 | _ :: _,_,_,_,k,.nil,_,_,h=>by simp at h
 | b :: bs,v :: us,t :: ts,F :: Fs,k,.cons r q,hr,hm,hl=>by
  have ih:=qS (bs:=bs) (k+1) q (fun w hw=>hr w (by cases b <;> simp [dA,hw])) (fun j=>by rw [show k+1+1+j=k+1+(j+1) by omega,hm (j+1)];rfl) (by simpa using hl)
  cases b with
  | false=>exact .cons r ih
  | true =>
   obtain ⟨a,rfl⟩:=hr v (by simp [dA])
   exact .cons (.mk (hm 0) r) ih
theorem qH {vs:List V} {Φ:Fps} {η:VS.Env} {σ:L2.St} (s:SR (G.at (oF vs)) Φ η σ H):∀ (bs:List Bool) (k:Nat) (os:Wp),lB η k bs=some os->bw os=true →
  RpL G H (dA bs (vs.drop k)) os (ioΦ Φ k bs)/\(ioΦ Φ k bs).flatten.Nodup/\∀ a∈(ioΦ Φ k bs).flatten,∃ j t,k<=j/\η[j]?=some (some (.ow t))/\a∈Φ j
 | [],k,os,h,_=>by
  cases h
  refine ⟨?_,Yo,fun a h=>nomatch h⟩
  cases vs.drop k <;> exact .nil
 | false :: bs,k,os,h,hn=>by
  obtain ⟨h1,h2,h3⟩:=qH s bs (k+1) os h hn
  refine ⟨?_,h2,fun a ha=>?_⟩
  ·rw [← List.drop_drop,List.drop_one] at h1
   cases hv:vs.drop k with
   | nil=>rw [hv] at h1;cases bs <;> (try rename_i b _;cases b) <;> exact h1
   | cons v r=>rw [hv] at h1;exact h1
  ·obtain ⟨j,t,a1,a2⟩:=h3 a ha
   exact ⟨j,t,by omega,a2⟩
 | true :: bs,k,os,h,hn=>by
  unfold lB at h
  split at h
  ·rename_i t ht
   obtain ⟨⟨m,u⟩,e1,e2⟩:=Zz.mp h
   split at e2
   ·rename_i hm
    obtain ⟨os',e3,rfl⟩:=Zy.mp e2
    rw [bw,Zf] at hn
    obtain ⟨h1,h2,h3⟩:=qH s bs (k+1) os' e3 hn.2
    have et:=kJ e1
    subst et
    have hm':m=k+1:=hm
    subst hm'
    obtain ⟨v,g1,g2⟩:=s.rp k _ ht
    obtain ⟨a,rfl,g3,g4⟩:=la (show Rp (G.at (oF vs)) H v (.obj 0 [(0,.bl true),(k+1,u)]) (Φ k) from g2)
    have g5:vs[k]?=some (.ref a):=g3
    have hd:vs.drop k=.ref a :: vs.drop (k+1):=by
     obtain ⟨hk,e⟩:=Zj.mp g5
     rw [List.drop_eq_getElem_cons hk,e]
    refine ⟨?_,?_,fun b hb=>?_⟩
    ·rw [hd]
     exact .cons (g4.at G.me hn.1) h1
    ·show (Φ k++(ioΦ Φ (k+1) bs).flatten).Nodup
     refine ZY.mpr ⟨s.nd k _ ht,h2,fun b hb c hc z=>?_⟩
     subst z
     obtain ⟨j,t',a1,a2,a3⟩:=h3 b hc
     exact s.sep k j _ _ ht a2 (by omega) b hb a3
    ·rcases Zg.mp (show b∈Φ k++(ioΦ Φ (k+1) bs).flatten from hb) with z | z
     ·exact ⟨k,_,Zk _,ht,z⟩
     ·obtain ⟨j,t',a1,a2⟩:=h3 b z
      exact ⟨j,t',by omega,a2⟩
   ·cases e2
  ·cases h
end
section
variable {G:Gx} {P:Program} {w:World} {K:X4} {mg:Wz} {base:Heap}
theorem fnI {x qual:Str} {st:Stmt} {f:Addr} {fd:FuncData} {N ps:List Str} {k np nn:Nat} {mv:List Bool} {body:Sx} (F:Fun K x qual st f fd) (S:FnScope N ps (af st)) (hp:ps.length=np) (hn:N.length=nn)
  (hb:∀ (m:Me) (cdv:Value) (A:Around) (outer:List PySem.Env) (s:Shared) (H:Hp) (E:XK),Room k (A.deeper (envOfC qual (af st) s.heap.objs.size f cdv))->cB (G.at m) (fo CX0 P w K mg base N qual (af st) f cdv A outer s H E).nox (au st) body) :
  FnOk P w K mg base CX0 (k+1) f fd ps (spI G mv (ifn np nn mv body)):=by
 refine F.ok S (fun vs H Q E h=>?_) fun cdv A outer s H vs Q E hr h=>?_
 ·obtain ⟨a,us,t0,ts,F0,Fs,os,y,rfl,r0,r,rf,no,nos,hm,nd,sp,e,q⟩:=h
  dsimp only [ifn] at e
  split at e
  ·rename_i hl
   rw [Za,r.len.1,hl.1,hp]
  ·cases e
 ·obtain ⟨a,us,t0,ts,F0,Fs,os,y,rfl,r0,r,rf,no,nos,hm,nd,sp,e,q⟩:=h
  refine ⟨_,hb (oF (.ref a :: us)) cdv A outer s H E hr,?_⟩
  dsimp only [ifn] at e
  split at e
  ·rename_i hl
   obtain ⟨o,e1,e2⟩:=Zz.mp e
   have hml:∀ (bs:List Bool) (ts:Wp) (k:Nat),bs.length=ts.length->(markL k bs ts).length=ts.length:=by
    intro bs
    induction bs with
    | nil=>intro ts k h;cases ts <;> simp_all [markL]
    | cons b bs ih =>
     intro ts k h
     cases ts with
     | nil=>simp at h
     | cons t ts=>simp only [markL,Za];rw [ih ts (k+1) (by simpa using h)]
   have m1:=qS (m:=oF (.ref a :: us)) (bs:=mv) 1 (r.at (oF (.ref a :: us)) nos) rf (fun j=>by rw [show 1+1+j=(1+j)+1 by omega];show (V.ref a :: us)[1+j]?=_;rw [Nat.add_comm 1 j];rfl) hm
   obtain ⟨s0,ow0⟩:=pD (mv:=mv) (Rp.mk (m:=1) (show (G.at (oF (.ref a :: us))).me 1=some (.ref a) from rfl) (r0.at (oF (.ref a :: us)) no)) m1 (by rw [hml mv ts 1 hm];exact hm) nd sp nn (us.length+1) rfl
   rw [hml mv ts 1 hm,hl.1] at s0 ow0
   have e3:L2.start N (V.ref a :: us)=(V.ref a :: us).map some++List.replicate (nn - (us.length+1)) none:=by
    unfold L2.start
    rw [hn]
    rfl
   rw [e3]
   have fin:∀ {η':VS.Env} {Φ':Fps} {σ':L2.St} {H':Hp} {os:Wp},lB η' 0 (true :: mv)=some os->bw os=true->SR (G.at (oF (.ref a :: us))) Φ' η' σ' H'->Frm (fun i=>(F0 :: Fs).getD i []) ((some (.ow (mkT 1 t0)) :: List.zipWith g8 mv (markL 1 mv ts))++List.replicate (nn - np) none) H Φ' η' H' →
     ChI G H (true :: mv) (.ref a :: us) (F0 :: Fs) os H' (ioΦ Φ' 0 (true :: mv)):=fun {η' Φ' σ' H' os} ho hno s' fr=>by
    obtain ⟨h1,h2,h3⟩:=qH s' (true :: mv) 0 os ho hno
    have ow1:∀ b,cK (fun i=>(F0 :: Fs).getD i []) ((some (.ow (mkT 1 t0)) :: List.zipWith g8 mv (markL 1 mv ts))++List.replicate (nn - np) none) b->b∈mvF (true :: mv) (F0 :: Fs):=ow0
    refine ⟨fr.kept,fun b' o' hb' ho=>(fr.keep b' o' ho fun z=>hb' (ow1 b' z)).1,fr.dom,h1,h2,fun b' hb'=>?_⟩
    obtain ⟨j,t,_,a2,a3⟩:=h3 b' hb'
    rcases fr.ow b' ⟨j,t,a2,a3⟩ with z | z
    ·exact .inl (ow1 b' z)
    ·exact .inr z
   refine ⟨_,_,o,s0,e1,?_⟩
   cases o with
   | nx η' =>
    obtain ⟨os2,e4,e5⟩:=Zz.mp e2
    split at e5
    ·rename_i hi
     cases e5
     intro Φ' σ' H' s' fr
     exact q .non H' _ (fin e4 hi s' fr) .non
    ·cases e5
   | rt v η' =>
    obtain ⟨os2,e4,e5⟩:=Zz.mp e2
    split at e5
    ·rename_i hi
     cases e5
     intro u H' F' Φ' σ' s' fr r' rf
     have:=r'.imm hi.1
     subst this
     exact q u H' _ (fin e4 hi.2 s' fr) (r'.at G.me (jQ _ hi.1))
    ·cases e5
   | bk η'=>cases e2
   | ct η'=>cases e2
  ·cases e
end
section
variable {G:Gx}
theorem SR.mutS {Φ Φ':Fps} {η η':VS.Env} {σ:L2.St} {H H2:Hp} {S:Nat->Prop} (s:SR G Φ η σ H) (hl:η'.length=η.length) (off:∀ j,¬ S j->η'[j]?=η[j]?/\Φ' j=Φ j) (on:∀ j,S j->∃ t t' v,η[j]?=some (some (.ow t))/\η'[j]?=some (some (.ow t'))/\σ[j]?=some (some v)/\Rp G H2 v t' (Φ' j)/\(Φ' j).Nodup)
  (ap:∀ i j,S i->S j->i ≠ j->∀ a∈Φ' i,a ∉ Φ' j) (kept:Kept H H2) (keep:∀ b o,(∀ j,S j->b ∉ Φ j)->H b=some o->H2 b=some o) (dom:∀ b,H b ≠ none->H2 b ≠ none) (sub:∀ j,S j->∀ a∈Φ' j,(∃ i,S i/\a∈Φ i)\/H a=none) :
  SR G Φ' η' σ H2/\Frm Φ η H Φ' η' H2:=by
 have far:∀ j c,¬ S j->η[j]?=some (some c)->∀ a∈Φ j,∀ i,S i->a ∉ Φ i:=fun j c hj hc a ha i hi ha'=>by
  obtain ⟨t,_,_,h1,_⟩:=on i hi
  exact s.sep i j t c h1 hc (fun e=>hj (e ▸ hi)) a ha' ha
 have new:∀ i,S i->∀ a∈Φ' i,∀ j c,¬ S j->η[j]?=some (some c)->a ∉ Φ j:=fun i hi a ha j c hj hc ha'=>by
  rcases sub i hi a ha with ⟨k,hk,z⟩ | z
  ·exact far j c hj hc a ha' k hk z
  ·obtain ⟨w,_,q⟩:=s.rp j c hc
   exact Mut.ne_none (q.dom a ha') z
 refine ⟨⟨hl.trans s.len,fun i c h=>?_,fun i t h=>?_,fun i j t c h1 h2 n=>?_⟩,⟨fun a o h n=>⟨keep a o (fun j hj z=>?_) h,fun z=>?_⟩,dom,fun a h=>?_,fun a h=>?_,kept⟩⟩
 ·by_cases hi:S i
  ·obtain ⟨t,t',v,g1,g2,g3,g4,_⟩:=on i hi
   rw [g2] at h
   cases h
   exact ⟨v,g3,g4⟩
  ·obtain ⟨g1,g2⟩:=off i hi
   rw [g1] at h
   obtain ⟨v,q1,q2⟩:=s.rp i c h
   rw [g2]
   exact ⟨v,q1,q2.keep kept fun a ha o ho=>keep a o (fun j hj=>far i c hi h a ha j hj) ho⟩
 ·by_cases hi:S i
  ·exact (on i hi).choose_spec.choose_spec.choose_spec.2.2.2.2
  ·obtain ⟨g1,g2⟩:=off i hi
   rw [g1] at h
   rw [g2]
   exact s.nd i t h
 ·by_cases hi:S i
  ·by_cases hj:S j
   ·exact ap i j hi hj n
   ·obtain ⟨g1,g2⟩:=off j hj
    rw [g1] at h2
    rw [g2]
    exact fun a ha=>new i hi a ha j c hj h2
  ·obtain ⟨g1,g2⟩:=off i hi
   rw [g1] at h1
   rw [g2]
   by_cases hj:S j
   ·exact fun a ha ha'=>new j hj a ha' i _ hi h1 ha
   ·obtain ⟨g3,g4⟩:=off j hj
    rw [g3] at h2
    rw [g4]
    exact s.sep i j t c h1 h2 n
 ·obtain ⟨t,_,_,h1,_⟩:=on j hj
  exact n ⟨j,t,h1,z⟩
 ·obtain ⟨j,t,h1,h2⟩:=z
  by_cases hj:S j
  ·rcases sub j hj a h2 with ⟨i,hi,z⟩ | z
   ·obtain ⟨t,_,_,g1,_⟩:=on i hi
    exact n ⟨i,t,g1,z⟩
   ·rw [z] at h;cases h
  ·obtain ⟨g1,g2⟩:=off j hj
   rw [g1] at h1
   rw [g2] at h2
   exact n ⟨j,t,h1,h2⟩
 ·obtain ⟨j,t,h1,h2⟩:=h
  by_cases hj:S j
  ·rcases sub j hj a h2 with ⟨i,hi,z⟩ | z
   ·obtain ⟨t,_,_,g1,_⟩:=on i hi
    exact .inl ⟨i,t,g1,z⟩
   ·exact .inr z
  ·obtain ⟨g1,g2⟩:=off j hj
   rw [g1] at h1
   rw [g2] at h2
   exact .inl ⟨j,t,h1,h2⟩
 ·obtain ⟨j,t,h1,h2⟩:=h
  by_cases hj:S j
  ·obtain ⟨t,t',v,g1,g2,_⟩:=on j hj
   rw [g2] at h1
   cases h1
  ·obtain ⟨g1,g2⟩:=off j hj
   rw [g1] at h1
   rw [g2] at h2
   exact .inl ⟨j,t,h1,h2⟩
end
inductive Ia where | io (i:Nat) (un:Bool) | ex (c:Ex)
noncomputable def ioV (un:Bool):Option (Ws)->Option T
 | some (some (.ow t))=>if un then (unT t).map (·.2) else if q9 t then some t else none
 | _=>none
noncomputable def exV (v:Val):Option T:=match v.1 with
 | .bo=>if imm v.2 then some v.2 else none
 | _=>some v.2
noncomputable def mq (η:VS.Env):List Ia->Option (Wp)
 | []=>some []
 | .io i un :: as=>(ioV un η[i]?).bind fun t=>(mq η as).map (t :: ·)
 | .ex c :: as=>(c η).bind fun v=>(exV v).bind fun t=>(mq η as).map (t :: ·)
noncomputable def iaB:List Ia->List Bool
 | []=>[]
 | .io _ _ :: as=>true :: iaB as
 | .ex _ :: as=>false :: iaB as
noncomputable def iaS:List Ia->Wv
 | []=>[]
 | .io i _ :: as=>i :: iaS as
 | .ex _ :: as=>iaS as
noncomputable def pJ (un:Bool) (c:Option (Ws)) (o:T):T:=if un then (match c with
 | some (some (.ow t))=>(match unT t with
  | some z=>mkT z.1 o
  | none=>o)
 | _=>o) else o
noncomputable def jB:List Ia->Wp->VS.Env->VS.Env
 | .io i un :: as,o :: os,η=>jB as os (η.set i (some (.ow (pJ un η[i]? o))))
 | .ex _ :: as,os,η=>jB as os η
 | _,_,η=>η
noncomputable def ij (as:List Ia) (g:Wp->Option (Wp×T)):Xx:=fun η=>(mq η as).bind fun ts=>if bw ts=true/\(iaS as).Nodup then (g ts).bind fun z=>if imm z.2=true then some ((.fr,z.2),jB as z.1 η) else none else none
inductive IaR (Φ:Fps) (η:VS.Env) (σ:L2.St) (H:Hp):List Ia->List V->Xd->Prop
 | nil:IaR Φ η σ H [] [] []
 | io {i:Nat} {un:Bool} {a:Addr} {as:List Ia} {vs:List V} {Fs:Xd}:σ[i]?=some (some (.ref a))->IaR Φ η σ H as vs Fs->IaR Φ η σ H (.io i un :: as) (.ref a :: vs) (Φ i :: Fs)
 | ex {c:Ex} {v:V} {F:Wy} {as:List Ia} {vs:List V} {Fs:Xd}:(∀ a∈F,H a=none\/dI Φ η a)->IaR Φ η σ H as vs Fs->IaR Φ η σ H (.ex c :: as) (v :: vs) (F :: Fs)
noncomputable def tIa (G:Gx) (as:List Ia):TA:=fun σ H Q=>∃ Φ η ts,SR G Φ η σ H/\mq η as=some ts/\∀ vs H' Fs,aJ H H'->RpL G H' vs ts Fs->IaR Φ η σ H as vs Fs->Q vs H'
noncomputable def PIa (G:Gx) (X:Cx) (es:List Expr) (as:List Ia):Prop:=PA X es (tIa G as)
section
variable {G:Gx} {X:Cx} {e:Expr} {es:List Expr} {as:List Ia} {c:Ex} {pos:Pos}
theorem zT {H:Hp} {v:V} {t:T} {F:Wy} (r:Rp G H v t F) (h:q9 t=true):∃ a,v=.ref a:=by
 cases r <;> first | exact ⟨_,rfl⟩ | (simp at h)
theorem IaR.mono {Φ:Fps} {η:VS.Env} {σ:L2.St} {H H1:Hp} (e:aJ H H1) {as:List Ia} {vs:List V} {Fs:Xd} (h:IaR Φ η σ H1 as vs Fs):IaR Φ η σ H as vs Fs:=by
 induction h with
 | nil=>exact .nil
 | io h _ ih=>exact .io h ih
 | ex h _ ih=>exact .ex (fun a ha=>(h a ha).imp e.free id) ih
theorem xZ:PIa G X [] []:=PA.weak j5 fun σ H Q hq=>by
 obtain ⟨Φ,η,ts,s,e,k⟩:=hq
 cases e
 exact k [] H [] (aJ.refl _) .nil .nil
theorem Ar (i:Nat) (un:Bool) {x:Str} (hN:X.N[i]?=some x) (hv:Vis X.env.scope x) (hd:(x == ("__debug__" : Str))=false) (hcd:(x == ("__classdict__" : Str))=false) (hr:PIa G X es as)
  (hs:starEach (.Name x pos :: es) X.env=(false,eval (.Name x pos) X.env) :: starEach es X.env):PIa G X (.Name x pos :: es) (.io i un :: as) :=
 PA.weak (dR (fZ hN hv hd hcd) hr hs) fun σ H Q hq=>by
  obtain ⟨Φ,η,ts,s,e,k⟩:=hq
  obtain ⟨t,e1,e2⟩:=Zz.mp (show (ioV un η[i]?).bind (fun t=>(mq η as).map (t :: ·))=some ts from e)
  obtain ⟨ts',e3,rfl⟩:=Zy.mp e2
  unfold ioV at e1
  split at e1
  ·rename_i t0 h0
   obtain ⟨v,h1,h2⟩:=s.rp _ _ h0
   have h2':Rp G H v t0 (Φ i):=h2
   have key:∃ a,v=.ref a/\Rp G H (.ref a) t (Φ i):=by
    split at e1
    ·obtain ⟨⟨m,u⟩,g1,g2⟩:=Zy.mp e1
     cases g2
     rw [kJ g1] at h2'
     obtain ⟨a,q1,_,q2⟩:=la h2'
     exact ⟨a,q1,q2⟩
    ·split at e1
     ·rename_i hm
      cases e1
      obtain ⟨a,rfl⟩:=zT h2' hm
      exact ⟨a,rfl,h2'⟩
     ·cases e1
   obtain ⟨a,rfl,r⟩:=key
   exact ⟨_,h1,Φ,η,ts',s,e3,fun vs H' Fs sm rp ia=>k _ H' _ sm (.cons (r.same sm) rp) (.io h1 ia)⟩
  ·cases e1
theorem AN (h:PV G X e c) (hr:PIa G X es as) (hs:starEach (e :: es) X.env=(false,eval e X.env) :: starEach es X.env):PIa G X (e :: es) (.ex c :: as) :=
 PA.weak (dR h hr hs) fun σ H Q hq=>by
  obtain ⟨Φ,η,ts,s,e,k⟩:=hq
  obtain ⟨⟨m,t⟩,e1,e2⟩:=Zz.mp (show (c η).bind (fun v=>(exV v).bind fun t=>(mq η as).map (t :: ·))=some ts from e)
  obtain ⟨t',e3,e4⟩:=Zz.mp e2
  obtain ⟨ts',e5,rfl⟩:=Zy.mp e4
  refine ⟨Φ,η,m,t,s,e1,fun v H1 F sm r f=>⟨Φ,η,ts',s.same sm,e5,fun vs H2 Fs sm2 rp ia=>?_⟩⟩
  have key:t'=t/\∀ a∈F,H a=none\/dI Φ η a:=by
   unfold exV at e3
   cases m with
   | fr=>cases e3;exact ⟨rfl,fun a ha=>.inl (f.2 a ha)⟩
   | pu=>cases e3;exact ⟨rfl,f⟩
   | bo =>
    dsimp only at e3
    split at e3
    ·rename_i hi
     cases e3
     rw [r.imm hi]
     exact ⟨rfl,fun a ha=>nomatch ha⟩
    ·cases e3
  obtain ⟨rfl,hf⟩:=key
  exact k _ H2 _ (sm.trans sm2) (.cons (r.same sm2) rp) (.ex hf (ia.mono sm))
end
section
variable {G:Gx} {Φ:Fps} {η:VS.Env} {σ:L2.St} {H:Hp}
structure IaF (G:Gx) (Φ:Fps) (η:VS.Env) (σ:L2.St) (H:Hp) (as:List Ia) (ts:Wp) (vs:List V) (Fs:Xd):Prop where
 ref:∀ v∈dA (iaB as) vs,∃ b,v=.ref b
 len:(iaB as).length=ts.length
 mv:∀ a,a∈mvF (iaB as) Fs ↔ ∃ j∈iaS as,a∈Φ j
 pu:∀ a∈puF (iaB as) Fs,H a=none\/dI Φ η a
 ow:∀ i un,Ia.io i un∈as->∃ t a,η[i]?=some (some (.ow t))/\σ[i]?=some (some (.ref a))/\(un=true->∃ m u,unT t=some (m,u)/\G.me m=some (.ref a))
 nd:(iaS as).Nodup->(mvF (iaB as) Fs).Nodup
theorem jk:∀ {as:List Ia} {i:Nat},i∈iaS as ↔ ∃ un,Ia.io i un∈as
 | [],i=>⟨(fun h=>nomatch h),fun ⟨_,h⟩=>nomatch h⟩
 | .io j un :: as,i=>by
  show i∈j :: iaS as ↔ _
  rw [Zi,jk]
  constructor
  ·rintro (rfl | ⟨u,h⟩)
   ·exact ⟨un,Zt⟩
   ·exact ⟨u,Zx _ h⟩
  ·rintro ⟨u,h⟩
   rcases Zi.mp h with h | h
   ·cases h;exact .inl rfl
   ·exact .inr ⟨u,h⟩
 | .ex c :: as,i=>by
  show i∈iaS as ↔ _
  rw [jk]
  exact ⟨fun ⟨u,h⟩=>⟨u,Zx _ h⟩,fun ⟨u,h⟩=>by
   rcases Zi.mp h with h | h
   ·cases h
   ·exact ⟨u,h⟩⟩
theorem vc (s:SR G Φ η σ H):∀ {as:List Ia} {ts:Wp} {vs:List V} {Fs:Xd},mq η as=some ts->IaR Φ η σ H as vs Fs->IaF G Φ η σ H as ts vs Fs:=by
 intro as
 induction as with
 | nil =>
  intro ts vs Fs e r
  cases e
  cases r
  exact ⟨(fun v h=>nomatch h),rfl,fun a=>⟨(fun h=>nomatch h),fun ⟨_,h,_⟩=>nomatch h⟩,(fun a h=>nomatch h),(fun i un h=>nomatch h),fun _=>Yo⟩
 | cons x as ih =>
  intro ts vs Fs e r
  cases r with
  | @io i un a _ vs Fs h r =>
   obtain ⟨t,e1,e2⟩:=Zz.mp (show (ioV un η[i]?).bind (fun t=>(mq η as).map (t :: ·))=some ts from e)
   obtain ⟨ts',e3,rfl⟩:=Zy.mp e2
   have f:=ih e3 r
   have hi:∃ t0,η[i]?=some (some (.ow t0))/\(un=true->∃ m u,unT t0=some (m,u)/\G.me m=some (.ref a)):=by
    unfold ioV at e1
    split at e1
    ·rename_i t0 h0
     refine ⟨t0,h0,fun hu=>?_⟩
     rw [hu,Zr rfl] at e1
     obtain ⟨⟨m,u⟩,g1,g2⟩:=Zy.mp e1
     obtain ⟨v,h1,h2⟩:=s.rp _ _ h0
     rw [h] at h1
     cases h1
     have h2':Rp G H (.ref a) t0 (Φ i):=h2
     rw [kJ g1] at h2'
     obtain ⟨a',q1,q2,_⟩:=la h2'
     cases q1
     exact ⟨m,u,g1,q2⟩
    ·cases e1
   obtain ⟨t0,h0,hu⟩:=hi
   have mvc:∀ b,b∈Φ i++mvF (iaB as) Fs ↔ ∃ j∈i :: iaS as,b∈Φ j:=fun b=>by
    rw [Zg,f.mv]
    constructor
    ·rintro (z | ⟨j,hj,z⟩)
     ·exact ⟨i,Zt,z⟩
     ·exact ⟨j,Zx _ hj,z⟩
    ·rintro ⟨j,hj,z⟩
     rcases Zi.mp hj with rfl | hj
     ·exact .inl z
     ·exact .inr ⟨j,hj,z⟩
   refine ⟨fun v hv=>?_,?_,mvc,?_,fun i' un' h'=>?_,fun nd=>?_⟩
   ·rcases Zi.mp (show v∈V.ref a :: dA (iaB as) vs from hv) with rfl | hv
    ·exact ⟨a,rfl⟩
    ·exact f.ref v hv
   ·show (iaB as).length+1=ts'.length+1
    rw [f.len]
   ·exact fun b hb=>f.pu b hb
   ·rcases Zi.mp h' with h' | h'
    ·cases h'
     exact ⟨t0,a,h0,h,hu⟩
    ·exact f.ow i' un' h'
   ·have nd':=Ze.mp (show (i :: iaS as).Nodup from nd)
    show (Φ i++mvF (iaB as) Fs).Nodup
    refine ZY.mpr ⟨s.nd i _ h0,f.nd nd'.2,fun b hb b' hb' z=>?_⟩
    subst z
    obtain ⟨j,hj,z⟩:=(f.mv b).mp hb'
    obtain ⟨un',hj'⟩:=jk.mp hj
    obtain ⟨t',_,g1,_⟩:=f.ow j un' hj'
    exact s.sep i j _ _ h0 g1 (fun e=>nd'.1 (e ▸ hj)) b hb z
  | @ex c v F _ vs Fs h r =>
   obtain ⟨⟨m,t⟩,e1,e2⟩:=Zz.mp (show (c η).bind (fun v=>(exV v).bind fun t=>(mq η as).map (t :: ·))=some ts from e)
   obtain ⟨t',_,e4⟩:=Zz.mp e2
   obtain ⟨ts',e5,rfl⟩:=Zy.mp e4
   have f:=ih e5 r
   refine ⟨f.ref,?_,f.mv,fun a ha=>?_,fun i' un' h'=>?_,f.nd⟩
   ·show (iaB as).length+1=ts'.length+1
    rw [f.len]
   ·rcases Zg.mp (show a∈F++puF (iaB as) Fs from ha) with z | z
    ·exact h a z
    ·exact f.pu a z
   ·rcases Zi.mp h' with h' | h'
    ·cases h'
    ·exact f.ow i' un' h'
theorem so {H2:Hp}:∀ {as:List Ia} {vs:List V} {Fs:Xd} {os:Wp} {Gs:Xd} {η:VS.Env},(∀ i un,Ia.io i un∈as->∃ t a,η[i]?=some (some (.ow t))/\σ[i]?=some (some (.ref a))/\(un=true->∃ m u,unT t=some (m,u)/\G.me m=some (.ref a)))->(iaS as).Nodup →
  (∀ (n:Nat) (v:V),(dA (iaB as) vs)[n]?=some v->∃ i:Nat,(iaS as)[n]?=some i/\σ[i]?=some (some v))->RpL G H2 (dA (iaB as) vs) os Gs->(dA (iaB as) vs).length=(iaS as).length →
  (jB as os η).length=η.length/\(∀ j:Nat,j ∉ iaS as->(jB as os η)[j]?=η[j]?)/\∀ (n j:Nat),(iaS as)[n]?=some j->∃ (t t':T) (v:V) (F:Wy),η[j]?=some (some (Cell.ow t))/\(jB as os η)[j]?=some (some (Cell.ow t'))/\σ[j]?=some (some v)/\Gs[n]?=some F/\Rp G H2 v t' F:=by
 intro as
 induction as with
 | nil=>intro vs Fs os Gs η _ _ _ r _;exact ⟨rfl,fun _ _=>rfl,fun n j h=>by simp [iaS] at h⟩
 | cons x as ih =>
  intro vs Fs os Gs η ow nd al r hl
  cases x with
  | ex c =>
   cases vs with
   | nil =>
    have e:(dA (iaB (.ex c :: as)) ([]:List V))=[]:=rfl
    have e2:iaS as=[]:=Xf.mp (by rw [e] at hl;exact hl.symm)
    rw [e] at r
    cases r
    obtain ⟨a1,a2,a3⟩:=ih (vs:=[]) (os:=[]) (Gs:=[]) (Fs:=Fs) (η:=η) (fun i un h=>ow i un (Zx _ h)) nd (fun n v h=>by cases iaB as <;> (try rename_i b _;cases b) <;> simp [dA] at h) (by cases iaB as <;> (try rename_i b _;cases b) <;> exact .nil) (by rw [e2];cases iaB as <;> (try rename_i b _;cases b) <;> rfl)
    exact ⟨a1,a2,a3⟩
   | cons v vs=>exact ih (Fs:=Fs) (fun i un h=>ow i un (Zx _ h)) nd al r hl
  | io i un =>
   have nd':=Ze.mp (show (i :: iaS as).Nodup from nd)
   cases vs with
   | nil=>simp [iaB,dA,iaS] at hl
   | cons v vs =>
    cases r with
    | @cons _ o F _ os Gs r0 r =>
     obtain ⟨t,a,h0,h1,hu⟩:=ow i un Zt
     have hil:i < η.length:=(Zj.mp h0).1
     have hv:v=.ref a:=by
      obtain ⟨i',g1,g2⟩:=al 0 v rfl
      cases (show some i=some i' from g1)
      rw [h1] at g2
      cases g2
      rfl
     subst hv
     obtain ⟨a1,a2,a3⟩:=ih (vs:=vs) (os:=os) (Gs:=Gs) (Fs:=Fs) (η:=η.set i (some (.ow (pJ un η[i]? o)))) (fun i' un' h=>by
      obtain ⟨t',a',g1,g2⟩:=ow i' un' (Zx _ h)
      have ne:i ≠ i':=fun e=>nd'.1 (e ▸ jk.mpr ⟨un',h⟩)
      exact ⟨t',a',by rw [Yz ne];exact g1,g2⟩) nd'.2 (fun n w h=>by
      obtain ⟨i',g1,g2⟩:=al (n+1) w h
      exact ⟨i',g1,g2⟩) r (by simpa [iaB,dA,iaS] using hl)
     refine ⟨by rw [show jB (.io i un :: as) (o :: os) η=jB as os (η.set i (some (.ow (pJ un η[i]? o)))) from rfl,a1,ZJ],fun j hj=>?_,fun n j hn=>?_⟩
     ·have hj':j ≠ i/\j ∉ iaS as:=⟨fun e=>hj (e ▸ Zt),fun z=>hj (Zx _ z)⟩
      exact (a2 j hj'.2).trans (Yz (Yd hj'.1))
     ·cases n with
      | zero =>
       cases (show some i=some j from hn)
       refine ⟨t,_,.ref a,F,h0,(a2 i nd'.1).trans (YC hil),h1,rfl,?_⟩
       cases un with
       | false=>exact r0
       | true =>
        obtain ⟨m,u,g1,g2⟩:=hu rfl
        have:pJ true η[i]? o=mkT m o:=by
         unfold pJ
         rw [Zr rfl,h0]
         show (match unT t with | some z=>mkT z.1 o | none=>o)=_
         rw [g1]
        rw [this]
        exact .mk g2 r0
      | succ n =>
       obtain ⟨t',t2,v',F',g1,g2,g3,g4,g5⟩:=a3 n j hn
       have ne:i ≠ j:=fun e=>nd'.1 (e ▸ Yc (show (iaS as)[n]?=some j from hn))
       rw [Yz ne] at g1
       exact ⟨t',t2,v',F',g1,g2,g3,g4,g5⟩
theorem DH {H1:Hp}:∀ {as:List Ia} {vs:List V} {Fs:Xd},IaR Φ η σ H1 as vs Fs->(∀ (n:Nat) (v:V),(dA (iaB as) vs)[n]?=some v->∃ i:Nat,(iaS as)[n]?=some i/\σ[i]?=some (some v))/\(dA (iaB as) vs).length=(iaS as).length:=by
 intro as vs Fs r
 induction r with
 | nil=>exact ⟨fun n v h=>by simp [iaB,dA] at h,rfl⟩
 | @io i un a as vs Fs h _ ih =>
  refine ⟨fun n v hn=>?_,by simpa [iaB,dA,iaS] using ih.2⟩
  cases n with
  | zero=>cases (show some (V.ref a)=some v from hn);exact ⟨i,rfl,h⟩
  | succ n=>exact ih.1 n v hn
 | ex _ _ ih=>exact ih
end
section
variable {G:Gx} {X:Cx} {k:Nat} {f:Addr} {fd:FuncData} {ps:List Str} {x:Str} {p pos:Pos} {e:Expr} {es:List Expr} {as:List Ia} {i:Nat} {un:Bool} {g:Wp->Option (Wp×T)}
theorem vb (F:FnOk X.prog X.w X.K X.mg X.base CX0 k f fd ps (spI G (iaB as) g)) (hr:Room k X.A) (hg:Gl X x) (hm:X.mg x=some (.ref f)) (hk:PySem.W.keepIn X.K (.ref f)=true) (hb:Binds X.K fd ps []) (ha:PIa G X (e :: es) (.io i un :: as))
  (hdb:(x == ("__debug__" : Str))=false) (he:starEach (e :: es) X.env=(false,eval e X.env) :: starEach es X.env) (hpl:(backTo pos (starEach es X.env)).any (·.1)=false):PX G X (.Call (.Name x p) (e :: es) [] pos) (ij (.io i un :: as) g) :=
 PE.weak (rL (E:=E0) F hr hg hm hk hb .nil iP ha hdb he hpl) fun σ H Q h=>by
  obtain ⟨Φ,η,v,η',s,e,him,kq⟩:=h
  unfold ij at e
  obtain ⟨ts,e1,e2⟩:=Zz.mp e
  split at e2
  ·rename_i hc
   obtain ⟨⟨os,y⟩,eg,e3⟩:=Zz.mp e2
   split at e3
   ·rename_i hi
    cases e3
    refine ⟨Φ,η,ts,s,e1,fun vs H1 Fs sm rp ia=>?_⟩
    have ff:=vc s e1 ia
    have al:=DH ia
    show spI G (iaB as) g (vs++[]) H1 Q _
    rw [ZM]
    cases ia with
    | @io _ _ a _ us Fs hσ ia =>
     cases rp with
     | @cons _ t0 _ _ ts' _ r0 rp =>
      have no:eE t0=true/\bw ts'=true:=by
       have:=hc.1
       rw [bw,Zf] at this
       exact this
      refine ⟨a,us,t0,ts',Φ i,Fs,os,y,rfl,r0,rp,fun v hv=>ff.ref v (Zx _ hv),no.1,no.2,by simpa [iaB] using ff.len,ff.nd hc.2,fun b hb hb'=>?_,eg,fun u H' Gs ch ru=>?_⟩
      ·obtain ⟨j,hj,z⟩:=(ff.mv b).mp hb
       obtain ⟨un',hj'⟩:=jk.mp hj
       obtain ⟨t,_,g1,_⟩:=ff.ow j un' hj'
       rcases ff.pu b hb' with q | ⟨j2,t2,q1,q2⟩
       ·exact Mut.ne_none (s.ow_dom ⟨j,t,g1,z⟩) q
       ·refine s.sep j j2 t _ g1 q1 (fun e=>?_) b z q2
        rw [e,q1] at g1
        cases g1
      ·obtain ⟨p1,p2,p3⟩:=so (Fs:=[]) (η:=η) ff.ow hc.2 al.1 ch.rp al.2
       have at_:∀ j,j∈iaS (.io i un :: as)->∃ n F,(iaS (.io i un :: as))[n]?=some j/\n=(iaS (.io i un :: as)).idxOf j/\Gs[n]?=some F:=fun j hj=>by
        have hn:=List.idxOf_lt_length_iff.mpr hj
        have:(iaS (.io i un :: as))[(iaS (.io i un :: as)).idxOf j]?=some j:=by
         rw [Zo hn,List.getElem_idxOf]
        obtain ⟨_,_,_,F,_,_,_,q,_⟩:=p3 _ j this
        exact ⟨_,F,this,rfl,q⟩
       have Φe:∀ j,j∈iaS (.io i un :: as)->(if j∈iaS (.io i un :: as) then Gs.getD ((iaS (.io i un :: as)).idxOf j) [] else Φ j)=Gs.getD ((iaS (.io i un :: as)).idxOf j) []:=fun j hj=>Zr hj
       obtain ⟨z1,z2⟩:=s.mutS (S:=fun j=>j∈iaS (.io i un :: as)) (H2:=H') (η':=jB (.io i un :: as) os η) (Φ':=fun j=>if j∈iaS (.io i un :: as) then Gs.getD ((iaS (.io i un :: as)).idxOf j) [] else Φ j) p1 (fun j hj=>⟨p2 j hj,Zp hj⟩) (fun j hj=>by
        obtain ⟨n,F,q1,q2,q3⟩:=at_ j hj
        obtain ⟨t,t',v,F',w1,w2,w3,w4,w5⟩:=p3 n j q1
        rw [q3] at w4
        cases w4
        have eF:(if j∈iaS (.io i un :: as) then Gs.getD ((iaS (.io i un :: as)).idxOf j) [] else Φ j)=F:=by rw [Φe j hj,← q2,Zu,q3];rfl
        refine ⟨t,t',v,w1,w2,w3,?_,?_⟩
        ·rw [eF];exact w5
        ·rw [eF];exact ch.nd.sublist (cR q3)) (fun j j' hj hj' n a ha ha'=>by
        rw [Φe j hj] at ha
        rw [Φe j' hj'] at ha'
        obtain ⟨n1,F,q1,q2,q3⟩:=at_ j hj
        obtain ⟨n2,F',q1',q2',q3'⟩:=at_ j' hj'
        rw [← q2,Zu,q3] at ha
        rw [← q2',Zu,q3'] at ha'
        exact oa ch.nd q3 q3' (fun e=>n (by rw [e,q1'] at q1;exact (Zn q1).symm)) ha ha') ((Kept.of sm).trans ch.kept) (fun b o hb ho=>ch.keep b o (fun z=>by
        obtain ⟨j,hj,z'⟩:=(ff.mv b).mp z
        exact hb j hj z') (sm b o ho)) (fun b h=>ch.dom b fun z=>h (sm.free z)) (fun j hj a ha=>by
        rw [Φe j hj] at ha
        obtain ⟨n1,F,q1,q2,q3⟩:=at_ j hj
        rw [← q2,Zu,q3] at ha
        rcases ch.sub a ((cR q3).subset ha) with z | z
        ·exact .inl ((ff.mv a).mp z)
        ·exact .inr (sm.free z))
       exact kq u H' _ z1 z2 ru
   ·cases e3
  ·cases e2
end
noncomputable def eUn (c:Ex):Ex:=fun η=>(c η).bind fun v=>(unT v.2).map fun z=>(v.1,z.2)
noncomputable abbrev Xt:=VS.Env->Option (Bool×VS.Env)
noncomputable def tXT (G:Gx) (x:Xt):TT:=fun σ H Q=>∃ Φ η b η',SR G Φ η σ H/\x η=some (b,η')/\∀ H' Φ',SR G Φ' η' σ H'->Frm Φ η H Φ' η' H'->Q b H'
noncomputable def PXT (G:Gx) (X:Cx) (e:Expr) (x:Xt):Prop:=PT X e (tXT G x)
noncomputable def PXW (G:Gx) (X:Cx) (e:Expr) (x:Xt):Prop:=PW X e (tXT G x)
noncomputable def xtV (x:Xx):Xt:=fun η=>(x η).bind fun z=>match z.1.2 with
 | .bl b=>some (b,z.2)
 | _=>none
noncomputable def nG (x:Xt):Xt:=fun η=>(x η).map fun z=>(!z.1,z.2)
noncomputable def si (x:Xt) (c:Ex):Xt:=fun η=>(x η).bind fun z=>if z.1 then some (true,z.2) else (c z.2).bind fun v=>(tru v.2).map fun b=>(b,z.2)
noncomputable def vd (x:Xx):Xx:=fun η=>(x η).bind fun z=>if imm z.1.2 then some ((.fr,.bl (isN z.1.2)),z.2) else none
noncomputable def sW (x:Xt) (a b:Sx):Sx:=fun η=>(x η).bind fun z=>if z.1 then a z.2 else b z.2
section
variable {G:Gx} {X:Cx} {e a b:Expr} {rest:List Expr} {c cb:Ex} {x:Xx} {xt:Xt} {pos pos':Pos} {c1 c2:Sx}
theorem EA (h:PV G X e c):PV G X e (eUn c):=PE.weak h fun σ H Q hq=>by
 obtain ⟨Φ,η,m,t,s,e,k⟩:=hq
 obtain ⟨⟨mx,y⟩,e1,e2⟩:=Zz.mp e
 obtain ⟨⟨n,u⟩,e3,e4⟩:=Zy.mp e2
 cases e4
 refine ⟨Φ,η,mx,y,s,e1,fun v H' F sm r f=>k v H' F sm ?_ f⟩
 have r':Rp G H' v y F:=r
 rw [kJ (show unT y=some (n,u) from e3)] at r'
 obtain ⟨a,rfl,_,q⟩:=la r'
 exact q
theorem xm (h:PX G X e x) (he:∀ whole,isTrue e X.env whole=(do let v ← whole;standAt e.pos;holding [v] (truthy v))):PXT G X e (xtV x) :=
 PT.weak (Bp h he) fun σ H Q hq=>by
  obtain ⟨Φ,η,b,η',s,e,k⟩:=hq
  obtain ⟨⟨⟨m,t⟩,η1⟩,e1,e2⟩:=Zz.mp e
  dsimp only at e2
  split at e2
  ·cases e2
   exact ⟨Φ,η,_,_,s,e1,rfl,fun u H' Φ' s' f r=>⟨b,r.bl_inv,k H' Φ' s' f⟩⟩
  ·cases e2
theorem yo (h:PXT G X e xt):PXT G X (.UnaryOp .Not e pos) (nG xt):=PT.weak (vS h) fun σ H Q hq=>by
 obtain ⟨Φ,η,b,η',s,e,k⟩:=hq
 obtain ⟨⟨b0,η1⟩,e1,e2⟩:=Zy.mp e
 cases e2
 exact ⟨Φ,η,b0,_,s,e1,k⟩
theorem Ax (ha:PXT G X a xt) (hb:PVW G X (.BoolOp .Or (b :: rest) pos) cb):PXW G X (.BoolOp .Or (a :: b :: rest) pos) (si xt cb):=PW.weak (zJ ha hb) fun σ H Q hq=>by
 obtain ⟨Φ,η,r,η',s,e,k⟩:=hq
 obtain ⟨⟨b0,η1⟩,e1,e2⟩:=Zz.mp e
 refine ⟨Φ,η,b0,η1,s,e1,fun H1 Φ1 s1 f1=>?_⟩
 cases b0 with
 | true =>
  cases e2
  exact sD (k H1 Φ1 s1 f1)
 | false =>
  obtain ⟨⟨m,t⟩,e3,e4⟩:=Zz.mp e2
  obtain ⟨b1,e5,e6⟩:=Zy.mp e4
  cases e6
  exact sS ⟨Φ1,η1,m,t,r,s1,e3,e5,fun H' sm=>k H' Φ1 (s1.same sm) (f1.trans (Frm.same sm))⟩
theorem PXW.pxt (h:PXW G X e xt):PXT G X e xt:=PW.pt h
theorem Av {as bs:List Stmt} (hc:PXT G X e xt) (ha:cB G X as c1) (hb:cB G X bs c2):PSV G X (.If e as bs pos) (sW xt c1 c2):=PS.weak (zk hc ha hb) fun D σ H hq=>by
 obtain ⟨Φ,η,o,s,e,k⟩:=hq
 obtain ⟨⟨b0,η1⟩,e1,e2⟩:=Zz.mp e
 refine ⟨Φ,η,b0,η1,s,e1,fun H1 Φ1 s1 f1=>?_⟩
 cases b0 with
 | true=>exact sD ⟨Φ1,η1,o,s1,e2,k.back f1⟩
 | false=>exact sS ⟨Φ1,η1,o,s1,e2,k.back f1⟩
theorem Bg {j:Nat} (h:PX G X e x):PX G X (.Compare e [.Is] [.Constant .none j pos'] pos) (vd x):=PE.weak (BG (vW h)) fun σ H Q hq=>by
 obtain ⟨Φ,η,v,η',s,e,hi,k⟩:=hq
 obtain ⟨⟨⟨m,t⟩,η1⟩,e1,e2⟩:=Zz.mp e
 dsimp only at e2
 split at e2
 ·rename_i hit
  cases e2
  refine ⟨Φ,η,(m,t),_,s,e1,hit,fun u H' Φ' s' f r=>?_⟩
  show Q (.bl (decide (u=.non))) H'
  rw [oo r]
  exact k _ H' Φ' s' f (.bl _)
 ·cases e2
end
structure IoAt (P:Program) (w:World) (K:X4) (mg:Wz) (base:Heap) (k:Nat) (x:Str) (ps:List Str) (G:Gx) (mv:List Bool) (g:Wp->Option (Wp×T)):Prop where
 ex:∃ f fd,FnOk P w K mg base CX0 k f fd ps (spI G mv g)/\mg x=some (.ref f)/\PySem.W.keepIn K (.ref f)=true/\Binds K fd ps []
section
variable {P:Program} {w:World} {K:X4} {mg:Wz} {base:Heap} {k:Nat} {G:Gx} {x:Str} {ps:List Str} {mv:List Bool}
theorem BN {st:Stmt} {f:Addr} {fd:FuncData} {N:List Str} {np nn:Nat} {body:Sx} (F:Fun K x x st f fd) (hm:mg x=some (.ref f)) (S:FnScope N ps (af st)) (hp:ps.length=np) (hn:N.length=nn)
  (hbd:∀ (kV doc pm:Value) (an:Option Addr) (cdv ct:Value) (us:Wx),us.length=ps.length->bindArgs (PySem.W.fnOf x x (aB st) (au st) (af st) .none kV doc pm an cdv ct) ⟨us,[]⟩=pure (ps.zip us))
  (hb:∀ (m:Me) (cdv:Value) (A:Around) (outer:List PySem.Env) (s:Shared) (H:Hp) (E:XK),Room k (A.deeper (envOfC x (af st) s.heap.objs.size f cdv))->cB (G.at m) (fo CX0 P w K mg base N x (af st) f cdv A outer s H E).nox (au st) body) :
  IoAt P w K mg base (k+1) x ps G mv (ifn np nn mv body):=⟨f,fd,fnI F S hp hn hb,hm,F.kp,F.binds hbd⟩
end
section
variable {G:Gx} {X:Cx} {e a b:Expr} {es rest:List Expr} {as:List Ia} {c cb:Ex} {xc:Xx} {xt:Xt} {p pos pos':Pos} {c1 c2:Sx} {i k k':Nat} {un:Bool} {x:Str} {ps:List Str} {g:Wp->Option (Wp×T)} {way:List Stp}
theorem yW:PIa G X [] []:=xZ
theorem vy (i:Nat) (un:Bool) (hN:X.N[i]?=some x) (hv:Vis X.env.scope x) (hd:(x == ("__debug__" : Str))=false) (hcd:(x == ("__classdict__" : Str))=false) (hr:PIa G X es as)
  (hs:starEach (.Name x pos :: es) X.env=(false,eval (.Name x pos) X.env) :: starEach es X.env):PIa G X (.Name x pos :: es) (.io i un :: as):=Ar i un hN hv hd hcd hr hs
theorem Am (h:PV G X e c) (hr:PIa G X es as) (hs:starEach (e :: es) X.env=(false,eval e X.env) :: starEach es X.env):PIa G X (e :: es) (.ex c :: as):=AN h hr hs
theorem xB (F:IoAt X.prog X.w X.K X.mg X.base k x ps G (iaB as) g) (hr:Room k' X.A) (ha:PIa G X (e :: es) (.io i un :: as)) (hk:k<=k') (hg:Gl X x) (hdb:(x == ("__debug__" : Str))=false) (he:starEach (e :: es) X.env=(false,eval e X.env) :: starEach es X.env) (hpl:(backTo pos (starEach es X.env)).any (·.1)=false) :
  PX G X (.Call (.Name x p) (e :: es) [] pos) (ij (.io i un :: as) g):=by
 obtain ⟨f,fd,h1,h2,h3,h4⟩:=F.ex
 exact vb h1 (hr.mono hk) hg h2 h3 h4 ha hdb he hpl
theorem B4 (h:PPl G X e i way):PPl G X e i (way++[.un]):=DZ h
theorem Dv (h:PX G X e xc) (he:∀ whole,isTrue e X.env whole=(do let v ← whole;standAt e.pos;holding [v] (truthy v))):PXT G X e (xtV xc):=xm h he
theorem xO (h:PXT G X e xt):PXT G X (.UnaryOp .Not e pos) (nG xt):=yo h
theorem A7 (ha:PXT G X a xt) (hb:PVW G X (.BoolOp .Or (b :: rest) pos) cb):PXT G X (.BoolOp .Or (a :: b :: rest) pos) (si xt cb):=(Ax ha hb).pxt
theorem CD {as bs:List Stmt} (hc:PXT G X e xt) (ha:cB G X as c1) (hb:cB G X bs c2):PSV G X (.If e as bs pos) (sW xt c1 c2):=Av hc ha hb
theorem zR {j:Nat} (h:PX G X e xc):PX G X (.Compare e [.Is] [.Constant .none j pos'] pos) (vd xc):=Bg h
end
end VS
end
section
namespace L2
open PySem PySem.Spec PyProof.Rows
noncomputable def Itd (lo:Int) (n:Nat):It:=⟨fun i _=>i < n,fun i H x H'=>H'=H/\x=.int (lo - i),fun i _=>n<=i⟩
theorem pA {P:Program} {w:World} {K:X4} {tg:Expr} (it:Addr) (lo:Int) (n:Nat):Turn P w K tg (Itd lo n) [it] it (fun i h=>IsRangeIter h it (lo+(i:Nat) * (-1)) ((n:Int) - (i:Nat)) (-1)) where
 mem:=by simp
 obj:=fun i h st b hb=>by
  have e:b=it:=by simpa using hb
  subst e
  exact ⟨_,st,fun v z=>by
   have z':Data.fields _=Data.cell v:=z
   cases z'⟩
 keep:=fun i h h' st k=>k it (by simp) _ st
 item:=by
  intro X hP hw hK hc i pins s σ H E I hf st hg
  subst hP hw hK
  obtain ⟨f0,f1,f2,f3,f4,f5⟩:=hf it (by simp)
  have W:=Walks.range (prog:=X.prog) (w:=X.w) (I.ok.hd hc) it lo (-1) n
  refine W.item i s _ _ hg st fun v h' tk hv st' kk=>?_
  obtain ⟨t,rfl⟩:=hv
  have I1:Inv X pins σ H { s with heap:=h',toks:=tk }:=I.turned (fun b o hb e=>kk b o (by simpa using hb) e) f0 f1 f3 f4 f5
  refine ⟨_,rfl,mJ (s:={ s with heap:=h',toks:=tk }) (n := "range_iterator") st' rfl rfl (by decide) ⟨.int (lo - i),H,I1,⟨t,?_⟩,⟨rfl,rfl⟩,st',fun b hb=>(hf b hb).1⟩⟩
  rw [show lo+(i:Int) * (-1)=lo - (i:Int) by lia]
 done:=by
  intro X hP hw hK hc i pins s σ H E I hf st hg
  subst hP hw hK
  obtain ⟨f0,f1,f2,f3,f4,f5⟩:=hf it (by simp)
  exact wpAny_pyNext_range_end (I.ok.hd hc) st (by have:n<=i:=hg;lia) fun h' eb=>⟨rfl,I.turned (t':=s.toks) (fun b o hb e=>eb b o hb e) f0 f1 f3 f4 f5⟩
 self:=fun _ _ _ _ _ st h=>wpAny_pyIter_rangeiter st h
section
variable {X:Cx} {tg:Expr}
theorem mO (a:Int) (h:-1<=a):Builtin.Range.rangeSize a (-1) (-1)=a+1:=by
 unfold Builtin.Range.rangeSize
 simp only [show ¬ ((-1:Int) > 0) by decide,if_false,show (-(-1:Int))=1 by decide,Int.ediv_one]
 split <;> lia
theorem small_down {a:Int} (h:-1<=a) (h2:a < 1000000):Builtin.Range.small a (-1) (-1)=true:=by
 unfold Builtin.Range.small
 rw [mO a h]
 simp only [Builtin.Range.rangeFitsLong,Zf,Bool.or_eq_true,decide_eq_true_eq,beq_iff_eq,show ¬ ((-1:Int) > 0) by decide,if_false]
 first | lia | omega
theorem sL {pins:Xm} {σ:St} {H:Hp} {s:Shared} {R:It->Hp->Prop} {E:Z2} {j:Int} {t u v:Tok} {tk:Nat} (I:Inv X pins σ H s) (h1:-1<=j) (h2:j < 1000000)
  (q:R (Itd j (j+1).toNat) H):wpAny (model X.prog X.w) X.A (pyIter (.ref s.heap.objs.size)) (PIE X pins σ tg R) E { s with heap:=s.heap.push { cls:=.type "range",data:=.fields #[.int j t,.int (-1) u,.int (-1) v] },toks:=tk }:=by
 refine wpAny_pyIter_range (IsRange.new ..) (small_down h1 h2) ?_
 have I1:Inv X pins σ H { s with heap:=s.heap.push { cls:=.type "range",data:=.fields #[.int j t,.int (-1) u,.int (-1) v] },toks:=tk }:=I.kept fun b o e=>Zl _ e
 refine ⟨(s.heap.push { cls:=.type "range",data:=.fields #[.int j t,.int (-1) u,.int (-1) v] }).objs.size,[(s.heap.push { cls:=.type "range",data:=.fields #[.int j t,.int (-1) u,.int (-1) v] }).objs.size],_,_,H,rfl,
  I1.kept (t':=tk) fun b o e=>Zl _ e,pA _ j (j+1).toNat,?_,fun b hb=>?_,q⟩
 ·have e1:j+((0:Nat):Int) * (-1)=j:=by simp
  have e2:(((j+1).toNat:Nat):Int) - ((0:Nat):Int)=Builtin.Range.rangeSize j (-1) (-1):=by rw [mO j h1];lia
  show IsRangeIter _ _ (j+((0:Nat):Int) * (-1)) ((((j+1).toNat:Nat):Int) - ((0:Nat):Int)) (-1)
  rw [e1,e2]
  exact ZV _ rfl
 ·have e:b=(s.heap.push { cls:=.type "range",data:=.fields #[.int j t,.int (-1) u,.int (-1) v] }).objs.size:=by simpa using hb
  subst e
  exact I1.fpOk (Zk _) (I1.hok.fresh (Zk _))
noncomputable def De (ta:TA):TI:=fun σ H R=>ta σ H fun vs H1=>∃ j:Int,vs=[.int j,.int (-1),.int (-1)]/\(-1<=j/\j < 1000000)/\R (Itd j (j+1).toNat) H1
theorem se {a b c:Expr} {ta:TA} {p pos:Pos} (hg:Gl X "range") (hm:X.mg "range" = none) (ha:PA X [a,b,c] ta) (hs:starEach [a,b,c] X.env=(false,eval a X.env) :: starEach [b,c] X.env) (hs2:(backTo pos (starEach [b,c] X.env)).any (·.1)=false) :
  PI X tg (.Call (.Name "range" p) [a,b,c] [] pos) (De ta):=by
 intro pins s σ H R I h
 refine Call_ (lL I hg hm boot_range (Xr (thn (ha pos pins s σ H _ I h) fun us s1 ⟨vs,H1,I1,r1,q1⟩=>?_) hs hs2))
 obtain ⟨j,e,⟨q1,q2⟩,q⟩:=q1
 subst e
 cases r1 with
 | cons r rr =>
  cases rr with
  | cons r' rr =>
   cases rr with
   | cons r'' rr =>
    cases rr
    obtain ⟨t,rfl⟩:=r
    obtain ⟨t',rfl⟩:=r'
    obtain ⟨t'',rfl⟩:=r''
    exact call_range_3 (by decide) (sL I1 q1 q2 q) (Or.inl (PyProof.noPylong_small (by omega)))
end
end L2
namespace VS
open PySem PySem.Spec PyProof.Rows L2
noncomputable def pV (j:Int) (n:Nat):Wp:=(List.range n).map fun (k:Nat)=>T.int (j - k)
noncomputable def iJ (a b c:Ex) (η:VS.Env):Option (Md×Wp):=(a η).bind fun x=>(b η).bind fun y=>(c η).bind fun z=>match x.2,y.2,z.2 with
 | .int j,.int (-1),.int (-1)=>if -1<=j/\j < 1000000 then some (.fr,pV j (j+1).toNat) else none
 | _,_,_=>none
section
variable {G:Gx} {X:Cx} {tg a b c:Expr} {ca cb cc:Ex} {pos p:Pos}
theorem sv (H:Hp) (lo:Int) (n:Nat):ItOk G (Itd lo n) (pV lo n) [] H:=by
 refine ⟨fun H2 _ _=>⟨fun i t h=>?_,fun i h=>(by simpa [pV] using h:n<=i)⟩,fun a h=>by simp at h⟩
 unfold pV at h
 rw [ZP] at h
 obtain ⟨k,hk,e⟩:=Zy.mp h
 obtain ⟨hlt,e2⟩:=Zj.mp hk
 rw [ZE] at hlt
 have ek:i=k:=by simpa using e2
 subst ek
 refine ⟨hlt,fun x H3 ⟨e3,e4⟩=>?_⟩
 subst e3
 subst e4
 rw [← e]
 exact ⟨aJ.refl _,[],.int _,fun a h=>by simp at h⟩
theorem qC (ha:PV G X a ca) (hb:PV G X b cb) (hc:PV G X c cc) (hg:Gl X "range") (hm:X.mg "range" = none) (hs:starEach [a,b,c] X.env=(false,eval a X.env) :: starEach [b,c] X.env) (hs1:starEach [b,c] X.env=(false,eval b X.env) :: starEach [c] X.env) (hs2:starEach [c] X.env=(false,eval c X.env) :: starEach [] X.env) (hpl:(backTo pos (starEach [b,c] X.env)).any (·.1)=false) :
  PVI G X tg (.Call (.Name "range" p) [a,b,c] [] pos) (iJ ca cb cc) :=
 PI.weak (se hg hm (dR ha (dR hb (dR hc j5 hs2) hs1) hs) hs hpl) fun σ H R hq=>by
  obtain ⟨Φ,η,m,l,s,e,k⟩:=hq
  unfold iJ at e
  obtain ⟨⟨mx,x⟩,ea,e1⟩:=Zz.mp e
  obtain ⟨⟨my,y⟩,eb,e2⟩:=Zz.mp e1
  obtain ⟨⟨mz,z⟩,ec,e3⟩:=Zz.mp e2
  refine ⟨Φ,η,mx,x,s,ea,fun v H1 F1 s1 r1 f1=>⟨Φ,η,my,y,s.same s1,eb,fun w H2 F2 s2 r2 f2=>⟨Φ,η,mz,z,(s.same s1).same s2,ec,fun u H3 F3 s3 r3 f3=>?_⟩⟩⟩
  dsimp only at e3
  split at e3
  ·split at e3
   ·rename_i hj
    cases e3
    refine ⟨_,by rw [r1.int_inv,r2.int_inv,r3.int_inv],hj,k _ H3 [] ((s1.trans s2).trans s3) (sv H3 _ _) fun a h=>by simp at h⟩
   ·cases e3
  ·cases e3
end
structure InAd (P:Program) (w:World) (K:X4) (mg:Wz) (base:Heap) (k:Nat) (G:Gx) (c n:Nat) (x:Str) (ps:List Str) (g:Mt):Prop where
 ex:∃ f fd,FnOk P w K mg base CX0 k f fd ps (spM G c (List.replicate n false) g)/\Mk K (G.ct (c+1)).1 f/\Binds K fd ps []/\Binds K fd ps [.none]
 mg:mg x=some (.ref (G.ct (c+1)).1)
section
variable {P:Program} {w:World} {K:X4} {mg:Wz} {base:Heap} {k c n:Nat} {G:Gx} {x:Str} {ps:List Str} {g:Mt}
theorem InAd.at {m:Me} (h:InAd P w K mg base k G c n x ps g):InAd P w K mg base k (G.at m) c n x ps g:=⟨h.ex,h.mg⟩
theorem InAd.in (h:InAd P w K mg base k G c n x ps g):InAt P w K mg base k G c n x ps g:=by
 obtain ⟨f,fd,h1,h2,h3,_⟩:=h.ex
 exact ⟨⟨f,fd,h1,h2,h3⟩,h.mg⟩
theorem vR {y qual:Str} {st:Stmt} {f:Addr} {fd:FuncData} {N:List Str} {np nn:Nat} {body:Sx} (F:FunD K y qual st f fd) (hm:Mk K (G.ct (c+1)).1 f) (hg:mg x=some (.ref (G.ct (c+1)).1)) (S:FnScope N ps (af st)) (hp:ps.length=np) (hn:N.length=nn)
  (hbd:∀ (s:Shared) (T:Addr) (kV doc pm:Value) (an:Option Addr) (cdv ct:Value) (o:Obj) (n:Nat) (us:Wx),K.In s.heap->K.lookup T=some o->o.data=.seq #[.none] n->us.length=ps.length->BindsTo s (PySem.W.fnOf y qual (aB st) (au st) (af st) (.ref T) kV doc pm an cdv ct) ⟨us,[]⟩ (ps.zip us))
  (hbd2:∀ (s:Shared) (T:Addr) (kV doc pm:Value) (an:Option Addr) (cdv ct:Value) (o:Obj) (n:Nat) (us:Wx),K.In s.heap->K.lookup T=some o->o.data=.seq #[.none] n->us.length+1=ps.length->BindsTo s (PySem.W.fnOf y qual (aB st) (au st) (af st) (.ref T) kV doc pm an cdv ct) ⟨us,[]⟩ (ps.zip (us++[.none])))
  (hb:∀ (a:Addr) (cdv:Value) (A:Around) (outer:List PySem.Env) (s:Shared) (H:Hp) (E:XK),Room k (A.deeper (envOfC qual (af st) s.heap.objs.size f cdv))->cB (G.at (meA a)) (fo CX0 P w K mg base N qual (af st) f cdv A outer s H E).nox (au st) body) :
  InAd P w K mg base (k+1) G c n x ps (mfn c np nn (List.replicate n false) body):=⟨⟨f,fd,DT (fun l b=>F.ok S l b) hp hn hb,hm,F.binds hbd,by
   obtain ⟨T,oc,od,kV,doc,pm,an,cdv,ct,osl,o,n,rfl,lk,hcd,l2,l3⟩:=F.ex
   intro s us X hl
   exact hbd2 s T kV doc pm an cdv ct o n us X l2 l3 (by rw [Zs] at hl;exact hl)⟩,hg⟩
end
section
variable {G:Gx} {X:Cx} {k k' c:Nat} {x:Str} {ps:List Str} {g:Mt} {p pos:Pos}
theorem yf (F:InAd X.prog X.w X.K X.mg X.base k G c 1 x ps g) (hr:Room k' X.A) (hk:k+1<=k') (hg:Gl X x) (hdb:(x == ("__debug__" : Str))=false):PV G X (.Call (.Name x p) [] [] pos) (eNew c g (ab (eC .non) ai)):=by
 obtain ⟨f,fd,h1,h2,_,h4⟩:=F.ex
 exact PE.weak (px (E:=E0) h2 h1 (hr.mono hk) hg F.mg h4 (.cons rfl .nil:aV [V.non] [.none]) iP hdb) fun σ H Q h =>
  qB (X:=X) (k:=k) (f:=f) (fd:=fd) (ps:=ps) (t:=fun σ H R=>R [.non] H) (fun _ _=>True.intro) (fun Φ η xs σ H R s e kq=>by
   cases (show some ([(.fr,.non)]:Wr)=some xs from e)
   exact kq [.non] H [[]] (aJ.refl _) (.cons .non .nil) ⟨fun i v F a b=>by
    cases i with
    | zero=>cases (show some ((.fr,.non):Val)=some v from a);cases (show some ([]:Wy)=some F from b);exact Fp.nil
    | succ i=>simp at a,by simp [frs]⟩) 1 (fun η xs e=>by
   cases (show some ([(.fr,.non)]:Wr)=some xs from e)
   rfl) h
theorem yx {n:Nat} {e:Expr} {es:List Expr} {cs:Exs} (F:InAd X.prog X.w X.K X.mg X.base k G c n x ps g) (hr:Room k' X.A) (hk:k+1<=k') (ha:PVs G X (e :: es) cs) (hn:∀ η xs,cs η=some xs->xs.length=n) (hg:Gl X x)
  (hdb:(x == ("__debug__" : Str))=false) (he:starEach (e :: es) X.env=(false,eval e X.env) :: starEach es X.env) (hpl:(backTo pos (starEach es X.env)).any (·.1)=false):PV G X (.Call (.Name x p) (e :: es) [] pos) (eNew c g cs):=By F.in hr hk ha hn hg hdb he hpl
end
end VS
end
section
namespace VS
open PySem PySem.Spec PyProof.Rows L2 XN
structure Q (p:Prop):Prop where h:p
section
variable {G:Gx} {X:Cx} {a b c e tg iter elt:Expr} {es rest:List Expr} {ca cb cc ce:Ex} {cs:Exs} {pos pos' spos p p1 p2 apos cpos tpos:Pos} {k k' n i:Nat} {x:Str} {st:Stmt} {sts:List Stmt} {c1 c2:Sx} {sc:Scope} {N:List Str} {ci:Its} {g:Tg} {elts:List Expr} {ps:List Str}
theorem aj {i j pos}:Q (PV G X (.Constant (.int i) j pos) (eC (.int i))):=⟨A1⟩
theorem yL {i j pos}:Q (PV G X (.Constant (.bool i) j pos) (eC (.bl i))):=⟨Cr⟩
theorem lb {j pos}:Q (PV G X (.Constant .none j pos) (eC .non)):=⟨zX⟩
theorem cO {x:Str} {t:Tx} {j pos} (h:x=sx t) (hl:mw t):Q (PV G X (.Constant (.str x) j pos) (eC (.str t))):=⟨BP h hl⟩
theorem bP (i:Nat) {x:Str} {pos:Pos} (hN:X.N[i]?=some x) (hv:Vis X.env.scope x) (hd:(x == ("__debug__" : Str))=false) (hcd:(x == ("__classdict__" : Str))=false):Q (PV G X (.Name x pos) (ae i)):=⟨Bk i hN hv hd hcd⟩
theorem ag  : Q (PVs G X [] ai):=⟨yg⟩
theorem aa (ha:Q (PV G X e ca)) (hr:Q (PVs G X es cs)) (hs:starEach (e :: es) X.env=(false,eval e X.env) :: starEach es X.env):Q (PVs G X (e :: es) (ab ca cs)):=⟨uM ha.h hr.h hs⟩
theorem bE (h:Q (PVs G X es cs)):Q (PV G X (.List es pos) (dz cs)):=⟨Az h.h⟩
theorem h9 {x1} (h:Q (PVs G X es cs)):Q (PV G X (.Tuple es x1 pos) (mn cs)):=⟨Ad h.h⟩
theorem nB (h:Q (PV G X a ca)) (hK:X.K=G.K) (he:∀ whole,isTrue a X.env whole=(do let v ← whole;standAt a.pos;holding [v] (truthy v))):Q (PVT G X a ca):=⟨xW h.h hK he⟩
theorem fH (h:Q (PVW G X e ca)):Q (PVT G X e ca):=⟨PVW.pvt h.h⟩
theorem gK (ha:Q (PVT G X a ca)):Q (PVW G X (.BoolOp .And [a] pos) ca):=⟨vB ha.h⟩
theorem jV (ha:Q (PVT G X a ca)):Q (PVW G X (.BoolOp .Or [a] pos) ca):=⟨yT ha.h⟩
theorem iy (ha:Q (PVT G X a ca)) (hb:Q (PVW G X (.BoolOp .And (b :: rest) pos) cb)):Q (PVW G X (.BoolOp .And (a :: b :: rest) pos) (eZ ca cb)):=⟨yS ha.h hb.h⟩
theorem oO (ha:Q (PVT G X a ca)) (hb:Q (PVW G X (.BoolOp .Or (b :: rest) pos) cb)):Q (PVW G X (.BoolOp .Or (a :: b :: rest) pos) (eOr ca cb)):=⟨A6 ha.h hb.h⟩
theorem j3 (ha:Q (PVT G X a ca)):Q (PVT G X (.UnaryOp .Not a pos) (iY ca)):=⟨xU ha.h⟩
theorem pf (ha:Q (PV G X a ca)):Q (PV G X (.UnaryOp .Not a pos) (iY ca)):=⟨BD ha.h⟩
theorem ig {op} (h:Q (PV G X a ca)):Q (PV G X (.BoolOp op [a] pos) ca):=⟨Ba h.h⟩
theorem gD (ha:Q (PV G X a ca)) (hb:Q (PV G X (.BoolOp .And (b :: rest) pos) cb)):Q (PV G X (.BoolOp .And (a :: b :: rest) pos) (eZ ca cb)):=⟨Ci ha.h hb.h⟩
theorem d5  : Q (PVO G X none none):=⟨vf⟩
theorem eA (h:Q (PV G X a ca)):Q (PVO G X (some a) (some ca)):=⟨wb h.h⟩
theorem d4 {lo hi:Option Expr} {cl ch:Option Ex} {p2:Pos} (ha:Q (PV G X a ca)) (hl:Q (PVO G X lo cl)) (hh:Q (PVO G X hi ch)) (hK:X.K=G.K):Q (PV G X (.Subscript a (.Slice lo hi none p2) pos) (eSl ca cl ch)):=⟨t9 ha.h hl.h hh.h hK⟩
theorem m8 {apos cpos:Pos} (ho:Q (PV G X a ca)) (ha:Q (PVs G X [e] cs)) (hK:X.K=G.K) (hbase:attributeBase a "join" X.env (eval a X.env)=eval a X.env) (hfew:((backTo cpos (starEach [e] X.env)).all (fun x=>!x.1) && (backToKw cpos (keywordEach [] X.env)).all (fun x=>x.1.isSome)
   && decide ([e].length+([]:List Keyword).length+(if ([]:List Keyword).isEmpty then 0 else 1) < 30))=true) (hline:(apos.endLine == cpos.line)=true) (hs:starEach [e] X.env=(false,eval e X.env) :: starEach [] X.env) (hplain:(backTo cpos (starEach [] X.env)).any (·.1)=false):Q (PV G X (.Call (.Attribute a "join" apos) [e] [] cpos) (eM hV ca cs)):=⟨wW ho.h ha.h hK hbase hfew hline hs hplain⟩
theorem br  : Q (cB G X [] d2):=⟨yt⟩
theorem ah (h1:Q (PSV G X st c1)) (h2:Q (cB G X sts c2)):Q (cB G X (st :: sts) (ar c1 c2)):=⟨uJ h1.h h2.h⟩
theorem aq (h1:Q (PSV G X st c1)):Q (cB G X [st] c1):=⟨ya h1.h⟩
theorem bJ {t:Expr} {ct:Ex} {a b:List Stmt} (hc:Q (PVT G X t ct)) (ha:Q (cB G X a c1)) (hb:Q (cB G X b c2)):Q (PSV G X (.If t a b pos) (sIf ct c1 c2)):=⟨Bz hc.h ha.h hb.h⟩
theorem bh (he:Q (PV G X e ce)):Q (PSV G X (.Return (some e) pos) (fq ce)):=⟨y8 he.h⟩
theorem fT (i:Nat) {x:Str} {p:Pos} (hN:X.N[i]?=some x) (hv:Vis X.env.scope x) (hd:(x == ("__debug__" : Str))=false) (hcd:(x == ("__classdict__" : Str))=false):Q (PSV G X (.Return (some (.Name x p)) pos) (g0 i)):=⟨ug i hN hv hd hcd⟩
theorem eD {i:Nat} {x:Str} {pos':Pos} (he:Q (PV G X e ce)) (hN:X.N.Nodup) (hi:X.N[i]?=some x) (hx:Loc X.env.scope x) (hs:swapsWith e (some (.Name x pos')) pos.line X.env=pure false) (hf:X.fn x=true\/X.env.scope.names.lookup x=some .local):Q (PSV G X (.Assign [.Name x pos'] e pos) (gZ i ce)):=⟨yR he.h hN hi hx hs hf⟩
theorem aA {i:Nat} {x:Str} {pos':Pos} (he:Q (PV G X e ce)) (hN:X.N.Nodup) (hi:X.N[i]?=some x) (hx:Loc X.env.scope x) (hs:swapsWith e (some (.Name x pos')) pos.line X.env=pure false) (hf:X.fn x=true\/X.env.scope.names.lookup x=some .local):Q (PSV G X (.Assign [.Name x pos'] e pos) (aM i ce)):=⟨u4 he.h hN hi hx hs hf⟩
theorem gC {c:Sx} (i:Nat) (h:Q (cB G X sts c)):Q (cB G X sts (ar (oB i) c)):=⟨xq i h.h⟩
theorem gM (ha:Q (PV G X a ca)) (hg:Gl X "range") (hm:X.mg "range" = none) (hs:starEach [a] X.env=(false,eval a X.env) :: starEach [] X.env) (hs':starEach [a] X.env=[(false,eval a X.env)]):Q (PVI G X tg (.Call (.Name "range" p) [a] [] pos) (dF ca)):=⟨p6 ha.h hg hm hs hs'⟩
theorem bZ (i:Nat) {x:Str} (hN:X.N.Nodup) (hi:X.N[i]?=some x) (hx:Loc X.env.scope x) (hf:X.fn x=true\/X.env.scope.names.lookup x=some .local):Q (PVG G X (.Name x pos) (cY i)):=⟨t4 i hN hi hx hf⟩
theorem fJ {iter:Expr} {body:List Stmt} {ci:Its} {g:Tg} {cb:Sx} (hp:PassesOwn (model X.prog X.w) X.A X.env X.xe) (hc:X.calm=true) (hi:Q (PVI G X tg iter ci)) (hg:Q (PVG G X tg g)) (hb:Q (cB G X body cb)) (hs:∀ x,foldedSetIterable iter X.env x=pure x):Q (PSV G X (.For tg iter body [] pos) (j4 g ci cb)):=⟨yO hp hc hi.h hg.h hb.h hs⟩
theorem jU (k:Nat) (N:List Str) (hcalm:X.calm=true) (hi:Q (PVI G X tg iter ci)) (hin:o8 k g) (hg:∀ cl C s H fp,Q (PVG G (bY X N sc cl C s H fp) tg g)) (he:∀ cl C s H fp,Q (PV G (bY X N sc cl C s H fp) elt ce)) (hsc:ko X.env sc=true) (hnm:jd sc (N.drop k) X.N=true) (hNl:k<=N.length) (hs:∀ x,foldedSetIterable iter X.env x=pure x):Q (PV G X (.ListComp elt [⟨tg,iter,[],0⟩] sc pos) (dU k g ci none ce)):=⟨yp k N hcalm hi.h hin (fun cl C s H fp=>(hg cl C s H fp).h) (fun cl C s H fp=>(he cl C s H fp).h) hsc hnm hNl hs⟩
theorem qw (k:Nat) (N:List Str) {cS:Sx} (hS:∀ D σ H,tS G cS D σ H->tE G (dU k g ci none ce) σ H fun v H1=>D.nx (σ.set i (some v)) H1) (hcalm:X.calm=true) (hi:Q (PVI G X tg iter ci)) (hin:o8 k g) (hg:∀ cl C s H fp,Q (PVG G (bY X N sc cl C s H fp) tg g)) (he:∀ cl C s H fp,Q (PV G (bY X N sc cl C s H fp) elt ce)) (hN:X.N.Nodup) (hiN:X.N[i]?=some x) (hx:Loc X.env.scope x) (hsc:ko X.env sc=true) (hnm:jd sc (N.drop k) X.N=true) (hNl:k<=N.length) (hsw:swapsWith (.ListComp elt [⟨tg,iter,[],0⟩] sc pos) (some (.Name x pos')) spos.line X.env=pure true) (hf:X.fn x=true\/X.env.scope.names.lookup x=some .local) (hs:∀ x,foldedSetIterable iter X.env x=pure x):Q (PSV G X (.Assign [.Name x pos'] (.ListComp elt [⟨tg,iter,[],0⟩] sc pos) spos) cS):=⟨uk k N hS hcalm hi.h hin (fun cl C s H fp=>(hg cl C s H fp).h) (fun cl C s H fp=>(he cl C s H fp).h) hN hiN hx hsc hnm hNl hsw hf hs⟩
theorem bR (ha:Q (PV G X a ca)) (hb:Q (PV G X b cb)):Q (PV G X (.BinOp a .Add b pos) (e2 cn ca cb)):=⟨w_add ha.h hb.h⟩
theorem jH (ha:Q (PV G X a ca)) (hb:Q (PV G X b cb)):Q (PV G X (.BinOp a .Sub b pos) (e2 iU ca cb)):=⟨w_sub ha.h hb.h⟩
theorem iC (ha:Q (PV G X a ca)) (hb:Q (PV G X b cb)):Q (PV G X (.BinOp a .Mult b pos) (e2 iO ca cb)):=⟨w_mul ha.h hb.h⟩
theorem cQ (ha:Q (PV G X a ca)) (hb:Q (PV G X b cb)):Q (PV G X (.BinOp a .FloorDiv b pos) (e2 bD ca cb)):=⟨BF ha.h hb.h⟩
theorem cj (ha:Q (PV G X a ca)) (hb:Q (PV G X b cb)):Q (PV G X (.BinOp a .Mod b pos) (e2 oMod ca cb)):=⟨w_mod ha.h hb.h⟩
theorem kH (ha:Q (PV G X a ca)) (hb:Q (PV G X b cb)):Q (PVT G X (.Compare a [.Lt] [b] pos) (e2 oLt ca cb)):=⟨D2 ha.h hb.h⟩
theorem oh (hr:Room k X.A) (ha:Q (PV G X a ca)) (hb:Q (PV G X b cb)):Q (PV G X (.Compare a [.Eq] [b] pos) (e2 oEq ca cb)):=⟨w_eq hr ha.h hb.h⟩
theorem eR (hr:Room k X.A) (ha:Q (PV G X a ca)) (hb:Q (PV G X b cb)):Q (PVT G X (.Compare a [.Eq] [b] pos) (e2 oEq ca cb)):=⟨C8 hr ha.h hb.h⟩
theorem zi (hr:Room k X.A) (ha:Q (PV G X a ca)) (hb:Q (PV G X b cb)):Q (PVT G X (.Compare a [.NotEq] [b] pos) (e2 oNe ca cb)):=⟨DQ hr ha.h hb.h⟩
theorem aS (ha:Q (PV G X a ca)) (hb:Q (PV G X b cb)) (hs:eP b) (hK:X.K=G.K):Q (PV G X (.Subscript a b pos) (e2 aN ca cb)):=⟨D5 ha.h hb.h hs hK⟩
theorem bz (hm:X.mg "len" = none) (ha:Q (PVs G X [e] cs)) (hg:Gl X "len") (hK:X.K=G.K) (he:starEach [e] X.env=(false,eval e X.env) :: starEach [] X.env):Q (PV G X (.Call (.Name "len" p) [e] [] pos) (eN bI cs)):=⟨D7 hm ha.h hg hK he⟩
theorem vD (hm:X.mg "max" = none) (ha:Q (PVs G X [a,b] cs)) (hc:X.calm=true) (hg:Gl X "max") (he:starEach [a,b] X.env=(false,eval a X.env) :: starEach [b] X.env) (hpl:(backTo pos (starEach [b] X.env)).any (·.1)=false):Q (PV G X (.Call (.Name "max" p) [a,b] [] pos) (eN ng cs)):=⟨Aq hm ha.h hc hg he hpl⟩
theorem vX (hm:X.mg "min" = none) (ha:Q (PVs G X [a,b] cs)) (hc:X.calm=true) (hg:Gl X "min") (he:starEach [a,b] X.env=(false,eval a X.env) :: starEach [b] X.env) (hpl:(backTo pos (starEach [b] X.env)).any (·.1)=false):Q (PV G X (.Call (.Name "min" p) [a,b] [] pos) (eN nk cs)):=⟨AW hm ha.h hc hg he hpl⟩
theorem nW (t:Ty) (hm:X.mg "isinstance" = none) (hm2:X.mg (tyN t)=none) (ha:Q (PV G X a ca)) (hg:Gl X "isinstance") (hg2:Gl X (tyN t)) (hK:X.K=G.K) (hs:starEach [a,.Name (tyN t) p2] X.env=(false,eval a X.env) :: starEach [.Name (tyN t) p2] X.env):Q (PV G X (.Call (.Name "isinstance" p1) [a,.Name (tyN t) p2] [] pos) (eIs t ca)):=⟨w_is t hm hm2 ha.h hg hg2 hK hs⟩
theorem gP (i:Nat) {x:Str} (ha:Q (PVs G X [e] cs)) (hK:X.K=G.K) (hN:X.N[i]?=some x) (hv:Vis X.env.scope x) (hd:(x == ("__debug__" : Str))=false) (hcd:(x == ("__classdict__" : Str))=false) (hfew:((backTo cpos (starEach [e] X.env)).all (fun x=>!x.1) && (backToKw cpos (keywordEach [] X.env)).all (fun x=>x.1.isSome)
   && decide ([e].length+([]:List Keyword).length+(if ([]:List Keyword).isEmpty then 0 else 1) < 30))=true) (hline:(apos.endLine == cpos.line)=true) (hs:starEach [e] X.env=(false,eval e X.env) :: starEach [] X.env):Q (PSV G X (.Expr (.Call (.Attribute (.Name x p1) "append" apos) [e] [] cpos) pos) (sX (lX i [] aD cs))):=⟨uT i ha.h hK hN hv hd hcd hfew hline hs⟩
theorem bO {g:Fn} (F:FnAt X.prog X.w X.K X.mg X.base k x ps G g) (hr:Room k' X.A) (ha:Q (PVs G X (e :: es) cs)) (hk:k<=k') (hg:Gl X x) (hdb:(x == ("__debug__" : Str))=false) (he:starEach (e :: es) X.env=(false,eval e X.env) :: starEach es X.env) (hpl:(backTo pos (starEach es X.env)).any (·.1)=false):Q (PV G X (.Call (.Name x p) (e :: es) [] pos) (bg g cs)):=⟨BJ F hr ha.h hk hg hdb he hpl⟩
theorem fI (ha:Q (PV G X a ca)) (hK:X.K=G.K):Q (PVI G X tg a (iL ca)):=⟨xV ha.h hK⟩
theorem xA (hm:X.mg "sum" = none) (ha:Q (PVs G X [e] cs)) (hg:Gl X "sum") (hK:X.K=G.K) (hc:X.calm=true) (he:starEach [e] X.env=(false,eval e X.env) :: starEach [] X.env):Q (PV G X (.Call (.Name "sum" p) [e] [] pos) (eN vw cs)):=⟨w_sum hm ha.h hg hK hc he⟩
theorem rY (hm:X.mg "tuple" = none) (ha:Q (PVs G X [e] cs)) (hg:Gl X "tuple") (hK:X.K=G.K) (he:starEach [e] X.env=(false,eval e X.env) :: starEach [] X.env):Q (PV G X (.Call (.Name "tuple" p) [e] [] pos) (eN iK cs)):=⟨wN hm ha.h hg hK he⟩
theorem wJ (ha:Q (PV G X a ca)) (hb:Q (PV G X b cb)):Q (PVT G X (.Compare a [.Gt] [b] pos) (e2 oGt ca cb)):=⟨DJ ha.h hb.h⟩
theorem xy (ha:Q (PV G X a ca)) (hb:Q (PV G X b cb)):Q (PVT G X (.Compare a [.GtE] [b] pos) (e2 oGe ca cb)):=⟨Dy ha.h hb.h⟩
theorem mU {x:Str} {i:Int} (h:∃ t,X.mg x=some (.int i t)) (hg:Gl X x) (hd:(x == ("__debug__" : Str))=false):Q (PV G X (.Name x pos) (eC (.int i))):=⟨yH h hg hd⟩
theorem oM  : Q (PV G X (.Dict [] [] pos) (mG 0 [])):=⟨Ay⟩
theorem gp {body:List Stmt} {cb:Sx} (hp:PassesOwn (model X.prog X.w) X.A X.env X.xe) (hc:Q (PVT G X c cc)) (hb:Q (cB G X body cb)):Q (PSV G X (.While c body [] pos) (ja cc cb)):=⟨sy hp hc.h hb.h⟩
theorem lP {st:Stmt}:Q (PSV G X st sNo):=⟨B1⟩
theorem lH (hr:Room k X.A) (ha:Q (PV G X a ca)) (hb:Q (PV G X b cb)) (hs:eP b) (hK:X.K=G.K):Q (PV G X (.Subscript a b pos) (e2 oIx ca cb)):=⟨Eg hr ha.h hb.h hs hK⟩
theorem xj (hr:Room k X.A) (ha:Q (PV G X a ca)) (hb:Q (PV G X b cb)) (hm:behindInMarks .In b=false) (hK:X.K=G.K):Q (PVT G X (.Compare a [.In] [b] pos) (e2 kx ca cb)):=⟨Di hr ha.h hb.h hm hK⟩
theorem oz (hr:Room k X.A) (ha:Q (PV G X a ca)) (hb:Q (PV G X b cb)) (hm:behindInMarks .NotIn b=false) (hK:X.K=G.K):Q (PVT G X (.Compare a [.NotIn] [b] pos) (e2 dn ca cb)):=⟨Aj hr ha.h hb.h hm hK⟩
theorem jZ (hm:X.mg "list" = none) (ha:Q (PVs G X [e] cs)) (hg:Gl X "list") (hK:X.K=G.K) (hc:X.calm=true) (he:starEach [e] X.env=(false,eval e X.env) :: starEach [] X.env):Q (PV G X (.Call (.Name "list" p) [e] [] pos) (eN gv cs)):=⟨yI hm ha.h hg hK hc he⟩
theorem qO {G:Gx} {X:Cx} {i:Int} {j:Nat} {pos p:Pos}:Q (PV G X (.UnaryOp .USub (.Constant (.int i) j p) pos) (eC (.int (-i)))):=⟨Dr⟩
theorem jX {a b c:Expr} {ca cb cc:Ex} (ha:Q (PV G X a ca)) (hb:Q (PV G X b cb)) (hc:Q (PV G X c cc)) (hm:lastMarks [.LtE,.Lt] [b,c]=false):Q (PVT G X (.Compare a [.LtE,.Lt] [b,c] pos) (jc oLe oLt ca cb cc)):=⟨lh ha.h hb.h hc.h hm⟩
theorem vx {ce:Ex} (h:Q (PV G X e ce)) (hsw:swapsWith e none pos.line X.env=pure false):Q (PSV G X (.Expr e pos) (sX (xP ce))):=⟨BK h.h hsw⟩
theorem uc {j pos'} (ha:Q (PV G X a ca)):Q (PVT G X (.Compare a [.Is] [.Constant .none j pos'] pos) (vh ca)):=⟨Au ha.h⟩
theorem iA {j pos'} (ha:Q (PV G X a ca)):Q (PVT G X (.Compare a [.IsNot] [.Constant .none j pos'] pos) (fA ca)):=⟨wY ha.h⟩
theorem vq (i:Nat) {x:Str} (hr:Room kr X.A) (hk:Q (PV G X b ck)) (he:Q (PV G X e ce)) (hN:X.N[i]?=some x) (hv:Vis X.env.scope x) (hd:(x == ("__debug__" : Str))=false) (hcd:(x == ("__classdict__" : Str))=false) (ha:∀ v,assign (.Subscript (.Name x p1) b pos') X.env v=(do
   let ov ← holding [v] (eval (.Name x p1) X.env)
   let iv ← holding [v,ov] (eval b X.env)
   standAt pos'
   holding [v,ov,iv] (setItem ov iv v)
   release [v,ov,iv] [])) (hs:swapsWithSole [.Subscript (.Name x p1) b pos'] e pos.line X.env=pure false) (hw:swappedStores [.Subscript (.Name x p1) b pos'] e X.env=pure none) (h1:(assignEach [.Subscript (.Name x p1) b pos'] X.env).map (·.2)=[assign (.Subscript (.Name x p1) b pos') X.env]):Q (PSV G X (.Assign [.Subscript (.Name x p1) b pos'] e pos) (ni i ck ce)):=⟨AJ i hr hk.h he.h hN hv hd hcd ha hs hw h1⟩
theorem m7 (hm:X.mg "sorted" = none) (ha:Q (PVs G X [e] cs)) (hg:Gl X "sorted") (hK:X.K=G.K) (hc:X.calm=true) (he:starEach [e] X.env=(false,eval e X.env) :: starEach [] X.env):Q (PV G X (.Call (.Name "sorted" p) [e] [] pos) (eN fL cs)):=⟨xH hm ha.h hg hK hc he⟩
end
section
variable {G:Gx} {X:Cx} {a e o:Expr} {ca ce:Ex} {k i:Nat} {f x:Str} {pos pos' p1:Pos}
theorem bq (J:ft G) (F:FldOk G X.K k f) (ha:Q (PV G X a ca)) (hb:attributeBase a f X.env (eval a X.env)=eval a X.env):Q (PV G X (.Attribute a f pos) (bc k ca)):=⟨w_fld J F ha.h hb⟩
end
section
variable {G:Gx} {X:Cx} {a e o:Expr} {ca ce:Ex} {k i:Nat} {f x:Str} {pos pos' p1:Pos}
theorem gz (i k:Nat) (J:ft G) (F:FldOk G X.K k f) (he:Q (PV G X e ce)) (hN:X.N[i]?=some x) (hv:Vis X.env.scope x) (hd:(x == ("__debug__" : Str))=false) (hcd:(x == ("__classdict__" : Str))=false) (hs:swapsWith e (some (.Attribute (.Name x p1) f pos')) pos.line X.env=pure false):Q (PSV G X (.Assign [.Attribute (.Name x p1) f pos'] e pos) (gS i k ce)):=⟨A4 i k J F he.h hN hv hd hcd hs⟩
end
section
variable {G:Gx} {X:Cx} {a b e o:Expr} {ca cb ce:Ex} {cs:Exs} {p pos cpos apos:Pos} {k kr:Nat}
theorem rZ (hm:X.mg "dict" = none) (ha:Q (PVs G X [e] cs)) (hg:Gl X "dict") (he:starEach [e] X.env=(false,eval e X.env) :: starEach [] X.env):Q (PV G X (.Call (.Name "dict" p) [e] [] pos) (eN iV cs)):=⟨xQ hm ha.h hg he⟩
end
section
variable {G:Gx} {X:Cx} {a b e o:Expr} {ca cb ce:Ex} {cs:Exs} {p pos cpos apos:Pos} {k kr:Nat}
theorem vK {i i':Int} {j j':Nat} {q q':Pos}:Q (PV G X (.Dict [some (.Constant (.int i) j q)] [.Constant (.int i') j' q'] pos) (mG 0 [(eC (.int i),eC (.int i'))])):=⟨Ae⟩
end
section
variable {G:Gx} {X:Cx} {a b e o:Expr} {ca cb ce:Ex} {cs:Exs} {p pos cpos apos:Pos} {k kr:Nat}
theorem xn (hr:Room kr X.A) (ho:Q (PV G X o ca)) (he:Q (PV G X e cb)) (hbase:attributeBase o "get" X.env (eval o X.env)=eval o X.env) (hfew:((backTo cpos (starEach [e] X.env)).all (fun x=>!x.1) && (backToKw cpos (keywordEach [] X.env)).all (fun x=>x.1.isSome)
   && decide (([e]:List Expr).length+([]:List Keyword).length+(if ([]:List Keyword).isEmpty then 0 else 1) < 30))=true) (hline:(apos.endLine == cpos.line)=true) (htr:backTo cpos (starEach [e] X.env)=[(false,eval e X.env)]):Q (PV G X (.Call (.Attribute o "get" apos) [e] [] cpos) (e2 qD ca cb)):=⟨w_get hr ho.h he.h hbase hfew hline htr⟩
end
section
variable {G:Gx} {X:Cx} {a b e o:Expr} {ca cb ce:Ex} {cs:Exs} {p pos cpos apos:Pos} {k kr:Nat}
theorem qN (hr:Room kr X.A) (ha:Q (PV G X a ca)) (hb:Q (PV G X b cb)) (hs:eP b) (hK:X.K=G.K):Q (PV G X (.Subscript a b pos) (e2 mE ca cb)):=⟨Dc hr ha.h hb.h hs hK⟩
end
section
variable {G:Gx} {X:Cx} {i j:Nat} {way:List Stp} {o:Expr} {y:Str} {apos cpos pos p1:Pos}
theorem sY (J:ft G) (ho:Q (PPl G X o i way)) (hK:X.K=G.K) (hN:X.N[j]?=some y) (hv:Vis X.env.scope y) (hd:(y == ("__debug__" : Str))=false) (hcd:(y == ("__classdict__" : Str))=false) (hbase:attributeBase o "append" X.env (eval o X.env)=eval o X.env) (hfew:((backTo cpos (starEach [.Name y p1] X.env)).all (fun x=>!x.1) && (backToKw cpos (keywordEach [] X.env)).all (fun x=>x.1.isSome)
   && decide ([Expr.Name y p1].length+([]:List Keyword).length+(if ([]:List Keyword).isEmpty then 0 else 1) < 30))=true) (hline:(apos.endLine == cpos.line)=true) (hs:starEach [.Name y p1] X.env=(false,eval (.Name y p1) X.env) :: starEach [] X.env) (hplain:(backTo cpos (starEach [] X.env)).any (·.1)=false) (hsw:swapsWith (.Call (.Attribute o "append" apos) [.Name y p1] [] cpos) none pos.line X.env=pure false):Q (PSV G X (.Expr (.Call (.Attribute o "append" apos) [.Name y p1] [] cpos) pos) (j8 i way j)):=⟨wM J ho.h hK hN hv hd hcd hbase hfew hline hs hplain hsw⟩
end
section
variable {G:Gx} {X:Cx} {i:Nat} {elt tg:Expr} {sc:Scope} {pos pos' p1:Pos} {N:List Str} {x:Str} {g:Tg} {ce:Ex}
theorem vM (i:Nat) (N:List Str) (hcalm:X.calm=true) (hN:X.N[i]?=some x) (hv:Vis X.env.scope x) (hd:(x == ("__debug__" : Str))=false) (hcd:(x == ("__classdict__" : Str))=false) (hin:o8 1 g) (hg:∀ cl C s H fp,Q (PVG G (bY X N sc cl C s H fp) tg g)) (he:∀ cl C s H fp,Q (PV G (bY X N sc cl C s H fp) elt ce)) (hsc:ko X.env sc=true) (hnm:jd sc (N.drop 1) X.N=true) (hNl:1<=N.length) (hs:∀ y,foldedSetIterable (.Name x p1) X.env y=pure y):Q (PSV G X (.Return (some (.ListComp elt [⟨tg,.Name x p1,[],0⟩] sc pos)) pos') (qZ i g ce)):=⟨Bi i N hcalm hN hv hd hcd hin (fun cl C s H fp=>(hg cl C s H fp).h) (fun cl C s H fp=>(he cl C s H fp).h) hsc hnm hNl hs⟩
end
section
variable {G:Gx} {X:Cx} {i j c k k' kr n:Nat} {way:List Stp} {o e b:Expr} {es:List Expr} {cs:Exs} {ca ck ce:Ex} {m x:Str} {ps:List Str} {mv:List Bool} {g:Mt} {h:Fn} {xc:Xx} {f:Str} {apos cpos pos pos' p p1:Pos}
theorem aC (i:Nat) (hN:X.N[i]?=some x) (hv:Vis X.env.scope x) (hd:(x == ("__debug__" : Str))=false) (hcd:(x == ("__classdict__" : Str))=false):Q (PPl G X (.Name x pos) i []):=⟨uj i hN hv hd hcd⟩
end
section
variable {G:Gx} {X:Cx} {i j c k k' kr n:Nat} {way:List Stp} {o e b:Expr} {es:List Expr} {cs:Exs} {ca ck ce:Ex} {m x:Str} {ps:List Str} {mv:List Bool} {g:Mt} {h:Fn} {xc:Xx} {f:Str} {apos cpos pos pos' p p1:Pos}
theorem cx (k:Nat) (F:FldOk G X.K k f) (h:Q (PPl G X e i way)) (hb:attributeBase e f X.env (eval e X.env)=eval e X.env):Q (PPl G X (.Attribute e f pos) i (way++[.fld k])):=⟨xa k F h.h hb⟩
end
section
variable {G:Gx} {X:Cx} {i j c k k' kr n:Nat} {way:List Stp} {o e b:Expr} {es:List Expr} {cs:Exs} {ca ck ce:Ex} {m x:Str} {ps:List Str} {mv:List Bool} {g:Mt} {h:Fn} {xc:Xx} {f:Str} {apos cpos pos pos' p p1:Pos}
theorem pB (hr:Room kr X.A) (h:Q (PPl G X e i way)) (hb:Q (PV G X b ck)) (hs:eP b) (hK:X.K=G.K):Q (PPl G X (.Subscript e b pos) i (way++[.ix ck])):=⟨AX hr h.h hb.h hs hK⟩
end
section
variable {G:Gx} {X:Cx} {i j c k k' kr n:Nat} {way:List Stp} {o e b:Expr} {es:List Expr} {cs:Exs} {ca ck ce:Ex} {m x:Str} {ps:List Str} {mv:List Bool} {g:Mt} {h:Fn} {xc:Xx} {f:Str} {apos cpos pos pos' p p1:Pos}
theorem cT {pl:Sem Bool} (J:ft G) (F:MtAt X.prog X.w X.K X.mg X.base k G c m ps mv g) (hr:Room k' X.A) (hk:k<=k') (ho:Q (PPl G X o i way)) (ha:Q (PVs G X (e :: es) cs)) (hst:starEach (e :: es) X.env=(false,eval e X.env) :: starEach es X.env) (hpl:(backTo pos (starEach es X.env)).any (·.1)=false) (ht:eval (.Call (.Attribute o m apos) (e :: es) [] pos) X.env=(do
   let ov ← eval o X.env
   standAt apos.atName
   let (f,first) ← holding [ov] (getMethod ov m pl)
   callWith pos f first (backTo pos (starEach (e :: es) X.env)) (backToKw pos (keywordEach [] X.env)))):Q (PX G X (.Call (.Attribute o m apos) (e :: es) [] pos) (aT i way c mv g cs)):=⟨ze J F hr hk ho.h ha.h hst hpl ht⟩
end
section
variable {G:Gx} {X:Cx} {i j c k k' kr n:Nat} {way:List Stp} {o e b:Expr} {es:List Expr} {cs:Exs} {ca ck ce:Ex} {m x:Str} {ps:List Str} {mv:List Bool} {g:Mt} {h:Fn} {xc:Xx} {f:Str} {apos cpos pos pos' p p1:Pos}
theorem gO {pl:Sem Bool} (J:ft G) (F:MtAt X.prog X.w X.K X.mg X.base k G c m ps mv g) (hr:Room k' X.A) (hk:k<=k') (ho:Q (PPl G X o i way)) (ht:eval (.Call (.Attribute o m apos) [] [] pos) X.env=(do
   let ov ← eval o X.env
   standAt apos.atName
   let (f,first) ← holding [ov] (getMethod ov m pl)
   callWith pos f first (backTo pos (starEach [] X.env)) (backToKw pos (keywordEach [] X.env)))):Q (PX G X (.Call (.Attribute o m apos) [] [] pos) (aT i way c mv g ai)):=⟨vJ J F hr hk ho.h ht⟩
end
section
variable {G:Gx} {X:Cx} {i j c k k' kr n:Nat} {way:List Stp} {o e b:Expr} {es:List Expr} {cs:Exs} {ca ck ce:Ex} {m x:Str} {ps:List Str} {mv:List Bool} {g:Mt} {h:Fn} {xc:Xx} {f:Str} {apos cpos pos pos' p p1:Pos}
theorem uG {pl:Sem Bool} (F:MtAt X.prog X.w X.K X.mg X.base k G c m ps mv g) (hr:Room k' X.A) (hk:k<=k') (hN:X.N[i]?=some x) (hv:Vis X.env.scope x) (hd:(x == ("__debug__" : Str))=false) (hcd:(x == ("__classdict__" : Str))=false) (h1:Q (PX G X e xc)) (ha:Q (PVs G X es cs)) (hst:starEach (e :: es) X.env=(false,eval e X.env) :: starEach es X.env) (hpl:(backTo pos (starEach es X.env)).any (·.1)=false) (ht:eval (.Call (.Attribute (.Name x p1) m apos) (e :: es) [] pos) X.env=(do
   let ov ← eval (.Name x p1) X.env
   standAt apos.atName
   let (f,first) ← holding [ov] (getMethod ov m pl)
   callWith pos f first (backTo pos (starEach (e :: es) X.env)) (backToKw pos (keywordEach [] X.env)))):Q (PX G X (.Call (.Attribute (.Name x p1) m apos) (e :: es) [] pos) (lW i c mv g xc cs)):=⟨zY F hr hk hN hv hd hcd h1.h ha.h hst hpl ht⟩
end
section
variable {G:Gx} {X:Cx} {i j c k k' kr n:Nat} {way:List Stp} {o e b:Expr} {es:List Expr} {cs:Exs} {ca ck ce:Ex} {m x:Str} {ps:List Str} {mv:List Bool} {g:Mt} {h:Fn} {xc:Xx} {f:Str} {apos cpos pos pos' p p1:Pos}
theorem r6 {pl:Sem Bool} (F:MpAt X.prog X.w X.K X.mg X.base k G c m ps h) (hr:Room k' X.A) (hk:k<=k') (ho:Q (PV G X o ca)) (ha:Q (PVs G X (e :: es) cs)) (hst:starEach (e :: es) X.env=(false,eval e X.env) :: starEach es X.env) (hpl:(backTo pos (starEach es X.env)).any (·.1)=false) (ht:eval (.Call (.Attribute o m apos) (e :: es) [] pos) X.env=(do
   let ov ← eval o X.env
   standAt apos.atName
   let (f,first) ← holding [ov] (getMethod ov m pl)
   callWith pos f first (backTo pos (starEach (e :: es) X.env)) (backToKw pos (keywordEach [] X.env)))):Q (PV G X (.Call (.Attribute o m apos) (e :: es) [] pos) (dc c h ca cs)):=⟨zj F hr hk ho.h ha.h hst hpl ht⟩
end
section
variable {G:Gx} {X:Cx} {i j c k k' kr n:Nat} {way:List Stp} {o e b:Expr} {es:List Expr} {cs:Exs} {ca ck ce:Ex} {m x:Str} {ps:List Str} {mv:List Bool} {g:Mt} {h:Fn} {xc:Xx} {f:Str} {apos cpos pos pos' p p1:Pos}
theorem d9 {pl:Sem Bool} (F:MpAt X.prog X.w X.K X.mg X.base k G c m ps h) (hr:Room k' X.A) (hk:k<=k') (ho:Q (PV G X o ca)) (ht:eval (.Call (.Attribute o m apos) [] [] pos) X.env=(do
   let ov ← eval o X.env
   standAt apos.atName
   let (f,first) ← holding [ov] (getMethod ov m pl)
   callWith pos f first (backTo pos (starEach [] X.env)) (backToKw pos (keywordEach [] X.env)))):Q (PV G X (.Call (.Attribute o m apos) [] [] pos) (dc c h ca ai)):=⟨uH F hr hk ho.h ht⟩
end
section
variable {G:Gx} {X:Cx} {i j c k k' kr n:Nat} {way:List Stp} {o e b:Expr} {es:List Expr} {cs:Exs} {ca ck ce:Ex} {m x:Str} {ps:List Str} {mv:List Bool} {g:Mt} {h:Fn} {xc:Xx} {f:Str} {apos cpos pos pos' p p1:Pos}
theorem sT (F:InAt X.prog X.w X.K X.mg X.base k G c 0 x ps g) (hr:Room k' X.A) (hk:k+1<=k') (hg:Gl X x) (hdb:(x == ("__debug__" : Str))=false):Q (PV G X (.Call (.Name x p) [] [] pos) (eNew c g ai)):=⟨yN F hr hk hg hdb⟩
end
section
variable {G:Gx} {X:Cx} {i j c k k' kr n:Nat} {way:List Stp} {o e b:Expr} {es:List Expr} {cs:Exs} {ca ck ce:Ex} {m x:Str} {ps:List Str} {mv:List Bool} {g:Mt} {h:Fn} {xc:Xx} {f:Str} {apos cpos pos pos' p p1:Pos}
theorem iD (h:Q (PX G X e xc)) (hsw:swapsWith e none pos.line X.env=pure false):Q (PSV G X (.Expr e pos) (sXM xc)):=⟨C5 h.h hsw⟩
end
section
variable {G:Gx} {X:Cx} {i j c k k' kr n:Nat} {way:List Stp} {o e b:Expr} {es:List Expr} {cs:Exs} {ca ck ce:Ex} {m x:Str} {ps:List Str} {mv:List Bool} {g:Mt} {h:Fn} {xc:Xx} {f:Str} {apos cpos pos pos' p p1:Pos}
theorem pE (h:Q (PX G X e xc)):Q (PSV G X (.Return (some e) pos) (iS xc)):=⟨Aa h.h⟩
end
section
variable {G:Gx} {X:Cx} {i j c k k' kr n:Nat} {way:List Stp} {o e b:Expr} {es:List Expr} {cs:Exs} {ca ck ce:Ex} {m x:Str} {ps:List Str} {mv:List Bool} {g:Mt} {h:Fn} {xc:Xx} {f:Str} {apos cpos pos pos' p p1:Pos}
theorem jK (h:Q (PX G X e xc)) (hN:X.N.Nodup) (hi:X.N[j]?=some x) (hx:Loc X.env.scope x) (hs:swapsWith e (some (.Name x pos')) pos.line X.env=pure false) (hf:X.fn x=true\/X.env.scope.names.lookup x=some .local):Q (PSV G X (.Assign [.Name x pos'] e pos) (gf j xc)):=⟨Be h.h hN hi hx hs hf⟩
end
section
variable {G:Gx} {X:Cx} {i j c k k' kr n:Nat} {way:List Stp} {o e b:Expr} {es:List Expr} {cs:Exs} {ca ck ce:Ex} {m x:Str} {ps:List Str} {mv:List Bool} {g:Mt} {h:Fn} {xc:Xx} {f:Str} {apos cpos pos pos' p p1:Pos}
theorem oN (J:ft G) (hr:Room kr X.A) (ho:Q (PPl G X o i way)) (hk:Q (PV G X b ck)) (he:Q (PX G X e xc)) (ha:∀ v,assign (.Subscript o b pos') X.env v=(do
   let ov ← holding [v] (eval o X.env)
   let iv ← holding [v,ov] (eval b X.env)
   standAt pos'
   holding [v,ov,iv] (setItem ov iv v)
   release [v,ov,iv] [])) (hs:swapsWithSole [.Subscript o b pos'] e pos.line X.env=pure false) (hw:swappedStores [.Subscript o b pos'] e X.env=pure none) (h1:(assignEach [.Subscript o b pos'] X.env).map (·.2)=[assign (.Subscript o b pos') X.env]):Q (PSV G X (.Assign [.Subscript o b pos'] e pos) (gR i way ck xc)):=⟨zK J hr ho.h hk.h he.h ha hs hw h1⟩
end
section
variable {G:Gx} {X:Cx} {i j c k k' kr n:Nat} {way:List Stp} {o e b:Expr} {es:List Expr} {cs:Exs} {ca ck ce:Ex} {m x:Str} {ps:List Str} {mv:List Bool} {g:Mt} {h:Fn} {xc:Xx} {f:Str} {apos cpos pos pos' p p1:Pos}
theorem g6 (J:ft G) (hr:Room kr X.A) (ho:Q (PPl G X o i way)) (hk:Q (PV G X b ck)) (he:Q (PV G X e ce)) (ha:∀ v,assign (.Subscript o b pos') X.env v=(do
   let ov ← holding [v] (eval o X.env)
   let iv ← holding [v,ov] (eval b X.env)
   standAt pos'
   holding [v,ov,iv] (setItem ov iv v)
   release [v,ov,iv] [])) (hs:swapsWithSole [.Subscript o b pos'] e pos.line X.env=pure false) (hw:swappedStores [.Subscript o b pos'] e X.env=pure none) (h1:(assignEach [.Subscript o b pos'] X.env).map (·.2)=[assign (.Subscript o b pos') X.env]):Q (PSV G X (.Assign [.Subscript o b pos'] e pos) (du i way ck ce)):=⟨Bw J hr ho.h hk.h he.h ha hs hw h1⟩
end
section
variable {G:Gx} {X:Cx} {i j c k k' kr n:Nat} {way:List Stp} {o e b:Expr} {es:List Expr} {cs:Exs} {ca ck ce:Ex} {m x:Str} {ps:List Str} {mv:List Bool} {g:Mt} {h:Fn} {xc:Xx} {f:Str} {apos cpos pos pos' p p1:Pos}
theorem ip (J:ft G) (ho:Q (PPl G X o i way)) (ha:Q (PVs G X [e] cs)) (hK:X.K=G.K) (hbase:attributeBase o "append" X.env (eval o X.env)=eval o X.env) (hfew:((backTo cpos (starEach [e] X.env)).all (fun x=>!x.1) && (backToKw cpos (keywordEach [] X.env)).all (fun x=>x.1.isSome)
   && decide ([e].length+([]:List Keyword).length+(if ([]:List Keyword).isEmpty then 0 else 1) < 30))=true) (hline:(apos.endLine == cpos.line)=true) (hs:starEach [e] X.env=(false,eval e X.env) :: starEach [] X.env) (hplain:(backTo cpos (starEach [] X.env)).any (·.1)=false) (hsw:swapsWith (.Call (.Attribute o "append" apos) [e] [] cpos) none pos.line X.env=pure false):Q (PSV G X (.Expr (.Call (.Attribute o "append" apos) [e] [] cpos) pos) (sX (fY i way aD cs))):=⟨zP J ho.h ha.h hK hbase hfew hline hs hplain hsw⟩
end
section
variable {G:Gx} {X:Cx} {e a b:Expr} {rest:List Expr} {c cb:Ex} {x:Xx} {xt:Xt} {pos pos':Pos} {c1 c2:Sx}
theorem j0 (h:Q (PV G X e c)):Q (PV G X e (eUn c)):=⟨EA h.h⟩
end
section
variable {G:Gx} {X:Cx} {e a b:Expr} {es rest:List Expr} {as:List Ia} {c cb:Ex} {xc:Xx} {xt:Xt} {p pos pos':Pos} {c1 c2:Sx} {i k k':Nat} {un:Bool} {x:Str} {ps:List Str} {g:Wp->Option (Wp×T)} {way:List Stp}
theorem tH  : Q (PIa G X [] []):=⟨yW⟩
end
section
variable {G:Gx} {X:Cx} {e a b:Expr} {es rest:List Expr} {as:List Ia} {c cb:Ex} {xc:Xx} {xt:Xt} {p pos pos':Pos} {c1 c2:Sx} {i k k':Nat} {un:Bool} {x:Str} {ps:List Str} {g:Wp->Option (Wp×T)} {way:List Stp}
theorem ll (i:Nat) (un:Bool) (hN:X.N[i]?=some x) (hv:Vis X.env.scope x) (hd:(x == ("__debug__" : Str))=false) (hcd:(x == ("__classdict__" : Str))=false) (hr:Q (PIa G X es as)) (hs:starEach (.Name x pos :: es) X.env=(false,eval (.Name x pos) X.env) :: starEach es X.env):Q (PIa G X (.Name x pos :: es) (.io i un :: as)):=⟨vy i un hN hv hd hcd hr.h hs⟩
end
section
variable {G:Gx} {X:Cx} {e a b:Expr} {es rest:List Expr} {as:List Ia} {c cb:Ex} {xc:Xx} {xt:Xt} {p pos pos':Pos} {c1 c2:Sx} {i k k':Nat} {un:Bool} {x:Str} {ps:List Str} {g:Wp->Option (Wp×T)} {way:List Stp}
theorem pF (h:Q (PV G X e c)) (hr:Q (PIa G X es as)) (hs:starEach (e :: es) X.env=(false,eval e X.env) :: starEach es X.env):Q (PIa G X (e :: es) (.ex c :: as)):=⟨Am h.h hr.h hs⟩
end
section
variable {G:Gx} {X:Cx} {e a b:Expr} {es rest:List Expr} {as:List Ia} {c cb:Ex} {xc:Xx} {xt:Xt} {p pos pos':Pos} {c1 c2:Sx} {i k k':Nat} {un:Bool} {x:Str} {ps:List Str} {g:Wp->Option (Wp×T)} {way:List Stp}
theorem tU (F:IoAt X.prog X.w X.K X.mg X.base k x ps G (iaB as) g) (hr:Room k' X.A) (ha:Q (PIa G X (e :: es) (.io i un :: as))) (hk:k<=k') (hg:Gl X x) (hdb:(x == ("__debug__" : Str))=false) (he:starEach (e :: es) X.env=(false,eval e X.env) :: starEach es X.env) (hpl:(backTo pos (starEach es X.env)).any (·.1)=false):Q (PX G X (.Call (.Name x p) (e :: es) [] pos) (ij (.io i un :: as) g)):=⟨xB F hr ha.h hk hg hdb he hpl⟩
end
section
variable {G:Gx} {X:Cx} {e a b:Expr} {es rest:List Expr} {as:List Ia} {c cb:Ex} {xc:Xx} {xt:Xt} {p pos pos':Pos} {c1 c2:Sx} {i k k':Nat} {un:Bool} {x:Str} {ps:List Str} {g:Wp->Option (Wp×T)} {way:List Stp}
theorem ju (h:Q (PPl G X e i way)):Q (PPl G X e i (way++[.un])):=⟨B4 h.h⟩
end
section
variable {G:Gx} {X:Cx} {e a b:Expr} {es rest:List Expr} {as:List Ia} {c cb:Ex} {xc:Xx} {xt:Xt} {p pos pos':Pos} {c1 c2:Sx} {i k k':Nat} {un:Bool} {x:Str} {ps:List Str} {g:Wp->Option (Wp×T)} {way:List Stp}
theorem yB (h:Q (PX G X e xc)) (he:∀ whole,isTrue e X.env whole=(do let v ← whole;standAt e.pos;holding [v] (truthy v))):Q (PXT G X e (xtV xc)):=⟨Dv h.h he⟩
end
section
variable {G:Gx} {X:Cx} {e a b:Expr} {es rest:List Expr} {as:List Ia} {c cb:Ex} {xc:Xx} {xt:Xt} {p pos pos':Pos} {c1 c2:Sx} {i k k':Nat} {un:Bool} {x:Str} {ps:List Str} {g:Wp->Option (Wp×T)} {way:List Stp}
theorem sO (h:Q (PXT G X e xt)):Q (PXT G X (.UnaryOp .Not e pos) (nG xt)):=⟨xO h.h⟩
end
section
variable {G:Gx} {X:Cx} {e a b:Expr} {es rest:List Expr} {as:List Ia} {c cb:Ex} {xc:Xx} {xt:Xt} {p pos pos':Pos} {c1 c2:Sx} {i k k':Nat} {un:Bool} {x:Str} {ps:List Str} {g:Wp->Option (Wp×T)} {way:List Stp}
theorem vH (ha:Q (PXT G X a xt)) (hb:Q (PVW G X (.BoolOp .Or (b :: rest) pos) cb)):Q (PXT G X (.BoolOp .Or (a :: b :: rest) pos) (si xt cb)):=⟨A7 ha.h hb.h⟩
end
section
variable {G:Gx} {X:Cx} {e a b:Expr} {es rest:List Expr} {as:List Ia} {c cb:Ex} {xc:Xx} {xt:Xt} {p pos pos':Pos} {c1 c2:Sx} {i k k':Nat} {un:Bool} {x:Str} {ps:List Str} {g:Wp->Option (Wp×T)} {way:List Stp}
theorem zd {as bs:List Stmt} (hc:Q (PXT G X e xt)) (ha:Q (cB G X as c1)) (hb:Q (cB G X bs c2)):Q (PSV G X (.If e as bs pos) (sW xt c1 c2)):=⟨CD hc.h ha.h hb.h⟩
end
section
variable {G:Gx} {X:Cx} {e a b:Expr} {es rest:List Expr} {as:List Ia} {c cb:Ex} {xc:Xx} {xt:Xt} {p pos pos':Pos} {c1 c2:Sx} {i k k':Nat} {un:Bool} {x:Str} {ps:List Str} {g:Wp->Option (Wp×T)} {way:List Stp}
theorem vT {j:Nat} (h:Q (PX G X e xc)):Q (PX G X (.Compare e [.Is] [.Constant .none j pos'] pos) (vd xc)):=⟨zR h.h⟩
end
section
variable {G:Gx} {X:Cx} {k k' c:Nat} {x:Str} {ps:List Str} {g:Mt} {p pos:Pos}
theorem m6 (F:InAd X.prog X.w X.K X.mg X.base k G c 1 x ps g) (hr:Room k' X.A) (hk:k+1<=k') (hg:Gl X x) (hdb:(x == ("__debug__" : Str))=false):Q (PV G X (.Call (.Name x p) [] [] pos) (eNew c g (ab (eC .non) ai))):=⟨yf F hr hk hg hdb⟩
end
section
variable {G:Gx} {X:Cx} {k k' c:Nat} {x:Str} {ps:List Str} {g:Mt} {p pos:Pos}
theorem mV {n:Nat} {e:Expr} {es:List Expr} {cs:Exs} (F:InAd X.prog X.w X.K X.mg X.base k G c n x ps g) (hr:Room k' X.A) (hk:k+1<=k') (ha:Q (PVs G X (e :: es) cs)) (hn:∀ η xs,cs η=some xs->xs.length=n) (hg:Gl X x) (hdb:(x == ("__debug__" : Str))=false) (he:starEach (e :: es) X.env=(false,eval e X.env) :: starEach es X.env) (hpl:(backTo pos (starEach es X.env)).any (·.1)=false):Q (PV G X (.Call (.Name x p) (e :: es) [] pos) (eNew c g cs)):=⟨yx F hr hk ha.h hn hg hdb he hpl⟩
end
section
variable {G:Gx} {X:Cx} {tg a b c:Expr} {ca cb cc:Ex} {pos p:Pos}
theorem nO (ha:Q (PV G X a ca)) (hb:Q (PV G X b cb)) (hc:Q (PV G X c cc)) (hg:Gl X "range") (hm:X.mg "range" = none) (hs:starEach [a,b,c] X.env=(false,eval a X.env) :: starEach [b,c] X.env) (hs1:starEach [b,c] X.env=(false,eval b X.env) :: starEach [c] X.env) (hs2:starEach [c] X.env=(false,eval c X.env) :: starEach [] X.env) (hpl:(backTo pos (starEach [b,c] X.env)).any (·.1)=false):Q (PVI G X tg (.Call (.Name "range" p) [a,b,c] [] pos) (iJ ca cb cc)):=⟨qC ha.h hb.h hc.h hg hm hs hs1 hs2 hpl⟩
end
section
variable {G:Gx} {P:Program} {w:World} {K:X4} {mg:Wz} {base:Heap}
theorem ke {x:Str} {st:Stmt} {f:Addr} {fd:FuncData} {N ps:List Str} {k np nn:Nat} {c:Sx} (F:Fun K x x st f fd) (hm:mg x=some (.ref f)) (S:FnScope N ps (af st)) (hp:ps.length=np) (hn:N.length=nn)
  (hbd:∀ (kV doc pm:Value) (an:Option Addr) (cdv ct:Value) (us:Wx),us.length=ps.length->bindArgs (PySem.W.fnOf x x (aB st) (au st) (af st) .none kV doc pm an cdv ct) ⟨us,[]⟩=pure (ps.zip us))
  (hb:∀ (cdv:Value) (A:Around) (outer:List PySem.Env) (s:Shared) (H:Hp) (E:XK),Room k (A.deeper (envOfC x (af st) s.heap.objs.size f cdv))->Q (cB G (fo CX0 P w K mg base N x (af st) f cdv A outer s H E).nox (au st) c)) :
  FnAt P w K mg base (k+1) x ps G (fn np nn c):=Co F hm S hp hn hbd fun cdv A outer s H E hr=>(hb cdv A outer s H E hr).h
theorem Ey {x qual:Str} {st:Stmt} {f:Addr} {fd:FuncData} {N ps:List Str} {k np nn:Nat} {c:Sx} (F:Fun K x qual st f fd) (S:FnScope N ps (af st)) (hp:ps.length=np) (hn:N.length=nn)
  (hb:∀ (cdv:Value) (A:Around) (outer:List PySem.Env) (s:Shared) (H:Hp) (E:XK),Room k (A.deeper (envOfC qual (af st) s.heap.objs.size f cdv))->Q (cB G (fo CX0 P w K mg base N qual (af st) f cdv A outer s H E).nox (au st) c)) :
  FnOk P w K mg base CX0 (k+1) f fd ps (spF G (fn np nn c)):=fnV F S hp hn fun cdv A outer s H E hr=>(hb cdv A outer s H E hr).h
theorem tD {c:Nat} {x qual:Str} {st:Stmt} {f:Addr} {fd:FuncData} {N ps:List Str} {k np nn:Nat} {mv:List Bool} {body:Sx} (F:Fun K x qual st f fd) (hm:Meth K (G.ct (c+1)).1 x f) (hc:Cls K (G.ct (c+1)).1) (hno:∀ k,(G.ct (c+1)).2 k ≠ x) (S:FnScope N ps (af st)) (hp:ps.length=np) (hn:N.length=nn)
  (hbd:∀ (kV doc pm:Value) (an:Option Addr) (cdv ct:Value) (us:Wx),us.length=ps.length->bindArgs (PySem.W.fnOf x qual (aB st) (au st) (af st) .none kV doc pm an cdv ct) ⟨us,[]⟩=pure (ps.zip us))
  (hb:∀ (a:Addr) (cdv:Value) (A:Around) (outer:List PySem.Env) (s:Shared) (H:Hp) (E:XK),Room k (A.deeper (envOfC qual (af st) s.heap.objs.size f cdv))->Q (cB (G.at (meA a)) (fo CX0 P w K mg base N qual (af st) f cdv A outer s H E).nox (au st) body)) :
  MtAt P w K mg base (k+1) G c x ps mv (mfn c np nn mv body):=Cd F hm hc hno S hp hn hbd fun a cdv A outer s H E hr=>(hb a cdv A outer s H E hr).h
theorem Es {c n:Nat} {x y qual:Str} {st:Stmt} {f:Addr} {fd:FuncData} {N ps:List Str} {k np nn:Nat} {body:Sx} (F:Fun K y qual st f fd) (hm:Mk K (G.ct (c+1)).1 f) (hg:mg x=some (.ref (G.ct (c+1)).1)) (S:FnScope N ps (af st)) (hp:ps.length=np) (hn:N.length=nn)
  (hbd:∀ (kV doc pm:Value) (an:Option Addr) (cdv ct:Value) (us:Wx),us.length=ps.length->bindArgs (PySem.W.fnOf y qual (aB st) (au st) (af st) .none kV doc pm an cdv ct) ⟨us,[]⟩=pure (ps.zip us))
  (hb:∀ (a:Addr) (cdv:Value) (A:Around) (outer:List PySem.Env) (s:Shared) (H:Hp) (E:XK),Room k (A.deeper (envOfC qual (af st) s.heap.objs.size f cdv))->Q (cB (G.at (meA a)) (fo CX0 P w K mg base N qual (af st) f cdv A outer s H E).nox (au st) body)) :
  InAt P w K mg base (k+1) G c n x ps (mfn c np nn (List.replicate n false) body):=BM F hm hg S hp hn hbd fun a cdv A outer s H E hr=>(hb a cdv A outer s H E hr).h
theorem vV {c:Nat} {x qual:Str} {st:Stmt} {f:Addr} {fd:FuncData} {N ps:List Str} {k np nn:Nat} {body:Sx} (F:Fun K x qual st f fd) (hm:Meth K (G.ct (c+1)).1 x f) (hc:Cls K (G.ct (c+1)).1) (hno:∀ k,(G.ct (c+1)).2 k ≠ x) (S:FnScope N ps (af st)) (hp:ps.length=np) (hn:N.length=nn)
  (hbd:∀ (kV doc pm:Value) (an:Option Addr) (cdv ct:Value) (us:Wx),us.length=ps.length->bindArgs (PySem.W.fnOf x qual (aB st) (au st) (af st) .none kV doc pm an cdv ct) ⟨us,[]⟩=pure (ps.zip us))
  (hb:∀ (cdv:Value) (A:Around) (outer:List PySem.Env) (s:Shared) (H:Hp) (E:XK),Room k (A.deeper (envOfC qual (af st) s.heap.objs.size f cdv))->Q (cB G (fo CX0 P w K mg base N qual (af st) f cdv A outer s H E).nox (au st) body)) :
  MpAt P w K mg base (k+1) G c x ps (fn np nn body):=B9 F hm hc hno S hp hn hbd fun cdv A outer s H E hr=>(hb cdv A outer s H E hr).h
theorem Ee {x:Str} {st:Stmt} {f:Addr} {fd:FuncData} {N ps:List Str} {k np nn:Nat} {mv:List Bool} {body:Sx} {m0:Me} (F:Fun K x x st f fd) (hm:mg x=some (.ref f)) (S:FnScope N ps (af st)) (hp:ps.length=np) (hn:N.length=nn)
  (hbd:∀ (kV doc pm:Value) (an:Option Addr) (cdv ct:Value) (us:Wx),us.length=ps.length->bindArgs (PySem.W.fnOf x x (aB st) (au st) (af st) .none kV doc pm an cdv ct) ⟨us,[]⟩=pure (ps.zip us))
  (hb:∀ (m:Me) (cdv:Value) (A:Around) (outer:List PySem.Env) (s:Shared) (H:Hp) (E:XK),Room k (A.deeper (envOfC x (af st) s.heap.objs.size f cdv))->Q (cB (G.at m) (fo CX0 P w K mg base N x (af st) f cdv A outer s H E).nox (au st) body)) :
  IoAt P w K mg base (k+1) x ps (G.at m0) mv (ifn np nn mv body):=BN (G:=G.at m0) F hm S hp hn hbd fun m cdv A outer s H E hr=>(hb m cdv A outer s H E hr).h
theorem Ap {c n:Nat} {x y qual:Str} {st:Stmt} {f:Addr} {fd:FuncData} {N ps:List Str} {k np nn:Nat} {body:Sx} (F:FunD K y qual st f fd) (hm:Mk K (G.ct (c+1)).1 f) (hg:mg x=some (.ref (G.ct (c+1)).1)) (S:FnScope N ps (af st)) (hp:ps.length=np) (hn:N.length=nn)
  (hbd:∀ (s:Shared) (T:Addr) (kV doc pm:Value) (an:Option Addr) (cdv ct:Value) (o:Obj) (n:Nat) (us:Wx),K.In s.heap->K.lookup T=some o->o.data=.seq #[.none] n->us.length=ps.length->BindsTo s (PySem.W.fnOf y qual (aB st) (au st) (af st) (.ref T) kV doc pm an cdv ct) ⟨us,[]⟩ (ps.zip us))
  (hbd2:∀ (s:Shared) (T:Addr) (kV doc pm:Value) (an:Option Addr) (cdv ct:Value) (o:Obj) (n:Nat) (us:Wx),K.In s.heap->K.lookup T=some o->o.data=.seq #[.none] n->us.length+1=ps.length->BindsTo s (PySem.W.fnOf y qual (aB st) (au st) (af st) (.ref T) kV doc pm an cdv ct) ⟨us,[]⟩ (ps.zip (us++[.none])))
  (hb:∀ (a:Addr) (cdv:Value) (A:Around) (outer:List PySem.Env) (s:Shared) (H:Hp) (E:XK),Room k (A.deeper (envOfC qual (af st) s.heap.objs.size f cdv))->Q (cB (G.at (meA a)) (fo CX0 P w K mg base N qual (af st) f cdv A outer s H E).nox (au st) body)) :
  InAd P w K mg base (k+1) G c n x ps (mfn c np nn (List.replicate n false) body):=vR F hm hg S hp hn hbd hbd2 fun a cdv A outer s H E hr=>(hb a cdv A outer s H E hr).h
end
end VS
end
section
namespace T07
open VS
noncomputable def aH:Mt:=mfn 0 4 4 [false,false,true]
  (ar (sX (fY 0 [.fld 1] aD (ab (ae 1) ai)))
  (ar (sX (fY 0 [.fld 2] aD (ab (ae 2) ai)))
  (ar (j8 0 [.fld 3] 3)
  (fq (e2 iU (eN bI (ab (bc 1 (ae 0)) ai)) (eC (.int 1)))))))
noncomputable def dk:Mt:=mfn 0 1 1 (List.replicate 0 false)
  (ar (gS 0 1 (dz ai))
  (ar (gS 0 2 (dz ai))
  (ar (gS 0 3 (dz ai))
  (sXM (aT 0 [] 0 [false,false,true] aH (ab (eC (.int 0)) (ab (eC .non) (ab (mG 0 []) ai))))))))
noncomputable def bQ:Sx :=
  (ar (du 0 [.fld 3,.ix (ae 1)] (ae 2) (ae 5))
  (aM 1 (e2 aN (bc 2 (ae 0)) (ae 1))))
noncomputable def aw:Mt:=mfn 0 3 6 [false,false]
  (ar (aM 3 (e2 oIx (e2 aN (bc 3 (ae 0)) (ae 1)) (ae 2)))
  (ar (aM 4 (e2 cn (e2 aN (bc 1 (ae 0)) (ae 1)) (eC (.int 1))))
  (ar (sIf (e2 oEq (e2 aN (bc 1 (ae 0)) (ae 3)) (ae 4)) (g0 3) d2)
  (ar (gf 5 (aT 0 [] 0 [false,false,true] aH (ab (ae 4) (ab (e2 aN (bc 2 (ae 0)) (ae 3)) (ab (eN iV (ab (e2 aN (bc 3 (ae 0)) (ae 3)) ai)) ai)))))
  (ar (du 0 [.fld 2] (ae 3) (ae 5))
  (ar (ja (eZ (fA (ae 1)) (e2 oEq (e2 qD (e2 aN (bc 3 (ae 0)) (ae 1)) (ae 2)) (ae 3))) bQ)
  (g0 5)))))))
noncomputable def bS:Sx :=
  (ar (du 0 [.fld 3,.ix (ae 4)] (ae 2) (ae 3))
  (aM 4 (e2 aN (bc 2 (ae 0)) (ae 4))))
noncomputable def bN:Mt:=mfn 0 3 5 [false,false]
  (ar (sIf (e2 kx (ae 2) (e2 aN (bc 3 (ae 0)) (ae 1))) (iS (aT 0 [] 0 [false,false] aw (ab (ae 1) (ab (ae 2) ai)))) d2)
  (ar (gf 3 (aT 0 [] 0 [false,false,true] aH (ab (e2 cn (e2 aN (bc 1 (ae 0)) (ae 1)) (eC (.int 1))) (ab (eC (.int 0)) (ab (mG 0 []) ai)))))
  (ar (aM 4 (ae 1))
  (ar (ja (eZ (fA (ae 4)) (e2 dn (ae 2) (e2 aN (bc 3 (ae 0)) (ae 4)))) bS)
  (ar (sIf (fA (ae 4)) (gR 0 [.fld 2] (ae 3) (aT 0 [] 0 [false,false] aw (ab (ae 4) (ab (ae 2) ai)))) d2)
  (g0 3))))))
noncomputable def cf:Sx :=
  (gf 1 (aT 0 [] 0 [false,false] bN (ab (ae 1) (ab (ae 3) ai))))
noncomputable def aU:Mt:=mfn 0 3 4 [false,false]
  (ar (j4 (cY 3) (iL (ae 2)) cf)
  (g0 1))
noncomputable def bx:Sx :=
  (sIf (e2 dn (e2 oIx (ae 4) (ae 5)) (ae 1)) (ar (ni 1 (e2 oIx (ae 4) (ae 5)) (eN bI (ab (ae 2) ai)))
  (sX (lX 2 [] aD (ab (e2 oIx (ae 4) (ae 5)) ai)))) d2)
noncomputable def b9:Sx :=
  (ar (aM 4 (e2 aN (bc 3 (ae 0)) (e2 aN (ae 2) (ae 3))))
  (ar (j4 (cY 5) (iL (eN fL (ab (ae 4) ai))) bx)
  (aM 3 (e2 cn (ae 3) (eC (.int 1))))))
noncomputable def aG:Fn:=fn 1 6
  (ar (gZ 1 (mG 0 [((eC (.int 0)),(eC (.int 0)))]))
  (ar (gZ 2 (dz (ab (eC (.int 0)) ai)))
  (ar (aM 3 (eC (.int 0)))
  (ar (ja (e2 oLt (ae 3) (eN bI (ab (ae 2) ai))) b9)
  (ar (oB 2)
  (g0 1))))))
noncomputable def b7:Fn:=fn 3 6
  (ar (aM 3 (e2 aN (bc 2 (ae 0)) (ae 1)))
  (ar (aM 4 (e2 aN (bc 3 (ae 0)) (ae 1)))
  (ar (aM 5 (eN iK (ab (dU 1 (cY 0) (iL (eN fL (ab (ae 4) ai))) none (mn (ab (ae 0) (ab (e2 mE (ae 3) (e2 oIx (ae 5) (ae 0))) ai)))) ai)))
  (ar (sIf (vh (ae 3)) (fq (mn (ab (eC (.int 0)) (ab (eC (.int 0)) (ab (eC .non) (ab (ae 5) ai)))))) d2)
  (fq (mn (ab (e2 cn (e2 aN (bc 1 (ae 0)) (ae 3)) (eC (.int 1))) (ab (e2 aN (bc 1 (ae 0)) (ae 1)) (ab (e2 mE (ae 2) (ae 3)) (ab (ae 5) ai))))))))))
noncomputable def dB:Fn:=fn 1 2
  (ar (gZ 1 (dc 0 aG (ae 0) ai))
  (qZ 1 (cY 0) (dc 0 b7 (ae 1) (ab (ae 0) (ab (ae 2) ai)))))
noncomputable def ax:Mt:=mfn 1 1 1 []
  (ar (sIf (e2 oGe (eN bI (ab (bc 4 (ae 0)) ai)) (eC (.int 8))) sNo d2)
  (ar (sX (fY 0 [.fld 4] aD (ab (eC (.str [])) ai)))
  (ar (sX (fY 0 [.fld 5] aD (ab (eC (.int 0)) ai)))
  (fq (e2 iU (eN bI (ab (bc 4 (ae 0)) ai)) (eC (.int 1)))))))
noncomputable def jb:Fn:=fn 1 1
  (fq (eZ (eIs .int (ae 0)) (iY (eIs .bool (ae 0)))))
noncomputable def bH:Fn:=fn 2 2
  (sIf (eOr (iY (bg jb (ab (ae 1) ai))) (iY (jc oLe oLt (eC (.int 0)) (ae 1) (eN bI (ab (ae 0) ai))))) sNo d2)
noncomputable def fK:Fn:=fn 1 1
  (fq (eN vw (ab (dU 1 (cY 0) (iL (ae 0)) none (eN bI (ab (ae 0) ai))) ai)))
noncomputable def av:Mt:=mfn 1 3 3 [false,false]
  (ar (sX (xP (bg bH (ab (bc 4 (ae 0)) (ab (ae 1) ai)))))
  (ar (sIf (e2 oGt (e2 cn (bg fK (ab (bc 4 (ae 0)) ai)) (eN bI (ab (ae 2) ai))) (eC (.int 120))) sNo d2)
  (ar (gR 0 [.fld 5] (ae 1) (aT 0 [.fld 6] 0 [false,false] aU (ab (e2 aN (bc 5 (ae 0)) (ae 1)) (ab (ae 2) ai))))
  (du 0 [.fld 4] (ae 1) (e2 cn (e2 aN (bc 4 (ae 0)) (ae 1)) (ae 2))))))
noncomputable def bB:Sx :=
  (sXM (lW 0 1 [false,false] av (aT 0 [] 1 [] ax ai) (ab (ae 2) ai)))
noncomputable def aE:Mt:=mfn 1 2 3 (List.replicate 1 false)
  (ar (gS 0 4 (dz ai))
  (ar (gS 0 5 (dz ai))
  (ar (gS 0 6 (eNew 0 dk ai))
  (sIf (fA (ae 1)) (j4 (cY 2) (iL (ae 1)) bB) d2))))
noncomputable def dX:Fn:=fn 1 1
  (fq (eN gv (ab (bc 4 (ae 0)) ai)))
noncomputable def bL:Fn:=fn 1 1
  (fq (dc 0 dB (bc 6 (ae 0)) ai))
noncomputable def ay:Fn:=fn 2 2
  (ar (sIf (e2 oLt (ae 1) (eN bI (ab (ae 0) ai))) (fq (e2 aN (ae 0) (ae 1))) d2)
  (fq (eC (.int 0))))
noncomputable def fg:Fn:=fn 2 3
  (ar (aM 2 (e2 oMod (e2 cn (e2 cn (e2 oMod (ae 0) (eC (.int 2147483629))) (e2 iO (eC (.int 48271)) (ae 1))) (eC (.int 11))) (eC (.int 2147483629))))
  (ar (aM 2 (e2 cn (e2 oMod (e2 iO (ae 2) (ae 2)) (eC (.int 2147483629))) (e2 iO (eC (.int 7919)) (ae 1))))
  (fq (e2 oMod (e2 iO (ae 2) (ae 2)) (eC (.int 2147483587))))))
noncomputable def eU:Sx :=
  (sIf (e2 oEq (e2 oMod (bg ay (ab (ae 0) (ab (eC (.int 0)) ai))) (eC (.int 2))) (eC (.int 0))) (ar (sX (lX 6 [] aD (ab (e2 aN (ae 1) (e2 oMod (ae 4) (eN bI (ab (ae 1) ai)))) ai)))
  (aM 4 (e2 bD (ae 4) (eN bI (ab (ae 1) ai))))) (sX (lX 6 [] aD (ab (e2 aN (ae 1) (e2 oMod (e2 bD (bg fg (ab (ae 4) (ab (e2 cn (e2 iO (eC (.int 30)) (ae 3)) (ae 7)) ai))) (eC (.int 7))) (eN bI (ab (ae 1) ai)))) ai))))
noncomputable def dG:Fn:=fn 4 8
  (ar (aM 4 (bg ay (ab (ae 0) (ab (e2 cn (eC (.int 1)) (ae 3)) ai))))
  (ar (aM 5 (e2 oMod (ae 4) (e2 cn (ae 2) (eC (.int 1)))))
  (ar (aM 4 (e2 bD (ae 4) (e2 cn (ae 2) (eC (.int 1)))))
  (ar (gZ 6 (dz ai))
  (ar (j4 (cY 7) (dF (ae 5)) eU)
  (ar (oB 6)
  (fq (eM hV (eC (.str [])) (ab (ae 6) ai)))))))))
noncomputable def gg:Fn:=fn 1 5
  (ar (aM 1 (bg ay (ab (ae 0) (ab (eC (.int 0)) ai))))
  (ar (aM 2 (e2 aN (dz (ab (eC (.str [97,98])) (ab (eC (.str [97,98,99])) (ab (eC (.str [97,98,99,100])) (ab (eC (.str [97,122])) (ab (eC (.str [97])) (ab (eC (.str [97,98,99,100,101,102,103,104,105,106,107,108,109,110,111,112,113,114,115,116,117,118,119,120,121,122])) ai))))))) (e2 oMod (e2 bD (ae 1) (eC (.int 2))) (eC (.int 6)))))
  (ar (aM 3 (e2 aN (dz (ab (eC (.int 1)) (ab (eC (.int 2)) (ab (eC (.int 3)) (ab (eC (.int 4)) (ab (eC (.int 2)) (ab (eC (.int 1)) (ab (eC (.int 0)) (ab (eC (.int 8)) ai))))))))) (e2 oMod (e2 bD (ae 1) (eC (.int 12))) (eC (.int 8)))))
  (ar (aM 4 (e2 aN (dz (ab (eC (.int 24)) (ab (eC (.int 12)) (ab (eC (.int 8)) (ab (eC (.int 6)) ai))))) (e2 iU (eN nk (ab (ae 3) (ab (eC (.int 4)) ai))) (eC (.int 1)))))
  (ar (sIf (e2 oEq (e2 oMod (e2 bD (ae 1) (eC (.int 96))) (eC (.int 8))) (eC (.int 5))) (aM 4 (e2 bD (e2 aN (dz (ab (eC (.int 60)) (ab (eC (.int 120)) ai))) (e2 oMod (e2 bD (ae 1) (eC (.int 768))) (eC (.int 2)))) (eN ng (ab (eC (.int 1)) (ab (ae 3) ai))))) d2)
  (ar (sIf (eZ (e2 oEq (ae 3) (eC (.int 8))) (e2 oNe (e2 oMod (e2 bD (ae 1) (eC (.int 96))) (eC (.int 8))) (eC (.int 5)))) (aM 4 (eC (.int 3))) d2)
  (fq (dU 1 (cY 0) (dF (ae 3)) none (bg dG (ab (ae 1) (ab (ae 3) (ab (ae 5) (ab (ae 0) ai)))))))))))))
noncomputable def eG:Wp->Option (Wp×T):=ifn 4 8 [false,true,false]
  (ar (sIf (eOr (eZ (e2 oEq (e2 oMod (ae 3) (eC (.int 4))) (eC (.int 0))) (e2 oLt (eN bI (ab (eUn (ae 2)) ai)) (eN bI (ab (ae 1) ai)))) (e2 oEq (eUn (ae 2)) (dz ai))) (ar (sX (fY 2 [.un] aD (ab (eC (.str [])) ai)))
  (ar (gf 4 (aT 0 [.un] 1 [] ax ai))
  (fq (eZ (eIs .int (ae 4)) (eZ (iY (eIs .bool (ae 4))) (e2 oEq (ae 4) (e2 iU (eN bI (ab (eUn (ae 2)) ai)) (eC (.int 1))))))))) d2)
  (ar (aM 5 (e2 oMod (e2 bD (ae 3) (eC (.int 4))) (eN bI (ab (eUn (ae 2)) ai))))
  (ar (aM 6 (eSl (e2 aN (ae 1) (ae 5)) (some (eN bI (ab (e2 aN (eUn (ae 2)) (ae 5)) ai))) none))
  (ar (aM 7 (eSl (ae 6) none (some (e2 aN (dz (ab (eC (.int 1)) (ab (eC (.int 1)) (ab (eC (.int 2)) (ab (eC (.int 0)) (ab (eC (.int 60)) ai)))))) (e2 oMod (e2 bD (ae 3) (eC (.int 32))) (eC (.int 5)))))))
  (ar (du 2 [.un] (ae 5) (e2 cn (e2 aN (eUn (ae 2)) (ae 5)) (ae 7)))
  (iS (vd (aT 0 [.un] 1 [false,false] av (ab (ae 5) (ab (ae 7) ai))))))))))
noncomputable def cA:Fn:=fn 2 2
  (fq (eZ (e2 oEq (dc 1 dX (ae 0) ai) (ae 1)) (e2 oEq (dc 1 bL (ae 0) ai) (dc 1 bL (eNew 1 aE (ab (eN gv (ab (ae 1) ai)) ai)) ai))))
noncomputable def kU:Sx :=
  (ar (aM 8 (e2 cn (bg ay (ab (ae 0) (ab (e2 cn (eC (.int 12)) (ae 7)) ai))) (e2 iO (eC (.int 104729)) (ae 7))))
  (ar (sW (si (nG (xtV (ij [(.io 4 false),(.ex (ae 1)),(.io 3 false),(.ex (ae 8))] eG))) (iY (bg cA (ab (ae 4) (ab (ae 3) ai))))) (fq (eC (.bl false))) d2)
  (sIf (e2 oEq (ae 7) (eC (.int 5))) (ar (sXM (aT 5 [] 1 [] ax ai))
  (sXM (aT 5 [] 1 [false,false] av (ab (eC (.int 0)) (ab (ae 6) ai))))) d2)))
noncomputable def ox:Sx :=
  (ar (sX (lX 3 [] aD (ab (eC (.str [])) ai)))
  (sXM (aT 4 [] 1 [] ax ai)))
noncomputable def jF:Sx :=
  (sXM (aT 4 [] 1 [false,false] av (ab (ae 9) (ab (eSl (e2 aN (ae 1) (ae 9)) (some (eN bI (ab (e2 aN (ae 3) (ae 9)) ai))) none) ai))))
noncomputable def rN:Fn:=fn 1 10
  (ar (aM 1 (bg gg (ab (ae 0) ai)))
  (ar (aM 2 (e2 oMod (bg ay (ab (ae 0) (ab (eC (.int 9)) ai))) (e2 cn (eN bI (ab (ae 1) ai)) (eC (.int 1)))))
  (ar (gZ 3 (dU 1 (cY 0) (iL (eSl (ae 1) none (some (ae 2)))) none (eSl (ae 0) none (some (e2 oMod (e2 bD (bg ay (ab (ae 1) (ab (eC (.int 10)) ai))) (eC (.int 9))) (e2 cn (eN bI (ab (ae 0) ai)) (eC (.int 1))))))))
  (ar (gZ 4 (eNew 1 aE (ab (eN gv (ab (ae 3) ai)) ai)))
  (ar (sIf (e2 oEq (ae 3) (dz ai)) (gZ 4 (eNew 1 aE (ab (eC .non) ai))) d2)
  (ar (gZ 5 (eNew 1 aE (ab (eC .non) ai)))
  (ar (aM 6 (e2 cn (eC (.str [97,98])) (eSl (eM hV (eC (.str [])) (ab (ae 1) ai)) none (some (eC (.int 40))))))
  (ar (sIf (e2 oEq (ae 1) (dz ai)) (fq (eZ (bg cA (ab (ae 4) (ab (dz ai) ai))) (e2 oEq (dc 1 bL (ae 4) ai) (dz (ab (mn (ab (eC (.int 0)) (ab (eC (.int 0)) (ab (eC .non) (ab (mn ai) ai))))) ai))))) d2)
  (ar (j4 (cY 7) (dF (eC (.int 16))) kU)
  (ar (oB 5)
  (ar (ja (e2 oLt (eN bI (ab (ae 3) ai)) (eN bI (ab (ae 1) ai))) ox)
  (ar (oB 3)
  (ar (j4 (cY 9) (iJ (e2 iU (eN bI (ab (ae 1) ai)) (eC (.int 1))) (eC (.int (-1))) (eC (.int (-1)))) jF)
  (ar (oB 4)
  (fq (eZ (bg cA (ab (ae 4) (ab (ae 1) ai))) (bg cA (ab (ae 5) (ab (dz (ab (ae 6) ai)) ai)))))))))))))))))))
end T07
end
section
namespace AU
structure St where
 lg:Wv
 lk:List (Option Nat)
 wy:List (List (Nat×Nat))
noncomputable def gW (w:List (Nat×Nat)) (c:Nat):Option Nat:=(w.find? fun p=>p.1 == c).map (·.2)
noncomputable def pW (w:List (Nat×Nat)) (c m:Nat):List (Nat×Nat):=if w.any (fun p=>p.1 == c) then w.map (fun p=>if p.1 == c then (p.1,m) else p) else w++[(c,m)]
structure WF (S:St):Prop where
 lk:S.lk.length=S.lg.length
 wy:S.wy.length=S.lg.length
 pos:0 < S.lg.length
 up:∀ i n,S.lk.getD i none=some n->n < S.lg.length
 on:∀ i c n,gW (S.wy.getD i []) c=some n->n < S.lg.length
 nd:∀ w∈S.wy,(w.map (·.1)).Nodup
 az:∀ w∈S.wy,∀ p∈w,97<=p.1/\p.1<=122
theorem sub_len {α:Type} [DecidableEq α]:∀ (l r:List α),l.Nodup->(∀ x∈l,x∈r)->l.length<=r.length
 | [],_,_,_=>Yn _
 | a :: l,r,nd,h=>by
  obtain ⟨h1,h2⟩:=Ze.mp nd
  have hr:a∈r:=h a Zt
  have:=sub_len l (r.erase a) h2 fun x hx=>(List.mem_erase_of_ne (show x ≠ a from fun e=>h1 (by rw [← e];exact hx))).mpr (h x (Zx _ hx))
  rw [List.length_erase_of_mem hr] at this
  have:0 < r.length:=List.length_pos_of_mem hr
  rw [Za]
  omega
theorem WF.small {S:St} (W:WF S) (i:Nat):(S.wy.getD i []).length < 16777216:=by
 by_cases h:i < S.wy.length
 ·have hm:S.wy.getD i []∈S.wy:=by
   rw [Zu,Zo h]
   exact Z6 h
  have:=sub_len ((S.wy.getD i []).map (·.1)) (List.range 123) (W.nd _ hm) fun x hx=>by
   obtain ⟨p,hp,rfl⟩:=Yr.mp hx
   have:=(W.az _ hm p hp).2
   exact YX.mpr (by omega)
  rw [Zv,ZE] at this
  omega
 ·rw [Zu,ZC (ZK h)]
  decide
theorem AO (w:List (Nat×Nat)) (c:Nat):(w.any fun p=>p.1 == c)=(gW w c).isSome:=by
 unfold gW
 rw [Yj,XW,Y7,List.find?_isSome]
theorem zt (w:List (Nat×Nat)) (c m d:Nat):gW (pW w c m) d=if d=c then some m else gW w d:=by
 unfold pW
 split
 ·rename_i h
  induction w with
  | nil=>simp at h
  | cons p w ih =>
   rw [Zm]
   unfold gW
   rw [Z3,Z3]
   by_cases q:p.1=c
   ·rw [Zr (by simpa using q)]
    by_cases r:p.1=d
    ·have:(p.1 == d)=true:=by simpa using r
     simp only [this]
     rw [Zr (by rw [← r,q])]
     rfl
    ·have r':(p.1 == d)=false:=by simpa using r
     have:d ≠ c:=fun e=>r (by rw [e,q])
     simp only [r',Zp this]
     have key:∀ w:List (Nat×Nat),(w.map fun p=>if p.1 == c then (p.1,m) else p).find? (fun p=>p.1 == d)=w.find? fun p=>p.1 == d:=by
      intro w
      induction w with
      | nil=>rfl
      | cons x w ih =>
       rw [Zm,Z3,Z3,ih]
       by_cases y:x.1=c
       ·rw [Zr (by simpa using y)]
        have:(x.1 == d)=false:=by simpa using fun e=>this (by rw [← e,y])
        simp only [this]
       ·rw [Zp (by simpa using y)]
     rw [key w]
   ·rw [Zp (by simpa using q)]
    have h':(w.any fun p=>p.1 == c)=true:=by
     rw [Yg] at h
     simpa [q] using h
    have ih':=ih h'
    unfold gW at ih'
    by_cases r:p.1=d
    ·have r':(p.1 == d)=true:=by simpa using r
     simp only [r']
     rw [Zp (fun e=>q (by rw [r,e]))]
    ·have r':(p.1 == d)=false:=by simpa using r
     simp only [r']
     exact ih'
 ·rename_i h
  unfold gW
  rw [List.find?_append]
  by_cases q:d=c
  ·subst q
   have:w.find? (fun p=>p.1 == d)=none:=by
    rw [List.find?_eq_none]
    intro p hp e
    exact h (Y7.mpr ⟨p,hp,e⟩)
   rw [this,Zr rfl]
   simp
  ·rw [Zp q]
   have:((c == d)=false):=by simpa using fun e=>q e.symm
   simp [this]
theorem yY (w:List (Nat×Nat)) (c m:Nat) (nd:(w.map (·.1)).Nodup):((pW w c m).map (·.1)).Nodup:=by
 unfold pW
 split
 ·rw [Z7]
  have:((fun p:Nat×Nat=>p.1) ∘ fun p=>if (p.1 == c)=true then (p.1,m) else p)=fun p=>p.1:=by
   funext p
   simp only [Function.comp]
   split <;> rfl
  rw [this]
  exact nd
 ·rename_i h
  rw [ZA,ZY]
  refine ⟨nd,by simp,fun a ha b hb e=>?_⟩
  have hb':b=c:=by simpa using hb
  subst e hb'
  obtain ⟨p,hp,e⟩:=Yr.mp ha
  exact h (Y7.mpr ⟨p,hp,by simpa using e⟩)
theorem Bn {w:List (Nat×Nat)} {c m:Nat} {p:Nat×Nat} (h:p∈pW w c m):p.1=c\/p∈w:=by
 unfold pW at h
 split at h
 ·obtain ⟨q,hq,rfl⟩:=Yr.mp h
  by_cases r:(q.1 == c)=true
  ·rw [Zr r];exact .inl (by simpa using r)
  ·rw [Zp r];exact .inr hq
 ·rcases Zg.mp h with h | h
  ·exact .inr h
  ·rw [Zb.mp h];exact .inl rfl
theorem fN {α:Type} (l:List α) (i j:Nat) (x d:α):(l.set i x).getD j d=if i=j/\i < l.length then x else l.getD j d:=by
 rw [Zu,Zu,X1]
 by_cases h:i=j
 ·subst h
  by_cases h2:i < l.length
  ·rw [Zr rfl,Zr h2,Zr ⟨rfl,h2⟩];rfl
  ·rw [Zr rfl,Zp h2,Zp (fun z=>h2 z.2),ZC (ZK h2)]
 ·rw [Zp h,Zp (fun z=>h z.1)]
theorem bC {α:Type} (l:List α) (x d:α) (j:Nat):(l++[x]).getD j d=if j=l.length then x else l.getD j d:=by
 rw [Zu,Zu]
 by_cases h:j < l.length
 ·rw [ZI h,Zp (ZS h)]
 ·rw [Z0 (ZK h)]
  by_cases h2:j=l.length
  ·rw [Zr h2,h2,Nat.sub_self];rfl
  ·rw [Zp h2,ZC (ZK h),ZC (by simp;omega)]
theorem WF.way {S:St} (W:WF S) {n c v:Nat} (hv:v < S.lg.length) (hc:97<=c/\c<=122):WF ⟨S.lg,S.lk,S.wy.set n (pW (S.wy.getD n []) c v)⟩:=by
 refine ⟨W.lk,by rw [ZJ];exact W.wy,W.pos,W.up,fun i d m h=>?_,fun w hw=>?_,fun w hw p hp=>?_⟩
 ·show m < S.lg.length
  have h':gW ((S.wy.set n (pW (S.wy.getD n []) c v)).getD i []) d=some m:=h
  rw [fN] at h'
  split at h'
  ·rw [zt] at h'
   split at h'
   ·cases h';exact hv
   ·exact W.on n d m h'
  ·exact W.on i d m h'
 ·by_cases hn:n < S.wy.length
  ·rcases YJ hw with h | h
   ·exact W.nd w h
   ·rw [h]
    refine yY _ c v (W.nd _ ?_)
    rw [Zu,Zo hn]
    exact Z6 hn
  ·rw [List.set_eq_of_length_le (ZK hn)] at hw
   exact W.nd w hw
 ·by_cases hn:n < S.wy.length
  ·rcases YJ hw with h | h
   ·exact W.az w h p hp
   ·rw [h] at hp
    rcases Bn hp with e | e
    ·rw [e];exact hc
    ·refine W.az _ ?_ p e
     rw [Zu,Zo hn]
     exact Z6 hn
  ·rw [List.set_eq_of_length_le (ZK hn)] at hw
   exact W.az w hw p hp
theorem WF.link {S:St} (W:WF S) {n v:Nat} (hv:v < S.lg.length):WF ⟨S.lg,S.lk.set n (some v),S.wy⟩:=by
 refine ⟨by rw [ZJ];exact W.lk,W.wy,W.pos,fun i m h=>?_,W.on,W.nd,W.az⟩
 have h':(S.lk.set n (some v)).getD i none=some m:=h
 rw [fN] at h'
 split at h'
 ·cases h';exact hv
 ·exact W.up i m h'
theorem WF.more {S:St} (W:WF S) {l:Nat} {o:Option Nat} {w:List (Nat×Nat)} (ho:∀ n,o=some n->n < S.lg.length) (hw:∀ c n,gW w c=some n->n < S.lg.length) (nd:(w.map (·.1)).Nodup) (az:∀ p∈w,97<=p.1/\p.1<=122):WF ⟨S.lg++[l],S.lk++[o],S.wy++[w]⟩:=by
 have hs:∀ {n},n < S.lg.length->n < (S.lg++[l]).length:=fun h=>by rw [Zs,ZO];omega
 refine ⟨by rw [Zs,Zs,W.lk];rfl,by rw [Zs,Zs,W.wy];rfl,by rw [Zs];exact ZX W.pos (Y6 _ _),fun i n h=>?_,fun i c n h=>?_,fun x hx=>?_,fun x hx=>?_⟩
 ·have h':(S.lk++[o]).getD i none=some n:=h
  rw [bC] at h'
  split at h'
  ·exact hs (ho n h')
  ·exact hs (W.up i n h')
 ·have h':gW ((S.wy++[w]).getD i []) c=some n:=h
  rw [bC] at h'
  split at h'
  ·exact hs (hw c n h')
  ·exact hs (W.on i c n h')
 ·rcases Zg.mp hx with h | h
  ·exact W.nd x h
  ·rw [Zb.mp h];exact nd
 ·rcases Zg.mp hx with h | h
  ·exact W.az x h
  ·rw [Zb.mp h];exact az
noncomputable def up1 (c v:Nat):Nat->St->Option Nat->Option (St×Option Nat)
 | _,S,none=>some (S,none)
 | 0,_,some _=>none
 | k+1,S,some n=>if (gW (S.wy.getD n []) c).isSome then some (S,some n) else up1 c v k ⟨S.lg,S.lk,S.wy.set n (pW (S.wy.getD n []) c v)⟩ (S.lk.getD n none)
noncomputable def up2 (c old v:Nat):Nat->St->Option Nat->Option St
 | _,S,none=>some S
 | 0,_,some _=>none
 | k+1,S,some n=>if gW (S.wy.getD n []) c=some old then up2 c old v k ⟨S.lg,S.lk,S.wy.set n (pW (S.wy.getD n []) c v)⟩ (S.lk.getD n none) else some S
noncomputable def njb (S:St) (n c:Nat):Option (St×Nat):=(gW (S.wy.getD n []) c).bind fun old=>if S.lg.getD old 0=S.lg.getD n 0+1 then some (S,old) else
 (up2 c old S.lg.length 1000 ⟨S.lg++[S.lg.getD n 0+1],(S.lk++[S.lk.getD old none]).set old (some S.lg.length),S.wy++[S.wy.getD old []]⟩ (some n)).map fun S'=>(S',S.lg.length)
noncomputable def hb (S:St) (h c:Nat):Option (St×Nat):=if (gW (S.wy.getD h []) c).isSome then njb S h c else
 (up1 c S.lg.length 1000 ⟨S.lg++[S.lg.getD h 0+1],S.lk++[some 0],S.wy++[[]]⟩ (some h)).bind fun z=>match z.2 with
  | none=>some (z.1,S.lg.length)
  | some n=>(njb z.1 n c).map fun y=>(⟨y.1.lg,y.1.lk.set S.lg.length (some y.2),y.1.wy⟩,S.lg.length)
noncomputable def hg (S:St) (h:Nat):Wv->Option (St×Nat)
 | []=>some (S,h)
 | c :: r=>(hb S h c).bind fun z=>hg z.1 z.2 r
noncomputable def Sm (S:St):Prop:=S.lg.length<=100001
theorem WF.wnd {S:St} (W:WF S) (i:Nat):((S.wy.getD i []).map (·.1)).Nodup/\∀ p∈S.wy.getD i [],97<=p.1/\p.1<=122:=by
 by_cases h:i < S.wy.length
 ·have hm:S.wy.getD i []∈S.wy:=by
   rw [Zu,Zo h]
   exact Z6 h
  exact ⟨W.nd _ hm,W.az _ hm⟩
 ·rw [Zu,ZC (ZK h)]
  exact ⟨Yo,fun p hp=>nomatch hp⟩
noncomputable def S0:St:=⟨[0],[none],[[]]⟩
theorem Df:WF S0:=by
 refine ⟨rfl,rfl,by decide,fun i n h=>?_,fun i c n h=>?_,fun w hw=>?_,fun w hw p hp=>?_⟩
 ·cases i with
  | zero=>cases h
  | succ i=>cases h
 ·cases i with
  | zero=>cases h
  | succ i=>cases h
 ·rw [Zb.mp hw];exact Yo
 ·rw [Zb.mp hw] at hp;cases hp
end AU
end
section
namespace VS
theorem e2v {f:Val->Val->Wq} {a b:Ex} {η:Env} {x y z:Val} (h1:a η=some x) (h2:b η=some y) (h3:f x y=some z):e2 f a b η=some z:=by
 show (a η).bind _=_
 rw [h1,Zw,h2]
 exact h3
theorem xv {a:Ex} {r:Exs} {η:Env} {x:Val} {xs:Wr} (h1:a η=some x) (h2:r η=some xs):ab a r η=some (x :: xs):=by
 show (a η).bind _=_
 rw [h1,Zw,h2]
 rfl
theorem jC {c:Ex} {a b:Sx} {η:Env} {m:Md} (h:c η=some (m,.bl true)):sIf c a b η=a η:=by
 show (c η).bind _=_
 rw [h]
 rfl
theorem iN {c:Ex} {a b:Sx} {η:Env} {m:Md} (h:c η=some (m,.bl false)):sIf c a b η=b η:=by
 show (c η).bind _=_
 rw [h]
 rfl
theorem i9 {f:Wr->Wq} {as:Exs} {η:Env} {xs:Wr} {v:Val} (h:as η=some xs) (h2:f xs=some v):eN f as η=some v:=by
 show (as η).bind f=_
 rw [h,Zw,h2]
theorem da {e:Ex} {η:Env} {t:T} (h:e η=some (.fr,t)):fq e η=some (.rt (.fr,t) η):=by
 show (e η).bind _=_
 rw [h]
 rfl
theorem iH {a b:Sx} {η η1:Env} {v:Val} (h:a η=some (.rt v η1)):ar a b η=some (.rt v η1):=by
 show (a η).bind _=_
 rw [h]
 rfl
theorem ak {a b:Sx} {η η1:Env} (h:a η=some (.nx η1)):ar a b η=b η1:=by
 show (a η).bind _=_
 rw [h]
 rfl
theorem fQ {np nn:Nat} {b:Sx} {ts:Wp} {v:Val} {η:Env} (hl:ts.length=np) (h:b (ts.map (fun t=>some (.pu t))++List.replicate (nn - np) none)=some (.rt v η)):fn np nn b ts=some v:=by
 unfold fn
 rw [Zr hl,h]
 rfl
theorem D4 {np nn:Nat} {b:Sx} {ts:Wp} {η:Env} (hl:ts.length=np) (h:b (ts.map (fun t=>some (.pu t))++List.replicate (nn - np) none)=some (.nx η)):fn np nn b ts=some (.fr,.non):=by
 unfold fn
 rw [Zr hl,h]
 rfl
theorem p5 {a b:Ex} {η:Env} {m:Md} {x:Bool} {v:Val} (h1:a η=some (m,.bl x)) (h2:x=true->b η=some v) (h3:x=false->v=(.fr,.bl false)):eZ a b η=some v:=by
 show (a η).bind _=_
 rw [h1,Zw]
 cases x with
 | true=>exact h2 rfl
 | false=>exact congrArg some (h3 rfl).symm
theorem zC {a b:Ex} {η:Env} {m:Md} {x:Bool} {v:Val} (h1:a η=some (m,.bl x)) (h2:x=false->b η=some v) (h3:x=true->v=(.fr,.bl true)):eOr a b η=some v:=by
 show (a η).bind _=_
 rw [h1,Zw]
 cases x with
 | false=>exact h2 rfl
 | true=>exact congrArg some (h3 rfl).symm
theorem pU {a b:Ex} {η:Env} {m n:Md} {x y:Bool} (h1:a η=some (m,.bl x)) (h2:b η=some (.fr,.bl y)):eZ a b η=some (.fr,.bl (x && y)):=p5 h1 (fun e=>by rw [e];exact h2) (fun e=>by rw [e];rfl)
theorem or2 {a b:Ex} {η:Env} {m n:Md} {x y:Bool} (h1:a η=some (m,.bl x)) (h2:b η=some (.fr,.bl y)):eOr a b η=some (.fr,.bl (x || y)):=zC h1 (fun e=>by rw [e];exact h2) (fun e=>by rw [e];rfl)
theorem qF {a:Ex} {η:Env} {m:Md} {b:Bool} (h:a η=some (m,.bl b)):iY a η=some (.fr,.bl (!b)):=by
 show (a η).bind _=_
 rw [h]
 rfl
theorem yV {f g:Val->Val->Wq} {a b c:Ex} {η:Env} {x y z v:Val} (h1:a η=some x) (h2:b η=some y) (h3:f x y=some (.fr,.bl true)) (h4:c η=some z) (h5:g y z=some v):jc f g a b c η=some v:=by
 show (a η).bind _=_
 rw [h1,Zw,h2,Zw,h3,Zw]
 show (c η).bind _=_
 rw [h4]
 exact h5
theorem zI {n:Nat} {i:Int} (h0:0<=i) (h1:i < n):ixP n i=some i.toNat:=by rw [ixP,Zr h0,Zr h1]
theorem sU {n:Nat} {i:Nat} (h1:i < n):ixP n (i:Int)=some i:=by
 rw [ixP,Zr (Int.natCast_nonneg i),Zr (Int.ofNat_lt.mpr h1)]
 rfl
theorem yi {m n:Md} (l:Wu) (i:Int) (h0:0<=i) (h1:i < l.length):aN (m,.scr l) (n,.int i)=some (.fr,.int (l.getD i.toNat 0)):=by
 have b2:i.toNat < l.length:=by lia
 show (ixP l.length i).bind _=_
 rw [zI h0 h1,Zw,Zu,Zo b2]
 rfl
theorem Cj {m n:Md} (t:Tx) (i:Int) (h0:0<=i) (h1:i < t.length):aN (m,.str t) (n,.int i)=some (.fr,.str [t.getD i.toNat 0]):=by
 have b2:i.toNat < t.length:=by lia
 show (ixP t.length i).bind _=_
 rw [zI h0 h1,Zw,Zu,Zo b2]
 rfl
theorem gT {m n:Md} {a b:T} {r:Bool} (ha:eqD 60 a=true) (hb:eqD 60 b=true) (h:eqT a b=r):oEq (m,a) (n,b)=some (.fr,.bl r):=by
 show (if eqD 60 a/\eqD 60 b then some (Md.fr,T.bl (eqT a b)) else none)=_
 rw [Zr ⟨ha,hb⟩,h]
theorem Du {m n:Md} {a b:T} {r:Bool} (ha:eqD 60 a=true) (hb:eqD 60 b=true) (h:eqT a b=r):oNe (m,a) (n,b)=some (.fr,.bl (!r)):=by
 show (if eqD 60 a/\eqD 60 b then some (Md.fr,T.bl (!eqT a b)) else none)=_
 rw [Zr ⟨ha,hb⟩,h]
theorem p9 {i:Nat} {e:Ex} {η:Env} {l:Wp} {v:T} (h0:η[i]?=some (some (.ow (.lst l)))) (h1:e η=some (.fr,v)) (h2:l.length < 16777216):sX (lX i [] aD (ab e ai)) η=some (.nx (η.set i (some (.ow (.lst (l++[v])))))):=by
 have h3:ab e ai η=some [(.fr,v)]:=xv h1 rfl
 unfold sX lX
 rw [h0]
 show ((some ([]:List Ky)).bind _ |>.map _)=_
 rw [Zw,h3,Zw]
 show ((aD (.lst l) [(.fr,v)]).map _ |>.map _)=_
 rw [dH h2]
 rfl
end VS
end
section
namespace T07
open VS AU
noncomputable abbrev pc (t:T):Ws:=some (.pu t)
noncomputable abbrev oc (t:T):Ws:=some (.ow t)
noncomputable def wT' (w:List (Nat×Nat)):T:=.dct 0 (w.map fun p=>(T.str [p.1],T.int (p.2:Int)))
noncomputable def lkT:Option Nat->T
 | none=>.non
 | some n=>.int (n:Int)
noncomputable def fsT (S:St):oV:=[(1,.lst (S.lg.map fun (n:Nat)=>T.int (n:Int))),(2,.lst (S.lk.map lkT)),(3,.lst (S.wy.map wT'))]
noncomputable def obT (S:St) (b:Bool):T:=.obj 1 ((0,.bl b) :: fsT S)
theorem lJ (o:Option Nat):imm (lkT o)=true:=by cases o <;> rfl
theorem cX {α:Type} (f:α->T) (h:∀ a,eE (f a)=true):∀ l:List α,bw (l.map f)=true
 | []=>rfl
 | a :: l=>by rw [Zm,bw,h a,cX f h l];rfl
theorem t5 (w:List (Nat×Nat)):eE (wT' w)=true:=by
 show m9 (w.map fun p=>(T.str [p.1],T.int (p.2:Int)))=true
 induction w with
 | nil=>rfl
 | cons p w ih=>rw [Zm,m9,ih];rfl
theorem jt (S:St):cZ (fsT S)=true:=by
 have h1:eE (.lst (S.lg.map fun (n:Nat)=>T.int (n:Int)))=true:=cX _ (fun _=>rfl) _
 have h2:eE (.lst (S.lk.map lkT))=true:=cX _ (fun o=>jQ _ (lJ o)) _
 have h3:eE (.lst (S.wy.map wT'))=true:=cX _ t5 _
 show ((eE _ && !(1 == 0 && isT _)) && ((eE _ && !(2 == 0 && isT _)) && ((eE _ && !(3 == 0 && isT _)) && true)))=true
 rw [h1,h2,h3]
 rfl
theorem DD (S:St) (b:Bool):nI 1 (obT S b)=some (.lst (S.lg.map fun (n:Nat)=>T.int (n:Int))):=rfl
theorem Ef (S:St) (b:Bool):nI 2 (obT S b)=some (.lst (S.lk.map lkT)):=rfl
theorem EJ (S:St) (b:Bool):nI 3 (obT S b)=some (.lst (S.wy.map wT')):=rfl
theorem gk {k:Nat} {a:Ex} {η:Env} {m:Md} {t u:T} (h:a η=some (m,t)) (h2:nI k t=some u):bc k a η=some (sub m u):=by
 unfold bc
 rw [h,Zw,h2]
 rfl
theorem lq {α:Type} {m n:Md} (f:α->T) (l:List α) (i:Nat) (d:α) (h:i < l.length):aN (m,.lst (l.map f)) (n,.int (i:Int))=some (sub m (f (l.getD i d))):=by
 show (ixP (l.map f).length (i:Int)).bind _=_
 rw [Zv,sU h,Zw,ZP,Zo h,Zu,Zo h]
 rfl
section
variable {η:Env} {m n:Md} {S:St} {b:Bool} {a e:Ex} {i:Nat}
theorem oJ (h:a η=some (m,obT S b)) (he:e η=some (n,.int (i:Int))) (hi:i < S.lg.length):e2 aN (bc 1 a) e η=some (.fr,.int ((S.lg.getD i 0:Nat):Int)):=e2v (gk h (DD S b)) he (lq _ _ i 0 hi)
theorem rm (h:a η=some (m,obT S b)) (he:e η=some (n,.int (i:Int))) (hi:i < S.lk.length):e2 aN (bc 2 a) e η=some (.fr,lkT (S.lk.getD i none)):=(e2v (gk h (Ef S b)) he (lq _ _ i none hi)).trans (by
 show some (up _ _)=_
 unfold up
 rw [lJ]
 rfl)
theorem lR (h:a η=some (m,obT S b)) (he:e η=some (n,.int (i:Int))) (hi:i < S.wy.length):e2 aN (bc 3 a) e η=some (m,wT' (S.wy.getD i [])):=e2v (gk h (EJ S b)) he (lq _ _ i [] hi)
theorem B2 (h:a η=some (m,obT S b)):eN bI (ab (bc 1 a) ai) η=some (.fr,.int (S.lg.length:Nat)):=i9 (xv (gk h (DD S b)) rfl) (by
 show some (Md.fr,T.int (((S.lg.map fun (n:Nat)=>T.int (n:Int)).length:Nat):Int))=_
 rw [Zv])
end
theorem Br (a c:Nat):eqT (.str [a]) (.str [c])=(a == c):=by
 simp only [eqT]
 by_cases h:a=c
 ·simp [h]
 ·simp [h]
theorem ot (w:List (Nat×Nat)) (c:Nat):eX (w.map fun p=>(T.str [p.1],T.int (p.2:Int))) (.str [c])=(gW w c).map fun (n:Nat)=>T.int (n:Int):=by
 unfold eX gW
 rw [List.find?_map]
 have:((fun p:T×T=>eqT p.1 (.str [c])) ∘ fun p:Nat×Nat=>(T.str [p.1],T.int (p.2:Int)))=fun p:Nat×Nat=>p.1 == c:=by
  funext p
  exact Br p.1 c
 rw [this]
 cases w.find? fun p=>p.1 == c with
 | none=>rfl
 | some p=>rfl
theorem C1 (w:List (Nat×Nat)) (c m:Nat):dput (w.map fun p=>(T.str [p.1],T.int (p.2:Int))) (.str [c]) (.int (m:Int))=(pW w c m).map fun p=>(T.str [p.1],T.int (p.2:Int)):=by
 have h1:(w.map fun p=>(T.str [p.1],T.int (p.2:Int))).any (fun p=>eqT p.1 (.str [c]))=w.any fun p=>p.1 == c:=by
  rw [List.any_map]
  congr 1
  funext p
  exact Br p.1 c
 unfold dput pW
 rw [h1]
 split
 ·rw [Z7,Z7]
  apply YH
  intro p _
  simp only [Function.comp,Br]
  split <;> rfl
 ·rw [ZA]
  rfl
section
variable {η:Env} {m n k:Md} {S:St} {b:Bool} {a e ec ev:Ex} {i c v:Nat} {w:List (Nat×Nat)}
theorem EE (h:a η=some (m,wT' w)) (he:e η=some (n,.str [c])):e2 kx e a η=some (.fr,.bl (gW w c).isSome):=e2v he h (by
 show (if true=true then some (Md.fr,T.bl (eX _ _).isSome) else none)=_
 rw [Zr rfl,ot,Yj])
theorem CO (h:a η=some (m,wT' w)) (he:e η=some (n,.str [c])):e2 dn e a η=some (.fr,.bl (!(gW w c).isSome)):=e2v he h (by
 show (match (if true=true then some (Md.fr,T.bl (eX (w.map fun p=>(T.str [p.1],T.int (p.2:Int))) (.str [c])).isSome) else none) with | some (_,.bl b)=>some (Md.fr,T.bl (!b)) | _=>none)=_
 rw [Zr rfl,ot,Yj])
theorem wG (h:a η=some (m,wT' w)) (he:e η=some (n,.str [c])) (hv:gW w c=some v):e2 oIx a e η=some (.fr,.int (v:Int)):=e2v h he (by
 show (if true=true then (eX _ _).map (sub m) else none)=_
 rw [Zr rfl,ot,hv]
 rfl)
theorem Cs (h:a η=some (m,wT' w)) (he:e η=some (n,.str [c])):e2 qD a e η=some (.fr,lkT (gW w c)):=e2v h he (by
 show (if true=true then some (match eX (w.map fun p=>(T.str [p.1],T.int (p.2:Int))) (.str [c]) with | some t=>sub m t | none=>(.fr,.non)) else none)=_
 rw [Zr rfl,ot]
 cases gW w c with
 | none=>rfl
 | some v=>rfl)
theorem v7 {r:List (Ws)} (hi:i < S.wy.length) (he:e (oc (obT S b) :: r)=some (n,.int (i:Int))) (hc:ec (oc (obT S b) :: r)=some (m,.str [c])) (hv:ev (oc (obT S b) :: r)=some (k,.int (v:Int))) (hl:(S.wy.getD i []).length < 16777216) :
  du 0 [.fld 3,.ix e] ec ev (oc (obT S b) :: r)=some (.nx (oc (obT ⟨S.lg,S.lk,S.wy.set i (pW (S.wy.getD i []) c v)⟩ b) :: r)):=by
 unfold du
 rw [hv,Zw]
 show ((keys [.fld 3,.ix e] (oc (obT S b) :: r)).bind _)=_
 have hk:keys [.fld 3,.ix e] (oc (obT S b) :: r)=some [.fld 3,.at (.int (i:Int))]:=by
  show ((e _).bind _).map _=_
  rw [he]
  rfl
 rw [hk,Zw,hc,Zw]
 have hp:pm (hU (m,.str [c]) (k,.int (v:Int))) [.fld 3,.at (.int (i:Int))] (obT S b)=some (obT ⟨S.lg,S.lk,S.wy.set i (pW (S.wy.getD i []) c v)⟩ b,()):=by
  show ((pm (hU (m,.str [c]) (k,.int (v:Int))) [.at (.int (i:Int))] (.lst (S.wy.map wT'))).map _)=_
  have:pm (hU (m,.str [c]) (k,.int (v:Int))) [.at (.int (i:Int))] (.lst (S.wy.map wT'))=some (.lst ((S.wy.set i (pW (S.wy.getD i []) c v)).map wT'),()):=by
   show ((ixP (S.wy.map wT').length (i:Int)).bind _)=_
   rw [Zv,sU hi,Zw,ZP,Zo hi]
   show ((hU (m,.str [c]) (k,.int (v:Int)) (wT' S.wy[i])).map _)=_
   have e1:S.wy.getD i []=S.wy[i]:=by rw [Zu,Zo hi];rfl
   rw [e1] at hl ⊢
   show ((if true=true/\true=true/\(S.wy[i].map _).length < fu then some (T.dct 0 (dput _ _ _),()) else none).map _)=_
   rw [Zr ⟨rfl,rfl,by rw [Zv];exact hl⟩,C1,Xb]
   rfl
  rw [this]
  rfl
 rw [hp]
 rfl
theorem vA {r:List (Ws)} (hi:i < S.lk.length) (he:e (oc (obT S b) :: r)=some (n,.int (i:Int))) (hv:ev (oc (obT S b) :: r)=some (.fr,.int (v:Int))) :
  du 0 [.fld 2] e ev (oc (obT S b) :: r)=some (.nx (oc (obT ⟨S.lg,S.lk.set i (some v),S.wy⟩ b) :: r)):=by
 unfold du
 rw [hv,Zw]
 show ((keys [.fld 2] (oc (obT S b) :: r)).bind _)=_
 have hk:keys [.fld 2] (oc (obT S b) :: r)=some [.fld 2]:=rfl
 rw [hk,Zw,he,Zw]
 have hp:pm (hU (n,.int (i:Int)) (.fr,.int (v:Int))) [.fld 2] (obT S b)=some (obT ⟨S.lg,S.lk.set i (some v),S.wy⟩ b,()):=by
  show ((hU (n,.int (i:Int)) (.fr,.int (v:Int)) (.lst (S.lk.map lkT))).map _)=_
  have:hU (n,.int (i:Int)) (.fr,.int (v:Int)) (.lst (S.lk.map lkT))=some (.lst ((S.lk.set i (some v)).map lkT),()):=by
   show ((ixP (S.lk.map lkT).length (i:Int)).map _)=_
   rw [Zv,sU hi,Xb]
   rfl
  rw [this]
  rfl
 rw [hp]
 rfl
end
theorem kG {c:Ex} {body:Sx} {n:Nat} {η η':Env} {m:Md} (h1:c η=some (m,.bl true)) (h2:body η=some (.nx η')):eJ c body (n+1) η=eJ c body n η':=by
 show (c η).bind _=_
 rw [h1]
 show (if true=true then (body η).bind _ else some (.nx η))=_
 rw [Zr rfl,h2]
 rfl
theorem fE {c:Ex} {body:Sx} {n:Nat} {η:Env} {m:Md} (h1:c η=some (m,.bl false)):eJ c body (n+1) η=some (.nx η):=by
 show (c η).bind _=_
 rw [h1]
 rfl
theorem iq {mv:List Bool} {g:Mt} {as:Exs} {xs:Wr} {S S':St} {v:T} {b:Bool} {r:List (Ws)} (ha:as (oc (obT S b) :: r)=some xs) (hao:argsOk mv xs=true) (hno:bw (trees xs)=true) (hg:g (fsT S) (trees xs)=some (fsT S',v)) (hv:imm v=true) :
  aT 0 [] 0 mv g as (oc (obT S b) :: r)=some ((.fr,v),oc (obT S' b) :: r):=by
 show ((some ([]:List Ky)).bind fun ks=>(as (oc (obT S b) :: r)).bind fun xs=>(pm (gh 0 mv g xs) ks (obT S b)).map fun z=>(z.2,(oc (obT S b) :: r).set 0 (oc z.1)))=_
 rw [Zw,ha,Zw]
 show ((if 1=0+1/\cZ (fsT S)=true/\argsOk mv xs=true/\bw (trees xs)=true then (g (fsT S) (trees xs)).bind fun z=>if cZ z.1=true/\imm z.2=true then some (T.obj 1 ((0,.bl b) :: z.1),(Md.fr,z.2)) else none else none).map _)=_
 rw [Zr ⟨rfl,jt S,hao,hno⟩,hg,Zw,Zr ⟨jt S',hv⟩]
 rfl
theorem Af {e:Ex} {S:St} {b:Bool} {r:List (Ws)} {v:Nat} (h:e (oc (obT S b) :: r)=some (.fr,.int (v:Int))) (hl:S.lg.length < 16777216):sX (fY 0 [.fld 1] aD (ab e ai)) (oc (obT S b) :: r)=some (.nx (oc (obT ⟨S.lg++[v],S.lk,S.wy⟩ b) :: r)):=by
 show (((some [Ky.fld 1]).bind fun ks=>(ab e ai (oc (obT S b) :: r)).bind fun xs=>(pm (fun x=>aD x xs) ks (obT S b)).map _).map _)=_
 rw [Zw,xv (r:=ai) h rfl,Zw]
 show (((aD (.lst (S.lg.map fun (n:Nat)=>T.int (n:Int))) [(.fr,.int (v:Int))]).map _).map _ |>.map _)=_
 rw [dH (by rw [Zv];exact hl),show (S.lg.map fun (n:Nat)=>T.int (n:Int))++[.int (v:Int)]=(S.lg++[v]).map fun (n:Nat)=>T.int (n:Int) from by rw [ZA];rfl]
 rfl
theorem BX {e:Ex} {S:St} {b:Bool} {r:List (Ws)} {v:Option Nat} (h:e (oc (obT S b) :: r)=some (.fr,lkT v)) (hl:S.lk.length < 16777216):sX (fY 0 [.fld 2] aD (ab e ai)) (oc (obT S b) :: r)=some (.nx (oc (obT ⟨S.lg,S.lk++[v],S.wy⟩ b) :: r)):=by
 show (((some [Ky.fld 2]).bind fun ks=>(ab e ai (oc (obT S b) :: r)).bind fun xs=>(pm (fun x=>aD x xs) ks (obT S b)).map _).map _)=_
 rw [Zw,xv (r:=ai) h rfl,Zw]
 show (((aD (.lst (S.lk.map lkT)) [(.fr,lkT v)]).map _).map _ |>.map _)=_
 rw [dH (by rw [Zv];exact hl),show (S.lk.map lkT)++[lkT v]=(S.lk++[v]).map lkT from by rw [ZA];rfl]
 rfl
theorem Bx (o:Option Nat):up .pu (lkT o)=(.fr,lkT o):=by
 unfold up
 rw [lJ]
 rfl
theorem vQ (S:St) (l:Nat) (o:Option Nat) (w:List (Nat×Nat)) (h1:S.lg.length < 16777216) (h2:S.lk.length < 16777216) (h3:S.wy.length < 16777216):aH (fsT S) [.int (l:Int),lkT o,wT' w]=some (fsT ⟨S.lg++[l],S.lk++[o],S.wy++[w]⟩,.int (S.lg.length:Int)):=by
 have a1:=Af (S:=S) (b:=true) (r:=[pc (.int (l:Int)),pc (lkT o),oc (wT' w)]) (e:=ae 1) (v:=l) rfl h1
 have a2:=BX (S:=⟨S.lg++[l],S.lk,S.wy⟩) (b:=true) (r:=[pc (.int (l:Int)),pc (lkT o),oc (wT' w)]) (e:=ae 2) (v:=o) (congrArg some (Bx o)) h2
 have a3:j8 0 [.fld 3] 3 [oc (obT ⟨S.lg++[l],S.lk++[o],S.wy⟩ true),pc (.int (l:Int)),pc (lkT o),oc (wT' w)]=some (.nx [oc (obT ⟨S.lg++[l],S.lk++[o],S.wy++[w]⟩ true),pc (.int (l:Int)),pc (lkT o),none]):=by
  show ((aD (.lst (S.wy.map wT')) [(.fr,wT' w)]).map _ |>.map _)=_
  rw [dH (by rw [Zv];exact h3),show (S.wy.map wT')++[wT' w]=(S.wy++[w]).map wT' from by rw [ZA];rfl]
  rfl
 have a4:=da (e:=e2 iU (eN bI (ab (bc 1 (ae 0)) ai)) (eC (.int 1))) (η:=[oc (obT ⟨S.lg++[l],S.lk++[o],S.wy++[w]⟩ true),pc (.int (l:Int)),pc (lkT o),none]) (t:=.int (S.lg.length:Int)) (e2v (B2 (m:=.bo) rfl) rfl (by
  show some (Md.fr,T.int ((((S.lg++[l]).length:Nat):Int) - 1))=_
  rw [Zs,ZO,show (((S.lg.length+1:Nat)):Int) - 1=(S.lg.length:Int) by omega]))
 unfold aH mfn
 rw [Zr ⟨rfl,rfl⟩]
 have body:=(ak (b:=ar (sX (fY 0 [.fld 2] aD (ab (ae 2) ai))) (ar (j8 0 [.fld 3] 3) (fq (e2 iU (eN bI (ab (bc 1 (ae 0)) ai)) (eC (.int 1)))))) a1).trans ((ak a2).trans ((ak a3).trans a4))
 exact congrArg (fun z:Option Out=>z.bind _) body
theorem Bd {c old v:Nat} (hc:97<=c/\c<=122):∀ (k:Nat) (S S':St) (o:Option Nat),WF S->v < S.lg.length->(∀ n,o=some n->n < S.lg.length)->up2 c old v k S o=some S'->WF S'/\S'.lg=S.lg/\∃ o',∀ N,k < N->∀ z:Ws,
  eJ (eZ (fA (ae 1)) (e2 oEq (e2 qD (e2 aN (bc 3 (ae 0)) (ae 1)) (ae 2)) (ae 3))) bQ N [oc (obT S true),pc (lkT o),pc (.str [c]),pc (.int (old:Int)),z,pc (.int (v:Int))] =
   some (.nx [oc (obT S' true),pc (lkT o'),pc (.str [c]),pc (.int (old:Int)),z,pc (.int (v:Int))]):=by
 intro k
 induction k with
 | zero =>
  intro S S' o W hv ho e
  cases o with
  | none =>
   cases (show some S=some S' from e)
   refine ⟨W,rfl,none,fun N hN z=>?_⟩
   obtain ⟨N,rfl⟩:∃ M,N=M+1:=⟨N - 1,by omega⟩
   exact fE (m:=.fr) rfl
  | some n=>cases e
 | succ k ih =>
  intro S S' o W hv ho e
  cases o with
  | none =>
   cases (show some S=some S' from e)
   refine ⟨W,rfl,none,fun N hN z=>?_⟩
   obtain ⟨N,rfl⟩:∃ M,N=M+1:=⟨N - 1,by omega⟩
   exact fE (m:=.fr) rfl
  | some n =>
   have hn:=ho n rfl
   have hnw:n < S.wy.length:=by rw [W.wy];exact hn
   have cond:∀ z:Ws,eZ (fA (ae 1)) (e2 oEq (e2 qD (e2 aN (bc 3 (ae 0)) (ae 1)) (ae 2)) (ae 3)) [oc (obT S true),pc (.int (n:Int)),pc (.str [c]),pc (.int (old:Int)),z,pc (.int (v:Int))]=some (.fr,.bl (decide (gW (S.wy.getD n []) c=some old))):=fun z=>by
    refine p5 (m:=.fr) (x:=true) rfl (fun _=>?_) (fun h=>by cases h)
    refine e2v (Cs (m:=.bo) (lR (m:=.bo) (n:=.fr) rfl rfl hnw) (n:=.fr) rfl) (y:=(.fr,.int (old:Int))) rfl ?_
    cases hg:gW (S.wy.getD n []) c with
    | none=>rw [decide_eq_false (by simp)];exact gT rfl rfl rfl
    | some q =>
     refine (gT rfl rfl (show eqT (.int (q:Int)) (.int (old:Int))=decide (some q=some old) from ?_))
     simp only [eqT]
     by_cases h:q=old
     ·subst h;simp
     ·have h1:¬ (q:Int)=(old:Int):=by omega
      have h2:¬ some q=some old:=fun z=>h (Zn z)
      rw [decide_eq_false h2]
      exact ZR.mpr h1
   unfold up2 at e
   split at e
   ·rename_i hq
    have W':=W.way (n:=n) (c:=c) (v:=v) hv hc
    obtain ⟨w1,w2,o',w3⟩:=ih _ S' (S.lk.getD n none) W' hv (fun m hm=>W.up n m hm) e
    refine ⟨w1,w2,o',fun N hN z=>?_⟩
    obtain ⟨N,rfl⟩:∃ M,N=M+1:=⟨N - 1,by omega⟩
    refine (kG (m:=.fr) ((cond z).trans (by rw [decide_eq_true hq])) ?_).trans (w3 N (by omega) z)
    unfold bQ
    refine (ak (v7 (S:=S) (i:=n) (n:=.fr) (m:=.fr) (k:=.fr) (c:=c) (v:=v) hnw rfl rfl rfl (W.small n))).trans ?_
    have hlk:n < S.lk.length:=by rw [W.lk];exact hn
    exact aQ (m:=.fr) (t:=lkT (S.lk.getD n none)) (rm (S:=⟨S.lg,S.lk,S.wy.set n (pW (S.wy.getD n []) c v)⟩) (m:=.bo) (n:=.fr) rfl rfl hlk) (by decide) (by decide:1 < 6)
   ·rename_i hq
    cases e
    refine ⟨W,rfl,some n,fun N hN z=>?_⟩
    obtain ⟨N,rfl⟩:∃ M,N=M+1:=⟨N - 1,by omega⟩
    exact fE (m:=.fr) ((cond z).trans (by rw [decide_eq_false hq]))
theorem AE {c v:Nat} (hc:97<=c/\c<=122):∀ (k:Nat) (S S':St) (o o':Option Nat),WF S->v < S.lg.length->(∀ n,o=some n->n < S.lg.length)->up1 c v k S o=some (S',o')->WF S'/\S'.lg=S.lg/\(∀ n,o'=some n->n < S.lg.length)/\∀ N,k < N->∀ z:Ws,
  eJ (eZ (fA (ae 4)) (e2 dn (ae 2) (e2 aN (bc 3 (ae 0)) (ae 4)))) bS N [oc (obT S true),z,pc (.str [c]),pc (.int (v:Int)),pc (lkT o)] =
   some (.nx [oc (obT S' true),z,pc (.str [c]),pc (.int (v:Int)),pc (lkT o')]):=by
 intro k
 induction k with
 | zero =>
  intro S S' o o' W hv ho e
  cases o with
  | none =>
   cases (show some (S,none)=some (S',o') from e)
   refine ⟨W,rfl,(fun n h=>nomatch h),fun N hN z=>?_⟩
   obtain ⟨N,rfl⟩:∃ M,N=M+1:=⟨N - 1,by omega⟩
   exact fE (m:=.fr) rfl
  | some n=>cases e
 | succ k ih =>
  intro S S' o o' W hv ho e
  cases o with
  | none =>
   cases (show some (S,none)=some (S',o') from e)
   refine ⟨W,rfl,(fun n h=>nomatch h),fun N hN z=>?_⟩
   obtain ⟨N,rfl⟩:∃ M,N=M+1:=⟨N - 1,by omega⟩
   exact fE (m:=.fr) rfl
  | some n =>
   have hn:=ho n rfl
   have hnw:n < S.wy.length:=by rw [W.wy];exact hn
   have cond:∀ z:Ws,eZ (fA (ae 4)) (e2 dn (ae 2) (e2 aN (bc 3 (ae 0)) (ae 4))) [oc (obT S true),z,pc (.str [c]),pc (.int (v:Int)),pc (.int (n:Int))]=some (.fr,.bl (!(gW (S.wy.getD n []) c).isSome)):=fun z =>
    p5 (m:=.fr) (x:=true) rfl (fun _=>CO (m:=.bo) (n:=.fr) (lR (m:=.bo) (n:=.fr) rfl rfl hnw) rfl) (fun h=>by cases h)
   unfold up1 at e
   split at e
   ·rename_i hq
    cases e
    refine ⟨W,rfl,ho,fun N hN z=>?_⟩
    obtain ⟨N,rfl⟩:∃ M,N=M+1:=⟨N - 1,by omega⟩
    exact fE (m:=.fr) ((cond z).trans (by rw [hq];rfl))
   ·rename_i hq
    have W':=W.way (n:=n) (c:=c) (v:=v) hv hc
    obtain ⟨w1,w2,w4,w3⟩:=ih _ S' (S.lk.getD n none) o' W' hv (fun m hm=>W.up n m hm) e
    refine ⟨w1,w2,w4,fun N hN z=>?_⟩
    obtain ⟨N,rfl⟩:∃ M,N=M+1:=⟨N - 1,by omega⟩
    have hq':(gW (S.wy.getD n []) c).isSome=false:=by simpa using hq
    refine (kG (m:=.fr) ((cond z).trans (by rw [hq'];rfl)) ?_).trans (w3 N (by omega) z)
    unfold bS
    refine (ak (v7 (S:=S) (i:=n) (n:=.fr) (m:=.fr) (k:=.fr) (c:=c) (v:=v) hnw rfl rfl rfl (W.small n))).trans ?_
    have hlk:n < S.lk.length:=by rw [W.lk];exact hn
    exact aQ (m:=.fr) (t:=lkT (S.lk.getD n none)) (rm (S:=⟨S.lg,S.lk,S.wy.set n (pW (S.wy.getD n []) c v)⟩) (m:=.bo) (n:=.fr) rfl rfl hlk) (by decide) (by decide:4 < 5)
theorem AI (a b:Nat) {m n:Md}:oEq (m,.int (a:Int)) (n,.int (b:Int))=some (.fr,.bl (decide (a=b))):=gT rfl rfl (by
 simp only [eqT]
 by_cases h:a=b
 ·subst h;simp
 ·rw [decide_eq_false h]
  exact ZR.mpr (by omega))
theorem uS {S S':St} {n c r:Nat} (W:WF S) (hs:Sm S) (hn:n < S.lg.length) (hc:97<=c/\c<=122) (e:njb S n c=some (S',r)):WF S'/\r < S'.lg.length/\S.lg.length<=S'.lg.length/\S'.lg.length<=S.lg.length+1/\aw (fsT S) [.int (n:Int),.str [c]]=some (fsT S',.int (r:Int)):=by
 unfold njb at e
 obtain ⟨old,ho,e⟩:=Zz.mp e
 have hold:=W.on n c old ho
 have hnw:n < S.wy.length:=by rw [W.wy];exact hn
 have how:old < S.wy.length:=by rw [W.wy];exact hold
 have hok:old < S.lk.length:=by rw [W.lk];exact hold
 have hs1:S.lg.length<=100001:=hs
 unfold aw mfn
 rw [Zr ⟨rfl,rfl⟩]
 have s1:=aQ (i:=3) (m:=.fr) (e:=e2 oIx (e2 aN (bc 3 (ae 0)) (ae 1)) (ae 2)) (η:=[oc (obT S true),pc (.int (n:Int)),pc (.str [c]),none,none,none]) (wG (m:=.bo) (n:=.fr) (lR (m:=.bo) (n:=.fr) rfl rfl hnw) rfl ho) (by decide) (by decide:3 < 6)
 have s2:=aQ (i:=4) (m:=.fr) (e:=e2 cn (e2 aN (bc 1 (ae 0)) (ae 1)) (eC (.int 1))) (η:=[oc (obT S true),pc (.int (n:Int)),pc (.str [c]),pc (.int (old:Int)),none,none]) (t:=.int ((S.lg.getD n 0+1:Nat):Int)) (e2v (oJ (m:=.bo) (n:=.fr) rfl rfl hn) rfl rfl) (by decide) (by decide:4 < 6)
 have cd:e2 oEq (e2 aN (bc 1 (ae 0)) (ae 3)) (ae 4) [oc (obT S true),pc (.int (n:Int)),pc (.str [c]),pc (.int (old:Int)),pc (.int ((S.lg.getD n 0+1:Nat):Int)),none]=some (.fr,.bl (decide (S.lg.getD old 0=S.lg.getD n 0+1))):=e2v (oJ (m:=.bo) (n:=.fr) rfl rfl hold) (y:=(.fr,.int ((S.lg.getD n 0+1:Nat):Int))) rfl (AI _ _)
 split at e
 ·rename_i hq
  obtain ⟨rfl,rfl⟩:=Xl (Zn e)
  rw [decide_eq_true hq] at cd
  refine ⟨W,hold,Zk _,Nat.le_succ _,?_⟩
  have body:∀ b:Sx,ar (aM 3 (e2 oIx (e2 aN (bc 3 (ae 0)) (ae 1)) (ae 2))) (ar (aM 4 (e2 cn (e2 aN (bc 1 (ae 0)) (ae 1)) (eC (.int 1)))) (ar (sIf (e2 oEq (e2 aN (bc 1 (ae 0)) (ae 3)) (ae 4)) (g0 3) d2) b)) [oc (obT S true),pc (.int (n:Int)),pc (.str [c]),none,none,none]=some (.rt (.fr,.int (old:Int)) [oc (obT S true),pc (.int (n:Int)),pc (.str [c]),pc (.int (old:Int)),pc (.int ((S.lg.getD n 0+1:Nat):Int)),none]):=fun b =>
   (ak s1).trans ((ak s2).trans (iH ((jC cd).trans rfl)))
  exact congrArg (fun z:Option Out=>z.bind _) (body _)
 ·rename_i hq
  rw [decide_eq_false hq] at cd
  obtain ⟨S2,e2',e3⟩:=Zy.mp e
  obtain ⟨rfl,rfl⟩:=Xl e3
  have wn:=W.wnd old
  have W1:=W.more (l:=S.lg.getD n 0+1) (o:=S.lk.getD old none) (w:=S.wy.getD old []) (fun m hm=>W.up old m hm) (fun d m hm=>W.on old d m hm) wn.1 wn.2
  have hlen:(S.lg++[S.lg.getD n 0+1]).length=S.lg.length+1:=by rw [Zs];rfl
  have W2:=W1.link (n:=old) (v:=S.lg.length) (by show S.lg.length < (S.lg++[S.lg.getD n 0+1]).length;omega)
  obtain ⟨w1,w2,o',w3⟩:=Bd hc 1000 _ S2 (some n) W2 (by show S.lg.length < (S.lg++[S.lg.getD n 0+1]).length;omega) (fun m hm=>by cases hm;show n < (S.lg++[S.lg.getD n 0+1]).length;omega) e2'
  have w2':S2.lg.length=S.lg.length+1:=by rw [w2];exact hlen
  refine ⟨w1,by omega,by omega,by omega,?_⟩
  have nw:=vQ S (S.lg.getD n 0+1) (S.lk.getD old none) (S.wy.getD old []) (by omega) (by rw [W.lk];omega) (by rw [W.wy];omega)
  have args:ab (ae 4) (ab (e2 aN (bc 2 (ae 0)) (ae 3)) (ab (eN iV (ab (e2 aN (bc 3 (ae 0)) (ae 3)) ai)) ai)) [oc (obT S true),pc (.int (n:Int)),pc (.str [c]),pc (.int (old:Int)),pc (.int ((S.lg.getD n 0+1:Nat):Int)),none]=some [(.fr,.int ((S.lg.getD n 0+1:Nat):Int)),(.fr,lkT (S.lk.getD old none)),(.fr,wT' (S.wy.getD old []))] :=
   xv rfl (xv (rm (m:=.bo) (n:=.fr) rfl rfl hok) (xv (i9 (xv (lR (m:=.bo) (n:=.fr) rfl rfl how) rfl) (by
    show (if fj (((S.wy.getD old []).map fun p=>(T.str [p.1],T.int (p.2:Int))).map (·.2))=true then some (Md.fr,wT' (S.wy.getD old [])) else none)=_
    rw [Zr (by rw [Z7];exact oW _ (fun _=>rfl) _)])) rfl))
  have ao:argsOk [false,false,true] [(.fr,.int ((S.lg.getD n 0+1:Nat):Int)),(.fr,lkT (S.lk.getD old none)),(.fr,wT' (S.wy.getD old []))]=true:=by
   show (true && (imm (lkT (S.lk.getD old none)) && true))=true
   rw [lJ]
   rfl
  have an:bw (trees [(Md.fr,T.int ((S.lg.getD n 0+1:Nat):Int)),(.fr,lkT (S.lk.getD old none)),(.fr,wT' (S.wy.getD old []))])=true:=by
   show (true && (eE (lkT (S.lk.getD old none)) && (eE (wT' (S.wy.getD old [])) && true)))=true
   rw [jQ _ (lJ _),t5]
   rfl
  have cm:=iq (b:=true) args ao an nw rfl
  have s3:gf 5 (aT 0 [] 0 [false,false,true] aH (ab (ae 4) (ab (e2 aN (bc 2 (ae 0)) (ae 3)) (ab (eN iV (ab (e2 aN (bc 3 (ae 0)) (ae 3)) ai)) ai)))) [oc (obT S true),pc (.int (n:Int)),pc (.str [c]),pc (.int (old:Int)),pc (.int ((S.lg.getD n 0+1:Nat):Int)),none]=some (.nx [oc (obT ⟨S.lg++[S.lg.getD n 0+1],S.lk++[S.lk.getD old none],S.wy++[S.wy.getD old []]⟩ true),pc (.int (n:Int)),pc (.str [c]),pc (.int (old:Int)),pc (.int ((S.lg.getD n 0+1:Nat):Int)),pc (.int (S.lg.length:Int))]):=by
   unfold gf
   rw [cm]
   rfl
  have s4:=vA (S:=⟨S.lg++[S.lg.getD n 0+1],S.lk++[S.lk.getD old none],S.wy++[S.wy.getD old []]⟩) (b:=true) (r:=[pc (.int (n:Int)),pc (.str [c]),pc (.int (old:Int)),pc (.int ((S.lg.getD n 0+1:Nat):Int)),pc (.int (S.lg.length:Int))]) (i:=old) (v:=S.lg.length) (n:=.fr) (e:=ae 3) (ev:=ae 5) (by show old < (S.lk++[S.lk.getD old none]).length;rw [Zs];omega) rfl rfl
  have s5:=w3 sE (by decide) (pc (.int ((S.lg.getD n 0+1:Nat):Int)))
  exact congrArg (fun z:Option Out=>z.bind _) ((ak s1).trans ((ak s2).trans ((ak ((iN cd).trans rfl)).trans ((ak s3).trans ((ak s4).trans ((ak s5).trans rfl))))))
theorem Dk {S S':St} {h c r:Nat} (W:WF S) (hs1:S.lg.length<=100000) (hh:h < S.lg.length) (hc:97<=c/\c<=122) (e:hb S h c=some (S',r)):WF S'/\r < S'.lg.length/\S.lg.length<=S'.lg.length/\S'.lg.length<=S.lg.length+2/\bN (fsT S) [.int (h:Int),.str [c]]=some (fsT S',.int (r:Int)):=by
 have hw:h < S.wy.length:=by rw [W.wy];exact hh
 unfold hb at e
 unfold bN mfn
 rw [Zr ⟨rfl,rfl⟩]
 have cd:e2 kx (ae 2) (e2 aN (bc 3 (ae 0)) (ae 1)) [oc (obT S true),pc (.int (h:Int)),pc (.str [c]),none,none]=some (.fr,.bl (gW (S.wy.getD h []) c).isSome):=EE (m:=.bo) (n:=.fr) (lR (m:=.bo) (n:=.fr) rfl rfl hw) rfl
 split at e
 ·rename_i hq
  rw [hq] at cd
  obtain ⟨w1,w2,w3,w4,w5⟩:=uS W (Nat.le_succ_of_le hs1) hh hc e
  refine ⟨w1,w2,w3,by omega,?_⟩
  have cm:=iq (mv:=[false,false]) (as:=ab (ae 1) (ab (ae 2) ai)) (xs:=[(.fr,.int (h:Int)),(.fr,.str [c])]) (b:=true) (r:=[pc (.int (h:Int)),pc (.str [c]),none,none]) rfl rfl rfl w5 rfl
  have s1:iS (aT 0 [] 0 [false,false] aw (ab (ae 1) (ab (ae 2) ai))) [oc (obT S true),pc (.int (h:Int)),pc (.str [c]),none,none]=some (.rt (.fr,.int (r:Int)) [oc (obT S' true),pc (.int (h:Int)),pc (.str [c]),none,none]):=by
   unfold iS
   rw [cm]
   rfl
  exact congrArg (fun z:Option Out=>z.bind _) (iH ((jC cd).trans s1))
 ·rename_i hq
  have hq':(gW (S.wy.getD h []) c).isSome=false:=by simpa using hq
  rw [hq'] at cd
  obtain ⟨⟨S2,o⟩,e1,e2'⟩:=Zz.mp e
  have W1:=W.more (l:=S.lg.getD h 0+1) (o:=some 0) (w:=[]) (fun m hm=>by cases hm;exact W.pos) (fun d m hm=>by cases hm) Yo (fun p hp=>nomatch hp)
  have hlen:(S.lg++[S.lg.getD h 0+1]).length=S.lg.length+1:=by rw [Zs];rfl
  obtain ⟨w1,w2,w3,w4⟩:=AE hc 1000 _ S2 (some h) o W1 (by show S.lg.length < (S.lg++[S.lg.getD h 0+1]).length;omega) (fun m hm=>by cases hm;show h < (S.lg++[S.lg.getD h 0+1]).length;omega) e1
  have w2':S2.lg.length=S.lg.length+1:=by rw [w2];exact hlen
  have nw:=vQ S (S.lg.getD h 0+1) (some 0) [] (by omega) (by rw [W.lk];omega) (by rw [W.wy];omega)
  have args:ab (e2 cn (e2 aN (bc 1 (ae 0)) (ae 1)) (eC (.int 1))) (ab (eC (.int 0)) (ab (mG 0 []) ai)) [oc (obT S true),pc (.int (h:Int)),pc (.str [c]),none,none]=some [(.fr,.int ((S.lg.getD h 0+1:Nat):Int)),(.fr,.int 0),(.fr,.dct 0 [])] :=
   xv (e2v (oJ (m:=.bo) (n:=.fr) rfl rfl hh) rfl rfl) (xv rfl (xv rfl rfl))
  have cm:=iq (mv:=[false,false,true]) (b:=true) args rfl rfl nw rfl
  have s1:gf 3 (aT 0 [] 0 [false,false,true] aH (ab (e2 cn (e2 aN (bc 1 (ae 0)) (ae 1)) (eC (.int 1))) (ab (eC (.int 0)) (ab (mG 0 []) ai)))) [oc (obT S true),pc (.int (h:Int)),pc (.str [c]),none,none]=some (.nx [oc (obT ⟨S.lg++[S.lg.getD h 0+1],S.lk++[some 0],S.wy++[[]]⟩ true),pc (.int (h:Int)),pc (.str [c]),pc (.int (S.lg.length:Int)),none]):=by
   unfold gf
   rw [cm]
   rfl
  have s2:=w4 sE (by decide) (pc (.int (h:Int)))
  have hd:∀ b:Sx,ar (sIf (e2 kx (ae 2) (e2 aN (bc 3 (ae 0)) (ae 1))) (iS (aT 0 [] 0 [false,false] aw (ab (ae 1) (ab (ae 2) ai)))) d2)
    (ar (gf 3 (aT 0 [] 0 [false,false,true] aH (ab (e2 cn (e2 aN (bc 1 (ae 0)) (ae 1)) (eC (.int 1))) (ab (eC (.int 0)) (ab (mG 0 []) ai)))))
    (ar (aM 4 (ae 1)) (ar (ja (eZ (fA (ae 4)) (e2 dn (ae 2) (e2 aN (bc 3 (ae 0)) (ae 4)))) bS) b))) [oc (obT S true),pc (.int (h:Int)),pc (.str [c]),none,none] =
    b [oc (obT S2 true),pc (.int (h:Int)),pc (.str [c]),pc (.int (S.lg.length:Int)),pc (lkT o)]:=fun b =>
   (ak ((iN cd).trans rfl)).trans ((ak s1).trans ((ak rfl).trans (ak s2)))
  cases o with
  | none =>
   obtain ⟨rfl,rfl⟩:=Xl (Zn e2')
   have fin:ar (sIf (fA (ae 4)) (gR 0 [.fld 2] (ae 3) (aT 0 [] 0 [false,false] aw (ab (ae 4) (ab (ae 2) ai)))) d2) (g0 3) [oc (obT S2 true),pc (.int (h:Int)),pc (.str [c]),pc (.int (S.lg.length:Int)),pc (lkT none)] =
     some (.rt (.fr,.int (S.lg.length:Int)) [oc (obT S2 true),pc (.int (h:Int)),pc (.str [c]),pc (.int (S.lg.length:Int)),pc (lkT none)]):=(ak ((iN (m:=.fr) rfl).trans rfl)).trans rfl
   refine ⟨w1,by show S.lg.length < S2.lg.length;omega,by show S.lg.length<=S2.lg.length;omega,by show S2.lg.length<=_;omega,?_⟩
   exact congrArg (fun z:Option Out=>z.bind _) ((hd _).trans fin)
  | some n =>
   obtain ⟨⟨S3,m⟩,e3,e4⟩:=Zy.mp e2'
   obtain ⟨rfl,rfl⟩:=Xl e4
   have hn:n < S2.lg.length:=by
    have:=w3 n rfl
    rw [w2]
    exact this
   obtain ⟨v1,v2,v3,v4,v5⟩:=uS w1 (by show S2.lg.length<=100001;omega) hn hc e3
   have v6:=v1.link (n:=S.lg.length) (v:=m) v2
   have cm:=iq (mv:=[false,false]) (as:=ab (ae 4) (ab (ae 2) ai)) (xs:=[(.fr,.int (n:Int)),(.fr,.str [c])]) (b:=true) (r:=[pc (.int (h:Int)),pc (.str [c]),pc (.int (S.lg.length:Int)),pc (.int (n:Int))]) rfl rfl rfl v5 rfl
   have pl:=vA (S:=S3) (b:=true) (r:=[pc (.int (h:Int)),pc (.str [c]),pc (.int (S.lg.length:Int)),pc (.int (n:Int))]) (i:=S.lg.length) (v:=m) (n:=.fr) (e:=ae 3) (ev:=fun _=>some (.fr,.int (m:Int))) (by rw [v1.lk];omega) rfl rfl
   have s3:gR 0 [.fld 2] (ae 3) (aT 0 [] 0 [false,false] aw (ab (ae 4) (ab (ae 2) ai))) [oc (obT S2 true),pc (.int (h:Int)),pc (.str [c]),pc (.int (S.lg.length:Int)),pc (.int (n:Int))]=some (.nx [oc (obT ⟨S3.lg,S3.lk.set S.lg.length (some m),S3.wy⟩ true),pc (.int (h:Int)),pc (.str [c]),pc (.int (S.lg.length:Int)),pc (.int (n:Int))]):=by
    unfold gR
    rw [cm]
    exact pl
   have fin:ar (sIf (fA (ae 4)) (gR 0 [.fld 2] (ae 3) (aT 0 [] 0 [false,false] aw (ab (ae 4) (ab (ae 2) ai)))) d2) (g0 3) [oc (obT S2 true),pc (.int (h:Int)),pc (.str [c]),pc (.int (S.lg.length:Int)),pc (.int (n:Int))] =
     some (.rt (.fr,.int (S.lg.length:Int)) [oc (obT ⟨S3.lg,S3.lk.set S.lg.length (some m),S3.wy⟩ true),pc (.int (h:Int)),pc (.str [c]),pc (.int (S.lg.length:Int)),pc (.int (n:Int))]):=(ak ((jC (m:=.fr) rfl).trans s3)).trans rfl
   refine ⟨v6,by show S.lg.length < S3.lg.length;omega,by show S.lg.length<=S3.lg.length;omega,by show S3.lg.length<=_;omega,?_⟩
   exact congrArg (fun z:Option Out=>z.bind _) ((hd _).trans fin)
theorem ud {S S':St}:∀ {word:Wv} {h r:Nat},WF S->S.lg.length+2 * word.length<=100000->h < S.lg.length->(∀ c∈word,97<=c/\c<=122)->hg S h word=some (S',r) →
  WF S'/\r < S'.lg.length/\S'.lg.length<=S.lg.length+2 * word.length/\∀ z3:Ws,∀ z2:T,∃ z3',forL (cY 3) cf (word.map fun c=>T.str [c]) [oc (obT S true),pc (.int (h:Int)),pc z2,z3]=some (.nx [oc (obT S' true),pc (.int (r:Int)),pc z2,z3'])
 | [],h,r,W,hl,hh,hc,e=>by
  obtain ⟨rfl,rfl⟩:=Xl (Zn e)
  exact ⟨W,hh,by simp,fun z3 z2=>⟨z3,rfl⟩⟩
 | c :: word,h,r,W,hl,hh,hc,e=>by
  obtain ⟨⟨S1,h1⟩,e1,e2'⟩:=Zz.mp e
  rw [Za] at hl
  obtain ⟨w1,w2,w3,w4,w5⟩:=Dk W (by omega) hh (hc c Zt) e1
  obtain ⟨v1,v2,v3,v4⟩:=ud (S:=S1) (S':=S') (word:=word) w1 (by omega) w2 (fun d hd=>hc d (Zx _ hd)) e2'
  refine ⟨v1,v2,by rw [Za];omega,fun z3 z2=>?_⟩
  obtain ⟨z3',q⟩:=v4 (pc (.str [c])) z2
  refine ⟨z3',?_⟩
  rw [Zm]
  refine (ji (η1:=[oc (obT S true),pc (.int (h:Int)),pc z2,pc (.str [c])]) rfl ?_).trans q
  have cm:=iq (mv:=[false,false]) (as:=ab (ae 1) (ab (ae 3) ai)) (xs:=[(.fr,.int (h:Int)),(.fr,.str [c])]) (b:=true) (r:=[pc (.int (h:Int)),pc z2,pc (.str [c])]) rfl rfl rfl w5 rfl
  unfold cf gf
  rw [cm]
  rfl
theorem DB {S S':St} {word:Tx} {h r:Nat} (W:WF S) (hl:S.lg.length+2 * word.length<=100000) (hh:h < S.lg.length) (hc:∀ c∈word,97<=c/\c<=122) (e:hg S h word=some (S',r)) :
  WF S'/\r < S'.lg.length/\S'.lg.length<=S.lg.length+2 * word.length/\aU (fsT S) [.int (h:Int),.str word]=some (fsT S',.int (r:Int)):=by
 obtain ⟨w1,w2,w3,w4⟩:=ud W hl hh hc e
 obtain ⟨z3,q⟩:=w4 none (.str word)
 refine ⟨w1,w2,w3,?_⟩
 unfold aU mfn
 rw [Zr ⟨rfl,rfl⟩]
 have s1:=(iI (tg:=cY 3) (it:=iL (ae 2)) (body:=cf) (η:=[oc (obT S true),pc (.int (h:Int)),pc (.str word),none]) (m:=.fr) (l:=word.map fun c=>T.str [c]) rfl rfl).trans q
 exact congrArg (fun z:Option Out=>z.bind _) ((ak s1).trans rfl)
end T07
end
section
namespace AU
noncomputable abbrev Wd:=Wv
noncomputable abbrev W (wd:List Wd) (n:Nat):Wd:=wd.getD n []
structure I (fr:Option Nat) (S:St) (nd:Wd->Option Nat) (wd:List Wd):Prop where
 wf:WF S
 len:wd.length=S.lg.length
 lg:∀ n,n < wd.length->S.lg.getD n 0=(W wd n).length
 z:nd []=some 0
 wz:W wd 0=[]
 lt:∀ {x n},nd x=some n->n < wd.length
 sf:∀ {x n},nd x=some n->x <:+ W wd n
 top:∀ {n},n < wd.length->nd (W wd n)=some n
 iv:∀ {x y n},nd x=some n->x <:+ y->y <:+ W wd n->nd y=some n
 pre:∀ {x c n},nd (x++[c])=some n->∃ m,nd x=some m
 suf:∀ {x y n},nd y=some n->x <:+ y->∃ m,nd x=some m
 lk0:S.lk.getD 0 none=none
 lk:∀ {n},0 < n->n < wd.length->some n ≠ fr->∃ m,S.lk.getD n none=some m/\(m < wd.length/\some m ≠ fr)/\W wd m <:+ W wd n/\(W wd m).length < (W wd n).length/\∀ y,y <:+ W wd n->(W wd m).length < y.length->nd y=some n
 wy:∀ {x n},nd x=some n->∀ c,gW (S.wy.getD n []) c=nd (x++[c])
theorem cU {α:Type} {x y w:List α} (h1:x <:+ w) (h2:y <:+ w) (hl:x.length<=y.length):x <:+ y:=List.suffix_of_suffix_length_le h1 h2 hl
section
variable {fr:Option Nat} {S:St} {nd:Wd->Option Nat} {wd:List Wd}
theorem I.up (H:I fr S nd wd):∀ (k n:Nat) (x:Wd),(W wd n).length<=k->n < wd.length->some n ≠ fr->x <:+ W wd n->∃ m,nd x=some m/\W wd m <:+ W wd n:=by
 intro k
 induction k with
 | zero =>
  intro n x hk hn hf hx
  have e:W wd n=[]:=Xf.mp (Nat.le_zero.mp hk)
  rw [e] at hx
  have:x=[]:=YR.mp hx
  subst this
  exact ⟨0,H.z,by rw [H.wz];exact Xw⟩
 | succ k ih =>
  intro n x hk hn hf hx
  by_cases h0:n=0
  ·subst h0
   rw [H.wz] at hx
   have:x=[]:=YR.mp hx
   subst this
   exact ⟨0,H.z,Z4 _⟩
  ·obtain ⟨m,h1,⟨h2,h2'⟩,h3,h4,h5⟩:=H.lk (YU h0) hn hf
   by_cases hl:(W wd m).length < x.length
   ·exact ⟨n,h5 x hx hl,Z4 _⟩
   ·obtain ⟨q,q1,q2⟩:=ih m x (by omega) h2 h2' (cU hx h3 (by omega))
    exact ⟨q,q1,q2.trans h3⟩
theorem I.up' (H:I fr S nd wd) {n:Nat} {x:Wd} (hn:n < wd.length) (hf:some n ≠ fr) (hx:x <:+ W wd n):∃ m,nd x=some m/\W wd m <:+ W wd n:=H.up _ n x (Zk _) hn hf hx
theorem I.all (H:I fr S nd wd) {n q:Nat} {x y:Wd} (hq:q < wd.length) (hf:some q ≠ fr) (hx:nd x=some n) (hy:nd y=some n) (h:x <:+ W wd q):y <:+ W wd q:=by
 obtain ⟨m,h1,h2⟩:=H.up' hq hf h
 rw [hx] at h1
 cases h1
 exact (H.sf hy).trans h2
theorem I.inj (H:I fr S nd wd) {m n:Nat} (hm:m < wd.length) (hn:n < wd.length) (h:W wd m=W wd n):m=n:=by
 have:=H.top hm
 rw [h,H.top hn] at this
 exact (Zn this).symm
theorem I.way (H:I fr S nd wd) {n c old:Nat} (hn:n < wd.length) (h:gW (S.wy.getD n []) c=some old):nd (W wd n++[c])=some old:=by
 rw [← H.wy (H.top hn) c]
 exact h
theorem I.zero (H:I fr S nd wd) {x:Wd} (h:nd x=some 0):x=[]:=by
 have:=H.sf h
 rw [H.wz] at this
 exact YR.mp this
theorem I.low (H:I fr S nd wd) {n m:Nat} {y:Wd} (hf:some n ≠ fr) (hl:S.lk.getD n none=some m) (hy:nd y=some n):(W wd m).length < y.length/\m < wd.length/\W wd m <:+ W wd n/\some m ≠ fr:=by
 have hn:=H.lt hy
 by_cases h0:n=0
 ·subst h0;rw [H.lk0] at hl;cases hl
 ·obtain ⟨m',h1,⟨h2,h2'⟩,h3,h4,h5⟩:=H.lk (YU h0) hn hf
  rw [h1] at hl
  cases hl
  refine ⟨X7 fun hle=>?_,h2,h3,h2'⟩
  have:=H.iv hy (cU (H.sf hy) h3 hle) h3
  rw [H.top h2] at this
  cases this
  exact Yp _ h4
theorem I.below (H:I fr S nd wd) {n q m:Nat} (hn:n < wd.length) (hf:some n ≠ fr) (hl:S.lk.getD n none=some q) (hm:m < wd.length) (hs:W wd m <:+ W wd n) (hne:m ≠ n):W wd m <:+ W wd q:=by
 by_cases h0:n=0
 ·subst h0;rw [H.lk0] at hl;cases hl
 ·obtain ⟨q',h1,⟨h2,_⟩,h3,h4,h5⟩:=H.lk (YU h0) hn hf
  rw [h1] at hl
  cases hl
  refine cU hs h3 (ZK fun hlt=>hne ?_)
  have:=h5 _ hs hlt
  rw [H.top hm] at this
  exact Zn this
theorem I.root (H:I fr S nd wd) {n m:Nat} (hn:n < wd.length) (hf:some n ≠ fr) (hl:S.lk.getD n none=none) (hm:m < wd.length) (hs:W wd m <:+ W wd n):m=n:=by
 have h0:n=0:=Nat.eq_zero_of_not_pos fun hp=>by
  obtain ⟨q,h1,_⟩:=H.lk hp hn hf
  rw [h1] at hl
  cases hl
 subst h0
 rw [H.wz] at hs
 exact H.inj hm hn (by rw [H.wz,YR.mp hs])
theorem fX (wy:List (List (Nat×Nat))) (n m c v d:Nat) (hn:n < wy.length):gW ((wy.set n (pW (wy.getD n []) c v)).getD m []) d=if m=n/\d=c then some v else gW (wy.getD m []) d:=by
 rw [fN]
 by_cases h:n=m
 ·subst h
  rw [Zr ⟨rfl,hn⟩,zt]
  by_cases hd:d=c
  ·rw [Zr hd,Zr ⟨rfl,hd⟩]
  ·rw [Zp hd,Zp (fun z=>hd z.2)]
 ·rw [Zp (fun z=>h z.1),Zp (fun z=>h z.1.symm)]
theorem I.climb2 (H:I fr S nd wd) {c old v:Nat}:∀ (k:Nat) (T:St) (n:Nat),n < wd.length->some n ≠ fr->(W wd n).length < k->(∀ m,m < wd.length->W wd m <:+ W wd n->T.lk.getD m none=S.lk.getD m none)->wd.length<=T.wy.length →
  (∀ m m',m < wd.length->m' < wd.length->W wd m <:+ W wd m'->W wd m' <:+ W wd n->gW (T.wy.getD m []) c=some old->gW (T.wy.getD m' []) c=some old) →
  ∃ wy',up2 c old v k T (some n)=some ⟨T.lg,T.lk,wy'⟩/\wy'.length=T.wy.length/\∀ m d,gW (wy'.getD m []) d=if d=c/\m < wd.length/\W wd m <:+ W wd n/\gW (T.wy.getD m []) c=some old then some v else gW (T.wy.getD m []) d:=by
 intro k
 induction k with
 | zero=>intro T n _ _ h;omega
 | succ k ih =>
  intro T n hn hf hk hlk hw mono
  have hnw:n < T.wy.length:=ZX hn hw
  unfold up2
  by_cases hq:gW (T.wy.getD n []) c=some old
  ·rw [Zr hq,hlk n hn (Z4 _)]
   cases hl:S.lk.getD n none with
   | none =>
    refine ⟨T.wy.set n (pW (T.wy.getD n []) c v),by cases k <;> rfl,ZJ,fun m d=>?_⟩
    rw [fX _ _ _ _ _ _ hnw]
    by_cases hm:m=n/\d=c
    ·rw [Zr hm,Zr ⟨hm.2,by rw [hm.1];exact hn,by rw [hm.1];exact Z4 _,by rw [hm.1];exact hq⟩]
    ·rw [Zp hm,Zp fun z=>hm ⟨H.root hn hf hl z.2.1 z.2.2.1,z.1⟩]
   | some q =>
    obtain ⟨l1,l2,l3,l4⟩:=H.low hf hl (H.top hn)
    have ne:∀ m,W wd m <:+ W wd q->m ≠ n:=fun m hm e=>by
     rw [e] at hm
     have:=hm.length_le
     omega
    obtain ⟨wy',e1,e2,e3⟩:=ih ⟨T.lg,T.lk,T.wy.set n (pW (T.wy.getD n []) c v)⟩ q l2 l4 (by omega) (fun m hm hs=>hlk m hm (hs.trans l3)) (by show _<=(T.wy.set _ _).length;rw [ZJ];exact hw) (fun m m' hm hm' hs hs' h=>by
     have h':gW ((T.wy.set n (pW (T.wy.getD n []) c v)).getD m []) c=some old:=h
     show gW ((T.wy.set n (pW (T.wy.getD n []) c v)).getD m' []) c=some old
     rw [fX _ _ _ _ _ _ hnw,Zp (fun z=>ne m (hs.trans hs') z.1)] at h'
     rw [fX _ _ _ _ _ _ hnw,Zp (fun z=>ne m' hs' z.1)]
     exact mono m m' hm hm' hs (hs'.trans l3) h')
    refine ⟨wy',e1,by rw [e2];exact ZJ,fun m d=>?_⟩
    rw [e3 m d]
    show (if d=c/\m < wd.length/\W wd m <:+ W wd q/\gW ((T.wy.set n (pW (T.wy.getD n []) c v)).getD m []) c=some old then some v else gW ((T.wy.set n (pW (T.wy.getD n []) c v)).getD m []) d)=_
    by_cases hm:m=n
    ·subst hm
     rw [Zp (fun z=>ne m z.2.2.1 rfl),fX _ _ _ _ _ _ hnw]
     by_cases hd:d=c
     ·rw [Zr ⟨rfl,hd⟩,Zr ⟨hd,hn,Z4 _,hq⟩]
     ·rw [Zp (fun z=>hd z.2),Zp (fun z=>hd z.1)]
    ·have g1:∀ d,gW ((T.wy.set n (pW (T.wy.getD n []) c v)).getD m []) d=gW (T.wy.getD m []) d:=fun d=>by rw [fX _ _ _ _ _ _ hnw,Zp (fun z=>hm z.1)]
     rw [g1,g1]
     by_cases hc:d=c/\m < wd.length/\W wd m <:+ W wd n/\gW (T.wy.getD m []) c=some old
     ·rw [Zr hc,Zr ⟨hc.1,hc.2.1,H.below hn hf hl hc.2.1 hc.2.2.1 hm,hc.2.2.2⟩]
     ·rw [Zp hc,Zp fun z=>hc ⟨z.1,z.2.1,z.2.2.1.trans l3,z.2.2.2⟩]
  ·rw [Zp hq]
   refine ⟨T.wy,rfl,rfl,fun m d=>?_⟩
   rw [Zp fun z=>hq (mono m n z.2.1 hn z.2.2.1 (Z4 _) z.2.2.2)]
theorem I.climb1 (H:I fr S nd wd) {c v:Nat}:∀ (k:Nat) (T:St) (n:Nat),n < wd.length->some n ≠ fr->(W wd n).length < k->(∀ m,m < wd.length->W wd m <:+ W wd n->T.lk.getD m none=S.lk.getD m none)->wd.length<=T.wy.length →
  (∀ m m',m < wd.length->m' < wd.length->W wd m <:+ W wd m'->W wd m' <:+ W wd n->(gW (T.wy.getD m' []) c).isSome->(gW (T.wy.getD m []) c).isSome) →
  ∃ wy' o',up1 c v k T (some n)=some (⟨T.lg,T.lk,wy'⟩,o')/\wy'.length=T.wy.length/\(∀ m d,gW (wy'.getD m []) d=if d=c/\m < wd.length/\W wd m <:+ W wd n/\gW (T.wy.getD m []) c=none then some v else gW (T.wy.getD m []) d) ∧
   (o'=none->∀ m,m < wd.length->W wd m <:+ W wd n->gW (T.wy.getD m []) c=none) ∧
   ∀ p,o'=some p->p < wd.length/\W wd p <:+ W wd n/\(gW (T.wy.getD p []) c).isSome/\∀ m,m < wd.length->W wd m <:+ W wd n->(W wd p).length < (W wd m).length->gW (T.wy.getD m []) c=none:=by
 intro k
 induction k with
 | zero=>intro T n _ _ h;omega
 | succ k ih =>
  intro T n hn hf hk hlk hw mono
  have hnw:n < T.wy.length:=ZX hn hw
  unfold up1
  by_cases hq:(gW (T.wy.getD n []) c).isSome=true
  ·rw [Zr hq]
   refine ⟨T.wy,some n,rfl,rfl,fun m d=>?_,(fun h=>nomatch h),fun p hp=>?_⟩
   ·rw [Zp fun z=>?_]
    have:=mono m n z.2.1 hn z.2.2.1 (Z4 _) hq
    rw [z.2.2.2] at this
    cases this
   ·cases hp
    refine ⟨hn,Z4 _,hq,fun m hm hs hl=>?_⟩
    have:=hs.length_le
    omega
  ·have hq':gW (T.wy.getD n []) c=none:=by
    cases h:gW (T.wy.getD n []) c with
    | none=>rfl
    | some x=>rw [h] at hq;exact absurd rfl hq
   rw [Zp hq,hlk n hn (Z4 _)]
   cases hl:S.lk.getD n none with
   | none =>
    refine ⟨T.wy.set n (pW (T.wy.getD n []) c v),none,by cases k <;> rfl,ZJ,fun m d=>?_,fun _ m hm hs=>?_,(fun p hp=>nomatch hp)⟩
    ·rw [fX _ _ _ _ _ _ hnw]
     by_cases hm:m=n/\d=c
     ·rw [Zr hm,Zr ⟨hm.2,by rw [hm.1];exact hn,by rw [hm.1];exact Z4 _,by rw [hm.1];exact hq'⟩]
     ·rw [Zp hm,Zp fun z=>hm ⟨H.root hn hf hl z.2.1 z.2.2.1,z.1⟩]
    ·rw [H.root hn hf hl hm hs];exact hq'
   | some q =>
    obtain ⟨l1,l2,l3,l4⟩:=H.low hf hl (H.top hn)
    have ne:∀ m,W wd m <:+ W wd q->m ≠ n:=fun m hm e=>by
     rw [e] at hm
     have:=hm.length_le
     omega
    obtain ⟨wy',o',e1,e2,e3,e4,e5⟩:=ih ⟨T.lg,T.lk,T.wy.set n (pW (T.wy.getD n []) c v)⟩ q l2 l4 (by omega) (fun m hm hs=>hlk m hm (hs.trans l3)) (by show _<=(T.wy.set _ _).length;rw [ZJ];exact hw) (fun m m' hm hm' hs hs' h=>by
     have h':(gW ((T.wy.set n (pW (T.wy.getD n []) c v)).getD m' []) c).isSome:=h
     show (gW ((T.wy.set n (pW (T.wy.getD n []) c v)).getD m []) c).isSome
     rw [fX _ _ _ _ _ _ hnw,Zp (fun z=>ne m' hs' z.1)] at h'
     rw [fX _ _ _ _ _ _ hnw,Zp (fun z=>ne m (hs.trans hs') z.1)]
     exact mono m m' hm hm' hs (hs'.trans l3) h')
    have old:∀ m,W wd m <:+ W wd q->gW ((T.wy.set n (pW (T.wy.getD n []) c v)).getD m []) c=gW (T.wy.getD m []) c:=fun m hm=>by rw [fX _ _ _ _ _ _ hnw,Zp (fun z=>ne m hm z.1)]
    refine ⟨wy',o',e1,by rw [e2];exact ZJ,fun m d=>?_,fun ho m hm hs=>?_,fun p hp=>?_⟩
    ·rw [e3 m d]
     show (if d=c/\m < wd.length/\W wd m <:+ W wd q/\gW ((T.wy.set n (pW (T.wy.getD n []) c v)).getD m []) c=none then some v else gW ((T.wy.set n (pW (T.wy.getD n []) c v)).getD m []) d)=_
     by_cases hm:m=n
     ·subst hm
      rw [Zp (fun z=>ne m z.2.2.1 rfl),fX _ _ _ _ _ _ hnw]
      by_cases hd:d=c
      ·rw [Zr ⟨rfl,hd⟩,Zr ⟨hd,hn,Z4 _,hq'⟩]
      ·rw [Zp (fun z=>hd z.2),Zp (fun z=>hd z.1)]
     ·have g1:∀ d,gW ((T.wy.set n (pW (T.wy.getD n []) c v)).getD m []) d=gW (T.wy.getD m []) d:=fun d=>by rw [fX _ _ _ _ _ _ hnw,Zp (fun z=>hm z.1)]
      rw [g1,g1]
      by_cases hc:d=c/\m < wd.length/\W wd m <:+ W wd n/\gW (T.wy.getD m []) c=none
      ·rw [Zr hc,Zr ⟨hc.1,hc.2.1,H.below hn hf hl hc.2.1 hc.2.2.1 hm,hc.2.2.2⟩]
      ·rw [Zp hc,Zp fun z=>hc ⟨z.1,z.2.1,z.2.2.1.trans l3,z.2.2.2⟩]
    ·by_cases hmn:m=n
     ·rw [hmn];exact hq'
     ·have hb:=H.below hn hf hl hm hs hmn
      rw [← old m hb]
      exact e4 ho m hm hb
    ·obtain ⟨p1,p2,p3,p4⟩:=e5 p hp
     have p3':(gW ((T.wy.set n (pW (T.wy.getD n []) c v)).getD p []) c).isSome:=p3
     rw [old p p2] at p3'
     refine ⟨p1,p2.trans l3,p3',fun m hm hs hlt=>?_⟩
     by_cases hmn:m=n
     ·rw [hmn];exact hq'
     ·have hb:=H.below hn hf hl hm hs hmn
      rw [← old m hb]
      exact p4 m hm hb hlt
end
theorem Bv {c old v:Nat} (hc:97<=c/\c<=122):∀ (k:Nat) (S S':St) (o:Option Nat),WF S->v < S.lg.length->up2 c old v k S o=some S'->WF S':=by
 intro k
 induction k with
 | zero =>
  intro S S' o H hv e
  cases o with
  | none=>cases (show some S=some S' from e);exact H
  | some n=>cases e
 | succ k ih =>
  intro S S' o H hv e
  cases o with
  | none=>cases (show some S=some S' from e);exact H
  | some n =>
   unfold up2 at e
   split at e
   ·exact ih ⟨S.lg,S.lk,S.wy.set n (pW (S.wy.getD n []) c v)⟩ S' _ (H.way (n:=n) hv hc) hv e
   ·cases e;exact H
theorem B5 {c v:Nat} (hc:97<=c/\c<=122):∀ (k:Nat) (S S':St) (o o':Option Nat),WF S->v < S.lg.length->up1 c v k S o=some (S',o')->WF S':=by
 intro k
 induction k with
 | zero =>
  intro S S' o o' H hv e
  cases o with
  | none=>cases (show some (S,none)=some (S',o') from e);exact H
  | some n=>cases e
 | succ k ih =>
  intro S S' o o' H hv e
  cases o with
  | none=>cases (show some (S,none)=some (S',o') from e);exact H
  | some n =>
   unfold up1 at e
   split at e
   ·cases e;exact H
   ·exact ih ⟨S.lg,S.lk,S.wy.set n (pW (S.wy.getD n []) c v)⟩ S' _ o' (H.way (n:=n) hv hc) hv e
theorem ic {α:Type} {x y:List α} {a b:α} (h:x++[a] <:+ y++[b]):a=b/\x <:+ y:=by
 obtain ⟨t,e⟩:=h
 rw [← Z8] at e
 obtain ⟨e1,e2⟩:=List.append_inj' e rfl
 exact ⟨by simpa using e2,⟨t,e1⟩⟩
theorem gA {α:Type} {x y:List α} (a:α) (h:x <:+ y):x++[a] <:+ y++[a]:=by
 obtain ⟨t,e⟩:=h
 exact ⟨t,by rw [← e,Z8]⟩
noncomputable def gU (nd:Wd->Option Nat) (old l h:Nat) (x:Wd):Option Nat:=if nd x=some old/\x.length<=l then some h else nd x
theorem I.split {fr:Option Nat} {S:St} {nd:Wd->Option Nat} {wd:List Wd} (H:I fr S nd wd) {n c old:Nat} (hn:n < wd.length) (hf:some n ≠ fr) (hc:97<=c/\c<=122) (ho:gW (S.wy.getD n []) c=some old) (hof:some old ≠ fr) (hfr:fr ≠ some wd.length) (hne:S.lg.getD old 0 ≠ S.lg.getD n 0+1) (hk:(W wd n).length < 1000) :
  ∃ S',njb S n c=some (S',S.lg.length)/\I fr S' (gU nd old ((W wd n).length+1) wd.length) (wd++[W wd n++[c]]):=by
 have hL:S.lg.length=wd.length:=H.len.symm
 have hw:=H.way hn ho
 have hold:=H.lt hw
 have hsf:=H.sf hw
 have lw:(W wd n++[c]).length=(W wd n).length+1:=by rw [Zs];rfl
 rw [H.lg old hold,H.lg n hn] at hne
 have hlt:(W wd n).length+1 < (W wd old).length:=by
  have:=hsf.length_le
  rw [lw] at this
  omega
 have o0:old ≠ 0:=fun e=>by
  rw [e,H.wz] at hlt
  simp at hlt
 have hLp:0 < wd.length:=by rw [H.len];exact H.wf.pos
 have l1:S.lk.length=wd.length:=by rw [H.wf.lk,hL]
 have l2:S.wy.length=wd.length:=by rw [H.wf.wy,hL]
 have lk':∀ m,((S.lk++[S.lk.getD old none]).set old (some S.lg.length)).getD m none=if m=old then some wd.length else if m=wd.length then S.lk.getD old none else S.lk.getD m none:=fun m=>by
  rw [fN,bC,l1,hL]
  by_cases h:m=old
  ·rw [Zr ⟨h.symm,by rw [Zs,l1];omega⟩,Zr h]
  ·rw [Zp (fun z=>h z.1.symm),Zp h]
 have wy':∀ m,(S.wy++[S.wy.getD old []]).getD m []=if m=wd.length then S.wy.getD old [] else S.wy.getD m []:=fun m=>by rw [bC,l2]
 have wyl:∀ m,m < wd.length->(S.wy++[S.wy.getD old []]).getD m []=S.wy.getD m []:=fun m hm=>by rw [wy',Zp (ZS hm)]
 obtain ⟨w2,e1,e2,e3⟩:=H.climb2 (c:=c) (old:=old) (v:=S.lg.length) 1000 ⟨S.lg++[S.lg.getD n 0+1],(S.lk++[S.lk.getD old none]).set old (some S.lg.length),S.wy++[S.wy.getD old []]⟩ n hn hf hk (fun m hm hs=>by
   have:=hs.length_le
   show ((S.lk++[S.lk.getD old none]).set old (some S.lg.length)).getD m none=_
   rw [lk',Zp (fun e=>by rw [e] at this;omega),Zp (ZS hm)])
  (by show _<=(S.wy++[S.wy.getD old []]).length;rw [Zs,l2];omega)
  (fun m m' hm hm' hs hs' h=>by
   have h':gW ((S.wy++[S.wy.getD old []]).getD m []) c=some old:=h
   show gW ((S.wy++[S.wy.getD old []]).getD m' []) c=some old
   rw [wyl m hm] at h'
   rw [wyl m' hm',H.wy (H.top hm') c]
   rw [H.wy (H.top hm) c] at h'
   exact H.iv h' (gA c hs) ((gA c hs').trans hsf))
 have wn:=H.wf.wnd old
 have W1:=H.wf.more (l:=S.lg.getD n 0+1) (o:=S.lk.getD old none) (w:=S.wy.getD old []) (fun m hm=>H.wf.up old m hm) (fun d m hm=>H.wf.on old d m hm) wn.1 wn.2
 have hlen:(S.lg++[S.lg.getD n 0+1]).length=S.lg.length+1:=by rw [Zs];rfl
 have W2:=W1.link (n:=old) (v:=S.lg.length) (by show S.lg.length < (S.lg++[S.lg.getD n 0+1]).length;omega)
 have wfS:=Bv hc 1000 _ _ _ W2 (by show S.lg.length < (S.lg++[S.lg.getD n 0+1]).length;omega) e1
 refine ⟨⟨S.lg++[S.lg.getD n 0+1],(S.lk++[S.lk.getD old none]).set old (some S.lg.length),w2⟩,?_,?_⟩
 ·unfold njb
  rw [ho,Zw,Zp (by rw [H.lg old hold,H.lg n hn];exact hne),e1]
  rfl
 have Wn:∀ m,W (wd++[W wd n++[c]]) m=if m=wd.length then W wd n++[c] else W wd m:=fun m=>bC wd _ _ m
 have WL:W (wd++[W wd n++[c]]) wd.length=W wd n++[c]:=by rw [Wn,Zr rfl]
 have Wl:∀ {m},m < wd.length->W (wd++[W wd n++[c]]) m=W wd m:=fun {m} hm=>by rw [Wn,Zp (ZS hm)]
 have fC:(wd++[W wd n++[c]]).length=wd.length+1:=by rw [Zs];rfl
 have tell:∀ {x m},gU nd old ((W wd n).length+1) wd.length x=some m->(m=wd.length/\nd x=some old/\x.length<=(W wd n).length+1)\/(m < wd.length/\nd x=some m/\¬ (m=old/\x.length<=(W wd n).length+1)):=fun {x m} h=>by
  unfold gU at h
  split at h
  ·rename_i q
   cases h
   exact .inl ⟨rfl,q.1,q.2⟩
  ·rename_i q
   exact .inr ⟨H.lt h,h,fun z=>q ⟨by rw [h,z.1],z.2⟩⟩
 have tL:∀ {x},nd x=some old->x.length<=(W wd n).length+1->gU nd old ((W wd n).length+1) wd.length x=some wd.length:=fun {x} h1 h2=>Zr ⟨h1,h2⟩
 have tO:∀ {x m},nd x=some m->¬ (m=old/\x.length<=(W wd n).length+1)->gU nd old ((W wd n).length+1) wd.length x=some m:=fun {x m} h1 h2=>by
  unfold gU
  rw [Zp (fun z=>h2 ⟨by rw [h1] at z;exact Zn z.1,z.2⟩),h1]
 have some_:∀ {x m},nd x=some m->∃ m',gU nd old ((W wd n).length+1) wd.length x=some m':=fun {x m} h=>by
  unfold gU
  split
  ·exact ⟨_,rfl⟩
  ·exact ⟨m,h⟩
 have un:∀ {x m},gU nd old ((W wd n).length+1) wd.length x=some m->∃ m',nd x=some m':=fun {x m} h=>(tell h).elim (fun z=>⟨_,z.2.1⟩) fun z=>⟨_,z.2.1⟩
 refine ⟨wfS,by rw [fC,hlen,hL],fun m hm=>?_,tO H.z (fun z=>o0 z.1.symm),by rw [Wl hLp];exact H.wz,fun {x m} h=>by rcases tell h with z | z <;> omega,fun {x m} h=>?_,fun {m} hm=>?_,fun {x y m} h hxy hy=>?_,fun {x d m} h=>?_,fun {x y m} h hxy=>?_,?_,fun {m} h0 hm hmf=>?_,fun {x m} h d=>?_⟩
 ·rw [fC] at hm
  show (S.lg++[S.lg.getD n 0+1]).getD m 0=_
  rw [bC,hL]
  by_cases e:m=wd.length
  ·rw [Zr e,e,WL,H.lg n hn,lw]
  ·rw [Zp e,Wl (by omega),H.lg m (by omega)]
 ·rcases tell h with ⟨rfl,z1,z2⟩ | ⟨z0,z1,_⟩
  ·rw [WL]
   exact cU (H.sf z1) hsf (by rw [lw];exact z2)
  ·rw [Wl z0]
   exact H.sf z1
 ·rw [fC] at hm
  by_cases e:m=wd.length
  ·rw [e,WL]
   exact tL hw (by rw [lw];exact Zk _)
  ·rw [Wl (by omega)]
   exact tO (H.top (by omega)) (fun z=>by have:=z.2;rw [z.1] at this;omega)
 ·rcases tell h with ⟨rfl,z1,z2⟩ | ⟨z0,z1,z2⟩
  ·rw [WL] at hy
   have:=hy.length_le
   rw [lw] at this
   exact tL (H.iv z1 hxy (hy.trans hsf)) this
  ·rw [Wl z0] at hy
   exact tO (H.iv z1 hxy hy) (fun z=>z2 ⟨z.1,ZG hxy.length_le z.2⟩)
 ·obtain ⟨m',h'⟩:=un h
  obtain ⟨q,hq⟩:=H.pre h'
  exact some_ hq
 ·obtain ⟨m',h'⟩:=un h
  obtain ⟨q,hq⟩:=H.suf h' hxy
  exact some_ hq
 ·show ((S.lk++[S.lk.getD old none]).set old (some S.lg.length)).getD 0 none=none
  rw [lk',Zp (Yd o0),Zp (by omega)]
  exact H.lk0
 ·rw [fC] at hm
  show ∃ q,((S.lk++[S.lk.getD old none]).set old (some S.lg.length)).getD m none=some q/\_
  rw [lk',fC]
  obtain ⟨q,q1,⟨q2,q2'⟩,q3,q4,q5⟩:=H.lk (YU o0) hold hof
  obtain ⟨lo,_⟩:=H.low hof q1 hw
  rw [lw] at lo
  by_cases e:m=old
  ·subst e
   rw [Zr rfl]
   refine ⟨wd.length,rfl,⟨by omega,fun z=>hfr z.symm⟩,?_,?_,fun y hy hl=>?_⟩
   ·rw [WL,Wl hold];exact hsf
   ·rw [WL,Wl hold,lw];exact hlt
   ·rw [WL,lw] at hl
    rw [Wl hold] at hy
    exact tO (H.iv hw (cU hsf hy (by rw [lw];omega)) hy) (fun z=>by have:=z.2;omega)
  ·rw [Zp e]
   by_cases eL:m=wd.length
   ·subst eL
    rw [Zr rfl,q1]
    refine ⟨q,rfl,⟨by omega,q2'⟩,?_,?_,fun y hy hl=>?_⟩
    ·rw [WL,Wl q2];exact cU q3 hsf (by rw [lw];omega)
    ·rw [WL,Wl q2,lw];exact lo
    ·rw [WL] at hy
     rw [Wl q2] at hl
     have:=hy.length_le
     rw [lw] at this
     exact tL (q5 y (hy.trans hsf) hl) this
   ·rw [Zp eL]
    have hm':m < wd.length:=by omega
    obtain ⟨r,r1,⟨r2,r2'⟩,r3,r4,r5⟩:=H.lk h0 hm' hmf
    rw [r1]
    refine ⟨r,rfl,⟨by omega,r2'⟩,by rw [Wl r2,Wl hm'];exact r3,by rw [Wl r2,Wl hm'];exact r4,fun y hy hl=>?_⟩
    rw [Wl hm'] at hy
    rw [Wl r2] at hl
    exact tO (r5 y hy hl) (fun z=>e z.1)
 ·show gW (w2.getD m []) d=_
  rw [e3 m d]
  show (if d=c/\m < wd.length/\W wd m <:+ W wd n/\gW ((S.wy++[S.wy.getD old []]).getD m []) c=some old then some S.lg.length else gW ((S.wy++[S.wy.getD old []]).getD m []) d)=_
  rcases tell h with ⟨rfl,z1,z2⟩ | ⟨z0,z1,z2⟩
  ·rw [Zp (fun z=>Yp _ z.2.1),wy',Zr rfl,H.wy z1 d]
   unfold gU
   rw [Zp]
   intro z
   have h1:=z.1
   rw [← H.wy z1 d,H.wy (H.top hold) d] at h1
   have:=(H.sf h1).length_le
   rw [Zs,ZO] at this
   omega
  ·rw [wyl m z0,H.wy z1 c,H.wy z1 d]
   unfold gU
   by_cases hq:nd (x++[d])=some old/\(x++[d]).length<=(W wd n).length+1
   ·have hs2:=cU (H.sf hq.1) hsf (by rw [lw];exact hq.2)
    obtain ⟨rfl,hx⟩:=ic hs2
    obtain ⟨m',m1,m2⟩:=H.up' hn hf hx
    rw [z1] at m1
    cases m1
    rw [Zr ⟨rfl,z0,m2,hq.1⟩,Zr hq,hL]
   ·rw [Zp hq,Zp]
    rintro ⟨rfl,_,a3,a4⟩
    refine hq ⟨a4,?_⟩
    have b1:=(H.sf z1).length_le
    have b2:=a3.length_le
    rw [Zs,ZO]
    omega
end AU
end
section
namespace AU
open Classical in
noncomputable def gF (nd:Wd->Option Nat) (w:Wd) (f:Nat) (x:Wd):Option Nat:=match nd x with
 | some m=>some m
 | none=>if x <:+ w then some f else none
theorem dD {nd:Wd->Option Nat} {w:Wd} {f m:Nat} {x:Wd} (h:nd x=some m):gF nd w f x=some m:=by
 unfold gF
 rw [h]
theorem fU {nd:Wd->Option Nat} {w:Wd} {f:Nat} {x:Wd} (h:nd x=none) (hx:x <:+ w):gF nd w f x=some f:=by
 unfold gF
 rw [h]
 exact Zr hx
theorem cN {nd:Wd->Option Nat} {w:Wd} {f m:Nat} {x:Wd} (h:gF nd w f x=some m):nd x=some m\/(m=f/\nd x=none/\x <:+ w):=by
 unfold gF at h
 split at h
 ·rename_i q e
  cases h
  exact .inl e
 ·rename_i e
  split at h
  ·rename_i hx
   cases h
   exact .inr ⟨rfl,e,hx⟩
  ·cases h
theorem uo {α:Type} {y t:List α} {c:α} (h:y <:+ t++[c]) (hy:y ≠ []):∃ y',y=y'++[c]/\y' <:+ t:=by
 rcases List.eq_nil_or_concat y with e | ⟨y',b,e⟩
 ·exact absurd e hy
 ·rw [List.concat_eq_append] at e
  subst e
  obtain ⟨e1,e2⟩:=ic h
  exact ⟨y',by rw [e1],e2⟩
section
variable {S:St} {nd:Wd->Option Nat} {wd:List Wd}
theorem I.fresh (H:I none S nd wd) {h c:Nat} (hh:h < wd.length) (hc:97<=c/\c<=122) (hn:gW (S.wy.getD h []) c=none) (hk:(W wd h).length < 1000) :
  ∃ S2 o',up1 c S.lg.length 1000 ⟨S.lg++[S.lg.getD h 0+1],S.lk++[some 0],S.wy++[[]]⟩ (some h)=some (S2,o')/\I (some wd.length) S2 (gF nd (W wd h++[c]) wd.length) (wd++[W wd h++[c]])/\S2.lk.getD wd.length none=some 0/\S2.lg.length=S.lg.length+1 ∧
   (∀ m,m < wd.length->(gW (S.wy.getD m []) c).isSome->gW (S2.wy.getD m []) c=gW (S.wy.getD m []) c) ∧
   (o'=none->∀ m,m < wd.length->W wd m <:+ W wd h->gW (S.wy.getD m []) c=none) ∧
   ∀ p,o'=some p->p < wd.length/\W wd p <:+ W wd h/\(gW (S.wy.getD p []) c).isSome/\∀ m,m < wd.length->W wd m <:+ W wd h->(W wd p).length < (W wd m).length->gW (S.wy.getD m []) c=none:=by
 have hL:S.lg.length=wd.length:=H.len.symm
 have l1:S.lk.length=wd.length:=by rw [H.wf.lk,hL]
 have l2:S.wy.length=wd.length:=by rw [H.wf.wy,hL]
 have hLp:0 < wd.length:=by rw [H.len];exact H.wf.pos
 have lk':∀ m,(S.lk++[some 0]).getD m none=if m=wd.length then some 0 else S.lk.getD m none:=fun m=>by rw [bC,l1]
 have wy':∀ m,(S.wy++[[]]).getD m []=if m=wd.length then [] else S.wy.getD m []:=fun m=>by rw [bC,l2]
 have wyl:∀ m,m < wd.length->(S.wy++[[]]).getD m []=S.wy.getD m []:=fun m hm=>by rw [wy',Zp (ZS hm)]
 have nt:nd (W wd h++[c])=none:=by rw [← H.wy (H.top hh) c];exact hn
 obtain ⟨w2,o',e1,e2,e3,e4,e5⟩:=H.climb1 (c:=c) (v:=S.lg.length) 1000 ⟨S.lg++[S.lg.getD h 0+1],S.lk++[some 0],S.wy++[[]]⟩ h hh (fun z=>nomatch z) hk (fun m hm _=>by
   show (S.lk++[some 0]).getD m none=_
   rw [lk',Zp (ZS hm)])
  (by show _<=(S.wy++[[]]).length;rw [Zs,l2];omega)
  (fun m m' hm hm' hs hs' q=>by
   have q':(gW ((S.wy++[[]]).getD m' []) c).isSome:=q
   show (gW ((S.wy++[[]]).getD m []) c).isSome
   rw [wyl m' hm',H.wy (H.top hm') c] at q'
   rw [wyl m hm,H.wy (H.top hm) c]
   obtain ⟨r,hr⟩:=Yb.mp q'
   obtain ⟨r',hr'⟩:=H.suf hr (gA c hs)
   rw [hr']
   rfl)
 have hlen:(S.lg++[S.lg.getD h 0+1]).length=S.lg.length+1:=by rw [Zs];rfl
 have W1:=H.wf.more (l:=S.lg.getD h 0+1) (o:=some 0) (w:=[]) (fun m hm=>by cases hm;exact H.wf.pos) (fun d m hm=>by cases hm) Yo (fun p hp=>nomatch hp)
 have wfS:=B5 hc 1000 _ _ _ _ W1 (by show S.lg.length < (S.lg++[S.lg.getD h 0+1]).length;omega) e1
 have lw:(W wd h++[c]).length=(W wd h).length+1:=by rw [Zs];rfl
 have Wn:∀ m,W (wd++[W wd h++[c]]) m=if m=wd.length then W wd h++[c] else W wd m:=fun m=>bC wd _ _ m
 have WL:W (wd++[W wd h++[c]]) wd.length=W wd h++[c]:=by rw [Wn,Zr rfl]
 have Wl:∀ {m},m < wd.length->W (wd++[W wd h++[c]]) m=W wd m:=fun {m} hm=>by rw [Wn,Zp (ZS hm)]
 have fC:(wd++[W wd h++[c]]).length=wd.length+1:=by rw [Zs];rfl
 refine ⟨⟨S.lg++[S.lg.getD h 0+1],S.lk++[some 0],w2⟩,o',e1,?_,by show (S.lk++[some 0]).getD wd.length none=_;rw [lk',Zr rfl],hlen,fun m hm hs=>?_,fun ho m hm hs=>?_,fun p hp=>?_⟩
 rotate_left
 ·show gW (w2.getD m []) c=_
  rw [e3 m c]
  show (if c=c/\m < wd.length/\W wd m <:+ W wd h/\gW ((S.wy++[[]]).getD m []) c=none then some S.lg.length else gW ((S.wy++[[]]).getD m []) c)=_
  rw [wyl m hm,Zp (fun z=>by rw [z.2.2.2] at hs;cases hs)]
 ·have:=e4 ho m hm hs
  have this':gW ((S.wy++[[]]).getD m []) c=none:=this
  rw [wyl m hm] at this'
  exact this'
 ·obtain ⟨p1,p2,p3,p4⟩:=e5 p hp
  have p3':(gW ((S.wy++[[]]).getD p []) c).isSome:=p3
  rw [wyl p p1] at p3'
  refine ⟨p1,p2,p3',fun m hm hs hl=>?_⟩
  have:=p4 m hm hs hl
  have this':gW ((S.wy++[[]]).getD m []) c=none:=this
  rw [wyl m hm] at this'
  exact this'
 refine ⟨wfS,by rw [fC];show _=(S.lg++[S.lg.getD h 0+1]).length;rw [hlen,hL],fun m hm=>?_,dD H.z,by rw [Wl hLp];exact H.wz,fun {x m} q=>?_,fun {x m} q=>?_,fun {m} hm=>?_,fun {x y m} q hxy hy=>?_,fun {x d m} q=>?_,fun {x y m} q hxy=>?_,?_,fun {m} h0 hm hmf=>?_,fun {x m} q d=>?_⟩
 ·rw [fC] at hm
  show (S.lg++[S.lg.getD h 0+1]).getD m 0=_
  rw [bC,hL]
  by_cases e:m=wd.length
  ·rw [Zr e,e,WL,H.lg h hh,lw]
  ·rw [Zp e,Wl (by omega),H.lg m (by omega)]
 ·rw [fC]
  rcases cN q with z | z
  ·have:=H.lt z;omega
  ·omega
 ·rcases cN q with z | ⟨rfl,_,z⟩
  ·rw [Wl (H.lt z)];exact H.sf z
  ·rw [WL];exact z
 ·rw [fC] at hm
  by_cases e:m=wd.length
  ·rw [e,WL];exact fU nt (Z4 _)
  ·rw [Wl (by omega)];exact dD (H.top (by omega))
 ·rcases cN q with z | ⟨rfl,z1,z2⟩
  ·rw [Wl (H.lt z)] at hy
   exact dD (H.iv z hxy hy)
  ·rw [WL] at hy
   refine fU ?_ hy
   cases e:nd y with
   | none=>rfl
   | some r =>
    obtain ⟨r',hr⟩:=H.suf e hxy
    rw [z1] at hr
    cases hr
 ·rcases cN q with z | ⟨_,_,z⟩
  ·obtain ⟨r,hr⟩:=H.pre z
   exact ⟨r,dD hr⟩
  ·obtain ⟨_,hx⟩:=ic z
   obtain ⟨r,hr⟩:=H.suf (H.top hh) hx
   exact ⟨r,dD hr⟩
 ·rcases cN q with z | ⟨_,_,z⟩
  ·obtain ⟨r,hr⟩:=H.suf z hxy
   exact ⟨r,dD hr⟩
  ·cases e:nd x with
   | none=>exact ⟨_,fU e (hxy.trans z)⟩
   | some r=>exact ⟨r,dD e⟩
 ·show (S.lk++[some 0]).getD 0 none=none
  rw [lk',Zp (by omega)]
  exact H.lk0
 ·rw [fC] at hm
  have hm':m < wd.length:=by
   have:m ≠ wd.length:=fun e=>hmf (by rw [e])
   omega
  show ∃ q,(S.lk++[some 0]).getD m none=some q/\_
  rw [lk',Zp (ZS hm'),fC]
  obtain ⟨r,r1,⟨r2,_⟩,r3,r4,r5⟩:=H.lk h0 hm' (fun z=>nomatch z)
  refine ⟨r,r1,⟨by omega,fun z=>?_⟩,by rw [Wl r2,Wl hm'];exact r3,by rw [Wl r2,Wl hm'];exact r4,fun y hy hl=>?_⟩
  ·have:=Zn z
   omega
  ·rw [Wl hm'] at hy
   rw [Wl r2] at hl
   exact dD (r5 y hy hl)
 ·show gW (w2.getD m []) d=_
  rw [e3 m d]
  show (if d=c/\m < wd.length/\W wd m <:+ W wd h/\gW ((S.wy++[[]]).getD m []) c=none then some S.lg.length else gW ((S.wy++[[]]).getD m []) d)=_
  rcases cN q with z | ⟨rfl,z1,z2⟩
  ·have hm:=H.lt z
   rw [wyl m hm,H.wy z c,H.wy z d]
   cases e:nd (x++[d]) with
   | some r =>
    rw [dD e,Zp]
    rintro ⟨rfl,_,_,a⟩
    rw [e] at a
    cases a
   | none =>
    by_cases hs:x++[d] <:+ W wd h++[c]
    ·obtain ⟨rfl,hx⟩:=ic hs
     obtain ⟨m',m1,m2⟩:=H.up' hh (fun z=>nomatch z) hx
     rw [z] at m1
     cases m1
     rw [fU e hs,Zr ⟨rfl,hm,m2,e⟩,hL]
    ·have:gF nd (W wd h++[c]) wd.length (x++[d])=none:=by
      unfold gF
      rw [e]
      exact Zp hs
     rw [this,Zp]
     rintro ⟨rfl,_,a,_⟩
     exact hs (gA d ((H.sf z).trans a))
  ·rw [Zp (fun a=>Yp _ a.2.1),wy',Zr rfl]
   have e:nd (x++[d])=none:=by
    cases e:nd (x++[d]) with
    | none=>rfl
    | some r =>
     obtain ⟨r',hr⟩:=H.pre e
     rw [z1] at hr
     cases hr
   have:gF nd (W wd h++[c]) wd.length (x++[d])=none:=by
    unfold gF
    rw [e]
    refine Zp fun hs=>?_
    obtain ⟨_,hx⟩:=ic hs
    obtain ⟨r,hr⟩:=H.suf (H.top hh) hx
    rw [z1] at hr
    cases hr
   rw [this]
   rfl
theorem I.fix {f m:Nat} (H:I (some f) S nd wd) (hf:f < wd.length) (hm:m < wd.length) (hs:W wd m <:+ W wd f) (hl:(W wd m).length < (W wd f).length) (hy:∀ y,y <:+ W wd f->(W wd m).length < y.length->nd y=some f):I none ⟨S.lg,S.lk.set f (some m),S.wy⟩ nd wd:=by
 have f0:f ≠ 0:=fun e=>by
  rw [e,H.wz] at hl
  simp at hl
 have lf:f < S.lk.length:=by rw [H.wf.lk,← H.len];exact hf
 refine ⟨H.wf.link (by rw [← H.len];exact hm),H.len,H.lg,H.z,H.wz,H.lt,H.sf,H.top,H.iv,H.pre,H.suf,?_,fun {n} h0 hn _=>?_,H.wy⟩
 ·show (S.lk.set f (some m)).getD 0 none=none
  rw [fN,Zp (fun z=>f0 z.1)]
  exact H.lk0
 ·show ∃ q,(S.lk.set f (some m)).getD n none=some q/\_
  rw [fN]
  by_cases e:f=n
  ·subst e
   rw [Zr ⟨rfl,lf⟩]
   exact ⟨m,rfl,⟨hm,fun z=>nomatch z⟩,hs,hl,hy⟩
  ·rw [Zp (fun z=>e z.1)]
   obtain ⟨r,r1,⟨r2,_⟩,r3⟩:=H.lk h0 hn (fun z=>e (Zn z).symm)
   exact ⟨r,r1,⟨r2,fun z=>nomatch z⟩,r3⟩
end
end AU
end
section
namespace AU
structure Fine (nd nd':Wd->Option Nat) (w:Wd):Prop where
 eq:∀ {x y m n},nd' x=some m->nd' y=some n->(m=n ↔ nd x=nd y/\(x <:+ w ↔ y <:+ w))
section
variable {fr:Option Nat} {S:St} {nd:Wd->Option Nat} {wd:List Wd}
theorem I.just (H:I fr S nd wd) {n c old:Nat} (hn:n < wd.length) (hf:some n ≠ fr) (hc:97<=c/\c<=122) (ho:gW (S.wy.getD n []) c=some old) (hof:some old ≠ fr) (hfr:fr ≠ some wd.length) (hk:(W wd n).length < 1000) :
  ∃ S' r nd' wd',njb S n c=some (S',r)/\I fr S' nd' wd'/\r < wd'.length/\some r ≠ fr/\W wd' r=W wd n++[c]/\(∀ m,m < wd.length->W wd' m=W wd m)/\wd.length<=wd'.length/\wd'.length<=wd.length+1 ∧
   (∀ x,(∃ m,nd' x=some m) ↔ ∃ m,nd x=some m)/\Fine nd nd' (W wd n++[c])/\∀ x f,f ≠ old->nd x=some f->nd' x=some f:=by
 have hw:=H.way hn ho
 have hold:=H.lt hw
 have hsf:=H.sf hw
 have lw:(W wd n++[c]).length=(W wd n).length+1:=by rw [Zs];rfl
 by_cases hne:S.lg.getD old 0=S.lg.getD n 0+1
 ·have hWo:W wd old=W wd n++[c]:=by
   have:=hne
   rw [H.lg old hold,H.lg n hn] at this
   exact (hsf.eq_of_length (by rw [lw,this])).symm
  refine ⟨S,old,nd,wd,?_,H,hold,hof,hWo,fun m _=>rfl,Zk _,Nat.le_succ _,fun x=>Iff.rfl,⟨fun {x y m k} h1 h2=>?_⟩,fun x f _ h=>h⟩
  ·unfold njb
   rw [ho,Zw,Zr hne]
  ·constructor
   ·rintro rfl
    exact ⟨by rw [h1,h2],fun h=>by rw [← hWo] at h ⊢;exact H.all hold hof h1 h2 h,fun h=>by rw [← hWo] at h ⊢;exact H.all hold hof h2 h1 h⟩
   ·rintro ⟨h,_⟩
    rw [h1,h2] at h
    exact Zn h
 ·obtain ⟨S',e1,H'⟩:=H.split hn hf hc ho hof hfr hne hk
  have WL:W (wd++[W wd n++[c]]) wd.length=W wd n++[c]:=(bC wd _ _ _).trans (Zr rfl)
  have Wl:∀ m,m < wd.length->W (wd++[W wd n++[c]]) m=W wd m:=fun m hm=>(bC wd _ _ m).trans (Zp (ZS hm))
  have fC:(wd++[W wd n++[c]]).length=wd.length+1:=by rw [Zs];rfl
  have inv:∀ {x m},gU nd old ((W wd n).length+1) wd.length x=some m->(m=wd.length/\nd x=some old/\x.length<=(W wd n).length+1)\/nd x=some m:=fun {x m} h=>by
   unfold gU at h
   split at h
   ·rename_i q;cases h;exact .inl ⟨rfl,q.1,q.2⟩
   ·exact .inr h
  have sfx:∀ {x},nd x=some old->(x.length<=(W wd n).length+1 ↔ x <:+ W wd n++[c]):=fun {x} h=>⟨fun hl=>cU (H.sf h) hsf (by rw [lw];exact hl),fun hs=>by have:=hs.length_le;rw [lw] at this;exact this⟩
  refine ⟨S',S.lg.length,_,_,e1,H',by rw [fC,← H.len];exact Yl _,by rw [← H.len];exact fun z=>hfr z.symm,by rw [← H.len];exact WL,Wl,by omega,by omega,fun x=>⟨fun ⟨m,h⟩=>(inv h).elim (fun z=>⟨_,z.2.1⟩) fun z=>⟨_,z⟩,fun ⟨m,h⟩=>?_⟩,⟨fun {x y m k} h1 h2=>?_⟩,fun x f hfo h=>?_⟩
  ·unfold gU
   split
   ·exact ⟨_,rfl⟩
   ·exact ⟨m,h⟩
  ·constructor
   ·rintro rfl
    have hq:wd.length < (wd++[W wd n++[c]]).length:=by omega
    have a1:=fun h=>H'.all hq (fun z=>hfr z.symm) h1 h2 h
    have a2:=fun h=>H'.all hq (fun z=>hfr z.symm) h2 h1 h
    rw [WL] at a1 a2
    refine ⟨?_,a1,a2⟩
    rcases inv h1 with ⟨z1,z2,_⟩ | z
    ·rcases inv h2 with ⟨_,y2,_⟩ | y
     ·rw [z2,y2]
     ·have:=H.lt y;omega
    ·rcases inv h2 with ⟨y1,_,_⟩ | y
     ·have:=H.lt z;omega
     ·rw [z,y]
   ·rintro ⟨h,hs⟩
    have:gU nd old ((W wd n).length+1) wd.length x=gU nd old ((W wd n).length+1) wd.length y:=by
     unfold gU
     rw [h]
     by_cases q:nd y=some old
     ·have e1:=sfx (show nd x=some old by rw [h,q])
      have e2:=sfx q
      by_cases l:y.length<=(W wd n).length+1
      ·rw [Zr ⟨q,e1.mpr (hs.mpr (e2.mp l))⟩,Zr ⟨q,l⟩]
      ·rw [Zp (fun z=>l (e2.mpr (hs.mp (e1.mp z.2)))),Zp (fun z=>l z.2)]
     ·rw [Zp (fun z=>q z.1),Zp (fun z=>q z.1)]
    rw [h1,h2] at this
    exact Zn this
  ·unfold gU
   rw [Zp (fun z=>hfo (by rw [h] at z;exact Zn z.1))]
   exact h
end
section
variable {S:St} {nd:Wd->Option Nat} {wd:List Wd}
theorem I.step (H:I none S nd wd) {h c:Nat} (hh:h < wd.length) (hc:97<=c/\c<=122) (hk:(W wd h).length+1 < 1000) :
  ∃ S' r nd' wd',hb S h c=some (S',r)/\I none S' nd' wd'/\r < wd'.length/\W wd' r=W wd h++[c]/\(∀ m,m < wd.length->W wd' m=W wd m)/\wd.length<=wd'.length/\wd'.length<=wd.length+2 ∧
   (∀ x,(∃ m,nd' x=some m) ↔ (∃ m,nd x=some m)\/x <:+ W wd h++[c])/\Fine nd nd' (W wd h++[c]):=by
 cases hg:gW (S.wy.getD h []) c with
 | some old =>
  obtain ⟨S',r,nd',wd',e,H',h1,_,h2,h3,h4,h5,h6,h7,_⟩:=H.just hh (fun z=>nomatch z) hc hg (fun z=>nomatch z) (fun z=>nomatch z) (by omega)
  refine ⟨S',r,nd',wd',?_,H',h1,h2,h3,h4,by omega,fun x=>(h6 x).trans ⟨.inl,fun z=>z.elim id fun z=>H.suf (H.way hh hg) z⟩,h7⟩
  unfold hb
  rw [hg]
  exact e
 | none =>
  have hL:S.lg.length=wd.length:=H.len.symm
  obtain ⟨S2,o',e1,H2,k0,k1,k2,k3,k4⟩:=H.fresh hh hc hg (by omega)
  have WL:W (wd++[W wd h++[c]]) wd.length=W wd h++[c]:=(bC wd _ _ _).trans (Zr rfl)
  have Wl:∀ m,m < wd.length->W (wd++[W wd h++[c]]) m=W wd m:=fun m hm=>(bC wd _ _ m).trans (Zp (ZS hm))
  have fC:(wd++[W wd h++[c]]).length=wd.length+1:=by rw [Zs];rfl
  have lw:(W wd h++[c]).length=(W wd h).length+1:=by rw [Zs];rfl
  have nt:nd (W wd h++[c])=none:=by rw [← H.wy (H.top hh) c];exact hg
  have ex:∀ x,(∃ m,gF nd (W wd h++[c]) wd.length x=some m) ↔ (∃ m,nd x=some m)\/x <:+ W wd h++[c]:=fun x=>⟨fun ⟨m,q⟩=>(cN q).elim (fun z=>.inl ⟨_,z⟩) fun z=>.inr z.2.2,fun q=>by
   cases e:nd x with
   | some m=>exact ⟨m,dD e⟩
   | none=>exact q.elim (fun ⟨m,z⟩=>by rw [e] at z;cases z) fun z=>⟨_,fU e z⟩⟩
  have same:∀ {x y m n},gF nd (W wd h++[c]) wd.length x=some m->gF nd (W wd h++[c]) wd.length y=some n->(m=n ↔ nd x=nd y):=fun {x y m n} q1 q2=>by
   rcases cN q1 with z | ⟨z1,z2,_⟩
   ·rcases cN q2 with y' | ⟨y1,y2,_⟩
    ·rw [z,y'];exact ⟨fun e=>by rw [e],fun e=>Zn e⟩
    ·have:=H.lt z
     refine ⟨fun e=>by omega,fun e=>?_⟩
     rw [z,y2] at e;cases e
   ·rcases cN q2 with y' | ⟨y1,y2,_⟩
    ·have:=H.lt y'
     refine ⟨fun e=>by omega,fun e=>?_⟩
     rw [z2,y'] at e;cases e
    ·exact ⟨fun _=>by rw [z2,y2],fun _=>by rw [z1,y1]⟩
  have tails:∀ {y},y <:+ W wd h++[c]->y ≠ []->∀ {q},nd y=some q->∃ y' m,y=y'++[c]/\y' <:+ W wd h/\nd y'=some m/\m < wd.length/\W wd m <:+ W wd h/\(gW (S.wy.getD m []) c).isSome:=fun {y} hy hne {q} hq=>by
   obtain ⟨y',rfl,hy'⟩:=uo hy hne
   obtain ⟨m,m1,m2⟩:=H.up' hh (fun z=>nomatch z) hy'
   exact ⟨y',m,rfl,hy',m1,H.lt m1,m2,by rw [H.wy m1 c,hq];rfl⟩
  unfold hb
  rw [hg,Zp (by simp),e1]
  cases o' with
  | none =>
   have kn:=k3 rfl
   have none_:∀ {y},y <:+ W wd h++[c]->y ≠ []->nd y=none:=fun {y} hy hne=>by
    cases e:nd y with
    | none=>rfl
    | some q =>
     obtain ⟨y',m,_,_,_,m3,m4,m5⟩:=tails hy hne e
     rw [kn m m3 m4] at m5
     cases m5
   have H3:=H2.fix (f:=wd.length) (m:=0) (by omega) (by omega) (by rw [H2.wz];exact Xw) (by rw [H2.wz,WL,lw];exact Nat.succ_pos _) (fun y hy hl=>by
    rw [WL] at hy
    rw [H2.wz] at hl
    exact fU (none_ hy (fun e=>by rw [e] at hl;cases hl)) hy)
   have eS:(⟨S2.lg,S2.lk.set wd.length (some 0),S2.wy⟩:St)=S2:=by
    have hl:wd.length < S2.lk.length:=by rw [H2.wf.lk,← H2.len,fC];exact Yl _
    have:S2.lk.set wd.length (some 0)=S2.lk:=by
     rw [Zu,Zo hl,YY] at k0
     rw [← k0]
     exact XT hl
    rw [this]
   rw [eS] at H3
   refine ⟨S2,S.lg.length,_,_,rfl,H3,by rw [fC,hL];exact Yl _,by rw [hL];exact WL,Wl,by omega,by omega,ex,⟨fun {x y m n} q1 q2=>?_⟩⟩
   rw [same q1 q2]
   refine ⟨fun e=>⟨e,?_⟩,fun e=>e.1⟩
   have key:∀ {x y m n},gF nd (W wd h++[c]) wd.length x=some m->gF nd (W wd h++[c]) wd.length y=some n->nd x=nd y->x <:+ W wd h++[c]->y <:+ W wd h++[c]:=fun {x y m n} q1 q2 e hx=>by
    rcases cN q2 with z | z
    ·rw [z] at e
     by_cases hx0:x=[]
     ·subst hx0
      rw [H.z] at e
      cases e
      rw [H.zero z]
      exact Xw
     ·rw [none_ hx hx0] at e
      cases e
    ·exact z.2.2
   exact ⟨key q1 q2 e,key q2 q1 e.symm⟩
  | some p =>
   obtain ⟨p1,p2,p3,p4⟩:=k4 p rfl
   obtain ⟨old,ho⟩:=Yb.mp p3
   have ho2:gW (S2.wy.getD p []) c=some old:=by rw [k2 p p1 p3];exact ho
   have ndw:=H.way p1 ho
   have hold:=H.lt ndw
   have ph:(W wd p).length < (W wd h).length:=by
    rcases Nat.lt_or_eq_of_le p2.length_le with l | l
    ·exact l
    ·have:=H.inj p1 hh (p2.eq_of_length l)
     rw [this,hg] at ho
     cases ho
   obtain ⟨S3,r,nd',wd',f1,H3,f2,f2',f3,f4,f5,f6,f7,f8,f9⟩:=H2.just (n:=p) (c:=c) (old:=old) (by omega) (fun z=>by have:=Zn z;omega) hc ho2 (fun z=>by have:=Zn z;omega) (fun z=>by have:=Zn z;omega) (by rw [Wl p p1];omega)
   rw [Wl p p1] at f3 f8
   have lwp:(W wd p++[c]).length=(W wd p).length+1:=by rw [Zs];rfl
   have WL':W wd' wd.length=W wd h++[c]:=by rw [f4 _ (by omega),WL]
   have none_:∀ {y},y <:+ W wd h++[c]->(W wd p).length+1 < y.length->nd y=none:=fun {y} hy hl=>by
    cases e:nd y with
    | none=>rfl
    | some q =>
     obtain ⟨y',m,rfl,m1,m2,m3,m4,m5⟩:=tails hy (fun e=>by rw [e] at hl;cases hl) e
     have l1:=(H.sf m2).length_le
     rw [Zs,ZO] at hl
     rw [p4 m m3 m4 (by omega)] at m5
     cases m5
   have H4:=H3.fix (f:=wd.length) (m:=r) (by omega) f2 (by rw [f3,WL'];exact gA c p2) (by rw [f3,WL',lwp,lw];omega) (fun y hy hl=>by
    rw [WL'] at hy
    rw [f3,lwp] at hl
    exact f9 y wd.length (by omega) (fU (none_ hy hl) hy))
   refine ⟨⟨S3.lg,S3.lk.set S.lg.length (some r),S3.wy⟩,S.lg.length,nd',wd',?_,by rw [hL];exact H4,by rw [hL];omega,by rw [hL];exact WL',fun m hm=>by rw [f4 m (by omega),Wl m hm],by omega,by omega,fun x=>(f7 x).trans (ex x),⟨fun {x y m n} q1 q2=>?_⟩⟩
   ·show (njb S2 p c).map _=_
    rw [f1]
    rfl
   ·rw [f8.eq q1 q2]
    obtain ⟨m1,g1⟩:=(f7 x).mp ⟨m,q1⟩
    obtain ⟨n1,g2⟩:=(f7 y).mp ⟨n,q2⟩
    have e1:gF nd (W wd h++[c]) wd.length x=gF nd (W wd h++[c]) wd.length y ↔ nd x=nd y:=by
     rw [g1,g2]
     exact ⟨fun e=>(same g1 g2).mp (Zn e),fun e=>by rw [(same g1 g2).mpr e]⟩
    rw [e1]
    have sw:W wd p++[c] <:+ W wd h++[c]:=gA c p2
    have kn:∀ {z q},nd z=some q->(z <:+ W wd h++[c] ↔ z <:+ W wd p++[c]):=fun {z q} hz=>⟨fun a=>cU a sw (by
     rw [lwp]
     refine ZK fun b=>?_
     rw [none_ a b] at hz
     cases hz),fun a=>a.trans sw⟩
    have un:∀ {z q},nd z=none->gF nd (W wd h++[c]) wd.length z=some q->z <:+ W wd h++[c]/\¬ z <:+ W wd p++[c]:=fun {z q} hz a=>by
     rcases cN a with b | b
     ·rw [hz] at b;cases b
     ·refine ⟨b.2.2,fun a=>?_⟩
      obtain ⟨q',hq⟩:=H.suf ndw a
      rw [hz] at hq
      cases hq
    refine ⟨fun ⟨a,b⟩=>⟨a,?_⟩,fun ⟨a,b⟩=>⟨a,?_⟩⟩
    ·cases ez:nd x with
     | some q=>rw [kn ez,kn (show nd y=some q by rw [← a,ez])];exact b
     | none =>
      have u1:=un ez g1
      have u2:=un (show nd y=none by rw [← a,ez]) g2
      exact ⟨fun _=>u2.1,fun _=>u1.1⟩
    ·cases ez:nd x with
     | some q=>rw [← kn ez,← kn (show nd y=some q by rw [← a,ez])];exact b
     | none =>
      have u1:=un ez g1
      have u2:=un (show nd y=none by rw [← a,ez]) g2
      exact ⟨fun z=>absurd z u1.2,fun z=>absurd z u2.2⟩
end
structure K (P:Wd->Prop) (S:St) (nd:Wd->Option Nat) (wd:List Wd):Prop where
 i:I none S nd wd
 nil:P []
 some:∀ x,(∃ m,nd x=some m) ↔ ∃ p,P p/\x <:+ p
 eq:∀ {x y m n},nd x=.some m->nd y=.some n->(m=n ↔ ∀ p,P p->(x <:+ p ↔ y <:+ p))
theorem K.congr {P Q:Wd->Prop} {S:St} {nd:Wd->Option Nat} {wd:List Wd} (H:K P S nd wd) (h:∀ p,P p ↔ Q p):K Q S nd wd:=by
 have:P=Q:=funext fun p=>propext (h p)
 rw [← this]
 exact H
noncomputable def nd0 (x:Wd):Option Nat:=if x=[] then some 0 else none
theorem fF {x:Wd} {n:Nat} (h:nd0 x=some n):x=[]/\n=0:=by
 unfold nd0 at h
 split at h
 ·exact ⟨by assumption,(Zn h).symm⟩
 ·cases h
theorem K0:K (fun p=>p=[]) S0 nd0 [[]]:=by
 refine ⟨⟨Df,rfl,fun n hn=>?_,rfl,rfl,fun {x n} h=>?_,fun {x n} h=>?_,fun {n} hn=>?_,fun {x y n} h h1 h2=>?_,fun {x c n} h=>?_,fun {x y n} h h1=>?_,rfl,fun {n} h1 h2=>?_,fun {x n} h c=>?_⟩,rfl,fun x=>?_,fun {x y m n} h1 h2=>?_⟩
 ·have:n=0:=Nat.lt_one_iff.mp hn
  subst this;rfl
 ·rw [(fF h).2];exact Nat.one_pos
 ·rw [(fF h).1];exact Xw
 ·have:n=0:=Nat.lt_one_iff.mp hn
  subst this;rfl
 ·have e:=(fF h).2
  subst e
  have:y=[]:=YR.mp h2
  subst this;rfl
 ·have:=(fF h).1
  exact absurd this (by simp)
 ·have e:=(fF h).1
  subst e
  have:x=[]:=YR.mp h1
  subst this
  exact ⟨0,rfl⟩
 ·have:n < 1:=h2
  omega
 ·have e:=fF h
  obtain ⟨rfl,rfl⟩:=e
  rfl
 ·constructor
  ·rintro ⟨m,h⟩
   exact ⟨[],rfl,by rw [(fF h).1];exact Xw⟩
  ·rintro ⟨p,rfl,h⟩
   have:x=[]:=YR.mp h
   subst this
   exact ⟨0,rfl⟩
 ·obtain ⟨rfl,rfl⟩:=fF h1
  obtain ⟨rfl,rfl⟩:=fF h2
  exact ⟨fun _ _ _=>Iff.rfl,fun _=>rfl⟩
section
variable {P:Wd->Prop} {S:St} {nd:Wd->Option Nat} {wd:List Wd}
theorem K.step (H:K P S nd wd) {h c:Nat} (hh:h < wd.length) (hc:97<=c/\c<=122) (hk:(W wd h).length+1 < 1000) :
  ∃ S' r nd' wd',hb S h c=.some (S',r)/\K (fun p=>P p\/p=W wd h++[c]) S' nd' wd'/\r < wd'.length/\W wd' r=W wd h++[c]/\(∀ m,m < wd.length->W wd' m=W wd m)/\wd.length<=wd'.length/\wd'.length<=wd.length+2:=by
 obtain ⟨S',r,nd',wd',e,H',h1,h2,h3,h4,h5,h6,h7⟩:=H.i.step hh hc hk
 refine ⟨S',r,nd',wd',e,⟨H',.inl H.nil,fun x=>?_,fun {x y m n} g1 g2=>?_⟩,h1,h2,h3,h4,h5⟩
 ·rw [h6,H.some]
  constructor
  ·rintro (⟨p,a,b⟩ | a)
   ·exact ⟨p,.inl a,b⟩
   ·exact ⟨_,.inr rfl,a⟩
  ·rintro ⟨p,a | rfl,b⟩
   ·exact .inl ⟨p,a,b⟩
   ·exact .inr b
 ·rw [h7.eq g1 g2]
  have un:∀ {z q},nd' z=.some q->nd z=none->z <:+ W wd h++[c]/\∀ p,P p->¬ z <:+ p:=fun {z q} a b=>⟨((h6 z).mp ⟨q,a⟩).elim (fun ⟨m,x⟩=>by rw [b] at x;cases x) id,fun p hp hz=>by
   obtain ⟨m,x⟩:=(H.some z).mpr ⟨p,hp,hz⟩
   rw [b] at x
   cases x⟩
  have old:nd x=nd y ↔ ∀ p,P p->(x <:+ p ↔ y <:+ p):=by
   cases ex:nd x with
   | some a =>
    cases ey:nd y with
    | some b=>exact ⟨fun e=>(H.eq ex ey).mp (Zn e),fun e=>by rw [(H.eq ex ey).mpr e]⟩
    | none =>
     refine ⟨fun e=>(nomatch e),fun e=>?_⟩
     obtain ⟨p,hp,hx⟩:=(H.some x).mp ⟨a,ex⟩
     exact absurd ((e p hp).mp hx) ((un g2 ey).2 p hp)
   | none =>
    cases ey:nd y with
    | some b =>
     refine ⟨fun e=>(nomatch e),fun e=>?_⟩
     obtain ⟨p,hp,hx⟩:=(H.some y).mp ⟨b,ey⟩
     exact absurd ((e p hp).mpr hx) ((un g1 ex).2 p hp)
    | none=>exact ⟨fun _ p hp=>⟨fun z=>absurd z ((un g1 ex).2 p hp),fun z=>absurd z ((un g2 ey).2 p hp)⟩,fun _=>rfl⟩
  rw [old]
  constructor
  ·rintro ⟨a,b⟩ p (hp | rfl)
   ·exact a p hp
   ·exact b
  ·intro a
   exact ⟨fun p hp=>a p (.inl hp),a _ (.inr rfl)⟩
end
theorem K.grow:∀ (w:Wv) {P:Wd->Prop} {S:St} {nd:Wd->Option Nat} {wd:List Wd} (H:K P S nd wd) {h:Nat},h < wd.length->P (W wd h)->(∀ c∈w,97<=c/\c<=122)->(W wd h).length+w.length < 1000 →
  ∃ S' r nd' wd',hg S h w=.some (S',r)/\K (fun p=>P p\/∃ v,v <+: w/\p=W wd h++v) S' nd' wd'/\r < wd'.length/\W wd' r=W wd h++w/\(∀ m,m < wd.length->W wd' m=W wd m)/\wd.length<=wd'.length/\wd'.length<=wd.length+2 * w.length:=by
 intro w
 induction w with
 | nil =>
  intro P S nd wd H h hh hp hw hk
  refine ⟨S,h,nd,wd,rfl,H.congr fun p=>⟨.inl,?_⟩,hh,(ZM _).symm,fun _ _=>rfl,Zk _,Zk _⟩
  rintro (a | ⟨v,a,rfl⟩)
  ·exact a
  ·rw [List.prefix_nil.mp a,ZM]
   exact hp
 | cons c w ih =>
  intro P S nd wd H h hh hp hw hk
  rw [Za] at hk
  obtain ⟨S1,r1,nd1,wd1,e1,H1,a1,a2,a3,a4,a5⟩:=H.step hh (hw c Zt) (by omega)
  obtain ⟨S2,r2,nd2,wd2,e2,H2,b1,b2,b3,b4,b5⟩:=ih H1 a1 (.inr a2) (fun d hd=>hw d (Zx _ hd)) (by rw [a2,Zs,ZO];omega)
  refine ⟨S2,r2,nd2,wd2,?_,H2.congr fun p=>?_,b1,?_,fun m hm=>by rw [b3 m (by omega),a3 m hm],by omega,by rw [Za];omega⟩
  ·show (hb S h c).bind _=_
   rw [e1]
   exact e2
  ·rw [a2]
   constructor
   ·rintro ((a | rfl) | ⟨v,a,rfl⟩)
    ·exact .inl a
    ·exact .inr ⟨[c],XS.mpr ⟨rfl,List.nil_prefix⟩,rfl⟩
    ·exact .inr ⟨c :: v,XS.mpr ⟨rfl,a⟩,by rw [Z8];rfl⟩
   ·rintro (a | ⟨v,a,rfl⟩)
    ·exact .inl (.inl a)
    ·cases v with
     | nil=>rw [ZM];exact .inl (.inl hp)
     | cons d v =>
      obtain ⟨rfl,a'⟩:=XS.mp a
      exact .inr ⟨v,a',by rw [Z8];rfl⟩
  ·rw [b2,a2,Z8];rfl
noncomputable def Hd (b:List Wd) (p:Wd):Prop:=p=[]\/∃ t∈b,p <+: t
noncomputable def sk (w:List (Nat×Nat)):Wv:=(List.range' 97 26).filter fun c=>(gW w c).isSome
noncomputable def visit (w:List (Nat×Nat)):Wv->Wv->Wv
 | [],met=>met
 | c :: r,met=>visit w r (if (gW w c).getD 0∈met then met else met++[(gW w c).getD 0])
noncomputable def bfs (S:St):Nat->Wv->Nat->Option (Wv)
 | k,met,d=>if d < met.length then (match k with
  | 0=>none
  | k+1=>bfs S k (visit (S.wy.getD (met.getD d 0) []) (sk (S.wy.getD (met.getD d 0) [])) met) (d+1)) else some met
noncomputable def steps (S:St) (met:Wv) (n:Nat):List (Nat×Nat):=(sk (S.wy.getD n [])).map fun c=>(c,met.idxOf ((gW (S.wy.getD n []) c).getD 0))
noncomputable abbrev Row:=Nat×Nat×Option Nat×List (Nat×Nat)
noncomputable def row (S:St) (met:Wv) (n:Nat):Row:=match S.lk.getD n none with
 | none=>(0,0,none,steps S met n)
 | some l=>(S.lg.getD l 0+1,S.lg.getD n 0,some (met.idxOf l),steps S met n)
noncomputable def tab (S:St) (met:Wv):List Row:=met.map (row S met)
structure Iso (S T:St) (f:Nat->Nat):Prop where
 lt:∀ {n},n < S.lg.length->f n < T.lg.length
 z:f 0=0
 inj:∀ {m n},m < S.lg.length->n < S.lg.length->f m=f n->m=n
 lg:∀ {n},n < S.lg.length->T.lg.getD (f n) 0=S.lg.getD n 0
 lk:∀ {n},n < S.lg.length->T.lk.getD (f n) none=(S.lk.getD n none).map f
 wy:∀ {n},n < S.lg.length->∀ c,gW (T.wy.getD (f n) []) c=(gW (S.wy.getD n []) c).map f
section
variable {S T:St} {f:Nat->Nat}
theorem Iso.mem (F:Iso S T f) {m:Nat} {l:Wv} (hm:m < S.lg.length) (hl:∀ x∈l,x < S.lg.length):f m∈l.map f ↔ m∈l:=by
 rw [Yr]
 exact ⟨fun ⟨x,hx,e⟩=>by rw [← F.inj (hl x hx) hm e];exact hx,fun h=>⟨m,h,rfl⟩⟩
theorem Iso.idx (F:Iso S T f) {m:Nat} (hm:m < S.lg.length):∀ {l:Wv},(∀ x∈l,x < S.lg.length)->(l.map f).idxOf (f m)=l.idxOf m
 | [],_=>rfl
 | x :: l,hl=>by
  rw [Zm,XX,XX,F.idx hm fun y hy=>hl y (Zx _ hy)]
  by_cases e:x=m
  ·subst e
   simp
  ·have:(x == m)=false:=by simpa using e
   have h2:(f x == f m)=false:=by
    have:=fun z=>e (F.inj (hl x Zt) hm z)
    simpa using this
   rw [this,h2]
theorem Iso.sk (F:Iso S T f) {n:Nat} (hn:n < S.lg.length):sk (T.wy.getD (f n) [])=sk (S.wy.getD n []):=by
 unfold AU.sk
 refine congrArg (fun p=>List.filter p (List.range' 97 26)) ?_
 funext c
 rw [F.wy hn,Yj]
theorem ie {w:List (Nat×Nat)} {c:Nat} (h:c∈sk w):∃ m,gW w c=some m:=Yb.mp (Xv.mp h).2
theorem iw {w:List (Nat×Nat)} {N:Nat} (hw:∀ c m,gW w c=some m->m < N):∀ (r met:Wv),(∀ c∈r,∃ m,gW w c=some m)->(∀ x∈met,x < N)->∀ x∈visit w r met,x < N
 | [],met,_,hm=>hm
 | c :: r,met,hr,hm=>by
  refine iw hw r _ (fun d hd=>hr d (Zx _ hd)) ?_
  obtain ⟨m,e⟩:=hr c Zt
  rw [e,YY]
  split
  ·exact hm
  ·intro x hx
   rcases Zg.mp hx with h | h
   ·exact hm x h
   ·rw [Zb.mp h];exact hw c m e
theorem Iso.visit (F:Iso S T f) (WS:WF S) {n:Nat} (hn:n < S.lg.length):∀ (r met:Wv),(∀ c∈r,∃ m,gW (S.wy.getD n []) c=some m)->(∀ x∈met,x < S.lg.length)->AU.visit (T.wy.getD (f n) []) r (met.map f)=(AU.visit (S.wy.getD n []) r met).map f
 | [],_,_,_=>rfl
 | c :: r,met,hr,hm=>by
  obtain ⟨m,e⟩:=hr c Zt
  have hlt:=WS.on n c m e
  show AU.visit _ r (if (gW (T.wy.getD (f n) []) c).getD 0∈met.map f then met.map f else met.map f++[(gW (T.wy.getD (f n) []) c).getD 0])=(AU.visit _ r (if (gW (S.wy.getD n []) c).getD 0∈met then met else met++[(gW (S.wy.getD n []) c).getD 0])).map f
  rw [F.wy hn,e]
  show AU.visit _ r (if f m∈met.map f then met.map f else met.map f++[f m])=(AU.visit _ r (if m∈met then met else met++[m])).map f
  by_cases q:m∈met
  ·rw [Zr q,Zr ((F.mem hlt hm).mpr q)]
   exact F.visit WS hn r met (fun d hd=>hr d (Zx _ hd)) hm
  ·rw [Zp q,Zp (fun z=>q ((F.mem hlt hm).mp z))]
   have:=F.visit WS hn r (met++[m]) (fun d hd=>hr d (Zx _ hd)) (fun x hx=>by
    rcases Zg.mp hx with h | h
    ·exact hm x h
    ·rw [Zb.mp h];exact hlt)
   rw [ZA] at this
   exact this
theorem getD_mem {l:Wv} {d:Nat} (h:d < l.length):l.getD d 0∈l:=by
 rw [Zu,Zo h]
 exact Z6 h
theorem getD_map {l:Wv} {d:Nat} (f:Nat->Nat) (h:d < l.length):(l.map f).getD d 0=f (l.getD d 0):=by
 rw [Zu,Zu,ZP,Zo h]
 rfl
theorem Iso.bfs (F:Iso S T f) (WS:WF S):∀ (k:Nat) (met:Wv) (d:Nat),(∀ x∈met,x < S.lg.length)->AU.bfs T k (met.map f) d=(AU.bfs S k met d).map (·.map f):=by
 intro k
 induction k with
 | zero =>
  intro met d hm
  unfold AU.bfs
  rw [Zv]
  split <;> rfl
 | succ k ih =>
  intro met d hm
  unfold AU.bfs
  rw [Zv]
  by_cases h:d < met.length
  ·rw [Zr h,Zr h]
   have hn:=hm _ (getD_mem h)
   show AU.bfs T k (AU.visit (T.wy.getD ((met.map f).getD d 0) []) (AU.sk (T.wy.getD ((met.map f).getD d 0) [])) (met.map f)) (d+1)=(AU.bfs S k _ (d+1)).map _
   rw [getD_map f h,F.sk hn,F.visit WS hn _ met (fun c hc=>ie hc) hm]
   exact ih _ _ (iw (fun c m e=>WS.on _ c m e) _ _ (fun c hc=>ie hc) hm)
  ·rw [Zp h,Zp h]
   rfl
theorem Iso.row (F:Iso S T f) (WS:WF S) {met:Wv} (hm:∀ x∈met,x < S.lg.length) {n:Nat} (hn:n < S.lg.length):AU.row T (met.map f) (f n)=AU.row S met n:=by
 have st:AU.steps T (met.map f) (f n)=AU.steps S met n:=by
  unfold AU.steps
  rw [F.sk hn]
  refine YH fun c hc=>?_
  obtain ⟨m,e⟩:=ie hc
  rw [F.wy hn,e]
  show (c,(met.map f).idxOf (f m))=(c,met.idxOf m)
  rw [F.idx (WS.on _ c m e) hm]
 unfold AU.row
 rw [F.lk hn,st]
 cases e:S.lk.getD n none with
 | none=>rfl
 | some l =>
  have hl:=WS.up n l e
  show (T.lg.getD (f l) 0+1,T.lg.getD (f n) 0,some ((met.map f).idxOf (f l)),_)=_
  rw [F.lg hl,F.lg hn,F.idx hl hm]
theorem Iso.tab (F:Iso S T f) (WS:WF S) {met:Wv} (hm:∀ x∈met,x < S.lg.length):AU.tab T (met.map f)=AU.tab S met:=by
 unfold AU.tab
 rw [Z7]
 exact YH fun n hn=>F.row WS hm (hm n hn)
end
theorem K.iso {P:Wd->Prop} {S T:St} {nd nd':Wd->Option Nat} {wd wd':List Wd} (H:K P S nd wd) (G:K P T nd' wd'):Iso S T fun n=>(nd' (W wd n)).getD 0:=by
 have sm:∀ {x n},nd x=.some n->nd' x=.some ((nd' (W wd n)).getD 0):=fun {x n} h=>by
  obtain ⟨a,ha⟩:=(G.some x).mpr ((H.some x).mp ⟨n,h⟩)
  have ht:=H.i.top (H.i.lt h)
  obtain ⟨b,hb⟩:=(G.some (W wd n)).mpr ((H.some _).mp ⟨n,ht⟩)
  rw [hb,YY,ha,(G.eq ha hb).mpr ((H.eq h ht).mp rfl)]
 have no:∀ {x},nd x=none->nd' x=none:=fun {x} h=>by
  cases e:nd' x with
  | none=>rfl
  | some m =>
   obtain ⟨a,ha⟩:=(H.some x).mpr ((G.some x).mp ⟨m,e⟩)
   rw [h] at ha
   cases ha
 have inj:∀ {x y m n},nd x=.some m->nd y=.some n->(nd' (W wd m)).getD 0=(nd' (W wd n)).getD 0->m=n:=fun {x y m n} h1 h2 e=>(H.eq h1 h2).mpr ((G.eq (sm h1) (sm h2)).mp e)
 have L:S.lg.length=wd.length:=H.i.len.symm
 have L':T.lg.length=wd'.length:=G.i.len.symm
 have wq:∀ {n},n < wd.length->W wd' ((nd' (W wd n)).getD 0)=W wd n:=fun {n} hn=>by
  have ht:=H.i.top hn
  have s1:=sm ht
  have l1:=G.i.lt s1
  have s2:=G.i.top l1
  obtain ⟨a,ha⟩:=(H.some (W wd' ((nd' (W wd n)).getD 0))).mpr ((G.some _).mp ⟨_,s2⟩)
  have:=(H.eq ha ht).mpr ((G.eq s2 s1).mp rfl)
  subst this
  exact ((H.i.sf ha).eq_of_length_le ((G.i.sf s1).length_le))
 refine ⟨fun {n} hn=>?_,?_,fun {m n} hm hn e=>?_,fun {n} hn=>?_,fun {n} hn=>?_,fun {n} hn c=>?_⟩
 ·rw [L] at hn
  rw [L']
  exact G.i.lt (sm (H.i.top hn))
 ·show (nd' (W wd 0)).getD 0=0
  rw [H.i.wz,G.i.z];rfl
 ·rw [L] at hm hn
  exact inj (H.i.top hm) (H.i.top hn) e
 ·rw [L] at hn
  show T.lg.getD ((nd' (W wd n)).getD 0) 0=_
  rw [G.i.lg _ (G.i.lt (sm (H.i.top hn))),wq hn,H.i.lg n hn]
 ·rw [L] at hn
  show T.lk.getD ((nd' (W wd n)).getD 0) none=_
  have s1:=sm (H.i.top hn)
  have l1:=G.i.lt s1
  by_cases h0:n=0
  ·subst h0
   rw [H.i.lk0,H.i.wz,G.i.z]
   exact G.i.lk0
  ·have hn':(nd' (W wd n)).getD 0 ≠ 0:=fun z=>by
    have:=inj (H.i.top hn) H.i.z (by rw [z,H.i.wz,G.i.z];rfl)
    exact h0 this
   obtain ⟨m,a1,⟨a2,_⟩,a3,a4,a5⟩:=H.i.lk (YU h0) hn (fun z=>nomatch z)
   obtain ⟨m',b1,⟨b2,_⟩,b3,b4,b5⟩:=G.i.lk (YU hn') l1 (fun z=>nomatch z)
   rw [wq hn] at b3 b4 b5
   rw [a1,b1]
   show Option.some m'=Option.some ((nd' (W wd m)).getD 0)
   have sM:=sm (H.i.top a2)
   have le1:(W wd m).length<=(W wd' m').length:=ZK fun z=>by
    have q:=b5 (W wd m) a3 z
    rw [sM] at q
    have:=inj (H.i.top a2) (H.i.top hn) (Zn q)
    rw [this] at a4
    omega
   have le2:(W wd' m').length<=(W wd m).length:=ZK fun z=>by
    have q:=sm (a5 (W wd' m') b3 z)
    rw [G.i.top b2] at q
    have e:=Zn q
    rw [e,wq hn] at b4
    omega
   have e:W wd' m'=W wd m:=(cU b3 a3 le2).eq_of_length (Nat.le_antisymm le2 le1)
   rw [← e,G.i.top b2]
   rfl
 ·rw [L] at hn
  have ht:=H.i.top hn
  show gW (T.wy.getD ((nd' (W wd n)).getD 0) []) c=_
  rw [G.i.wy (sm ht) c,H.i.wy ht c]
  cases e:nd (W wd n++[c]) with
  | none=>rw [no e];rfl
  | some k=>rw [sm e];rfl
theorem K.same {P:Wd->Prop} {S T:St} {nd nd':Wd->Option Nat} {wd wd':List Wd} (H:K P S nd wd) (G:K P T nd' wd') (k:Nat):(bfs T k [0] 0).map (tab T)=(bfs S k [0] 0).map (tab S):=by
 have F:=H.iso G
 have h0:∀ x∈[0],x < S.lg.length:=fun x hx=>by rw [Zb.mp hx];exact H.i.wf.pos
 have e:=F.bfs H.i.wf k [0] 0 h0
 rw [List.map_singleton,F.z] at e
 rw [e]
 have key:∀ (k:Nat) (met:Wv) (d:Nat),(∀ x∈met,x < S.lg.length)->∀ m,bfs S k met d=Option.some m->∀ x∈m,x < S.lg.length:=by
  intro k
  induction k with
  | zero =>
   intro met d hm m e
   unfold bfs at e
   split at e
   ·cases e
   ·cases e;exact hm
  | succ k ih =>
   intro met d hm m e
   unfold bfs at e
   split at e
   ·exact ih _ _ (iw (fun c m e=>H.i.wf.on _ c m e) _ _ (fun c hc=>ie hc) hm) m e
   ·cases e;exact hm
 cases e2:bfs S k [0] 0 with
 | none=>rfl
 | some m=>exact congrArg Option.some (F.tab H.i.wf (key k [0] 0 h0 m e2))
theorem jS {w:List (Nat×Nat)}:∀ (r met:Wv),∃ l,visit w r met=met++l
 | [],met=>⟨[],(ZM _).symm⟩
 | c :: r,met=>by
  obtain ⟨l,e⟩:=jS (w:=w) r (if (gW w c).getD 0∈met then met else met++[(gW w c).getD 0])
  show ∃ l,visit w r _=_
  rw [e]
  split
  ·exact ⟨l,rfl⟩
  ·exact ⟨_,Z8 _ _ _⟩
theorem kQ {w:List (Nat×Nat)}:∀ (r met:Wv),met.Nodup->(visit w r met).Nodup
 | [],met,h=>h
 | c :: r,met,h=>by
  refine kQ (w:=w) r _ ?_
  split
  ·exact h
  ·rename_i q
   rw [ZY]
   refine ⟨h,by simp,fun a ha b hb e=>q ?_⟩
   rw [Zb.mp hb] at e
   rw [← e]
   exact ha
theorem mK {w:List (Nat×Nat)}:∀ (r met:Wv),∀ c∈r,(gW w c).getD 0∈visit w r met
 | d :: r,met,c,hc=>by
  rcases Zi.mp hc with rfl | hc
  ·obtain ⟨l,e⟩:=jS (w:=w) r (if (gW w c).getD 0∈met then met else met++[(gW w c).getD 0])
   show _∈visit w r _
   rw [e]
   refine Z9 _ ?_
   split
   ·assumption
   ·exact ZW _ Zt
  ·exact mK r _ c hc
theorem vi {w:List (Nat×Nat)} (az:∀ p∈w,97<=p.1/\p.1<=122) {c m:Nat} (h:gW w c=some m):c∈sk w:=by
 refine Xv.mpr ⟨?_,by rw [h];rfl⟩
 unfold gW at h
 obtain ⟨p,hp,_⟩:=Zy.mp h
 have e:=List.find?_some hp
 have:=az p (List.mem_of_find?_eq_some hp)
 have e':p.1=c:=by simpa using e
 rw [e'] at this
 rw [List.mem_range'_1]
 omega
theorem B8 {S:St} (WS:WF S):∀ (k:Nat) (met:Wv) (d:Nat),met.Nodup->(∀ x∈met,x < S.lg.length)->d<=met.length->S.lg.length<=k+d->(∀ i,i < d->∀ c m,gW (S.wy.getD (met.getD i 0) []) c=some m->m∈met) →
  ∃ l,bfs S k met d=some (met++l)/\(met++l).Nodup/\(∀ x∈met++l,x < S.lg.length)/\∀ n∈met++l,∀ c m,gW (S.wy.getD n []) c=some m->m∈met++l:=by
 intro k
 have fin:∀ (met:Wv) (d:Nat),¬ d < met.length->d<=met.length->(∀ i,i < d->∀ c m,gW (S.wy.getD (met.getD i 0) []) c=some m->m∈met)->∀ n∈met,∀ c m,gW (S.wy.getD n []) c=some m->m∈met:=by
  intro met d h1 h2 h n hn c m e
  obtain ⟨i,hi,q⟩:=Y8.mp hn
  refine h i (by omega) c m ?_
  have:met.getD i 0=n:=by rw [Zu,Zo hi,q];rfl
  rw [this]
  exact e
 induction k with
 | zero =>
  intro met d nd lt hd hk h
  have hl:met.length<=S.lg.length:=by
   have:=sub_len met (List.range S.lg.length) nd fun x hx=>YX.mpr (lt x hx)
   rwa [ZE] at this
  have hlt:¬ d < met.length:=by omega
  refine ⟨[],?_,?_⟩
  ·unfold bfs
   rw [Zp hlt,ZM]
  ·rw [ZM]
   exact ⟨nd,lt,fin met d hlt hd h⟩
 | succ k ih =>
  intro met d nd lt hd hk h
  by_cases hlt:d < met.length
  ·obtain ⟨l1,e1⟩:=jS (w:=S.wy.getD (met.getD d 0) []) (sk (S.wy.getD (met.getD d 0) [])) met
   obtain ⟨l,e,h1,h2,h3⟩:=ih (visit (S.wy.getD (met.getD d 0) []) (sk (S.wy.getD (met.getD d 0) [])) met) (d+1) (kQ _ _ nd) (iw (fun c m e=>WS.on _ c m e) _ _ (fun c hc=>ie hc) lt) (by rw [e1,Zs];omega) (by omega) (fun i hi c m e=>by
    have gi:(visit (S.wy.getD (met.getD d 0) []) (sk (S.wy.getD (met.getD d 0) [])) met).getD i 0=met.getD i 0:=by
     rw [e1,Zu,Zu,ZI (by omega)]
    rw [gi] at e
    by_cases q:i=d
    ·subst q
     have:=mK (w:=S.wy.getD (met.getD i 0) []) (sk (S.wy.getD (met.getD i 0) [])) met c (vi (WS.wnd _).2 e)
     rw [e] at this
     exact this
    ·rw [e1]
     exact Z9 _ (h i (by omega) c m e))
   rw [e1,Z8] at h1 h2 h3
   refine ⟨l1++l,?_,h1,h2,h3⟩
   unfold bfs
   rw [Zr hlt]
   show bfs S k _ (d+1)=_
   rw [e,e1,Z8]
  ·refine ⟨[],?_,?_⟩
   ·unfold bfs
    rw [Zp hlt,ZM]
   ·rw [ZM]
    exact ⟨nd,lt,fin met d hlt hd h⟩
theorem xp {α:Type} {p:List α->Prop} (h0:p []) (h1:∀ l a,p l->p (l++[a])) (l:List α):p l:=by
 have:∀ l:List α,p l.reverse:=by
  intro l
  induction l with
  | nil=>exact h0
  | cons a l ih=>rw [List.reverse_cons];exact h1 _ a ih
 rw [← List.reverse_reverse l]
 exact this _
theorem K.met {P:Wd->Prop} {S:St} {nd:Wd->Option Nat} {wd:List Wd} (H:K P S nd wd) {k:Nat} (hk:wd.length<=k):∃ l,bfs S k [0] 0=Option.some (0 :: l)/\(0 :: l).Nodup/\(∀ x,x∈0 :: l ↔ x < wd.length)/\(0 :: l).length=wd.length:=by
 have L:S.lg.length=wd.length:=H.i.len.symm
 obtain ⟨l,e,h1,h2,h3⟩:=B8 H.i.wf k [0] 0 (by simp) (fun x hx=>by rw [Zb.mp hx];exact H.i.wf.pos) (Yn _) (by omega) (fun i hi=>absurd hi (XZ _))
 have h0:∀ (x:Wd) n,nd x=Option.some n->n∈0 :: l:=by
  intro x
  induction x using xp with
  | h0=>intro n e;rw [H.i.z] at e;cases e;exact Zt
  | h1 x c ih =>
   intro n e
   obtain ⟨m,hm⟩:=H.i.pre e
   exact h3 m (ih m hm) c n (by rw [H.i.wy hm];exact e)
 have hx:∀ x,x∈0 :: l ↔ x < wd.length:=fun x=>⟨fun z=>by rw [← L];exact h2 x z,fun z=>h0 _ x (H.i.top z)⟩
 refine ⟨l,e,h1,hx,Nat.le_antisymm ?_ ?_⟩
 ·have:=sub_len (0 :: l) (List.range wd.length) h1 fun x z=>YX.mpr ((hx x).mp z)
  rwa [ZE] at this
 ·have:=sub_len (List.range wd.length) (0 :: l) List.nodup_range fun x z=>(hx x).mpr (YX.mp z)
  rwa [ZE] at this
end AU
end
section
namespace T07
open VS AU
theorem yA (w:List (Nat×Nat)) (c:Nat):c∈w.map (·.1) ↔ (gW w c).isSome=true:=by
 rw [← AO,Y7,Yr]
 exact ⟨fun ⟨p,h1,h2⟩=>⟨p,h1,by rw [h2];exact beq_self_eq_true c⟩,fun ⟨p,h1,h2⟩=>⟨p,h1,by simpa using h2⟩⟩
theorem rn {w:List (Nat×Nat)} (nd:(w.map (·.1)).Nodup) (az:∀ p∈w,97<=p.1/\p.1<=122):(sk w).Perm (w.map (·.1)):=by
 refine (List.perm_ext_iff_of_nodup ?_ nd).mpr fun c=>?_
 ·exact List.Nodup.sublist List.filter_sublist List.nodup_range'
 ·rw [yA]
  constructor
  ·intro h
   exact (Xv.mp h).2
  ·intro h
   obtain ⟨m,e⟩:=Yb.mp h
   exact vi az e
theorem uV {m:Md} {w:List (Nat×Nat)} (nd:(w.map (·.1)).Nodup) (az:∀ p∈w,97<=p.1/\p.1<=122):fL [(m,wT' w)]=some (.fr,.lst ((sk w).map fun c=>T.str [c])):=by
 show ((strs? ((w.map fun p=>(T.str [p.1],T.int (p.2:Int))).map (·.1))).bind _)=_
 have e1:(w.map fun p=>(T.str [p.1],T.int (p.2:Int))).map (·.1)=(w.map (·.1)).map fun c=>T.str [c]:=by
  rw [Z7,Z7]
  rfl
 rw [e1,strs_map (fun c=>[c]),Zw,Zr]
 ·have:(sk w).map (fun c=>[c])=eO ((w.map (·.1)).map fun c=>[c]):=by
   refine mS ((rn nd az).map _) ?_
   rw [X0]
   refine List.Pairwise.imp ?_ (List.Pairwise.filter _ (List.pairwise_lt_range' (s:=97) (n:=26)))
   intro a b hab h
   rcases Y3.mp h with h | ⟨_,h⟩
   ·omega
   ·exact absurd h (List.not_lt_nil _)
  rw [← this,Z7]
  rfl
 ·refine ⟨?_,Yv.mpr ?_⟩
  ·rw [Zv,← (rn nd az).length_eq]
   have:(sk w).length<=(List.range' 97 26).length:=List.length_filter_le _ _
   rw [Xn] at this
   omega
  intro s hs
  obtain ⟨c,hc,rfl⟩:=Yr.mp hs
  obtain ⟨p,hp,rfl⟩:=Yr.mp hc
  have:=az p hp
  show (decide (1<=fu) && (decide (p.1 < 1114112) && true))=true
  rw [decide_eq_true (show p.1 < 1114112 by omega)]
  rfl
noncomputable def nE:Nat->Wv->List (T×T)
 | _,[]=>[]
 | k,n :: r=>(T.int (n:Int),T.int (k:Int)) :: nE (k+1) r
theorem wk:∀ (met:Wv) (k:Nat),(nE k met).length=met.length
 | [],_=>rfl
 | _ :: r,k=>by rw [nE,Za,Za,wk r]
theorem n5:∀ (met:Wv) (k:Nat),(nE k met).map (·.1)=met.map fun (n:Nat)=>T.int (n:Int)
 | [],_=>rfl
 | _ :: r,k=>by rw [nE,Zm,Zm,n5 r]
theorem vr:∀ (met:Wv) (k n:Nat),nE k (met++[n])=nE k met++[(T.int (n:Int),T.int ((k+met.length:Nat):Int))]
 | [],k,n=>rfl
 | m :: r,k,n=>by
  rw [Xe,nE,nE,vr r (k+1) n,Za,Xe]
  rw [show k+1+r.length=k+(r.length+1) by omega]
theorem DE (a b:Nat):eqT (.int (a:Int)) (.int (b:Int))=(a == b):=by
 simp only [eqT]
 by_cases h:a=b
 ·simp [h]
 ·have h1:¬ (a:Int)=(b:Int):=by omega
  rw [ZR.mpr h,ZR.mpr h1]
theorem oi:∀ (met:Wv) (k n:Nat),eX (nE k met) (.int (n:Int))=if n∈met then some (T.int ((k+met.idxOf n:Nat):Int)) else none
 | [],_,_=>rfl
 | m :: r,k,n=>by
  show ((((T.int (m:Int),T.int (k:Int)) :: nE (k+1) r).find? fun p=>eqT p.1 (.int (n:Int))).map (·.2))=_
  rw [Z3]
  simp only [DE]
  by_cases h:m=n
  ·subst h
   simp [XX]
  ·have hb:(m == n)=false:=ZR.mpr h
   have ih:=oi r (k+1) n
   unfold eX at ih
   simp only [hb]
   rw [ih,XX,hb]
   by_cases q:n∈r
   ·rw [Zr q,Zr (Zx _ q)]
    show some (T.int ((k+1+r.idxOf n:Nat):Int))=some (T.int ((k+(r.idxOf n+1):Nat):Int))
    rw [show k+1+r.idxOf n=k+(r.idxOf n+1) by omega]
   ·rw [Zp q,Zp (fun z=>(Zi.mp z).elim (fun e=>h e.symm) q)]
theorem BH (met:Wv) (n:Nat) (h:n ∉ met):dput (nE 0 met) (.int (n:Int)) (.int (met.length:Int))=nE 0 (met++[n]):=by
 unfold dput
 rw [Zp,vr]
 ·rw [XC]
 ·intro z
  obtain ⟨p,hp,e⟩:=Y7.mp z
  have:(eX (nE 0 met) (.int (n:Int))).isSome=true:=by
   unfold eX
   rw [Yj,List.find?_isSome]
   exact ⟨p,hp,e⟩
  rw [oi,Zp h] at this
  cases this
noncomputable def nT (met:Wv):T:=.dct 0 (nE 0 met)
noncomputable def mT (met:Wv):T:=.lst (met.map fun (n:Nat)=>T.int (n:Int))
theorem zB {η:Env} {m k:Md} {met:Wv} {n:Nat} {a e:Ex} (h:a η=some (m,nT met)) (he:e η=some (k,.int (n:Int))):e2 dn e a η=some (.fr,.bl (decide (n ∉ met))):=e2v he h (by
 show (match (if true=true then some (Md.fr,T.bl (eX (nE 0 met) (.int (n:Int))).isSome) else none) with | some (_,.bl b)=>some (Md.fr,T.bl (!b)) | _=>none)=_
 rw [Zr rfl,oi]
 by_cases q:n∈met
 ·rw [Zr q,decide_eq_false (fun z=>z q)];rfl
 ·rw [Zp q,decide_eq_true q];rfl)
section
variable {S:St} {w:List (Nat×Nat)}
theorem wc {d:Nat} {ob:Ws}:∀ (r met:Wv) (z:Ws),(∀ c∈r,∃ m,gW w c=some m)->met.length+r.length < 16777216->∃ z',forL (cY 5) bx (r.map fun c=>T.str [c]) [ob,oc (nT met),oc (mT met),pc (.int (d:Int)),pc (wT' w),z]=some (.nx [ob,oc (nT (visit w r met)),oc (mT (visit w r met)),pc (.int (d:Int)),pc (wT' w),z'])
 | [],met,z,_,_=>⟨z,rfl⟩
 | c :: r,met,z,hr,hl=>by
  obtain ⟨m,e⟩:=hr c Zt
  rw [Za] at hl
  have hlen:(nE 0 met).length=met.length:=wk met 0
  by_cases q:m∈met
  ·obtain ⟨z',ih⟩:=wc r met (pc (.str [c])) (fun d hd=>hr d (Zx _ hd)) (by omega)
   refine ⟨z',?_⟩
   have ev:visit w (c :: r) met=visit w r met:=by
    show visit w r (if (gW w c).getD 0∈met then met else met++[(gW w c).getD 0])=_
    rw [e,YY,Zr q]
   rw [ev,Zm]
   refine (ji (η1:=[ob,oc (nT met),oc (mT met),pc (.int (d:Int)),pc (wT' w),pc (.str [c])]) rfl ?_).trans ih
   unfold bx
   refine (iN (m:=.fr) ?_).trans rfl
   refine (zB (m:=.bo) (k:=.fr) (met:=met) (n:=m) rfl (wG (m:=.pu) (n:=.fr) (c:=c) (w:=w) rfl rfl e)).trans ?_
   rw [decide_eq_false (fun z=>z q)]
  ·obtain ⟨z',ih⟩:=wc r (met++[m]) (pc (.str [c])) (fun d hd=>hr d (Zx _ hd)) (by rw [Zs,ZO];omega)
   refine ⟨z',?_⟩
   have ev:visit w (c :: r) met=visit w r (met++[m]):=by
    show visit w r (if (gW w c).getD 0∈met then met else met++[(gW w c).getD 0])=_
    rw [e,YY,Zp q]
   rw [ev,Zm]
   refine (ji (η1:=[ob,oc (nT met),oc (mT met),pc (.int (d:Int)),pc (wT' w),pc (.str [c])]) rfl ?_).trans ih
   unfold bx
   refine (jC (m:=.fr) ?_).trans ?_
   ·refine (zB (m:=.bo) (k:=.fr) (met:=met) (n:=m) rfl (wG (m:=.pu) (n:=.fr) (c:=c) (w:=w) rfl rfl e)).trans ?_
    rw [decide_eq_true q]
   ·have ix1:∀ nn mm:Ws,e2 oIx (ae 4) (ae 5) [ob,nn,mm,pc (.int (d:Int)),pc (wT' w),pc (.str [c])]=some (.fr,.int (m:Int)):=fun nn mm=>wG (m:=.pu) (n:=.fr) (c:=c) (w:=w) rfl rfl e
    have p1:ni 1 (e2 oIx (ae 4) (ae 5)) (eN bI (ab (ae 2) ai)) [ob,oc (nT met),oc (mT met),pc (.int (d:Int)),pc (wT' w),pc (.str [c])]=some (.nx [ob,oc (nT (met++[m])),oc (mT met),pc (.int (d:Int)),pc (wT' w),pc (.str [c])]):=by
     have l1:eN bI (ab (ae 2) ai) [ob,oc (nT met),oc (mT met),pc (.int (d:Int)),pc (wT' w),pc (.str [c])]=some (.fr,.int (met.length:Int)):=i9 (xv (x:=(.bo,mT met)) rfl rfl) (by
      show some (Md.fr,T.int (((met.map fun (n:Nat)=>T.int (n:Int)).length:Nat):Int))=_
      rw [Zv])
     unfold ni
     rw [l1,Zw]
     show ((e2 oIx (ae 4) (ae 5) [ob,oc (nT met),oc (mT met),pc (.int (d:Int)),pc (wT' w),pc (.str [c])]).bind _)=_
     rw [ix1,Zw]
     show (if true=true/\true=true/\(nE 0 met).length < fu then some (Out.nx [ob,oc (.dct 0 (dput (nE 0 met) (.int (m:Int)) (.int (met.length:Int)))),oc (mT met),pc (.int (d:Int)),pc (wT' w),pc (.str [c])]) else none)=_
     rw [Zr ⟨rfl,rfl,by rw [hlen];show met.length < 16777216;omega⟩,BH met m q]
     rfl
    refine (ak p1).trans ?_
    refine (p9 (i:=2) (l:=met.map fun (n:Nat)=>T.int (n:Int)) (v:=.int (m:Int)) rfl (ix1 _ _) (by rw [Zv];omega)).trans ?_
    rw [show (met.map fun (n:Nat)=>T.int (n:Int))++[.int (m:Int)]=(met++[m]).map fun (n:Nat)=>T.int (n:Int) from by rw [ZA];rfl]
    rfl
end
theorem qj (w:List (Nat×Nat)):(sk w).length<=26:=by
 refine ZG (List.length_filter_le _ _) ?_
 rw [Xn]
 exact Zk _
theorem yk {S:St} {met:Wv} (nd:met.Nodup) (lt:∀ x∈met,x < S.lg.length):met.length<=S.lg.length:=by
 have:=sub_len met (List.range S.lg.length) nd fun x hx=>YX.mpr (lt x hx)
 rwa [ZE] at this
theorem Cw {S:St} (WS:WF S) (hs:S.lg.length<=100001):∀ (k:Nat) (met:Wv) (d:Nat) (M:Wv),met.Nodup->(∀ x∈met,x < S.lg.length)->bfs S k met d=some M->∀ N,k < N->∀ z4 z5:Ws,∃ d' z4' z5',
  eJ (e2 oLt (ae 3) (eN bI (ab (ae 2) ai))) b9 N [pc (obT S false),oc (nT met),oc (mT met),pc (.int ((d:Nat):Int)),z4,z5] =
   some (.nx [pc (obT S false),oc (nT M),oc (mT M),pc d',z4',z5']):=by
 have cond:∀ (met:Wv) (d:Nat) (z4 z5:Ws),e2 oLt (ae 3) (eN bI (ab (ae 2) ai)) [pc (obT S false),oc (nT met),oc (mT met),pc (.int ((d:Nat):Int)),z4,z5]=some (.fr,.bl (decide (d < met.length))):=fun met d z4 z5 =>
  e2v (x:=(.fr,.int (d:Int))) rfl (i9 (v:=(.fr,.int (met.length:Int))) (xv (x:=(.bo,mT met)) rfl rfl) (by
   show some (Md.fr,T.int (((met.map fun (n:Nat)=>T.int (n:Int)).length:Nat):Int))=_
   rw [Zv])) (by
   show some (Md.fr,T.bl (decide ((d:Int) < (met.length:Int))))=_
   rw [show decide ((d:Int) < (met.length:Int))=decide (d < met.length) from decide_eq_decide.mpr (by omega)])
 intro k
 induction k with
 | zero =>
  intro met d M nd lt e N hN z4 z5
  obtain ⟨N,rfl⟩:∃ M,N=M+1:=⟨N - 1,by omega⟩
  unfold bfs at e
  split at e
  ·cases e
  ·rename_i h
   cases e
   exact ⟨_,z4,z5,fE (m:=.fr) ((cond _ _ _ _).trans (by rw [decide_eq_false h]))⟩
 | succ k ih =>
  intro met d M nd lt e N hN z4 z5
  obtain ⟨N,rfl⟩:∃ M,N=M+1:=⟨N - 1,by omega⟩
  unfold bfs at e
  split at e
  ·rename_i h
   have hn:=lt _ (getD_mem h)
   have hnw:met.getD d 0 < S.wy.length:=by rw [WS.wy];exact hn
   have ml:=yk nd lt
   have sl:=qj (S.wy.getD (met.getD d 0) [])
   obtain ⟨z',l1⟩:=wc (w:=S.wy.getD (met.getD d 0) []) (d:=d) (ob:=pc (obT S false)) (sk (S.wy.getD (met.getD d 0) [])) met z5 (fun c hc=>ie hc) (by omega)
   obtain ⟨d',y4,y5,q⟩:=ih _ (d+1) M (kQ _ _ nd) (iw (fun c m e=>WS.on _ c m e) _ _ (fun c hc=>ie hc) lt) e N (by omega) (pc (wT' (S.wy.getD (met.getD d 0) []))) z'
   refine ⟨d',y4,y5,(kG (m:=.fr) ((cond _ _ _ _).trans (by rw [decide_eq_true h])) ?_).trans q⟩
   unfold b9
   have ix:e2 aN (ae 2) (ae 3) [pc (obT S false),oc (nT met),oc (mT met),pc (.int ((d:Nat):Int)),z4,z5]=some (.fr,.int ((met.getD d 0:Nat):Int)):=e2v (x:=(.bo,mT met)) (y:=(.fr,.int (d:Int))) rfl rfl (lq _ met d 0 h)
   have s1:aM 4 (e2 aN (bc 3 (ae 0)) (e2 aN (ae 2) (ae 3))) [pc (obT S false),oc (nT met),oc (mT met),pc (.int ((d:Nat):Int)),z4,z5]=some (.nx [pc (obT S false),oc (nT met),oc (mT met),pc (.int ((d:Nat):Int)),pc (wT' (S.wy.getD (met.getD d 0) [])),z5]) :=
    aQ (m:=.pu) (lR (S:=S) (b:=false) (m:=.pu) (n:=.fr) rfl ix hnw) (by decide) (by decide:4 < 6)
   refine (ak s1).trans ?_
   have nw:=WS.wnd (met.getD d 0)
   refine (ak ((iI (m:=.fr) (l:=(sk (S.wy.getD (met.getD d 0) [])).map fun c=>T.str [c]) ?_ rfl).trans l1)).trans ?_
   ·show (eN fL (ab (ae 4) ai) _).bind xk=_
    rw [i9 (xv (x:=(.pu,wT' (S.wy.getD (met.getD d 0) []))) rfl rfl) (uV nw.1 nw.2)]
    rfl
   ·exact aQ (m:=.fr) (t:=.int (((d+1:Nat)):Int)) rfl (by decide) (by decide:3 < 6)
  ·rename_i h
   cases e
   exact ⟨_,z4,z5,fE (m:=.fr) ((cond _ _ _ _).trans (by rw [decide_eq_false h]))⟩
theorem BY {S:St} (WS:WF S) (hs:S.lg.length<=100001) {M:Wv} {k:Nat} (hk:k < 1000000) (e:bfs S k [0] 0=some M):aG [obT S false]=some (.fr,nT M):=by
 obtain ⟨d',z4,z5,q⟩:=Cw WS hs k [0] 0 M (by simp) (fun x hx=>by rw [Zb.mp hx];exact WS.pos) e sE (by show k < 1000000;exact hk) none none
 refine fQ (η:=[pc (obT S false),none,pc (mT M),pc d',z4,z5]) rfl ?_
 exact (ak rfl).trans ((ak rfl).trans ((ak rfl).trans ((ak q).trans ((ak rfl).trans rfl))))
noncomputable def stT (l:List (Nat×Nat)):T:=.tup (l.map fun p=>T.tup [.str [p.1],.int (p.2:Int)])
noncomputable def qm (r:Row):T:=.tup [.int (r.1:Int),.int (r.2.1:Int),lkT r.2.2.1,stT r.2.2.2]
theorem rJ:∀ l:List (Nat×Nat),fj (l.map fun p=>T.tup [.str [p.1],.int (p.2:Int)])=true
 | []=>rfl
 | p :: l=>by
  rw [Zm]
  show (true && fj _)=true
  rw [rJ l]
  rfl
theorem uW (l:List (Nat×Nat)):imm (stT l)=true:=rJ l
theorem CN {a b c d:Ex} {η:Env} {x y z w:T} (h1:a η=some (.fr,x)) (h2:b η=some (.fr,y)) (h3:c η=some (.fr,z)) (h4:d η=some (.fr,w)):mn (ab a (ab b (ab c (ab d ai)))) η=some (.fr,.tup [x,y,z,w]):=by
 show (ab a (ab b (ab c (ab d ai))) η).bind rg=_
 rw [xv h1 (xv h2 (xv h3 (xv (r:=ai) h4 rfl))),Zw]
 show some (up .fr _)=_
 unfold up
 split <;> rfl
theorem Bc {S:St} (WS:WF S) {met:Wv} (all:∀ x,x < S.lg.length->x∈met) {n:Nat} (hn:n < S.lg.length):b7 [obT S false,.int (n:Int),.dct 3 (nE 0 met)]=some (.fr,qm (row S met n)):=by
 have hw:n < S.wy.length:=by rw [WS.wy];exact hn
 have hk:n < S.lk.length:=by rw [WS.lk];exact hn
 have nw:=WS.wnd n
 have get:∀ v,v < S.lg.length->eX (nE 0 met) (.int (v:Int))=some (T.int ((met.idxOf v:Nat):Int)):=fun v hv=>by rw [oi,Zr (all v hv),XC]
 have s1:aM 3 (e2 aN (bc 2 (ae 0)) (ae 1)) [pc (obT S false),pc (.int (n:Int)),pc (.dct 3 (nE 0 met)),none,none,none]=some (.nx [pc (obT S false),pc (.int (n:Int)),pc (.dct 3 (nE 0 met)),pc (lkT (S.lk.getD n none)),none,none]):=aQ (m:=.fr) (rm (S:=S) (b:=false) (m:=.pu) (n:=.fr) rfl rfl hk) (by decide) (by decide:3 < 6)
 have s2:aM 4 (e2 aN (bc 3 (ae 0)) (ae 1)) [pc (obT S false),pc (.int (n:Int)),pc (.dct 3 (nE 0 met)),pc (lkT (S.lk.getD n none)),none,none]=some (.nx [pc (obT S false),pc (.int (n:Int)),pc (.dct 3 (nE 0 met)),pc (lkT (S.lk.getD n none)),pc (wT' (S.wy.getD n [])),none]):=aQ (m:=.pu) (lR (S:=S) (b:=false) (m:=.pu) (n:=.fr) rfl rfl hw) (by decide) (by decide:4 < 6)
 have c5:eN iK (ab (dU 1 (cY 0) (iL (eN fL (ab (ae 4) ai))) none (mn (ab (ae 0) (ab (e2 mE (ae 3) (e2 oIx (ae 5) (ae 0))) ai)))) ai) [pc (obT S false),pc (.int (n:Int)),pc (.dct 3 (nE 0 met)),pc (lkT (S.lk.getD n none)),pc (wT' (S.wy.getD n [])),none]=some (.fr,stT (steps S met n)):=by
  have c1:=gw (k:=1) (tg:=cY 0) (it:=iL (eN fL (ab (ae 4) ai))) (elt:=mn (ab (ae 0) (ab (e2 mE (ae 3) (e2 oIx (ae 5) (ae 0))) ai))) (m:=.fr) (η:=[pc (obT S false),pc (.int (n:Int)),pc (.dct 3 (nE 0 met)),pc (lkT (S.lk.getD n none)),pc (wT' (S.wy.getD n [])),none]) (fun c=>T.str [c]) (fun c=>T.tup [.str [c],.int ((met.idxOf ((gW (S.wy.getD n []) c).getD 0):Nat):Int)]) (sk (S.wy.getD n [])) (by
   show (eN fL (ab (ae 4) ai) _).bind xk=_
   rw [i9 (xv (x:=(.pu,wT' (S.wy.getD n []))) rfl rfl) (uV nw.1 nw.2)]
   rfl) rfl (ZG (qj _) (by decide)) (fun c hc=>by
   obtain ⟨v,ev⟩:=ie hc
   refine ⟨[pc (.str [c]),pc (obT S false),pc (.int (n:Int)),pc (.dct 3 (nE 0 met)),pc (lkT (S.lk.getD n none)),pc (wT' (S.wy.getD n [])),none],rfl,?_⟩
   have i1:e2 mE (ae 3) (e2 oIx (ae 5) (ae 0)) [pc (.str [c]),pc (obT S false),pc (.int (n:Int)),pc (.dct 3 (nE 0 met)),pc (lkT (S.lk.getD n none)),pc (wT' (S.wy.getD n [])),none]=some (.fr,.int ((met.idxOf v:Nat):Int)) :=
    e2v (x:=(.pu,.dct 3 (nE 0 met))) rfl (wG (m:=.pu) (n:=.fr) (c:=c) (w:=S.wy.getD n []) rfl rfl ev) (by
     show (if true=true then (eX (nE 0 met) (.int (v:Int))).map (sub .pu) else none)=_
     rw [Zr rfl,get v (WS.on n c v ev)]
     rfl)
   rw [ev,YY]
   show (ab (ae 0) (ab (e2 mE (ae 3) (e2 oIx (ae 5) (ae 0))) ai) _).bind rg=_
   rw [xv (x:=(.fr,.str [c])) rfl (xv (r:=ai) i1 rfl)]
   rfl)
  refine i9 (xv (r:=ai) c1 rfl) ?_
  show (if _<=fu then some (up .fr (.tup _)) else none)=_
  rw [Zr (by rw [Zv];exact ZG (qj _) (by decide))]
  have:T.tup ((sk (S.wy.getD n [])).map fun c=>T.tup [.str [c],.int ((met.idxOf ((gW (S.wy.getD n []) c).getD 0):Nat):Int)])=stT (steps S met n):=by
   unfold stT steps
   rw [Z7]
   rfl
  rw [this]
  unfold up
  rw [uW]
  rfl
 have s3:=aQ (i:=5) c5 (by decide) (by decide:5 < 6)
 have v5:∀ η:Env,η[5]?=some (pc (stT (steps S met n)))->ae 5 η=some (.fr,stT (steps S met n)):=fun η h=>by
  show (match η[5]? with | some (some (.pu t))=>some (up .pu t) | some (some (.ow t))=>some (.bo,t) | _=>none)=_
  rw [h]
  show some (up .pu _)=_
  unfold up
  rw [uW]
  rfl
 unfold row
 cases el:S.lk.getD n none with
 | none =>
  rw [el] at s1 s2 s3
  refine fQ (v:=(.fr,qm (0,0,none,steps S met n))) (η:=[pc (obT S false),pc (.int (n:Int)),pc (.dct 3 (nE 0 met)),pc (lkT none),pc (wT' (S.wy.getD n [])),pc (stT (steps S met n))]) rfl ?_
  refine (ak s1).trans ((ak s2).trans ((ak s3).trans (iH ((jC (m:=.fr) rfl).trans (da (CN rfl rfl rfl (v5 _ rfl)))))))
 | some l =>
  rw [el] at s1 s2 s3
  have hl:=WS.up n l el
  refine fQ (v:=(.fr,qm (S.lg.getD l 0+1,S.lg.getD n 0,some (met.idxOf l),steps S met n))) (η:=[pc (obT S false),pc (.int (n:Int)),pc (.dct 3 (nE 0 met)),pc (lkT (some l)),pc (wT' (S.wy.getD n [])),pc (stT (steps S met n))]) rfl ?_
  refine (ak s1).trans ((ak s2).trans ((ak s3).trans ((ak ((iN (m:=.fr) rfl).trans rfl)).trans (da (CN ?_ ?_ ?_ (v5 _ rfl))))))
  ·exact e2v (oJ (S:=S) (b:=false) (m:=.pu) (n:=.fr) (i:=l) rfl rfl hl) rfl rfl
  ·exact oJ (S:=S) (b:=false) (m:=.pu) (n:=.fr) (i:=n) rfl rfl hn
  ·exact e2v (x:=(.pu,.dct 3 (nE 0 met))) (y:=(.fr,.int (l:Int))) rfl rfl (by
    show (if true=true then (eX (nE 0 met) (.int (l:Int))).map (sub .pu) else none)=_
    rw [Zr rfl,get l hl]
    rfl)
noncomputable def tbT (t:List Row):T:=.lst (t.map qm)
theorem zN {S:St} (WS:WF S) (hs:S.lg.length<=100001) {M:Wv} {k:Nat} (hk:k < 1000000) (e:bfs S k [0] 0=some M) (all:∀ x,x∈M ↔ x < S.lg.length) (hl:M.length<=16777216):dB [obT S false]=some (.fr,tbT (tab S M)):=by
 have n1:=BY WS hs hk e
 refine fQ (η:=[pc (obT S false),none]) rfl ?_
 have s1:gZ 1 (dc 0 aG (ae 0) ai) [pc (obT S false),none]=some (.nx [pc (obT S false),oc (nT M)]):=by
  show (dc 0 aG (ae 0) ai [pc (obT S false),none]).bind _=_
  have:dc 0 aG (ae 0) ai [pc (obT S false),none]=some (.fr,nT M):=by
   show ((aG [obT S false]).bind _)=_
   rw [n1]
   rfl
  rw [this]
  rfl
 refine (ak s1).trans ?_
 have c1:=gw (k:=1) (tg:=cY 0) (it:=oG 1) (elt:=dc 0 b7 (ae 1) (ab (ae 0) (ab (ae 2) ai))) (m:=.fr) (η:=[pc (obT S false),pc (.dct 3 (nE 0 M))]) (fun (n:Nat)=>T.int (n:Int)) (fun n=>qm (row S M n)) M (by
  show (if ((nE 0 M).all fun p=>isInt p.1)=true then some (Md.fr,(nE 0 M).map (·.1)) else none)=_
  rw [Zr,n5]
  rw [Yv]
  intro p hp
  have:p.1∈(nE 0 M).map (·.1):=List.mem_map_of_mem hp
  rw [n5] at this
  obtain ⟨n,_,e⟩:=Yr.mp this
  rw [← e]
  rfl) rfl hl (fun n hn=>by
  refine ⟨[pc (.int (n:Int)),pc (obT S false),pc (.dct 3 (nE 0 M))],rfl,?_⟩
  show ((b7 [obT S false,.int (n:Int),.dct 3 (nE 0 M)]).bind _)=_
  rw [Bc WS (fun x hx=>(all x).mpr hx) ((all n).mp hn)]
  rfl)
 show ((dU 1 (cY 0) (oG 1) none (dc 0 b7 (ae 1) (ab (ae 0) (ab (ae 2) ai))) [pc (obT S false),pc (.dct 3 (nE 0 M))]).bind _)=_
 rw [c1]
 unfold tbT tab
 rw [Z7]
 rfl
noncomputable def fsM (tx:List Tx) (hd:Wv) (S:St):oV:=[(4,.lst (tx.map .str)),(5,.lst (hd.map fun (n:Nat)=>T.int (n:Int))),(6,obT S false)]
noncomputable def maT (tx:List Tx) (hd:Wv) (S:St) (b:Bool):T:=.obj 2 ((0,.bl b) :: fsM tx hd S)
theorem yh (S:St):eE (obT S false)=true:=by
 show ((true && !(0 == 0 && false)) && cZ (fsT S))=true
 rw [jt]
 rfl
theorem fD (tx:List Tx) (hd:Wv) (S:St):cZ (fsM tx hd S)=true:=by
 have h1:eE (.lst (tx.map T.str))=true:=cX _ (fun _=>rfl) _
 have h2:eE (.lst (hd.map fun (n:Nat)=>T.int (n:Int)))=true:=cX _ (fun _=>rfl) _
 show ((eE _ && !(4 == 0 && isT _)) && ((eE _ && !(5 == 0 && isT _)) && ((eE _ && !(6 == 0 && isT _)) && true)))=true
 rw [h1,h2,yh]
 rfl
theorem vg (tx:List Tx) (hd:Wv) (S:St) (b:Bool):nI 4 (maT tx hd S b)=some (.lst (tx.map .str)):=rfl
theorem Ej (tx:List Tx) (hd:Wv) (S:St) (b:Bool):nI 5 (maT tx hd S b)=some (.lst (hd.map fun (n:Nat)=>T.int (n:Int))):=rfl
theorem EI (tx:List Tx) (hd:Wv) (S:St) (b:Bool):nI 6 (maT tx hd S b)=some (obT S false):=rfl
section
variable {tx:List Tx} {hd:Wv} {S S':St} {b:Bool} {r:List (Ws)}
theorem wm {a:Ex} {η:Env} {m:Md} (h:a η=some (m,maT tx hd S b)):eN bI (ab (bc 4 a) ai) η=some (.fr,.int (tx.length:Nat)):=i9 (xv (gk h (vg tx hd S b)) rfl) (by
 show some (Md.fr,T.int (((tx.map T.str).length:Nat):Int))=_
 rw [Zv])
theorem AF {e:Ex} {v:Tx} (h:e (oc (maT tx hd S b) :: r)=some (.fr,.str v)) (hl:tx.length < 16777216):sX (fY 0 [.fld 4] aD (ab e ai)) (oc (maT tx hd S b) :: r)=some (.nx (oc (maT (tx++[v]) hd S b) :: r)):=by
 show (((some [Ky.fld 4]).bind fun ks=>(ab e ai (oc (maT tx hd S b) :: r)).bind fun xs=>(pm (fun x=>aD x xs) ks (maT tx hd S b)).map _).map _)=_
 rw [Zw,xv (r:=ai) h rfl,Zw]
 show (((aD (.lst (tx.map T.str)) [(.fr,.str v)]).map _).map _ |>.map _)=_
 rw [dH (by rw [Zv];exact hl),show (tx.map T.str)++[.str v]=(tx++[v]).map T.str from by rw [ZA];rfl]
 rfl
theorem BL {e:Ex} {v:Nat} (h:e (oc (maT tx hd S b) :: r)=some (.fr,.int (v:Int))) (hl:hd.length < 16777216):sX (fY 0 [.fld 5] aD (ab e ai)) (oc (maT tx hd S b) :: r)=some (.nx (oc (maT tx (hd++[v]) S b) :: r)):=by
 show (((some [Ky.fld 5]).bind fun ks=>(ab e ai (oc (maT tx hd S b) :: r)).bind fun xs=>(pm (fun x=>aD x xs) ks (maT tx hd S b)).map _).map _)=_
 rw [Zw,xv (r:=ai) h rfl,Zw]
 show (((aD (.lst (hd.map fun (n:Nat)=>T.int (n:Int))) [(.fr,.int (v:Int))]).map _).map _ |>.map _)=_
 rw [dH (by rw [Zv];exact hl),show (hd.map fun (n:Nat)=>T.int (n:Int))++[.int (v:Int)]=(hd++[v]).map fun (n:Nat)=>T.int (n:Int) from by rw [ZA];rfl]
 rfl
theorem oH (hl:tx.length < 8) (hh:hd.length=tx.length):ax (fsM tx hd S) []=some (fsM (tx++[[]]) (hd++[0]) S,.int (tx.length:Int)):=by
 unfold ax mfn
 rw [Zr ⟨rfl,rfl⟩]
 have c1:e2 oGe (eN bI (ab (bc 4 (ae 0)) ai)) (eC (.int 8)) [oc (maT tx hd S true)]=some (.fr,.bl false):=e2v (wm (m:=.bo) rfl) rfl (by
  show some (Md.fr,T.bl (decide ((8:Int)<=(tx.length:Int))))=_
  rw [decide_eq_false (by omega)])
 have a1:=AF (tx:=tx) (hd:=hd) (S:=S) (b:=true) (r:=[]) (e:=eC (.str [])) (v:=[]) rfl (by omega)
 have a2:=BL (tx:=tx++[[]]) (hd:=hd) (S:=S) (b:=true) (r:=[]) (e:=eC (.int 0)) (v:=0) rfl (by omega)
 have a4:=da (e:=e2 iU (eN bI (ab (bc 4 (ae 0)) ai)) (eC (.int 1))) (η:=[oc (maT (tx++[[]]) (hd++[0]) S true)]) (t:=.int (tx.length:Int)) (e2v (wm (m:=.bo) rfl) rfl (by
  show some (Md.fr,T.int ((((tx++[[]]).length:Nat):Int) - 1))=_
  rw [Zs,ZO,show (((tx.length+1:Nat)):Int) - 1=(tx.length:Int) by omega]))
 exact congrArg (fun z:Option Out=>z.bind _) ((ak ((iN c1).trans rfl)).trans ((ak a1).trans ((ak a2).trans a4)))
theorem sr {i:Nat} (hi:i < tx.length):bH [.lst (tx.map .str),.int (i:Int)]=some (.fr,.non):=by
 refine D4 (η:=[pc (.lst (tx.map .str)),pc (.int (i:Int))]) rfl ?_
 refine (iN (m:=.fr) (zC (m:=.fr) (x:=false) ?_ (fun _=>?_) (fun h=>by cases h))).trans rfl
 ·exact qF (m:=.fr) (b:=true) rfl
 ·refine qF (m:=.fr) (b:=true) (yV (x:=(.fr,.int 0)) (y:=(.fr,.int (i:Int))) (z:=(.fr,.int (tx.length:Int))) rfl rfl ?_ ?_ ?_)
  ·show some (Md.fr,T.bl (decide ((0:Int)<=(i:Int))))=_
   rw [decide_eq_true (by omega)]
  ·exact i9 (xv (x:=(.pu,.lst (tx.map T.str))) (by
    show some (up .pu (.lst (tx.map T.str)))=_
    rfl) rfl) (by
    show some (Md.fr,T.int (((tx.map T.str).length:Nat):Int))=_
    rw [Zv])
  ·show some (Md.fr,T.bl (decide ((i:Int) < (tx.length:Int))))=_
   rw [decide_eq_true (by omega)]
end
noncomputable def cE (tx:List Tx):Nat:=(tx.map List.length).sum
theorem rH:∀ tx:List Tx,(tx.map fun t=>(t.length:Int)).sum=(cE tx:Int)
 | []=>rfl
 | t :: tx=>by
  rw [Zm,XI,rH tx]
  unfold cE
  rw [Zm,XI]
  omega
theorem vZ (tx:List Tx) (hl:tx.length<=16777216):fK [.lst (tx.map .str)]=some (.fr,.int (cE tx:Int)):=by
 refine fQ (η:=[pc (.lst (tx.map .str))]) rfl ?_
 refine da (i9 (xv (r:=ai) (gw (m:=.pu) T.str (fun (t:Tx)=>T.int (t.length:Int)) tx rfl rfl hl (fun t ht=>⟨[pc (.str t),pc (.lst (tx.map .str))],rfl,rfl⟩)) rfl) ?_)
 show (lZ (tx.map fun (t:Tx)=>T.int (t.length:Int))).bind _=_
 rw [ints_map (fun (t:Tx)=>(t.length:Int)),Zw,rH]
section
variable {tx:List Tx} {hd:Wv} {S S':St} {b:Bool}
theorem Cb {i v:Nat} {e ev:Ex} {n:Md} {r:List (Ws)} (hi:i < hd.length) (he:e (oc (maT tx hd S b) :: r)=some (n,.int (i:Int))) (hv:ev (oc (maT tx hd S b) :: r)=some (.fr,.int (v:Int))) :
  du 0 [.fld 5] e ev (oc (maT tx hd S b) :: r)=some (.nx (oc (maT tx (hd.set i v) S b) :: r)):=by
 unfold du
 rw [hv,Zw]
 show ((keys [.fld 5] (oc (maT tx hd S b) :: r)).bind _)=_
 have hk:keys [.fld 5] (oc (maT tx hd S b) :: r)=some [.fld 5]:=rfl
 rw [hk,Zw,he,Zw]
 have hp:pm (hU (n,.int (i:Int)) (.fr,.int (v:Int))) [.fld 5] (maT tx hd S b)=some (maT tx (hd.set i v) S b,()):=by
  show ((hU (n,.int (i:Int)) (.fr,.int (v:Int)) (.lst (hd.map fun (n:Nat)=>T.int (n:Int)))).map _)=_
  have:hU (n,.int (i:Int)) (.fr,.int (v:Int)) (.lst (hd.map fun (n:Nat)=>T.int (n:Int)))=some (.lst ((hd.set i v).map fun (n:Nat)=>T.int (n:Int)),()):=by
   show ((ixP (hd.map fun (n:Nat)=>T.int (n:Int)).length (i:Int)).map _)=_
   rw [Zv,sU hi,Xb]
   rfl
  rw [this]
  rfl
 rw [hp]
 rfl
theorem AV {i:Nat} {v:Tx} {e ev:Ex} {n:Md} {r:List (Ws)} (hi:i < tx.length) (he:e (oc (maT tx hd S b) :: r)=some (n,.int (i:Int))) (hv:ev (oc (maT tx hd S b) :: r)=some (.fr,.str v)) :
  du 0 [.fld 4] e ev (oc (maT tx hd S b) :: r)=some (.nx (oc (maT (tx.set i v) hd S b) :: r)):=by
 unfold du
 rw [hv,Zw]
 show ((keys [.fld 4] (oc (maT tx hd S b) :: r)).bind _)=_
 have hk:keys [.fld 4] (oc (maT tx hd S b) :: r)=some [.fld 4]:=rfl
 rw [hk,Zw,he,Zw]
 have hp:pm (hU (n,.int (i:Int)) (.fr,.str v)) [.fld 4] (maT tx hd S b)=some (maT (tx.set i v) hd S b,()):=by
  show ((hU (n,.int (i:Int)) (.fr,.str v) (.lst (tx.map T.str))).map _)=_
  have:hU (n,.int (i:Int)) (.fr,.str v) (.lst (tx.map T.str))=some (.lst ((tx.set i v).map T.str),()):=by
   show ((ixP (tx.map T.str).length (i:Int)).map _)=_
   rw [Zv,sU hi,Xb]
   rfl
  rw [this]
  rfl
 rw [hp]
 rfl
theorem y0 {i r:Nat} {w:Tx} (W:WF S) (hh:hd.length=tx.length) (hi:i < tx.length) (h8:tx.length<=8) (hs:cE tx+w.length<=120) (hl:S.lg.length+2 * w.length<=100000) (hn:hd.getD i 0 < S.lg.length) (hc:∀ c∈w,97<=c/\c<=122) (ht:(tx.getD i []).length<=120) (e:hg S (hd.getD i 0) w=some (S',r)) :
  av (fsM tx hd S) [.int (i:Int),.str w]=some (fsM (tx.set i (tx.getD i []++w)) (hd.set i r) S',.non):=by
 obtain ⟨w1,w2,w3,w4⟩:=DB W hl hn hc e
 unfold av mfn
 rw [Zr ⟨rfl,rfl⟩]
 have s1:sX (xP (bg bH (ab (bc 4 (ae 0)) (ab (ae 1) ai)))) [oc (maT tx hd S true),pc (.int (i:Int)),pc (.str w)]=some (.nx [oc (maT tx hd S true),pc (.int (i:Int)),pc (.str w)]):=by
  have:bg bH (ab (bc 4 (ae 0)) (ab (ae 1) ai)) [oc (maT tx hd S true),pc (.int (i:Int)),pc (.str w)]=some (.fr,.non):=de (xv (gk (m:=.bo) (t:=maT tx hd S true) rfl (vg tx hd S true)) (xv (x:=(.fr,.int (i:Int))) rfl rfl)) (sr hi)
  show (((bg bH _ _).map _).map _)=_
  rw [this]
  rfl
 have c2:e2 oGt (e2 cn (bg fK (ab (bc 4 (ae 0)) ai)) (eN bI (ab (ae 2) ai))) (eC (.int 120)) [oc (maT tx hd S true),pc (.int (i:Int)),pc (.str w)]=some (.fr,.bl false) :=
  e2v (x:=(.fr,.int ((cE tx:Int)+(w.length:Int)))) (e2v (de (xv (r:=ai) (gk (m:=.bo) (t:=maT tx hd S true) rfl (vg tx hd S true)) rfl) (vZ tx (by omega))) (y:=(.fr,.int (w.length:Int))) rfl rfl) rfl (by
   show some (Md.fr,T.bl (decide ((120:Int) < (cE tx:Int)+(w.length:Int))))=_
   rw [decide_eq_false (by omega)])
 have x3:aT 0 [.fld 6] 0 [false,false] aU (ab (e2 aN (bc 5 (ae 0)) (ae 1)) (ab (ae 2) ai)) [oc (maT tx hd S true),pc (.int (i:Int)),pc (.str w)]=some ((.fr,.int (r:Int)),[oc (maT tx hd S' true),pc (.int (i:Int)),pc (.str w)]):=by
  show ((some [Ky.fld 6]).bind fun ks=>(ab (e2 aN (bc 5 (ae 0)) (ae 1)) (ab (ae 2) ai) [oc (maT tx hd S true),pc (.int (i:Int)),pc (.str w)]).bind fun xs=>(pm (gh 0 [false,false] aU xs) ks (maT tx hd S true)).map fun z=>(z.2,[oc z.1,pc (.int (i:Int)),pc (.str w)]))=_
  rw [Zw,xv (x:=(.fr,.int ((hd.getD i 0:Nat):Int))) (e2v (gk (m:=.bo) (t:=maT tx hd S true) rfl (Ej tx hd S true)) (y:=(.fr,.int (i:Int))) rfl (lq _ hd i 0 (by omega))) (xv (r:=ai) (x:=(.fr,.str w)) rfl rfl),Zw]
  show (((if 1=0+1/\cZ (fsT S)=true/\argsOk [false,false] [(Md.fr,T.int ((hd.getD i 0:Nat):Int)),(Md.fr,T.str w)]=true/\bw (trees [(Md.fr,T.int ((hd.getD i 0:Nat):Int)),(Md.fr,T.str w)])=true then (aU (fsT S) [.int ((hd.getD i 0:Nat):Int),.str w]).bind fun z=>if cZ z.1=true/\imm z.2=true then some (T.obj 1 ((0,.bl false) :: z.1),(Md.fr,z.2)) else none else none).map _).map _)=_
  rw [Zr ⟨rfl,jt S,rfl,rfl⟩,w4,Zw,Zr ⟨jt S',rfl⟩]
  rfl
 have s3:gR 0 [.fld 5] (ae 1) (aT 0 [.fld 6] 0 [false,false] aU (ab (e2 aN (bc 5 (ae 0)) (ae 1)) (ab (ae 2) ai))) [oc (maT tx hd S true),pc (.int (i:Int)),pc (.str w)]=some (.nx [oc (maT tx (hd.set i r) S' true),pc (.int (i:Int)),pc (.str w)]):=by
  unfold gR
  rw [x3]
  exact Cb (tx:=tx) (hd:=hd) (S:=S') (b:=true) (r:=[pc (.int (i:Int)),pc (.str w)]) (e:=ae 1) (ev:=fun _=>some (.fr,.int (r:Int))) (i:=i) (v:=r) (n:=.fr) (by omega) rfl rfl
 have s4:du 0 [.fld 4] (ae 1) (e2 cn (e2 aN (bc 4 (ae 0)) (ae 1)) (ae 2)) [oc (maT tx (hd.set i r) S' true),pc (.int (i:Int)),pc (.str w)]=some (.nx [oc (maT (tx.set i (tx.getD i []++w)) (hd.set i r) S' true),pc (.int (i:Int)),pc (.str w)]) :=
  AV (n:=.fr) hi rfl (e2v (gk (m:=.bo) (t:=maT tx (hd.set i r) S' true) rfl (vg tx (hd.set i r) S' true) |> fun h=>e2v h (y:=(.fr,.int (i:Int))) rfl (lq T.str tx i [] hi)) (y:=(.fr,.str w)) rfl (lI (by omega)))
 exact congrArg (fun z:Option Out=>z.bind _) ((ak s1).trans ((ak ((iN c2).trans rfl)).trans ((ak s3).trans s4)))
end
end T07
end
section
namespace T07
open VS
theorem jL {β:Type} {tg:Tg} {body:Sx} (g:β->T) (Inv:List β->Env->Prop) (h:∀ t r η,Inv (t :: r) η->∃ η1 η2,tg (g t) η=some η1/\body η1=some (.nx η2)/\Inv r η2):∀ (l:List β) (η:Env),Inv l η->∃ η',forL tg body (l.map g) η=some (.nx η')/\Inv [] η'
 | [],η,hi=>⟨η,rfl,hi⟩
 | t :: l,η,hi=>by
  obtain ⟨η1,η2,e1,e2,hi2⟩:=h t l η hi
  obtain ⟨η',e3,hi3⟩:=jL g Inv h l η2 hi2
  exact ⟨η',(ji e1 e2).trans e3,hi3⟩
noncomputable def cellAt (ns:Wu) (k:Nat):Int:=ns.getD k 0
theorem mQ (ns:Wu) (k:Nat):ay [.scr ns,.int k]=some (.fr,.int (cellAt ns k)):=by
 by_cases h:k < ns.length
 ·refine fQ (η:=[pc (.scr ns),pc (.int k)]) rfl (iH ((jC (m:=.fr) ?_).trans (da (e2v (x:=(.fr,.scr ns)) (y:=(.fr,.int k)) rfl rfl ?_))))
  ·refine e2v (x:=(.fr,.int k)) (y:=(.fr,.int (ns.length:Int))) rfl rfl ?_
   show some (Md.fr,T.bl (decide ((k:Int) < (ns.length:Int))))=_
   rw [decide_eq_true (by omega)]
  ·rw [yi ns k (by omega) (by omega),YA]
   rfl
 ·refine fQ (η:=[pc (.scr ns),pc (.int k)]) rfl ((ak ((iN (m:=.fr) ?_).trans rfl)).trans (da ?_))
  ·refine e2v (x:=(.fr,.int k)) (y:=(.fr,.int (ns.length:Int))) rfl rfl ?_
   show some (Md.fr,T.bl (decide ((k:Int) < (ns.length:Int))))=_
   rw [decide_eq_false (by omega)]
  ·unfold cellAt
   rw [Zu,ZC (by omega)]
   rfl
theorem jr {ns:Wu} {k:Nat} {e:Ex} {η:Env} {m:Md} (h0:ae 0 η=some (m,.scr ns)) (h:e η=some (.fr,.int (k:Int))):bg ay (ab (ae 0) (ab e ai)) η=some (.fr,.int (cellAt ns k)):=de (xv h0 (xv (r:=ai) h rfl)) (mQ ns k)
theorem yP (c k:Int) (h0:0<=k) (h1:k < 1000000):∃ v,fg [.int c,.int k]=some (.fr,.int v):=by
 have e0:=Yq (c % 2147483629+48271 * k+11) (b:=2147483629) (by decide)
 have e1:=Yy (c % 2147483629+48271 * k+11) (b:=2147483629) (by decide)
 generalize hn:(c % 2147483629+48271 * k+11) % 2147483629=n at e0 e1
 have g2:=Yq (n * n) (b:=2147483629) (by decide)
 have g3:=Yy (n * n) (b:=2147483629) (by decide)
 have s1:aM 2 (e2 oMod (e2 cn (e2 cn (e2 oMod (ae 0) (eC (.int 2147483629))) (e2 iO (eC (.int 48271)) (ae 1))) (eC (.int 11))) (eC (.int 2147483629))) [pc (.int c),pc (.int k),none]=some (.nx [pc (.int c),pc (.int k),pc (.int n)]):=by
  refine aQ (m:=.fr) (e2v (e2v (e2v (e2v (x:=(.fr,.int c)) (y:=(.fr,.int 2147483629)) rfl rfl (dm (by decide))) (e2v (x:=(.fr,.int 48271)) (y:=(.fr,.int k)) rfl rfl (ka (by decide))) rfl) (y:=(.fr,.int 11)) rfl rfl) (y:=(.fr,.int 2147483629)) rfl ?_) (by decide) (by show 2 < 3;decide)
  rw [dm (by decide),hn]
 have s2:aM 2 (e2 cn (e2 oMod (e2 iO (ae 2) (ae 2)) (eC (.int 2147483629))) (e2 iO (eC (.int 7919)) (ae 1))) [pc (.int c),pc (.int k),pc (.int n)]=some (.nx [pc (.int c),pc (.int k),pc (.int (n * n % 2147483629+7919 * k))]) :=
  aQ (m:=.fr) (e2v (e2v (e2v (x:=(.fr,.int n)) (y:=(.fr,.int n)) rfl rfl (ka (by omega))) (y:=(.fr,.int 2147483629)) rfl (dm (by decide))) (e2v (x:=(.fr,.int 7919)) (y:=(.fr,.int k)) rfl rfl (ka (by decide))) rfl) (by decide) (by show 2 < 3;decide)
 exact ⟨_,fQ (η:=[pc (.int c),pc (.int k),pc (.int (n * n % 2147483629+7919 * k))]) rfl ((ak s1).trans ((ak s2).trans (da (e2v (e2v (x:=(.fr,.int (n * n % 2147483629+7919 * k))) (y:=(.fr,.int (n * n % 2147483629+7919 * k))) rfl rfl (ka (by omega))) (y:=(.fr,.int 2147483587)) rfl (dm (by decide))))))⟩
noncomputable abbrev ET (ns:Wu) (L:Tx) (most j c size:Int) (s:Wv) (z:Ws):Env:=[pc (.scr ns),pc (.str L),pc (.int most),pc (.int j),pc (.int c),pc (.int size),oc (.lst (s.map fun x=>T.str [x])),z]
theorem vF {η:Env} {L:Tx} {e:Ex} {m:Md} {y:Int} (hl:0 < L.length) (h1:ae 1 η=some (m,.str L)) (he:e η=some (.fr,.int y)):∃ x∈L,e2 aN (ae 1) (e2 oMod e (eN bI (ab (ae 1) ai))) η=some (.fr,.str [x]):=by
 have b0:=Yq y (b:=(L.length:Int)) (by omega)
 have b1:=Yy y (b:=(L.length:Int)) (by omega)
 have b2:(y % (L.length:Int)).toNat < L.length:=by omega
 refine ⟨L.getD (y % (L.length:Int)).toNat 0,?_,e2v h1 (e2v he (i9 (v:=(.fr,.int (L.length:Int))) (xv (r:=ai) h1 rfl) rfl) (dm (by omega))) (Cj L _ b0 b1)⟩
 rw [Zu,Zo b2]
 exact Z6 b2
theorem zA {ns:Wu} {L:Tx} {most j c size:Int} {s:Wv} {z:Ws} {e:Ex} {x:Nat} (h:e (ET ns L most j c size s z)=some (.fr,.str [x])) (hs:s.length < 1000):sX (lX 6 [] aD (ab e ai)) (ET ns L most j c size s z)=some (.nx (ET ns L most j c size (s++[x]) z)):=by
 rw [p9 (i:=6) (l:=s.map fun x=>T.str [x]) rfl h (by rw [Zv];omega)]
 show some (Out.nx [pc (.scr ns),pc (.str L),pc (.int most),pc (.int j),pc (.int c),pc (.int size),oc (.lst (s.map (fun x=>T.str [x])++[T.str [x]])),z])=some (Out.nx [pc (.scr ns),pc (.str L),pc (.int most),pc (.int j),pc (.int c),pc (.int size),oc (.lst ((s++[x]).map fun x=>T.str [x])),z])
 rw [ZA]
 rfl
theorem t8 (ns:Wu) (L:Tx) (most size:Int) (j:Nat) (hj:j<=1000) (hl:0 < L.length) (hl2:L.length < 1000) (n:Nat) (hn:n < 1000) (c:Int):∃ c' s z,forL (cY 7) eU ((List.range n).map fun (k:Nat)=>T.int (k:Int)) (ET ns L most j c size [] none)=some (.nx (ET ns L most j c' size s z))/\s.length<=n/\∀ x∈s,x∈L:=by
 obtain ⟨η',e,c',s,z,rfl,h1,h2,_⟩:=jL (tg:=cY 7) (body:=eU) (fun (k:Nat)=>T.int (k:Int)) (fun r η=>∃ c s z,η=ET ns L most j c size s z/\s.length+r.length<=n/\(∀ x∈s,x∈L)/\∀ k∈r,k < n) (by
  rintro k r _ ⟨c,s,z,rfl,h1,h2,h3⟩
  rw [Za] at h1
  have hk:=h3 k Zt
  have l0:∀ η,ae 0 η=some (Md.fr,T.scr ns)->e2 oMod (bg ay (ab (ae 0) (ab (eC (.int 0)) ai))) (eC (.int 2)) η=some (.fr,.int (cellAt ns 0 % 2)):=fun η h=>e2v (jr (k:=0) h rfl) (y:=(.fr,.int 2)) rfl (dm (by decide))
  have cc:e2 oEq (e2 oMod (bg ay (ab (ae 0) (ab (eC (.int 0)) ai))) (eC (.int 2))) (eC (.int 0)) (ET ns L most j c size s (pc (.int k)))=some (.fr,.bl (cellAt ns 0 % 2 == 0)):=by
   refine e2v (l0 _ rfl) (y:=(.fr,.int 0)) rfl (gT rfl rfl ?_)
   simp only [eqT]
  have fin:∀ (c':Int) (x:Nat),x∈L->∃ c s_1 z,ET ns L most j c' size (s++[x]) (pc (.int k))=ET ns L most j c size s_1 z/\s_1.length+r.length<=n/\(∀ x∈s_1,x∈L)/\∀ k∈r,k < n:=fun c' x hx=>⟨_,_,_,rfl,by rw [Zs,ZO];omega,fun y hy=>(Zg.mp hy).elim (h2 y) (fun h=>Zb.mp h ▸ hx),fun k hk=>h3 k (Zx _ hk)⟩
  by_cases p:cellAt ns 0 % 2=0
  ·obtain ⟨x,hx,ex⟩:=vF (η:=ET ns L most j c size s (pc (.int k))) (e:=ae 4) (m:=.fr) (y:=c) hl rfl rfl
   refine ⟨ET ns L most j c size s (pc (.int k)),ET ns L most j (c / (L.length:Int)) size (s++[x]) (pc (.int k)),rfl,(jC (cc.trans (by rw [beq_iff_eq.mpr p]))).trans ((ak (zA ex (by omega))).trans ?_),fin _ x hx⟩
   exact aQ (m:=.fr) (t:=.int (c / (L.length:Int))) (e2v (x:=(.fr,.int c)) (y:=(.fr,.int (L.length:Int))) rfl rfl (eY (by omega))) (by decide) (by show 4 < 8;decide)
  ·obtain ⟨v,hv⟩:=yP c (30 * (j:Int)+k) (by omega) (by omega)
   obtain ⟨x,hx,ex⟩:=vF (η:=ET ns L most j c size s (pc (.int k))) (e:=e2 bD (bg fg (ab (ae 4) (ab (e2 cn (e2 iO (eC (.int 30)) (ae 3)) (ae 7)) ai))) (eC (.int 7))) (m:=.fr) (y:=v / 7) hl rfl (e2v (de (xv (x:=(.fr,.int c)) rfl (xv (r:=ai) (e2v (e2v (x:=(.fr,.int 30)) (y:=(.fr,.int (j:Int))) rfl rfl (ka (by decide))) (y:=(.fr,.int (k:Int))) rfl rfl) rfl)) hv) (y:=(.fr,.int 7)) rfl (eY (by decide)))
   exact ⟨ET ns L most j c size s (pc (.int k)),ET ns L most j c size (s++[x]) (pc (.int k)),rfl,(iN (cc.trans (by rw [ZR.mpr p]))).trans (zA ex (by omega)),fin _ x hx⟩) (List.range n) (ET ns L most j c size [] none) ⟨c,[],none,rfl,by rw [ZE];exact Xc (XC _),(fun _ h=>nomatch h),fun k hk=>YX.mp hk⟩
 exact ⟨c',s,z,e,h1,h2⟩
theorem zQ (ns:Wu) (L:Tx) (most:Int) (j:Nat) (hj:j<=1000) (hl:0 < L.length) (hl2:L.length < 1000) (h0:0<=most) (h1:most < 1000):∃ t:Tx,dG [.scr ns,.str L,.int most,.int j]=some (.fr,.str t)/\t.length<=most.toNat/\∀ x∈t,x∈L:=by
 generalize hc:cellAt ns (1+j)=c
 have b0:=Yq c (b:=most+1) (by omega)
 have b1:=Yy c (b:=most+1) (by omega)
 obtain ⟨c',s,z,e,g1,g2⟩:=t8 ns L most (c % (most+1)) j hj hl hl2 (c % (most+1)).toNat (by omega) (c / (most+1))
 refine ⟨s,?_,by omega,g2⟩
 have s1:aM 4 (bg ay (ab (ae 0) (ab (e2 cn (eC (.int 1)) (ae 3)) ai))) [pc (.scr ns),pc (.str L),pc (.int most),pc (.int j),none,none,none,none]=some (.nx [pc (.scr ns),pc (.str L),pc (.int most),pc (.int j),pc (.int c),none,none,none]):=by
  rw [← hc]
  refine aQ (m:=.fr) (jr (k:=1+j) rfl (e2v (x:=(.fr,.int 1)) (y:=(.fr,.int (j:Int))) rfl rfl ?_)) (by decide) (by show 4 < 8;decide)
  show some (Md.fr,T.int (1+(j:Int)))=_
  rw [show (1+(j:Int))=((1+j:Nat):Int) by omega]
 have s2:aM 5 (e2 oMod (ae 4) (e2 cn (ae 2) (eC (.int 1)))) [pc (.scr ns),pc (.str L),pc (.int most),pc (.int j),pc (.int c),none,none,none]=some (.nx [pc (.scr ns),pc (.str L),pc (.int most),pc (.int j),pc (.int c),pc (.int (c % (most+1))),none,none]):=aQ (m:=.fr) (e2v (x:=(.fr,.int c)) (y:=(.fr,.int (most+1))) rfl rfl (dm (by omega))) (by decide) (by show 5 < 8;decide)
 have s3:aM 4 (e2 bD (ae 4) (e2 cn (ae 2) (eC (.int 1)))) [pc (.scr ns),pc (.str L),pc (.int most),pc (.int j),pc (.int c),pc (.int (c % (most+1))),none,none]=some (.nx [pc (.scr ns),pc (.str L),pc (.int most),pc (.int j),pc (.int (c / (most+1))),pc (.int (c % (most+1))),none,none]):=aQ (m:=.fr) (e2v (x:=(.fr,.int c)) (y:=(.fr,.int (most+1))) rfl rfl (eY (by omega))) (by decide) (by show 4 < 8;decide)
 have s5:j4 (cY 7) (dF (ae 5)) eU (ET ns L most j (c / (most+1)) (c % (most+1)) [] none)=some (.nx (ET ns L most j c' (c % (most+1)) s z)):=by
  refine (iI (m:=.fr) ?_ rfl).trans e
  rw [iZ (m:=.fr) (j:=c % (most+1)) rfl (by omega),lr]
 refine fQ (η:=[pc (.scr ns),pc (.str L),pc (.int most),pc (.int j),pc (.int c'),pc (.int (c % (most+1))),pc (.lst (s.map fun x=>T.str [x])),z]) rfl ((ak s1).trans ((ak s2).trans ((ak s3).trans ((ak (η1:=ET ns L most j (c / (most+1)) (c % (most+1)) [] none) rfl).trans ((ak s5).trans ((ak (η1:=[pc (.scr ns),pc (.str L),pc (.int most),pc (.int j),pc (.int c'),pc (.int (c % (most+1))),pc (.lst (s.map fun x=>T.str [x])),z]) rfl).trans (da ?_)))))))
 have:=ny (m:=.fr) (n:=(up Md.pu (.lst (s.map fun x=>T.str [x]))).1) (strs_map (fun x=>[x]) s) (by rw [jx];omega)
 rw [jx] at this
 exact this
noncomputable abbrev EB (ns:Wu) (cell:Int) (L:Tx) (count most:Int):Env:=[pc (.scr ns),pc (.int cell),pc (.str L),pc (.int count),pc (.int most)]
theorem mY (ns:Wu) (L:Tx) (most count cell:Int) (h0:0<=most) (h1:most < 1000) (c0:0<=count) (c1:count<=8) (hl:0 < L.length) (hl2:L.length < 1000) (az:∀ c∈L,97<=c/\c<=122) :
  ∃ bk:List Tx,dU 1 (cY 0) (dF (ae 3)) none (bg dG (ab (ae 1) (ab (ae 3) (ab (ae 5) (ab (ae 0) ai))))) (EB ns cell L count most)=some (.fr,.lst (bk.map .str))/\bk.length<=8/\bk.flatten.length<=count.toNat * most.toNat/\∀ t∈bk,∀ c∈t,97<=c/\c<=122:=by
 have ex:∀ j:Nat,∃ t:Tx,j<=1000->dG [.scr ns,.str L,.int most,.int j]=some (.fr,.str t)/\t.length<=most.toNat/\∀ x∈t,x∈L:=fun j=>by
  by_cases hj:j<=1000
  ·obtain ⟨t,h⟩:=zQ ns L most j hj hl hl2 h0 h1
   exact ⟨t,fun _=>h⟩
  ·exact ⟨[],fun h=>absurd h hj⟩
 obtain ⟨f,hf⟩:=Classical.axiomOfChoice ex
 have hf':∀ j∈List.range count.toNat,j<=1000:=fun j hj=>by
  have:=YX.mp hj
  omega
 refine ⟨(List.range count.toNat).map f,?_,by rw [Zv,ZE];omega,?_,fun t ht c hc=>?_⟩
 ·rw [Z7]
  refine gw (m:=.fr) (fun (j:Nat)=>T.int (j:Int)) (fun j=>T.str (f j)) (List.range count.toNat) ?_ rfl (by rw [ZE];omega) fun j hj=>⟨_,rfl,de (xv (x:=(.fr,.scr ns)) rfl (xv (x:=(.fr,.str L)) rfl (xv (x:=(.fr,.int most)) rfl (xv (x:=(.fr,.int (j:Int))) (r:=ai) rfl rfl)))) (hf j (hf' j hj)).1⟩
  rw [iZ (m:=.fr) (j:=count) rfl (by omega),lr]
 ·generalize count.toNat=n at hf' ⊢
  have:∀ l:Wv,(∀ j∈l,j<=1000)->(l.map f).flatten.length<=l.length * most.toNat:=by
   intro l
   induction l with
   | nil=>intro _;exact Yn _
   | cons a l ih =>
    intro h
    have g1:=ih fun j hj=>h j (Zx _ hj)
    have g2:=(hf a (h a Zt)).2.1
    rw [Zm,ZL,Zs,Za,Nat.succ_mul]
    omega
  have:=this (List.range n) hf'
  rw [ZE] at this
  exact this
 ·obtain ⟨j,hj,rfl⟩:=Yr.mp ht
  exact az c ((hf j (hf' j hj)).2.2 c hc)
noncomputable def d8:List Tx:=[[97,98],[97,98,99],[97,98,99,100],[97,122],[97],[97,98,99,100,101,102,103,104,105,106,107,108,109,110,111,112,113,114,115,116,117,118,119,120,121,122]]
noncomputable def counts:Wu:=[1,2,3,4,2,1,0,8]
theorem pH:(∀ k,k < 6->0 < (d8.getD k []).length/\(d8.getD k []).length < 1000/\∀ c∈d8.getD k [],97<=c/\c<=122)/\∀ k,k < 8->0<=counts.getD k 0/\counts.getD k 0<=8:=by decide
theorem x6 {m n:Md} (c:Int) (h0:0<=c) (h1:c<=8):∃ most:Int,aN (m,.lst [.int 24,.int 12,.int 8,.int 6]) (n,.int ((if 4 < c then 4 else c) - 1))=some (.fr,.int most)/\0<=most/\most<=24/\c.toNat * most.toNat<=60:=by
 have:c=0\/c=1\/c=2\/c=3\/c=4\/4 < c:=by omega
 rcases this with rfl | rfl | rfl | rfl | rfl | h
 ·exact ⟨6,rfl,by decide,by decide,by decide⟩
 ·exact ⟨24,rfl,by decide,by decide,by decide⟩
 ·exact ⟨12,rfl,by decide,by decide,by decide⟩
 ·exact ⟨8,rfl,by decide,by decide,by decide⟩
 ·exact ⟨6,rfl,by decide,by decide,by decide⟩
 ·rw [Zr h]
  refine ⟨6,rfl,by decide,by decide,?_⟩
  show c.toNat * 6<=60
  omega
theorem Cc (ns:Wu):∃ bk:List Tx,gg [.scr ns]=some (.fr,.lst (bk.map .str))/\bk.length<=8/\bk.flatten.length<=120/\∀ t∈bk,∀ c∈t,97<=c/\c<=122:=by
 generalize hc:cellAt ns 0=cell
 have a0:=Yq (cell / 2) (b:=6) (by decide)
 have a1:=Yy (cell / 2) (b:=6) (by decide)
 have b0:=Yq (cell / 12) (b:=8) (by decide)
 have b1:=Yy (cell / 12) (b:=8) (by decide)
 have d0:=Yq (cell / 768) (b:=2) (by decide)
 have d1:=Yy (cell / 768) (b:=2) (by decide)
 obtain ⟨k1,k2,k3⟩:=pH.1 (cell / 2 % 6).toNat (by omega)
 obtain ⟨c0,c1⟩:=pH.2 (cell / 12 % 8).toNat (by omega)
 have li:=vI (m:=.fr) (n:=.fr) T.str d8 (cell / 2 % 6) [] a0 (by show cell / 2 % 6 < 6;exact a1) rfl
 have ci:=vI (m:=.fr) (n:=.fr) T.int counts (cell / 12 % 8) 0 b0 (by show cell / 12 % 8 < 8;exact b1) rfl
 have fd:∀ (η:Env) (q:Int),0 < q/\q < 1073741824->ae 1 η=some (Md.fr,T.int cell)->e2 bD (ae 1) (eC (.int q)) η=some (.fr,.int (cell / q)):=fun η q hq h=>e2v h (y:=(.fr,.int q)) rfl (eY hq)
 have fm:∀ (η:Env) (q r:Int),0 < q/\q < 1073741824->0 < r->ae 1 η=some (Md.fr,T.int cell)->e2 oMod (e2 bD (ae 1) (eC (.int q))) (eC (.int r)) η=some (.fr,.int (cell / q % r)):=fun η q r hq hr h=>e2v (fd η q hq h) (y:=(.fr,.int r)) rfl (dm hr)
 generalize d8.getD (cell / 2 % 6).toNat []=L at k1 k2 k3 li
 generalize counts.getD (cell / 12 % 8).toNat 0=count at c0 c1 ci
 obtain ⟨most,mi,m0,m1,m2⟩:=x6 (m:=.fr) (n:=.fr) count c0 c1
 have s1:aM 1 (bg ay (ab (ae 0) (ab (eC (.int 0)) ai))) [pc (.scr ns),none,none,none,none]=some (.nx [pc (.scr ns),pc (.int cell),none,none,none]):=by
  rw [← hc]
  exact aQ (m:=.fr) (jr (k:=0) rfl rfl) (by decide) (by show 1 < 5;decide)
 have q1:e2 oMod (e2 bD (ae 1) (eC (.int 2))) (eC (.int 6)) [pc (.scr ns),pc (.int cell),none,none,none]=some (.fr,.int (cell / 2 % 6)):=fm _ 2 6 (by decide) (by decide) rfl
 have q2:e2 oMod (e2 bD (ae 1) (eC (.int 12))) (eC (.int 8)) [pc (.scr ns),pc (.int cell),pc (.str L),none,none]=some (.fr,.int (cell / 12 % 8)):=fm _ 12 8 (by decide) (by decide) rfl
 have five:∀ x,e2 oMod (e2 bD (ae 1) (eC (.int 96))) (eC (.int 8)) (EB ns cell L count x)=some (.fr,.int (cell / 96 % 8)):=fun x=>fm _ 96 8 (by decide) (by decide) rfl
 have fin:∀ (x:Int),0<=x->x < 1000->count.toNat * x.toNat<=120->∃ bk:List Tx,(ar (sIf (eZ (e2 oEq (ae 3) (eC (.int 8))) (e2 oNe (e2 oMod (e2 bD (ae 1) (eC (.int 96))) (eC (.int 8))) (eC (.int 5)))) (aM 4 (eC (.int 3))) d2) (fq (dU 1 (cY 0) (dF (ae 3)) none (bg dG (ab (ae 1) (ab (ae 3) (ab (ae 5) (ab (ae 0) ai)))))))) (EB ns cell L count x)=some (.rt (.fr,.lst (bk.map .str)) (EB ns cell L count (if (count == 8 && !(cell / 96 % 8 == 5))=true then 3 else x)))/\bk.length<=8/\bk.flatten.length<=120/\∀ t∈bk,∀ c∈t,97<=c/\c<=122:=by
  intro x x0 x1 x2
  have cc:eZ (e2 oEq (ae 3) (eC (.int 8))) (e2 oNe (e2 oMod (e2 bD (ae 1) (eC (.int 96))) (eC (.int 8))) (eC (.int 5))) (EB ns cell L count x)=some (.fr,.bl (count == 8 && !(cell / 96 % 8 == 5))):=by
   refine pU (m:=.fr) (n:=.fr) (e2v (x:=(.fr,.int count)) (y:=(.fr,.int 8)) rfl rfl (gT rfl rfl ?_)) (e2v (five x) (y:=(.fr,.int 5)) rfl (Du rfl rfl ?_))
   ·simp only [eqT]
   ·simp only [eqT]
  cases hb:(count == 8 && !(cell / 96 % 8 == 5)) with
  | true =>
   rw [hb] at cc
   have c8:count=8:=beq_iff_eq.mp (Y9.mp hb).1
   obtain ⟨bk,e,g1,g2,g3⟩:=mY ns L 3 count cell (by decide) (by decide) c0 c1 k1 k2 k3
   exact ⟨bk,(ak ((jC cc).trans (show aM 4 (eC (.int 3)) (EB ns cell L count x)=some (.nx (EB ns cell L count 3)) from rfl))).trans (da e),g1,ZG g2 (by rw [c8];decide),g3⟩
  | false =>
   rw [hb] at cc
   obtain ⟨bk,e,g1,g2,g3⟩:=mY ns L x count cell x0 x1 c0 c1 k1 k2 k3
   exact ⟨bk,(ak ((iN cc).trans rfl)).trans (da e),g1,by omega,g3⟩
 have pre:∀ rest:Sx,ar (aM 1 (bg ay (ab (ae 0) (ab (eC (.int 0)) ai)))) (ar (aM 2 (e2 aN (dz (ab (eC (.str [97,98])) (ab (eC (.str [97,98,99])) (ab (eC (.str [97,98,99,100])) (ab (eC (.str [97,122])) (ab (eC (.str [97])) (ab (eC (.str [97,98,99,100,101,102,103,104,105,106,107,108,109,110,111,112,113,114,115,116,117,118,119,120,121,122])) ai))))))) (e2 oMod (e2 bD (ae 1) (eC (.int 2))) (eC (.int 6))))) (ar (aM 3 (e2 aN (dz (ab (eC (.int 1)) (ab (eC (.int 2)) (ab (eC (.int 3)) (ab (eC (.int 4)) (ab (eC (.int 2)) (ab (eC (.int 1)) (ab (eC (.int 0)) (ab (eC (.int 8)) ai))))))))) (e2 oMod (e2 bD (ae 1) (eC (.int 12))) (eC (.int 8))))) (ar (aM 4 (e2 aN (dz (ab (eC (.int 24)) (ab (eC (.int 12)) (ab (eC (.int 8)) (ab (eC (.int 6)) ai))))) (e2 iU (eN nk (ab (ae 3) (ab (eC (.int 4)) ai))) (eC (.int 1))))) rest))) [pc (.scr ns),none,none,none,none]=rest (EB ns cell L count most):=fun rest =>
  (ak s1).trans ((ak (aQ (m:=.fr) (e2v (x:=(.fr,.lst (d8.map T.str))) rfl q1 li) (by decide) (by show 2 < 5;decide))).trans ((ak (aQ (m:=.fr) (e2v (x:=(.fr,.lst (counts.map T.int))) rfl q2 ci) (by decide) (by show 3 < 5;decide))).trans (ak (aQ (m:=.fr) (e2v (x:=(.fr,.lst [.int 24,.int 12,.int 8,.int 6])) rfl (y:=(.fr,.int ((if 4 < count then 4 else count) - 1))) rfl mi) (by decide) (by show 4 < 5;decide)))))
 have c5:e2 oEq (e2 oMod (e2 bD (ae 1) (eC (.int 96))) (eC (.int 8))) (eC (.int 5)) (EB ns cell L count most)=some (.fr,.bl (cell / 96 % 8 == 5)):=by
  refine e2v (five most) (y:=(.fr,.int 5)) rfl (gT rfl rfl ?_)
  simp only [eqT]
 cases hb:(cell / 96 % 8 == 5) with
 | true =>
  rw [hb] at c5
  have hQ:∃ Q:Int,(Q=60\/Q=120)/\e2 aN (dz (ab (eC (.int 60)) (ab (eC (.int 120)) ai))) (e2 oMod (e2 bD (ae 1) (eC (.int 768))) (eC (.int 2))) (EB ns cell L count most)=some (.fr,.int Q):=by
   have q3:e2 oMod (e2 bD (ae 1) (eC (.int 768))) (eC (.int 2)) (EB ns cell L count most)=some (.fr,.int (cell / 768 % 2)):=fm _ 768 2 (by decide) (by decide) rfl
   have:cell / 768 % 2=0\/cell / 768 % 2=1:=by omega
   rcases this with h | h
   ·rw [h] at q3
    exact ⟨60,.inl rfl,e2v (x:=(.fr,.lst [.int 60,.int 120])) rfl q3 rfl⟩
   ·rw [h] at q3
    exact ⟨120,.inr rfl,e2v (x:=(.fr,.lst [.int 60,.int 120])) rfl q3 rfl⟩
  obtain ⟨Q,hq,eq⟩:=hQ
  have mx:(1:Int)<=(if count > 1 then count else 1)/\(if count > 1 then count else 1)<=8/\count<=(if count > 1 then count else 1):=by split <;> omega
  generalize hM:(if count > 1 then count else 1)=M at mx
  have s5:aM 4 (e2 bD (e2 aN (dz (ab (eC (.int 60)) (ab (eC (.int 120)) ai))) (e2 oMod (e2 bD (ae 1) (eC (.int 768))) (eC (.int 2)))) (eN ng (ab (eC (.int 1)) (ab (ae 3) ai)))) (EB ns cell L count most)=some (.nx (EB ns cell L count (Q / M))):=by
   refine aQ (m:=.fr) (e2v eq (y:=(.fr,.int M)) ?_ (eY (by omega))) (by decide) (by show 4 < 5;decide)
   rw [← hM]
   rfl
  have x0:0<=Q / M:=Int.ediv_nonneg (by omega) (by omega)
  have x1:M * (Q / M)<=Q:=Int.mul_ediv_self_le (by omega)
  have x2:count * (Q / M)<=M * (Q / M):=X9 mx.2.2 x0
  have x3:1 * (Q / M)<=M * (Q / M):=X9 mx.1 x0
  have x4:count.toNat * (Q / M).toNat<=120:=by
   have:((count.toNat * (Q / M).toNat:Nat):Int)=count * (Q / M):=by rw [Int.natCast_mul,Int.toNat_of_nonneg c0,Int.toNat_of_nonneg x0]
   omega
  obtain ⟨bk,e,g⟩:=fin (Q / M) x0 (by omega) x4
  exact ⟨bk,fQ rfl ((pre _).trans ((ak ((jC c5).trans s5)).trans e)),g⟩
 | false =>
  rw [hb] at c5
  obtain ⟨bk,e,g⟩:=fin most m0 (by omega) (by omega)
  exact ⟨bk,fQ rfl ((pre _).trans ((ak ((iN c5).trans rfl)).trans e)),g⟩
end T07
end
section
namespace T07
open VS AU
theorem n9:∀ l:List Tx,fj (l.map T.str)=true
 | []=>rfl
 | _ :: l=>by
  rw [Zm]
  show (true && fj _)=true
  rw [n9 l]
  rfl
theorem tV (bk:List Tx):cE bk=bk.flatten.length:=by
 unfold cE
 rw [List.length_flatten]
theorem dr (t:Tx) (l:List Tx):cE (t :: l)=t.length+cE l:=by unfold cE;rw [Zm,XI]
theorem ly (a b:List Tx):cE (a++b)=cE a+cE b:=by
 unfold cE
 rw [ZA,List.sum_append]
theorem lE {t:Tx}:∀ {l:List Tx},t∈l->t.length<=cE l
 | [],h=>nomatch h
 | a :: l,h=>by
  rw [dr]
  rcases Zi.mp h with rfl | h
  ·omega
  ·have:=lE h;omega
theorem g9:∀ (l:List Tx) (i:Nat) (w:Tx),i < l.length->cE (l.set i (l.getD i []++w))=cE l+w.length
 | [],_,_,h=>absurd h (XZ _)
 | a :: l,0,w,_=>by
  show cE ((a++w) :: l)=_
  rw [dr,dr,Zs]
  omega
 | a :: l,i+1,w,h=>by
  show cE (a :: l.set i (l.getD i []++w))=_
  rw [dr,dr,g9 l i w (by simpa using h)]
  omega
structure MK (tx:List Tx) (hd:Wv) (S:St):Prop where
 k:∃ nd wd,K (Hd tx) S nd wd/\wd.length<=1+2 * cE tx/\∀ i,i < tx.length->hd.getD i 0 < wd.length/\W wd (hd.getD i 0)=tx.getD i []
 len:hd.length=tx.length
 few:tx.length<=8
 sum:cE tx<=120
 az:∀ t∈tx,∀ c∈t,97<=c/\c<=122
theorem mk0:MK [] [] S0:=⟨⟨nd0,[[]],K0.congr fun p=>⟨fun h=>.inl h,fun h=>h.elim id (fun ⟨_,z,_⟩=>nomatch z)⟩,by decide,fun i h=>absurd h (XZ _)⟩,rfl,by decide,by decide,fun t h=>nomatch h⟩
theorem lG {α:Type} (l:List α) (x d:α) {i:Nat} (h:i < l.length):(l++[x]).getD i d=l.getD i d:=(bC l x d i).trans (Zp (by omega))
theorem MK.begin {tx:List Tx} {hd:Wv} {S:St} (h:MK tx hd S) (h8:tx.length < 8):MK (tx++[[]]) (hd++[0]) S:=by
 obtain ⟨nd,wd,H,l,g⟩:=h.k
 have s0:cE (tx++[[]])=cE tx:=by rw [ly];rfl
 refine ⟨⟨nd,wd,H.congr fun p=>?_,by rw [s0];exact l,fun i hi=>?_⟩,by rw [Zs,Zs,h.len];rfl,by rw [Zs,ZO];omega,by rw [s0];exact h.sum,fun t ht=>?_⟩
 ·constructor
  ·rintro (z | ⟨t,ht,z⟩)
   ·exact .inl z
   ·exact .inr ⟨t,Z9 _ ht,z⟩
  ·rintro (z | ⟨t,ht,z⟩)
   ·exact .inl z
   ·rcases Zg.mp ht with ht | ht
    ·exact .inr ⟨t,ht,z⟩
    ·rw [Zb.mp ht] at z
     exact .inl (List.prefix_nil.mp z)
 ·rw [Zs,ZO] at hi
  by_cases q:i < tx.length
  ·rw [lG _ _ _ q,lG _ _ _ (by rw [h.len];exact q)]
   exact g i q
  ·have e:i=tx.length:=by omega
   subst e
   rw [bC,Zr h.len.symm,bC,Zr rfl]
   exact ⟨H.i.lt H.i.z,H.i.wz⟩
 ·rcases Zg.mp ht with ht | ht
  ·exact h.az t ht
  ·rw [Zb.mp ht]
   exact fun c hc=>nomatch hc
theorem Xh {l:List Tx} {i:Nat} (h:i < l.length):l.getD i []∈l:=by
 rw [Zu,Zo h]
 exact Z6 h
theorem A2 {tx:List Tx} {i:Nat} {w:Tx} (hi:i < tx.length) (p:Tx):(Hd tx p\/∃ v,v <+: w/\p=tx.getD i []++v) ↔ Hd (tx.set i (tx.getD i []++w)) p:=by
 have hs:tx.getD i []++w∈tx.set i (tx.getD i []++w):=List.mem_set hi _
 constructor
 ·rintro ((z | ⟨t,ht,z⟩) | ⟨v,hv,rfl⟩)
  ·exact .inl z
  ·obtain ⟨j,hj,e⟩:=Y8.mp ht
   by_cases q:i=j
   ·subst q
    have:tx.getD i []=t:=by rw [Zu,Zo hj,e];rfl
    exact .inr ⟨_,hs,by rw [this];exact z.trans (XF _ _)⟩
   ·refine .inr ⟨t,Y8.mpr ⟨j,by rw [ZJ];exact hj,by rw [List.getElem_set_ne q];exact e⟩,z⟩
  ·exact .inr ⟨_,hs,(Xy _).mpr hv⟩
 ·rintro (z | ⟨t,ht,z⟩)
  ·exact .inl (.inl z)
  ·rcases YJ ht with ht | rfl
   ·exact .inl (.inr ⟨t,ht,z⟩)
   ·by_cases q:p.length<=(tx.getD i []).length
    ·exact .inl (.inr ⟨_,Xh hi,X3 z (XF _ _) q⟩)
    ·obtain ⟨v,rfl⟩:=X3 (XF _ _) z (by omega)
     exact .inr ⟨v,(Xy _).mp z,rfl⟩
theorem iG {α:Type} (l:List α) {i j:Nat} (x d:α) (hi:i < l.length):(l.set i x).getD j d=if i=j then x else l.getD j d:=by
 rw [fN]
 by_cases h:i=j
 ·rw [Zr ⟨h,hi⟩,Zr h]
 ·rw [Zp (fun z=>h z.1),Zp h]
theorem MK.grow {tx:List Tx} {hd:Wv} {S:St} (h:MK tx hd S) {i:Nat} {w:Tx} (hi:i < tx.length) (hw:∀ c∈w,97<=c/\c<=122) (hs:cE tx+w.length<=120) :
  ∃ hd' S',av (fsM tx hd S) [.int (i:Int),.str w]=some (fsM (tx.set i (tx.getD i []++w)) hd' S',.non)/\MK (tx.set i (tx.getD i []++w)) hd' S':=by
 obtain ⟨nd,wd,H,l,g⟩:=h.k
 obtain ⟨g1,g2⟩:=g i hi
 have tl:(tx.getD i []).length<=cE tx:=lE (Xh hi)
 have ph:Hd tx (W wd (hd.getD i 0)):=by rw [g2];exact .inr ⟨_,Xh hi,List.prefix_rfl⟩
 obtain ⟨S',r,nd',wd',e,H',a1,a2,a3,a4,a5⟩:=H.grow w g1 ph hw (by rw [g2];have:=h.sum;omega)
 have sm:=h.sum
 have hil:i < hd.length:=by rw [h.len];exact hi
 refine ⟨hd.set i r,S',y0 H.i.wf h.len hi h.few hs (by rw [← H.i.len];omega) (by rw [← H.i.len];exact g1) hw (by omega) e,⟨⟨nd',wd',H'.congr fun p=>?_,by rw [g9 tx i w hi];omega,fun j hj=>?_⟩,by rw [ZJ,ZJ,h.len],by rw [ZJ];exact h.few,by rw [g9 tx i w hi];exact hs,fun t ht=>?_⟩⟩
 ·rw [g2]
  exact A2 hi p
 ·rw [ZJ] at hj
  rw [iG hd r 0 hil,iG tx _ [] hi]
  by_cases q:i=j
  ·rw [Zr q,Zr q]
   exact ⟨a1,by rw [a2,g2]⟩
  ·rw [Zp q,Zp q]
   obtain ⟨b1,b2⟩:=g j hj
   exact ⟨by omega,(a3 _ b1).trans b2⟩
 ·rcases YJ ht with ht | rfl
  ·exact h.az t ht
  ·intro c hc
   rcases Zg.mp hc with hc | hc
   ·exact h.az _ (Xh hi) c hc
   ·exact hw c hc
noncomputable def tbl (S:St):List Row:=((bfs S 1000 [0] 0).map (tab S)).getD []
theorem MK.same {tx:List Tx} {hd hd':Wv} {S S':St} (h:MK tx hd S) (h':MK tx hd' S'):tbl S=tbl S':=by
 obtain ⟨_,_,H,_⟩:=h.k
 obtain ⟨_,_,H',_⟩:=h'.k
 unfold tbl
 rw [H.same H' 1000]
theorem MK.tab {tx:List Tx} {hd:Wv} {S:St} (h:MK tx hd S) (b:Bool):bL [maT tx hd S b]=some (.fr,tbT (tbl S)):=by
 obtain ⟨nd,wd,H,l,_⟩:=h.k
 have sm:=h.sum
 obtain ⟨m,e2,_,e3,e4⟩:=H.met (k:=1000) (by omega)
 have t1:=zN H.i.wf (by rw [← H.i.len];omega) (k:=1000) (by decide) e2 (fun x=>by rw [e3,H.i.len]) (by omega)
 have et:tbl S=AU.tab S (0 :: m):=by unfold tbl;rw [e2];rfl
 refine fQ (η:=[pc (maT tx hd S b)]) rfl (da ?_)
 have f6:bc 6 (ae 0) [pc (maT tx hd S b)]=some (.pu,obT S false):=gk (m:=.pu) (t:=maT tx hd S b) rfl (EI tx hd S b)
 unfold dc
 show ((bc 6 (ae 0) [pc (maT tx hd S b)]).bind _)=_
 rw [f6]
 show ((dB [obT S false]).bind _)=_
 rw [t1,et]
 rfl
theorem vo {a:Ex} {η:Env} {m:Md} {l:List Tx} (h:a η=some (m,.lst (l.map .str))) (hl:l.length<=8):eN gv (ab a ai) η=some (.fr,.lst (l.map .str)):=i9 (xv (r:=ai) h rfl) (by
 show mkL m (l.map T.str)=_
 unfold mkL
 rw [Zr (by rw [Zv];show l.length<=16777216;omega),n9]
 rfl)
theorem MK.book {tx:List Tx} {hd:Wv} {S:St} (h:MK tx hd S) (b:Bool):dX [maT tx hd S b]=some (.fr,.lst (tx.map .str)) :=
 fQ (η:=[pc (maT tx hd S b)]) rfl (da (vo (gk (m:=.pu) (t:=maT tx hd S b) rfl (vg tx hd S b)) h.few))
theorem jg {i:Nat} {η:Env} {tx:List Tx} {hd:Wv} {S:St} {b:Bool} (h:MK tx hd S) (h8:tx.length < 8) (e:η[i]?=some (oc (maT tx hd S b))):aT i [] 1 [] ax ai η=some ((.fr,.int (tx.length:Int)),η.set i (oc (maT (tx++[[]]) (hd++[0]) S b))):=by
 unfold aT
 rw [e]
 show ((gh 1 [] ax [] (maT tx hd S b)).map _)=_
 have:gh 1 [] ax [] (maT tx hd S b)=some (maT (tx++[[]]) (hd++[0]) S b,(.fr,.int (tx.length:Int))):=by
  show (if 2=1+1/\cZ (fsM tx hd S)=true/\argsOk [] []=true/\bw (trees [])=true then (ax (fsM tx hd S) (trees [])).bind fun z=>if cZ z.1=true/\imm z.2=true then some (T.obj 2 ((0,.bl b) :: z.1),(Md.fr,z.2)) else none else none)=_
  rw [Zr ⟨rfl,fD tx hd S,rfl,rfl⟩,show trees []=[] from rfl,oH h8 h.len,Zw,Zr ⟨fD _ _ _,rfl⟩]
  rfl
 rw [this]
 rfl
theorem iT {tx tx':List Tx} {hd hd':Wv} {S S':St} {b:Bool} {i:Nat} {w:Tx} (e:av (fsM tx hd S) [.int (i:Int),.str w]=some (fsM tx' hd' S',.non)):gh 1 [false,false] av [(.fr,.int (i:Int)),(.fr,.str w)] (maT tx hd S b)=some (maT tx' hd' S' b,(.fr,.non)):=by
 show (if 2=1+1/\cZ (fsM tx hd S)=true/\argsOk [false,false] [(Md.fr,T.int (i:Int)),(Md.fr,T.str w)]=true/\bw (trees [(Md.fr,T.int (i:Int)),(Md.fr,T.str w)])=true then (av (fsM tx hd S) (trees [(Md.fr,T.int (i:Int)),(Md.fr,T.str w)])).bind fun z=>if cZ z.1=true/\imm z.2=true then some (T.obj 2 ((0,.bl b) :: z.1),(Md.fr,z.2)) else none else none)=_
 rw [Zr ⟨rfl,fD tx hd S,rfl,rfl⟩,show trees [(Md.fr,T.int (i:Int)),(Md.fr,T.str w)]=[T.int (i:Int),T.str w] from rfl,e,Zw,Zr ⟨fD _ _ _,rfl⟩]
 rfl
theorem mP {j:Nat} {η:Env} {tx tx':List Tx} {hd hd':Wv} {S S':St} {b:Bool} {i:Nat} {w:Tx} {e1 e2:Ex} (e:av (fsM tx hd S) [.int (i:Int),.str w]=some (fsM tx' hd' S',.non)) (h:η[j]?=some (oc (maT tx hd S b))) (h1:e1 η=some (.fr,.int (i:Int))) (h2:e2 η=some (.fr,.str w)) :
  aT j [] 1 [false,false] av (ab e1 (ab e2 ai)) η=some ((.fr,.non),η.set j (oc (maT tx' hd' S' b))):=by
 unfold aT
 rw [h]
 show ((ab e1 (ab e2 ai) η).bind fun xs=>(pm (gh 1 [false,false] av xs) [] (maT tx hd S b)).map _)=_
 rw [xv h1 (xv (r:=ai) h2 rfl),Zw]
 show ((gh 1 [false,false] av [(.fr,.int (i:Int)),(.fr,.str w)] (maT tx hd S b)).map _)=_
 rw [iT e]
 rfl
theorem uI {α:Type} (l:List α) (x d:α):(l++[x]).getD l.length d=x:=(bC l x d l.length).trans (Zr rfl)
theorem xb {α:Type} (l:List α) (x y:α):(l++[x]).set l.length y=l++[y]:=by
 rw [List.set_append_right _ _ (Zk _),Nat.sub_self]
 rfl
theorem BC:∀ (rest:List Tx) {tx:List Tx} {hd:Wv} {S:St} {B:T} {z:Ws},MK tx hd S->tx.length+rest.length<=8->cE tx+cE rest<=120->(∀ t∈rest,∀ c∈t,97<=c/\c<=122) →
  ∃ hd' S' z',forL (cY 2) bB (rest.map .str) [oc (maT tx hd S true),pc B,z]=some (.nx [oc (maT (tx++rest) hd' S' true),pc B,z'])/\MK (tx++rest) hd' S':=by
 intro rest
 induction rest with
 | nil =>
  intro tx hd S B z h _ _ _
  exact ⟨hd,S,z,by rw [ZM];rfl,by rw [ZM];exact h⟩
 | cons t rest ih =>
  intro tx hd S B z h h8 hs hc
  rw [Za] at h8
  rw [dr] at hs
  have hb:=h.begin (by omega)
  have s0:cE (tx++[[]])=cE tx:=by rw [ly];rfl
  obtain ⟨hd1,S1,eg,hg⟩:=hb.grow (i:=tx.length) (w:=t) (by rw [Zs];exact Yl _) (hc t Zt) (by rw [s0];omega)
  rw [uI,xb,XY] at eg hg
  obtain ⟨hd',S',z',q,hq⟩:=ih (tx:=tx++[t]) (B:=B) (z:=pc (.str t)) hg (by rw [Zs,ZO];omega) (by rw [ly,show cE [t]=t.length from by rw [dr];rfl];omega) (fun u hu=>hc u (Zx _ hu))
  refine ⟨hd',S',z',?_,by rw [Z8] at hq;exact hq⟩
  rw [Zm]
  refine (ji (η1:=[oc (maT tx hd S true),pc B,pc (.str t)]) rfl ?_).trans (q.trans (by rw [Z8];rfl))
  have x1:=jg (i:=0) (η:=[oc (maT tx hd S true),pc B,pc (.str t)]) (b:=true) h (by omega) rfl
  have x2:lW 0 1 [false,false] av (aT 0 [] 1 [] ax ai) (ab (ae 2) ai) [oc (maT tx hd S true),pc B,pc (.str t)]=some ((.fr,.non),[oc (maT (tx++[t]) hd1 S1 true),pc B,pc (.str t)]):=by
   unfold lW
   rw [Zr (show Bm 1 [oc (maT tx hd S true),pc B,pc (T.str t)][0]?=true from rfl),x1,Zw,Zr (show imm (T.int (tx.length:Int))=true from rfl)]
   show ((gh 1 [false,false] av [(Md.fr,T.int (tx.length:Int)),(Md.fr,T.str t)] (maT (tx++[[]]) (hd++[0]) S true)).map _)=_
   rw [iT eg]
   rfl
  unfold bB sXM
  rw [x2]
  rfl
theorem qW {bk:List Tx} (h8:bk.length<=8) (hs:cE bk<=120) (az:∀ t∈bk,∀ c∈t,97<=c/\c<=122) {arg:Ex} {η:Env} {m:Md} (ha:arg η=some (m,.lst (bk.map .str))):∃ hd S,eNew 1 aE (ab arg ai) η=some (.fr,maT bk hd S false)/\MK bk hd S:=by
 obtain ⟨hd,S,z,q,hk⟩:=BC bk (tx:=[]) (hd:=[]) (S:=S0) (B:=.lst (bk.map .str)) (z:=none) mk0 (by rw [Xu,XC];exact h8) (by show 0+cE bk<=120;omega) az
 rw [XY] at q hk
 refine ⟨hd,S,?_,hk⟩
 have im:aE [] [.lst (bk.map .str)]=some (fsM bk hd S,.non):=by
  unfold aE mfn
  rw [Zr ⟨rfl,rfl⟩]
  have f:=(iI (tg:=cY 2) (it:=iL (ae 1)) (body:=bB) (η:=[oc (maT [] [] S0 true),pc (.lst (bk.map .str)),none]) (m:=.pu) (l:=bk.map .str) rfl rfl).trans q
  have body:=(ak (a:=gS 0 4 (dz ai)) (b:=ar (gS 0 5 (dz ai)) (ar (gS 0 6 (eNew 0 dk ai)) (sIf (fA (ae 1)) (j4 (cY 2) (iL (ae 1)) bB) d2))) (η:=[oc (.obj 2 [(0,.bl true)]),pc (.lst (bk.map .str)),none]) (η1:=[oc (.obj 2 [(0,.bl true),(4,.lst [])]),pc (.lst (bk.map .str)),none]) rfl).trans
   ((ak (η1:=[oc (.obj 2 [(0,.bl true),(4,.lst []),(5,.lst [])]),pc (.lst (bk.map .str)),none]) rfl).trans ((ak (η1:=[oc (maT [] [] S0 true),pc (.lst (bk.map .str)),none]) rfl).trans ((jC (m:=.fr) rfl).trans f)))
  exact congrArg (fun z:Option Out=>z.bind _) body
 unfold eNew
 rw [xv (r:=ai) ha rfl,Zw]
 have hno:bw (trees [(m,T.lst (bk.map .str))])=true:=by
  show (bw (bk.map T.str) && true)=true
  rw [cX _ (fun _=>rfl)]
  rfl
 rw [Zr hno,show trees [(m,T.lst (bk.map .str))]=[T.lst (bk.map .str)] from rfl,im,Zw,Zr ⟨fD _ _ _,rfl⟩]
 rfl
theorem qX (η:Env):eNew 1 aE (ab (eC .non) ai) η=some (.fr,maT [] [] S0 false):=rfl
theorem zc (r:Row):eqD 59 (qm r)=true:=by
 have h1:eqD 58 (lkT r.2.2.1)=true:=by cases r.2.2.1 <;> rfl
 have h2:eqD 58 (stT r.2.2.2)=true:=by
  show (r.2.2.2.map fun p=>T.tup [.str [p.1],.int (p.2:Int)]).all (eqD 57)=true
  rw [Yv]
  intro x hx
  obtain ⟨p,_,rfl⟩:=Yr.mp hx
  rfl
 show (true && (true && (eqD 58 (lkT r.2.2.1) && (eqD 58 (stT r.2.2.2) && true))))=true
 rw [h1,h2]
 rfl
theorem qL (t:List Row):eqD 60 (tbT t)=true:=by
 show (t.map qm).all (eqD 59)=true
 rw [Yv]
 intro x hx
 obtain ⟨r,_,rfl⟩:=Yr.mp hx
 exact zc r
theorem zE {m n:Md} {s t:List Row} (h:s=t):oEq (m,tbT s) (n,tbT t)=some (.fr,.bl true):=by
 subst h
 exact gT (qL s) (qL s) (lV 60 _ (qL s))
theorem og (l:List Tx):eqD 60 (.lst (l.map .str))=true:=by
 show (l.map T.str).all (eqD 59)=true
 rw [Yv]
 intro x hx
 obtain ⟨t,_,rfl⟩:=Yr.mp hx
 rfl
theorem qk {m n:Md} (l:List Tx):oEq (m,.lst (l.map .str)) (n,.lst [])=some (.fr,.bl l.isEmpty):=by
 refine gT (og l) rfl ?_
 cases l with
 | nil=>rfl
 | cons t r=>simp
theorem kC {g:Fn} {ca:Ex} {η:Env} {m:Md} {tx:List Tx} {hd:Wv} {S:St} {b:Bool} {t:T} (h:ca η=some (m,maT tx hd S b)) (hg:g [maT tx hd S b]=some (.fr,t)):dc 1 g ca ai η=some (.fr,t):=by
 unfold dc
 rw [h]
 show ((g [maT tx hd S b]).bind _)=_
 rw [hg]
 rfl
theorem kF {tx:List Tx} {hd:Wv} {S:St} (h:MK tx hd S):cA [maT tx hd S false,.lst (tx.map .str)]=some (.fr,.bl true):=by
 refine fQ (η:=[pc (maT tx hd S false),pc (.lst (tx.map .str))]) rfl (da (pU (m:=.fr) (n:=.fr) (x:=true) (y:=true) ?_ ?_))
 ·exact e2v (kC (m:=.pu) rfl (h.book false)) (y:=(.pu,.lst (tx.map .str))) rfl (gT (og tx) (og tx) (lV 60 _ (og tx)))
 ·obtain ⟨hd',S',e,h'⟩:=qW h.few h.sum h.az (arg:=eN gv (ab (ae 1) ai)) (η:=[pc (maT tx hd S false),pc (.lst (tx.map .str))]) (vo (m:=.pu) rfl h.few)
  exact e2v (kC (m:=.pu) rfl (h.tab false)) (kC e (h'.tab false)) (zE (h.same h'))
noncomputable def Kp:List Tx->List Tx->Prop
 | [],_=>True
 | t :: tx,b :: B=>t <+: b/\Kp tx B
 | _ :: _,[]=>False
theorem Kp.len:∀ {tx B:List Tx},Kp tx B->tx.length<=B.length
 | [],_,_=>Yn _
 | _ :: _,_ :: _,h=>Y4 (Kp.len h.2)
 | _ :: _,[],h=>h.elim
theorem Kp.sum:∀ {tx B:List Tx},Kp tx B->cE tx<=cE B
 | [],_,_=>Yn _
 | _ :: _,_ :: _,h=>by
  rw [dr,dr]
  exact Nat.add_le_add h.1.length_le (Kp.sum h.2)
 | _ :: _,[],h=>h.elim
theorem Kp.get:∀ {tx B:List Tx} {i:Nat},Kp tx B->i < tx.length->tx.getD i [] <+: B.getD i []
 | [],_,_,_,h=>absurd h (XZ _)
 | _ :: _,_ :: _,0,h,_=>h.1
 | _ :: _,_ :: _,i+1,h,hi=>by
  have:=Kp.get (i:=i) h.2 (by simpa using hi)
  exact this
 | _ :: _,[],_,h,_=>h.elim
theorem Kp.app:∀ {tx B:List Tx},Kp tx B->tx.length < B.length->Kp (tx++[[]]) B
 | [],b :: B,_,_=>⟨List.nil_prefix,trivial⟩
 | [],[],_,h=>absurd h (Yp _)
 | _ :: _,_ :: _,h,hl=>⟨h.1,Kp.app h.2 (by simpa using hl)⟩
 | _ :: _,[],h,_=>h.elim
theorem Kp.set:∀ {tx B:List Tx} {i:Nat} {v:Tx},Kp tx B->v <+: B.getD i []->Kp (tx.set i v) B
 | [],_,_,_,_,_=>trivial
 | _ :: _,_ :: _,0,_,h,hv=>⟨hv,h.2⟩
 | _ :: _,_ :: _,i+1,_,h,hv=>⟨h.1,Kp.set h.2 hv⟩
 | _ :: _,[],_,_,h,_=>h.elim
theorem Kp.all:∀ {tx B:List Tx},Kp tx B->tx.length=B.length->(∀ i,i < tx.length->tx.getD i []=B.getD i [])->tx=B
 | [],[],_,_,_=>rfl
 | [],_ :: _,_,h,_=>by simp at h
 | t :: tx,b :: B,h,hl,he=>by
  have h0:t=b:=he 0 (Nat.zero_lt_succ _)
  rw [h0,Kp.all h.2 (by simpa using hl) fun i hi=>he (i+1) (by simpa using hi)]
 | _ :: _,[],h,_,_=>h.elim
noncomputable abbrev tl (l:List Tx):T:=.lst (l.map .str)
noncomputable abbrev ED (M k B:T) (cell:Int) (z4 z5 z6 z7:Ws):Env:=[oc (mkT 1 M),pc B,oc (mkT 3 k),pc (.int cell),z4,z5,z6,z7]
theorem C4 {M B:T} {cell:Int} {z4 z5 z6 z7:Ws} {tx:List Tx} (h:tx.length<=8):sX (fY 2 [.un] aD (ab (eC (.str [])) ai)) (ED M (.lst (tx.map .str)) B cell z4 z5 z6 z7)=some (.nx (ED M (.lst ((tx++[[]]).map .str)) B cell z4 z5 z6 z7)):=by
 show ((((aD (.lst (tx.map T.str)) [(.fr,.str [])]).map _).map _).map _)=_
 rw [dH (by rw [Zv];omega),show (tx.map T.str)++[.str []]=(tx++[[]]).map T.str from by rw [ZA];rfl]
 rfl
theorem CU {M B:T} {cell:Int} {z4 z6 z7:Ws} {tx:List Tx} {i:Nat} {v:Tx} {e:Ex} (hi:i < tx.length) (hv:e (ED M (.lst (tx.map .str)) B cell z4 (pc (.int (i:Int))) z6 z7)=some (.fr,.str v)):du 2 [.un] (ae 5) e (ED M (.lst (tx.map .str)) B cell z4 (pc (.int (i:Int))) z6 z7)=some (.nx (ED M (.lst ((tx.set i v).map .str)) B cell z4 (pc (.int (i:Int))) z6 z7)):=by
 unfold du
 rw [hv,Zw]
 show (((hU (.fr,.int (i:Int)) (.fr,.str v) (.lst (tx.map T.str))).map _).map _)=_
 have:hU (.fr,.int (i:Int)) (.fr,.str v) (.lst (tx.map T.str))=some (.lst ((tx.set i v).map T.str),()):=by
  show ((ixP (tx.map T.str).length (i:Int)).map _)=_
  rw [Zv,sU hi,Xb]
  rfl
 rw [this]
 rfl
theorem ki {η:Env} {a:Ex} {m:Md} {l:List Tx} (h:a η=some (m,.lst (l.map .str))):eN bI (ab a ai) η=some (.fr,.int (l.length:Int)):=i9 (xv (r:=ai) h rfl) (by
 show some (Md.fr,T.int (((l.map T.str).length:Nat):Int))=_
 rw [Zv])
theorem xM {η:Env} {a e:Ex} {m n:Md} {l:List Tx} {i:Nat} (ha:a η=some (m,.lst (l.map .str))) (he:e η=some (n,.int (i:Int))) (hi:i < l.length):e2 aN a e η=some (.fr,.str (l.getD i [])):=e2v ha he (lq T.str l i [] hi)
theorem uZ {α:Type} (l:List α) (k:Nat) (h:k<=l.length):cut l (some (k:Int)) none=l.drop k:=by
 have h1:clip l.length (k:Int)=k:=by
  unfold clip
  rw [Zp (by omega),YA,Xz h]
 show (l.drop (clip l.length (k:Int))).take (l.length - clip l.length (k:Int))=_
 rw [h1]
 exact YD (by rw [YK];exact Zk _)
theorem DC {a b:Ex} {η:Env} {m n:Md} {t:Tx} {k:Nat} (ha:a η=some (m,.str t)) (hb:b η=some (n,.int (k:Int))):eSl a none (some b) η=some (.fr,.str (t.take k)):=by
 unfold eSl lO
 dsimp only
 rw [ha,hb]
 show some (Md.fr,T.str (cut t none (some (k:Int))))=_
 rw [nV]
theorem qV {a b:Ex} {η:Env} {m n:Md} {t:Tx} {k:Nat} (ha:a η=some (m,.str t)) (hb:b η=some (n,.int (k:Int))) (h:k<=t.length):eSl a (some b) none η=some (.fr,.str (t.drop k)):=by
 unfold eSl lO
 dsimp only
 rw [ha,hb]
 show some (Md.fr,T.str (cut t (some (k:Int)) none))=_
 rw [uZ t k h]
theorem DA {np nn:Nat} {b:Sx} {ts:Wp} {v:Val} (hl:ts.length=np) (h:∃ η,b (ts.map (fun t=>some (.pu t))++List.replicate (nn - np) none)=some (.rt v η)):fn np nn b ts=some v:=by
 obtain ⟨η,h⟩:=h
 exact fQ hl h
theorem lQ {a b:Sx} {η η1:Env} {v:Val} (h:a η=some (.nx η1)) (q:∃ z,b η1=some (.rt v z)):∃ z,ar a b η=some (.rt v z):=by
 obtain ⟨z,q⟩:=q
 exact ⟨z,(ak h).trans q⟩
theorem yZ {tx B:List Tx} {hd:Wv} {S:St} (cell:Int) (h:MK tx hd S) (hk:Kp tx B) (hB:B ≠ []) (b8:B.length<=8) (bs:cE B<=120) (baz:∀ t∈B,∀ c∈t,97<=c/\c<=122) :
  ∃ tx' hd' S',eG [maT tx hd S false,.lst (B.map .str),.lst (tx.map .str),.int cell]=some ([maT tx' hd' S' false,.lst (tx'.map .str)],.bl true)/\MK tx' hd' S'/\Kp tx' B:=by
 have tlen:=hk.len
 have out:∀ {tx':List Tx} {hd':Wv} {S':St} {z4 z5 z6 z7:Ws} {body:Sx},body (ED (maT tx hd S false) (tl tx) (tl B) cell none none none none)=some (.rt (.fr,.bl true) (ED (maT tx' hd' S' false) (tl tx') (tl B) cell z4 z5 z6 z7)) →
   ifn 4 8 [false,true,false] body [maT tx hd S false,.lst (B.map .str),.lst (tx.map .str),.int cell]=some ([maT tx' hd' S' false,.lst (tx'.map .str)],.bl true):=fun {tx' hd' S' z4 z5 z6 z7 body} e=>by
  dsimp only [ifn]
  rw [Zr ⟨rfl,rfl⟩]
  have e':body ((some (.ow (mkT 1 (maT tx hd S false))) :: List.zipWith g8 [false,true,false] (markL 1 [false,true,false] [.lst (B.map .str),.lst (tx.map .str),.int cell]))++List.replicate (8 - 4) none)=some (.rt (.fr,.bl true) (ED (maT tx' hd' S' false) (tl tx') (tl B) cell z4 z5 z6 z7)):=e
  rw [e',Zw]
  show (if imm (T.bl true)=true/\bw [maT tx' hd' S' false,.lst (tx'.map .str)]=true then some ([maT tx' hd' S' false,T.lst (tx'.map .str)],T.bl true) else none)=_
  have hn:bw [maT tx' hd' S' false,.lst (tx'.map .str)]=true:=by
   show (((true && !(0 == 0 && false)) && cZ (fsM tx' hd' S')) && (bw (tx'.map T.str) && true))=true
   rw [fD,cX _ (fun _=>rfl)]
   rfl
  rw [Zr ⟨rfl,hn⟩]
 have c1:eOr (eZ (e2 oEq (e2 oMod (ae 3) (eC (.int 4))) (eC (.int 0))) (e2 oLt (eN bI (ab (eUn (ae 2)) ai)) (eN bI (ab (ae 1) ai)))) (e2 oEq (eUn (ae 2)) (dz ai)) (ED (maT tx hd S false) (tl tx) (tl B) cell none none none none)=some (.fr,.bl ((cell % 4 == 0 && decide (tx.length < B.length)) || tx.isEmpty)):=by
  refine or2 (m:=.fr) (n:=.fr) (pU (m:=.fr) (n:=.fr) (e2v (e2v (x:=(.fr,.int cell)) (y:=(.fr,.int 4)) rfl rfl (dm (by decide))) (y:=(.fr,.int 0)) rfl (gT rfl rfl ?_)) (e2v (ki (m:=.bo) (l:=tx) rfl) (ki (m:=.pu) (l:=B) rfl) ?_)) (e2v (x:=(.bo,.lst (tx.map .str))) (y:=(.fr,.lst [])) rfl rfl (qk tx))
  ·simp only [eqT]
  ·show some (Md.fr,T.bl (decide ((tx.length:Int) < (B.length:Int))))=_
   exact congrArg (fun b=>some (Md.fr,T.bl b)) (decide_eq_decide.mpr ⟨fun h=>by omega,fun h=>by omega⟩)
 have bp:0 < B.length:=List.length_pos_iff.mpr hB
 cases hc:((cell % 4 == 0 && decide (tx.length < B.length)) || tx.isEmpty) with
 | true =>
  rw [hc] at c1
  have lt:tx.length < B.length:=by
   rcases (Bool.or_eq_true_iff.mp hc) with z | z
   ·exact of_decide_eq_true (Y9.mp z).2
   ·rw [List.isEmpty_iff.mp z]
    exact bp
  have hb:=h.begin (by omega)
  refine ⟨tx++[[]],hd++[0],S,out (z4:=pc (.int (tx.length:Int))) (z5:=none) (z6:=none) (z7:=none) (iH ((jC c1).trans ((ak (C4 (by omega))).trans ((ak ?_).trans (da ?_))))),hb,hk.app lt⟩
  ·have x1:aT 0 [.un] 1 [] ax ai (ED (maT tx hd S false) (tl (tx++[[]])) (tl B) cell none none none none)=some ((.fr,.int (tx.length:Int)),ED (maT (tx++[[]]) (hd++[0]) S false) (tl (tx++[[]])) (tl B) cell none none none none):=by
    show (((gh 1 [] ax [] (maT tx hd S false)).map _).map _)=_
    have:gh 1 [] ax [] (maT tx hd S false)=some (maT (tx++[[]]) (hd++[0]) S false,(.fr,.int (tx.length:Int))):=by
     show (if 2=1+1/\cZ (fsM tx hd S)=true/\argsOk [] []=true/\bw (trees [])=true then (ax (fsM tx hd S) (trees [])).bind fun z=>if cZ z.1=true/\imm z.2=true then some (T.obj 2 ((0,.bl false) :: z.1),(Md.fr,z.2)) else none else none)=_
     rw [Zr ⟨rfl,fD tx hd S,rfl,rfl⟩,show trees []=[] from rfl,oH (by omega) h.len,Zw,Zr ⟨fD _ _ _,rfl⟩]
     rfl
    rw [this]
    rfl
   unfold gf
   rw [x1]
   rfl
  ·refine pU (m:=.fr) (n:=.fr) (x:=true) (y:=true) rfl (pU (m:=.fr) (n:=.fr) (x:=true) (y:=true) rfl (e2v (x:=(.fr,.int (tx.length:Int))) rfl (e2v (ki (m:=.bo) (l:=tx++[[]]) rfl) (y:=(.fr,.int 1)) rfl rfl) (gT rfl rfl ?_)))
   rw [Zs,ZO,show (((tx.length+1:Nat)):Int) - 1=(tx.length:Int) by omega]
   simp only [eqT,beq_self_eq_true]
 | false =>
  rw [hc] at c1
  have tp:0 < tx.length:=by
   rw [Bool.or_eq_false_iff] at hc
   exact List.length_pos_iff.mpr (fun z=>by rw [z] at hc;cases hc.2)
  have q0:=Yq (cell / 4) (b:=(tx.length:Int)) (by omega)
  have q1:=Yy (cell / 4) (b:=(tx.length:Int)) (by omega)
  obtain ⟨i,hi⟩:∃ i:Nat,cell / 4 % (tx.length:Int)=(i:Int):=⟨(cell / 4 % (tx.length:Int)).toNat,by omega⟩
  have il:i < tx.length:=by omega
  obtain ⟨u,hu⟩:=hk.get il
  have p0:=Yq (cell / 32) (b:=5) (by decide)
  have p1:=Yy (cell / 32) (b:=5) (by decide)
  obtain ⟨n,en⟩:∃ n:Nat,aN (.fr,.lst [.int 1,.int 1,.int 2,.int 0,.int 60]) (.fr,.int (cell / 32 % 5))=some (.fr,.int (n:Int)):=by
   have:cell / 32 % 5=0\/cell / 32 % 5=1\/cell / 32 % 5=2\/cell / 32 % 5=3\/cell / 32 % 5=4:=by omega
   rcases this with e | e | e | e | e <;> rw [e]
   ·exact ⟨1,rfl⟩
   ·exact ⟨1,rfl⟩
   ·exact ⟨2,rfl⟩
   ·exact ⟨0,rfl⟩
   ·exact ⟨60,rfl⟩
  have pv:tx.getD i []++u.take n <+: B.getD i []:=by
   rw [← hu]
   exact (Xy _).mpr (List.take_prefix _ _)
  have hk':=hk.set (i:=i) pv
  have sm:cE tx+(u.take n).length<=120:=by
   have:=hk'.sum
   rw [g9 tx i _ il] at this
   omega
  have waz:∀ c∈u.take n,97<=c/\c<=122:=fun c hc=>by
   have:=baz (B.getD i []) (Xh (by omega)) c
   rw [← hu] at this
   exact this (ZW _ (List.mem_of_mem_take hc))
  obtain ⟨hd',S',eg,h'⟩:=h.grow il waz sm
  have txl:(tx.getD i []).length<=120:=ZG (lE (Xh il)) h.sum
  have x8:∀ z4 z6 z7:Ws,VS.e2 aN (eUn (ae 2)) (ae 5) (ED (maT tx hd S false) (tl tx) (tl B) cell z4 (pc (.int (i:Int))) z6 z7)=some (.fr,.str (tx.getD i [])):=fun _ _ _=>xM (m:=.bo) (n:=.fr) (l:=tx) rfl rfl il
  have x9:aT 0 [.un] 1 [false,false] av (ab (ae 5) (ab (ae 7) ai)) (ED (maT tx hd S false) (tl (tx.set i (tx.getD i []++u.take n))) (tl B) cell none (pc (.int (i:Int))) (pc (.str u)) (pc (.str (u.take n))))=some ((.fr,.non),ED (maT (tx.set i (tx.getD i []++u.take n)) hd' S' false) (tl (tx.set i (tx.getD i []++u.take n))) (tl B) cell none (pc (.int (i:Int))) (pc (.str u)) (pc (.str (u.take n)))):=by
   show (((gh 1 [false,false] av [(.fr,.int (i:Int)),(.fr,.str (u.take n))] (maT tx hd S false)).map _).map _)=_
   rw [iT eg]
   rfl
  refine ⟨_,hd',S',out (z4:=none) (z5:=pc (.int (i:Int))) (z6:=pc (.str u)) (z7:=pc (.str (u.take n))) ((ak ((iN c1).trans rfl)).trans ((ak (aQ (m:=.fr) (t:=.int (i:Int)) ?_ (by decide) (by show 5 < 8;decide))).trans ((ak (aQ (m:=.fr) (t:=.str u) ?_ (by decide) (by show 6 < 8;decide))).trans ((ak (aQ (m:=.fr) (t:=.str (u.take n)) ?_ (by decide) (by show 7 < 8;decide))).trans ((ak (CU (tx:=tx) (i:=i) (v:=tx.getD i []++u.take n) il (e2v (x8 _ _ _) (y:=(.fr,.str (u.take n))) rfl (lI (by omega))))).trans ?_))))),h',hk'⟩
  ·refine e2v (e2v (x:=(.fr,.int cell)) (y:=(.fr,.int 4)) rfl rfl (eY (by decide))) (ki (m:=.bo) (l:=tx) rfl) ?_
   rw [dm (by omega),hi]
  ·have:=qV (k:=(tx.getD i []).length) (xM (η:=ED (maT tx hd S false) (tl tx) (tl B) cell none (pc (.int (i:Int))) none none) (a:=ae 1) (e:=ae 5) (m:=.pu) (n:=.fr) (l:=B) (i:=i) rfl rfl (by omega)) (i9 (f:=bI) (xv (r:=ai) (x8 none none none) rfl) rfl) (by rw [← hu,Zs];omega)
   rw [← hu,List.drop_left] at this
   exact this
  ·exact DC (m:=.fr) (t:=u) rfl (e2v (x:=(.fr,.lst [.int 1,.int 1,.int 2,.int 0,.int 60])) rfl (e2v (e2v (x:=(.fr,.int cell)) (y:=(.fr,.int 32)) rfl rfl (eY (by decide))) (y:=(.fr,.int 5)) rfl (dm (by decide))) en)
  unfold iS vd
  rw [x9]
  rfl
noncomputable abbrev EL (ns:Wu) (B:List Tx) (st:Int) (bt:Tx) (k3 m4 b5 z7 z8 z9:Ws):Env:=[pc (.scr ns),pc (.lst (B.map .str)),pc (.int st),k3,m4,b5,pc (.str bt),z7,z8,z9]
section
variable {ns:Wu} {B:List Tx} {st:Int} {bt:Tx}
theorem AC {tx:List Tx} {hd:Wv} {S:St} {b5 z7 z9:Ws} {cell:Int} (h:MK tx hd S) (hk:Kp tx B) (hB:B ≠ []) (b8:B.length<=8) (bs:cE B<=120) (baz:∀ t∈B,∀ c∈t,97<=c/\c<=122) :
  ∃ tx' hd' S',sW (si (nG (xtV (ij [(.io 4 false),(.ex (ae 1)),(.io 3 false),(.ex (ae 8))] eG))) (iY (bg cA (ab (ae 4) (ab (ae 3) ai))))) (fq (eC (.bl false))) d2 (EL ns B st bt (oc (tl tx)) (oc (maT tx hd S false)) b5 z7 (pc (.int cell)) z9)=some (.nx (EL ns B st bt (oc (tl tx')) (oc (maT tx' hd' S' false)) b5 z7 (pc (.int cell)) z9))/\MK tx' hd' S'/\Kp tx' B:=by
 obtain ⟨tx',hd',S',e,h',hk'⟩:=yZ cell h hk hB b8 bs baz
 refine ⟨tx',hd',S',?_,h',hk'⟩
 have hn:bw [maT tx hd S false,tl B,tl tx,.int cell]=true:=by
  show (((true && !(0 == 0 && false)) && cZ (fsM tx hd S)) && (bw (B.map T.str) && (bw (tx.map T.str) && (true && true))))=true
  rw [fD,cX _ (fun _=>rfl),cX _ (fun _=>rfl)]
  rfl
 have x1:ij [(.io 4 false),(.ex (ae 1)),(.io 3 false),(.ex (ae 8))] eG (EL ns B st bt (oc (tl tx)) (oc (maT tx hd S false)) b5 z7 (pc (.int cell)) z9)=some ((.fr,.bl true),EL ns B st bt (oc (tl tx')) (oc (maT tx' hd' S' false)) b5 z7 (pc (.int cell)) z9):=by
  unfold ij
  have et:mq (EL ns B st bt (oc (tl tx)) (oc (maT tx hd S false)) b5 z7 (pc (.int cell)) z9) [(.io 4 false),(.ex (ae 1)),(.io 3 false),(.ex (ae 8))]=some [maT tx hd S false,tl B,tl tx,.int cell]:=rfl
  rw [et,Zw,Zr ⟨hn,by decide⟩,e,Zw,Zr (show imm (T.bl true)=true from rfl)]
  rfl
 have c2:iY (bg cA (ab (ae 4) (ab (ae 3) ai))) (EL ns B st bt (oc (tl tx')) (oc (maT tx' hd' S' false)) b5 z7 (pc (.int cell)) z9)=some (.fr,.bl false):=qF (m:=.fr) (b:=true) (de (xv (x:=(.bo,maT tx' hd' S' false)) rfl (xv (x:=(.bo,tl tx')) (r:=ai) rfl rfl)) (kF h'))
 unfold sW si nG xtV
 rw [x1]
 show (((iY (bg cA (ab (ae 4) (ab (ae 3) ai))) (EL ns B st bt (oc (tl tx')) (oc (maT tx' hd' S' false)) b5 z7 (pc (.int cell)) z9)).bind fun v=>(tru v.2).map fun b=>(b,EL ns B st bt (oc (tl tx')) (oc (maT tx' hd' S' false)) b5 z7 (pc (.int cell)) z9)).bind _)=_
 rw [c2]
 rfl
noncomputable def Bs (bt:Tx) (k:Nat) (b:T):Prop:=(k<=5/\b=maT [] [] S0 false)\/(5 < k/\∃ hd S,b=maT [bt] hd S false/\MK [bt] hd S)
theorem C0 (hB:B ≠ []) (b8:B.length<=8) (bs:cE B<=120) (baz:∀ t∈B,∀ c∈t,97<=c/\c<=122) (bl:bt.length<=120) (btz:∀ c∈bt,97<=c/\c<=122) {tx:List Tx} {hd:Wv} {S:St} (h:MK tx hd S) (hk:Kp tx B) :
  ∃ tx' hd' S' hb Sb z7 z8,forL (cY 7) kU ((List.range 16).map fun (k:Nat)=>T.int (k:Int)) (EL ns B st bt (oc (tl tx)) (oc (maT tx hd S false)) (oc (maT [] [] S0 false)) none none none)=some (.nx (EL ns B st bt (oc (tl tx')) (oc (maT tx' hd' S' false)) (oc (maT [bt] hb Sb false)) z7 z8 none))/\MK tx' hd' S'/\Kp tx' B/\MK [bt] hb Sb:=by
 obtain ⟨η',e,k,tx',hd',S',b,z7,z8,er,hk16,rfl,h',hk',hb⟩:=jL (tg:=cY 7) (body:=kU) (fun (k:Nat)=>T.int (k:Int)) (fun r η=>∃ k tx' hd' S' b z7 z8,r=List.range' k (16 - k)/\k<=16/\η=EL ns B st bt (oc (tl tx')) (oc (maT tx' hd' S' false)) (oc b) z7 z8 none/\MK tx' hd' S'/\Kp tx' B/\Bs bt k b) (by
  rintro t r _ ⟨k,tx1,hd1,S1,b,z7,z8,er,hk16,rfl,h1,hk1,hb⟩
  have k16:k < 16:=X7 fun z=>by
   rw [show 16 - k=0 by omega] at er
   cases er
  rw [show 16 - k=(16 - (k+1))+1 by omega,List.range'_succ] at er
  obtain ⟨rfl,rfl⟩:=List.cons.inj er
  have s8:aM 8 (e2 cn (bg ay (ab (ae 0) (ab (e2 cn (eC (.int 12)) (ae 7)) ai))) (e2 iO (eC (.int 104729)) (ae 7))) (EL ns B st bt (oc (tl tx1)) (oc (maT tx1 hd1 S1 false)) (oc b) (pc (.int (t:Int))) z8 none)=some (.nx (EL ns B st bt (oc (tl tx1)) (oc (maT tx1 hd1 S1 false)) (oc b) (pc (.int (t:Int))) (pc (.int (cellAt ns (12+t)+104729 * (t:Int)))) none)):=by
   refine aQ (m:=.fr) (e2v (jr (k:=12+t) (m:=.fr) rfl (e2v (x:=(.fr,.int 12)) (y:=(.fr,.int (t:Int))) rfl rfl ?_)) (e2v (x:=(.fr,.int 104729)) (y:=(.fr,.int (t:Int))) rfl rfl (ka (by decide))) rfl) (by decide) (by show 8 < 10;decide)
   show some (Md.fr,T.int (12+(t:Int)))=_
   rw [show (12+(t:Int))=((12+t:Nat):Int) by omega]
  obtain ⟨tx2,hd2,S2,e2',h2,hk2⟩:=AC (ns:=ns) (st:=st) (bt:=bt) (b5:=oc b) (z7:=pc (.int (t:Int))) (z9:=none) (cell:=cellAt ns (12+t)+104729 * (t:Int)) h1 hk1 hB b8 bs baz
  have c5:e2 oEq (ae 7) (eC (.int 5)) (EL ns B st bt (oc (tl tx2)) (oc (maT tx2 hd2 S2 false)) (oc b) (pc (.int (t:Int))) (pc (.int (cellAt ns (12+t)+104729 * (t:Int)))) none)=some (.fr,.bl (t == 5)):=by
   refine e2v (x:=(.fr,.int (t:Int))) (y:=(.fr,.int ((5:Nat):Int))) rfl rfl (gT rfl rfl (DE t 5))
  by_cases q:t=5
  ·subst q
   rcases hb with ⟨_,rfl⟩ | ⟨z,_⟩
   ·have hb1:=mk0.begin (by decide)
    obtain ⟨hb2,Sb,eg,hg⟩:=hb1.grow (i:=0) (w:=bt) (by decide) btz (by show 0+bt.length<=120;omega)
    have eg':av (fsM [[]] [0] S0) [.int ((0:Nat):Int),.str bt]=some (fsM [bt] hb2 Sb,.non):=eg
    refine ⟨EL ns B st bt (oc (tl tx1)) (oc (maT tx1 hd1 S1 false)) (oc (maT [] [] S0 false)) (pc (.int ((5:Nat):Int))) z8 none,EL ns B st bt (oc (tl tx2)) (oc (maT tx2 hd2 S2 false)) (oc (maT [bt] hb2 Sb false)) (pc (.int ((5:Nat):Int))) (pc (.int (cellAt ns (12+5)+104729 * ((5:Nat):Int)))) none,rfl,?_,6,tx2,hd2,S2,_,_,_,rfl,by decide,rfl,h2,hk2,.inr ⟨by decide,hb2,Sb,rfl,hg⟩⟩
    refine (ak s8).trans ((ak e2').trans ((jC c5).trans ((ak (η1:=EL ns B st bt (oc (tl tx2)) (oc (maT tx2 hd2 S2 false)) (oc (maT [[]] [0] S0 false)) (pc (.int ((5:Nat):Int))) (pc (.int (cellAt ns (12+5)+104729 * ((5:Nat):Int)))) none) ?_).trans ?_)))
    ·unfold sXM
     rw [jg (i:=5) (tx:=[]) (hd:=[]) (S:=S0) (b:=false) mk0 (by decide) rfl]
     rfl
    ·unfold sXM
     rw [mP (j:=5) (i:=0) (tx:=[[]]) (hd:=[0]) (S:=S0) (b:=false) (w:=bt) eg' rfl rfl rfl]
     rfl
   ·omega
  ·have c5':=c5
   rw [ZR.mpr q] at c5'
   refine ⟨EL ns B st bt (oc (tl tx1)) (oc (maT tx1 hd1 S1 false)) (oc b) (pc (.int (t:Int))) z8 none,EL ns B st bt (oc (tl tx2)) (oc (maT tx2 hd2 S2 false)) (oc b) (pc (.int (t:Int))) (pc (.int (cellAt ns (12+t)+104729 * (t:Int)))) none,rfl,(ak s8).trans ((ak e2').trans ((iN c5').trans rfl)),t+1,tx2,hd2,S2,b,_,_,rfl,by omega,rfl,h2,hk2,?_⟩
   rcases hb with ⟨z,e⟩ | ⟨z,e⟩
   ·exact .inl ⟨by omega,e⟩
   ·exact .inr ⟨by omega,e⟩) (List.range 16) _ ⟨0,tx,hd,S,_,none,none,List.range_eq_range',by decide,rfl,h,hk,.inl ⟨by decide,rfl⟩⟩
 have k16:5 < k:=by
  have:=congrArg List.length er
  rw [Xu,Xn] at this
  omega
 rcases hb with ⟨z,_⟩ | ⟨_,hb,Sb,rfl,hm⟩
 ·omega
 ·exact ⟨tx',hd',S',hb,Sb,z7,z8,e,h',hk',hm⟩
theorem Cq {b5 z7 z8:Ws} (b8:B.length<=8):∀ (d:Nat) {tx:List Tx} {hd:Wv} {S:St} (N:Nat),d < N->B.length - tx.length=d->MK tx hd S->Kp tx B →
  ∃ tx' hd' S',eJ (e2 oLt (eN bI (ab (ae 3) ai)) (eN bI (ab (ae 1) ai))) ox N (EL ns B st bt (oc (tl tx)) (oc (maT tx hd S false)) b5 z7 z8 none)=some (.nx (EL ns B st bt (oc (tl tx')) (oc (maT tx' hd' S' false)) b5 z7 z8 none))/\MK tx' hd' S'/\Kp tx' B/\tx'.length=B.length:=by
 have cond:∀ (tx:List Tx) (hd:Wv) (S:St),e2 oLt (eN bI (ab (ae 3) ai)) (eN bI (ab (ae 1) ai)) (EL ns B st bt (oc (tl tx)) (oc (maT tx hd S false)) b5 z7 z8 none)=some (.fr,.bl (decide (tx.length < B.length))):=fun tx hd S=>e2v (ki (m:=.bo) (l:=tx) rfl) (ki (m:=.pu) (l:=B) rfl) (by
  show some (Md.fr,T.bl (decide ((tx.length:Int) < (B.length:Int))))=_
  exact congrArg (fun b=>some (Md.fr,T.bl b)) (decide_eq_decide.mpr ⟨fun h=>by omega,fun h=>by omega⟩))
 intro d
 induction d with
 | zero =>
  intro tx hd S N hN hd0 h hk
  obtain ⟨N,rfl⟩:∃ M,N=M+1:=⟨N - 1,by omega⟩
  have:=hk.len
  exact ⟨tx,hd,S,fE (m:=.fr) ((cond _ _ _).trans (by rw [decide_eq_false (by omega)])),h,hk,by omega⟩
 | succ d ih =>
  intro tx hd S N hN hd0 h hk
  obtain ⟨N,rfl⟩:∃ M,N=M+1:=⟨N - 1,by omega⟩
  obtain ⟨tx',hd',S',e,q⟩:=ih (tx:=tx++[[]]) (hd:=hd++[0]) (S:=S) N (by omega) (by rw [Zs,ZO];omega) (h.begin (by omega)) (hk.app (by omega))
  refine ⟨tx',hd',S',(kG (m:=.fr) ((cond _ _ _).trans (by rw [decide_eq_true (by omega)])) ?_).trans e,q⟩
  refine (ak (η1:=EL ns B st bt (oc (tl (tx++[[]]))) (oc (maT tx hd S false)) b5 z7 z8 none) ?_).trans ?_
  ·refine (p9 (i:=3) (l:=tx.map .str) (v:=.str []) rfl rfl (by rw [Zv];have:=h.few;omega)).trans ?_
   rw [show (tx.map T.str)++[.str []]=(tx++[[]]).map T.str from by rw [ZA];rfl]
   rfl
  ·unfold sXM
   rw [jg (i:=4) (tx:=tx) (hd:=hd) (S:=S) (b:=false) h (by omega) rfl]
   rfl
theorem C2 {b5 z7 z8:Ws} {tx:List Tx} (hkt:Kp tx B) (htl:tx.length=B.length) (baz:∀ t∈B,∀ c∈t,97<=c/\c<=122) (bs:cE B<=120) {hd:Wv} {S:St} (h:MK tx hd S) :
  ∃ hd' S' z9,forL (cY 9) jF (pV ((B.length:Int) - 1) B.length) (EL ns B st bt (pc (tl tx)) (oc (maT tx hd S false)) b5 z7 z8 none)=some (.nx (EL ns B st bt (pc (tl tx)) (oc (maT B hd' S' false)) b5 z7 z8 z9))/\MK B hd' S':=by
 obtain ⟨η',e,k,t1,hd1,S1,z9,er,hkn,rfl,h1,hk1,hl1,_,a2⟩:=jL (tg:=cY 9) (body:=jF) (fun (k:Nat)=>T.int ((B.length:Int) - 1 - (k:Int))) (fun r η=>∃ k t1 hd1 S1 z9,r=List.range' k (B.length - k)/\k<=B.length/\η=EL ns B st bt (pc (tl tx)) (oc (maT t1 hd1 S1 false)) b5 z7 z8 z9/\MK t1 hd1 S1/\Kp t1 B/\t1.length=B.length/\(∀ i,i < B.length - k->t1.getD i []=tx.getD i [])/\(∀ i,B.length - k<=i->i < B.length->t1.getD i []=B.getD i [])) (by
  rintro t r _ ⟨k,t1,hd1,S1,z9,er,hkn,rfl,h1,hk1,hl1,a1,a2⟩
  have kn:k < B.length:=X7 fun z=>by
   rw [show B.length - k=0 by omega] at er
   cases er
  rw [show B.length - k=(B.length - (k+1))+1 by omega,List.range'_succ] at er
  obtain ⟨rfl,rfl⟩:=List.cons.inj er
  obtain ⟨i,hi⟩:∃ i:Nat,i=B.length - 1 - t:=⟨_,rfl⟩
  have ei:(B.length:Int) - 1 - (t:Int)=(i:Int):=by omega
  have il:i < t1.length:=by omega
  obtain ⟨u,hu⟩:=hkt.get (i:=i) (by omega)
  have e1:t1.getD i []=tx.getD i []:=a1 i (by omega)
  have e2:t1.getD i []++u=B.getD i []:=by rw [e1];exact hu
  have hk2:=hk1.set (i:=i) (v:=t1.getD i []++u) (by rw [e2];exact List.prefix_rfl)
  have sm:cE t1+u.length<=120:=by
   have:=hk2.sum
   rw [g9 t1 i u il] at this
   omega
  have uz:∀ c∈u,97<=c/\c<=122:=fun c hc=>by
   have:=baz (B.getD i []) (Xh (by omega)) c
   rw [← hu] at this
   exact this (ZW _ hc)
  obtain ⟨hd2,S2,eg,h2⟩:=h1.grow il uz sm
  refine ⟨EL ns B st bt (pc (tl tx)) (oc (maT t1 hd1 S1 false)) b5 z7 z8 (pc (.int (i:Int))),EL ns B st bt (pc (tl tx)) (oc (maT (t1.set i (t1.getD i []++u)) hd2 S2 false)) b5 z7 z8 (pc (.int (i:Int))),by rw [ei];rfl,?_,t+1,_,hd2,S2,_,rfl,by omega,rfl,h2,hk2,by rw [ZJ];exact hl1,fun j hj=>?_,fun j hj hj2=>?_⟩
  ·have sl:=qV (η:=EL ns B st bt (pc (tl tx)) (oc (maT t1 hd1 S1 false)) b5 z7 z8 (pc (.int (i:Int)))) (k:=(tx.getD i []).length) (xM (a:=ae 1) (e:=ae 9) (m:=.pu) (n:=.fr) (l:=B) rfl rfl (by omega)) (i9 (f:=bI) (xv (r:=ai) (xM (a:=ae 3) (e:=ae 9) (m:=.pu) (n:=.fr) (l:=tx) rfl rfl (by omega)) rfl) rfl) (by rw [← hu,Zs];omega)
   rw [← hu,List.drop_left] at sl
   unfold jF sXM
   rw [mP (j:=4) (i:=i) (tx:=t1) (hd:=hd1) (S:=S1) (b:=false) (w:=u) eg rfl rfl sl]
   rfl
  ·rw [iG t1 _ [] il,Zp (by omega)]
   exact a1 j (by omega)
  ·rw [iG t1 _ [] il]
   by_cases q:i=j
   ·rw [Zr q,e2,q]
   ·rw [Zp q]
    exact a2 j (by omega) hj2) (List.range B.length) (EL ns B st bt (pc (tl tx)) (oc (maT tx hd S false)) b5 z7 z8 none) ⟨0,tx,hd,S,none,List.range_eq_range',Yn _,rfl,h,hkt,htl,fun i _=>rfl,fun i h1 h2=>absurd h2 (by omega)⟩
 have kn:k=B.length:=by
  have:=congrArg List.length er
  rw [Xu,Xn] at this
  omega
 have et:t1=B:=hk1.all hl1 fun i hi=>a2 i (by omega) (by omega)
 subst et
 exact ⟨hd1,S1,z9,e,h1⟩
end
theorem rM {f:Tx->Tx} (hf:∀ t,f t <+: t):∀ (B:List Tx) (n:Nat),Kp ((B.take n).map f) B
 | _,0=>by rw [List.take_zero];trivial
 | [],n+1=>trivial
 | b :: B,n+1=>⟨hf b,rM hf B n⟩
theorem Cy {tx B:List Tx} (h:Kp tx B) (az:∀ t∈B,∀ c∈t,97<=c/\c<=122):∀ t∈tx,∀ c∈t,97<=c/\c<=122:=fun t ht c hc=>by
 obtain ⟨i,hi,e⟩:=Y8.mp ht
 have hl:=h.len
 have g:=h.get hi
 have:tx.getD i []=t:=by rw [Zu,Zo hi,e];rfl
 rw [this] at g
 exact az _ (Xh (by omega)) c (g.subset hc)
theorem BR (ns:Wu) {B:List Tx} (eb:gg [.scr ns]=some (.fr,.lst (B.map .str))) (b8:B.length<=8) (b120:B.flatten.length<=120) (baz:∀ t∈B,∀ c∈t,97<=c/\c<=122):rN [.scr ns]=some (.fr,.bl true):=by
 have bs:cE B<=120:=by rw [tV];exact b120
 have r0:=Yq (cellAt ns 9) (b:=(B.length:Int)+1) (by omega)
 have r1:=Yy (cellAt ns 9) (b:=(B.length:Int)+1) (by omega)
 obtain ⟨n,hn⟩:∃ n:Nat,cellAt ns 9 % ((B.length:Int)+1)=(n:Int):=⟨(cellAt ns 9 % ((B.length:Int)+1)).toNat,by omega⟩
 obtain ⟨bt,hbt⟩:∃ bt:Tx,bt=[97,98]++B.flatten.take 40:=⟨_,rfl⟩
 have bl:bt.length<=120:=by rw [hbt,Zs,YW];show 2+_<=120;omega
 have btz:∀ c∈bt,97<=c/\c<=122:=fun c hc=>by
  rw [hbt] at hc
  rcases Zg.mp hc with hc | hc
  ·exact (by decide:∀ c∈[97,98],97<=c/\c<=122) c hc
  ·obtain ⟨t,ht,hc⟩:=List.mem_flatten.mp (List.mem_of_mem_take hc)
   exact baz t ht c hc
 obtain ⟨f,hf⟩:∃ f:Tx->Tx,f=fun t=>t.take (cellAt ns 10 / 9 % ((t.length:Int)+1)).toNat:=⟨_,rfl⟩
 obtain ⟨tx,htx⟩:∃ tx:List Tx,tx=(B.take n).map f:=⟨_,rfl⟩
 have hk:Kp tx B:=by rw [htx];exact rM (fun t=>by rw [hf];exact List.take_prefix _ _) B n
 have taz:=Cy hk baz
 have tl8:=hk.len
 have ts:=hk.sum
 have s3:gZ 3 (dU 1 (cY 0) (iL (eSl (ae 1) none (some (ae 2)))) none (eSl (ae 0) none (some (e2 oMod (e2 bD (bg ay (ab (ae 1) (ab (eC (.int 10)) ai))) (eC (.int 9))) (e2 cn (eN bI (ab (ae 0) ai)) (eC (.int 1))))))) [pc (.scr ns),pc (tl B),pc (.int (n:Int)),none,none,none,none,none,none,none]=some (.nx [pc (.scr ns),pc (tl B),pc (.int (n:Int)),oc (tl tx),none,none,none,none,none,none]):=by
  refine kK (t:=tl tx) ?_ rfl (by show 3 < 10;decide)
  rw [htx]
  have:=gw (k:=1) (tg:=cY 0) (it:=iL (eSl (ae 1) none (some (ae 2)))) (elt:=eSl (ae 0) none (some (e2 oMod (e2 bD (bg ay (ab (ae 1) (ab (eC (.int 10)) ai))) (eC (.int 9))) (e2 cn (eN bI (ab (ae 0) ai)) (eC (.int 1)))))) (η:=[pc (.scr ns),pc (tl B),pc (.int (n:Int)),none,none,none,none,none,none,none]) (m:=.fr) T.str (fun t=>T.str (f t)) (B.take n) ?_ rfl (by rw [YW];omega) fun t _=>⟨[pc (.str t),pc (.scr ns),pc (tl B),pc (.int (n:Int)),none,none,none,none,none,none,none],rfl,?_⟩
  ·rw [this]
   unfold tl
   rw [Z7]
   rfl
  ·show ((mkL .pu (cut (B.map T.str) none (some (n:Int)))).bind xk)=_
   rw [nV,← List.map_take]
   unfold mkL
   rw [Zr (by rw [Zv,YW];show min n B.length<=16777216;omega),n9]
   rfl
  ·have q0:=Yq (cellAt ns 10 / 9) (b:=(t.length:Int)+1) (by omega)
   obtain ⟨q,hq⟩:∃ q:Nat,cellAt ns 10 / 9 % ((t.length:Int)+1)=(q:Int):=⟨(cellAt ns 10 / 9 % ((t.length:Int)+1)).toNat,by omega⟩
   have a1:e2 oMod (e2 bD (bg ay (ab (ae 1) (ab (eC (.int 10)) ai))) (eC (.int 9))) (e2 cn (eN bI (ab (ae 0) ai)) (eC (.int 1))) [pc (.str t),pc (.scr ns),pc (tl B),pc (.int (n:Int)),none,none,none,none,none,none,none]=some (.fr,.int (q:Int)):=by
    refine e2v (e2v (de (xv (x:=(.fr,.scr ns)) rfl (xv (x:=(.fr,.int ((10:Nat):Int))) (r:=ai) rfl rfl)) (mQ ns 10)) (y:=(.fr,.int 9)) rfl (eY (by decide))) (y:=(.fr,.int ((t.length:Int)+1))) rfl ?_
    rw [dm (by omega),hq]
   unfold eSl
   show ((lO (some (e2 oMod (e2 bD (bg ay (ab (ae 1) (ab (eC (.int 10)) ai))) (eC (.int 9))) (e2 cn (eN bI (ab (ae 0) ai)) (eC (.int 1))))) [pc (.str t),pc (.scr ns),pc (tl B),pc (.int (n:Int)),none,none,none,none,none,none,none]).bind _)=_
   unfold lO
   dsimp only
   rw [a1]
   show some (Md.fr,T.str (cut t none (some (q:Int))))=_
   rw [nV,hf]
   show some (Md.fr,T.str (t.take q))=some (Md.fr,T.str (t.take (cellAt ns 10 / 9 % ((t.length:Int)+1)).toNat))
   rw [hq,YA]
 obtain ⟨hd0,S1,en,h0⟩:=qW (bk:=tx) (by omega) (by omega) taz (arg:=eN gv (ab (ae 3) ai)) (η:=[pc (.scr ns),pc (tl B),pc (.int (n:Int)),oc (tl tx),none,none,none,none,none,none]) (vo (m:=.bo) rfl (by omega))
 have s5:∃ hd S,sIf (e2 oEq (ae 3) (dz ai)) (gZ 4 (eNew 1 aE (ab (eC .non) ai))) d2 [pc (.scr ns),pc (tl B),pc (.int (n:Int)),oc (tl tx),oc (maT tx hd0 S1 false),none,none,none,none,none]=some (.nx [pc (.scr ns),pc (tl B),pc (.int (n:Int)),oc (tl tx),oc (maT tx hd S false),none,none,none,none,none])/\MK tx hd S:=by
  have c:e2 oEq (ae 3) (dz ai) [pc (.scr ns),pc (tl B),pc (.int (n:Int)),oc (tl tx),oc (maT tx hd0 S1 false),none,none,none,none,none]=some (.fr,.bl tx.isEmpty):=e2v (x:=(.bo,tl tx)) (y:=(.fr,.lst [])) rfl rfl (qk tx)
  cases hc:tx.isEmpty with
  | true =>
   rw [hc] at c
   have e0:=List.isEmpty_iff.mp hc
   rw [e0] at c h0 ⊢
   exact ⟨[],S0,(jC c).trans (kK (qX _) rfl (by show 4 < 10;decide)),mk0⟩
  | false =>
   rw [hc] at c
   exact ⟨hd0,S1,(iN c).trans rfl,h0⟩
 obtain ⟨hd,S,s5,hM⟩:=s5
 have s7:aM 6 (e2 cn (eC (.str [97,98])) (eSl (eM hV (eC (.str [])) (ab (ae 1) ai)) none (some (eC (.int 40))))) [pc (.scr ns),pc (tl B),pc (.int (n:Int)),oc (tl tx),oc (maT tx hd S false),oc (maT [] [] S0 false),none,none,none,none]=some (.nx (EL ns B (n:Int) bt (oc (tl tx)) (oc (maT tx hd S false)) (oc (maT [] [] S0 false)) none none none)):=by
  rw [hbt]
  refine aQ (m:=.fr) (t:=.str ([97,98]++B.flatten.take 40)) (e2v (x:=(.fr,.str [97,98])) (y:=(.fr,.str (B.flatten.take 40))) rfl ?_ (lI (by rw [YW];show 2+_<=_;omega))) (by decide) (by show 6 < 10;decide)
  have j:=ny (m:=.fr) (n:=.pu) (strs_map id B) (by rw [XR];omega)
  rw [XR] at j
  have j':eM hV (eC (.str [])) (ab (ae 1) ai) [pc (.scr ns),pc (tl B),pc (.int (n:Int)),oc (tl tx),oc (maT tx hd S false),oc (maT [] [] S0 false),none,none,none,none]=some (.fr,.str B.flatten):=j
  unfold eSl
  rw [j',Zw]
  show some (Md.fr,T.str (cut B.flatten none (some ((40:Nat):Int))))=_
  rw [nV]
 have c8:e2 oEq (ae 1) (dz ai) (EL ns B (n:Int) bt (oc (tl tx)) (oc (maT tx hd S false)) (oc (maT [] [] S0 false)) none none none)=some (.fr,.bl B.isEmpty):=e2v (x:=(.pu,tl B)) (y:=(.fr,.lst [])) rfl rfl (qk B)
 refine DA rfl (lQ (aQ (m:=.fr) (de (xv (x:=(.fr,.scr ns)) (r:=ai) rfl rfl) eb) (by decide) (by show 1 < 10;decide)) (lQ (aQ (m:=.fr) (t:=.int (n:Int)) (e2v (jr (k:=9) (m:=.fr) rfl rfl) (e2v (ki (m:=.pu) (l:=B) rfl) (y:=(.fr,.int 1)) rfl rfl) ?_) (by decide) (by show 2 < 10;decide)) (lQ s3 (lQ (kK en rfl (by show 4 < 10;decide)) (lQ s5 (lQ (kK (qX _) rfl (by show 5 < 10;decide)) (lQ s7 ?_)))))))
 ·rw [dm (by omega),hn]
 by_cases hB:B=[]
 ·have t0:tx=[]:=by
   have:=hk.len
   rw [hB] at this
   exact Xf.mp (by simpa using this)
  have c8':=c8
  rw [show B.isEmpty=true from by rw [hB];rfl] at c8'
  refine ⟨_,iH ((jC c8').trans (da (pU (m:=.fr) (n:=.fr) (x:=true) (y:=true) ?_ ?_)))⟩
  ·have:=kF hM
   rw [t0] at this
   refine de (xv (x:=(.bo,maT tx hd S false)) rfl (xv (x:=(.fr,.lst [])) (r:=ai) rfl rfl)) ?_
   rw [t0]
   exact this
  ·have e1:tbl S=[(0,0,none,[])]:=by
    rw [t0] at hM
    exact (hM.same mk0).trans rfl
   exact e2v (kC (m:=.bo) rfl (hM.tab false)) (y:=(.fr,tbT [(0,0,none,[])])) rfl (zE e1)
 ·have c8':=c8
  rw [show B.isEmpty=false from by cases B with | nil=>exact absurd rfl hB | cons _ _=>rfl] at c8'
  obtain ⟨t1,hd1,S1',hb,Sb,z7,z8,l1,h1,hk1,hmb⟩:=C0 (ns:=ns) (st:=(n:Int)) (bt:=bt) hB b8 bs baz bl btz hM hk
  obtain ⟨t2,hd2,S2,l2,h2,hk2,hl2⟩:=Cq (ns:=ns) (st:=(n:Int)) (bt:=bt) (b5:=pc (maT [bt] hb Sb false)) (z7:=z7) (z8:=z8) b8 (B.length - t1.length) sE (by show B.length - t1.length < 1000000;omega) rfl h1 hk1
  obtain ⟨hd3,S3,z9,l3,h3⟩:=C2 (ns:=ns) (st:=(n:Int)) (bt:=bt) (b5:=pc (maT [bt] hb Sb false)) (z7:=z7) (z8:=z8) hk2 hl2 baz bs h2
  have i1:dF (eC (.int 16)) (EL ns B (n:Int) bt (oc (tl tx)) (oc (maT tx hd S false)) (oc (maT [] [] S0 false)) none none none)=some (.fr,(List.range 16).map fun (k:Nat)=>T.int (k:Int)):=by
   rw [iZ (m:=.fr) (j:=16) rfl (by decide),lr]
   rfl
  have i3:iJ (e2 iU (eN bI (ab (ae 1) ai)) (eC (.int 1))) (eC (.int (-1))) (eC (.int (-1))) (EL ns B (n:Int) bt (pc (tl t2)) (oc (maT t2 hd2 S2 false)) (pc (maT [bt] hb Sb false)) z7 z8 none)=some (.fr,pV ((B.length:Int) - 1) B.length):=by
   have a:e2 iU (eN bI (ab (ae 1) ai)) (eC (.int 1)) (EL ns B (n:Int) bt (pc (tl t2)) (oc (maT t2 hd2 S2 false)) (pc (maT [bt] hb Sb false)) z7 z8 none)=some (.fr,.int ((B.length:Int) - 1)):=e2v (ki (m:=.pu) (l:=B) rfl) (y:=(.fr,.int 1)) rfl rfl
   unfold iJ
   rw [a]
   show (if -1<=(B.length:Int) - 1/\(B.length:Int) - 1 < 1000000 then some (Md.fr,pV ((B.length:Int) - 1) ((B.length:Int) - 1+1).toNat) else none)=_
   rw [Zr (by omega),show ((B.length:Int) - 1+1).toNat=B.length by omega]
  refine ⟨_,(ak ((iN c8').trans rfl)).trans ((ak ((iI i1 rfl).trans l1)).trans ((ak (η1:=EL ns B (n:Int) bt (oc (tl t1)) (oc (maT t1 hd1 S1' false)) (pc (maT [bt] hb Sb false)) z7 z8 none) rfl).trans ((ak l2).trans ((ak (η1:=EL ns B (n:Int) bt (pc (tl t2)) (oc (maT t2 hd2 S2 false)) (pc (maT [bt] hb Sb false)) z7 z8 none) rfl).trans ((ak ((iI i3 rfl).trans l3)).trans ((ak (η1:=EL ns B (n:Int) bt (pc (tl t2)) (pc (maT B hd3 S3 false)) (pc (maT [bt] hb Sb false)) z7 z8 z9) rfl).trans (da (pU (m:=.fr) (n:=.fr) (x:=true) (y:=true) ?_ ?_))))))))⟩
  ·exact de (xv (x:=(.pu,maT B hd3 S3 false)) rfl (xv (x:=(.pu,tl B)) (r:=ai) rfl rfl)) (kF h3)
  ·exact de (xv (x:=(.pu,maT [bt] hb Sb false)) rfl (xv (x:=(.fr,tl [bt])) (r:=ai) rfl rfl)) (kF hmb)
theorem wA (ns:Wu):rN [.scr ns]=some (.fr,.bl true):=by
 obtain ⟨bk,e,h8,h120,haz⟩:=Cc ns
 exact BR ns e h8 h120 haz
end T07
end
section
namespace T07
open PySem PySem.Spec PyProof.Rows L2 VS
theorem qv {G:Gx} {X:Cx} {x:Str} {p:Pos} (i:Nat) (a:X.N[i]?=some x) (b:Vis X.env.scope x:=by exact Or.inl rfl) (c:(x == ("__debug__" : Str))=false:=by rfl) (d:(x == ("__classdict__" : Str))=false:=by rfl):Q (PV G X (.Name x p) (ae i)):=bP i a b c d
noncomputable def top (i:Nat):Stmt:=PySem.Challenge.pw_allparts_k07_grown_in_any_weaving.main.body.getD i (.Pass ⟨0,0,0,0⟩)
structure Blt (mg:Wz):Prop where
 b_bool:mg "bool" = none
 b_dict:mg "dict" = none
 b_int:mg "int" = none
 b_isinstance:mg "isinstance" = none
 b_len:mg "len" = none
 b_list:mg "list" = none
 b_max:mg "max" = none
 b_min:mg "min" = none
 b_range:mg "range" = none
 b_sorted:mg "sorted" = none
 b_sum:mg "sum" = none
 b_tuple:mg "tuple" = none
 c_MOST_SIGNS:∃ t,mg "MOST_SIGNS" = some (.int 120 t)
 c_MOST_TEXTS:∃ t,mg "MOST_TEXTS" = some (.int 8 t)
noncomputable abbrev nsL:List Str:=["  ", "longs", "links", "ways", "texts", "heads", "nodes"]
theorem gJ {K:X4} {C D:Addr} {m:Me}:ft ((gxO nsL K C D).at m):=yD (by decide +kernel) (by decide +kernel)
structure ObF (K:X4) (mg:Wz) (C D:Addr):Prop where
 cl_Nodes:Cls K C
 mg_Nodes:mg "Nodes" = some (.ref C)
 n_longs_Nodes:cq K C "longs"
 n_links_Nodes:cq K C "links"
 n_ways_Nodes:cq K C "ways"
 n_texts_Nodes:cq K C "texts"
 n_heads_Nodes:cq K C "heads"
 n_nodes_Nodes:cq K C "nodes"
 cl_Machine:Cls K D
 mg_Machine:mg "Machine" = some (.ref D)
 n_longs_Machine:cq K D "longs"
 n_links_Machine:cq K D "links"
 n_ways_Machine:cq K D "ways"
 n_texts_Machine:cq K D "texts"
 n_heads_Machine:cq K D "heads"
 n_nodes_Machine:cq K D "nodes"
theorem fe {K:X4} {mg:Wz} {C D:Addr} {m:Me} (O:ObF K mg C D):FldOk ((gxO nsL K C D).at m) K 1 "longs" := tq rfl O.cl_Nodes O.cl_Machine O.n_longs_Nodes O.n_longs_Machine
theorem fh {K:X4} {mg:Wz} {C D:Addr} {m:Me} (O:ObF K mg C D):FldOk ((gxO nsL K C D).at m) K 2 "links" := tq rfl O.cl_Nodes O.cl_Machine O.n_links_Nodes O.n_links_Machine
theorem dY {K:X4} {mg:Wz} {C D:Addr} {m:Me} (O:ObF K mg C D):FldOk ((gxO nsL K C D).at m) K 3 "ways" := tq rfl O.cl_Nodes O.cl_Machine O.n_ways_Nodes O.n_ways_Machine
theorem dZ {K:X4} {mg:Wz} {C D:Addr} {m:Me} (O:ObF K mg C D):FldOk ((gxO nsL K C D).at m) K 4 "texts" := tq rfl O.cl_Nodes O.cl_Machine O.n_texts_Nodes O.n_texts_Machine
theorem js {K:X4} {mg:Wz} {C D:Addr} {m:Me} (O:ObF K mg C D):FldOk ((gxO nsL K C D).at m) K 5 "heads" := tq rfl O.cl_Nodes O.cl_Machine O.n_heads_Nodes O.n_heads_Machine
theorem lz {K:X4} {mg:Wz} {C D:Addr} {m:Me} (O:ObF K mg C D):FldOk ((gxO nsL K C D).at m) K 6 "nodes" := tq rfl O.cl_Nodes O.cl_Machine O.n_nodes_Nodes O.n_nodes_Machine
section
variable {P:Program} {w:World} {K:X4} {mg:Wz} {base:Heap} {C D:Addr}
noncomputable abbrev bW:Stmt:=inClass (top 11) 1
theorem jw:FnScope ["self", "long", "link", "ways"] ["self", "long", "link", "ways"] (af bW):=⟨rfl,rfl,rfl,by decide +kernel,rfl,by decide +kernel,by decide +kernel⟩
theorem aP {f:Addr} {fd:FuncData} (F:Fun K "new_node" "Nodes.new_node" bW f fd) (hm:Meth K C "new_node" f) (B:Blt mg) (O:ObF K mg C D) :
  MtAt P w K mg base 1 (gxO nsL K C D) 0 "new_node" ["self", "long", "link", "ways"] [false,false,true] aH:=tD F hm O.cl_Nodes (gb (by decide +kernel) (by decide +kernel)) jw rfl rfl (fun _ _ _ _ _ _ us hl=>by obtain ⟨_,_,_,_,rfl⟩:=L2.Ck hl;rfl) fun a cdv A outer s H E hr =>
  (ah (ip gJ (cx 1 (fe O) (aC 0 rfl (Or.inl rfl) rfl rfl) rfl) (aa (qv 1 rfl) ag rfl) rfl rfl rfl rfl rfl rfl rfl)
  (ah (ip gJ (cx 2 (fh O) (aC 0 rfl (Or.inl rfl) rfl rfl) rfl) (aa (qv 2 rfl) ag rfl) rfl rfl rfl rfl rfl rfl rfl)
  (ah (sY gJ (cx 3 (dY O) (aC 0 rfl (Or.inl rfl) rfl rfl) rfl) rfl rfl (Or.inl rfl) rfl rfl rfl rfl rfl rfl rfl rfl)
  (aq (bh (jH (bz B.b_len (aa (bq gJ (fe O) (qv 0 rfl) rfl) ag rfl) rfl rfl rfl) aj))))))
noncomputable abbrev bU:Stmt:=inClass (top 11) 0
theorem jv:FnScope ["self"] ["self"] (af bU):=⟨rfl,rfl,rfl,by decide +kernel,rfl,by decide +kernel,by decide +kernel⟩
theorem cJ {f:Addr} {fd:FuncData} (F:Fun K "__init__" "Nodes.__init__" bU f fd) (hm:Mk K C f) (B:Blt mg) (O:ObF K mg C D) (aP:MtAt P w K mg base 1 (gxO nsL K C D) 0 "new_node" ["self", "long", "link", "ways"] [false,false,true] aH) :
  InAt P w K mg base 2 (gxO nsL K C D) 0 0 "Nodes" ["self"] dk:=Es F hm O.mg_Nodes jv rfl rfl (fun _ _ _ _ _ _ us hl=>by obtain ⟨_,rfl⟩:=L2.kX hl;rfl) fun a cdv A outer s H E hr =>
  (ah (gz 0 1 gJ (fe O) (bE ag) rfl (Or.inl rfl) rfl rfl rfl)
  (ah (gz 0 2 gJ (fh O) (bE ag) rfl (Or.inl rfl) rfl rfl rfl)
  (ah (gz 0 3 gJ (dY O) (bE ag) rfl (Or.inl rfl) rfl rfl rfl)
  (aq (iD (cT gJ aP.at hr (by decide) (aC 0 rfl (Or.inl rfl) rfl rfl) (aa aj (aa lb (aa oM ag rfl) rfl) rfl) rfl rfl rfl) rfl)))))
noncomputable abbrev aX:Stmt:=inClass (top 11) 4
theorem bf:FnScope ["self", "node", "sign", "old", "long", "half"] ["self", "node", "sign"] (af aX):=⟨rfl,rfl,rfl,by decide +kernel,rfl,by decide +kernel,by decide +kernel⟩
theorem aY {f:Addr} {fd:FuncData} (F:Fun K "node_just_behind" "Nodes.node_just_behind" aX f fd) (hm:Meth K C "node_just_behind" f) (B:Blt mg) (O:ObF K mg C D) (aP:MtAt P w K mg base 1 (gxO nsL K C D) 0 "new_node" ["self", "long", "link", "ways"] [false,false,true] aH) :
  MtAt P w K mg base 2 (gxO nsL K C D) 0 "node_just_behind" ["self", "node", "sign"] [false,false] aw:=tD F hm O.cl_Nodes (gb (by decide +kernel) (by decide +kernel)) bf rfl rfl (fun _ _ _ _ _ _ us hl=>by obtain ⟨_,_,_,rfl⟩:=L2.sC hl;rfl) fun a cdv A outer s H E hr =>
  (ah (aA (lH hr (aS (bq gJ (dY O) (qv 0 rfl) rfl) (qv 1 rfl) (fun _ _=>rfl) rfl) (qv 2 rfl) (fun _ _=>rfl) rfl) bf.nd rfl (Or.inl rfl) rfl (Or.inl rfl))
  (ah (aA (bR (aS (bq gJ (fe O) (qv 0 rfl) rfl) (qv 1 rfl) (fun _ _=>rfl) rfl) aj) bf.nd rfl (Or.inl rfl) rfl (Or.inl rfl))
  (ah (bJ (eR hr (aS (bq gJ (fe O) (qv 0 rfl) rfl) (qv 3 rfl) (fun _ _=>rfl) rfl) (qv 4 rfl)) (aq (fT 3 rfl (Or.inl rfl) rfl rfl)) br)
  (ah (jK (cT gJ aP.at hr (by decide) (aC 0 rfl (Or.inl rfl) rfl rfl) (aa (qv 4 rfl) (aa (aS (bq gJ (fh O) (qv 0 rfl) rfl) (qv 3 rfl) (fun _ _=>rfl) rfl) (aa (rZ B.b_dict (aa (aS (bq gJ (dY O) (qv 0 rfl) rfl) (qv 3 rfl) (fun _ _=>rfl) rfl) ag rfl) rfl rfl) ag rfl) rfl) rfl) rfl rfl rfl) bf.nd rfl (Or.inl rfl) rfl (Or.inl rfl))
  (ah (g6 gJ hr (cx 2 (fh O) (aC 0 rfl (Or.inl rfl) rfl rfl) rfl) (qv 3 rfl) (qv 5 rfl) (fun _=>rfl) rfl rfl rfl)
  (ah (gp Yk (fH (iy (iA (qv 1 rfl)) (gK (eR hr (xn hr (aS (bq gJ (dY O) (qv 0 rfl) rfl) (qv 1 rfl) (fun _ _=>rfl) rfl) (qv 2 rfl) rfl rfl rfl rfl) (qv 3 rfl)))))
  (ah (g6 gJ hr (pB hr (cx 3 (dY O) (aC 0 rfl (Or.inl rfl) rfl rfl) rfl) (qv 1 rfl) (fun _ _=>rfl) rfl) (qv 2 rfl) (qv 5 rfl) (fun _=>rfl) rfl rfl rfl)
  (aq (aA (aS (bq gJ (fh O) (qv 0 rfl) rfl) (qv 1 rfl) (fun _ _=>rfl) rfl) bf.nd rfl (Or.inl rfl) rfl (Or.inl rfl)))))
  (aq (fT 5 rfl (Or.inl rfl) rfl rfl))))))))
noncomputable abbrev bA:Stmt:=inClass (top 11) 3
theorem cz:FnScope ["self", "head", "sign", "fresh", "node"] ["self", "head", "sign"] (af bA):=⟨rfl,rfl,rfl,by decide +kernel,rfl,by decide +kernel,by decide +kernel⟩
theorem bM {f:Addr} {fd:FuncData} (F:Fun K "head_behind" "Nodes.head_behind" bA f fd) (hm:Meth K C "head_behind" f) (B:Blt mg) (O:ObF K mg C D) (aP:MtAt P w K mg base 1 (gxO nsL K C D) 0 "new_node" ["self", "long", "link", "ways"] [false,false,true] aH) (aY:MtAt P w K mg base 2 (gxO nsL K C D) 0 "node_just_behind" ["self", "node", "sign"] [false,false] aw) :
  MtAt P w K mg base 3 (gxO nsL K C D) 0 "head_behind" ["self", "head", "sign"] [false,false] bN:=tD F hm O.cl_Nodes (gb (by decide +kernel) (by decide +kernel)) cz rfl rfl (fun _ _ _ _ _ _ us hl=>by obtain ⟨_,_,_,rfl⟩:=L2.sC hl;rfl) fun a cdv A outer s H E hr =>
  (ah (bJ (xj hr (qv 2 rfl) (aS (bq gJ (dY O) (qv 0 rfl) rfl) (qv 1 rfl) (fun _ _=>rfl) rfl) (by with_unfolding_all rfl) rfl) (aq (pE (cT gJ aY.at hr (by decide) (aC 0 rfl (Or.inl rfl) rfl rfl) (aa (qv 1 rfl) (aa (qv 2 rfl) ag rfl) rfl) rfl rfl rfl))) br)
  (ah (jK (cT gJ aP.at hr (by decide) (aC 0 rfl (Or.inl rfl) rfl rfl) (aa (bR (aS (bq gJ (fe O) (qv 0 rfl) rfl) (qv 1 rfl) (fun _ _=>rfl) rfl) aj) (aa aj (aa oM ag rfl) rfl) rfl) rfl rfl rfl) cz.nd rfl (Or.inl rfl) rfl (Or.inl rfl))
  (ah (aA (qv 1 rfl) cz.nd rfl (Or.inl rfl) rfl (Or.inl rfl))
  (ah (gp Yk (fH (iy (iA (qv 4 rfl)) (gK (oz hr (qv 2 rfl) (aS (bq gJ (dY O) (qv 0 rfl) rfl) (qv 4 rfl) (fun _ _=>rfl) rfl) (by with_unfolding_all rfl) rfl))))
  (ah (g6 gJ hr (pB hr (cx 3 (dY O) (aC 0 rfl (Or.inl rfl) rfl rfl) rfl) (qv 4 rfl) (fun _ _=>rfl) rfl) (qv 2 rfl) (qv 3 rfl) (fun _=>rfl) rfl rfl rfl)
  (aq (aA (aS (bq gJ (fh O) (qv 0 rfl) rfl) (qv 4 rfl) (fun _ _=>rfl) rfl) cz.nd rfl (Or.inl rfl) rfl (Or.inl rfl)))))
  (ah (bJ (iA (qv 4 rfl)) (aq (oN gJ hr (cx 2 (fh O) (aC 0 rfl (Or.inl rfl) rfl rfl) rfl) (qv 3 rfl) (cT gJ aY.at hr (by decide) (aC 0 rfl (Or.inl rfl) rfl rfl) (aa (qv 4 rfl) (aa (qv 2 rfl) ag rfl) rfl) rfl rfl rfl) (fun _=>rfl) rfl rfl rfl)) br)
  (aq (fT 3 rfl (Or.inl rfl) rfl rfl)))))))
noncomputable abbrev bG:Stmt:=inClass (top 11) 2
theorem dv:FnScope ["self", "head", "word", "sign"] ["self", "head", "word"] (af bG):=⟨rfl,rfl,rfl,by decide +kernel,rfl,by decide +kernel,by decide +kernel⟩
theorem bX {f:Addr} {fd:FuncData} (F:Fun K "head_grown" "Nodes.head_grown" bG f fd) (hm:Meth K C "head_grown" f) (B:Blt mg) (O:ObF K mg C D) (bM:MtAt P w K mg base 3 (gxO nsL K C D) 0 "head_behind" ["self", "head", "sign"] [false,false] bN) :
  MtAt P w K mg base 4 (gxO nsL K C D) 0 "head_grown" ["self", "head", "word"] [false,false] aU:=tD F hm O.cl_Nodes (gb (by decide +kernel) (by decide +kernel)) dv rfl rfl (fun _ _ _ _ _ _ us hl=>by obtain ⟨_,_,_,rfl⟩:=L2.sC hl;rfl) fun a cdv A outer s H E hr =>
  (ah (fJ Yk rfl (fI (qv 2 rfl) rfl) (bZ 3 dv.nd rfl (Or.inl rfl) (Or.inl rfl))
  (aq (jK (cT gJ bM.at hr (by decide) (aC 0 rfl (Or.inl rfl) rfl rfl) (aa (qv 1 rfl) (aa (qv 3 rfl) ag rfl) rfl) rfl rfl rfl) dv.nd rfl (Or.inl rfl) rfl (Or.inl rfl))) (fun _=>rfl))
  (aq (fT 1 rfl (Or.inl rfl) rfl rfl)))
noncomputable abbrev aZ:Stmt:=inClass (top 11) 6
theorem aK:FnScope ["self", "numbers", "met", "done", "ways", "sign"] ["self"] (af aZ):=⟨rfl,rfl,rfl,by decide +kernel,rfl,by decide +kernel,by decide +kernel⟩
theorem bu {m:Me} {f:Addr} {fd:FuncData} (F:Fun K "numbers_by_node" "Nodes.numbers_by_node" aZ f fd) (hm:Meth K C "numbers_by_node" f) (B:Blt mg) (O:ObF K mg C D) :
  MpAt P w K mg base 1 ((gxO nsL K C D).at m) 0 "numbers_by_node" ["self"] aG:=vV F hm O.cl_Nodes (gb (by decide +kernel) (by decide +kernel)) aK rfl rfl (fun _ _ _ _ _ _ us hl=>by obtain ⟨_,rfl⟩:=L2.kX hl;rfl) fun cdv A outer s H E hr =>
  (ah (eD vK aK.nd rfl (Or.inl rfl) rfl (Or.inl rfl))
  (ah (eD (bE (aa aj ag rfl)) aK.nd rfl (Or.inl rfl) rfl (Or.inl rfl))
  (ah (aA aj aK.nd rfl (Or.inl rfl) rfl (Or.inl rfl))
  (ah (gp Yk (kH (qv 3 rfl) (bz B.b_len (aa (qv 2 rfl) ag rfl) rfl rfl rfl))
  (ah (aA (aS (bq gJ (dY O) (qv 0 rfl) rfl) (aS (qv 2 rfl) (qv 3 rfl) (fun _ _=>rfl) rfl) (fun _ _=>rfl) rfl) aK.nd rfl (Or.inl rfl) rfl (Or.inl rfl))
  (ah (fJ Yk rfl (fI (m7 B.b_sorted (aa (qv 4 rfl) ag rfl) rfl rfl rfl rfl) rfl) (bZ 5 aK.nd rfl (Or.inl rfl) (Or.inl rfl))
  (aq (bJ (oz hr (lH hr (qv 4 rfl) (qv 5 rfl) (fun _ _=>rfl) rfl) (qv 1 rfl) (by with_unfolding_all rfl) rfl) (ah (vq 1 hr (lH hr (qv 4 rfl) (qv 5 rfl) (fun _ _=>rfl) rfl) (bz B.b_len (aa (qv 2 rfl) ag rfl) rfl rfl rfl) rfl (Or.inl rfl) rfl rfl (fun _=>rfl) rfl rfl rfl)
  (aq (gP 2 (aa (lH hr (qv 4 rfl) (qv 5 rfl) (fun _ _=>rfl) rfl) ag rfl) rfl rfl (Or.inl rfl) rfl rfl rfl rfl rfl))) br)) (fun _=>rfl))
  (aq (aA (bR (qv 3 rfl) aj) aK.nd rfl (Or.inl rfl) rfl (Or.inl rfl))))))
  (gC 2 (aq (fT 1 rfl (Or.inl rfl) rfl rfl)))))))
noncomputable abbrev cF:Stmt:=inClass (top 11) 7
theorem dE:FnScope ["self", "node", "numbers", "link", "ways", "steps"] ["self", "node", "numbers"] (af cF):=⟨rfl,rfl,rfl,by decide +kernel,rfl,by decide +kernel,by decide +kernel⟩
theorem dh {m:Me} {f:Addr} {fd:FuncData} (F:Fun K "row_of" "Nodes.row_of" cF f fd) (hm:Meth K C "row_of" f) (B:Blt mg) (O:ObF K mg C D) :
  MpAt P w K mg base 1 ((gxO nsL K C D).at m) 0 "row_of" ["self", "node", "numbers"] b7:=vV F hm O.cl_Nodes (gb (by decide +kernel) (by decide +kernel)) dE rfl rfl (fun _ _ _ _ _ _ us hl=>by obtain ⟨_,_,_,rfl⟩:=L2.sC hl;rfl) fun cdv A outer s H E hr =>
  (ah (aA (aS (bq gJ (fh O) (qv 0 rfl) rfl) (qv 1 rfl) (fun _ _=>rfl) rfl) dE.nd rfl (Or.inl rfl) rfl (Or.inl rfl))
  (ah (aA (aS (bq gJ (dY O) (qv 0 rfl) rfl) (qv 1 rfl) (fun _ _=>rfl) rfl) dE.nd rfl (Or.inr rfl) rfl (Or.inl rfl))
  (ah (aA (rY B.b_tuple (aa (jU 1 ["sign", "self", "node", "numbers", "link", "ways", "steps"] rfl (fI (m7 B.b_sorted (aa (bP 4 rfl (Or.inr (Or.inl rfl)) rfl rfl) ag rfl) rfl rfl rfl rfl) rfl) (jz (by decide)) (fun _ _ _ _ _=>(bZ 0 (show List.Nodup (["sign", "self", "node", "numbers", "link", "ways", "steps"]:List Str) from by decide +kernel) rfl (Or.inl rfl) (Or.inr rfl))) (fun _ _ _ _ _=>(h9 (aa (qv 0 rfl) (aa (qN hr (bP 3 rfl (Or.inr (Or.inl rfl)) rfl rfl) (lH hr (bP 5 rfl (Or.inr (Or.inl rfl)) rfl rfl) (qv 0 rfl) (fun _ _=>rfl) rfl) (fun _ _=>rfl) rfl) ag rfl) rfl))) rfl rfl (by decide) (fun _=>rfl)) ag rfl) rfl rfl rfl) dE.nd rfl (Or.inl rfl) rfl (Or.inl rfl))
  (ah (bJ (uc (qv 3 rfl)) (aq (bh (h9 (aa aj (aa aj (aa lb (aa (qv 5 rfl) ag rfl) rfl) rfl) rfl)))) br)
  (aq (bh (h9 (aa (bR (aS (bq gJ (fe O) (qv 0 rfl) rfl) (qv 3 rfl) (fun _ _=>rfl) rfl) aj) (aa (aS (bq gJ (fe O) (qv 0 rfl) rfl) (qv 1 rfl) (fun _ _=>rfl) rfl) (aa (qN hr (bP 2 rfl (Or.inr (Or.inl rfl)) rfl rfl) (qv 3 rfl) (fun _ _=>rfl) rfl) (aa (qv 5 rfl) ag rfl) rfl) rfl) rfl))))))))
noncomputable abbrev cV:Stmt:=inClass (top 11) 5
theorem hR:FnScope ["self", "numbers"] ["self"] (af cV):=⟨rfl,rfl,rfl,by decide +kernel,rfl,by decide +kernel,by decide +kernel⟩
theorem dC {m:Me} {f:Addr} {fd:FuncData} (F:Fun K "table" "Nodes.table" cV f fd) (hm:Meth K C "table" f) (B:Blt mg) (O:ObF K mg C D) (bu:∀ m,MpAt P w K mg base 1 ((gxO nsL K C D).at m) 0 "numbers_by_node" ["self"] aG) (dh:∀ m,MpAt P w K mg base 1 ((gxO nsL K C D).at m) 0 "row_of" ["self", "node", "numbers"] b7) :
  MpAt P w K mg base 2 ((gxO nsL K C D).at m) 0 "table" ["self"] dB:=vV F hm O.cl_Nodes (gb (by decide +kernel) (by decide +kernel)) hR rfl rfl (fun _ _ _ _ _ _ us hl=>by obtain ⟨_,rfl⟩:=L2.kX hl;rfl) fun cdv A outer s H E hr =>
  (ah (eD (d9 (bu _) hr (by decide) (bP 0 rfl (Or.inr (Or.inl rfl)) rfl rfl) rfl) hR.nd rfl (Or.inr rfl) rfl (Or.inl rfl))
  (aq (vM 1 ["node", "self", "numbers"] rfl rfl (Or.inr (Or.inl rfl)) rfl rfl (jz (by decide)) (fun _ _ _ _ _=>(bZ 0 (show List.Nodup (["node", "self", "numbers"]:List Str) from by decide +kernel) rfl (Or.inl rfl) (Or.inr rfl))) (fun _ _ _ _ _=>(r6 (dh _) hr (by decide) (bP 1 rfl (Or.inr (Or.inl rfl)) rfl rfl) (aa (qv 0 rfl) (aa (bP 2 rfl (Or.inr (Or.inl rfl)) rfl rfl) ag rfl) rfl) rfl rfl rfl)) rfl rfl (by decide) (fun _=>rfl))))
noncomputable abbrev cu:Stmt:=inClass (top 13) 1
theorem jP:FnScope ["self"] ["self"] (af cu):=⟨rfl,rfl,rfl,by decide +kernel,rfl,by decide +kernel,by decide +kernel⟩
theorem aO {f:Addr} {fd:FuncData} (F:Fun K "begin" "Machine.begin" cu f fd) (hm:Meth K D "begin" f) (B:Blt mg) (O:ObF K mg C D) :
  MtAt P w K mg base 1 (gxO nsL K C D) 1 "begin" ["self"] [] ax:=tD F hm O.cl_Machine (gb (by decide +kernel) (by decide +kernel)) jP rfl rfl (fun _ _ _ _ _ _ us hl=>by obtain ⟨_,rfl⟩:=L2.kX hl;rfl) fun a cdv A outer s H E hr =>
  (ah (bJ (xy (bz B.b_len (aa (bq gJ (dZ O) (qv 0 rfl) rfl) ag rfl) rfl rfl rfl) (mU B.c_MOST_TEXTS rfl rfl)) (aq lP) br)
  (ah (ip gJ (cx 4 (dZ O) (aC 0 rfl (Or.inl rfl) rfl rfl) rfl) (aa (cO (by decide +kernel) (by decide)) ag rfl) rfl rfl rfl rfl rfl rfl rfl)
  (ah (ip gJ (cx 5 (js O) (aC 0 rfl (Or.inl rfl) rfl rfl) rfl) (aa aj ag rfl) rfl rfl rfl rfl rfl rfl rfl)
  (aq (bh (jH (bz B.b_len (aa (bq gJ (dZ O) (qv 0 rfl) rfl) ag rfl) rfl rfl rfl) aj))))))
noncomputable abbrev eB:Stmt:=top 7
theorem pb:FnScope ["thing"] ["thing"] (af eB):=⟨rfl,rfl,rfl,by decide +kernel,rfl,by decide +kernel,by decide +kernel⟩
theorem fR {m:Me} {f:Addr} {fd:FuncData} (F:Fun K "is_whole" "is_whole" eB f fd) (hm:mg "is_whole" = some (.ref f)) (B:Blt mg) (O:ObF K mg C D) :
  FnAt P w K mg base 1 "is_whole" ["thing"] ((gxO nsL K C D).at m) jb:=ke F hm pb rfl rfl (fun _ _ _ _ _ _ us hl=>by obtain ⟨_,rfl⟩:=L2.kX hl;rfl) fun cdv A outer s H E hr =>
  (aq (bh (gD (nW .int B.b_isinstance B.b_int (qv 0 rfl) rfl rfl rfl rfl) (ig (pf (nW .bool B.b_isinstance B.b_bool (qv 0 rfl) rfl rfl rfl rfl))))))
noncomputable abbrev bV:Stmt:=top 8
theorem jl:FnScope ["book", "number"] ["book", "number"] (af bV):=⟨rfl,rfl,rfl,by decide +kernel,rfl,by decide +kernel,by decide +kernel⟩
theorem cG {m:Me} {f:Addr} {fd:FuncData} (F:Fun K "refuse_no_text" "refuse_no_text" bV f fd) (hm:mg "refuse_no_text" = some (.ref f)) (B:Blt mg) (O:ObF K mg C D) (fR:∀ m,FnAt P w K mg base 1 "is_whole" ["thing"] ((gxO nsL K C D).at m) jb) :
  FnAt P w K mg base 2 "refuse_no_text" ["book", "number"] ((gxO nsL K C D).at m) bH:=ke F hm jl rfl rfl (fun _ _ _ _ _ _ us hl=>by obtain ⟨_,_,rfl⟩:=L2.fC hl;rfl) fun cdv A outer s H E hr =>
  (aq (bJ (fH (oO (j3 (nB (bO (fR _) hr (aa (qv 1 rfl) ag rfl) (by decide) rfl rfl rfl rfl) rfl (fun _=>rfl))) (jV (j3 (jX aj (qv 1 rfl) (bz B.b_len (aa (qv 0 rfl) ag rfl) rfl rfl rfl) (by with_unfolding_all rfl)))))) (aq lP) br))
noncomputable abbrev eK:Stmt:=top 9
theorem o9:FnScope ["book"] ["book"] (af eK):=⟨rfl,rfl,rfl,by decide +kernel,rfl,by decide +kernel,by decide +kernel⟩
theorem fO {m:Me} {f:Addr} {fd:FuncData} (F:Fun K "signs_in" "signs_in" eK f fd) (hm:mg "signs_in" = some (.ref f)) (B:Blt mg) (O:ObF K mg C D) :
  FnAt P w K mg base 1 "signs_in" ["book"] ((gxO nsL K C D).at m) fK:=ke F hm o9 rfl rfl (fun _ _ _ _ _ _ us hl=>by obtain ⟨_,rfl⟩:=L2.kX hl;rfl) fun cdv A outer s H E hr =>
  (aq (bh (xA B.b_sum (aa (jU 1 ["text", "book"] rfl (fI (qv 0 rfl) rfl) (jz (by decide)) (fun _ _ _ _ _=>(bZ 0 (show List.Nodup (["text", "book"]:List Str) from by decide +kernel) rfl (Or.inl rfl) (Or.inr rfl))) (fun _ _ _ _ _=>(bz B.b_len (aa (qv 0 rfl) ag rfl) rfl rfl rfl)) rfl rfl (by decide) (fun _=>rfl)) ag rfl) rfl rfl rfl rfl)))
noncomputable abbrev cI:Stmt:=inClass (top 13) 2
theorem kz:FnScope ["self", "text", "word"] ["self", "text", "word"] (af cI):=⟨rfl,rfl,rfl,by decide +kernel,rfl,by decide +kernel,by decide +kernel⟩
theorem aW {f:Addr} {fd:FuncData} (F:Fun K "grow" "Machine.grow" cI f fd) (hm:Meth K D "grow" f) (B:Blt mg) (O:ObF K mg C D) (bX:MtAt P w K mg base 4 (gxO nsL K C D) 0 "head_grown" ["self", "head", "word"] [false,false] aU) (cG:∀ m,FnAt P w K mg base 2 "refuse_no_text" ["book", "number"] ((gxO nsL K C D).at m) bH) (fO:∀ m,FnAt P w K mg base 1 "signs_in" ["book"] ((gxO nsL K C D).at m) fK) :
  MtAt P w K mg base 5 (gxO nsL K C D) 1 "grow" ["self", "text", "word"] [false,false] av:=tD F hm O.cl_Machine (gb (by decide +kernel) (by decide +kernel)) kz rfl rfl (fun _ _ _ _ _ _ us hl=>by obtain ⟨_,_,_,rfl⟩:=L2.sC hl;rfl) fun a cdv A outer s H E hr =>
  (ah (vx (bO (cG _) hr (aa (bq gJ (dZ O) (qv 0 rfl) rfl) (aa (qv 1 rfl) ag rfl) rfl) (by decide) rfl rfl rfl rfl) rfl)
  (ah (bJ (wJ (bR (bO (fO _) hr (aa (bq gJ (dZ O) (qv 0 rfl) rfl) ag rfl) (by decide) rfl rfl rfl rfl) (bz B.b_len (aa (qv 2 rfl) ag rfl) rfl rfl rfl)) (mU B.c_MOST_SIGNS rfl rfl)) (aq lP) br)
  (ah (oN gJ hr (cx 5 (js O) (aC 0 rfl (Or.inl rfl) rfl rfl) rfl) (qv 1 rfl) (cT gJ bX.at hr (by decide) (cx 6 (lz O) (aC 0 rfl (Or.inl rfl) rfl rfl) rfl) (aa (aS (bq gJ (js O) (qv 0 rfl) rfl) (qv 1 rfl) (fun _ _=>rfl) rfl) (aa (qv 2 rfl) ag rfl) rfl) rfl rfl rfl) (fun _=>rfl) rfl rfl rfl)
  (aq (g6 gJ hr (cx 4 (dZ O) (aC 0 rfl (Or.inl rfl) rfl rfl) rfl) (qv 1 rfl) (bR (aS (bq gJ (dZ O) (qv 0 rfl) rfl) (qv 1 rfl) (fun _ _=>rfl) rfl) (qv 2 rfl)) (fun _=>rfl) rfl rfl rfl)))))
noncomputable abbrev b6:Stmt:=inClass (top 13) 0
theorem fz:FnScope ["self", "book", "text"] ["self", "book"] (af b6):=⟨rfl,rfl,rfl,by decide +kernel,rfl,by decide +kernel,by decide +kernel⟩
theorem aL {f:Addr} {fd:FuncData} (F:FunD K "__init__" "Machine.__init__" b6 f fd) (hm:Mk K D f) (B:Blt mg) (O:ObF K mg C D) (aO:MtAt P w K mg base 1 (gxO nsL K C D) 1 "begin" ["self"] [] ax) (aW:MtAt P w K mg base 5 (gxO nsL K C D) 1 "grow" ["self", "text", "word"] [false,false] av) (cJ:InAt P w K mg base 2 (gxO nsL K C D) 0 0 "Nodes" ["self"] dk) :
  InAd P w K mg base 6 (gxO nsL K C D) 1 1 "Machine" ["self", "book"] aE:=Ap F hm O.mg_Machine fz rfl rfl (fun _ _ _ _ _ _ _ _ _ _ us X ho hs hl=>by obtain ⟨_,_,rfl⟩:=L2.fC hl;exact PySem.W.binds_K X rfl ho hs rfl rfl) (fun _ _ _ _ _ _ _ _ _ _ us X ho hs hl=>by obtain ⟨_,rfl⟩:=L2.kX (Nat.succ.inj hl);exact PySem.W.binds_K X rfl ho hs rfl rfl) fun a cdv A outer s H E hr =>
  (ah (gz 0 4 gJ (dZ O) (bE ag) rfl (Or.inl rfl) rfl rfl rfl)
  (ah (gz 0 5 gJ (js O) (bE ag) rfl (Or.inl rfl) rfl rfl rfl)
  (ah (gz 0 6 gJ (lz O) (sT cJ.at hr (by decide) rfl rfl) rfl (Or.inl rfl) rfl rfl rfl)
  (aq (bJ (iA (qv 1 rfl)) (aq (fJ Yk rfl (fI (qv 1 rfl) rfl) (bZ 2 fz.nd rfl (Or.inl rfl) (Or.inl rfl))
  (aq (iD (uG aW.at hr (by decide) rfl (Or.inl rfl) rfl rfl (gO gJ aO.at hr (by decide) (aC 0 rfl (Or.inl rfl) rfl rfl) rfl) (aa (qv 2 rfl) ag rfl) rfl rfl rfl) rfl)) (fun _=>rfl))) br)))))
noncomputable abbrev cH:Stmt:=inClass (top 13) 3
theorem ky:FnScope ["self"] ["self"] (af cH):=⟨rfl,rfl,rfl,by decide +kernel,rfl,by decide +kernel,by decide +kernel⟩
theorem di {m:Me} {f:Addr} {fd:FuncData} (F:Fun K "book" "Machine.book" cH f fd) (hm:Meth K D "book" f) (B:Blt mg) (O:ObF K mg C D) :
  MpAt P w K mg base 1 ((gxO nsL K C D).at m) 1 "book" ["self"] dX:=vV F hm O.cl_Machine (gb (by decide +kernel) (by decide +kernel)) ky rfl rfl (fun _ _ _ _ _ _ us hl=>by obtain ⟨_,rfl⟩:=L2.kX hl;rfl) fun cdv A outer s H E hr =>
  (aq (bh (jZ B.b_list (aa (bq gJ (dZ O) (qv 0 rfl) rfl) ag rfl) rfl rfl rfl rfl)))
noncomputable abbrev cw:Stmt:=inClass (top 13) 4
theorem jY:FnScope ["self"] ["self"] (af cw):=⟨rfl,rfl,rfl,by decide +kernel,rfl,by decide +kernel,by decide +kernel⟩
theorem bj {m:Me} {f:Addr} {fd:FuncData} (F:Fun K "table" "Machine.table" cw f fd) (hm:Meth K D "table" f) (B:Blt mg) (O:ObF K mg C D) (dC:∀ m,MpAt P w K mg base 2 ((gxO nsL K C D).at m) 0 "table" ["self"] dB) :
  MpAt P w K mg base 3 ((gxO nsL K C D).at m) 1 "table" ["self"] bL:=vV F hm O.cl_Machine (gb (by decide +kernel) (by decide +kernel)) jY rfl rfl (fun _ _ _ _ _ _ us hl=>by obtain ⟨_,rfl⟩:=L2.kX hl;rfl) fun cdv A outer s H E hr =>
  (aq (bh (d9 (dC _) hr (by decide) (bq gJ (lz O) (qv 0 rfl) rfl) rfl)))
noncomputable abbrev cW:Stmt:=top 15
theorem lj:FnScope ["_law_script", "_law_k"] ["_law_script", "_law_k"] (af cW):=⟨rfl,rfl,rfl,by decide +kernel,rfl,by decide +kernel,by decide +kernel⟩
theorem aR {m:Me} {f:Addr} {fd:FuncData} (F:Fun K "_law_cell_at" "_law_cell_at" cW f fd) (hm:mg "_law_cell_at" = some (.ref f)) (B:Blt mg) (O:ObF K mg C D) :
  FnAt P w K mg base 1 "_law_cell_at" ["_law_script", "_law_k"] ((gxO nsL K C D).at m) ay:=ke F hm lj rfl rfl (fun _ _ _ _ _ _ us hl=>by obtain ⟨_,_,rfl⟩:=L2.fC hl;rfl) fun cdv A outer s H E hr =>
  (ah (bJ (kH (qv 1 rfl) (bz B.b_len (aa (qv 0 rfl) ag rfl) rfl rfl rfl)) (aq (bh (aS (qv 0 rfl) (qv 1 rfl) (fun _ _=>rfl) rfl))) br)
  (aq (bh aj)))
noncomputable abbrev dM:Stmt:=top 16
theorem gL:FnScope ["_law_cell", "_law_k", "_law_number"] ["_law_cell", "_law_k"] (af dM):=⟨rfl,rfl,rfl,by decide +kernel,rfl,by decide +kernel,by decide +kernel⟩
theorem eW {m:Me} {f:Addr} {fd:FuncData} (F:Fun K "_law_mixed" "_law_mixed" dM f fd) (hm:mg "_law_mixed" = some (.ref f)) (B:Blt mg) (O:ObF K mg C D) :
  FnAt P w K mg base 1 "_law_mixed" ["_law_cell", "_law_k"] ((gxO nsL K C D).at m) fg:=ke F hm gL rfl rfl (fun _ _ _ _ _ _ us hl=>by obtain ⟨_,_,rfl⟩:=L2.fC hl;rfl) fun cdv A outer s H E hr =>
  (ah (aA (cj (bR (bR (cj (qv 0 rfl) aj) (iC aj (qv 1 rfl))) aj) aj) gL.nd rfl (Or.inl rfl) rfl (Or.inl rfl))
  (ah (aA (bR (cj (iC (qv 2 rfl) (qv 2 rfl)) aj) (iC aj (qv 1 rfl))) gL.nd rfl (Or.inl rfl) rfl (Or.inl rfl))
  (aq (bh (cj (iC (qv 2 rfl) (qv 2 rfl)) aj)))))
noncomputable abbrev d6:Stmt:=top 17
theorem dj:FnScope ["_law_script", "_law_letters", "_law_most", "_law_j", "_law_cell", "_law_size", "_law_signs", "_law_k"] ["_law_script", "_law_letters", "_law_most", "_law_j"] (af d6):=⟨rfl,rfl,rfl,by decide +kernel,rfl,by decide +kernel,by decide +kernel⟩
theorem fS {m:Me} {f:Addr} {fd:FuncData} (F:Fun K "_law_text" "_law_text" d6 f fd) (hm:mg "_law_text" = some (.ref f)) (B:Blt mg) (O:ObF K mg C D) (aR:∀ m,FnAt P w K mg base 1 "_law_cell_at" ["_law_script", "_law_k"] ((gxO nsL K C D).at m) ay) (eW:∀ m,FnAt P w K mg base 1 "_law_mixed" ["_law_cell", "_law_k"] ((gxO nsL K C D).at m) fg) :
  FnAt P w K mg base 2 "_law_text" ["_law_script", "_law_letters", "_law_most", "_law_j"] ((gxO nsL K C D).at m) dG:=ke F hm dj rfl rfl (fun _ _ _ _ _ _ us hl=>by obtain ⟨_,_,_,_,rfl⟩:=L2.Ck hl;rfl) fun cdv A outer s H E hr =>
  (ah (aA (bO (aR _) hr (aa (qv 0 rfl) (aa (bR aj (qv 3 rfl)) ag rfl) rfl) (by decide) rfl rfl rfl rfl) dj.nd rfl (Or.inl rfl) rfl (Or.inl rfl))
  (ah (aA (cj (qv 4 rfl) (bR (qv 2 rfl) aj)) dj.nd rfl (Or.inl rfl) rfl (Or.inl rfl))
  (ah (aA (cQ (qv 4 rfl) (bR (qv 2 rfl) aj)) dj.nd rfl (Or.inl rfl) rfl (Or.inl rfl))
  (ah (eD (bE ag) dj.nd rfl (Or.inl rfl) rfl (Or.inl rfl))
  (ah (fJ Yk rfl (gM (qv 5 rfl) rfl B.b_range rfl rfl) (bZ 7 dj.nd rfl (Or.inl rfl) (Or.inl rfl))
  (aq (bJ (eR hr (cj (bO (aR _) hr (aa (qv 0 rfl) (aa aj ag rfl) rfl) (by decide) rfl rfl rfl rfl) aj) aj) (ah (gP 6 (aa (aS (qv 1 rfl) (cj (qv 4 rfl) (bz B.b_len (aa (qv 1 rfl) ag rfl) rfl rfl rfl)) (fun _ _=>rfl) rfl) ag rfl) rfl rfl (Or.inl rfl) rfl rfl rfl rfl rfl)
  (aq (aA (cQ (qv 4 rfl) (bz B.b_len (aa (qv 1 rfl) ag rfl) rfl rfl rfl)) dj.nd rfl (Or.inl rfl) rfl (Or.inl rfl)))) (aq (gP 6 (aa (aS (qv 1 rfl) (cj (cQ (bO (eW _) hr (aa (qv 4 rfl) (aa (bR (iC aj (qv 3 rfl)) (qv 7 rfl)) ag rfl) rfl) (by decide) rfl rfl rfl rfl) aj) (bz B.b_len (aa (qv 1 rfl) ag rfl) rfl rfl rfl)) (fun _ _=>rfl) rfl) ag rfl) rfl rfl (Or.inl rfl) rfl rfl rfl rfl rfl)))) (fun _=>rfl))
  (gC 6 (aq (bh (m8 (cO (by decide +kernel) (by decide)) (aa (qv 6 rfl) ag rfl) rfl rfl rfl rfl rfl rfl)))))))))
noncomputable abbrev eI:Stmt:=top 18
theorem dg:FnScope ["_law_script", "_law_cell", "_law_letters", "_law_count", "_law_most"] ["_law_script"] (af eI):=⟨rfl,rfl,rfl,by decide +kernel,rfl,by decide +kernel,by decide +kernel⟩
theorem gj {m:Me} {f:Addr} {fd:FuncData} (F:Fun K "_law_book" "_law_book" eI f fd) (hm:mg "_law_book" = some (.ref f)) (B:Blt mg) (O:ObF K mg C D) (aR:∀ m,FnAt P w K mg base 1 "_law_cell_at" ["_law_script", "_law_k"] ((gxO nsL K C D).at m) ay) (fS:∀ m,FnAt P w K mg base 2 "_law_text" ["_law_script", "_law_letters", "_law_most", "_law_j"] ((gxO nsL K C D).at m) dG) :
  FnAt P w K mg base 3 "_law_book" ["_law_script"] ((gxO nsL K C D).at m) gg:=ke F hm dg rfl rfl (fun _ _ _ _ _ _ us hl=>by obtain ⟨_,rfl⟩:=L2.kX hl;rfl) fun cdv A outer s H E hr =>
  (ah (aA (bO (aR _) hr (aa (bP 0 rfl (Or.inr (Or.inl rfl)) rfl rfl) (aa aj ag rfl) rfl) (by decide) rfl rfl rfl rfl) dg.nd rfl (Or.inl rfl) rfl (Or.inl rfl))
  (ah (aA (aS (bE (aa (cO (by decide +kernel) (by decide)) (aa (cO (by decide +kernel) (by decide)) (aa (cO (by decide +kernel) (by decide)) (aa (cO (by decide +kernel) (by decide)) (aa (cO (by decide +kernel) (by decide)) (aa (cO (by decide +kernel) (by decide)) ag rfl) rfl) rfl) rfl) rfl) rfl)) (cj (cQ (qv 1 rfl) aj) aj) (fun _ _=>rfl) rfl) dg.nd rfl (Or.inr rfl) rfl (Or.inl rfl))
  (ah (aA (aS (bE (aa aj (aa aj (aa aj (aa aj (aa aj (aa aj (aa aj (aa aj ag rfl) rfl) rfl) rfl) rfl) rfl) rfl) rfl)) (cj (cQ (qv 1 rfl) aj) aj) (fun _ _=>rfl) rfl) dg.nd rfl (Or.inl rfl) rfl (Or.inl rfl))
  (ah (aA (aS (bE (aa aj (aa aj (aa aj (aa aj ag rfl) rfl) rfl) rfl)) (jH (vX B.b_min (aa (qv 3 rfl) (aa aj ag rfl) rfl) rfl rfl rfl rfl) aj) (fun _ _=>rfl) rfl) dg.nd rfl (Or.inr rfl) rfl (Or.inl rfl))
  (ah (bJ (eR hr (cj (cQ (qv 1 rfl) aj) aj) aj) (aq (aA (cQ (aS (bE (aa aj (aa aj ag rfl) rfl)) (cj (cQ (qv 1 rfl) aj) aj) (fun _ _=>rfl) rfl) (vD B.b_max (aa aj (aa (qv 3 rfl) ag rfl) rfl) rfl rfl rfl rfl)) dg.nd rfl (Or.inr rfl) rfl (Or.inl rfl))) br)
  (ah (bJ (fH (iy (eR hr (qv 3 rfl) aj) (gK (zi hr (cj (cQ (qv 1 rfl) aj) aj) aj)))) (aq (aA aj dg.nd rfl (Or.inr rfl) rfl (Or.inl rfl))) br)
  (aq (bh (jU 1 ["_law_j", "_law_script", "_law_cell", "_law_letters", "_law_count", "_law_most"] rfl (gM (qv 3 rfl) rfl B.b_range rfl rfl) (jz (by decide)) (fun _ _ _ _ _=>(bZ 0 (show List.Nodup (["_law_j", "_law_script", "_law_cell", "_law_letters", "_law_count", "_law_most"]:List Str) from by decide +kernel) rfl (Or.inl rfl) (Or.inr rfl))) (fun _ _ _ _ _=>(bO (fS _) hr (aa (bP 1 rfl (Or.inr (Or.inl rfl)) rfl rfl) (aa (bP 3 rfl (Or.inr (Or.inl rfl)) rfl rfl) (aa (bP 5 rfl (Or.inr (Or.inl rfl)) rfl rfl) (aa (qv 0 rfl) ag rfl) rfl) rfl) rfl) (by decide) rfl rfl rfl rfl)) rfl rfl (by decide) (fun _=>rfl))))))))))
noncomputable abbrev ed:Stmt:=top 19
theorem eV:FnScope ["_law_machine", "_law_whole", "_law_kept", "_law_cell", "_law_told", "_law_at", "_law_rest", "_law_bit"] ["_law_machine", "_law_whole", "_law_kept", "_law_cell"] (af ed):=⟨rfl,rfl,rfl,by decide +kernel,rfl,by decide +kernel,by decide +kernel⟩
theorem fW {m:Me} {f:Addr} {fd:FuncData} (F:Fun K "_law_deed" "_law_deed" ed f fd) (hm:mg "_law_deed" = some (.ref f)) (B:Blt mg) (O:ObF K mg C D) (aO:MtAt P w K mg base 1 (gxO nsL K C D) 1 "begin" ["self"] [] ax) (aW:MtAt P w K mg base 5 (gxO nsL K C D) 1 "grow" ["self", "text", "word"] [false,false] av) :
  IoAt P w K mg base 6 "_law_deed" ["_law_machine", "_law_whole", "_law_kept", "_law_cell"] ((gxO nsL K C D).at m) [false,true,false] eG:=Ee F hm eV rfl rfl (fun _ _ _ _ _ _ us hl=>by obtain ⟨_,_,_,_,rfl⟩:=L2.Ck hl;rfl) fun m1 cdv A outer s H E hr =>
  (ah (bJ (fH (oO (fH (iy (eR hr (cj (qv 3 rfl) aj) aj) (gK (kH (bz B.b_len (aa (j0 (qv 2 rfl)) ag rfl) rfl rfl rfl) (bz B.b_len (aa (qv 1 rfl) ag rfl) rfl rfl rfl))))) (jV (eR hr (j0 (qv 2 rfl)) (bE ag))))) (ah (ip gJ (ju (aC 2 rfl (Or.inl rfl) rfl rfl)) (aa (cO (by decide +kernel) (by decide)) ag rfl) rfl rfl rfl rfl rfl rfl rfl)
  (ah (jK (gO gJ aO.at hr (by decide) (ju (aC 0 rfl (Or.inl rfl) rfl rfl)) rfl) eV.nd rfl (Or.inl rfl) rfl (Or.inl rfl))
  (aq (bh (gD (nW .int B.b_isinstance B.b_int (qv 4 rfl) rfl rfl rfl rfl) (gD (pf (nW .bool B.b_isinstance B.b_bool (qv 4 rfl) rfl rfl rfl rfl)) (ig (oh hr (qv 4 rfl) (jH (bz B.b_len (aa (j0 (qv 2 rfl)) ag rfl) rfl rfl rfl) aj))))))))) br)
  (ah (aA (cj (cQ (qv 3 rfl) aj) (bz B.b_len (aa (j0 (qv 2 rfl)) ag rfl) rfl rfl rfl)) eV.nd rfl (Or.inl rfl) rfl (Or.inl rfl))
  (ah (aA (d4 (aS (qv 1 rfl) (qv 5 rfl) (fun _ _=>rfl) rfl) (eA (bz B.b_len (aa (aS (j0 (qv 2 rfl)) (qv 5 rfl) (fun _ _=>rfl) rfl) ag rfl) rfl rfl rfl)) d5 rfl) eV.nd rfl (Or.inl rfl) rfl (Or.inl rfl))
  (ah (aA (d4 (qv 6 rfl) d5 (eA (aS (bE (aa aj (aa aj (aa aj (aa aj (aa aj ag rfl) rfl) rfl) rfl) rfl)) (cj (cQ (qv 3 rfl) aj) aj) (fun _ _=>rfl) rfl)) rfl) eV.nd rfl (Or.inl rfl) rfl (Or.inl rfl))
  (ah (g6 gJ hr (ju (aC 2 rfl (Or.inl rfl) rfl rfl)) (qv 5 rfl) (bR (aS (j0 (qv 2 rfl)) (qv 5 rfl) (fun _ _=>rfl) rfl) (qv 7 rfl)) (fun _=>rfl) rfl rfl rfl)
  (aq (pE (vT (cT gJ aW.at hr (by decide) (ju (aC 0 rfl (Or.inl rfl) rfl rfl)) (aa (qv 5 rfl) (aa (qv 7 rfl) ag rfl) rfl) rfl rfl rfl)))))))))
noncomputable abbrev d7:Stmt:=top 20
theorem oy:FnScope ["_law_machine", "_law_kept"] ["_law_machine", "_law_kept"] (af d7):=⟨rfl,rfl,rfl,by decide +kernel,rfl,by decide +kernel,by decide +kernel⟩
theorem df {m:Me} {f:Addr} {fd:FuncData} (F:Fun K "_law_same" "_law_same" d7 f fd) (hm:mg "_law_same" = some (.ref f)) (B:Blt mg) (O:ObF K mg C D) (aL:InAd P w K mg base 6 (gxO nsL K C D) 1 1 "Machine" ["self", "book"] aE) (di:∀ m,MpAt P w K mg base 1 ((gxO nsL K C D).at m) 1 "book" ["self"] dX) (bj:∀ m,MpAt P w K mg base 3 ((gxO nsL K C D).at m) 1 "table" ["self"] bL) :
  FnAt P w K mg base 8 "_law_same" ["_law_machine", "_law_kept"] ((gxO nsL K C D).at m) cA:=ke F hm oy rfl rfl (fun _ _ _ _ _ _ us hl=>by obtain ⟨_,_,rfl⟩:=L2.fC hl;rfl) fun cdv A outer s H E hr =>
  (aq (bh (gD (oh hr (d9 (di _) hr (by decide) (qv 0 rfl) rfl) (qv 1 rfl)) (ig (oh hr (d9 (bj _) hr (by decide) (qv 0 rfl) rfl) (d9 (bj _) hr (by decide) (mV aL.at hr (by decide) (aa (jZ B.b_list (aa (qv 1 rfl) ag rfl) rfl rfl rfl rfl) ag rfl) zp rfl rfl rfl rfl) rfl))))))
noncomputable abbrev jm:Stmt:=top 21
theorem fM:FnScope ["_law_script", "_law_whole", "_law_start", "_law_kept", "_law_machine", "_law_beside_it", "_law_beside_text", "_law_k", "_law_cell", "_law_at"] ["_law_script"] (af jm):=⟨rfl,rfl,rfl,by decide +kernel,rfl,by decide +kernel,by decide +kernel⟩
theorem Bl {m:Me} {f:Addr} {fd:FuncData} (F:Fun K "law" "law" jm f fd) (B:Blt mg) (O:ObF K mg C D) (aL:InAd P w K mg base 6 (gxO nsL K C D) 1 1 "Machine" ["self", "book"] aE) (aO:MtAt P w K mg base 1 (gxO nsL K C D) 1 "begin" ["self"] [] ax) (aW:MtAt P w K mg base 5 (gxO nsL K C D) 1 "grow" ["self", "text", "word"] [false,false] av) (bj:∀ m,MpAt P w K mg base 3 ((gxO nsL K C D).at m) 1 "table" ["self"] bL) (gj:∀ m,FnAt P w K mg base 3 "_law_book" ["_law_script"] ((gxO nsL K C D).at m) gg) (aR:∀ m,FnAt P w K mg base 1 "_law_cell_at" ["_law_script", "_law_k"] ((gxO nsL K C D).at m) ay) (fW:∀ m,IoAt P w K mg base 6 "_law_deed" ["_law_machine", "_law_whole", "_law_kept", "_law_cell"] ((gxO nsL K C D).at m) [false,true,false] eG) (df:∀ m,FnAt P w K mg base 8 "_law_same" ["_law_machine", "_law_kept"] ((gxO nsL K C D).at m) cA) :
  FnOk P w K mg base CX0 9 f fd ["_law_script"] (spF ((gxO nsL K C D).at m) rN):=Ey F fM rfl rfl fun cdv A outer s H E hr =>
  (ah (aA (bO (gj _) hr (aa (bP 0 rfl (Or.inr (Or.inl rfl)) rfl rfl) ag rfl) (by decide) rfl rfl rfl rfl) fM.nd rfl (Or.inl rfl) rfl (Or.inl rfl))
  (ah (aA (cj (bO (aR _) hr (aa (bP 0 rfl (Or.inr (Or.inl rfl)) rfl rfl) (aa aj ag rfl) rfl) (by decide) rfl rfl rfl rfl) (bR (bz B.b_len (aa (qv 1 rfl) ag rfl) rfl rfl rfl) aj)) fM.nd rfl (Or.inl rfl) rfl (Or.inl rfl))
  (ah (qw 1 ["_law_text_here", "_law_script", "_law_whole", "_law_start", "_law_kept", "_law_machine", "_law_beside_it", "_law_beside_text", "_law_k", "_law_cell", "_law_at"] (fun _ _ _ h=>AB h) rfl (fI (d4 (qv 1 rfl) d5 (eA (qv 2 rfl)) rfl) rfl) (jz (by decide)) (fun _ _ _ _ _=>(bZ 0 (show List.Nodup (["_law_text_here", "_law_script", "_law_whole", "_law_start", "_law_kept", "_law_machine", "_law_beside_it", "_law_beside_text", "_law_k", "_law_cell", "_law_at"]:List Str) from by decide +kernel) rfl (Or.inl rfl) (Or.inr rfl))) (fun _ _ _ _ _=>(d4 (qv 0 rfl) d5 (eA (cj (cQ (bO (aR _) hr (aa (bP 1 rfl (Or.inr (Or.inl rfl)) rfl rfl) (aa aj ag rfl) rfl) (by decide) rfl rfl rfl rfl) aj) (bR (bz B.b_len (aa (qv 0 rfl) ag rfl) rfl rfl rfl) aj))) rfl)) fM.nd rfl (Or.inl rfl) rfl rfl (by decide) rfl (Or.inl rfl) (fun _=>rfl))
  (ah (eD (mV aL.at hr (by decide) (aa (jZ B.b_list (aa (qv 3 rfl) ag rfl) rfl rfl rfl rfl) ag rfl) zp rfl rfl rfl rfl) fM.nd rfl (Or.inl rfl) rfl (Or.inl rfl))
  (ah (bJ (eR hr (qv 3 rfl) (bE ag)) (aq (eD (m6 aL.at hr (by decide) rfl rfl) fM.nd rfl (Or.inl rfl) rfl (Or.inl rfl))) br)
  (ah (eD (m6 aL.at hr (by decide) rfl rfl) fM.nd rfl (Or.inl rfl) rfl (Or.inl rfl))
  (ah (aA (bR (cO (by decide +kernel) (by decide)) (d4 (m8 (cO (by decide +kernel) (by decide)) (aa (qv 1 rfl) ag rfl) rfl rfl rfl rfl rfl rfl) d5 (eA aj) rfl)) fM.nd rfl (Or.inl rfl) rfl (Or.inl rfl))
  (ah (bJ (eR hr (qv 1 rfl) (bE ag)) (aq (bh (gD (bO (df _) hr (aa (qv 4 rfl) (aa (bE ag) ag rfl) rfl) (by decide) rfl rfl rfl rfl) (ig (oh hr (d9 (bj _) hr (by decide) (qv 4 rfl) rfl) (bE (aa (h9 (aa aj (aa aj (aa lb (aa (h9 ag) ag rfl) rfl) rfl) rfl)) ag rfl))))))) br)
  (ah (fJ Yk rfl (gM aj rfl B.b_range rfl rfl) (bZ 7 fM.nd rfl (Or.inl rfl) (Or.inl rfl))
  (ah (aA (bR (bO (aR _) hr (aa (bP 0 rfl (Or.inr (Or.inl rfl)) rfl rfl) (aa (bR aj (qv 7 rfl)) ag rfl) rfl) (by decide) rfl rfl rfl rfl) (iC aj (qv 7 rfl))) fM.nd rfl (Or.inl rfl) rfl (Or.inl rfl))
  (ah (zd (vH (sO (yB (tU (fW _) hr (ll 4 false rfl (Or.inl rfl) rfl rfl (pF (qv 1 rfl) (ll 3 false rfl (Or.inl rfl) rfl rfl (pF (qv 8 rfl) tH rfl) rfl) rfl) rfl) (by decide) rfl rfl rfl rfl) (fun _=>rfl))) (jV (j3 (nB (bO (df _) hr (aa (qv 4 rfl) (aa (qv 3 rfl) ag rfl) rfl) (by decide) rfl rfl rfl rfl) rfl (fun _=>rfl))))) (aq (bh yL)) br)
  (aq (bJ (eR hr (qv 7 rfl) aj) (ah (iD (gO gJ aO.at hr (by decide) (aC 5 rfl (Or.inl rfl) rfl rfl) rfl) rfl)
  (aq (iD (cT gJ aW.at hr (by decide) (aC 5 rfl (Or.inl rfl) rfl rfl) (aa aj (aa (qv 6 rfl) ag rfl) rfl) rfl rfl rfl) rfl))) br)))) (fun _=>rfl))
  (gC 5 (ah (gp Yk (kH (bz B.b_len (aa (qv 3 rfl) ag rfl) rfl rfl rfl) (bz B.b_len (aa (qv 1 rfl) ag rfl) rfl rfl rfl))
  (ah (gP 3 (aa (cO (by decide +kernel) (by decide)) ag rfl) rfl rfl (Or.inl rfl) rfl rfl rfl rfl rfl)
  (aq (iD (gO gJ aO.at hr (by decide) (aC 4 rfl (Or.inl rfl) rfl rfl) rfl) rfl))))
  (gC 3 (ah (fJ Yk rfl (nO (jH (bz B.b_len (aa (qv 1 rfl) ag rfl) rfl rfl rfl) aj) qO qO rfl B.b_range rfl rfl rfl rfl) (bZ 9 fM.nd rfl (Or.inl rfl) (Or.inl rfl))
  (aq (iD (cT gJ aW.at hr (by decide) (aC 4 rfl (Or.inl rfl) rfl rfl) (aa (qv 9 rfl) (aa (d4 (aS (qv 1 rfl) (qv 9 rfl) (fun _ _=>rfl) rfl) (eA (bz B.b_len (aa (aS (qv 3 rfl) (qv 9 rfl) (fun _ _=>rfl) rfl) ag rfl) rfl rfl rfl)) d5 rfl) ag rfl) rfl) rfl rfl rfl) rfl)) (fun _=>rfl))
  (gC 4 (aq (bh (gD (bO (df _) hr (aa (qv 4 rfl) (aa (qv 1 rfl) ag rfl) rfl) (by decide) rfl rfl rfl rfl) (ig (bO (df _) hr (aa (qv 5 rfl) (aa (bE (aa (qv 6 rfl) ag rfl)) ag rfl) rfl) (by decide) rfl rfl rfl rfl)))))))))))))))))))
end
theorem all_mk {l:PySem.W.OpenLaw} {w:World} {K:X4} {h:Heap} {mg:Wz} {fa C D f0 f1 f2 f3 f4 f5 f6 f7 f8 f9 f10 f11 f12 f13 f14 f15 f16 f17 f18 f19 f20 f21 f22:Addr} (X:K.In h) (G:h.Ns mainGlobals mg) (hfa:mg "law" = some (.ref fa))
  {od0 an0 od1 an1 od2 an2 od3 an3 od4 an4 od5 an5 od6 an6 od7 an7 od8 an8 od9 an9 od10 an10 od11 an11 od12 an12 od13 an13 od14 an14 od15 an15 od16 an16 od17 an17 od18 an18 od19 an19 od20 an20 od21 an21 od22 an22:Option Addr} {sl0 sl1 sl2 sl3 sl4 sl5 sl6 sl7 sl8 sl9 sl10 sl11 sl12 sl13 sl14 sl15 sl16 sl17 sl18 sl19 sl20 sl21 sl22:Array (Ww)} {oc0 kV0 dc0 pm0 cd0 ct0 oc1 kV1 dc1 pm1 cd1 ct1 oc2 kV2 dc2 pm2 cd2 ct2 oc3 kV3 dc3 pm3 cd3 ct3 oc4 kV4 dc4 pm4 cd4 ct4 oc5 kV5 dc5 pm5 cd5 ct5 oc6 kV6 dc6 pm6 cd6 ct6 oc7 kV7 dc7 pm7 cd7 ct7 oc8 kV8 dc8 pm8 cd8 ct8 oc9 kV9 dc9 pm9 cd9 ct9 oc10 kV10 dc10 pm10 cd10 ct10 oc11 kV11 dc11 pm11 cd11 ct11 oc12 kV12 dc12 pm12 cd12 ct12 oc13 kV13 dc13 pm13 cd13 ct13 oc14 kV14 dc14 pm14 cd14 ct14 oc15 kV15 dc15 pm15 cd15 ct15 oc16 kV16 dc16 pm16 cd16 ct16 oc17 kV17 dc17 pm17 cd17 ct17 oc18 kV18 dc18 pm18 cd18 ct18 oc19 kV19 dc19 pm19 cd19 ct19 oc20 kV20 dc20 pm20 cd20 ct20 oc21 kV21 dc21 pm21 cd21 ct21 oc22 kV22 dc22 pm22 cd22 ct22:Value}
  (hlaw:∀ ns:Wu,rN [.scr ns]=some (.fr,.bl true))
  (a0:PySem.W.findIn K (.ref C) "new_node" = some (some (.ref f0))) (i0:PySem.W.isFn K (.ref f0)=true) (l0:K.lookup f0=some ⟨oc0,od0,.func (PySem.W.fnOf "new_node" "Nodes.new_node" (aB bW) (au bW) (af bW) .none kV0 dc0 pm0 an0 cd0 ct0),sl0⟩) (c0:PySem.W.codeIn K cd0 "Nodes.new_node" = true) (k0:PySem.W.keepIn K (.ref f0)=true)
  (a1:PySem.W.findIn K (.ref C) "__init__" = some (some (.ref f1))) (i1:PySem.W.isFn K (.ref f1)=true) (l1:K.lookup f1=some ⟨oc1,od1,.func (PySem.W.fnOf "__init__" "Nodes.__init__" (aB bU) (au bU) (af bU) .none kV1 dc1 pm1 an1 cd1 ct1),sl1⟩) (c1:PySem.W.codeIn K cd1 "Nodes.__init__" = true) (k1:PySem.W.keepIn K (.ref f1)=true)
  (a2:PySem.W.findIn K (.ref C) "node_just_behind" = some (some (.ref f2))) (i2:PySem.W.isFn K (.ref f2)=true) (l2:K.lookup f2=some ⟨oc2,od2,.func (PySem.W.fnOf "node_just_behind" "Nodes.node_just_behind" (aB aX) (au aX) (af aX) .none kV2 dc2 pm2 an2 cd2 ct2),sl2⟩) (c2:PySem.W.codeIn K cd2 "Nodes.node_just_behind" = true) (k2:PySem.W.keepIn K (.ref f2)=true)
  (a3:PySem.W.findIn K (.ref C) "head_behind" = some (some (.ref f3))) (i3:PySem.W.isFn K (.ref f3)=true) (l3:K.lookup f3=some ⟨oc3,od3,.func (PySem.W.fnOf "head_behind" "Nodes.head_behind" (aB bA) (au bA) (af bA) .none kV3 dc3 pm3 an3 cd3 ct3),sl3⟩) (c3:PySem.W.codeIn K cd3 "Nodes.head_behind" = true) (k3:PySem.W.keepIn K (.ref f3)=true)
  (a4:PySem.W.findIn K (.ref C) "head_grown" = some (some (.ref f4))) (i4:PySem.W.isFn K (.ref f4)=true) (l4:K.lookup f4=some ⟨oc4,od4,.func (PySem.W.fnOf "head_grown" "Nodes.head_grown" (aB bG) (au bG) (af bG) .none kV4 dc4 pm4 an4 cd4 ct4),sl4⟩) (c4:PySem.W.codeIn K cd4 "Nodes.head_grown" = true) (k4:PySem.W.keepIn K (.ref f4)=true)
  (a5:PySem.W.findIn K (.ref C) "numbers_by_node" = some (some (.ref f5))) (i5:PySem.W.isFn K (.ref f5)=true) (l5:K.lookup f5=some ⟨oc5,od5,.func (PySem.W.fnOf "numbers_by_node" "Nodes.numbers_by_node" (aB aZ) (au aZ) (af aZ) .none kV5 dc5 pm5 an5 cd5 ct5),sl5⟩) (c5:PySem.W.codeIn K cd5 "Nodes.numbers_by_node" = true) (k5:PySem.W.keepIn K (.ref f5)=true)
  (a6:PySem.W.findIn K (.ref C) "row_of" = some (some (.ref f6))) (i6:PySem.W.isFn K (.ref f6)=true) (l6:K.lookup f6=some ⟨oc6,od6,.func (PySem.W.fnOf "row_of" "Nodes.row_of" (aB cF) (au cF) (af cF) .none kV6 dc6 pm6 an6 cd6 ct6),sl6⟩) (c6:PySem.W.codeIn K cd6 "Nodes.row_of" = true) (k6:PySem.W.keepIn K (.ref f6)=true)
  (a7:PySem.W.findIn K (.ref C) "table" = some (some (.ref f7))) (i7:PySem.W.isFn K (.ref f7)=true) (l7:K.lookup f7=some ⟨oc7,od7,.func (PySem.W.fnOf "table" "Nodes.table" (aB cV) (au cV) (af cV) .none kV7 dc7 pm7 an7 cd7 ct7),sl7⟩) (c7:PySem.W.codeIn K cd7 "Nodes.table" = true) (k7:PySem.W.keepIn K (.ref f7)=true)
  (a8:PySem.W.findIn K (.ref D) "begin" = some (some (.ref f8))) (i8:PySem.W.isFn K (.ref f8)=true) (l8:K.lookup f8=some ⟨oc8,od8,.func (PySem.W.fnOf "begin" "Machine.begin" (aB cu) (au cu) (af cu) .none kV8 dc8 pm8 an8 cd8 ct8),sl8⟩) (c8:PySem.W.codeIn K cd8 "Machine.begin" = true) (k8:PySem.W.keepIn K (.ref f8)=true)
  (a9:PySem.W.nsIn K mainGlobals "is_whole" = some (some (.ref f9))) (l9:K.lookup f9=some ⟨oc9,od9,.func (PySem.W.fnOf "is_whole" "is_whole" (aB eB) (au eB) (af eB) .none kV9 dc9 pm9 an9 cd9 ct9),sl9⟩) (c9:PySem.W.codeIn K cd9 "is_whole" = true) (k9:PySem.W.keepIn K (.ref f9)=true)
  (a10:PySem.W.nsIn K mainGlobals "refuse_no_text" = some (some (.ref f10))) (l10:K.lookup f10=some ⟨oc10,od10,.func (PySem.W.fnOf "refuse_no_text" "refuse_no_text" (aB bV) (au bV) (af bV) .none kV10 dc10 pm10 an10 cd10 ct10),sl10⟩) (c10:PySem.W.codeIn K cd10 "refuse_no_text" = true) (k10:PySem.W.keepIn K (.ref f10)=true)
  (a11:PySem.W.nsIn K mainGlobals "signs_in" = some (some (.ref f11))) (l11:K.lookup f11=some ⟨oc11,od11,.func (PySem.W.fnOf "signs_in" "signs_in" (aB eK) (au eK) (af eK) .none kV11 dc11 pm11 an11 cd11 ct11),sl11⟩) (c11:PySem.W.codeIn K cd11 "signs_in" = true) (k11:PySem.W.keepIn K (.ref f11)=true)
  (a12:PySem.W.findIn K (.ref D) "grow" = some (some (.ref f12))) (i12:PySem.W.isFn K (.ref f12)=true) (l12:K.lookup f12=some ⟨oc12,od12,.func (PySem.W.fnOf "grow" "Machine.grow" (aB cI) (au cI) (af cI) .none kV12 dc12 pm12 an12 cd12 ct12),sl12⟩) (c12:PySem.W.codeIn K cd12 "Machine.grow" = true) (k12:PySem.W.keepIn K (.ref f12)=true)
  {T13:Addr} {ob13:Obj} {nn13:Nat}
  (a13:PySem.W.findIn K (.ref D) "__init__" = some (some (.ref f13))) (i13:PySem.W.isFn K (.ref f13)=true) (l13:K.lookup f13=some ⟨oc13,od13,.func (PySem.W.fnOf "__init__" "Machine.__init__" (aB b6) (au b6) (af b6) (.ref T13) kV13 dc13 pm13 an13 cd13 ct13),sl13⟩) (c13:PySem.W.codeIn K cd13 "Machine.__init__" = true) (k13:PySem.W.keepIn K (.ref f13)=true) (t13:K.lookup T13=some ob13) (u13:ob13.data=.seq #[.none] nn13)
  (a14:PySem.W.findIn K (.ref D) "book" = some (some (.ref f14))) (i14:PySem.W.isFn K (.ref f14)=true) (l14:K.lookup f14=some ⟨oc14,od14,.func (PySem.W.fnOf "book" "Machine.book" (aB cH) (au cH) (af cH) .none kV14 dc14 pm14 an14 cd14 ct14),sl14⟩) (c14:PySem.W.codeIn K cd14 "Machine.book" = true) (k14:PySem.W.keepIn K (.ref f14)=true)
  (a15:PySem.W.findIn K (.ref D) "table" = some (some (.ref f15))) (i15:PySem.W.isFn K (.ref f15)=true) (l15:K.lookup f15=some ⟨oc15,od15,.func (PySem.W.fnOf "table" "Machine.table" (aB cw) (au cw) (af cw) .none kV15 dc15 pm15 an15 cd15 ct15),sl15⟩) (c15:PySem.W.codeIn K cd15 "Machine.table" = true) (k15:PySem.W.keepIn K (.ref f15)=true)
  (a16:PySem.W.nsIn K mainGlobals "_law_cell_at" = some (some (.ref f16))) (l16:K.lookup f16=some ⟨oc16,od16,.func (PySem.W.fnOf "_law_cell_at" "_law_cell_at" (aB cW) (au cW) (af cW) .none kV16 dc16 pm16 an16 cd16 ct16),sl16⟩) (c16:PySem.W.codeIn K cd16 "_law_cell_at" = true) (k16:PySem.W.keepIn K (.ref f16)=true)
  (a17:PySem.W.nsIn K mainGlobals "_law_mixed" = some (some (.ref f17))) (l17:K.lookup f17=some ⟨oc17,od17,.func (PySem.W.fnOf "_law_mixed" "_law_mixed" (aB dM) (au dM) (af dM) .none kV17 dc17 pm17 an17 cd17 ct17),sl17⟩) (c17:PySem.W.codeIn K cd17 "_law_mixed" = true) (k17:PySem.W.keepIn K (.ref f17)=true)
  (a18:PySem.W.nsIn K mainGlobals "_law_text" = some (some (.ref f18))) (l18:K.lookup f18=some ⟨oc18,od18,.func (PySem.W.fnOf "_law_text" "_law_text" (aB d6) (au d6) (af d6) .none kV18 dc18 pm18 an18 cd18 ct18),sl18⟩) (c18:PySem.W.codeIn K cd18 "_law_text" = true) (k18:PySem.W.keepIn K (.ref f18)=true)
  (a19:PySem.W.nsIn K mainGlobals "_law_book" = some (some (.ref f19))) (l19:K.lookup f19=some ⟨oc19,od19,.func (PySem.W.fnOf "_law_book" "_law_book" (aB eI) (au eI) (af eI) .none kV19 dc19 pm19 an19 cd19 ct19),sl19⟩) (c19:PySem.W.codeIn K cd19 "_law_book" = true) (k19:PySem.W.keepIn K (.ref f19)=true)
  (a20:PySem.W.nsIn K mainGlobals "_law_deed" = some (some (.ref f20))) (l20:K.lookup f20=some ⟨oc20,od20,.func (PySem.W.fnOf "_law_deed" "_law_deed" (aB ed) (au ed) (af ed) .none kV20 dc20 pm20 an20 cd20 ct20),sl20⟩) (c20:PySem.W.codeIn K cd20 "_law_deed" = true) (k20:PySem.W.keepIn K (.ref f20)=true)
  (a21:PySem.W.nsIn K mainGlobals "_law_same" = some (some (.ref f21))) (l21:K.lookup f21=some ⟨oc21,od21,.func (PySem.W.fnOf "_law_same" "_law_same" (aB d7) (au d7) (af d7) .none kV21 dc21 pm21 an21 cd21 ct21),sl21⟩) (c21:PySem.W.codeIn K cd21 "_law_same" = true) (k21:PySem.W.keepIn K (.ref f21)=true)
  (a22:PySem.W.nsIn K mainGlobals "law" = some (some (.ref f22))) (l22:K.lookup f22=some ⟨oc22,od22,.func (PySem.W.fnOf "law" "law" (aB jm) (au jm) (af jm) .none kV22 dc22 pm22 an22 cd22 ct22),sl22⟩) (c22:PySem.W.codeIn K cd22 "law" = true) (k22:PySem.W.keepIn K (.ref f22)=true)
  (z_bool:PySem.W.nsIn K mainGlobals "bool" = some none)
  (z_dict:PySem.W.nsIn K mainGlobals "dict" = some none)
  (z_int:PySem.W.nsIn K mainGlobals "int" = some none)
  (z_isinstance:PySem.W.nsIn K mainGlobals "isinstance" = some none)
  (z_len:PySem.W.nsIn K mainGlobals "len" = some none)
  (z_list:PySem.W.nsIn K mainGlobals "list" = some none)
  (z_max:PySem.W.nsIn K mainGlobals "max" = some none)
  (z_min:PySem.W.nsIn K mainGlobals "min" = some none)
  (z_range:PySem.W.nsIn K mainGlobals "range" = some none)
  (z_sorted:PySem.W.nsIn K mainGlobals "sorted" = some none)
  (z_sum:PySem.W.nsIn K mainGlobals "sum" = some none)
  (z_tuple:PySem.W.nsIn K mainGlobals "tuple" = some none)
  {t_MOST_SIGNS:Tok} (y_MOST_SIGNS:PySem.W.nsIn K mainGlobals "MOST_SIGNS" = some (some (.int 120 t_MOST_SIGNS)))
  {t_MOST_TEXTS:Tok} (y_MOST_TEXTS:PySem.W.nsIn K mainGlobals "MOST_TEXTS" = some (some (.int 8 t_MOST_TEXTS)))
  (w_Nodes:PySem.W.nsIn K mainGlobals "Nodes" = some (some (.ref C))) (pg_Nodes:PySem.W.plainGet K C Str.empty=true) (hd_Nodes:PySem.W.hasDictIn K C=true) (po_Nodes:PySem.W.plainOver K C=true) (sa_Nodes:PySem.W.findIn K (.ref C) "__setattr__" = some (some (.builtin "object.__setattr__"))) (mk_Nodes:PySem.W.makesIn K C=true) (kc_Nodes:PySem.W.keepIn K (.ref C)=true) (n_longs_Nodes:PySem.W.findIn K (.ref C) "longs" = some none) (n_links_Nodes:PySem.W.findIn K (.ref C) "links" = some none) (n_ways_Nodes:PySem.W.findIn K (.ref C) "ways" = some none) (n_texts_Nodes:PySem.W.findIn K (.ref C) "texts" = some none) (n_heads_Nodes:PySem.W.findIn K (.ref C) "heads" = some none) (n_nodes_Nodes:PySem.W.findIn K (.ref C) "nodes" = some none)
  (w_Machine:PySem.W.nsIn K mainGlobals "Machine" = some (some (.ref D))) (pg_Machine:PySem.W.plainGet K D Str.empty=true) (hd_Machine:PySem.W.hasDictIn K D=true) (po_Machine:PySem.W.plainOver K D=true) (sa_Machine:PySem.W.findIn K (.ref D) "__setattr__" = some (some (.builtin "object.__setattr__"))) (mk_Machine:PySem.W.makesIn K D=true) (kc_Machine:PySem.W.keepIn K (.ref D)=true) (n_longs_Machine:PySem.W.findIn K (.ref D) "longs" = some none) (n_links_Machine:PySem.W.findIn K (.ref D) "links" = some none) (n_ways_Machine:PySem.W.findIn K (.ref D) "ways" = some none) (n_texts_Machine:PySem.W.findIn K (.ref D) "texts" = some none) (n_heads_Machine:PySem.W.findIn K (.ref D) "heads" = some none) (n_nodes_Machine:PySem.W.findIn K (.ref D) "nodes" = some none)
  : ∃ fd:FuncData,(∀ (s:Shared) (v:Value),BindsTo s fd ⟨[v],[]⟩ [("_law_script",v)])/\∀ base:Heap,K.In base->base.Ns mainGlobals mg->FnOk l.prog w K mg base CX0 9 fa fd ["_law_script"] (spF (gx0 K) yE):=by
 have e:=hfa.symm.trans (Yx X G a22)
 cases e
 have B:Blt mg:=⟨ZD X G z_bool,ZD X G z_dict,ZD X G z_int,ZD X G z_isinstance,ZD X G z_len,ZD X G z_list,ZD X G z_max,ZD X G z_min,ZD X G z_range,ZD X G z_sorted,ZD X G z_sum,ZD X G z_tuple,⟨_,Yx X G y_MOST_SIGNS⟩,⟨_,Yx X G y_MOST_TEXTS⟩⟩
 have O:ObF K mg C D:=⟨⟨pg_Nodes,hd_Nodes,po_Nodes,sa_Nodes⟩,Yx X G w_Nodes,n_longs_Nodes,n_links_Nodes,n_ways_Nodes,n_texts_Nodes,n_heads_Nodes,n_nodes_Nodes,⟨pg_Machine,hd_Machine,po_Machine,sa_Machine⟩,Yx X G w_Machine,n_longs_Machine,n_links_Machine,n_ways_Machine,n_texts_Machine,n_heads_Machine,n_nodes_Machine⟩
 refine ⟨PySem.W.fnOf "law" "law" (aB jm) (au jm) (af jm) .none kV22 dc22 pm22 an22 cd22 ct22,fun s v=>.of_eq rfl,fun base _ _=>?_⟩
 have aP:=aP (P:=l.prog) (w:=w) (base:=base) (cp (st:=bW) l0 c0 k0) ⟨a0,i0,k0⟩ B O
 have cJ:=cJ (P:=l.prog) (w:=w) (base:=base) (cp (st:=bU) l1 c1 k1) ⟨mk_Nodes,a1,i1,kc_Nodes⟩ B O aP
 have aY:=aY (P:=l.prog) (w:=w) (base:=base) (cp (st:=aX) l2 c2 k2) ⟨a2,i2,k2⟩ B O aP
 have bM:=bM (P:=l.prog) (w:=w) (base:=base) (cp (st:=bA) l3 c3 k3) ⟨a3,i3,k3⟩ B O aP aY
 have bX:=bX (P:=l.prog) (w:=w) (base:=base) (cp (st:=bG) l4 c4 k4) ⟨a4,i4,k4⟩ B O bM
 have bu:=fun m=>bu (m:=m) (P:=l.prog) (w:=w) (base:=base) (cp (st:=aZ) l5 c5 k5) ⟨a5,i5,k5⟩ B O
 have dh:=fun m=>dh (m:=m) (P:=l.prog) (w:=w) (base:=base) (cp (st:=cF) l6 c6 k6) ⟨a6,i6,k6⟩ B O
 have dC:=fun m=>dC (m:=m) (P:=l.prog) (w:=w) (base:=base) (cp (st:=cV) l7 c7 k7) ⟨a7,i7,k7⟩ B O bu dh
 have aO:=aO (P:=l.prog) (w:=w) (base:=base) (cp (st:=cu) l8 c8 k8) ⟨a8,i8,k8⟩ B O
 have fR:=fun m=>fR (m:=m) (P:=l.prog) (w:=w) (base:=base) (cp (st:=eB) l9 c9 k9) (Yx X G a9) B O
 have cG:=fun m=>cG (m:=m) (P:=l.prog) (w:=w) (base:=base) (cp (st:=bV) l10 c10 k10) (Yx X G a10) B O fR
 have fO:=fun m=>fO (m:=m) (P:=l.prog) (w:=w) (base:=base) (cp (st:=eK) l11 c11 k11) (Yx X G a11) B O
 have aW:=aW (P:=l.prog) (w:=w) (base:=base) (cp (st:=cI) l12 c12 k12) ⟨a12,i12,k12⟩ B O bX cG fO
 have aL:=aL (P:=l.prog) (w:=w) (base:=base) ⟨⟨_,_,_,_,_,_,_,_,_,_,_,_,rfl,l13,c13,t13,u13⟩,k13⟩ ⟨mk_Machine,a13,i13,kc_Machine⟩ B O aO aW cJ
 have di:=fun m=>di (m:=m) (P:=l.prog) (w:=w) (base:=base) (cp (st:=cH) l14 c14 k14) ⟨a14,i14,k14⟩ B O
 have bj:=fun m=>bj (m:=m) (P:=l.prog) (w:=w) (base:=base) (cp (st:=cw) l15 c15 k15) ⟨a15,i15,k15⟩ B O dC
 have aR:=fun m=>aR (m:=m) (P:=l.prog) (w:=w) (base:=base) (cp (st:=cW) l16 c16 k16) (Yx X G a16) B O
 have eW:=fun m=>eW (m:=m) (P:=l.prog) (w:=w) (base:=base) (cp (st:=dM) l17 c17 k17) (Yx X G a17) B O
 have fS:=fun m=>fS (m:=m) (P:=l.prog) (w:=w) (base:=base) (cp (st:=d6) l18 c18 k18) (Yx X G a18) B O aR eW
 have gj:=fun m=>gj (m:=m) (P:=l.prog) (w:=w) (base:=base) (cp (st:=eI) l19 c19 k19) (Yx X G a19) B O aR fS
 have fW:=fun m=>fW (m:=m) (P:=l.prog) (w:=w) (base:=base) (cp (st:=ed) l20 c20 k20) (Yx X G a20) B O aO aW
 have df:=fun m=>df (m:=m) (P:=l.prog) (w:=w) (base:=base) (cp (st:=d7) l21 c21 k21) (Yx X G a21) B O aL di bj
 exact wI rfl (Bl (m:=fun _=>none) (cp (st:=jm) l22 c22 k22) B O aL aO aW bj gj aR fW df) hlaw
end T07
open PySem PySem.W PyProof.Rows PySem.W.X PySem.W.ZRun
set_option maxRecDepth 100000 in
set_option maxHeartbeats 0 in
theorem PySem.Challenge.cw_allparts_k07_grown_in_any_weaving_holds : PySem.Challenge.rw_allparts_k07_grown_in_any_weaving.Holds := by
 w_on;o_law;z_head;(case hw=>w_witness2)
 k_fill
 intro w s₀ s₁ mg mb G y fa o pm cd doc dV kV ho hd hcd hD hmg hg args vals as L hpre hlay hrd hwl hlo
 z_open y L KX ZH ZN ZT
 clear ZH ZN ZT
 refine VS.ua (l:=PySem.Challenge.rw_allparts_k07_grown_in_any_weaving) (k:=9) (x := "_law_script") (g:=VS.yE) rfl rfl ⟨rfl,by decide,by decide⟩ (fun _=>rfl) ?F w s₀ s₁ mg mb G KX fa o pm cd doc dV kV ho hd hcd hD hmg hg args vals as hpre hlay hrd hwl hlo
 case F =>
  intro w mg fa h KX G hmg
  refine' T07.all_mk KX G hmg T07.wA ?a0 ?i0 ?l0 ?c0 ?k0 ?a1 ?i1 ?l1 ?c1 ?k1 ?a2 ?i2 ?l2 ?c2 ?k2 ?a3 ?i3 ?l3 ?c3 ?k3 ?a4 ?i4 ?l4 ?c4 ?k4 ?a5 ?i5 ?l5 ?c5 ?k5 ?a6 ?i6 ?l6 ?c6 ?k6 ?a7 ?i7 ?l7 ?c7 ?k7 ?a8 ?i8 ?l8 ?c8 ?k8 ?a9 ?l9 ?c9 ?k9 ?a10 ?l10 ?c10 ?k10 ?a11 ?l11 ?c11 ?k11 ?a12 ?i12 ?l12 ?c12 ?k12 ?a13 ?i13 ?l13 ?c13 ?k13 ?t13 ?u13 ?a14 ?i14 ?l14 ?c14 ?k14 ?a15 ?i15 ?l15 ?c15 ?k15 ?a16 ?l16 ?c16 ?k16 ?a17 ?l17 ?c17 ?k17 ?a18 ?l18 ?c18 ?k18 ?a19 ?l19 ?c19 ?k19 ?a20 ?l20 ?c20 ?k20 ?a21 ?l21 ?c21 ?k21 ?a22 ?l22 ?c22 ?k22 ?z_bool ?z_dict ?z_int ?z_isinstance ?z_len ?z_list ?z_max ?z_min ?z_range ?z_sorted ?z_sum ?z_tuple ?y_MOST_SIGNS ?y_MOST_TEXTS ?w_Nodes ?pg_Nodes ?hd_Nodes ?po_Nodes ?sa_Nodes ?mk_Nodes ?kc_Nodes ?n_longs_Nodes ?n_links_Nodes ?n_ways_Nodes ?n_texts_Nodes ?n_heads_Nodes ?n_nodes_Nodes ?w_Machine ?pg_Machine ?hd_Machine ?po_Machine ?sa_Machine ?mk_Machine ?kc_Machine ?n_longs_Machine ?n_links_Machine ?n_ways_Machine ?n_texts_Machine ?n_heads_Machine ?n_nodes_Machine
  (case w_Nodes=>k_is)
  (case w_Machine=>k_is)
  (case a0=>k_is)
  (case i0=>k_is)
  (case l0=>k_is)
  (case c0=>k_is)
  (case k0=>k_is)
  (case a1=>k_is)
  (case i1=>k_is)
  (case l1=>k_is)
  (case c1=>k_is)
  (case k1=>k_is)
  (case a2=>k_is)
  (case i2=>k_is)
  (case l2=>k_is)
  (case c2=>k_is)
  (case k2=>k_is)
  (case a3=>k_is)
  (case i3=>k_is)
  (case l3=>k_is)
  (case c3=>k_is)
  (case k3=>k_is)
  (case a4=>k_is)
  (case i4=>k_is)
  (case l4=>k_is)
  (case c4=>k_is)
  (case k4=>k_is)
  (case a5=>k_is)
  (case i5=>k_is)
  (case l5=>k_is)
  (case c5=>k_is)
  (case k5=>k_is)
  (case a6=>k_is)
  (case i6=>k_is)
  (case l6=>k_is)
  (case c6=>k_is)
  (case k6=>k_is)
  (case a7=>k_is)
  (case i7=>k_is)
  (case l7=>k_is)
  (case c7=>k_is)
  (case k7=>k_is)
  (case a8=>k_is)
  (case i8=>k_is)
  (case l8=>k_is)
  (case c8=>k_is)
  (case k8=>k_is)
  (case a9=>k_is)
  (case l9=>k_is)
  (case c9=>k_is)
  (case k9=>k_is)
  (case a10=>k_is)
  (case l10=>k_is)
  (case c10=>k_is)
  (case k10=>k_is)
  (case a11=>k_is)
  (case l11=>k_is)
  (case c11=>k_is)
  (case k11=>k_is)
  (case a12=>k_is)
  (case i12=>k_is)
  (case l12=>k_is)
  (case c12=>k_is)
  (case k12=>k_is)
  (case a13=>k_is)
  (case i13=>k_is)
  (case l13=>k_is)
  (case c13=>k_is)
  (case k13=>k_is)
  (case t13=>k_is)
  (case u13=>first | k_is | exact rfl)
  (case a14=>k_is)
  (case i14=>k_is)
  (case l14=>k_is)
  (case c14=>k_is)
  (case k14=>k_is)
  (case a15=>k_is)
  (case i15=>k_is)
  (case l15=>k_is)
  (case c15=>k_is)
  (case k15=>k_is)
  (case a16=>k_is)
  (case l16=>k_is)
  (case c16=>k_is)
  (case k16=>k_is)
  (case a17=>k_is)
  (case l17=>k_is)
  (case c17=>k_is)
  (case k17=>k_is)
  (case a18=>k_is)
  (case l18=>k_is)
  (case c18=>k_is)
  (case k18=>k_is)
  (case a19=>k_is)
  (case l19=>k_is)
  (case c19=>k_is)
  (case k19=>k_is)
  (case a20=>k_is)
  (case l20=>k_is)
  (case c20=>k_is)
  (case k20=>k_is)
  (case a21=>k_is)
  (case l21=>k_is)
  (case c21=>k_is)
  (case k21=>k_is)
  (case a22=>k_is)
  (case l22=>k_is)
  (case c22=>k_is)
  (case k22=>k_is)
  (case z_bool=>k_is)
  (case z_dict=>k_is)
  (case z_int=>k_is)
  (case z_isinstance=>k_is)
  (case z_len=>k_is)
  (case z_list=>k_is)
  (case z_max=>k_is)
  (case z_min=>k_is)
  (case z_range=>k_is)
  (case z_sorted=>k_is)
  (case z_sum=>k_is)
  (case z_tuple=>k_is)
  (case y_MOST_SIGNS=>k_is)
  (case y_MOST_TEXTS=>k_is)
  (case pg_Nodes=>k_is)
  (case hd_Nodes=>k_is)
  (case po_Nodes=>k_is)
  (case sa_Nodes=>k_is)
  (case mk_Nodes=>k_is)
  (case kc_Nodes=>k_is)
  (case n_longs_Nodes=>k_is)
  (case n_links_Nodes=>k_is)
  (case n_ways_Nodes=>k_is)
  (case n_texts_Nodes=>k_is)
  (case n_heads_Nodes=>k_is)
  (case n_nodes_Nodes=>k_is)
  (case pg_Machine=>k_is)
  (case hd_Machine=>k_is)
  (case po_Machine=>k_is)
  (case sa_Machine=>k_is)
  (case mk_Machine=>k_is)
  (case kc_Machine=>k_is)
  (case n_longs_Machine=>k_is)
  (case n_links_Machine=>k_is)
  (case n_ways_Machine=>k_is)
  (case n_texts_Machine=>k_is)
  (case n_heads_Machine=>k_is)
  (case n_nodes_Machine=>k_is)
end
